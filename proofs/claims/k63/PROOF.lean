import PyProof.Rows.All
import Wide.All
import OpenK.AllK
import Wide.FinOn
import Lean
import PyProof.EqAt
import PyProof.EqKinds
import PyProof.TupleCall
import PyProof.CompMap
import PyProof.NeKinds
import PyProof.ExcBaseAll.ValueError
import PyProof.ExcClass3
import OpenK.KOwn
import PyProof.Rows.FStr
import KE.KTryMore
import PyProof.ExcAttrAll.ValueError
import KE.KDictList
import PyProof.Draws
import PyProof.ListRange
import PyProof.ZipIter
import PyProof.EnumMake
import PyProof.CollectIter
import PyProof.SetRoads
import PyProof.Rows.SortShell
import PyProof.Rows.SortWalk
import Wide.Seal
import PyProof.Rows.StrJoin2
import PyProof.StrBlock2
import PyProof.Rows.SortStr
import PyProof.StrLawsIdx
import PyProof.StrBlockI
import PyProof.StrLoop
import PyProof.StrWalks
import KE.KIntText
import PyProof.ReprStr
import PyProof.ExcInit
import PyProof.InstStoreFacts
import KE.KEqDict
import KE.KStrOpen
import PyProof.Rows.StrDouble
import KE.KxText
import PySem.Challenge.RW_figuretell_k63_atoms_made
open PySem.W renaming Frag->Yc,findIn->Yf,keepIn->Yk,fnOf->Ym,kia_one->Ys,emptyDict->Yt,codeIn->Yy,instObj->yA,kitOne->yL,callWith_K->yP,isFn->yU,tabObj->yb,plainGet->yh,kla_obj->yp,OpenLaw->yq,plainGet_of->yu,lookIn->yw,methodObj->XI,hasDictIn->XJ,codeHdIn->XQ,envX->XR,takerIn->XY,makesIn->XZ,cellsFrom_some->Xb,methodCall_KW->Xd,mg_of->Xk,codeHd_of_K->Xr,nsIn->xA,plainOver->xC,kitx_list->xD,kitx_dict->xE,handedIn->xK,kdl_call->xM,kla_fn->xW,WalkO->xf
open PySem.Value renaming ref->Yd,int->Yl,none->Yq,str->yF,bool->yk,type->ym,isInt->XB,isInt_shape->xB,float->xJ,isStrOf->xZ,builtin->xb,bytes->GS
open PySem.F renaming plainAttrs_list->Ye,slot_list_append->Yg,type_list_append->Yh,slot_dict_keyiterator_iter->Yw,plainAttrs_dict->yC,plain_max_loop->yD,slot_dict_keyiterator_next->yE,slot_dict_get->yG,slot_tuple_iterator_next->yH,slot_list_extend->yN,type_list_extend->yO,args_tuple_add_2->yV,args_dict_keyiterator_iter_1->yX,entry_dict_keyiterator_iter->yZ,slot_dict_itemiterator_iter->ya,entry_tuple_add->yc,slot_tuple_add->yf,entry_dict_get->yg,slot_list_pop->yi,type_list_pop->yj,args_dict_keyiterator_next_1->yo,slot_zip_next->yr,entry_dict_keyiterator_next->yt,args_tuple_iterator_next_1->yx,slot_dict_setdefault->yy,entry_tuple_iterator_next->XE,entry_max_loop->XN,args_dict_get_3->XT,slot_dict_items->XU,plainAttrs_str->Xc,slot_dict_pop->Xe,type_dict_get->Xf,slot_enumerate_next->Xg,args_list_extend_2->Xi,entry_list_extend->Xo,slot_dict_setitem->Xs,slot_list_extend->Xy,slot_tuple_hash->xF,plain_list_iadd->xH,args_zip_next_1->xI,slot_dict_iter->xN,entry_zip_next->xO,plain_set_new->xS,slot_set_iter->xT,slot_dict_len->xU
open PySem.Heap.SameBut renaming update->Yi,extBut->Xq,refl->Gv
open PySem.Heap renaming SameBut->Yj,ExtBut->XC,IsTuple->XO,IsRevIter->Xj,IsList->GU
open PySem renaming mem_of_lookup->Yn,strKind->Yr,Within->Xv,call->xQ
open PySem.Builtin.SmallTypes renaming nextOf->Yo,ownedTupleIsFree->Yv,ownedTupleHandOut->yW
open PyProof.Rows renaming callWith_type1->Yp,slot_tuple_getitem->Yz,step_dedup->ye,callWith_builtin1->xP,join_ones->GX,kmb_tree->Ga,mul_int->Gf
open PySem.Calls renaming spliced_cons->Yu,callWith_builtin->Yx,spliced_nil->yI,evalArgs_plain->yK,Name_function_global->XG,call_function_entry->XM,call_len_list->Xl
open PySem.Builtin.List renaming listTooLong->yB,listExtendWith->XF,listSameRef->XS,listLengthHint->xY,listTouch->GW
open PySem.Builtin.Slice renaming slicePlaces->yJ,sliceAdjust->yS,sliceApplied->XH,slicePartIndex->xV,sliceFields->xt
open PySem.Builtin.Tuple renaming tupleExact->yM,tupleItemsOf->yR,tupleHashOf->yT,tupleIsExact->xa
open PySem.SeqAt renaming EqAt->yQ
open PySem.Value.type renaming inj->yY
open PyProof.Rows.F renaming plain_set_update_loop->yd,entry_set_update_loop->XX
open PySem.SeqAt.EqAt renaming same->yn,none_int->Xm,int_none->Xn,int_str->Xt,str_int->Xu,int_int->Xw,str_str->Xx,of_refs->Xz,none_bool->Gb,bool_none->Gd,bool_bool->Ge,none_str->Gg,bool_int->Gh,bool_str->Gi,int_bool->Gj,str_none->Gk,str_bool->Gm
open PySem.Builtin.Dict_items renaming ownsTuple->XA
open PySem.Builtin.Builtins renaming bindParams->XD
open PySem.Builtin.Dict renaming updateFrom->XW,showsAll->Xh,dictSlotNone->xu,pendingCount->xv,addKeywords->GL,selfAndRest->GN,notOrdered->GR,pairItems->GV,missed->Gn
open PyProof renaming noPylong_small->Xa
open PySem.Builtin.Int renaming intBits->Xp
open PySem.SeqAt.RcAt renaming tuples->xG
open PySem.Heap.DictOf renaming new->xR
open PySem.Builtin.Frozenset renaming updateFrom->xX,newClass->xc,sizeOf->GO,slot0->GQ
open PySem.EqNone renaming eq_none_none->xg,eq_none_bool->xh,eq_bool_none->xi,ne_none_none->xn,ne_none_bool->xo,ne_bool_none->xp,eq_none_int->xw,eq_none_str->xx,eq_int_none->GA,eq_str_none->GC,ne_none_int->GF,ne_none_str->GG,ne_int_none->GH,ne_str_none->GJ
open PySem.EqMixed renaming eq_bool_str->xj,eq_str_bool->xm,ne_bool_str->xq,ne_str_bool->xr,eq_int_str->GB,eq_str_int->GD,ne_int_str->GI,ne_str_int->GK
open PySem.Builtin.Range renaming rangeSize->GP
open PySem.W.KOpn renaming upper_app->GY,upper_one->GZ
open PySem.SeqAt.RcNeAt renaming tuples->Gp
open PySem.W.KeqHits renaming hit->Gq
open PySem.W.Looks renaming here->Gr
open PySem.Heap.IsSliceOf renaming new->Gs
open PySem.Within renaming cons->Gu
open PySem.Builtin.Str renaming glued->Gw
open PySem.IsL renaming update->Gx
open PySem.Heap.DictOfH renaming new->Gy
open PySem.Value.ref renaming inj->Gz
open PySem renaming Addr->Qp,Arguments->Qr,BindsTo->Qs,CmpOp->Qt,DictEntry->Qu,ElemsOf->Qv,Env->Qw,FuncData->Qx,GenState->Qz,IsPair->qB,IsPart->qC,IsTupleKey->qE,IsZip->qF,Keyword->qG,NameKind->qH,Paired->qI,PassesOwn->qJ,PlainAttrs->qK,Program->qL,Sem->qM,SetTable->qN,Shared->qO,assignEach->qS,behindInMarks->qT,beq_builtin_none->qU,bootBuiltins->qV,builtinLookup_eq_fast->qW,call_meets->qX,call_meetsIn->qY,codeAny_builtin->qZ,codeAny_mono->qd,codeAny_of_tree->qe,compareOp->qf,concat_meets->qg,entryFor_alias->qh,entryFor_of_tree->qj,fits_of_scanBound->qp,intKind->qu,isSubtype_stop->qv,mainGlobals->qw,noFill_tuple_add->qx,plainId_quiet->qy,post_val_or_str->qz,seqIndex_of->WB,seq_tuple_add->WC,sizeLine_eq->WD,starEach->WE,strKind_is->WG,swapsWith->WI,sysModules->WJ,tupleKind->WL,tupleKind_room_in1->WM,typeIs_str->WN,typeLookup_type->WO,wpAny_Assign_Subscript->WQ,wpAny_Call_Name_kw->WR,wpAny_Call_method->WS,wpAny_Name->WT,wpAny_askSetting->WU,wpAny_assign_Name->WV,wpAny_attempt->WW,wpAny_bind->WX,wpAny_call->WY,wpAny_callSpecial?_slot->WZ,wpAny_call_entry->Wa,wpAny_comprehension_free->Wb,wpAny_dictEntries->Wc,wpAny_dictEpoch->Wd,wpAny_dictSet_heap->We,wpAny_dictSet_pairs->Wf,wpAny_eqBool_int->Wg,wpAny_execs_cons->Wh,wpAny_execs_nil->Wi,wpAny_field->Wj,wpAny_fieldsOf->Wk,wpAny_getItem_str_slice->Wl,wpAny_handled->Wm,wpAny_holding->Wn,wpAny_isInstance->Wo,wpAny_isOneOf_keyiter->Wq,wpAny_isTrue_Compare1->Wr,wpAny_letGo->Ws,wpAny_load->Wt,wpAny_mono->Wu,wpAny_newFunctionEnv->Wv,wpAny_newObj_type->Ww,wpAny_notOrdered_dict->Wx,wpAny_of_eq->Wy,wpAny_onRaise->Wz,wpAny_passesOwn->YA,wpAny_pure->YB,wpAny_pyHash_int->YC,wpAny_pyIter_enum->YD,wpAny_pyIter_list->YE,wpAny_pyIter_revIter->YF,wpAny_pyIter_slot->YG,wpAny_pyIter_tuple->YH,wpAny_pyIter_zip->YI,wpAny_ret_mkInt->YJ,wpAny_rule->YK,wpAny_seqItems->YL,wpAny_sequenceKey->YM,wpAny_setField->YN,wpAny_setField_rec->YO,wpAny_setState_of->YQ,wpAny_specialOf->YR,wpAny_standAt->YS,wpAny_storeSet_of->YT,wpAny_throw->YU,wpAny_truthy_bool->YV,wpAny_tryCatch->YW,wpAny_typeNameOfWhole_keyiter->YX,wpAny_typeNameOf_keyiter->YY,wpAny_typeOf->YZ,wpAny_updateSeq->Ya,wpAny_updateSeq_pair->Yb
open PyProof.Rows renaming AllBare->Qq,IntsAre->qA,IsTup->qD,StrsAre->qP,Subscript_->qQ,args_tuple_getitem->qR,floordiv_int->qq,subscriptTail_builtinR->WH
open List renaming mem_cons_self->jA,getElem?_eq_getElem->jC,map_append->jD,mem_cons_of_mem->jF,length_append->jH,mem_singleton->jI,mem_map->jK,mem_cons->jL,getElem_mem->jO,size_toArray->jP,getD_eq_getElem?_getD->jQ,getElem?_map->jR,take_add_one->jS,length_take->jT,take_length->jV,length_map->jW,length_cons->jX,length_range->jd,length_singleton->je,range->jg,append_nil->jh,getElem_of_mem->ji,getElem?_eq_some_iff->jk,nodup_cons->jm,mem_append_right->jo,append_assoc->jr,mem_range->js,map_cons->jt,lookup_cons->ju,mem_filter->jv,idxOf_lt_length_of_mem->jx,getElem?_append_left->JA,drop_eq_getElem_cons->JB,foldl_append->JC,getElem?_append_right->JD,getElem?_eq_none->JE,filter_cons_of_neg->JG,mem_append_left->JH,mem_iff_getElem?->JJ,not_mem_nil->JK,filter_cons_of_pos->JL,nodup_append->JM,range_succ->JN,foldl_cons->JO,map_map->JQ,length_filter_le->JR,mem_of_getElem?->JT,filter_append->JX,getElem_inj->JY,getElem_map->Jf,nodup_nil->Jg,getLast?_cons_cons->Jj,mem_flatMap->Jm,lookup->Jn,length_nil->Jq,drop_eq_nil_iff->Jt,length_drop->Jw,set_set->Jy,any_eq_true->Jz,map_congr_left->zB,mem_append->zC,find?_cons->zE,pairwise_cons->zG,getElem_idxOf->zH,length->zI,drop_eq_nil_of_le->zJ,pairwise_map->zM,length_eraseIdx_of_lt->zP,of_mem_zip->zQ,forIn_cons->zR,length_eq_zero_iff->zV,getElem_take->zX,idxOf_append->zY,getElem?_set_self->zZ,take_of_length_le->zb,length_pos_of_mem->ze,any_cons->zf,ext_getElem->zh,take_append_drop->zj,getElem?_set_ne->zo,filterMap_cons->zw,getElem?_range->zx,flatMap_append->zy,dropLast_concat_getLast->ZA,forIn_nil->ZC,take_zero->ZD,not_lt->ZF,lookup_append->ZG,getElem_range->ZH,exists_cons_of_ne_nil->ZJ,take_sublist->ZM,filter_congr->ZO,flatMap_cons->ZP,getElem?_zip_eq_some->ZQ,pairwise_iff_getElem->ZR,cons_append->ZU,drop_length->ZV,length_erase_of_mem->ZW,length_set->Zc,nil_append->Zd,pairwise_lt_range->Zf,find?_cons_of_neg->Zg,length_dropLast->Zk,dropLast_concat->Zm,mem_erase_of_ne->Zn,mem_of_mem_take->Zo,filter_eq_self->Zr,mem_filterMap->Zu,map_nil->Zw,map_id'->Zz,zipIdx_append->QD,ext_getElem?->QI,map_id->QK,filter_cons->QN,zipIdx_cons->QO,zipIdx_nil->QP,filter_nil->QT,idxOf_cons->QU,drop_zero->QY,all_cons->QZ,getD->Qo
open PySem.Heap renaming get?_push_of_some->jB,get?_push_size->jJ,lt_size->jM,size_push->jn,get?_update_self->jz,get?_update_other->JI,get?_push_cases->zt,push->Qm
open Nat renaming le_refl->jE,ne_of_lt->jU,lt_of_lt_of_le->jY,zero_le->jb,le_trans->jc,lt_succ_self->JP,le_of_lt->JS,le_succ->JV,lt_irrefl->JZ,lt_or_ge->Jb,zero_add->Jc,lt_of_le_of_lt->Jo,lt_succ_of_lt->Js,ne_of_gt->Jv,le_of_not_lt->Jx,eq_zero_or_pos->zD,not_lt_zero->zF,sub_self->zO,lt_trans->zT,pow_succ->zU,lt_of_succ_lt_succ->zc,pow_le_pow_right->zu,lt_two_pow_self->Zs,pow_le_pow_left->Zt,le_of_eq->Zv,pos_of_ne_zero->Zx,add_sub_cancel->QB,sub_zero->QC,mod_lt->QR,mod_add_div->QW,add_assoc->Qb,add_zero->Qc
open Int renaming toNat_natCast->jG,toNat_of_nonneg->jf,le_refl->JF,le_of_lt->Ja,zero_add->Je,emod_eq_of_lt->Ji,mul_nonneg->Jl,lt_of_le_of_lt->Jp,add_mul_emod_self_left->Jr,mul_le_mul->Ju,pow_succ->zA,mul_add->zK,ediv_eq_zero_of_lt->zL,le_trans->zN,ediv_nonneg->zS,dvd_of_emod_eq_zero->zW,add_mul_ediv_left->zk,mul_le_mul_of_nonneg_left->zv,add_nonneg->ZE,fdiv_eq_ediv_of_nonneg->ZI,mul_assoc->ZK,zero_ediv->ZL,ediv_one->ZT,add_zero->ZX,mul_zero->ZY,mul_ediv_cancel_left->ZZ,sub_zero->Za,ediv_ediv_of_nonneg->Zb,mul_eq_zero->Ze,add_mul->Zh,emod_add_mul_ediv->Zj,add_assoc->Zp,zero_emod->Zq,emod_lt_of_pos->QA,mul_comm->QE,sub_eq_add_neg->QF,lt_of_lt_of_le->QG,dvd_mul_right->QJ,pow_pos->QL,emod_nonneg->QS,natCast_add->QV,natCast_mul->QX,zero_mul->Qe,add_comm->Qf,emod_one->Qg,pow_zero->Qh,mul_one->Qi,one_mul->Qk
open Bool renaming false_ne_true->jZ,false_eq_true->JW,and_eq_true->Jk,eq_iff_iff->zp,and_false->Zi,not_true->Qa
open Array renaming length_toList->jq,getElem?_eq_getElem->jy,getElem?_toList->JU,getElem?_eq_none->zd,toList->ZS,toArray_toList->Zl,forIn_toList->Zy,toList_push->QH,getD->QQ
open Option renaming map_eq_some_iff->Jd,isSome_iff_exists->Jh,getD_some->zg,map_some->zq,isSome_map->ZN,getD_none->QM,none->Qj,map->Ql
local macro_rules|`(tactic|exists $es,*)=>`(tactic|refine ⟨$es,*, ?_⟩)
set_option Elab.async false
set_option linter.all false
namespace L2
variable{t0 t1 t2 t3 t4 t5 t6 t7:Type}
inductive E2 (p:t0->t1->Prop):Prop
 | mk (x0:t0) (x1:t1) (h:p x0 x1):E2 p
inductive E3 (p:t0->t1->t2->Prop):Prop
 | mk (x0:t0) (x1:t1) (x2:t2) (h:p x0 x1 x2):E3 p
inductive E4 (p:t0->t1->t2->t3->Prop):Prop
 | mk (x0:t0) (x1:t1) (x2:t2) (x3:t3) (h:p x0 x1 x2 x3):E4 p
inductive E5 (p:t0->t1->t2->t3->t4->Prop):Prop
 | mk (x0:t0) (x1:t1) (x2:t2) (x3:t3) (x4:t4) (h:p x0 x1 x2 x3 x4):E5 p
inductive E6 (p:t0->t1->t2->t3->t4->t5->Prop):Prop
 | mk (x0:t0) (x1:t1) (x2:t2) (x3:t3) (x4:t4) (x5:t5) (h:p x0 x1 x2 x3 x4 x5):E6 p
inductive E7 (p:t0->t1->t2->t3->t4->t5->t6->Prop):Prop
 | mk (x0:t0) (x1:t1) (x2:t2) (x3:t3) (x4:t4) (x5:t5) (x6:t6) (h:p x0 x1 x2 x3 x4 x5 x6):E7 p
inductive E8 (p:t0->t1->t2->t3->t4->t5->t6->t7->Prop):Prop
 | mk (x0:t0) (x1:t1) (x2:t2) (x3:t3) (x4:t4) (x5:t5) (x6:t6) (x7:t7) (h:p x0 x1 x2 x3 x4 x5 x6 x7):E8 p
inductive E9 {t8:Type} (p:t0->t1->t2->t3->t4->t5->t6->t7->t8->Prop):Prop
 | mk (x0:t0) (x1:t1) (x2:t2) (x3:t3) (x4:t4) (x5:t5) (x6:t6) (x7:t7) (x8:t8) (h:p x0 x1 x2 x3 x4 x5 x6 x7 x8):E9 p
inductive E10 {t8 t9:Type} (p:t0->t1->t2->t3->t4->t5->t6->t7->t8->t9->Prop):Prop
 | mk (x0:t0) (x1:t1) (x2:t2) (x3:t3) (x4:t4) (x5:t5) (x6:t6) (x7:t7) (x8:t8) (x9:t9) (h:p x0 x1 x2 x3 x4 x5 x6 x7 x8 x9):E10 p
inductive A3 (p0 p1 p2:Prop):Prop
 | mk (_:p0) (_:p1) (_:p2):A3 p0 p1 p2
inductive A4 (p0 p1 p2 p3:Prop):Prop
 | mk (_:p0) (_:p1) (_:p2) (_:p3):A4 p0 p1 p2 p3
inductive A5 (p0 p1 p2 p3 p4:Prop):Prop
 | mk (_:p0) (_:p1) (_:p2) (_:p3) (_:p4):A5 p0 p1 p2 p3 p4
inductive A6 (p0 p1 p2 p3 p4 p5:Prop):Prop
 | mk (_:p0) (_:p1) (_:p2) (_:p3) (_:p4) (_:p5):A6 p0 p1 p2 p3 p4 p5
inductive A7 (p0 p1 p2 p3 p4 p5 p6:Prop):Prop
 | mk (_:p0) (_:p1) (_:p2) (_:p3) (_:p4) (_:p5) (_:p6):A7 p0 p1 p2 p3 p4 p5 p6
inductive A8 (p0 p1 p2 p3 p4 p5 p6 p7:Prop):Prop
 | mk (_:p0) (_:p1) (_:p2) (_:p3) (_:p4) (_:p5) (_:p6) (_:p7):A8 p0 p1 p2 p3 p4 p5 p6 p7
inductive A9 (p0 p1 p2 p3 p4 p5 p6 p7 p8:Prop):Prop
 | mk (_:p0) (_:p1) (_:p2) (_:p3) (_:p4) (_:p5) (_:p6) (_:p7) (_:p8):A9 p0 p1 p2 p3 p4 p5 p6 p7 p8
inductive A10 (p0 p1 p2 p3 p4 p5 p6 p7 p8 p9:Prop):Prop
 | mk (_:p0) (_:p1) (_:p2) (_:p3) (_:p4) (_:p5) (_:p6) (_:p7) (_:p8) (_:p9):A10 p0 p1 p2 p3 p4 p5 p6 p7 p8 p9
inductive A11 (p0 p1 p2 p3 p4 p5 p6 p7 p8 p9 p10:Prop):Prop
 | mk (_:p0) (_:p1) (_:p2) (_:p3) (_:p4) (_:p5) (_:p6) (_:p7) (_:p8) (_:p9) (_:p10):A11 p0 p1 p2 p3 p4 p5 p6 p7 p8 p9 p10
end L2
def ai8:Nat->Lean.Syntax->List Lean.Syntax
 | 0,b=>[b]
 | n+1,b=>if b.getKind==.mkSimple "term_\u2227_" || b.getKind==.mkSimple "term_/\\_" then b[0]::ai8 n b[2]else [b]
def ant(k:Lean.Syntax):List (Lean.Syntax×Lean.Syntax):=
 if k.getKind==`Lean.unbracketedExplicitBinders then k[0].getArgs.toList.map λi=>(i,k[1][1])
 else k.getArgs.toList.flatMap λb=>b[1].getArgs.toList.map λi=>(i,b[3])
open Lean in
local macro_rules
 | `(∃ $xs:explicitBinders,$b) => do
  let bs:=ant xs.raw[0]
  let cs:=ai8 99 b
  if bs.length<=1&&cs.length<=2 then Macro.throwUnsupported
  let mut r <-if cs.length<=2 then pure b else do
   let as:Array Term:=cs.toArray.map λc=>⟨c⟩
   `($(mkIdent (`L2 ++ Name.mkSimple s!"A{cs.length}")) $as*)
  for (i,t) in bs.reverse do
   let i:Term:=⟨i[0]⟩
   let t:Term:=⟨t⟩
   r <- if t.raw.isMissing then `(λ$i => $r)else `(λ($i : $t) => $r)
  if bs.length == 1 then `(Exists $r)else `($(mkIdent (`L2 ++ Name.mkSimple s!"E{bs.length}")) $r)
set_option compiler.extract_closed false
local macro_rules|`(tactic|lia)=>`(tactic|first|lia(splits:=9)|omega(splitNatSub:=true))
local macro_rules|`(tactic|show $e)=>`(tactic|refine $e)
open Lean Parser.Term in
local macro_rules|`(tactic|let $p:term := $e)=>do
 let q<-p.raw.rewriteBottomUpM λs=>do
  if s.isIdent then return <- `(rcasesPat|$(⟨s⟩):ident)
  if s.getKind==``hole then return <- `(rcasesPat|_)
  if s.getKind==``anonymousCtor then
   let a:TSyntaxArray `rcasesPat:=⟨s[1].getSepArgs.toList.map (⟨·⟩)⟩
   return <- `(rcasesPat|⟨$[$a:rcasesPat],*⟩)
  return s
 `(tactic|obtain $(⟨q⟩):rcasesPat := $e)
theorem gn(t:α):∃x,t=x:=⟨t,rfl⟩
set_option maxRecDepth 100000
set_option hygiene false in
local macro_rules
|`(tactic|exists 0)=>`(tactic|try dsimp only[bH,Cx.eY,Cx.bE])
|`(tactic|exists 1)=>`(tactic|try dsimp only[aJ,aZ,List.set])
|`(tactic|exists 2)=>`(tactic|intro o3 s σ H Q I h)
|`(tactic|exists 3)=>`(tactic|show⟨λi m σ H=>m=xs.length-i/\i<=xs.length/\f i σ H,⟨xs.length,by simp,jb _,X⟩,?_⟩)
|`(tactic|exists 4)=>`(tactic|intro X y j g L i o3 s σ H E I V st m)
|`(tactic|exists 5)=>`(tactic|intro o3 s σ H x y v u Q I D c h)
|`(tactic|exists 6)=>`(tactic|(show⟨o,e,λv z=>by rw[d]at z;cases z⟩))
|`(tactic|exists 7)=>`(tactic|let⟨t,rfl⟩:=D)
|`(tactic|exists 8)=>`(tactic|have e:b=T.heap.objs.size:=by simpa using B)
|`(tactic|exists 9)=>`(tactic|rw[show aP.toArray.any (V3 x)=aP.any (V3 x) by simp,C8 r fs])
|`(tactic|exists 10)=>`(tactic|show .inr ⟨⟨xs,xs[i],q,by simp[d]⟩,λx J y=>?_⟩)
|`(tactic|exists 11)=>`(tactic|first|show WX (YX ty (YB ?_))|show WX (YY ty (YB ?_)))
|`(tactic|exists 12)=>`(tactic|rintro i m O H' ⟨rfl,W,A,ys,G,p⟩)
|`(tactic|exists 13)=>`(tactic|let⟨T,D,Q,q,S,G⟩:=V it (by simp))
|`(tactic|exists 14)=>`(tactic|have e:i=xs.length:=by lia)
|`(tactic|exists 15)=>`(tactic|have M:kvs.length=n.length:=Paired.length f)
|`(tactic|exists 16)=>`(tactic|have C:b=2\/b=3\/b=4:=by lia)
|`(tactic|exists 17)=>`(tactic|intro o3 s σ H D I h)
|`(tactic|exists 18)=>`(tactic|show P.IL (jE _) (P.hok.fresh (jE _)))
|`(tactic|exists 19)=>`(tactic|(rcases C with rfl|rfl|rfl<;>lia))
|`(tactic|exists 20)=>`(tactic|intro o3 s σ H xs us Q I r h)
|`(tactic|exists 21)=>`(tactic|let⟨u,rfl,D⟩:=vals1 r)
|`(tactic|exists 22)=>`(tactic|rintro i m σ H ⟨rfl,b,p⟩)
|`(tactic|exists 23)=>`(tactic|by_cases d:i<xs.length)
|`(tactic|exists 24)=>`(tactic|show WX (WX (WU (YB ?_))))
|`(tactic|exists 25)=>`(tactic|try dsimp only[aJ,aZ])
|`(tactic|exists 26)=>`(tactic|let⟨v,t,rfl,_⟩:=h)
|`(tactic|exists 27)=>`(tactic|rotate_left)
|`(tactic|exists 28)=>`(tactic|obtain rfl:u=Yd a:=D)
|`(tactic|exists 29)=>`(tactic|try dsimp only[aJ])
|`(tactic|exists 30)=>`(tactic|intro o3 s σ H R I h)
|`(tactic|exists 31)=>`(tactic|cases(show u=Yd a from D))
|`(tactic|exists 32)=>`(tactic|rcases A with z|⟨t,z⟩)
|`(tactic|exists 33)=>`(tactic|have M:=F.length)
|`(tactic|exists 34)=>`(tactic|show WX ?_)
set_option hygiene false in
local macro_rules
|`(#[0])=>`(by decide +kernel)
|`(#[1])=>`(by lia)
|`(#[2])=>`(λ_ _=>rfl)
|`(#[3])=>`(by intro z;cases z)
|`(#[4])=>`(model X.prog X.w)
|`(#[5])=>`(λcq A I s H n Q E S h=>?_)
|`(#[6])=>`((∀y R,R D=Z (.lst ys)->ys.length<sizeLine->f D (i+1) (ys++[y]) (upd R D (.lst (ys++[y])))->l y R))
|`(#[7])=>`(by simp)
|`(#[8])=>`(model prog w)
|`(#[9])=>`(by decide)
|`(#[10])=>`(k==NameKind.free&&env.scope.kind==.function&&env.kindOf n==Z .cell)
|`(#[11])=>`(λn H Q E h=>?_)
|`(#[12])=>`(ax ay (pv 0) ag #[2])
|`(#[13])=>`(qs.map λq=>(rows.getD q.toNat []).map (sM qs))
|`(#[14])=>`(by change 2<=sizeLine;decide)
|`(#[15])=>`(by change 0<=sizeLine;decide)
|`(#[16])=>`(s.heap.objs.size+1)
|`(#[17])=>`(bz (pv 0) rfl)
|`(#[18])=>`(λvs H Q E h=>?_)
|`(#[19])=>`(.ref s.heap.objs.size)
|`(#[20])=>`((∀O H',N O H'->∃L,L<m/\W (i+1) L O H'))
|`(#[21])=>`(((ie items.size 0 lo:Nat):Int)==0&&(1:Int)==1&&(ie items.size items.size W-ie items.size 0 lo)==items.size)
|`(#[22])=>`(by with_unfolding_all rfl)
|`(#[23])=>`(.ListComp elt [⟨tg,iter,ifs,0⟩] scope pos)
|`(#[24])=>`(s.heap.push {cls:=.type "tuple_iterator",data:=.fields #[.ref l,.int 0 0]})
|`(#[25])=>`(by rw[aW];lia)
|`(#[26])=>`(aa (pv 0) af)
|`(#[27])=>`(λD' cI=>?_)
|`(#[28])=>`(Obj.mapFields (·.setIfInBounds 1 (rawInt ((i:Int)+1))))
|`(#[29])=>`((false,eval e X.env))
|`(#[30])=>`(ax ay (pv 1) ag #[2])
|`(#[31])=>`(by rfl)
|`(#[32])=>`(.Call (.Name x p) (e::es) [] pos)
|`(#[33])=>`(aa (pv 1) af)
|`(#[34])=>`(backTo pos (WE es X.env))
|`(#[35])=>`(by change 3<=sizeLine;decide)
|`(#[36])=>`(x==("__debug__" : Str))
|`(#[37])=>`(model P w)
|`(#[38])=>`(Em.mk (aK I S (aa (pv 0) (aa ag (aa (pv 1) (aa ag af))))))
|`(#[39])=>`(λc=>?_)
set_option hygiene false in
local macro_rules
|`(#[40])=>`(W o3 s σ H _ I h)
|`(#[41])=>`((".0",.local))
|`(#[42])=>`(.tup xs)
|`(#[43])=>`(I.hok.fresh (jE _))
|`(#[44])=>`(.ref a)
|`(#[45])=>`((∀b o,s.heap.get? b=Z o->h'.get? b=Z o))
|`(#[46])=>`(oO X N scope fp s H C)
|`(#[47])=>`(ns.map V.int)
|`(#[48])=>`(if t=(m:Int)then bO (m+1) r else if t<(m:Int)then bO m r else Y)
|`(#[49])=>`(aa (pv 3) af)
|`(#[50])=>`(.ins C dx [("one",.ref o1),("other",.ref o2),("rule",.ref fn)])
|`(#[51])=>`((O=aU ix σ\/∃t,O=(aU ix σ).set 0 t))
|`(#[52])=>`(pickOrder (w.params.setOrder S ep) es)
|`(#[53])=>`(upd H D (.lst []))
|`(#[54])=>`(cn I q #[7])
|`(#[55])=>`(X.env.qual ++ "<lambda>")
|`(#[56])=>`(Qp×Obj)
|`(#[57])=>`(Ym x x (dP st) (cT st) (aq st) (.ref T) kV doc pm an cq ct)
|`(#[58])=>`(.dK kvs)
|`(#[59])=>`(λD B=>⟨ak B _,U⟩)
|`(#[60])=>`(List Key×Qp×Value)
|`(#[61])=>`(A.under (.builtin "type.__call__" ⟨.ref C::us,q⟩))
|`(#[62])=>`(rows.getD q.toNat [])
|`(#[63])=>`(fz.map V.ref)
|`(#[64])=>`(g∈ks\/ins.length<=(outF mem ins).length)
|`(#[65])=>`(envOfC qual scope s.heap.objs.size f cd)
|`(#[66])=>`(eB R zs l)
|`(#[67])=>`(aK bW hr (aa (ax ay (pv 3) ag #[2]) (aa (pv 5) af)))
|`(#[68])=>`(.ref f)
|`(#[69])=>`(λz=>nomatch z)
|`(#[70])=>`(λz=>by cases z)
|`(#[71])=>`(aU ix σ)
|`(#[72])=>`(.lst ys)
|`(#[73])=>`(by change 1<=sizeLine;decide)
|`(#[74])=>`(HO.lst [])
|`(#[75])=>`(aa (pv 2) af)
|`(#[76])=>`(EP X o3 σ Q)
|`(#[77])=>`(by rw[e];show True.intro)
|`(#[78])=>`(κ×Qp)
|`(#[79])=>`(by rw[aW,aW,jT];lia)
set_option hygiene false in
local macro_rules
|`(#[80])=>`(W pos o3 s σ H _ I h)
|`(#[81])=>`(.tup [.int p.1,.str p.2])
|`(#[82])=>`((ps.filter λp=>decide (p.2=x)).map (·.1))
|`(#[83])=>`(bB.map (·.2))
|`(#[84])=>`(aa #[12] af)
|`(#[85])=>`(List Key×V)
|`(#[86])=>`(I.map V.ref)
|`(#[87])=>`(.lst ((ir signs).map V.int))
|`(#[88])=>`(ax ay (pv 2) ag #[2])
|`(#[89])=>`(aa (pv 0) (aa ag af))
|`(#[90])=>`(.inl rfl)
|`(#[91])=>`(λw j=>AR D d r fs w (by simpa using j))
|`(#[92])=>`(aG cK (pv 1) ba (aL _))
|`(#[93])=>`(R o3 s σ H _ I h)
|`(#[94])=>`(.tup (zs.map V.str))
|`(#[95])=>`(aa (lS (v:=.ty "tuple") rfl I bJ rfl) af)
|`(#[96])=>`(.ext (sV f qual params body scope bB c'))
|`(#[97])=>`(ks.map (·.1))
|`(#[98])=>`((∀x c,X.env.cells.lookup x=Z c->c≠b))
|`(#[99])=>`(SetTable.grown r.size)
|`(#[100])=>`(.tup [.int i,x])
|`(#[101])=>`(ax (mS K) (pv 0) ag #[2])
|`(#[102])=>`(.ref l)
|`(#[103])=>`(.ref D)
|`(#[104])=>`((∃m,W 0 m σ H))
|`(#[105])=>`(lV (λu f o _=>AN L o) v _ (AM L) N)
|`(#[106])=>`(keywordEach [] X.env)
|`(#[107])=>`(cx (sA gs) gs.length)
|`(#[108])=>`(xs.map V.int++[V.int 0])
|`(#[109])=>`(setG gs ins (ds.length:Int))
|`(#[110])=>`(.int (bp rows (vJ b N i) 0))
|`(#[111])=>`(O o3 s σ H _ I h)
|`(#[112])=>`(YB ⟨_,rfl,YB h⟩)
|`(#[113])=>`(ax ay (pv 11) ag #[2])
|`(#[114])=>`(λD hD=>⟨ak hD _,U⟩)
|`(#[115])=>`(.ext (dk c o))
|`(#[116])=>`(by simp only[jP]<;>lia)
|`(#[117])=>`(I.ok.hd L)
|`(#[118])=>`(.ins C dx fs)
|`(#[119])=>`((iq t).map (·.1))
set_option hygiene false in
local macro_rules
|`(#[120])=>`(b^zs.length)
|`(#[121])=>`(.B2 o #[58])
|`(#[122])=>`(by change(0:Int)<3;decide)
|`(#[123])=>`(aK u S (aa #[12] #[33]))
|`(#[124])=>`(aa (pv 5) af)
|`(#[125])=>`(aa (pv 4) af)
|`(#[126])=>`(aH aM #[31] o bZ #[26])
|`(#[127])=>`(N.map (· / (b:Int)^i))
|`(#[128])=>`(K w.params)
|`(#[129])=>`(s1.trans s2)
|`(#[130])=>`(s.heap.push (fX w))
|`(#[131])=>`(s.heap.objs.size+3)
|`(#[132])=>`(s.heap.objs.size+2)
|`(#[133])=>`(.lst xs)
|`(#[134])=>`(λz=>L (by simp[z]))
|`(#[135])=>`(λq ls=>ls=dN col q)
|`(#[136])=>`(.ref m)
|`(#[137])=>`((Tc K C m).getD (0,0))
|`(#[138])=>`((n,NameKind.cell))
|`(#[139])=>`(Str×Value)
|`(#[140])=>`(Or.inl rfl)
|`(#[141])=>`((∀b∈fp,H' b=Y))
|`(#[142])=>`(eU φ rows 0 rows)
|`(#[143])=>`(Option.some.inj h)
|`(#[144])=>`(List K×Qp×Value)
|`(#[145])=>`(.tup [kV p.1,p.2])
|`(#[146])=>`(pk zs N l.2)
|`(#[147])=>`(by kernel_rfl)
|`(#[148])=>`(aa #[17] af)
|`(#[149])=>`(.ref it)
|`(#[150])=>`(.int (pw o t))
|`(#[151])=>`(stepI rows x f)
|`(#[152])=>`(ps.zip us)
|`(#[153])=>`(ir signs)
|`(#[154])=>`(by simpa using h)
|`(#[155])=>`(by simpa using M)
|`(#[156])=>`(Str×Qp)
|`(#[157])=>`(Key×V)
|`(#[158])=>`(.ref T)
|`(#[159])=>`(.builtin "len")
set_option hygiene false in
local macro_rules
|`(#[160])=>`(ds.map V.ref)
|`(#[161])=>`(by size_fits)
|`(#[162])=>`(My.sgn signs)
|`(#[163])=>`(.type "dict")
|`(#[164])=>`(.ref x)
|`(#[165])=>`(.builtin id)
|`(#[166])=>`(pyNext (.ref I))
|`(#[167])=>`(gs.take m)
|`(#[168])=>`(bL X.prog X.w)
|`(#[169])=>`(.type "tuple")
|`(#[170])=>`(vJ b N n)
|`(#[171])=>`(.lst [])
|`(#[172])=>`(ts.map Yd)
|`(#[173])=>`(λz=>?_)
|`(#[174])=>`(λ_=>?_)
|`(#[175])=>`(av.refl _)
|`(#[176])=>`(.int wide)
|`(#[177])=>`(r.map V.int)
|`(#[178])=>`(I.map V.int)
|`(#[179])=>`(.int 100000)
|`(#[180])=>`(.Name x pos)
|`(#[181])=>`(ik rows)
|`(#[182])=>`(.lst #[86])
|`(#[183])=>`(y3.map rg)
|`(#[184])=>`(qs.take i)
|`(#[185])=>`(ps.take j)
|`(#[186])=>`(jF _ jA)
|`(#[187])=>`(Int×Qp)
|`(#[188])=>`((b:Int)^n)
|`(#[189])=>`(.ref C)
def U{α:Sort _}{a:α}:a=a:=rfl
open Option renaming some->Z,none->Y
set_option maxRecDepth 100000
namespace L2
open PySem PySem.Spec PyProof.Rows
variable{us aP ds:List Value}{x name m qual:Str}{u cd:Value}{κ α:Type}{a b it dx C f:Qp}{P prog:qL}{w:World}{h h' base:Heap}{e c tg l iter:Expr}{ob:Obj}{o3 ajJ pl:List (Qp×Obj)}{s s':qO}{t' i j n:Nat}{ch fp:List Qp}{N ns:List Str}{A:Around}{E Q:Value->qO->Prop}{pos pos' p w4:Pos}{K:Yc}{st body:List Stmt}{es:List Expr}{lo:Int}{mA mg:Str->Option Value}{expr:Bool}{R:Result->qO->Prop}{env:Qw}{fd:Qx}{outer:List Qw}{sc scope:Scope}{params:Qr}{an od:Option Qp}{PZ:Array (Option Value)}
abbrev Key:=Sum Int Str
def FK:Key->Value->Bool
 |.inl k,v=>XB k v
 |.inr x,v=>xZ x v
def ate(w:World):Key->Int
 |.inl k=>hashInt k
 |.inr x=>hashStr w x
theorem cH:∀{k:Key} {v:Value},FK k v=true->(∃i t,k=Sum.inl i/\v=Yl i t)\/(∃x t,k=Sum.inr x/\v=yF x t)
 |.inl i,v,h=>by let⟨t,e⟩:=xB (k:=i) (v:=v) h;show .inl ⟨i,t,U,e⟩
 |.inr x,v,h=>by let⟨t,e⟩:=Value.isStrOf_shape (x:=x) (v:=v) h;show .inr ⟨x,t,U,e⟩
def acW(i:Int)(t:Tok):FK (.inl i) (.int i t)=true:=by simp[FK,XB]
def acX(x:Str)(t:Tok):FK (.inr x) (.str x t)=true:=by simp[FK,xZ]
def ak1(a b:Int):decide ((Sum.inl a:Key)=Sum.inl b)=(a==b):=by
 by_cases e:a=b
 ·subst e;simp
 ·have h:¬ (Sum.inl a:Key)=Sum.inl b:=λq=>e (Sum.inl.inj q);rw[decide_eq_false h];show(beq_eq_false_iff_ne.mpr e).symm
def ak4(a b:Str):decide ((Sum.inr a:Key)=Sum.inr b)=decide (a=b):=by
 by_cases e:a=b
 ·subst e;simp
 ·have h:¬ (Sum.inr a:Key)=Sum.inr b:=λq=>e (Sum.inr.inj q);rw[decide_eq_false h,decide_eq_false e]
def ak2(a:Int)(b:Str):decide ((Sum.inl a:Key)=Sum.inr b)=false:=decide_eq_false (λq=>nomatch q)
def ak3(a:Str)(b:Int):decide ((Sum.inr a:Key)=Sum.inl b)=false:=decide_eq_false (λq=>nomatch q)
def bL(prog:qL)(w:World):PySem.KeyKind prog w Key where
 is:=FK
 hash:=ate w
 inj:=λv a b ha hb=>by
  rcases cH ha with⟨i,t,rfl,rfl⟩|⟨x,t,rfl,rfl⟩
  ·rcases cH hb with⟨j,u,rfl,e⟩|⟨y,u,rfl,e⟩
   ·injection e with e1 _;rw[e1]
   ·show nomatch e
  ·rcases cH hb with⟨j,u,rfl,e⟩|⟨y,u,rfl,e⟩
   ·show nomatch e
   ·injection e with e1 _;rw[e1]
 byValue:=λk v h=>by rcases cH h with⟨i,t,rfl,rfl⟩|⟨x,t,rfl,rfl⟩<;>rfl
 pyHash:=λhv h=>by
  rcases cH hv with⟨i,t,rfl,rfl⟩|⟨x,t,rfl,rfl⟩
  ·show YC h
  ·show wpAny_pyHash_str h
 eqBool:=λhu hv h=>by
  rcases cH hu with⟨i,t,rfl,rfl⟩|⟨x,t,rfl,rfl⟩
  ·rcases cH hv with⟨j,u,rfl,rfl⟩|⟨y,u,rfl,rfl⟩
   ·rw[ak1]at h;show Wg h
   ·rw[ak2]at h;show Xt i t y u _ _ _ _ h
  ·rcases cH hv with⟨j,u,rfl,rfl⟩|⟨y,u,rfl,rfl⟩
   ·rw[ak3]at h;show Xu x t j u _ _ _ _ h
   ·rw[ak4]at h;show wpAny_eqBool_str h
 «strs»:=λk x t v h=>by
  rcases cH h with⟨i,u,rfl,e⟩|⟨y,u,rfl,e⟩
  ·show nomatch e
  ·injection e with e1 _;subst e1;cases v<;>rfl
def R6(prog:qL)(w:World)(i:Int)(t:Tok):(bL prog w).is (.inl i) (.int i t)=true:=acW i t
def R7(prog:qL)(w:World)(x:Str)(t:Tok):(bL prog w).is (.inr x) (.str x t)=true:=acX x t
inductive V where
 |non|bl (b:Bool)|int (i:Int)|str (x:Str)|Tn (b:Array UInt8)|flt (b:UInt64)|ref (a:Qp)|ty (n:String)
 deriving DecidableEq
def RelV:V->Value->Prop
 |.non,u=>u=Yq
 |.bl b,u=>u=yk b
 |.int i,u=>∃t,u=Yl i t
 |.str x,u=>∃t,u=yF x t
 |.Tn b,u=>∃t,u=GS b t
 |.flt b,u=>∃t,u=xJ b t
 |.ref a,u=>u=Yd a
 |.ty n,u=>u=ym n
abbrev Vals:List V->List Value->Prop:=qI RelV
theorem Vals.length{xs:List V}(r:Vals xs us):xs.length=us.length:=Paired.length r
theorem Vals.get:∀{xs:List V} {us:List Value} {i:Nat} {x:V},Vals xs us->xs[i]?=Z x->∃u,us[i]?=Z u/\RelV x u
 |_,_,_,_,.nil,e=>by simp at e
 |_,_,0,_,.cons r _,e=>by simp at e;subst e;show⟨_,rfl,r⟩
 |_,_,i+1,x,.cons _ t,e=>by let⟨u,G,M⟩:=Vals.get (i:=i) (x:=x) t (by simpa using e);show⟨u,by simpa using G,M⟩
theorem Vals.set{x:V}(r:RelV x u):∀{xs:List V} {us:List Value} (i:Nat),Vals xs us->Vals (xs.set i x) (us.set i u)
 |_,_,_,.nil=>.nil
 |_,_,0,.cons _ t=>.cons r t
 |_,_,i+1,.cons q t=>.cons q (Vals.set r i t)
theorem Vals.append:∀{xs ys:List V} {us g:List Value},Vals xs us->Vals ys g->Vals (xs++ys) (us++g)
 |_,_,_,_,.nil,s=>s
 |_,_,_,_,.cons r t,s=>.cons r (Vals.append t s)
theorem Vals.take:∀{xs:List V} {us:List Value} (n:Nat),Vals xs us->Vals (xs.take n) (us.take n)
 |_,_,0,_=>.nil
 |_,_,_+1,.nil=>.nil
 |_,_,n+1,.cons r t=>.cons r (Vals.take n t)
theorem Vals.drop:∀{xs:List V} {us:List Value} (n:Nat),Vals xs us->Vals (xs.drop n) (us.drop n)
 |_,_,0,r=>r
 |_,_,_+1,.nil=>.nil
 |_,_,n+1,.cons _ t=>Vals.drop n t
def sW:Option V->Option Value->Prop
 |some v,Z u=>RelV v u
 |none,Y=>True
 |_,_=>False
def KV:List (κ×V)->List (κ×Value)->Prop:=qI λ(p:κ×V) (q:κ×Value)=>p.1=q.1/\RelV p.2 q.2
def kV:Key->V
 |.inl i=>.int i
 |.inr x=>.str x
inductive HO where
  |lst (xs:List V)
  |tup (xs:List V)
  |dK (kvs:List #[157])|dT (kvs:List #[85])
  |set (S:Int->Bool) (n:Nat)
  |ins (C dx:Qp) (fs:List (Str×V))
  |own (x:Qp)
  |xd (fs:List (Str×V))
  |met (f x:Qp)
  |rng (lo hi:Int)
  |B2 (o:Obj) (u:HO)
  |Fo (ps:Array Value)
  |ext (φ:Heap->Prop)
abbrev Hp:=Qp->Option HO
def upd(H:Hp)(a:Qp)(o:HO):Hp:=λb=>if b=a then Z o else H b
def ae{H:Hp}{o:HO}:upd H a o a=Z o:=by unfold upd;rw[if_pos rfl]
def aj{H:Hp}{o:HO}(h:b≠a):upd H a o b=H b:=by unfold upd;rw[if_neg h]
def abU{H:Hp}{o u:HO}:upd (upd H a o) a u=upd H a u:=by funext b;unfold upd;split<;>rfl
def aO{H:Hp}{o u:HO}(h:H a=Z o)(h':H b=Z u)(d:o≠u):a≠b:=by intro e;subst e;rw[h]at h';show d (Option.some.inj h')
def ar{H:Hp}{o:HO}(h:H a=Z o)(h':H b=Y):a≠b:=by intro e;subst e;rw[h]at h';cases h'
section
variable(P:qL)(w:World)
def bN(H:Hp)(h:Heap)(a:Qp):HO->Prop
 |.lst xs=>xs.length<=sizeLine/\∃(aP:List Value) (n:Nat),Vals xs aP/\h.get? a=Z {cls:=.type "list",data:=.seq aP.toArray n}
 |.tup xs=>xs.length<=sizeLine/\∃aP:List Value,Vals xs aP/\qD h a aP.toArray
 |.dK kvs=>kvs.length<=sizeLine/\(a==WJ)=false/\∃vs,KV kvs vs/\h.DictOf (bL P w) a vs
 |.dT kvs=>kvs.length<=sizeLine/\(a==WJ)=false/\∃xs:List #[60],
   qI (λ(p:List Key×V) (q:List Key×Qp×Value)=>p.1=q.1/\H q.2.1=Z (.tup (p.1.map kV))/\RelV p.2 q.2.2) kvs xs /\
   ∃o es ep,h.get? a=Z o/\o.ExactDict/\o.data=.dict es ep/\es.toList=xs.map (entryOfKey (WL (bL P w)))/\(xs.map (·.1)).Nodup
 |.set S n=>h.SetOf (qu P w) a S n
 |.ins C dx fs=>H dx=Z (.own a)/\fs.length<=1000/\dx≠a/\h.get? a=Z (yA C dx) /\
   ∃mA,h.Ns1 dx mA/\(∀f,sW (fs.lookup f) (mA f))/\Xv mA (fs.map (·.1))
 |.own _=>∃o,h.get? a=Z o
 |.xd fs=>∃mA,h.Ns1 a mA/\∀f,sW (fs.lookup f) (mA f)
 |.rng lo hi=>∃t u v,h.get? a=Z {cls:=.type "range",data:=.fields #[.int lo t,.int hi u,.int 1 v]}
 |.B2 o u=>h.get? a=Z o/\bN H h a u
 |.Fo ps=>h.get? a=Z {cls:=.none,data:=.fields ps}
 |.met f x=>h.get? a=Z (XI #[68] #[164])
 |.ext φ=>φ h/\(∃o,h.get? a=Z o)/\∀h1 h2:Heap,φ h1->(∀o,h1.get? a=Z o->h2.get? a=Z o)->φ h2
def pX(H:Hp)(h:Heap):Prop:=∀a o,H a=Z o->bN P w H h a o
end
section
variable{H H':Hp}{o:HO}
theorem bN.lt(x:bN P w H h a o):a<h.objs.size:=by
 cases o with
 |lst t=>let⟨_,_,_,_,e⟩:=x;show jM e
 |tup t=>let⟨_,_,_,p⟩:=x;show p.lt
 |dK B=>let⟨_,_,_,_,o,_,_,e,_⟩:=x;show jM e
 |dT B=>let⟨_,_,_,_,o,_,_,e,_⟩:=x;show jM e
 |set S n=>let⟨o,_,_,_,e,_⟩:=x;show jM e
 |ins C dx fs=>let⟨_,_,_,e,_⟩:=x;show jM e
 |own y=>let⟨_,e⟩:=x;show jM e
 |xd fs=>let⟨_,⟨_,_,_,e,_⟩,_⟩:=x;show jM e
 |rng lo W=>let⟨_,_,_,e⟩:=x;show jM e
 |B2 ob u=>let⟨e,_⟩:=x;show jM e
 |Fo ps=>show jM (show h.get? a=Z _ from x)
 |met f y=>show jM (show h.get? a=Z _ from x)
 |ext j=>let⟨_,⟨_,e⟩,_⟩:=x;show jM e
theorem Paired.EM{c:Type}{F G:α->c->Prop}:∀{l₁:List α} {l₂:List c},qI F l₁ l₂->(∀a b,F a b->G a b)->qI G l₁ l₂
 |_,_,.nil,_=>.nil
 |_,_,.cons r t,f=>.cons (f _ _ r) (Paired.EM t f)
def bN.Hj(x:bN P w H h a o)(k:∀b u,(b=a\/H b=Z (.own a))->h.get? b=Z u->h'.get? b=Z u)(O:∀b,H b=Z (.own a)->H' b=Z (.own a))(g:∀b xs,H b=Z #[42]->H' b=Z #[42]):bN P w H' h' a o:=by
 induction o with
 |lst xs=>let⟨z,aP,n,r,e⟩:=x;show⟨z,aP,n,r,k _ _ #[90] e⟩
 |tup xs=>let⟨z,aP,r,ob,e,c⟩:=x;show⟨z,aP,r,ob,k _ _ #[90] e,c⟩
 |dK B=>let⟨z,y,i,r,ob,es,T,e,c⟩:=x;show⟨z,y,i,r,ob,es,T,k _ _ #[90] e,c⟩
 |dT B=>
  let⟨z,y,xs,r,ob,es,T,e,c,j,l,m⟩:=x;show⟨z,y,xs,Paired.EM r λp q z=>⟨z.1,g _ _ z.2.1,z.2.2⟩,ob,es,T,k _ _ #[90] e,c,j,l,m⟩
 |set S n=>let⟨ob,es,T,t,e,c⟩:=x;show⟨ob,es,T,t,k _ _ #[90] e,c⟩
 |ins C dx fs=>
  let⟨d,z,s,e,mA,⟨od,es,T,A,c⟩,r,D⟩:=x;show⟨O _ d,z,s,k _ _ #[90] e,mA,⟨od,es,T,k _ _ (.inr d) A,c⟩,r,D⟩
 |own y=>let⟨ob,e⟩:=x;show⟨ob,k _ _ #[90] e⟩
 |xd fs=>let⟨mA,⟨od,es,T,e,c⟩,r⟩:=x;show⟨mA,⟨od,es,T,k _ _ #[90] e,c⟩,r⟩
 |rng lo W=>let⟨t,u,v,e⟩:=x;show⟨t,u,v,k _ _ #[90] e⟩
 |B2 ob u K=>let⟨e,q⟩:=x;show⟨k _ _ #[90] e,K q⟩
 |Fo ps=>
  have e:h.get? a=Z {cls:=.none,data:=.fields ps}:=x;change h'.get? a=Z {cls:=.none,data:=.fields ps};show k a _ #[90] e
 |met f y=>
  have e:h.get? a=Z (XI #[68] (.ref y)):=x;change h'.get? a=Z (XI #[68] (.ref y));show k a _ #[90] e
 |ext E=>let⟨p,⟨o,e⟩,st⟩:=x;show⟨st _ _ p λo q=>k _ _ #[90] q,⟨o,k _ _ #[90] e⟩,st⟩
theorem pX.lt(x:pX P w H h)(e:H a=Z o):a<h.objs.size:=(x a o e).lt
def pX.fresh(x:pX P w H h)(e:h.objs.size<=a):H a=Y:=by
 cases q:H a with
 |none=>rfl
 |some u=>show absurd (jY (x.lt q) e) (JZ _)
def pX.kept(x:pX P w H h)(k:∀b u,h.get? b=Z u->h'.get? b=Z u):pX P w H h':=λa o e=>
 (x a o e).Hj (λb u _ q=>k b u q) (λ_ q=>q) λ_ _ q=>q
def pX.laid(x:pX P w H h)(k:∀b u,h.get? b=Z u->h'.get? b=Z u)(D:h.objs.size<=a)(new:bN P w (upd H a o) h' a o):pX P w (upd H a o) h':=λb u e=>by
 have L:=x.fresh D;by_cases B:b=a
 ·subst B;rw[ae]at e;cases e;show new
 ·rw[aj B]at e;show(x b u e).Hj (λc v _ q=>k c v q) (λc q=>by rw[aj (ar q L)];show q) λc t q=>by rw[aj (ar q L)];show q
end
def Rd(H:Hp)(a:Qp)(u:HO):Prop:=H a=Z u\/∃o,H a=Z (.B2 o u)
def Rd.ok{H:Hp}{u:HO}(r:Rd H a u)(x:pX P w H h):bN P w H h a u:=by
 rcases r with r|⟨o,r⟩
 ·show x a u r
 ·let⟨_,q⟩:=x a _ r;show q
def Mut:Option HO->Prop
 |some (.lst _)=>True
 |some (.dK _)=>True
 |some (.dT _)=>True
 |some (.set _ _)=>True
 |some (.ins _ _ _)=>True
 |some (.ext _)=>True
 |_=>False
section
variable{H:Hp}{x e:Qp}{o':HO}
def pX.write(ok:pX P w H h)(d:Mut (H x))(R:e=x\/H e=Z (.own x))(k:∀b u,b≠e->h.get? b=Z u->h'.get? b=Z u)(f:∃u,h'.get? e=Z u)(new:bN P w (upd H x o') h' x o'):pX P w (upd H x o') h':=λb u q=>by
 have g:∀c y,H c=Z (.own y)->c≠x:=λc y r z=>by subst z;rw[r]at d;show d
 have i:∀c t,H c=Z (.tup t)->c≠x:=λc t r z=>by subst z;rw[r]at d;show d
 by_cases B:b=x
 ·subst B;rw[ae]at q;cases q;show new
 ·rw[aj B]at q;by_cases a:b=e
  ·have D:H b=Z (.own x):=by
    rcases R with z|z
    ·show absurd (a.trans z) B
    ·rw[a];show z
   rw[q]at D;cases D;let⟨v,N⟩:=f;show⟨v,by rw[a];show N⟩
  ·show(ok b u q).Hj (λc v L r=>k c v ?_ r) (λc r=>by rw[aj (g c b r)];show r) λc t r=>by rw[aj (i c t r)];show r
   rcases L with rfl|L
   ·show a
   ·rintro rfl;rcases R with z|z
    ·show g c b L z
    ·rw[L]at z;cases z;show B rfl
end
structure Un(fs ex:List Qp)(H H':Hp)(h h':Heap):Prop where
 keep:∀b o,h.get? b=Z o->H b=Y->b∉fs->b∉ex->h'.get? b=Z o
 slot:∀b o,h.get? b=Z o->H b=Y->b∈fs->b∉ex->∃sl,h'.get? b=Z {o with slots:=sl}
 free:∀b o,h.get? b=Z o->H b=Y->b∉ex->H' b=Y
 there:∀b o,h.get? b=Z o->b∉ex->∃o',h'.get? b=Z o'
 tups:∀b xs,H b=Z #[42]->H' b=Z #[42]
 frzs:∀b o u,H b=Z (.B2 o u)->H' b=Z (.B2 o u)
 tbls:∀b ps,H b=Z (.Fo ps)->∃more,H' b=Z (.Fo (ps++more))
section
variable{fs ex:List Qp}{H H1:Hp}{h1:Heap}{x e:Qp}{o:HO}
def Un.any(u:Un fs ex H H1 h h1)(q:h.get? b=Z ob)(n:H b=Y)(J:b∉ex):∃V,h1.get? b=Z {ob with slots:=V}:=by
 by_cases B:b∈fs
 ·show u.slot b ob q n B J
 ·show⟨ob.slots,u.keep b ob q n B J⟩
def Un.kept(k:∀b u,h.get? b=Z u->h'.get? b=Z u):Un fs ex H H h h':=
 ⟨λb ob q _ _ _=>k b ob q,λb ob q _ _ _=>⟨ob.slots,k b ob q⟩,λ_ _ _ n _=>n,λb ob q _=>⟨ob,k b ob q⟩,λ_ _ q=>q,λ_ _ _ q=>q,λ_ ps q=>⟨#[],by rw[q];simp⟩⟩
def Un.refl:Un fs ex H H h h:=Un.kept λ_ _ q=>q
theorem Un.laid(k:∀b u,h.get? b=Z u->h'.get? b=Z u)(D:h.objs.size<=a)(L:H a=Y):Un fs ex H (upd H a o) h h' where
 keep:=λb u q _ _ _=>k b u q
 slot:=λb u q _ _ _=>⟨u.slots,k b u q⟩
 free:=λb u q n _=>by rw[aj (jU (jY (jM q) D))];show n
 there:=λb u q _=>⟨u,k b u q⟩
 tups:=λb t q=>by rw[aj (ar q L)];show q
 frzs:=λb u t q=>by rw[aj (ar q L)];show q
 tbls:=λb ps q=>⟨#[],by rw[aj (ar q L),q];simp⟩
def Un.write(d:Mut (H x))(R:e=x\/H e=Z (.own x))(k:∀b u,b≠e->h.get? b=Z u->h'.get? b=Z u)(f:∃u,h'.get? e=Z u):Un fs ex H (upd H x o) h h':=by
 have J:∀b,H b=Y->b≠x:=λb n z=>by subst z;rw[n]at d;show d
 have B:∀b,H b=Y->b≠e:=λb n z=>by
  subst z;rcases R with r|r
  ·show J b n r
  ·rw[n]at r;cases r
 have N:∀b u,H b=Z u->¬ Mut (Z u)->b≠x:=λb u q w z=>by subst z;rw[q]at d;show w d
 show⟨λb u q n _ _=>k b u (B b n) q,λb u q n _ _=>⟨u.slots,k b u (B b n) q⟩,λb u q n _=>by rw[aj (J b n)];show n,λb u q _=>?_,
  λb t q=>by rw[aj (N b _ q λz=>z)];show q,λb u t q=>by rw[aj (N b _ q λz=>z)];show q,λb ps q=>⟨#[],by rw[aj (N b _ q λz=>z),q];simp⟩⟩
 by_cases a:b=e
 ·subst a;show f
 ·show⟨u,k b u a q⟩
end
def trk(h:Heap)(H:Hp):List Qp:=(jg h.objs.size).filter λa=>(H a).isSome
def Ma(h:Heap)(H:Hp):Heap:=PySem.W.hideAll h (trk h H)
def acO(h:Heap)(H:Hp):(Ma h H).objs.size=h.objs.size:=PySem.W.hideAll_size _ _
def aeF{H:Hp}{o:Obj}(e:h.get? b=Z o)(n:H b=Y):(Ma h H).get? b=Z o:=
 PySem.W.hideAll_get _ e λN=>by have q:(H b).isSome=true:=(jv.mp N).2;rw[n]at q;simp at q
def ah3{H:Hp}{o:Obj}(e:(Ma h H).get? b=Z o):h.get? b=Z o/\H b=Y:=by
 have E:h.get? b=Z o:=PySem.W.of_hideAll (trk h H) e;exists E;cases q:H b with
 |none=>rfl
 |some x=>
  have N:b∈trk h H:=jv.mpr ⟨js.mpr (jM E),by simp[q]⟩;have z:(Ma h H).get? b=Y:=PySem.W.hideAll_none (trk h H) N;rw[z]at e;cases e
def ahb(g h:Heap)(L:Qp):List #[56]:=(jg h.objs.size).filterMap λa=>if a=L\/(g.get? a).isSome=true then Y else(h.get? a).map λo=>(a,o)
def rest(g h:Heap)(L d:Qp):List #[56]:=(ahb g h L).filter λp=>decide (p.1≠d)
variable{xs vs sY:List V}{H H':Hp}{o o':HO}{v y:V}
structure Mod(K:Yc)(mg:Str->Option Value)(base:Heap):Prop where
 kin:K.In base
 glob:base.Ns qw mg
 blt:∃mb,base.Ns builtinsNs mb/\∀x:Str,x ≠ "__name__" -> mb x=qV x
 nolimit:base.NoLimit
structure Cx where
 prog:qL
 w:World
 K:Yc
 mg:Str->Option Value
 base:Heap
 A:Around
 N:List Str
 s₀:qO
 H₀:Hp
 env:Qw
 outer:List Qw
 stack:List Qw
 ex:List Qp
 fn:Str->Bool
 calm:Bool
 pn:List #[56]
 xe:Value->qO->Prop
def frs(l:List Qw):List Qp:=l.filterMap (·.frame)
abbrev Cx.fs(X:Cx):List Qp:=frs X.outer
def Vis(sc:Scope)(x:Str):Prop:=sc.names.lookup x=Z .local\/sc.names.lookup x=Z .cell\/sc.names.lookup x=Z .free
def Loc(sc:Scope)(x:Str):Prop:=sc.names.lookup x=Z .local\/sc.names.lookup x=Z .cell
def Look(env:Qw)(h:Heap)(m:Str->Option Value)(x:Str)(u:Value):Prop:=
 (env.kindOf x=Z .local/\m x=Z u)\/((env.kindOf x=Z .cell\/env.kindOf x=Z .free)/\∃c,env.cells.lookup x=Z c/\h.IsCell c (Z u))
structure Cx.Ok(X:Cx):Prop where
 mod:Mod X.K X.mg X.base
 kind:X.env.scope.kind=.function
 glob:X.env.globals=qw
 blt:X.env.builtins=builtinsNs
 above:X.s₀.heap.objs.size<=X.env.locals
 inj:∀x y c,X.env.cells.lookup x=Z c->X.env.cells.lookup y=Z c->x=y
 has:∀x,(X.env.kindOf x=Z .cell\/X.env.kindOf x=Z .free)->∃c,X.env.cells.lookup x=Z c
 cab:∀x c,X.fn x=true->X.env.cells.lookup x=Z c->X.s₀.heap.objs.size<=c
 hd:X.calm=true->X.A.handled=Y
 frames:X.A.frames=Z X.stack
 stk:X.stack=X.outer\/(X.stack=X.env::X.outer/\X.env.frame=Z X.env.locals)
 exf:∀b∈X.ex,b≠X.env.locals/\∀x c,X.env.cells.lookup x=Z c->c≠b
 bs:∀b o,X.base.get? b=Z o->X.s₀.heap.get? b=Z o/\X.H₀ b=Y
 bsz:X.base.objs.size<=X.s₀.heap.objs.size
 noex:∀b o,X.base.get? b=Z o->b∉X.ex
 exfs:∀b∈X.ex,b∉X.fs
 Cs:X.s₀.heap.FunFrames X.base X.outer
 frf:∀b∈X.fs,X.H₀ b=Y
structure Inv(X:Cx)(o3:List (Qp×Obj))(σ:List (Option V))(H:Hp)(s:qO):Prop where
 ok:X.Ok
 os:s.os=X.s₀.os
 bare:Qq s.gens
 base:Un X.fs X.ex X.H₀ H X.s₀.heap s.heap
 loc:∃m,s.heap.Ns X.env.locals m/\∀(i:Nat) (x:Str) (v:V),X.N[i]?=Z x->σ[i]?=Z (Z v)->Vis X.env.scope x->∃u,RelV v u/\Look X.env s.heap m x u
 cell:∀x c,X.env.cells.lookup x=Z c->∃v,s.heap.IsCell c v
 free:H X.env.locals=Y
 freeC:∀x c,X.env.cells.lookup x=Z c->H c=Y
 pin:∀p∈X.pn++o3,s.heap.get? p.1=Z p.2/\H p.1=Y/\p.1≠X.env.locals/\p.1∉X.fs/\∀v,p.2.data≠.cell v
 hok:pX X.prog X.w H s.heap
 len:σ.length=X.N.length
section
variable{X:Cx}{σ:List (Option V)}
def Cx.Ok.atP(ok:X.Ok){o:Obj}(e:X.base.get? b=Z o):b∉X.fs:=λB=>by have:=(ok.Cs.mem B).1;rw[e]at this;cases this
theorem Inv.bs(I:Inv X o3 σ H s):∀b o,X.base.get? b=Z o->s.heap.get? b=Z o/\H b=Y:=λb o e=>
 ⟨I.base.keep b o (I.ok.bs b o e).1 (I.ok.bs b o e).2 (I.ok.atP e) (I.ok.noex b o e),I.base.free b o (I.ok.bs b o e).1 (I.ok.bs b o e).2 (I.ok.noex b o e)⟩
def Inv.bk(I:Inv X o3 σ H s):∀b o,X.base.get? b=Z o->s.heap.get? b=Z o:=λb o e=>(I.bs b o e).1
theorem Inv.mod(I:Inv X o3 σ H s):Mod X.K X.mg X.base:=I.ok.mod
def Inv.Dm(I:Inv X o3 σ H s):X.K.In s.heap:=I.ok.mod.kin.keeps I.bk
theorem Inv.lt(I:Inv X o3 σ H s):X.env.locals<s.heap.objs.size:=let ⟨_,hn,_⟩:=I.loc;hn.lt
def Inv.sz(I:Inv X o3 σ H s):X.s₀.heap.objs.size<=s.heap.objs.size:=jc I.ok.above (JS I.lt)
def Inv.atQ(I:Inv X o3 σ H s)(h:s.heap.objs.size<=a):a∉X.fs:=λB=>by let⟨_,o,O,_⟩:=I.ok.Cs.mem B;show absurd (jY (jM O) (jc I.sz h)) (JZ _)
def Inv.cne(I:Inv X o3 σ H s):∀x c,X.env.cells.lookup x=Z c->c≠X.env.locals:=λx c e z=>by let⟨v,o,O,j⟩:=I.cell x c e;let⟨m,⟨o',es,T,C,F,_⟩,_⟩:=I.loc;rw[z,C]at O;cases O;rw[F]at j;cases j
theorem Inv.Cs(I:Inv X o3 σ H s):s.heap.FunFrames X.base X.outer:=by
 have all:∀(l:List Qw),(∀b∈frs l,b∈X.fs)->X.s₀.heap.FunFrames X.base l->s.heap.FunFrames X.base l:=by
  intro l
  induction l with
  |nil=>intro _ _;trivial
  |cons env r K=>
   intro hs C;let⟨R,⟨L,o,V,a,O,j⟩,S⟩:=C;have u:L∈X.fs:=hs L (by unfold frs;rw[zw,V];show jA);let⟨c,e⟩:=I.base.slot L o O (I.ok.frf L u) u λz=>I.ok.exfs L z u;show⟨R,⟨L,_,V,a,e,j⟩,K (λb B=>hs b (by unfold frs;rw[zw,V];show jF _ B)) S⟩
 show all X.outer (λ_ B=>B) I.ok.Cs
theorem Inv.stack(I:Inv X o3 σ H s):s.heap.FunFrames X.base X.stack:=by
 rcases I.ok.stk with e|⟨e,V⟩
 ·rw[e];show I.Cs
 ·rw[e];let⟨m,L,_⟩:=I.loc;show .cons (by rw[I.ok.kind];decide) V L ?_ I.Cs;show Heap.get?_none_of_le (jc I.ok.bsz I.ok.above)
def Inv.LF(I:Inv X o3 σ H s):∀b∈frs X.stack,b∈X.env.locals::X.fs:=λb B=>by
 rcases I.ok.stk with e|⟨e,V⟩
 ·rw[e]at B;show jF _ B
 ·rw[e]at B;unfold frs at B;rw[zw,V]at B;show B
def Inv.abM(I:Inv X o3 σ H s):∀b∈frs X.stack,H b=Y:=λb B=>by
 rcases jL.mp (I.LF b B)with e|B
 ·rw[e];show I.free
 ·let⟨_,o,O,_⟩:=I.ok.Cs.mem B;show I.base.free b o O (I.ok.frf b B) λz=>I.ok.exfs b z B
def Inv.step{g':Array Qz}{t':Nat}{d':Drawn}{ch:List Qp}(I:Inv X o3 σ H s)(a:∀b∈ch,(b∈X.ex\/X.s₀.heap.objs.size<=b)/\b≠X.env.locals/\#[98]/\∀p∈X.pn++o3,p.1≠b)(keep:∀b o,b≠X.env.locals->b∉X.fs->b∉ch->s.heap.get? b=Z o->H b=Y->h'.get? b=Z o)(y:∀b o,b≠X.env.locals->b∈X.fs->b∉ch->s.heap.get? b=Z o->H b=Y->∃V,h'.get? b=Z {o with slots:=V})(free:∀b o,b∉ch->s.heap.get? b=Z o->H b=Y->H' b=Y)(there:∀b o,b∉ch->s.heap.get? b=Z o->∃o',h'.get? b=Z o')(K:∀b xs,H b=Z #[42]->H' b=Z #[42])(M:∀b o u,H b=Z (.B2 o u)->H' b=Z (.B2 o u))(P:∀b ps,H b=Z (.Fo ps)->∃more,H' b=Z (.Fo (ps++more)))(ns:∀m,s.heap.Ns X.env.locals m->h'.Ns X.env.locals m)(A:pX X.prog X.w H' h')(C:Qq g'):
  Inv X o3 σ H' {s with heap:=h',gens:=g',drawn:=d',toks:=t'}:=by
 have Q:∀b o,X.s₀.heap.get? b=Z o->b≠X.env.locals:=λb o e=>jU (jY (jM e) I.ok.above);have F:∀b o,X.s₀.heap.get? b=Z o->b∉X.ex->b∉ch:=λb o e J B=>by
  rcases(a b B).1 with z|z
  ·show J z
  ·show absurd (jY (jM e) z) (JZ _)
 have f:∀x c,X.env.cells.lookup x=Z c->∀v,s.heap.IsCell c v->h'.IsCell c v:=λx c e v ⟨o,O,j⟩=>by
  have h:c∉ch:=λz=>(a c z).2.2.1 x c e rfl;by_cases L:c∈X.fs
  ·let⟨V,q⟩:=y c o (I.cne x c e) L h O (I.freeC x c e);show⟨_,q,j⟩
  ·show⟨o,keep c o (I.cne x c e) L h O (I.freeC x c e),j⟩
 show⟨I.ok,I.os,C,⟨λb o e n B J=>?_,λb o e n B J=>?_,λb o e n J=>?_,λb o e J=>?_,λb xs e=>K b xs (I.base.tups b xs e),λb o xs e=>M b o xs (I.base.frzs b o xs e),λb ps e=>?_⟩,?_,λx c e=>?_,?_,λx c e=>?_,λp D=>?_,A,I.len⟩
 ·show keep b o (Q b o e) B (F b o e J) (I.base.keep b o e n B J) (I.base.free b o e n J)
 ·let⟨V,T⟩:=I.base.slot b o e n B J;let⟨G,g⟩:=y b _ (Q b o e) B (F b o e J) T (I.base.free b o e n J);show⟨G,g⟩
 ·let⟨o',T⟩:=I.base.there b o e J;show free b o' (F b o e J) T (I.base.free b o e n J)
 ·let⟨o',T⟩:=I.base.there b o e J;show there b o' (F b o e J) T
 ·let⟨N,T⟩:=I.base.tbls b ps e;let⟨R,g⟩:=P b _ T;show⟨N++R,by rw[g,Array.append_assoc]⟩
 ·let⟨m,S,W⟩:=I.loc;show⟨m,ns m S,λi x v T g e3=>?_⟩;let⟨u,r,l⟩:=W i x v T g e3;exists u,r;rcases l with l|⟨k,c,e,z⟩
  ·show .inl l
  ·show .inr ⟨k,c,e,f x c e _ z⟩
 ·let⟨v,z⟩:=I.cell x c e;show⟨v,f x c e v z⟩
 ·let⟨m,⟨o,_,_,O,_⟩,_⟩:=I.loc;show free _ o (λz=>(a _ z).2.1 rfl) O I.free
 ·let⟨v,o,O,j⟩:=I.cell x c e;show free c o (λz=>(a c z).2.2.1 x c e rfl) O (I.freeC x c e)
 ·let⟨e,n,t,E,d⟩:=I.pin p D;have h:p.1∉ch:=λz=>(a p.1 z).2.2.2 p D rfl;show⟨keep p.1 p.2 t E h e n,free p.1 p.2 h e n,t,E,d⟩
def Inv.un{t':Nat}(I:Inv X o3 σ H s)(u:Un X.fs [] H H' s.heap h')(A:pX X.prog X.w H' h'):Inv X o3 σ H' {s with heap:=h',toks:=t'}:=by let⟨m,⟨o,es,T,O,r⟩,_⟩:=id I.loc;let⟨V,a⟩:=u.any O I.free #[7];show I.step (g':=s.gens) (d':=s.drawn) (ch:=[]) (λ_ z=>nomatch z) (λb o _ B _ e n=>u.keep b o e n B #[7]) (λb o _ B _ e n=>u.slot b o e n B #[7]) (λb o _ e n=>u.free b o e n #[7]) (λb o _ e=>u.there b o e #[7]) u.tups u.frzs u.tbls (λL N=>by let⟨o',i,d,C,F⟩:=N;rw[O]at C;cases C;show⟨_,i,d,a,F⟩) A I.bare
def Inv.call{g':Array Qz}{t':Nat}{d':Drawn}(I:Inv X o3 σ H s)(u:Un (frs X.stack) ch H H' s.heap h')(A:pX X.prog X.w H' h')(g:Qq g')(a:∀b∈ch,(b∈X.ex\/X.s₀.heap.objs.size<=b)/\b≠X.env.locals/\#[98]/\∀p∈X.pn++o3,p.1≠b):
  Inv X o3 σ H' {s with heap:=h',gens:=g',drawn:=d',toks:=t'}:=by
 let⟨m,⟨o,es,T,O,r⟩,_⟩:=id I.loc;let⟨V,d⟩:=u.any O I.free λz=>(a _ z).2.1 rfl;show I.step (ch:=ch) a (λb o d B L e n=>u.keep b o e n (λz=>(jL.mp (I.LF b z)).elim d B) L) (λb o _ _ L e n=>u.any e n L) (λb o L e n=>u.free b o e n L) (λb o L e=>u.there b o e L) u.tups u.frzs u.tbls (λh N=>by let⟨o',i,f,C,F⟩:=N;rw[O]at C;cases C;show⟨_,i,f,d,F⟩) A g
def Inv.turned{t':Nat}(I:Inv X o3 σ H s)(k:∀b o,b≠it->s.heap.get? b=Z o->h'.get? b=Z o)(f:H it=Y)(d:it≠X.env.locals)(G:it∈X.ex\/X.s₀.heap.objs.size<=it)(M:∀x c,X.env.cells.lookup x=Z c->c≠it)(B:∀p∈X.pn++o3,p.1≠it):Inv X o3 σ H {s with heap:=h',toks:=t'}:=by
 have a:∀b u,H b=Z u->b≠it:=λb u e z=>by rw[z,f]at e;cases e
 show I.step (g':=s.gens) (d':=s.drawn) (ch:=[it]) (λb g=>?_) (λb o _ _ L e _=>k b o #[134] e) (λb o _ _ L e _=>⟨o.slots,k b o #[134] e⟩) (λ_ _ _ _ n=>n)
  (λb o L e=>⟨o,k b o #[134] e⟩) (λ_ _ e=>e) (λ_ _ _ e=>e) (λb ps e=>⟨#[],by rw[e];simp⟩) (λm N=>?_) (λb u e=>?_) I.bare
 ·have e:b=it:=by simpa using g
  subst e;show⟨G,d,M,B⟩
 ·let⟨o,es,T,O,r⟩:=N;show⟨o,es,T,k _ o (Ne.symm d) O,r⟩
 ·show(I.hok b u e).Hj (λc v L q=>k c v ?_ q) (λ_ q=>q) λ_ _ q=>q;rcases L with z|z
  ·rw[z];show a b u e
  ·show a c _ z
def Inv.tok(I:Inv X o3 σ H s)(t:Nat):Inv X o3 σ H {s with toks:=t}:=I.un (h':=s.heap) (t':=t) Un.refl I.hok
theorem Inv.kept{t':Nat}(I:Inv X o3 σ H s)(k:∀b u,s.heap.get? b=Z u->h'.get? b=Z u):Inv X o3 σ H {s with heap:=h',toks:=t'}:=I.un (Un.kept k) (I.hok.kept k)
theorem Inv.laid{t':Nat}(I:Inv X o3 σ H s)(k:∀b u,s.heap.get? b=Z u->h'.get? b=Z u)(D:s.heap.objs.size<=a)(new:bN X.prog X.w (upd H a o) h' a o):
  Inv X o3 σ (upd H a o) {s with heap:=h',toks:=t'}:=I.un (Un.laid k D (I.hok.fresh D)) (I.hok.laid k D new)
theorem Inv.write{x e:Qp}{t':Nat}(I:Inv X o3 σ H s)(d:Mut (H x))(R:e=x\/H e=Z (.own x))(k:∀b u,b≠e->s.heap.get? b=Z u->h'.get? b=Z u)(f:∃u,h'.get? e=Z u)(new:bN X.prog X.w (upd H x o) h' x o):Inv X o3 σ (upd H x o) {s with heap:=h',toks:=t'}:=I.un (Un.write d R k f) (I.hok.write d R k f new)
def Inv.abo(I:Inv X o3 σ H s)(h:∀p∈ajJ,s.heap.get? p.1=Z p.2/\H p.1=Y/\p.1≠X.env.locals/\p.1∉X.fs/\∀v,p.2.data≠.cell v):Inv X ajJ σ H s:=
 ⟨I.ok,I.os,I.bare,I.base,I.loc,I.cell,I.free,I.freeC,λp D=>(zC.mp D).elim (λz=>I.pin p (JH _ z)) (h p),I.hok,I.len⟩
def R9(T:N.Nodup)(a:N[i]?=Z x)(b:N[j]?=Z x):i=j:=by let⟨G,c⟩:=jk.mp a;let⟨M,g⟩:=jk.mp b;show(JY T).mp (c.trans g.symm)
def Oc{M:Model}{Q:Unit->qO->Prop}(I:Inv X o3 σ H s)(hN:X.N.Nodup)(W:X.N[i]?=Z x)(J:Loc X.env.scope x)(r:RelV v u)(h:∀s',Inv X o3 (σ.set i (Z v)) H s'->(∃a,Yj a s.heap s'.heap/\(a=X.env.locals\/X.env.cells.lookup x=Z a))->Q () s')(hf:X.fn x=true\/X.env.scope.names.lookup x=Z .local:=by first|show .inl rfl|show .inr rfl|assumption):wpAny M A (storeName X.env x u) Q E s:=by
 let⟨m,S,hl⟩:=id I.loc;have V:(X.env.scope.kind==.class||(X.env.scope.kind==.module&&X.env.locals != X.env.globals))=false:=by rw[I.ok.kind];rfl
 have F:i<σ.length:=by rw[I.len];show(jk.mp W).1
 have cne:=I.cne;have G:∀{a:Qp} {h':Heap},(∃o,s.heap.get? a=Z o/\H a=Y)->Yj a s.heap h'->pX X.prog X.w H h':=λ{a h'} ha hs b ob e=>by
  let⟨_,_,t⟩:=ha;show(I.hok b ob e).Hj (λc K L q=>(hs.2 c ?_).trans q) (λ_ q=>q) λ_ _ q=>q;rintro rfl;rcases L with rfl|L
  ·rw[t]at e;cases e
  ·rw[t]at L;cases L
 rcases J with R|R
 ·show wpAny_storeName_local R S (λh' y4 hs=>?_) V;let⟨oL,_,_,d5,_⟩:=id S;show h _ ⟨I.ok,I.os,I.bare,⟨λb o e n B J=>?_,λb o e n B J=>?_,I.base.free,λb o e J=>?_,I.base.tups,I.base.frzs,I.base.tbls⟩,⟨_,y4,λj y v' T g e3=>?_⟩,λy c e=>?_,I.free,I.freeC,λp hp=>?_,G ⟨oL,d5,I.free⟩ hs,by simpa using I.len⟩ ⟨_,hs,.inl rfl⟩
  ·show(hs.2 b (jU (jY (jM e) I.ok.above))).trans (I.base.keep b o e n B J)
  ·let⟨sl,T⟩:=I.base.slot b o e n B J;show⟨sl,(hs.2 b (jU (jY (jM e) I.ok.above))).trans T⟩
  ·let⟨o',T⟩:=I.base.there b o e J;show⟨o',(hs.2 b (jU (jY (jM e) I.ok.above))).trans T⟩
  ·by_cases f:j=i
   ·subst f;rw[W]at T;cases T;rw[zZ F]at g;cases g;show⟨u,r,.inl ⟨R,by simp⟩⟩
   ·rw[zo (Ne.symm f)]at g;let⟨u',r',q⟩:=hl j y v' T g e3;exists u',r';rcases q with⟨k,e⟩|⟨k,c,e,z⟩
    ·show .inl ⟨k,?_⟩;have:y≠x:=λe=>f (R9 hN T (e▸W));simp[this,e]
    ·show .inr ⟨k,c,e,z.sameBut hs (cne y c e)⟩
  ·let⟨K,z⟩:=I.cell y c e;show⟨K,z.sameBut hs (cne y c e)⟩
  ·let⟨e,n,D,nf,d⟩:=I.pin p hp;show⟨(hs.2 p.1 D).trans e,n,D,nf,d⟩
 ·have O:X.fn x=true:=by
   rcases hf with z|z
   ·show z
   ·rw[z]at R;cases R
  let⟨c,L⟩:=I.ok.has x (.inl R);let⟨K,z⟩:=I.cell x c L;show wpAny_storeName_cell I.ok.kind R L z (λh' EF hs=>?_);let⟨oc,l,i5⟩:=id z;show h {s with heap:=h'} ⟨I.ok,I.os,I.bare,⟨λb o e n B J=>?_,λb o e n B J=>?_,I.base.free,λb o e J=>?_,I.base.tups,I.base.frzs,I.base.tbls⟩,⟨m,S.sameBut hs (Ne.symm (cne x c L)),λj y v' T g e3=>?_⟩,λy P e=>?_,I.free,I.freeC,λp hp=>?_,G ⟨oc,l,I.freeC x c L⟩ hs,by simpa using I.len⟩ ⟨c,hs,.inr L⟩
  ·show(hs.2 b (jU (jY (jM e) (I.ok.cab x c O L)))).trans (I.base.keep b o e n B J)
  ·let⟨sl,T⟩:=I.base.slot b o e n B J;show⟨sl,(hs.2 b (jU (jY (jM e) (I.ok.cab x c O L)))).trans T⟩
  ·let⟨o',T⟩:=I.base.there b o e J;show⟨o',(hs.2 b (jU (jY (jM e) (I.ok.cab x c O L)))).trans T⟩
  ·by_cases f:j=i
   ·subst f;rw[W]at T;cases T;rw[zZ F]at g;cases g;show⟨u,r,.inr ⟨.inl R,c,L,EF⟩⟩
   ·rw[zo (Ne.symm f)]at g;let⟨u',r',q⟩:=hl j y v' T g e3;exists u',r';rcases q with q|⟨k,P,e,z'⟩
    ·show .inl q
    ·show .inr ⟨k,P,e,z'.sameBut hs ?_⟩;rintro rfl;show f (R9 hN T (I.ok.inj _ _ _ e L▸W))
  ·by_cases C:P=c
   ·subst C;show⟨_,EF⟩
   ·let⟨w2,z2⟩:=I.cell y P e;show⟨w2,z2.sameBut hs C⟩
  ·let⟨e,n,D,nf,d⟩:=I.pin p hp;show⟨(hs.2 p.1 ?_).trans e,n,D,nf,d⟩;intro q;rw[q,l]at e;have q':oc=p.2:=Option.some.inj e;show d K (by rw[<-q'];show i5)
def S9{M:Model}{Q:Unit->qO->Prop}(I:Inv X o3 σ H s)(T:X.N.Nodup)(W:X.N[i]?=Z x)(J:Loc X.env.scope x)(r:RelV v u)(h:∀s',Inv X o3 (σ.set i (Z v)) H s'->Q () s')(V:X.fn x=true\/X.env.scope.names.lookup x=Z .local:=by first|show .inl rfl|show .inr rfl|assumption):wpAny M A (storeName X.env x u) Q E s:=
 Oc I T W J r (λs' K _=>h s' K) V
def Inv.anu(I:Inv X o3 σ H s)(O:s'.os=s.os)(u:Un (frs X.stack) ch H H' s.heap s'.heap)(A:pX X.prog X.w H' s'.heap)(m:Qq s'.gens)(a:∀b∈ch,(b∈X.ex\/X.s₀.heap.objs.size<=b)/\b≠X.env.locals/\#[98]/\∀p∈X.pn++o3,p.1≠b):Inv X o3 σ H' s':=by let⟨h',q,f,t',o'⟩:=s';have e:o'=s.os:=O;subst e;show I.call (g':=q) (t':=t') (d':=f) u A m a
end
abbrev XK:=Value->Option Qp->Hp->Prop
abbrev St:=List (Option V)
abbrev VK:=V->Hp->Prop
abbrev TE:=St->Hp->VK->Prop
abbrev TT:=St->Hp->(Bool->Hp->Prop)->Prop
abbrev TA:=St->Hp->(List V->Hp->Prop)->Prop
structure Ends where
 nx:St->Hp->Prop
 rt:VK
 bk:St->Hp->Prop:=λ_ _=>False
 ct:St->Hp->Prop:=λ_ _=>False
abbrev TS:=Ends->St->Hp->Prop
def EP(X:Cx)(o3:List #[56])(σ:St)(Q:VK)(u:Value)(s':qO):Prop:=∃v H',Inv X o3 σ H' s'/\RelV v u/\Q v H'
def TP(X:Cx)(o3:List #[56])(σ:St)(Q:Bool->Hp->Prop)(b:Bool)(s':qO):Prop:=∃H',Inv X o3 σ H' s'/\Q b H'
def AP(X:Cx)(o3:List #[56])(σ:St)(Q:List V->Hp->Prop)(us:List Value)(s':qO):Prop:=∃vs H',Inv X o3 σ H' s'/\Vals vs us/\Q vs H'
def SP(X:Cx)(o3:List #[56])(D:Ends)(f:Flow)(s':qO):Prop:=
 match f with
 |.next=>∃σ' H',Inv X o3 σ' H' s'/\D.nx σ' H'
 |.brk=>∃σ' H',Inv X o3 σ' H' s'/\D.bk σ' H'
 |.cont=>∃σ' H',Inv X o3 σ' H' s'/\D.ct σ' H'
 |.ret u=>∃v σ' H',Inv X o3 σ' H' s'/\RelV v u/\D.rt v H'
def PE(X:Cx)(e:Expr)(t:TE):Prop:=
 ∀(o3:List #[56]) (s:qO) (σ:St) (H:Hp) (Q:VK),Inv X o3 σ H s->t σ H Q->wpAny #[4] X.A (eval e X.env) #[76] X.xe s
def PT(X:Cx)(e:Expr)(t:TT):Prop:=
 ∀(o3:List #[56]) (s:qO) (σ:St) (H:Hp) (Q:Bool->Hp->Prop),Inv X o3 σ H s->t σ H Q->wpAny #[4] X.A (isTrue e X.env (eval e X.env)) (TP X o3 σ Q) X.xe s
def PW(X:Cx)(e:Expr)(t:TT):Prop:=
 ∀(whole:qM Value) (o3:List #[56]) (s:qO) (σ:St) (H:Hp) (Q:Bool->Hp->Prop),Inv X o3 σ H s->t σ H Q->wpAny #[4] X.A (isTrue e X.env whole) (TP X o3 σ Q) X.xe s
def PW.pt{X:Cx}{t:TT}(h:PW X e t):PT X e t:=h _
def PA(X:Cx)(es:List Expr)(t:TA):Prop:=
 ∀(pos:Pos) (o3:List #[56]) (s:qO) (σ:St) (H:Hp) (Q:List V->Hp->Prop),Inv X o3 σ H s->t σ H Q->wpAny #[4] X.A (spliced #[34]) (AP X o3 σ Q) X.xe s
def PS(X:Cx)(st:Stmt)(t:TS):Prop:=
 ∀(o3:List #[56]) (s:qO) (σ:St) (H:Hp) (D:Ends),Inv X o3 σ H s->t D σ H->wpAny #[4] X.A (exec st X.env) (SP X o3 D) X.xe s
def Ti(X:Cx)(st:List Stmt)(t:TS):Prop:=
 ∀(o3:List #[56]) (s:qO) (σ:St) (H:Hp) (D:Ends),Inv X o3 σ H s->t D σ H->wpAny #[4] X.A (execs st X.env) (SP X o3 D) X.xe s
def cw{t:qM α}{Q l:α->qO->Prop}{M:Model}(h:wpAny M A t Q E s)(H:∀a s,Q a s->l a s):wpAny M A t l E s:=Wu h H λ_ _ x=>x
variable{X:Cx}{t:TA}{σ:St}{ta te tl:TE}{tb:TS}{D:Ends}{tc:TT}
section
inductive aiX (i:Nat) (σ:St) (H:Hp) (Q:VK):Prop|mk (v:_) (_:σ[i]?=Z (Z v)) (_:Q v H)
def tC(v:V):TE:=λ_ H Q=>Q v H
def Z3(T:X.N[i]?=Z x)(a:Vis X.env.scope x)(j:#[36]=false:=by decide)(D:(x==("__classdict__" : Str))=false:=by decide):PE X #[180] (aiX i):=by
 exists 2;let⟨v,e,h⟩:=h;let⟨m,b,C⟩:=I.loc;let⟨u,r,l⟩:=C i x v T e a;have W:EP X o3 σ Q u s:=⟨v,H,I,r,h⟩;rcases l with⟨R,d⟩|⟨R,c,L,J⟩
 ·show WT (wpAny_loadName_local I.ok.kind R b d W) j
 ·rcases R with R|R
  ·show WT (wpAny_loadName_cell I.ok.kind R L J W) j
  ·show WT (wpAny_loadName_free I.ok.kind R L J W D) j
def ag{i j pos}:PE X (.Constant (.int i) j pos) (tC (.int i)):=λ_ _ _ H _ I h=>wpAny_Constant_int ⟨.int i,H,I.tok _,⟨_,rfl⟩,h⟩
def rl{b j pos}:PE X (.Constant (.bool b) j pos) (tC (.bl b)):=λ_ _ _ H _ I h=>Constant_bool ⟨.bl b,H,I,rfl,h⟩
def K8{j pos}:PE X (.Constant .none j pos) (tC .non):=λ_ _ _ H _ I h=>Constant_none ⟨.non,H,I,rfl,h⟩
def ba{x j pos}:PE X (.Constant (.str x) j pos) (tC (.str x)):=λ_ _ _ H _ I h=>Calls.Constant_str ⟨.str x,H,I.tok _,⟨_,rfl⟩,h⟩
def Gl(X:Cx)(x:Str):Prop:=X.env.kindOf x=Z .globalImplicit
def Hx(I:Inv X o3 σ H s)(m:Gl X x)(N:X.mg x=Z u)(h:Q u s)(j:#[36]=false:=by decide):wpAny #[4] X.A (eval #[180] X.env) Q E s:=
 XG I.ok.kind m (Calls.loadGlobal_global (by rw[I.ok.glob];show I.mod.glob.keeps I.bk) N h) j
def su(I:Inv X o3 σ H s)(m:Gl X x)(N:X.mg x=Y)(a:qV x=Z u)(h:Q u s)(L:x ≠ "__name__" :=by decide)(j:#[36]=false:=by decide):wpAny #[4] X.A (eval #[180] X.env) Q E s:=by let⟨z,G,M⟩:=I.mod.blt;show XG I.ok.kind m (Calls.loadGlobal_builtin (by rw[I.ok.glob];show I.mod.glob.keeps I.bk) N (by rw[I.ok.blt];show G.keeps I.bk) ((M x L).trans a) h) j
def lU(m:Gl X x)(N:X.mg x=Z u)(r:RelV v u)(j:#[36]=false:=by decide):PE X #[180] (tC v):=
 λ_ _ _ H _ I h=>Hx I m N ⟨v,H,I,r,h⟩ j
def lS(m:Gl X x)(N:X.mg x=Y)(a:qV x=Z u)(r:RelV v u)(L:x ≠ "__name__" :=by decide)(j:#[36]=false:=by decide):PE X #[180] (tC v):=
 λ_ _ _ H _ I h=>su I m N a ⟨v,H,I,r,h⟩ L j
variable{a b:Expr}{tb:TE}
def PC(X:Cx)(op:Qt)(a b:Expr)(t:TE):Prop:=
 ∀(o3:List #[56]) (s:qO) (σ:St) (H:Hp) (Q:VK),Inv X o3 σ H s->t σ H Q ->
  wpAny #[4] X.A (eval a X.env) (λv i4=>wpAny #[4] X.A (eval b X.env) (λu s₂=>wpAny #[4] X.A (qf op v u) #[76] X.xe s₂) X.xe i4) X.xe s
def ae4(b:Expr){m:Qt}(h:m≠.In)(M:m≠.NotIn):qT m b=false:=by
 have T:(m==CmpOp.In)=false:=by cases m<;>first|rfl|show absurd rfl h
 have g:(m==CmpOp.NotIn)=false:=by cases m<;>first|rfl|show absurd rfl M
 cases b<;>simp[qT,T,g]
inductive auy (Q:Bool->Hp->Prop) (x:V) (H1:Hp):Prop|mk (c:_) (_:x=.bl c) (_:Q c H1)
def tB(t:TE):TT:=λσ H Q=>t σ H (auy Q)
def Pl{m:Qt}{t:TE}(h:PC X m a b t)(G:qT m b=false:=by first|show ae4 _ #[9] #[9]|rfl):PT X (.Compare a [m] [b] pos) (tB t):=by intro o3 s σ H Q I j;show Wr (cw (h o3 s σ H _ I j) λv T G=>cw G λu n M=>cw M λc g ⟨x,e,P,f,E⟩=>?_) G;let⟨d,rfl,q⟩:=E;cases f;show YV ⟨e,P,q⟩
def lX{t:TE}(h:PE X e t)(R:∀b,isTrue e X.env b=(do let v <-b;standAt e.pos;holding [v] (truthy v)):=by intro _;rfl):PT X e (tB t):=by intro o3 s σ H Q I j;show isTrue_plain (cw (h o3 s σ H _ I j) λv T ⟨x,a,P,f,E⟩=>?_) (R _);let⟨d,rfl,q⟩:=E;cases f;show YV ⟨a,P,q⟩
variable{tA tB':TT}{rest:List Expr}
def auw(t u:TT):TT:=λσ H Q=>t σ H λc H1=>if c=true then u σ H1 Q else Q false H1
def tOr(t u:TT):TT:=λσ H Q=>t σ H λc H1=>if c=true then Q true H1 else u σ H1 Q
def auC(t:TT):TT:=λσ H Q=>t σ H λc H1=>Q (!c) H1
def BK(W:PT X a tA):PW X (.BoolOp .And [a] pos) tA:=by
 intro f o3 s σ H Q I h;show isTrue_and (cw (W o3 s σ H Q I h) λc T e=>?_);cases c with
 |true=>show isTrue_and_nil e
 |false=>show e
def E1(W:PT X a tA):PW X (.BoolOp .Or [a] pos) tA:=by
 intro f o3 s σ H Q I h;show isTrue_or (cw (W o3 s σ H Q I h) λc T e=>?_);cases c with
 |false=>show isTrue_or_nil e
 |true=>show e
def AY(W:PT X a tA)(B:PW X (.BoolOp .And (b::rest) pos) tB'):PW X (.BoolOp .And (a::b::rest) pos) (auw tA tB'):=by
 intro f o3 s σ H Q I h;show isTrue_and (cw #[40] λc T ⟨d,P,E⟩=>?_);cases c with
 |true=>show B f o3 T σ d Q P E
 |false=>show⟨d,P,E⟩
def tJ(W:PT X a tA)(B:PW X (.BoolOp .Or (b::rest) pos) tB'):PW X (.BoolOp .Or (a::b::rest) pos) (tOr tA tB'):=by
 intro f o3 s σ H Q I h;show isTrue_or (cw #[40] λc T ⟨d,P,E⟩=>?_);cases c with
 |true=>show⟨d,P,E⟩
 |false=>show B f o3 T σ d Q P E
def oU(W:PT X a tA):PT X (.UnaryOp .Not a pos) (auC tA):=by exists 2;show isTrue_not (W o3 s σ H (λc d=>Q (!c) d) I h)
inductive aiN (tb:TE) (σ:St) (Q:VK) (x:V) (H1:Hp):Prop|mk (c:_) (_:x=.bl c) (_:if c=true then tb σ H1 Q else Q (.bl false) H1)
def apK(ta tb:TE):TE:=λσ H Q=>ta σ H (aiN tb σ Q)
inductive amd (tb:TE) (σ:St) (Q:VK) (x:V) (H1:Hp):Prop|mk (c:_) (_:x=.bl c) (_:if c=true then Q (.bl true) H1 else tb σ H1 Q)
def auE(ta tb:TE):TE:=λσ H Q=>ta σ H (amd tb σ Q)
inductive aiU (Q:VK) (x:V) (H1:Hp):Prop|mk (c:_) (_:x=.bl c) (_:Q (.bl (!c)) H1)
def apT(ta:TE):TE:=λσ H Q=>ta σ H (aiU Q)
def wG{op}{t:TE}(h:PE X a t):PE X (.BoolOp op [a] pos) t:=λo3 s σ H Q I j=>BoolOp_one (h o3 s σ H Q I j)
def wF(W:PE X a ta)(B:PE X (.BoolOp .And (b::rest) pos) tb):PE X (.BoolOp .And (a::b::rest) pos) (apK ta tb):=by
 exists 2;show BoolOp_and (cw #[40] λv T ⟨x,d,P,f,E⟩=>?_);let⟨c,rfl,E⟩:=E;cases f;show YV ?_;cases c with
 |true=>show B o3 T σ d Q P E
 |false=>show⟨.bl false,d,P,rfl,E⟩
def ape(W:PE X a ta)(B:PE X (.BoolOp .Or (b::rest) pos) tb):PE X (.BoolOp .Or (a::b::rest) pos) (auE ta tb):=by
 exists 2;show BoolOp_or (cw #[40] λv T ⟨x,d,P,f,E⟩=>?_);let⟨c,rfl,E⟩:=E;cases f;show YV ?_;cases c with
 |false=>show B o3 T σ d Q P E
 |true=>show⟨.bl true,d,P,rfl,E⟩
def afJ(W:PE X a ta):PE X (.UnaryOp .Not a pos) (apT ta):=by exists 2;show UnaryOp_ (cw #[40] λv T ⟨x,d,P,f,E⟩=>?_);let⟨c,rfl,E⟩:=E;cases f;show not_of (YV ⟨.bl (!c),d,P,U,E⟩)
def tIf(t:TT)(ta tb:TE):TE:=λσ H Q=>t σ H λc H1=>if c=true then ta σ H1 Q else tb σ H1 Q
def tF(L:PT X c tA)(W:PE X a ta)(B:PE X b tb):PE X (.IfExp c a b pos) (tIf tA ta tb):=by
 exists 2;show wpAny_IfExp (cw (L o3 s σ H _ I h) λd T ⟨e,P,E⟩=>?_);cases d with
 |true=>show W o3 T σ e Q P E
 |false=>show B o3 T σ e Q P E
end
def mC(K:Yc)(H:Hp)(a:Qp)(xs:List V):Prop:=
 Rd H a #[133] \/
  ∃(o:Obj) (aP:Array Value) (n:Nat),K.lookup a=Z o/\o.cls=.type "list" /\ o.dict=Y/\o.data=.seq aP n/\aP.size<=sizeLine/\Vals xs aP.toList
def iu(K:Yc)(H:Hp)(a:Qp)(xs:List V):Prop:=
 Rd H a #[42] \/
  ∃(o:Obj) (aP:Array Value) (n:Nat),K.lookup a=Z o/\o.cls=.type "tuple" /\ o.data=.seq aP n/\aP.size<=sizeLine/\Vals xs aP.toList
def arv:Value->Option V
 |.none=>Z .non
 |.bool b=>Z (.bl b)
 |.int i _=>Z (.int i)
 |.str x _=>Z (.str x)
 |.bytes b _=>Z (.Tn b)
 |.float b _=>Z (.flt b)
 |.ref a=>Z #[44]
 |.type n=>Z (.ty n)
 |_=>Y
def RelV.abs{x:V}(r:RelV x u):arv u=Z x:=by
 cases x with
 |non=>cases r;rfl
 |bl _=>cases r;rfl
 |int _=>let⟨t,rfl⟩:=r;rfl
 |str _=>let⟨t,rfl⟩:=r;rfl
 |Tn _=>let⟨t,rfl⟩:=r;rfl
 |flt _=>let⟨t,rfl⟩:=r;rfl
 |ref _=>cases r;rfl
 |ty _=>cases r;rfl
theorem RelV.inj{x:V}(r:RelV x u)(q:RelV y u):x=y:=Option.some.inj (r.abs.symm.trans q.abs)
theorem Vals.inj:∀{xs ys:List V} {us:List Value},Vals xs us->Vals ys us->xs=ys
 |_,_,_,.nil,.nil=>rfl
 |_,_,_,.cons r t,.cons F t'=>by rw[r.inj F,Vals.inj t t']
section
variable{ys:List V}
def mC.of(h:H a=Z #[133]):mC K H a xs:=.inl (.inl h)
def iu.of(h:H a=Z #[42]):iu K H a xs:=.inl (.inl h)
def Inv.list(I:Inv X o3 σ H s)(h:mC X.K H a xs):∃aP:List Value,Vals xs aP/\PlainL s.heap a aP.toArray/\xs.length<=sizeLine:=by
 rcases h with h|⟨o,aP,n,R,L,j,hs,S,r⟩
 ·let⟨z,aP,n,r,e⟩:=h.ok I.hok;show⟨aP,r,⟨_,n,e,U,U,U⟩,z⟩
 ·show⟨aP.toList,r,⟨o,n,I.Dm a o R,L,j,by simpa using hs⟩,?_⟩;have e:=r.length;simp only[jq]at e;lia
def Inv.tuple(I:Inv X o3 σ H s)(h:iu X.K H a xs):∃aP:List Value,Vals xs aP/\qD s.heap a aP.toArray/\xs.length<=sizeLine:=by
 rcases h with h|⟨o,aP,n,R,L,hs,S,r⟩
 ·let⟨z,aP,r,p⟩:=h.ok I.hok;show⟨aP,r,p,z⟩
 ·show⟨aP.toList,r,⟨o,I.Dm a o R,L,n,by simpa using hs⟩,?_⟩;have e:=r.length;simp only[jq]at e;lia
def Inv.J4(I:Inv X o3 σ H s)(h:mC X.K H a xs)(h':mC X.K H a ys):xs=ys:=by
 let⟨aP,r,⟨o,n,e,_,_,d⟩,_⟩:=I.list h;let⟨b,F,⟨o',c,E,_,_,f⟩,_⟩:=I.list h';rw[e]at E;cases E;rw[d]at f;injection f with i _;have:aP=b:=by simpa using congrArg ZS i
 subst this;show r.inj F
def Inv.BO(I:Inv X o3 σ H s)(h:iu X.K H a xs)(h':iu X.K H a ys):xs=ys:=by
 let⟨aP,r,⟨o,e,_,n,d⟩,_⟩:=I.tuple h;let⟨b,F,⟨o',E,_,c,f⟩,_⟩:=I.tuple h';rw[e]at E;cases E;rw[d]at f;injection f with i _;have:aP=b:=by simpa using congrArg ZS i
 subst this;show r.inj F
end
abbrev Cx.bE(X:Cx)(E:Value->qO->Prop):Cx:={X with xe:=E}
abbrev Cx.eY(X:Cx):Cx:=X.bE λ_ _=>False
theorem Cx.Ok.bE(ok:X.Ok)(E:Value->qO->Prop):(X.bE E).Ok:=
 ⟨ok.mod,ok.kind,ok.glob,ok.blt,ok.above,ok.inj,ok.has,ok.cab,ok.hd,ok.frames,ok.stk,ok.exf,ok.bs,ok.bsz,ok.noex,ok.exfs,ok.Cs,ok.frf⟩
def Cx.Ok.Bk(ok:(X.bE E).Ok):X.Ok:=
 ⟨ok.mod,ok.kind,ok.glob,ok.blt,ok.above,ok.inj,ok.has,ok.cab,ok.hd,ok.frames,ok.stk,ok.exf,ok.bs,ok.bsz,ok.noex,ok.exfs,ok.Cs,ok.frf⟩
section
theorem Inv.bE(I:Inv X o3 σ H s)(E:Value->qO->Prop):Inv (X.bE E) o3 σ H s:=⟨I.ok.bE E,I.os,I.bare,I.base,I.loc,I.cell,I.free,I.freeC,I.pin,I.hok,I.len⟩
theorem Inv.Bk(I:Inv (X.bE E) o3 σ H s):Inv X o3 σ H s:=⟨I.ok.Bk,I.os,I.bare,I.base,I.loc,I.cell,I.free,I.freeC,I.pin,I.hok,I.len⟩
theorem SP.Bk{f:Flow}(h:SP (X.bE E) o3 D f s'):SP X o3 D f s':=by
 cases f with
 |next=>let⟨O,H',I,q⟩:=h;show⟨O,H',I.Bk,q⟩
 |brk=>let⟨O,H',I,q⟩:=h;show⟨O,H',I.Bk,q⟩
 |cont=>let⟨O,H',I,q⟩:=h;show⟨O,H',I.Bk,q⟩
 |ret u=>let⟨v,O,H',I,r,q⟩:=h;show⟨v,O,H',I.Bk,r,q⟩
theorem Ti.eY{t:TS}(h:Ti X.eY st t):Ti X st t:=λo3 s σ H D I j=>
 Wu (h o3 s σ H D (I.bE _) j) (λ_ _ q=>q.Bk) λ_ _ z=>False.elim z
end
section
variable{st:Stmt}{rest:List Stmt}{t u:TS}
def aZ:TS:=λD σ H=>D.nx σ H
def aai(t u:TS):TS:=λD σ H=>t {D with nx:=u D} σ H
def aV:Ti X [] aZ:=λ_ _ σ H _ I h=>Wi ⟨σ,H,I,h⟩
def ah(G:PS X st t)(M:Ti X rest u):Ti X (st::rest) (aai t u):=by
 exists 17;show Wh (cw (G o3 s σ H {D with nx:=u D} I h) λf T q=>?_);cases f with
 |next=>
  let⟨O,H',K,q⟩:=q;show M o3 T O H' D K q
 |ret v=>show q
 |brk=>show q
 |cont=>show q
def ao(G:PS X st t):Ti X [st] t:=by
 exists 17;show Wh (cw (G o3 s σ H D I h) λf T q=>?_);cases f with
 |next=>show Wi q
 |ret v=>show q
 |brk=>show q
 |cont=>show q
def Inv.quiet(I:Inv X o3 σ H s):interactive X.env=false:=by simp[interactive,I.ok.kind]
def ajZ(te:TE):TS:=λD σ H=>te σ H λ_ H1=>D.nx σ H1
def bC(R:PE X e te)(hs:WI e Y pos.line X.env=pure false:=by rfl):PS X (.Expr e pos) (ajZ te):=by exists 17;show wpAny_Expr_any (cw #[93] λv T ⟨x,d,P,f,E⟩=>⟨σ,d,P,E⟩) I.quiet hs
def apW(te:TE):TS:=λD σ H=>te σ H D.rt
def aE(R:PE X e te):PS X (.Return (Z e) pos) (apW te):=by exists 17;show wpAny_Return_some (cw #[93] λv T ⟨x,d,P,f,E⟩=>⟨x,σ,d,P,f,E⟩)
def ama(c:TT)(t u:TS):TS:=λD σ H=>c σ H λb H1=>if b=true then t D σ H1 else u D σ H1
def bV{a b:List Stmt}(L:PT X c tc)(W:Ti X a t)(B:Ti X b u):PS X (.If c a b pos) (ama tc t u):=by
 exists 17;show wpAny_If (cw (L o3 s σ H _ I h) λd T ⟨e,P,E⟩=>?_);cases d with
 |true=>show W o3 T σ e D P E
 |false=>show B o3 T σ e D P E
def amc:TS:=λ_ _ _=>False
def iz:PS X st amc:=λ_ _ _ _ _ _ h=>h.elim
end
abbrev TG:=V->St->Hp->(St->Hp->Prop)->Prop
abbrev TGs:=List V->St->Hp->(St->Hp->Prop)->Prop
def PG(X:Cx)(target:Expr)(t:TG):Prop:=
 ∀(o3:List #[56]) (s:qO) (σ:St) (H:Hp) (v:V) (u:Value) (Q:St->Hp->Prop),Inv X o3 σ H s->RelV v u->t v σ H Q ->
  wpAny #[4] X.A (assign target X.env u) (λ_ s'=>∃σ' H',Inv X o3 σ' H' s'/\Q σ' H') X.xe s
def PGs(X:Cx)(ts:List Expr)(t:TGs):Prop:=
 ∀(o3:List #[56]) (s:qO) (σ:St) (H:Hp) (vs:List V) (us:List Value) (Q:St->Hp->Prop),Inv X o3 σ H s->Vals vs us->t vs σ H Q ->
  wpAny #[4] X.A (assignInOrder ((qS ts X.env).map (·.2)) us) (λ_ s'=>∃σ' H',Inv X o3 σ' H' s'/\Q σ' H') X.xe s
abbrev akd:=V->V->V->Hp->(Hp->Prop)->Prop
def anm(X:Cx)(t:akd):Prop:=
 ∀(o3:List #[56]) (s:qO) (σ:St) (H:Hp) (o i v:V) (ov iv u:Value) (Q:Hp->Prop),Inv X o3 σ H s->RelV o ov->RelV i iv->RelV v u->t o i v H Q ->
  wpAny #[4] X.A (setItem ov iv u) (λ_ s'=>∃H',Inv X o3 σ H' s'/\Q H') X.xe s
section
def aJ(i:Nat):TG:=λv σ H Q=>Q (σ.set i (Z v)) H
def ait(T:X.N.Nodup)(W:X.N[i]?=Z x)(J:Loc X.env.scope x)(V:X.fn x=true\/X.env.scope.names.lookup x=Z .local:=by first|show .inl rfl|show .inr rfl|assumption):PG X #[180] (aJ i):=by intro o3 s σ H v u Q I r h;show WV (S9 I T W J r (λs' K=>⟨_,H,K,h⟩) V)
def anO:TGs:=λvs σ H Q=>vs=[]/\Q σ H
def aeo(t:TG)(u:TGs):TGs:=λvs σ H Q=>∃v r,vs=v::r/\t v σ H λσ' H'=>u r σ' H' Q
def wH:PGs X [] anO:=by intro o3 s σ H vs us Q I r h;let⟨e,h⟩:=h;subst e;cases r;show assignInOrder_nil ⟨σ,H,I,h⟩
def dC{t:TG}{u:TGs}(G:PG X e t)(M:PGs X es u)(hs:(qS (e::es) X.env).map (·.2)=assign e X.env::(qS es X.env).map (·.2):=by rfl):PGs X (e::es) (aeo t u):=by
 intro o3 s σ H vs us Q I r h;let⟨v,b,T,h⟩:=h;subst T;cases r with
 |cons r y=>
  rw[hs];show assignInOrder_cons (cw (G o3 s σ H _ _ _ I r h) λ_ a ⟨g,d,P,E⟩=>?_);show M o3 a g d _ _ Q P y E
def akt(K:Yc)(n:Nat)(t:TGs):TG:=λv σ H Q=>∃a xs,v=.ref a/\iu K H a xs/\xs.length=n/\t xs σ H Q
def EX{k:Nat}{t:TGs}(L:X.calm=true)(h:PGs X es t)(c:(qS es X.env).length=n:=by rfl)(M:(qS es X.env).findIdx? (·.1)=Y:=by rfl):PG X (.Tuple es k pos) (akt X.K n t):=by intro o3 s σ H v u Q I r j;let⟨a,xs,T,l,C,j⟩:=j;subst T;cases r;let⟨aP,F,p,S⟩:=I.tuple l;show assign_Tuple_tuple #[117] p (by simp[c,<-C,F.length]) M λh' J=>?_;have P:Inv X o3 σ H {s with heap:=h'}:=I.kept (t':=s.toks) λb o e=>J b o (jU (jM e)) e;show h o3 _ σ H xs _ Q P (by simpa using F) j
def arT(to ti:TE)(t:akd):TG:=λv σ H Q=>to σ H λo H1=>ti σ H1 λi H2=>t o i v H2 λH3=>Q σ H3
def aly{o i:Expr}{to a:TE}{t:akd}(O:PE X o to)(W:PE X i a)(hs:anm X t)(c:∀v,assign (.Subscript o i pos) X.env v=(do
   let L <-holding [v] (eval o X.env)
   let b <-holding [v,L] (eval i X.env)
   standAt pos
   holding [v,L,b] (setItem L b v)
   release [v,L,b] []):=by intro _;rfl):PG X (.Subscript o i pos) (arT to a t):=by
 intro o3 s σ H v u Q I r h;rw[c];show WX (Wn (cw #[111] λL T ⟨x,d,P,f,E⟩=>?_));show WX (Wn (cw (W o3 T σ d _ P E) λb n ⟨y,J,G,e,l⟩=>?_));show WX (YS (WX (Wn (cw (hs o3 n σ J x y v L b u _ G f e r l) λ_ k ⟨g,j,p⟩=>?_))));show wpAny_release ⟨σ,g,j,p⟩
def tT(te:TE)(g:TG):TS:=λD σ H=>te σ H λx H1=>g x σ H1 D.nx
def alB{g:TG}(R:PE X e te)(m:PG X tg g)(hs:swapsWithSole [tg] e pos.line X.env=pure false:=by rfl)(j:swappedStores [tg] e X.env=pure Y:=by rfl)(G:(qS [tg] X.env).map (·.2)=[assign tg X.env]:=by rfl):PS X (.Assign [tg] e pos) (tT te g):=by exists 17;show wpAny_Assign_stores (cw #[93] λv T ⟨x,d,P,f,E⟩=>?_) hs j;rw[G];show cw (m o3 T σ d x v _ P f E) λ_ n q=>q
def afS(T:X.N.Nodup)(W:X.N[i]?=Z x)(J:Loc X.env.scope x)(R:PE X e te)(hs:WI e (Z (.Name x pos')) pos.line X.env=pure false:=by rfl)(V:X.fn x=true\/X.env.scope.names.lookup x=Z .local:=by first|show .inl rfl|show .inr rfl|assumption):
  PS X (.Assign [.Name x pos'] e pos) (tT te (aJ i)):=by
 exists 17;show wpAny_Assign_Name (cw #[93] λv a ⟨y,d,P,f,E⟩=>?_) hs;show S9 P T W J f (λn G=>⟨_,d,G,E⟩) V
end
section
inductive sU (c:TT) (tb:TS) (D:Ends) (σ:St) (H:Hp):Prop|mk (W:Nat->St->Hp->Prop) (_:(∃m,W m σ H)) (_:∀m σ H,W m σ H->c σ H λb H1=>if b=true then ∃N:St->Hp->Prop,(∀σ' H',N σ' H'->∃m',m'<m/\W m' σ' H')/\tb {D with nx:=N,ct:=N,bk:=D.nx} σ H1 else D.nx σ H1)
def oC(i:qJ #[4] X.A X.env X.xe)(m:PT X c tc)(B:Ti X body tb):PS X (.While c body [] pos) (sU tc tb):=by
 exists 17;let⟨W,⟨q,C⟩,M⟩:=h;show wpAny_While (codeAny_whileLoop (λn s'=>∃O H',Inv X o3 O H' s'/\W n O H') ?_ q ⟨σ,H,I,C⟩);rintro n r ⟨g,k,P,u⟩;show YA i (cw (m o3 r g k _ P (M n g k u)) λb t ⟨J,G,l⟩=>?_);cases b with
 |true=>
  let⟨N,T,l⟩:=l;rw[if_pos rfl];show YA i (cw (B o3 t g J _ G l) λf x p=>?_);cases f with
  |next=>
   let⟨a,o,j,e⟩:=p;let⟨L,d,Q⟩:=T a o e;show⟨L,d,a,o,j,Q⟩
  |cont=>
   let⟨a,o,j,e⟩:=p;let⟨L,d,Q⟩:=T a o e;show⟨L,d,a,o,j,Q⟩
  |brk=>show p
  |ret v=>show p
 |false=>
  rw[if_neg jZ];show Wi ⟨g,J,G,l⟩
end
structure It where
 go:Nat->Hp->Prop
 yld:Nat->Hp->V->Hp->Prop
 stop:Nat->Hp->Prop
def tW(X:Cx)(o3:List #[56])(H:Hp)(b:Qp):Prop:=
 H b=Y/\b≠X.env.locals/\b∉X.fs/\(b∈X.ex\/X.s₀.heap.objs.size<=b)/\#[98]/\∀p∈X.pn++o3,p.1≠b
def Inv.IL(I:Inv X o3 σ H s)(B:s.heap.objs.size<=b)(L:H' b=Y):tW X o3 H' b:=by
 show⟨L,Jv (jY I.lt B),I.atQ B,.inr (jc I.sz B),λx c e z=>?_,λp D z=>?_⟩
 ·let⟨v,q⟩:=I.cell x c e;show absurd (jY q.lt (by rw[z];show B)) (JZ _)
 ·show absurd (jY (jM (I.pin p D).1) (by rw[z];show B)) (JZ _)
structure Turn(P:qL)(w:World)(K:Yc)(tg:Expr)(J:It)(fp:List Qp)(it:Qp)(tn:Nat->Heap->Prop):Prop where
 mem:it∈fp
 obj:∀i h,tn i h->∀b∈fp,∃o,h.get? b=Z o/\∀v,o.data≠.cell v
 keep:∀i h h',tn i h->(∀b∈fp,∀o,h.get? b=Z o->h'.get? b=Z o)->tn i h'
 item:∀(X:Cx),X.prog=P->X.w=w->X.K=K->X.calm=true->∀(i:Nat) (o3:List #[56]) (s:qO) (σ:St) (H:Hp) (E:Value->qO->Prop),Inv X o3 σ H s->(∀b∈fp,tW X o3 H b)->tn i s.heap->J.go i H ->
  wpAny #[37] X.A (pyNext #[149]) (λr s1=>∃u,r=Z u /\
   wpAny #[37] X.A (letOwnedTupleGo tg #[149] u) (λ_ s2=>∃x H',Inv X o3 σ H' s2/\RelV x u/\J.yld i H x H'/\tn (i+1) s2.heap/\∀b∈fp,H' b=Y) E s1) E s
 done:∀(X:Cx),X.prog=P->X.w=w->X.K=K->X.calm=true->∀(i:Nat) (o3:List #[56]) (s:qO) (σ:St) (H:Hp) (E:Value->qO->Prop),Inv X o3 σ H s->(∀b∈fp,tW X o3 H b)->tn i s.heap->J.stop i H ->
  wpAny #[37] X.A (pyNext #[149]) (λr s1=>r=Y/\Inv X o3 σ H s1) E s
 self:∀(A:Around) (i:Nat) (s:qO) (Q:Value->qO->Prop) (E:Value->qO->Prop),tn i s.heap->Q #[149] s->wpAny #[37] A (pyIter #[149]) Q E s
abbrev TI:=St->Hp->(It->Hp->Prop)->Prop
def PIE(X:Cx)(o3:List #[56])(σ:St)(tg:Expr)(R:It->Hp->Prop)(itv:Value)(s2:qO):Prop:=
 ∃(it:Qp) (fp:List Qp) (tn:Nat->Heap->Prop) (J:It) (H':Hp),itv=.ref it/\Inv X o3 σ H' s2/\Turn X.prog X.w X.K tg J fp it tn/\tn 0 s2.heap/\(∀b∈fp,tW X o3 H' b)/\R J H'
def PI(X:Cx)(tg iter:Expr)(wi:TI):Prop:=
 ∀(o3:List #[56]) (s:qO) (σ:St) (H:Hp) (R:It->Hp->Prop),Inv X o3 σ H s->wi σ H R ->
  wpAny #[4] X.A (eval iter X.env) (λv s1=>wpAny #[4] X.A (pyIter v) (PIE X o3 σ tg R) X.xe s1) X.xe s
def MN{M:Model}{o:Obj}{n:String}{vs:Array Value}{Q:Unit->qO->Prop}(O:s.heap.get? it=Z o)(L:o.cls=.type n)(j:o.data=.fields vs)(a:["enumerate","zip","dict_itemiterator","dict_reverseitemiterator","odict_iterator","itertools.zip_longest","itertools.pairwise"].contains n=false)(H:Q () s):wpAny M A (letOwnedTupleGo tg #[149] u) Q E s:=by
 unfold letOwnedTupleGo;cases tg<;>first
  |show YB H
  | (cases u<;>first
    |show YB H
    | (show WX (Wt O ?_)
       rw[L,j];change wpAny M A (if (["enumerate","zip","dict_itemiterator","dict_reverseitemiterator","odict_iterator","itertools.zip_longest","itertools.pairwise"].contains n&&vs[0]?==Z (rawInt _))=true then _ else _) Q E s;rw[if_neg (by intro h;rw[a,Bool.false_and]at h;cases h)];show YB H))
def Itl(K:Yc)(a:Qp):It:=
 ⟨λi H=>∃xs x,mC K H a xs/\xs[i]?=Z x,λi H x H'=>H'=H/\∀xs,mC K H a xs->xs[i]?=Z x,λi H=>∃xs,mC K H a xs/\xs.length<=i⟩
def Itt(K:Yc)(a:Qp):It:=
 ⟨λi H=>∃xs x,iu K H a xs/\xs[i]?=Z x,λi H x H'=>H'=H/\∀xs,iu K H a xs->xs[i]?=Z x,λi H=>∃xs,iu K H a xs/\xs.length<=i⟩
def Itr(lo:Int)(n:Nat):It:=⟨λi _=>i<n,λi H x H'=>H'=H/\x=.int (lo+i),λi _=>n<=i⟩
theorem adB(a it:Qp):Turn P w K tg (Itl K a) [it] it (λi h=>h.IsListIter it a i) where
 mem:=by simp
 obj:=λi h st b B=>by
  have e:b=it:=by simpa using B
  subst e;let⟨o,e,c,d⟩:=st;exists 6
 keep:=λi h h' st k=>st.at λo e=>k it #[7] o e
 item:=by exists 4;subst y j g;let⟨xs,x,l,J⟩:=m;let⟨aP,F,p,f⟩:=I.list l;let⟨u,C,N⟩:=F.get J;exists 13;show wpAny_pyNext_list_item st p.isList (x:=u) (by simpa using C) λh' R n=>?_;have r:Inv X o3 σ H {s with heap:=h'}:=I.turned (t':=s.toks) (λb o B e=>(n.2 b B).trans e) T D q S G;let⟨o,e,c,d⟩:=id R;show⟨u,U,MN (s:={s with heap:=h'}) e c d #[9] ⟨x,H,r,N,⟨U,λM t=>by rw[I.J4 t l];show J⟩,R,λb B=>(V b B).1⟩⟩
 done:=by exists 4;subst y j g;let⟨xs,l,J⟩:=m;let⟨aP,F,p,f⟩:=I.list l;exists 13;have O:=F.length;show wpAny_pyNext_list_end #[117] st p.isList (by simp;lia) λh' A=>⟨U,I.turned (t':=s.toks) (λb o B e=>A b o B e) T D q S G⟩
 self:=λ_ _ _ _ _ st h=>wpAny_pyIter_listiter st h
theorem aan(a it:Qp):Turn P w K tg (Itt K a) [it] it (λi h=>h.IsTupleIter it a i) where
 mem:=by simp
 obj:=λi h st b B=>by
  have e:b=it:=by simpa using B
  subst e;let⟨o,e,c,d⟩:=st;exists 6
 keep:=λi h h' st k=>st.at λo e=>k it #[7] o e
 item:=by exists 4;subst y j g;let⟨xs,x,l,J⟩:=m;let⟨aP,F,p,f⟩:=I.tuple l;let⟨u,C,N⟩:=F.get J;exists 13;show wpAny_pyNext_tuple_item st (show s.heap.IsTuple a aP.toArray from p) (x:=u) (by simpa using C) λh' R n=>?_;have r:Inv X o3 σ H {s with heap:=h'}:=I.turned (t':=s.toks) (λb o B e=>(n.2 b B).trans e) T D q S G;let⟨o,e,c,d⟩:=id R;show⟨u,U,MN (s:={s with heap:=h'}) e c d #[9] ⟨x,H,r,N,⟨U,λM t=>by rw[I.BO t l];show J⟩,R,λb B=>(V b B).1⟩⟩
 done:=by exists 4;subst y j g;let⟨xs,l,J⟩:=m;let⟨aP,F,p,f⟩:=I.tuple l;exists 13;have O:=F.length;show wpAny_pyNext_tuple_end #[117] st (show s.heap.IsTuple a aP.toArray from p) (by simp;lia) λh' A=>⟨U,I.turned (t':=s.toks) (λb o B e=>A b o B e) T D q S G⟩
 self:=λ_ _ _ _ _ st h=>wpAny_pyIter_tupleiter st h
theorem aam(it:Qp)(lo:Int)(n:Nat):Turn P w K tg (Itr lo n) [it] it (λi h=>IsRangeIter h it (lo+(i:Nat)*1) ((n:Int)-(i:Nat)) 1) where
 mem:=by simp
 obj:=λi h st b B=>by
  have e:b=it:=by simpa using B
  subst e;show⟨_,st,λv z=>by have p:Data.fields _=Data.cell v:=z;cases p⟩
 keep:=λi h h' st k=>k it #[7] _ st
 item:=by exists 4;subst y j g;exists 13;have W:=Walks.range (prog:=X.prog) (w:=X.w) #[117] it lo 1 n;show W.item i s _ _ m st λv h' tk N R f=>?_;let⟨t,rfl⟩:=N;have a:Inv X o3 σ H {s with heap:=h',toks:=tk}:=I.turned (λb o B e=>f b o (by simpa using B) e) T D q S G;show⟨_,U,MN (s:={s with heap:=h',toks:=tk}) (n:="range_iterator") R rfl rfl #[9] ⟨.int (lo+i),H,a,⟨t,?_⟩,⟨rfl,rfl⟩,R,λb B=>(V b B).1⟩⟩;rw[Qi]
 done:=by exists 4;subst y j g;exists 13;show wpAny_pyNext_range_end #[117] st (by have:n<=i:=m;lia) λh' c=>⟨U,I.turned (t':=s.toks) (λb o B e=>c b o B e) T D q S G⟩
 self:=λ_ _ _ _ _ st h=>wpAny_pyIter_rangeiter st h
variable{wi:TI}
section
def aoI(K:Yc)(tl:TE):TI:=λσ H R=>tl σ H λx H1=>∃a,x=.ref a/\(∃xs,mC K H1 a xs)/\R (Itl K a) H1
def atb(K:Yc)(tl:TE):TI:=λσ H R=>tl σ H λx H1=>∃a,x=.ref a/\(∃xs,iu K H1 a xs)/\R (Itt K a) H1
def cU(C:PE X l tl):PI X tg l (aoI X.K tl):=by exists 30;show cw (C o3 s σ H _ I h) λv T ⟨x,d,P,f,E⟩=>?_;let⟨a,e,⟨xs,c⟩,q⟩:=E;subst e;cases f;let⟨aP,F,p,S⟩:=P.list c;show YE p.isList ?_;show⟨T.heap.objs.size,[T.heap.objs.size],_,_,d,U,P.kept (t':=T.toks) λb o e=>jB _ e,adB a _,⟨_,jJ _ rfl,U,U⟩,λb B=>?_,q⟩;exists 8;subst e;exists 18
def eD(C:PE X l tl):PI X tg l (atb X.K tl):=by exists 30;show cw (C o3 s σ H _ I h) λv T ⟨x,d,P,f,E⟩=>?_;let⟨a,e,⟨xs,c⟩,q⟩:=E;subst e;cases f;let⟨aP,F,p,S⟩:=P.tuple c;show YH (show T.heap.IsTuple a aP.toArray from p) ?_;show⟨T.heap.objs.size,[T.heap.objs.size],_,_,d,U,P.kept (t':=T.toks) λb o e=>jB _ e,aan a _,⟨_,jJ _ rfl,U,U⟩,λb B=>?_,q⟩;exists 8;subst e;exists 18
def af3{R:It->Hp->Prop}{W:Int}{t u v:Tok}{tk:Nat}(I:Inv X o3 σ H s)(G : -(2^62)<=lo)(M:lo<2^62)(B : -(2^62)<=W)(k:W<2^62)(q:R (Itr lo (W-lo).toNat) H):wpAny #[4] X.A (pyIter #[19]) (PIE X o3 σ tg R) E {s with heap:=s.heap.push {cls:=.type "range",data:=.fields #[.int lo t,.int W u,.int 1 v]},toks:=tk}:=by
 show wpAny_pyIter_range (IsRange.new ..) (small_one G M B k) ?_;have P:Inv X o3 σ H {s with heap:=s.heap.push {cls:=.type "range",data:=.fields #[.int lo t,.int W u,.int 1 v]},toks:=tk}:=I.kept λb o e=>jB _ e;show⟨(s.heap.push {cls:=.type "range",data:=.fields #[.int lo t,.int W u,.int 1 v]}).objs.size,[(s.heap.push {cls:=.type "range",data:=.fields #[.int lo t,.int W u,.int 1 v]}).objs.size],_,_,H,rfl,
  P.kept (t':=tk) λb o e=>jB _ e,aam _ lo (W-lo).toNat,?_,λb a=>?_,q⟩
 ·have T:lo+((0:Nat):Int)*1=lo:=by simp
  have g:(((W-lo).toNat:Nat):Int)-((0:Nat):Int)=GP lo W 1:=by rw[rangeSize_one];split<;>lia
  change IsRangeIter _ _ (lo+((0:Nat):Int)*1) ((((W-lo).toNat:Nat):Int)-((0:Nat):Int)) 1;rw[T,g];show jJ _ rfl
 ·have e:b=(s.heap.push {cls:=.type "range",data:=.fields #[.int lo t,.int W u,.int 1 v]}).objs.size:=by simpa using a
  subst e;exists 18
def aoJ(ta:TA):TI:=λσ H R=>ta σ H λvs H1=>∃j:Int,vs=[.int j]/\-(2^62)<=j/\j<2^62/\R (Itr 0 j.toNat) H1
def de{a:Expr}{ta:TA}(m:Gl X "range")(N:X.mg "range" = Y)(W:PA X [a] ta)(hs:WE [a] X.env=[(false,eval a X.env)]:=by rfl):PI X tg (.Call (.Name "range" p) [a] [] pos) (aoJ ta):=by
 exists 30;show Call_ (su I m N boot_range (Yp (cw #[80] λus T ⟨vs,d,P,f,E⟩=>?_) hs rfl));let⟨j,e,E,l,q⟩:=E;subst e;cases f with
 |cons r y=>
  cases y;let⟨t,rfl⟩:=r;show call_range_1 (af3 P #[1] #[1] E l (by simpa using q))
def pQ(wi:TI)(g:TG)(tb:TS):TS:=λD σ H=>wi σ H λJ H1=>∃W:Nat->Nat->St->Hp->Prop,(∃m,W 0 m σ H1)/\∀i m σ H,W i m σ H ->
 (J.stop i H/\D.nx σ H)\/(J.go i H/\∃N:St->Hp->Prop,(∀σ' H',N σ' H'->∃m',m'<m/\W (i+1) m' σ' H')/\∀x H',J.yld i H x H'->g x σ H' λσ2 H2=>tb {D with nx:=N,ct:=N,bk:=D.nx} σ2 H2)
def Lb(fp:List Qp)(h:Heap):List #[56]:=fp.filterMap λb=>(h.get? b).map λo=>(b,o)
def Cy{o:Obj}(B:b∈fp)(e:h.get? b=Z o):(b,o)∈Lb fp h:=Zu.mpr ⟨b,B,by rw[e];rfl⟩
def ac5{p:Qp×Obj}(D:p∈Lb fp h):p.1∈fp/\h.get? p.1=Z p.2:=by
 let⟨b,B,e⟩:=Zu.mp D;cases q:h.get? b with
 |none=>rw[q]at e;cases e
 |some o=>
  rw[q]at e;have E:(b,o)=p:=Option.some.inj e;subst E;show⟨B,q⟩
def Inv.pinned(I:Inv X o3 σ H s)(V:∀b∈fp,tW X o3 H b)(O:∀b∈fp,∃o,s.heap.get? b=Z o/\∀v,o.data≠.cell v):Inv X (o3++Lb fp s.heap) σ H s:=
 I.abo λp D=>(zC.mp D).elim (λz=>I.pin p (jo _ z)) λz=>by let⟨B,e⟩:=ac5 z;let⟨T,a,Q,_⟩:=V p.1 B;let⟨o,E,d⟩:=O p.1 B;rw[e]at E;cases E;show⟨e,T,a,Q,d⟩
def Inv.D3(I:Inv X (o3++pl) σ H s):Inv X o3 σ H s:=I.abo λp D=>I.pin p (jo _ (JH _ D))
def cf{g:TG}(j:qJ #[4] X.A X.env X.xe)(L:X.calm=true)(hi:PI X tg iter wi)(hg:PG X tg g)(B:Ti X body tb)(hs:∀x,foldedSetIterable iter X.env x=pure x:=by intro _;rfl):PS X (.For tg iter body [] pos) (pQ wi g tb):=by
 exists 17;show wpAny_For (cw (hi o3 s σ H _ I h) λv s1 h1=>cw h1 λy4 s2 h2=>?_) hs;let⟨it,fp,Q,J,H2,e,I2,T,t,f2,W,⟨m0,w0⟩,M⟩:=h2;subst e;have q:∀{H':Hp},#[141]->∀b∈fp,tW X o3 H' b:=λhn b B=>⟨hn b B,(f2 b B).2⟩;show codeAny_forLoop_any (λn s'=>∃i O H',Inv X o3 O H' s'/\Q i s'.heap/\#[141]/\W i n O H') ?_ m0 ⟨0,σ,H2,I2,t,λb B=>(f2 b B).1,w0⟩;rintro n s3 ⟨i,a,l,I3,V,F,w3⟩;rcases M i n a l w3 with⟨k,qn⟩|⟨go,N,hN,step⟩
 ·show YA j (cw (T.done X rfl rfl rfl L i o3 s3 a l X.xe I3 (q F) V k) λr s4 ⟨S,I4⟩=>?_);subst S;show Wi ⟨a,l,I4,qn⟩
 ·show YA j (cw (T.item X rfl rfl rfl L i o3 s3 a l X.xe I3 (q F) V go) λr s4 ⟨u,S,h4⟩=>?_);subst S;show YA j (cw h4 λ_ s5 ⟨x,H5,I5,r5,y5,z,C⟩=>?_);have G:=I5.pinned (q C) (T.obj _ _ z);show YA j (cw (hg _ s5 a H5 x u _ G r5 (step x H5 y5)) λ_ s6 ⟨P,H6,I6,q6⟩=>?_);show YA j (cw (B _ s6 P H6 _ I6 q6) λf R y=>?_);have again:∀{p:St} {c:Hp},Inv X (o3++Lb fp s5.heap) p c R->N p c->∃m,m<n/\∃i O H',Inv X o3 O H' R/\Q i R.heap/\#[141]/\W i m O H':=λ{p c} E K=>by let⟨m',hm,w7⟩:=hN p c K;show⟨m',hm,i+1,p,c,E.D3,T.keep _ _ _ z λb B o e=>(E.pin (b,o) (jo _ (jo _ (Cy B e)))).1,λb B=>?_,w7⟩;let⟨o,e,d⟩:=T.obj _ _ z b B;show(E.pin (b,o) (jo _ (jo _ (Cy B e)))).2.1
  cases f with
  |next=>let⟨p,c,E,K⟩:=y;show again E K
  |cont=>let⟨p,c,E,K⟩:=y;show again E K
  |brk=>let⟨p,c,E,y⟩:=y;show⟨p,c,E.D3,y⟩
  |ret v=>let⟨x7,p,c,E,r7,y⟩:=y;show⟨x7,p,c,E.D3,r7,y⟩
end
def fW{g:TG}(f:Nat->St->Hp->Prop)(X:f 0 σ H)(C:∀i σ H,i<=xs.length->f i σ H->mC K H a xs)(hs:∀i x σ H,xs[i]?=Z x->f i σ H->g x σ H λc J=>tb {D with nx:=f (i+1),ct:=f (i+1),bk:=D.nx} c J)(j:∀σ H,f xs.length σ H->D.nx σ H):
  ∃W:Nat->Nat->St->Hp->Prop,#[104]/\∀i m σ H,W i m σ H ->
   ((Itl K a).stop i H/\D.nx σ H)\/((Itl K a).go i H/\∃N:St->Hp->Prop,#[20]/\∀x H',(Itl K a).yld i H x H'->g x σ H' λc J=>tb {D with nx:=N,ct:=N,bk:=D.nx} c J):=by
 exists 3;exists 22;have q:=C i σ H b p;exists 23
 ·show .inr ⟨⟨xs,xs[i],q,by simp[d]⟩,f (i+1),λO H' n=>⟨xs.length-(i+1),by lia,U,d,n⟩,λx H' y=>?_⟩;let⟨e,y⟩:=y;subst e;show hs i x σ _ (y xs q) p
 ·exists 14;subst e;show .inl ⟨⟨xs,q,jE _⟩,j σ H p⟩
def rR{g:TG}(f:Nat->St->Hp->Prop)(X:f 0 σ H)(C:∀i σ H,i<=xs.length->f i σ H->iu K H a xs)(hs:∀i x σ H,xs[i]?=Z x->f i σ H->g x σ H λc J=>tb {D with nx:=f (i+1),ct:=f (i+1),bk:=D.nx} c J)(j:∀σ H,f xs.length σ H->D.nx σ H):
  ∃W:Nat->Nat->St->Hp->Prop,#[104]/\∀i m σ H,W i m σ H ->
   ((Itt K a).stop i H/\D.nx σ H)\/((Itt K a).go i H/\∃N:St->Hp->Prop,#[20]/\∀x H',(Itt K a).yld i H x H'->g x σ H' λc J=>tb {D with nx:=N,ct:=N,bk:=D.nx} c J):=by
 exists 3;exists 22;have q:=C i σ H b p;exists 23
 ·show .inr ⟨⟨xs,xs[i],q,by simp[d]⟩,f (i+1),λO H' n=>⟨xs.length-(i+1),by lia,U,d,n⟩,λx H' y=>?_⟩;let⟨e,y⟩:=y;subst e;show hs i x σ _ (y xs q) p
 ·exists 14;subst e;show .inl ⟨⟨xs,q,jE _⟩,j σ H p⟩
def hZ{g:TG}(f:Nat->St->Hp->Prop)(X:f 0 σ H)(hs:∀i σ H,i<n->f i σ H->g (.int (lo+i)) σ H λc J=>tb {D with nx:=f (i+1),ct:=f (i+1),bk:=D.nx} c J)(j:∀σ H,f n σ H->D.nx σ H):
  ∃W:Nat->Nat->St->Hp->Prop,#[104]/\∀i m σ H,W i m σ H ->
   ((Itr lo n).stop i H/\D.nx σ H)\/((Itr lo n).go i H/\∃N:St->Hp->Prop,#[20]/\∀x H',(Itr lo n).yld i H x H'->g x σ H' λc J=>tb {D with nx:=N,ct:=N,bk:=D.nx} c J):=by
 show⟨λi m σ H=>m=n-i/\i<=n/\f i σ H,⟨n,by simp,jb _,X⟩,?_⟩;exists 22;by_cases d:i<n
 ·show .inr ⟨d,f (i+1),λO H' a=>⟨n-(i+1),by lia,U,d,a⟩,λx H' y=>?_⟩;let⟨e,y⟩:=y;subst e y;show hs i σ _ d p
 ·have e:i=n:=by lia
  subst e;show .inl ⟨jE _,j σ H p⟩
abbrev R2:=V->V->Hp->VK->Prop
def Ax(X:Cx)(f:Value->Value->qM Value)(r:R2):Prop:=
 ∀(o3:List #[56]) (s:qO) (σ:St) (H:Hp) (x y:V) (v u:Value) (Q:VK),Inv X o3 σ H s->RelV x v->RelV y u->r x y H Q ->
  wpAny #[4] X.A (f v u) #[76] X.xe s
def UnR(X:Cx)(f:Value->qM Value)(r:V->Hp->VK->Prop):Prop:=
 ∀(o3:List #[56]) (s:qO) (σ:St) (H:Hp) (x:V) (v:Value) (Q:VK),Inv X o3 σ H s->RelV x v->r x H Q ->
  wpAny #[4] X.A (f v) #[76] X.xe s
def iQ(X:Cx)(f:Value)(r:List V->Hp->VK->Prop):Prop:=
 ∀(o3:List #[56]) (s:qO) (σ:St) (H:Hp) (xs:List V) (us:List Value) (Q:VK),Inv X o3 σ H s->Vals xs us->r xs H Q ->
  wpAny #[4] X.A (call f us) #[76] X.xe s
def aro(X:Cx)(r:V->Hp->(Bool->Hp->Prop)->Prop):Prop:=
 ∀(o3:List #[56]) (s:qO) (σ:St) (H:Hp) (x:V) (v:Value) (Q:Bool->Hp->Prop),Inv X o3 σ H s->RelV x v->r x H Q ->
  wpAny #[4] X.A (truthy v) (TP X o3 σ Q) X.xe s
def tOp(r:R2)(ta tb:TE):TE:=λσ H Q=>ta σ H λx H1=>tb σ H1 λy H2=>r x y H2 Q
def tUn(r:V->Hp->VK->Prop)(ta:TE):TE:=λσ H Q=>ta σ H λx H1=>r x H1 Q
inductive rI (C:Int->Int->Prop) (g:Int->Int->V) (x:V) (y:V) (H:Hp) (Q:VK):Prop|mk (i:_) (j:_) (_:x=.int i) (_:y=.int j) (_:C i j) (_:Q (g i j) H)
inductive rI0 (g:Int->Int->V) (x:V) (y:V) (H:Hp) (Q:VK):Prop|mk (i:_) (j:_) (_:x=.int i) (_:y=.int j) (_:Q (g i j) H)
inductive rU (g:Int->V) (x:V) (H:Hp) (Q:VK):Prop|mk (i:_) (_:x=.int i) (_:Q (g i) H)
section
variable{a b:Expr}{tb:TE}
def akh(W:PE X a ta)(B:PE X b tb){R:V->V->Hp->Prop}(I:Inv X o3 σ H s)(h:ta σ H λx d=>tb σ d λy J=>R x y J){f:Value->Value->qM Value}(c:∀v u n x y J,Inv X o3 σ J n->RelV x v->RelV y u->R x y J->wpAny #[4] X.A (f v u) Q X.xe n):
  wpAny #[4] X.A (eval a X.env) (λv K=>wpAny #[4] X.A (eval b X.env) (λu j=>wpAny #[4] X.A (f v u) Q X.xe j) X.xe K) X.xe s:=by
 show cw #[40] λv T ⟨x,d,P,e,E⟩=>?_;show cw (B o3 T σ d _ P E) λu n ⟨y,J,G,i,l⟩=>?_;show c v u n x y J G e i l
def aC{m:Operator}{r:R2}(O:Ax X (binaryOp m) r)(W:PE X a ta)(B:PE X b tb):PE X (.BinOp a m b pos) (tOp r ta tb):=by exists 2;show wpAny_BinOp (akh W B I h λv u n x y J G D c q=>O o3 n σ J x y v u Q G D c q)
def apf{m:UnaryOp}{r:V->Hp->VK->Prop}(O:UnR X (unaryOp m) r)(W:PE X a ta):PE X (.UnaryOp m a pos) (tUn r ta):=by exists 2;show UnaryOp_ (cw #[40] λv T ⟨x,d,P,f,E⟩=>O o3 T σ d x v Q P f E)
def opI{f:Value->Value->qM Value}{C:Int->Int->Prop}{g:Int->Int->Int}(rule:∀(i j:Int) (t u:Tok) (s:qO) (Q:Value->qO->Prop) (E:Value->qO->Prop),C i j->Q (.int (g i j) s.toks) {s with toks:=s.toks+1}->wpAny #[4] X.A (f (.int i t) (.int j u)) Q E s):
  Ax X f (rI C λi j=>.int (g i j)):=by
 exists 5;let⟨i,j,rfl,rfl,L,q⟩:=h;exists 7;let⟨t',rfl⟩:=c;show rule i j t t' s _ _ L ⟨.int (g i j),H,I.tok _,⟨_,U⟩,q⟩
def apb{f:Value->Value->qM Value}{g:Int->Int->Int}(rule:∀(i j:Int) (t u:Tok) (s:qO) (Q:Value->qO->Prop) (E:Value->qO->Prop),Q (.int (g i j) s.toks) {s with toks:=s.toks+1}->wpAny #[4] X.A (f (.int i t) (.int j u)) Q E s):
  Ax X f (rI0 λi j=>.int (g i j)):=by
 exists 5;let⟨i,j,rfl,rfl,q⟩:=h;exists 7;let⟨t',rfl⟩:=c;show rule i j t t' s _ _ ⟨.int (g i j),H,I.tok _,⟨_,U⟩,q⟩
def aii{f:Value->Value->qM Value}{g:Int->Int->Bool}(rule:∀(i j:Int) (t u:Tok) (s:qO) (Q:Value->qO->Prop) (E:Value->qO->Prop),Q (.bool (g i j)) s->wpAny #[4] X.A (f (.int i t) (.int j u)) Q E s):
  Ax X f (rI0 λi j=>.bl (g i j)):=by
 exists 5;let⟨i,j,rfl,rfl,q⟩:=h;exists 7;let⟨t',rfl⟩:=c;show rule i j t t' s _ _ ⟨.bl (g i j),H,I,U,q⟩
def aq6(i j:Int):Prop:=0<j/\j<1073741824
def am3(i j:Int):Prop:=j≠0/\j.natAbs<1073741824
def aq7(i j:Int):Prop:=0<=j/\j<=1000000/\i.natAbs<2^64
def aj7(i j:Int):Prop:=(-(2^64)<i/\i<2^64)\/(-(2^64)<j/\j<2^64)
def aj7.ok{i j:Int}(h:aj7 i j):IntMulOk i j:=by
 rcases h with⟨G,M⟩|⟨G,M⟩
 ·show .of_left (intBits_le_64 G M)
 ·show .of_right (intBits_le_64 G M)
def cJ:Ax X (binaryOp .Add) (rI0 λi j=>.int (i+j)):=apb λ_ _ _ _ _ _ _ q=>add_int q
def AU:Ax X (binaryOp .Sub) (rI0 λi j=>.int (i-j)):=apb λ_ _ _ _ _ _ _ q=>sub_int q
def wD:Ax X (binaryOp .Mult) (rI aj7 λi j=>.int (i*j)):=opI λ_ _ _ _ _ _ _ L q=>mul_int q L.ok
def cz:Ax X (binaryOp .FloorDiv) (rI aq6 λi j=>.int (i / j)):=opI λi j _ _ _ _ _ L q=>by have G:(0:Int)<j:=L.1;have M:j<1073741824:=L.2;show qq #[1] (by rw[ZI i #[1]];show q) (.inl (Xa #[1]))
def Sj:Ax X (binaryOp .FloorDiv) (rI am3 λi j=>.int (i.fdiv j)):=opI λ_ _ _ _ _ _ _ L q=>qq L.1 q (.inl (Xa L.2))
def bK:Ax X (binaryOp .Mod) (rI (λ_ j=>0<j) λi j=>.int (i%j)):=opI λi j _ _ _ _ _ L q=>by have G:(0:Int)<j:=L;show mod_int' #[1] (by rw[Int.fmod_eq_emod_of_nonneg i #[1]];show q)
def K4:Ax X (binaryOp .Pow) (rI aq7 λi j=>.int (i^j.toNat)):=opI λ_ _ _ _ _ _ _ L q=>pow_int_small L.1 L.2.1 L.2.2 q
def unI{f:Value->qM Value}{g:Int->Int}(rule:∀(i:Int) (t:Tok) (s:qO) (Q:Value->qO->Prop) (E:Value->qO->Prop),Q (.int (g i) s.toks) {s with toks:=s.toks+1}->wpAny #[4] X.A (f (.int i t)) Q E s):
  UnR X f (rU λi=>.int (g i)):=by
 intro o3 s σ H x v Q I D h;let⟨i,rfl,q⟩:=h;exists 7;show rule i t s _ _ ⟨.int (g i),H,I.tok _,⟨_,U⟩,q⟩
def ami:UnR X (unaryOp .USub) (rU λi=>.int (-i)):=unI λ_ _ _ _ _ q=>neg_int q
end
def apC:V->V->Bool
 |.non,.non=>true|.non,.int _=>true|.int _,.non=>true|.non,.bl _=>true|.bl _,.non=>true|.non,.str _=>true|.str _,.non=>true
 |.int _,.int _=>true|.bl _,.bl _=>true|.str _,.str _=>true|.Tn _,.Tn _=>true
 |.int _,.str _=>true|.str _,.int _=>true|.bl _,.str _=>true|.str _,.bl _=>true
 |_,_=>false
structure rEq(x:V)(y:V)(H:Hp)(Q:VK):Prop where
 h0:apC x y=true
 h1:Q (.bl (decide (x=y))) H
structure rNe(x:V)(y:V)(H:Hp)(Q:VK):Prop where
 h0:apC x y=true
 h1:Q (.bl (!decide (x=y))) H
def aaK{i j:Int}:decide (V.int i=V.int j)=(i==j):=by rw[zp];simp
def aea{i j:Bool}:decide (V.bl i=V.bl j)=(i==j):=by rw[zp];simp
def aaL{i j:Str}:decide (V.str i=V.str j)=(i==j):=by rw[zp];simp
def aaJ{i j:Array UInt8}:decide (V.Tn i=V.Tn j)=(i.toList==j.toList):=by rw[zp];cases i;cases j;simp
section
variable{a b:Expr}{tb tc:TE}
def cn{Q:VK}{k t:Bool}(I:Inv X o3 σ H s)(q:Q (.bl k) H)(e:k=t):EP X o3 σ Q (.bool t) s:=by subst e;show⟨.bl k,H,I,U,q⟩
def cK:Ax X (qf .Eq) rEq:=by
 exists 5;let⟨hs,q⟩:=h;cases x with
 |non=>
  cases D;cases y with
  |non=>cases c;show xg #[54]
  |bl j=>cases c;show xh #[54]
  |int j=>let⟨t',rfl⟩:=c;show xw #[54]
  |str j=>let⟨t',rfl⟩:=c;show xx #[54]
  |_=>show absurd (show false=true from hs) jZ
 |bl i=>
  cases D;cases y with
  |non=>cases c;show xi #[54]
  |bl j=>cases c;show eq_bool (cn I q aea)
  |str j=>let⟨t',rfl⟩:=c;show xj #[54]
  |_=>show absurd (show false=true from hs) jZ
 |int i=>
  exists 7;cases y with
  |non=>cases c;show GA #[54]
  |int j=>let⟨t',rfl⟩:=c;show eq_int (cn I q aaK)
  |str j=>let⟨t',rfl⟩:=c;show GB #[54]
  |_=>show absurd (show false=true from hs) jZ
 |str i=>
  exists 7;cases y with
  |non=>cases c;show GC #[54]
  |bl j=>cases c;show xm #[54]
  |int j=>let⟨t',rfl⟩:=c;show GD #[54]
  |str j=>let⟨t',rfl⟩:=c;show eq_str (cn I q aaL)
  |_=>show absurd (show false=true from hs) jZ
 |Tn i=>
  exists 7;cases y with
  |Tn j=>let⟨t',rfl⟩:=c;show PySem.W.eq_bytes (cn I q aaJ)
  |_=>show absurd (show false=true from hs) jZ
 |_=>cases y<;>show absurd (show false=true from hs) jZ
def tE:Ax X (qf .NotEq) rNe:=by
 exists 5;let⟨hs,q⟩:=h;cases x with
 |non=>
  cases D;cases y with
  |non=>cases c;show xn #[54]
  |bl j=>cases c;show xo #[54]
  |int j=>let⟨t',rfl⟩:=c;show GF #[54]
  |str j=>let⟨t',rfl⟩:=c;show GG #[54]
  |_=>show absurd (show false=true from hs) jZ
 |bl i=>
  cases D;cases y with
  |non=>cases c;show xp #[54]
  |bl j=>cases c;show ne_bool (cn I q (congrArg not aea))
  |str j=>let⟨t',rfl⟩:=c;show xq #[54]
  |_=>show absurd (show false=true from hs) jZ
 |int i=>
  exists 7;cases y with
  |non=>cases c;show GH #[54]
  |int j=>let⟨t',rfl⟩:=c;show ne_int (cn I q (congrArg not aaK))
  |str j=>let⟨t',rfl⟩:=c;show GI #[54]
  |_=>show absurd (show false=true from hs) jZ
 |str i=>
  exists 7;cases y with
  |non=>cases c;show GJ #[54]
  |bl j=>cases c;show xr #[54]
  |int j=>let⟨t',rfl⟩:=c;show GK #[54]
  |str j=>let⟨t',rfl⟩:=c;show ne_str (cn I q (congrArg not aaL))
  |_=>show absurd (show false=true from hs) jZ
 |Tn i=>
  exists 7;cases y with
  |Tn j=>let⟨t',rfl⟩:=c;show PySem.W.ne_bytes (cn I q (congrArg not aaJ))
  |_=>show absurd (show false=true from hs) jZ
 |_=>cases y<;>show absurd (show false=true from hs) jZ
def Sl:Ax X (qf .Lt) (rI0 λi j=>.bl (decide (i<j))):=aii λ_ _ _ _ _ _ _ q=>lt_int q
def Sk:Ax X (qf .LtE) (rI0 λi j=>.bl (decide (i<=j))):=aii λ_ _ _ _ _ _ _ q=>le_int q
def N2:Ax X (qf .Gt) (rI0 λi j=>.bl (decide (j<i))):=aii λ_ _ _ _ _ _ _ q=>gt_int q
def afz:Ax X (qf .GtE) (rI0 λi j=>.bl (decide (j<=i))):=aii λ_ _ _ _ _ _ _ q=>ge_int q
structure afA(x:V)(y:V)(H:Hp)(Q:VK):Prop where
 h0:y=.non
 h1:Q (.bl (decide (x=.non))) H
def Z1:Ax X (qf .Is) (afA):=by
 exists 5;let⟨rfl,q⟩:=h;cases c;show is_none_gen (cn I q ?_);cases x<;>first
  |(cases D;rfl)
  |(let⟨t,rfl⟩:=D;rfl)
def aL(b:Expr){m:Qt}(h:m≠.In:=by decide)(M:m≠.NotIn:=by decide):qT m b=false:=by
 have T:(m==CmpOp.In)=false:=by cases m<;>first|rfl|show absurd rfl h
 have g:(m==CmpOp.NotIn)=false:=by cases m<;>first|rfl|show absurd rfl M
 cases b<;>simp[qT,T,g]
def eO{m:Qt}{r:R2}(O:Ax X (qf m) r)(W:PE X a ta)(B:PE X b tb)(N:qT m b=false):PE X (.Compare a [m] [b] pos) (tOp r ta tb):=by exists 2;show wpAny_Compare1 (akh W B I h λv u n x y J G D c q=>O o3 n σ J x y v u Q G D c q) N
inductive aiW (Q:Bool->Hp->Prop) (x:V) (H':Hp):Prop|mk (k:_) (_:x=.bl k) (_:Q k H')
def aj1(t:TE):TT:=λσ H Q=>t σ H (aiW Q)
def aG{m:Qt}{r:R2}(O:Ax X (qf m) r)(W:PE X a ta)(B:PE X b tb)(N:qT m b=false):PT X (.Compare a [m] [b] pos) (aj1 (tOp r ta tb)):=by
 exists 2;show Wr (cw #[40] λv T ⟨x,d,P,f,E⟩=>cw (B o3 T σ d _ P E) λu n ⟨y,J,G,i,l⟩=>
  cw (O o3 n σ J x y v u _ G f i l) λc g ⟨z,o,j,q,k,e,p⟩=>?_) N
 subst e;cases q;show YV ⟨o,j,p⟩
def agy(r r':R2)(ta tb tc:TE):TE:=λσ H Q=>ta σ H λx H1=>tb σ H1 λy H2=>r x y H2 λz H3=>∃k,z=.bl k /\
 (if k=true then tc σ H3 λw' H4=>r' y w' H4 Q else Q (.bl false) H3)
def afG{m A:Qt}{r F:R2}(O:Ax X (qf m) r)(C:Ax X (qf A) F)(W:PE X a ta)(B:PE X b tb)(L:PE X c tc)(N:lastMarks [m,A] [b,c]=false:=by with_unfolding_all rfl):PE X (.Compare a [m,A] [b,c] pos) (agy r F ta tb tc):=by
 exists 2;show Compare_chain (cw #[40] λv T ⟨x,f,P,g,E⟩=>chain_link (cw (B o3 T σ f _ P E) λu n ⟨y,J,G,i,l⟩=>
  cw (O o3 n σ J x y v u _ G g i l) λd q ⟨z,o,j,t,k,e,p⟩=>?_)) N
 subst e;cases t;show YV ?_;cases k with
 |false=>show ite_ff ⟨.bl false,o,j,rfl,p⟩
 |true=>show ite_tt (chain_last (cw (L o3 q σ o _ j p) λK w ⟨D,R,M,S,V⟩=>C o3 w σ R y D u K Q M i S V))
def afT{m A:Qt}{r F:R2}(O:Ax X (qf m) r)(C:Ax X (qf A) F)(W:PE X a ta)(B:PE X b tb)(L:PE X c tc)(N:lastMarks [m,A] [b,c]=false:=by with_unfolding_all rfl):PT X (.Compare a [m,A] [b,c] pos) (aj1 (agy r F ta tb tc)):=by
 exists 2;show isTrue_chain (cw #[40] λv T ⟨x,f,P,g,E⟩=>test_link (cw (B o3 T σ f _ P E) λu n ⟨y,J,G,i,l⟩=>
  cw (O o3 n σ J x y v u _ G g i l) λd q ⟨z,o,j,t,k,e,p⟩=>?_)) N
 subst e;cases t;show YV ?_;cases k with
 |false=>
  let⟨k',w,D⟩:=p;cases w;show ite_ff ⟨o,j,D⟩
 |true=>
  show ite_tt (test_last (cw (L o3 q σ o _ j p) λK M ⟨R,S,V,r4,q4⟩=>cw (C o3 M σ S y R u K _ V i r4 q4) λd' s5 ⟨z2,H5,I5,r5,k2,e2,q5⟩=>?_));subst e2;cases r5;show YV ⟨H5,I5,q5⟩
def anq(K:Yc)(x:V)(H:Hp)(k:Bool):Prop:=
 match x with
 |.non=>k=false
 |.bl b=>k=b
 |.int i=>k=(i != 0)
 |.str y=>y.length<=sizeLine/\k=((y.length:Int) != 0)
 |.Tn y=>y.size<=sizeLine/\k=((y.size:Int) != 0)
 |.ref p=>(∃xs,mC K H p xs/\k=!xs.isEmpty)\/(∃xs,iu K H p xs/\k=!xs.isEmpty)\/∃kvs,H p=Z #[58]/\k=!kvs.isEmpty
 |_=>False
def W7{kvs:List (κ×V)}{vs:List (κ×Value)}(r:KV kvs vs):(!vs.isEmpty)=!kvs.isEmpty:=by cases r<;>rfl
def IW(r:Vals xs aP):(!aP.toArray.isEmpty)=!xs.isEmpty:=by cases r<;>simp
def Cw:(sizeLine:Nat)<2^63:=by rw[WD];decide
def amh:aro X (λx H Q=>∃k,anq X.K x H k/\Q k H):=by
 intro o3 s σ H x v Q I D h;let⟨k,e,q⟩:=h;have C:=Cw;have hs:sizeLine=16777216:=WD;cases x with
 |non=>
  cases D;have E:k=false:=e;subst E;show truthy_none ⟨H,I,q⟩
 |bl b=>
  cases D;have E:k=b:=e;subst E;show YV ⟨H,I,q⟩
 |int i=>
  exists 7;have E:k=(i != 0):=e;subst E;show PySem.P.truthy_int ⟨H,I,q⟩
 |str y=>
  exists 7;obtain⟨G,E⟩:y.length<=sizeLine/\k=((y.length:Int) != 0):=e;subst E;show PySem.P.truthy_str #[1] ⟨H,I.tok _,q⟩
 |Tn y=>
  exists 7;obtain⟨G,E⟩:y.size<=sizeLine/\k=((y.size:Int) != 0):=e;subst E;show PySem.W.truthy_bytes #[1] ⟨H,I.tok _,q⟩
 |ref p=>
  cases D;have E:(∃xs,mC X.K H p xs/\k=!xs.isEmpty)\/(∃xs,iu X.K H p xs/\k=!xs.isEmpty)\/∃B,H p=Z (.dK B)/\k=!B.isEmpty:=e;rcases E with⟨xs,J,E⟩|⟨xs,J,E⟩|⟨B,J,E⟩
  ·subst E;let⟨aP,r,pl,S⟩:=I.list J;have M:=r.length;show wpAny_truthy_list pl.isList (by simp only[jP];lia) ⟨H,I.tok _,by rw[IW r];show q⟩
  ·subst E;let⟨aP,r,pl,S⟩:=I.tuple J;have M:=r.length;show truthy_tuple pl (by simp only[jP];lia) ⟨H,I.tok _,by rw[IW r];show q⟩
  ·subst E;obtain⟨S,g,vs,r,m⟩:B.length<=sizeLine/\(p==WJ)=false/\∃vs,KV B vs/\s.heap.DictOf #[168] p vs:=I.hok p _ J;have M:B.length=vs.length:=Paired.length r;show wpAny_truthy_dict g m #[1] ⟨H,I.tok _,by rw[W7 r];show q⟩
 |_=>show(show False from e).elim
def AX(W:PE X a ta)(R:∀b,isTrue a X.env b=(do let v <-b;standAt a.pos;holding [v] (truthy v))):
  PT X a (λσ H Q=>ta σ H λx H'=>∃k,anq X.K x H' k/\Q k H'):=by
 exists 2;show isTrue_plain (cw #[40] λv T ⟨x,d,P,f,E⟩=>amh o3 T σ d x v Q P f E) (R _)
inductive Pg (x:V) (y:V) (H:Hp) (Q:VK):Prop|mk (i:_) (j:_) (_:x=.str i) (_:y=.str j) (_:i.length+j.length<=sizeLine) (_:Q (.str (i++j)) H)
def wC:Ax X (binaryOp .Add) (Pg):=by exists 5;let⟨i,j,rfl,rfl,S,q⟩:=h;exists 7;let⟨t',rfl⟩:=c;show add_str (λt' tk=>⟨.str (i++j),H,I.tok _,⟨_,U⟩,q⟩) S
def vals1{x:V}(r:Vals [x] us):∃u,us=[u]/\RelV x u:=by
 cases r with
 |cons f i=>cases i;show⟨_,rfl,f⟩
theorem vals2{x:V}(r:Vals [x,y] us):∃u K,us=[u,K]/\RelV x u/\RelV y K:=by
 cases r with
 |cons f i=>
  cases i with
  |cons q S=>cases S;show⟨_,_,rfl,f,q⟩
inductive Rq (xs:List V) (H:Hp) (Q:VK):Prop|mk (i:_) (j:_) (_:xs=[.int i,.int j]) (_:Q (.int (if j > i then j else i)) H)
def acg(L:X.calm=true):iQ X (.builtin "max") (Rq):=by
 exists 20;let⟨i,j,rfl,q⟩:=h;let⟨u,K,rfl,⟨t,rfl⟩,⟨t',rfl⟩⟩:=vals2 r;show max_two_ints #[117] λh' tk k=>⟨_,H,I.kept k,?_,q⟩;by_cases f:j > i
 ·rw[if_pos f,if_pos f];show⟨_,rfl⟩
 ·rw[if_neg f,if_neg f];show⟨_,rfl⟩
inductive Rr (xs:List V) (H:Hp) (Q:VK):Prop|mk (i:_) (j:_) (_:xs=[.int i,.int j]) (_:Q (.int (if j<i then j else i)) H)
def ach(L:X.calm=true):iQ X (.builtin "min") (Rr):=by
 exists 20;let⟨i,j,rfl,q⟩:=h;let⟨u,K,rfl,⟨t,rfl⟩,⟨t',rfl⟩⟩:=vals2 r;show min_two_ints #[117] λh' tk k=>⟨_,H,I.kept k,?_,q⟩;by_cases f:j<i
 ·rw[if_pos f,if_pos f];show⟨_,rfl⟩
 ·rw[if_neg f,if_neg f];show⟨_,rfl⟩
def Ez:iQ X (.type "int") (λxs H Q=>(∃i,xs=[.int i]/\Q (.int i) H)\/∃k,xs=[.bl k]/\Q (.int (if k then 1 else 0)) H):=by
 exists 20;rcases h with⟨i,rfl,q⟩|⟨k,rfl,q⟩
 ·let⟨u,rfl,t,rfl⟩:=vals1 r;show call_int_int ⟨.int i,H,I,⟨_,U⟩,q⟩
 ·let⟨u,rfl,f⟩:=vals1 r;cases f;show call_int_bool ⟨.int (if k then 1 else 0),H,I.tok _,⟨_,U⟩,q⟩
def arb(K:Yc)(x:V)(H:Hp)(n:Nat):Prop:=
 match x with
 |.str y=>y.length<=sizeLine/\n=y.length
 |.Tn y=>y.size<=sizeLine/\n=y.size
 |.ref p=>(∃xs,mC K H p xs/\n=xs.length)\/∃xs,iu K H p xs/\n=xs.length
 |_=>False
inductive T9 (K0:Yc) (xs:List V) (H:Hp) (Q:VK):Prop|mk (x:_) (n:_) (_:xs=[x]) (_:arb K0 x H n) (_:Q (.int n) H)
def Rn:iQ X #[159] (T9 X.K):=by
 exists 20;let⟨x,n,rfl,e,q⟩:=h;exists 21;have C:=Cw;have hs:sizeLine=16777216:=WD;cases x with
 |str y=>
  exists 7;obtain⟨G,E⟩:y.length<=sizeLine/\n=y.length:=e;subst E;show len_str #[1] ⟨.int _,H,I.tok _,⟨_,U⟩,q⟩
 |Tn y=>
  exists 7;obtain⟨G,E⟩:y.size<=sizeLine/\n=y.size:=e;subst E;show PySem.W.len_bytes #[1] ⟨.int _,H,I.tok _,⟨_,U⟩,q⟩
 |ref p=>
  cases D;have E:(∃xs,mC X.K H p xs/\n=xs.length)\/∃xs,iu X.K H p xs/\n=xs.length:=e;rcases E with⟨xs,J,E⟩|⟨xs,J,E⟩
  ·subst E;let⟨aP,F,pl,S⟩:=I.list J;exists 33;show Xl pl.isList (by simp only[jP];lia) ⟨.int xs.length,H,I.tok _,⟨_,by simp only[jP];rw[M]⟩,q⟩
  ·subst E;let⟨aP,F,pl,S⟩:=I.tuple J;exists 33;show len_tuple pl (by simp only[jP];lia) ⟨.int xs.length,H,I.tok _,⟨_,by simp only[jP];rw[M]⟩,q⟩
 |_=>show(show False from e).elim
end
variable{r:R2}
structure TK(h:Heap)(x dx C:Qp)(mA:Str->Option Value):Prop where
 obj:h.get? x=Z (yA C dx)
 ns:h.Ns1 dx mA
 ne:dx≠x
def acZ(n:h.Ns1 dx mA):∃od,h.get? dx=Z od/\∀name,yw name od=Z (mA name):=by
 let⟨o,es,T,O,j,R,_,N⟩:=n;show⟨o,O,λname=>?_⟩;have e:=N name;unfold nsFind findBy at e;rw[<-Array.find?_toList]at e;unfold yw;rw[j];dsimp only;split
 ·rename_i y q;rw[q]at e;show congrArg Z e
 ·rename_i q;rw[q]at e;have a:es.toList.any (·.refKey)=false:=by rw[List.any_eq_false];intro y G;let⟨z,t,r⟩:=R y (Array.mem_toList_iff.mp G);simp[DictEntry.refKey,r]
  have f:¬ es.toList.any (·.refKey)=true:=by rw[a];show jZ
  rw[if_neg f];show congrArg Z e
def TK.look{x:Qp}(I:TK h x dx C mA):∃od,PySem.W.InstAt h x (yA C dx) C (Z od)/\∀name,yw name od=Z (mA name):=
 let ⟨od,ho,hl⟩:=acZ I.ns
 ⟨od,⟨I.obj,rfl,rfl,ho⟩,hl⟩
section
variable{x:Qp}{v:Value}
def get_map(X:K.In s.heap)(I:TK s.heap x dx C mA)(m:yh K C name=true)(f:XJ K C=true)(a:Yf K #[189] name=Z Y)(N:mA name=Z v)(D:xK v=true)(h:Q v {s with toks:=s.toks+1}):
  wpAny #[8] A (getAttr #[164] name expr) Q E s:=by
 let⟨od,J,b⟩:=I.look;show PySem.W.get_value X J (yu m).1 (PySem.W.findObj_own f a rfl (by rw[b,N])) D h
def aer{pl:qM Bool}{Q:Value×List Value->qO->Prop}(X:K.In s.heap)(I:TK s.heap x dx C mA)(m:yh K C name=true)(V:Yf K #[189] name=Z (Z #[68]))(p:yU K #[68]=true)(N:mA name=Y)(h:Q (.ref f,[.ref x]) s):
  wpAny #[8] A (getMethod #[164] name pl) Q E s:=by
 let⟨od,J,a⟩:=I.look;show PySem.W.method_fn X J (yu m).1 (yu m).2 V (beq_iff_eq.mp p) (by change(yw name od).map (·.isSome)=Z false;rw[a,N];rfl) h
def aiE{Q:Unit->qO->Prop}(X:K.In s.heap)(I:TK s.heap x dx C mA)(hs:Yf K #[189] "__setattr__" = Z (Z (.builtin "object.__setattr__")))(D:xC K C=true)(p:XY K C name=Z Y)(f:XJ K C=true)(j:Xv mA ns)(hsz:ns.length<=sizeLine)(h:∀h',TK h' x dx C (λy=>if y=name then Z v else mA y)->Yj dx s.heap h'->Q () {s with heap:=h',toks:=s.toks+2}):
  wpAny #[8] A (setAttr #[164] name v) Q E s:=by
 let⟨od,J,l⟩:=I.look;show PySem.W.set_plain X J hs (PySem.W.osa_open (s:={s with toks:=s.toks+1}) (r:=Y) X J D p λb=>?_);let⟨cd,L,F⟩:=PySem.W.any_some f;have g:s.heap.get? x=Z ⟨.ref C,Z dx,.plain,#[]⟩:=I.obj;show WX (YB (WX (WX (wpAny_loadPart g (WX (Gr (s:={s with toks:=s.toks+1}) (PySem.W.looks_clsIn X L) ?_))))));rw[F];show YB (a:=Z dx) (WX (YB (WX ?_)));show wpAny_nsSet1 (s:={s with toks:=s.toks+1}) I.ns λh' R M=>?_;let⟨m,i,k,c,d,e⟩:=R.count (Gu name v j);show WX (wpAny_lookBehind c (by rw[d];show pastItsLine_dict (jc e (by rw[jX];lia))) ?_);show YB (h _ ⟨(M.2 _ (Ne.symm I.ne)).trans I.obj,R,I.ne⟩ M)
def aeZ{vs:List Value}{q:List #[139]}(X:K.In s.heap)(N:XZ K C=true)(a:Yf K #[189] "__init__" = Z (Z #[68]))(V:PySem.W.typeIn K #[68]=Z (.type "function"))(h:codeAny #[8] (A.under (.builtin "type.__call__" ⟨.ref C::vs,q⟩)) (.call #[68] ⟨.ref #[16]::vs,q⟩) (PySem.W.InitBack #[16] R)
   {s with heap:=(s.heap.push Yt).push (yA C s.heap.objs.size)}):
  codeAny #[8] A (.call #[189] ⟨vs,q⟩) R s:=by
 let⟨b,g,d,t,os⟩:=s;show PySem.W.make_core (PySem.W.makes_of X N) (PySem.W.looks_findIn X a) (λself=>PySem.W.bind_fn X self V) #[90] h
end
def tI(f:Str)(v:V):List (Str×V)->List (Str×V)
 |[]=>[(f,v)]
 |(g,x)::r=>if g=f then(g,v)::r else(g,x)::tI f v r
theorem FO(f g:Str)(v:V):∀fs:List (Str×V),(tI f v fs).lookup g=if g=f then Z v else fs.lookup g
 |[]=>by
  change Jn g [(f,v)]=_;by_cases h:g=f
  ·have B:(g==f)=true:=beq_iff_eq.mpr h;simp only[Jn,B,if_pos h]
  ·have B:(g==f)=false:=beq_eq_false_iff_ne.mpr h;simp only[Jn,B,if_neg h]
 |(k,x)::r=>by
  have K:=FO f g v r;rw[show tI f v ((k,x)::r)=(if k=f then(k,v)::r else(k,x)::tI f v r)from rfl];by_cases R:k=f
  ·rw[if_pos R];by_cases h:g=k
   ·have B:(g==k)=true:=beq_iff_eq.mpr h;simp only[Jn,B,if_pos (h.trans R)]
   ·have B:(g==k)=false:=beq_eq_false_iff_ne.mpr h;simp only[Jn,B,if_neg (λe:g=f=>h (e.trans R.symm))]
  ·rw[if_neg R];by_cases h:g=k
   ·have B:(g==k)=true:=beq_iff_eq.mpr h;simp only[Jn,B,if_neg (λe:g=f=>R (h.symm.trans e))]
   ·have B:(g==k)=false:=beq_eq_false_iff_ne.mpr h;simp only[Jn,B];show K
theorem EH(f:Str)(v:V):∀fs:List (Str×V),f∈(tI f v fs).map (·.1)/\∀g,g∈fs.map (·.1)->g∈(tI f v fs).map (·.1)
 |[]=>⟨by simp[tI],λg h=>by simp at h⟩
 |(k,x)::r=>by
  let⟨c,j⟩:=EH f v r;rw[show tI f v ((k,x)::r)=(if k=f then(k,v)::r else(k,x)::tI f v r)from rfl];by_cases R:k=f
  ·rw[if_pos R];subst R;show⟨by simp,λg h=>by simpa using h⟩
  ·rw[if_neg R];show⟨?_,λg h=>?_⟩
   ·rw[jt];show jF _ c
   ·rw[jt]at h ⊢;rcases jL.mp h with e|e
    ·show jL.mpr (.inl e)
    ·show jF _ (j g e)
theorem FN(f:Str)(v:V):∀fs:List (Str×V),(tI f v fs).length<=fs.length+1
 |[]=>by simp[tI]
 |(k,x)::r=>by
  have K:=FN f v r;rw[show tI f v ((k,x)::r)=(if k=f then(k,v)::r else(k,x)::tI f v r)from rfl];by_cases R:k=f
  ·rw[if_pos R,jX,jX];lia
  ·rw[if_neg R,jX,jX];lia
def sW.some_of{o:Option Value}(r:sW (Z v) o):∃u,o=Z u/\RelV v u:=by
 cases o with
 |none=>show(show False from r).elim
 |some u=>show⟨u,rfl,r⟩
def sW.none_of{o:Option Value}(r:sW Y o):o=Y:=by
 cases o with
 |none=>rfl
 |some u=>show(show False from r).elim
def acJ(r:RelV v u):xK u=true:=by
 cases v with
 |non=>cases(show u=Yq from r);rfl
 |bl b=>cases(show u=yk b from r);rfl
 |int i=>let⟨t,e⟩:=(show ∃t,u=Yl i t from r);cases e;rfl
 |str x=>let⟨t,e⟩:=(show ∃t,u=yF x t from r);cases e;rfl
 |Tn b=>let⟨t,e⟩:=(show ∃t,u=GS b t from r);cases e;rfl
 |flt b=>let⟨t,e⟩:=(show ∃t,u=xJ b t from r);cases e;rfl
 |ref a=>cases(show u=Yd a from r);rfl
 |ty n=>cases(show u=ym n from r);rfl
section
variable{fs:List (Str×V)}
def Ht(A:pX P w H h)(e:H a=Z #[118]):∃mA,TK h a dx C mA/\(∀f,sW (fs.lookup f) (mA f))/\Xv mA (fs.map (·.1))/\fs.length<=1000/\H dx=Z (.own a):=by let⟨d,z,t,ob,mA,n,r,q⟩:=(show bN P w H h a #[118]from A a _ e);show⟨mA,⟨ob,n,t⟩,r,q,z,d⟩
end
structure Fv(K:Yc)(C:Qp):Prop where
 pg:yh K C Str.empty=true
 hd:XJ K C=true
 po:xC K C=true
 sa:Yf K #[189] "__setattr__" = Z (Z (.builtin "object.__setattr__"))
def Fv.get(c:Fv K C)(f:Str):yh K C f=true:=c.pg
def df(K:Yc)(C:Qp)(f:Str):Prop:=Yf K #[189] f=Z Y
def df.apY{f:Str}(n:df K C f):XY K C f=Z Y:=by unfold XY;rw[show Yf K #[189] f=Z Y from n];rfl
structure Meth(K:Yc)(C:Qp)(m:Str)(f:Qp):Prop where
 at_:Yf K #[189] m=Z (Z #[68])
 fn:yU K #[68]=true
 kp:Yk K #[68]=true
section
variable{fs:List (Str×V)}{f:Str}
def V7{b:Bool}(I:Inv X o3 σ H s)(e:H a=Z #[118])(c:Fv X.K C)(n:df X.K C f)(l:fs.lookup f=Z v)(h:∀u s',Inv X o3 σ H s'->RelV v u->Q u s'):wpAny #[4] A (getAttr #[44] f b) Q E s:=by let⟨mA,O,r,_,_,_⟩:=Ht I.hok e;let⟨u,d,N⟩:=sW.some_of (v:=v) (o:=mA f) (by rw[<-l];show r f);show get_map I.Dm O (c.get f) c.hd n d (acJ N) (h u _ (I.tok _) N)
def IM{g:Qp}{pl:qM Bool}{Q:Value×List Value->qO->Prop}(I:Inv X o3 σ H s)(e:H a=Z #[118])(c:Fv X.K C)(k:Meth X.K C m g)(l:fs.lookup m=Y)(h:Q (.ref g,[.ref a]) s):wpAny #[4] A (getMethod #[44] m pl) Q E s:=by let⟨mA,O,r,_,_,_⟩:=Ht I.hok e;have L:mA m=Y:=sW.none_of (by rw[<-l];show r m);show aer I.Dm O (c.get m) k.at_ k.fn L h
def Z9{Q:Unit->qO->Prop}(I:Inv X o3 σ H s)(e:H a=Z #[118])(c:Fv X.K C)(n:df X.K C f)(p:fs.length<1000)(j:RelV y u)(h:∀s',Inv X o3 σ (upd H a (.ins C dx (tI f y fs))) s'->Q () s'):wpAny #[4] A (setAttr #[44] f u) Q E s:=by
 let⟨mA,O,r,wi,_,i⟩:=Ht I.hok e;have S:(fs.map (·.1)).length<=sizeLine:=by rw[jW,WD];lia
 show aiE I.Dm O c.sa c.po n.apY c.hd wi S λh' d l=>h _ ?_;have k:∃o,h'.get? dx=Z o:=let ⟨o,_,_,e',_⟩:=d.ns;⟨o,e'⟩;show I.write (x:=a) (e:=dx) #[77] (.inr i) (λb q B z=>(l.2 b B).trans z) k ?_;show⟨by rw[aj O.ne];show i,?_,O.ne,d.obj,_,d.ns,λg=>?_,λg m=>?_⟩
 ·have:=FN f y fs;lia
 ·change sW ((tI f y fs).lookup g) (if g=f then Z u else mA g);rw[FO];by_cases q:g=f
  ·rw[if_pos q,if_pos q];show j
  ·rw[if_neg q,if_neg q];show r g
 ·by_cases q:g=f
  ·rw[q];show(EH f y fs).1
  ·show(EH f y fs).2 g (wi g λz=>m ?_);change(if g=f then Z u else mA g)=Y;rw[if_neg q];show z
def Inv.made(I:Inv X o3 σ H s):Inv X o3 σ (upd (upd H s.heap.objs.size (.own #[16])) #[16] (.ins C s.heap.objs.size []))
  {s with heap:=(s.heap.push Yt).push (yA C s.heap.objs.size)}:=by
 have T:(s.heap.push Yt).get? s.heap.objs.size=Z Yt:=jJ s.heap rfl;have g:((s.heap.push Yt).push (yA C s.heap.objs.size)).get? #[16]=Z (yA C s.heap.objs.size):=by have:=jJ (s.heap.push Yt) (o:=yA C s.heap.objs.size) rfl;rwa[jn]at this
 have l:(s.heap.push Yt).Ns s.heap.objs.size (λ_=>Y):=⟨Yt,#[],_,T,rfl,(λe R=>absurd R #[7]),λ_=>rfl⟩;have P:=I.laid (a:=s.heap.objs.size) (o:=.own #[16]) (h':=s.heap.push Yt) (t':=s.toks) (λb u q=>jB _ q) (jE _) ⟨_,T⟩;show P.laid (a:=s.heap.objs.size+1) (o:=.ins C s.heap.objs.size []) (t':=s.toks) (λb u q=>jB _ q) (Zv (jn _ _)) ?_;have t:s.heap.objs.size≠s.heap.objs.size+1:=jU (JP _);show⟨by rw[aj t,ae],jb _,t,g,λ_=>Y,(Heap.Ns1.of_empty l).at λo q=>jB _ q,λ_=>True.intro,λy G=>absurd rfl G⟩
def ahc{f:Str}(B:attributeBase e f env (eval e env)=eval e env)(h:wpAny #[8] A (eval e env) (λo K=>wpAny #[8] A (getAttr o f true) Q E K) E s):wpAny #[8] A (eval (.Attribute e f pos) env) Q E s:=
 Attribute_any_ h (by rw[arm_eval_Attribute,B])
end
inductive al9 (K:Yc) (f:Str) (Q:VK) (x:V) (H1:Hp):Prop|mk (a:_) (C:_) (dx:_) (fs:_) (v:_) (_:x=.ref a) (_:H1 a=Z #[118]) (_:Fv K C) (_:df K C f) (_:fs.lookup f=Z v) (_:Q v H1)
def auA(K:Yc)(ta:TE)(f:Str):TE:=λσ H Q=>ta σ H (al9 K f Q)
def aup(K:Yc)(ta tv:TE)(f:Str):TS:=λD σ H=>tv σ H λy H1=>ta σ H1 λx H2=>∃a C dx fs,x=.ref a/\H2 a=Z #[118]/\Fv K C/\df K C f/\fs.length<1000 /\
 D.nx σ (upd H2 a (.ins C dx (tI f y fs)))
section
variable{o value:Expr}{f:Str}{tv:TE}
def bz(R:PE X e ta)(B:attributeBase e f X.env (eval e X.env)=eval e X.env):PE X (.Attribute e f pos) (auA X.K ta f):=by exists 2;show ahc B (cw #[93] λu T ⟨x,d,P,D,a,C,dx,fs,v,M,g,c,n,l,q⟩=>?_);subst M;exists 28;show V7 P g c n l λS b G N=>⟨v,d,G,N,q⟩
def hU(W:PE X o ta)(N:PE X value tv)(hs:WI value (Z (.Attribute o f pos')) pos.line X.env=pure false):PS X (.Assign [.Attribute o f pos'] value pos) (aup X.K ta tv f):=by exists 17;show plainObj_wpAny_Assign_Attribute (cw (N o3 s σ H _ I h) λu T ⟨y,d,P,b,q⟩=>cw (W o3 T σ d _ P q) λL k ⟨x,J,G,e,a,C,dx,fs,M,g,c,n,l,i⟩=>?_) hs;subst M;obtain rfl:L=Yd a:=e;show Z9 G g c n l b λm j=>⟨σ,_,j,i⟩
end
section
variable{c:Value}{b:Bool}
inductive mW (K:Yc) (H:Hp):V->Value->Prop where
 |non:mW K H .non (.type "NoneType")
 |bl (x:Bool):mW K H (.bl x) (.type "bool")
 |int (i:Int):mW K H (.int i) (.type "int")
 |str (x:Str):mW K H (.str x) (.type "str")
 |flt (x:UInt64):mW K H (.flt x) (.type "float")
 |lst {a:Qp} {xs:List V} (e:H a=Z #[133]):mW K H #[44] (.type "list")
 |B2 {a:Qp} {o:Obj} {xs:List V} (e:H a=Z (.B2 o #[133])):mW K H #[44] (.type "list")
 |tup {a:Qp} {xs:List V} (e:H a=Z #[42]):mW K H #[44] #[169]
 |dK {a:Qp} {kvs:List #[157]} (e:H a=Z #[58]):mW K H #[44] #[163]
 |dT {a:Qp} {kvs:List #[85]} (e:H a=Z (.dT kvs)):mW K H #[44] #[163]
 |ins {a C dx:Qp} {fs:List (Str×V)} (e:H a=Z #[118]) (cl:Fv K C) (ha:Yf K #[189] "__class__" = Z (Z (.builtin "object.__class__")))
   (hn:PySem.W.specialIn K (.builtin "object.__class__") "__get__" = Z (Z (.builtin "getset_descriptor.__get__"))) (htk:PySem.W.takesIn K (.builtin "object.__class__")=Z true)
   (hm:PySem.W.mroIn K C (.type "object")=Z true):mW K H #[44] #[189]
theorem acU{x:V}{t:Value}(I:Inv X o3 σ H s)(D:RelV x u)(ty:mW X.K H x t)(e:yL X.K t c=Z b)(h:∀tk,Q (.bool b) {s with toks:=tk}):
  wpAny #[4] A (call (.builtin "isinstance") [u,c]) Q E s:=by
 cases ty with
 |non=>cases(show u=Yq from D);show Ys PySem.W.kitx_none I.Dm True.intro e #[69] h
 |bl y=>cases(show u=yk y from D);show Ys PySem.W.kitx_bool I.Dm True.intro e #[69] h
 |int i=>let⟨t,q⟩:=(show ∃t,u=Yl i t from D);cases q;show Ys PySem.W.kitx_int I.Dm True.intro e #[69] h
 |str y=>let⟨t,q⟩:=(show ∃t,u=yF y t from D);cases q;show Ys PySem.W.kitx_str I.Dm True.intro e #[69] h
 |flt y=>let⟨t,q⟩:=(show ∃t,u=xJ y t from D);cases q;show Ys PySem.W.kitx_float I.Dm True.intro e #[69] h
 | @lst a xs g=>
  exists 31;let⟨_,_,n,_,G⟩:=(show bN X.prog X.w H s.heap a #[133]from I.hok a _ g);show Ys xD I.Dm ⟨_,G,U⟩ e #[69] h
 | @B2 a ob xs g=>
  exists 31;let⟨_,_,_,n,_,G⟩:=(show bN X.prog X.w H s.heap a (.B2 ob #[133])from I.hok a _ g);show Ys xD I.Dm ⟨_,G,U⟩ e #[69] h
 | @tup a xs g=>
  exists 31;let⟨_,_,_,p⟩:=(show bN X.prog X.w H s.heap a #[42]from I.hok a _ g);let⟨o,G,M,_⟩:=p;show Ys PySem.W.kitx_tuple I.Dm ⟨o,G,M⟩ e #[69] h
 | @dK a B g=>
  exists 31;let⟨_,_,vs,_,p⟩:=(show bN X.prog X.w H s.heap a (.dK B)from I.hok a _ g);let⟨o,es,T,G,M,_⟩:=p;show Ys xE I.Dm ⟨o,G,M.1⟩ e #[69] h
 | @dT a B g=>
  exists 31;let⟨_,_,xs,_,o,es,T,G,M,_⟩:=(show bN X.prog X.w H s.heap a (.dT B)from I.hok a _ g);show Ys xE I.Dm ⟨o,G,M.1⟩ e #[69] h
 | @ins a C dx fs g j f L d N=>
  exists 31;let⟨mA,O,_⟩:=Ht I.hok g;let⟨od,J,_⟩:=O.look;show Ys (PySem.W.kitx_own (j.get _) j.hd f L d N) I.Dm J e #[69] h
end
structure eJ(k:Nat)(A:Around):Prop where
 hd:A.handled=Y
 dp:A.depth+3*k+5<recursionLimit
 un:A.units+16*k+200<cLine
def eJ.mono{k:Nat}(r:eJ k A)(h:j<=k):eJ j A:=⟨r.hd,by have:=r.dp;lia,by have:=r.un;lia⟩
theorem eJ.deeper{k:Nat}(r:eJ (k+1) A)(env:Qw):eJ k (A.deeper env):=
 ⟨r.hd,by have:=r.dp;change A.depth+1+3*k+5<_;lia,by have:=r.un;change A.units+3+16*k+200<_;lia⟩
def X7{q:List #[139]}:#[61].depth=A.depth+1:=by first|rfl|simp[Around.under,Code.weight,Code.isCreation,Code.isGuard,Code.isCaller,Code.frames,Code.isFrame,guardIds]
def X8{q:List #[139]}:#[61].units=A.units+1:=by first|rfl|simp[Around.under,Code.cUnits,Code.frames,Code.isFrame]
def eJ.make{k:Nat}(r:eJ (k+1) A)(C:Qp)(us:List Value)(q:List #[139]):eJ k #[61]:=
 ⟨r.hd,by have:=r.dp;rw[X7];lia,by have:=r.un;rw[X8];lia⟩
theorem eJ.depth{k:Nat}(r:eJ k A):A.depth<recursionLimit:=by have:=r.dp;lia
theorem eJ.units{k:Nat}(r:eJ k A):A.units+64<cLine:=by have:=r.un;lia
def agC:TA:=λ_ H Q=>Q [] H
def abQ(ta:TE)(tr:TA):TA:=λσ H Q=>ta σ H λx H1=>tr σ H1 λxs H2=>Q (x::xs) H2
section
def af:PA X [] agC:=λ_ _ _ _ H Q I h=>yI ⟨[],H,I,.nil,h⟩
def aa(W:PE X e te)(S:PA X es t)(hs:WE (e::es) X.env=#[29]::WE es X.env:=by rfl):PA X (e::es) (abQ te t):=by intro pos o3 s σ H Q I h;rw[hs];change wpAny _ _ (spliced (#[29]::backTo pos (WE es X.env))) _ _ s;show Yu (cw #[40] λu T ⟨x,d,P,f,E⟩=>?_);show cw (S pos o3 T σ d _ P E) λus n ⟨xs,J,G,i,l⟩=>⟨x::xs,J,G,.cons f i,l⟩
structure ame(Q:VK)(xs:List V)(H1:Hp):Prop where
 h0:xs.length<=sizeLine
 h1:∀p,H1 p=Y->Q (.ref p) (upd H1 p #[42])
def apX(t:TA):TE:=λσ H Q=>t σ H (ame Q)
structure amb(Q:VK)(xs:List V)(H1:Hp):Prop where
 h0:xs.length<=sizeLine
 h1:∀p,H1 p=Y->Q (.ref p) (upd H1 p #[133])
def apR(t:TA):TE:=λσ H Q=>t σ H (amb Q)
def cA{x1}(h:PA X es t):PE X (.Tuple es x1 pos) (apX t):=by intro o3 s σ H Q I l;show wpAny_Tuple_spliced (cw (h pos o3 s σ H _ I l) λus T ⟨xs,d,P,r,z,q⟩=>⟨by rw[<-r.length];show z,?_⟩);have V:d T.heap.objs.size=Y:=P.hok.fresh (jE _);show⟨.ref T.heap.objs.size,upd d T.heap.objs.size #[42],P.laid (t':=T.toks) (λb u e=>jB _ e) (jE _) ?_,U,q _ V⟩;show⟨z,us,r,⟨_,jJ _ rfl,U,_,U⟩⟩
def bS(h:PA X es t):PE X (.List es pos) (apR t):=by intro o3 s σ H Q I l;show wpAny_List_spliced (cw (h pos o3 s σ H _ I l) λus T ⟨xs,d,P,r,z,q⟩=>⟨by rw[<-r.length];show z,?_⟩);have V:d T.heap.objs.size=Y:=P.hok.fresh (jE _);show⟨.ref T.heap.objs.size,upd d T.heap.objs.size #[133],P.laid (t':=T.toks) (λb u e=>jB _ e) (jE _) ?_,U,q _ V⟩;show⟨z,us,0,r,jJ _ rfl⟩
end
abbrev Sp:=List V->Hp->VK->XK->Prop
abbrev CXT:=List Qw->Hp->qO->XK->Value->qO->Prop
structure Ot(P:qL)(w:World)(K:Yc)(mg:Str->Option Value)(base:Heap)(A:Around)(outer:List Qw)(s:qO)(H:Hp):Prop where
 frames:A.frames=Z outer
 mod:Mod K mg base
 bs:∀b o,base.get? b=Z o->s.heap.get? b=Z o/\H b=Y
 bsz:base.objs.size<=s.heap.objs.size
 Cs:s.heap.FunFrames base outer
 frf:∀b∈frs outer,H b=Y
 hok:pX P w H s.heap
 bare:Qq s.gens
def CE(outer:List Qw)(P:qL)(w:World)(H:Hp)(s:qO)(Q:VK)(u:Value)(s':qO):Prop:=
 ∃v H',s'.os=s.os/\Qq s'.gens/\Un (frs outer) [] H H' s.heap s'.heap/\pX P w H' s'.heap/\RelV v u/\Q v H'
def CR(CX:CXT)(outer:List Qw)(P:qL)(w:World)(H:Hp)(s:qO)(Q:VK)(E:XK)(r:Result)(s':qO):Prop:=
 match r with
 |.ok (.ret u)=>CE outer P w H s Q u s'
 |.ok _=>False
 |.error e=>CX outer H s E e s'
structure aR(P:qL)(w:World)(K:Yc)(mg:Str->Option Value)(base:Heap)(CX:CXT)(k:Nat)(f:Qp)(fd:Qx)(ps:List Str)(sp:Sp):Prop where
 len:∀vs H Q E,sp vs H Q E->vs.length=ps.length
 run:∀(A:Around) (outer:List Qw) (s:qO) (H:Hp) (args:Args) (us:List Value) (vs:List V) (Q:VK) (E:XK),eJ k A->Ot P w K mg base A outer s H->Qs s fd args #[152]->Vals vs us->sp vs H Q E ->
  codeAny #[37] A (.call #[68] args) (CR CX outer P w H s Q E) s
def aR.imp{CX:CXT}{k:Nat}{ps:List Str}{sp a:Sp}(F:aR P w K mg base CX k f fd ps sp)(h:∀vs H Q E,a vs H Q E->sp vs H Q E):aR P w K mg base CX k f fd ps a:=
 ⟨λvs H Q E q=>F.len vs H Q E (h _ _ _ _ q),λA outer s H c us vs Q E S R B N hs=>F.run A outer s H c us vs Q E S R B N (h _ _ _ _ hs)⟩
def Ot.make(e:Ot P w K mg base A outer s H)(C:Qp)(us:List Value)(q:List #[139]):
  Ot P w K mg base #[61] outer s H:=⟨by first|show e.frames|(simpa[Around.under,Code.envs,Code.isFrame,pushEnvs]using e.frames),e.mod,e.bs,e.bsz,e.Cs,e.frf,e.hok,e.bare⟩
section
def Inv.ahj(I:Inv X o3 σ H s):Ot X.prog X.w X.K X.mg X.base X.A X.stack s H:=
 ⟨I.ok.frames,I.ok.mod,I.bs,jc I.ok.bsz I.sz,I.stack,I.abM,I.hok,I.bare⟩
def Inv.after{Q:VK}(I:Inv X o3 σ H s)(h:CE X.stack X.prog X.w H s Q u s'):EP X o3 σ Q u s':=by let⟨v,H',os,j,un,A,r,q⟩:=h;let⟨f,g,d,t,D⟩:=s';obtain rfl:D=s.os:=os;show⟨v,H',I.call (h':=f) (g':=g) (d':=d) (t':=t) (ch:=[]) un A j (λb z=>absurd z #[7]),r,q⟩
end
def agw(sp:Sp)(sY:List V)(E:XK)(t:TA):TE:=λσ H Q=>t σ H λvs H1=>sp (vs++sY) H1 Q E
inductive aiS (C:Qp) (m:Str) (sp:Sp) (sY:List V) (E:XK) (t:TA) (σ:St) (Q:VK) (x:V) (H1:Hp):Prop|mk (a:_) (dx:_) (fs:_) (_:x=.ref a) (_:H1 a=Z #[118]) (_:fs.lookup m=Y) (_:t σ H1 λvs H2=>sp (x::(vs++sY)) H2 Q E)
def abR(C:Qp)(m:Str)(sp:Sp)(sY:List V)(E:XK)(ta:TE)(t:TA):TE:=λσ H Q=>ta σ H (aiS C m sp sY E t σ Q)
def aj0(C:Qp)(sp:Sp)(sY:List V)(E:XK)(t:TA):TE:=λσ H Q=>t σ H λvs H1=>∀x dx,H1 x=Y->H1 dx=Y->dx≠x ->
 sp (.ref x::(vs++sY)) (upd (upd H1 dx (.own x)) x (.ins C dx [])) (λv H2=>v=.non/\Q #[164] H2) E
def Binds(K:Yc)(fd:Qx)(ps:List Str)(ds:List Value):Prop:=
 ∀(s:qO) (us:List Value),K.In s.heap->(us++ds).length=ps.length->Qs s fd ⟨us,[]⟩ (ps.zip (us++ds))
def Binds.all{ps:List Str}(h:∀us:List Value,us.length=ps.length->bindArgs fd ⟨us,[]⟩=pure #[152]):Binds K fd ps []:=λs us _ C=>by rw[jh]at C ⊢;show .of_eq (h us C)
def Passes(CX:CXT)(X:Cx)(E:XK):Prop:=∀(o3:List #[56]) (σ:St) (H:Hp) (s:qO) (e:Value) (s':qO),Inv X o3 σ H s->CX X.stack H s E e s'->X.xe e s'
section
variable{CX:CXT}{k:Nat}{ps:List Str}{sp:Sp}{E:XK}{o:Expr}
def Pr{Q:VK}(F:aR X.prog X.w X.K X.mg X.base CX k f fd ps sp)(S:eJ k X.A)(B:Binds X.K fd ps ds)(j:Vals sY ds)(J:Passes CX X E)(I:Inv X o3 σ H s)(r:Vals vs us)(h:sp (vs++sY) H Q E):wpAny #[4] X.A (call #[68] us) #[76] X.xe s:=by
 have i:Vals (vs++sY) (us++ds):=r.append j;have C:(us++ds).length=ps.length:=by rw[<-i.length];show F.len _ _ _ _ h
 show WY (qd (F.run X.A X.stack s H ⟨us,[]⟩ (us++ds) (vs++sY) Q E S I.ahj (B s us I.Dm C) i h) λr s' l=>?_);cases r with
 |error e=>show J o3 σ H s e s' I l
 |ok a=>
  cases a with
  |ret u=>show I.after l
  |next=>show False.elim l
  |brk=>show False.elim l
  |cont=>show False.elim l
def ain(F:aR X.prog X.w X.K X.mg X.base CX k f fd ps sp)(S:eJ k X.A)(m:Gl X x)(N:X.mg x=Z #[68])(R:Yk X.K #[68]=true)(B:Binds X.K fd ps ds)(j:Vals sY ds)(J:Passes CX X E)(W:PA X (e::es) t)(a:#[36]=false:=by decide)(b:WE (e::es) X.env=#[29]::WE es X.env:=by rfl)(y:#[34].any (·.1)=false:=by rfl):
  PE X #[32] (agw sp sY E t):=by
 exists 2;show WR (Hx I m N ?_ a);show yP (h₀:=X.base) I.ok.mod.kin R (cw #[80] λus T ⟨vs,d,P,r,q⟩=>⟨P.Dm,?_⟩) b y;show Pr F S B j J P r q
def air{pl:qM Bool}(R:PE X o ta)(c:Fv X.K C)(N:Meth X.K C m f)(F:aR X.prog X.w X.K X.mg X.base CX k f fd ps sp)(S:eJ k X.A)(B:Binds X.K fd ps ds)(j:Vals sY ds)(J:Passes CX X E)(W:PA X (e::es) t)(M:WE (e::es) X.env=#[29]::WE es X.env:=by rfl)(y:#[34].any (·.1)=false:=by rfl)(p:eval (.Call (.Attribute o m w4) (e::es) [] pos) X.env=(do
   let L <-eval o X.env
   standAt w4.atName
   let (f,first) <-holding [L] (getMethod L m pl)
   callWith pos f first (backTo pos (WE (e::es) X.env)) (backToKw pos #[106])):=by rfl):
  PE X (.Call (.Attribute o m w4) (e::es) [] pos) (abR C m sp sY E ta t):=by
 exists 2;show Xd (pl:=pl) (cw #[93] λu T ⟨x,d,P,D,a,dx,fs,b,g,l,q⟩=>?_) p;subst b;exists 28;show IM P g c N l ?_;show yP (first:=[.ref a]) (h₀:=X.base) I.ok.mod.kin N.kp (cw (W pos o3 T σ d _ P q) λus n ⟨vs,v,G,r,i⟩=>⟨G.Dm,?_⟩) M y;show Pr (us:=.ref a::us) (vs:=.ref a::vs) F S B j J G (.cons rfl r) i
def afI{pl:qM Bool}(R:PE X o ta)(c:Fv X.K C)(N:Meth X.K C m f)(F:aR X.prog X.w X.K X.mg X.base CX k f fd ps sp)(S:eJ k X.A)(B:Binds X.K fd ps ds)(j:Vals sY ds)(J:Passes CX X E)(p:eval (.Call (.Attribute o m w4) [] [] pos) X.env=(do
   let L <-eval o X.env
   standAt w4.atName
   let (f,first) <-holding [L] (getMethod L m pl)
   callWith pos f first (backTo pos (WE [] X.env)) (backToKw pos #[106])):=by rfl):
  PE X (.Call (.Attribute o m w4) [] [] pos) (abR C m sp sY E ta agC):=by
 exists 2;show Xd (pl:=pl) (cw #[93] λu T ⟨x,d,P,D,a,dx,fs,M,g,l,q⟩=>?_) p;subst M;exists 28;show IM P g c N l ?_;show PySem.W.callWith_K0 (first:=[.ref a]) P.Dm N.kp (Pr (us:=[.ref a]) (vs:=[.ref a]) F S B j J P (.cons rfl .nil) q)
structure Mk(K:Yc)(C f:Qp):Prop where
 makes:XZ K C=true
 init:Yf K #[189] "__init__" = Z (Z #[68])
 fn:yU K #[68]=true
 kp:Yk K #[189]=true
theorem af7{Q:VK}(M:Mk X.K C f)(F:aR X.prog X.w X.K X.mg X.base CX k f fd ps sp)(S:eJ (k+1) X.A)(B:Binds X.K fd ps ds)(j:Vals sY ds)(J:Passes CX X E)(I:Inv X o3 σ H s)(r:Vals vs us)(h:∀x dx,H x=Y->H dx=Y->dx≠x->sp (.ref x::(vs++sY)) (upd (upd H dx (.own x)) x (.ins C dx [])) (λv a=>v=.non/\Q #[164] a) E):
  wpAny #[4] X.A (call #[189] us) #[76] X.xe s:=by
 have l:=h #[16] s.heap.objs.size (I.hok.fresh (JV _)) #[43] (jU (JP _));have G:=Inv.made (C:=C) I;have i:Vals (V.ref #[16]::(vs++sY)) (Yd #[16]::(us++ds)):=.cons rfl (r.append j);have b:(Yd #[16]::us++ds).length=ps.length:=by have e:=i.length;rw[F.len _ _ _ _ l]at e;show e.symm
 show WY (aeZ (f:=f) I.Dm M.makes M.init (beq_iff_eq.mp M.fn) (qd (F.run _ X.stack _ _ ⟨Yd #[16]::us,[]⟩ (Yd #[16]::(us++ds)) _ _ E (S.make C us [])
  (G.ahj.make C us []) (B _ (Yd #[16]::us) G.Dm b) i l) λr s' P=>?_))
 cases r with
 |error e=>show J o3 σ _ _ e s' G P
 |ok c=>
  cases c with
  |ret u=>
   let⟨v,H',d,g,m,p⟩:=G.after P;subst m;show⟨g,⟨V.ref #[16],H',d,U,p⟩⟩
  |next=>show False.elim P
  |brk=>show False.elim P
  |cont=>show False.elim P
def aip(M:Mk X.K C f)(F:aR X.prog X.w X.K X.mg X.base CX k f fd ps sp)(S:eJ (k+1) X.A)(m:Gl X x)(N:X.mg x=Z #[189])(B:Binds X.K fd ps ds)(j:Vals sY ds)(J:Passes CX X E)(W:PA X (e::es) t)(a:#[36]=false:=by decide)(R:WE (e::es) X.env=#[29]::WE es X.env:=by rfl)(y:#[34].any (·.1)=false:=by rfl):
  PE X #[32] (aj0 C sp sY E t):=by
 exists 2;show WR (Hx I m N ?_ a);show yP (h₀:=X.base) I.ok.mod.kin M.kp (cw #[80] λus T ⟨vs,d,P,r,q⟩=>⟨P.Dm,?_⟩) R y;show af7 M F S B j J P r q
end
structure aA(N P:List Str)(sc:Scope):Prop where
 kind:sc.kind=.function
 co:sc.isCoroutine=false
 gen:sc.isGenerator=false
 nd:N.Nodup
 pre:N.take P.length=P
 par:∀x∈P,sc.names.lookup x=Z .local\/sc.names.lookup x=Z .cell
 nofree:∀y∈sc.names,y.2≠.free
theorem ME{kindOf:Str->Option qH}:∀{binds:List #[139]} {m:Str->Option Value},(∀v,(x,v)∉binds)->bindL kindOf binds m x=m x
 |[],_,_=>rfl
 |(n,v)::r,m,h=>by
  unfold bindL;rw[ME λw j=>h w (jF _ j)];split
  ·have:x≠n:=by rintro rfl;show h v jA
   simp[this]
  ·rfl
theorem MC{kindOf:Str->Option qH}:∀{binds:List #[139]} {m:Str->Option Value},(∀v,(x,v)∉binds)->bindC kindOf binds m x=m x
 |[],_,_=>rfl
 |(n,v)::r,m,h=>by
  unfold bindC;rw[MC λw j=>h w (jF _ j)];split
  ·rfl
  ·have:x≠n:=by rintro rfl;show h v jA
   simp[this]
theorem MD{kindOf:Str->Option qH}{v:Value}:∀{P:List Str} {vs:List Value} {i:Nat} {m:Str->Option Value},P.Nodup->P[i]?=Z x->vs[i]?=Z v->kindOf x=Z .local ->
  bindL kindOf (P.zip vs) m x=Z v
 |[],_,_,_,_,h,_,_=>by simp at h
 |_::_,[],_,_,_,_,h,_=>by simp at h
 |p::P,w::vs,0,m,o,G,M,R=>by simp at G M;subst G;subst M;change bindL kindOf ((p,w)::P.zip vs) m p=_;unfold bindL;rw[ME λv N=>(jm.mp o).1 (zQ N).1,if_pos R];simp
 |p::P,w::vs,i+1,m,o,G,M,R=>by change bindL kindOf ((p,w)::P.zip vs) m x=_;unfold bindL;show MD (i:=i) (jm.mp o).2 (by simpa using G) #[155] R
theorem MB{kindOf:Str->Option qH}{v:Value}:∀{P:List Str} {vs:List Value} {i:Nat} {m:Str->Option Value},P.Nodup->P[i]?=Z x->vs[i]?=Z v->kindOf x≠Z .local ->
  bindC kindOf (P.zip vs) m x=Z v
 |[],_,_,_,_,h,_,_=>by simp at h
 |_::_,[],_,_,_,_,h,_=>by simp at h
 |p::P,w::vs,0,m,o,G,M,R=>by simp at G M;subst G;subst M;change bindC kindOf ((p,w)::P.zip vs) m p=_;unfold bindC;rw[MC λv N=>(jm.mp o).1 (zQ N).1,if_neg R];simp
 |p::P,w::vs,i+1,m,o,G,M,R=>by change bindC kindOf ((p,w)::P.zip vs) m x=_;unfold bindC;show MB (i:=i) (jm.mp o).2 (by simpa using G) #[155] R
def start(N:List Str)(vs:List V):St:=vs.map Z++List.replicate (N.length-vs.length) Y
def bH(CX:CXT)(P:qL)(w:World)(K:Yc)(mg:Str->Option Value)(base:Heap)(N:List Str)(qual:Str)(scope:Scope)(f:Qp)(cd:Value)(A:Around)(outer:List Qw)(s:qO)(H:Hp)(E:XK):Cx where
 prog:=P
 w:=w
 K:=K
 mg:=mg
 base:=base
 A:=A.deeper #[65]
 N:=N
 s₀:=s
 H₀:=H
 env:=envOfC qual scope s.heap.objs.size f cd
 outer:=outer
 stack:=envOfC qual scope s.heap.objs.size f cd::outer
 ex:=[]
 calm:=true
 fn:=λ_=>true
 pn:=[]
 xe:=λe s'=>wpAny #[37] (A.deeper #[65]) (leaving #[65] e) (λ_ s''=>CX outer H s E e s'') (λe' s''=>CX outer H s E e' s'') s'
def Rv(h:sc.names.lookup x=Z .cell):∃c,(cellsFrom n sc.names []).lookup x=Z c:=by have q:=Xb sc.names n [] (.inl h);show Jh.mp q
def acT{CX:CXT}{ps:List Str}{T:qO}{E:XK}(S:aA N ps scope)(j:A.handled=Y)(d:Ot P w K mg base A outer s H)(o:vs.length=ps.length)(r:Vals vs us)(x:InCallC s s.heap.objs.size (bindL #[65].kindOf #[152] λ_=>Y) (cellsFrom #[16] scope.names []) (bindC #[65].kindOf #[152] λ_=>Y) T):
  Inv (bH CX P w K mg base N qual scope f cd A outer s H E) [] (start N vs) H T:=by
 have t:ps.length<=N.length:=by have:=congrArg zI S.pre;rw[jT]at this;lia
 let⟨g,tk,rfl,R⟩:=x.done;have l:∀b:Qp,b∉(bH CX P w K mg base N qual scope f cd A outer s H E).ex:=λb z=>absurd (show b∈([]:List Qp)from z) #[7];show⟨⟨d.mod,S.kind,U,U,jE _,λy z c g M=>?_,λy G=>?_,λy c _ h=>?_,λ_=>j,Around.frames_deeper d.frames,.inr ⟨U,U⟩,λb z=>absurd z (l b),d.bs,d.bsz,λb _ _=>l b,λb z=>absurd z (l b),d.Cs,d.frf⟩,
  rfl,d.bare,Un.kept R,⟨_,x.toInCall.ns,λi y v g M B=>?_⟩,λy c h=>⟨_,x.cell y c h⟩,d.hok.fresh (jE _),λy c h=>?_,λp D=>absurd (show p∈([]:List #[56])from D) #[7],d.hok.kept R,?_⟩
 ·show name_of_addr x.apart (Yn g) (Yn M)
 ·have G:scope.names.lookup y=Z .cell\/scope.names.lookup y=Z .free:=G;rcases G with G|G
  ·show Rv G
  ·show absurd rfl (S.nofree _ (Yn G))
 ·show JS (x.above y c (Yn h))
 ·have W:i<vs.length:=by
   unfold start at M;by_cases W:i<vs.length
   ·show W
   ·rw[JD (by simpa using W)]at M;rw[List.getElem?_replicate]at M;split at M<;>cases M
  have m:vs[i]?=Z v:=by
   unfold start at M;rw[JA (by simpa using W),jR]at M;cases e:vs[i]? with
   |none=>rw[e]at M;cases M
   |some a=>rw[e]at M;cases M;rfl
  let⟨u,C,F⟩:=r.get m;have D:ps[i]?=Z y:=by rw[<-S.pre,List.getElem?_take_of_lt #[1]];show g
  have X:ps.Nodup:=by rw[<-S.pre];show S.nd.sublist (ZM _ _)
  exists u,F;rcases S.par y (JT D)with k|k
  ·show .inl ⟨k,MD X D C k⟩
  ·let⟨c,e⟩:=Rv (n:=s.heap.objs.size+1) k;show .inr ⟨.inl k,c,e,?_⟩;have q:=x.cell y c e;rw[MB X D C (by change scope.names.lookup y≠_;rw[k];decide)]at q;show q
 ·show d.hok.fresh (JS (x.above y c (Yn h)))
 ·unfold start;change _=N.length;rw[jH,jW,List.length_replicate];lia
theorem ajg{CX:CXT}{k:Nat}{C kV i g j ct p:Value}{ps:List Str}{sp:Sp}(M:K.lookup f=Z ⟨p,od,.func (Ym name qual params body scope C kV i g an j ct),PZ⟩)(D:Yy K j qual=true)(S:aA N ps scope)(len:∀vs H Q E,sp vs H Q E->vs.length=ps.length)(z:∀(A:Around) (outer:List Qw) (s:qO) (H:Hp) (vs:List V) (Q:VK) (E:XK),eJ k (A.deeper (envOfC qual scope s.heap.objs.size f j))->sp vs H Q E ->
   ∃t,Ti (bH CX P w K mg base N qual scope f j A outer s H E) body t/\t {nx:=λ_ H'=>Q .non H',rt:=Q} (start N vs) H):
  aR P w K mg base CX (k+1) f (Ym name qual params body scope C kV i g an j ct) ps sp:=by
 show⟨len,λA outer s H l us vs Q E c d B r X=>?_⟩;have G:=len _ _ _ _ X;have m:K.In s.heap:=d.mod.kin.keeps λb o e=>(d.bs b o e).1;have h:s.heap.NoLimit:=d.mod.nolimit.keeps λb o e=>(d.bs b o e).1;have L:∀y∈ps.zip us,scope.names.lookup y.1=Z .local\/(scope.names.lookup y.1=Z .cell/\((cellsFrom #[16] scope.names []).lookup y.1).isSome=true):=λ⟨n,v⟩ R=>by
  rcases S.par n (zQ R).1 with q|q
  ·show .inl q
  ·show .inr ⟨q,Xb _ _ _ (.inl q)⟩
 show codeAny_call_function c.depth (m _ _ M) rfl S.co S.gen rfl (PySem.W.codeRec_of m D) (B _ _ _ _ ?_);show wpAny_newFunctionEnv_cells S.kind L λenv he T x=>?_;subst he;show⟨h.keeps x.toInCall.keep,codeAny_func ?_⟩;let⟨t,ht,hq⟩:=z A outer s H vs Q E (c.deeper _) X;have I:Inv (bH CX P w K mg base N qual scope f j A outer s H E) [] (start N vs) H T:=acT S c.hd d G r x;show Wu (ht [] T (start N vs) H _ I hq) (λfl s' hs=>?_) λe s' hs=>hs;have a:∀{O:St} {H':Hp} {v:V} {u:Value},Inv (bH CX P w K mg base N qual scope f j A outer s H E) [] O H' s'->RelV v u->Q v H'->CE outer P w H s Q u s':=
  λ{O H' v u} J F q=>⟨v,H',J.os,J.bare,J.base,J.hok,F,q⟩
 cases fl with
 |ret u=>
  let⟨v,O,H',J,F,q⟩:=hs;show a J F q
 |next=>
  let⟨O,H',J,q⟩:=hs;show a (v:=V.non) (u:=Yq) J rfl q
 |brk=>
  let⟨_,_,_,q⟩:=hs;show False.elim q
 |cont=>
  let⟨_,_,_,q⟩:=hs;show False.elim q
section
variable{id T:String}{r:List V->Hp->VK->Prop}
def tCB(r:List V->Hp->VK->Prop)(t:TA):TE:=λσ H Q=>t σ H λvs H1=>r vs H1 Q
def aH(L:iQ X #[165] r)(m:Gl X x)(N:X.mg x=Y)(b:qV x=Z #[165])(W:PA X (e::es) t)(c:x ≠ "__name__" :=by decide)(a:#[36]=false:=by decide)(R:WE (e::es) X.env=#[29]::WE es X.env:=by rfl)(y:#[34].any (·.1)=false:=by rfl):PE X #[32] (tCB r t):=by exists 2;show WR (su I m N b ?_ c a);show xP (cw #[80] λus T ⟨vs,d,P,f,E⟩=>L o3 T σ d vs us Q P f E) R y
def aS(L:iQ X (.type T) r)(m:Gl X x)(N:X.mg x=Y)(b:qV x=Z (.type T))(W:PA X (e::es) t)(c:x ≠ "__name__" :=by decide)(a:#[36]=false:=by decide)(R:WE (e::es) X.env=#[29]::WE es X.env:=by rfl)(y:#[34].any (·.1)=false:=by rfl):PE X #[32] (tCB r t):=by exists 2;show WR (su I m N b ?_ c a);show Yp (cw #[80] λus d ⟨vs,f,P,g,E⟩=>L o3 d σ f vs us Q P g E) R y
end
end L2
namespace HT
open PySem PyProof.Rows
variable{prog:qL}{w:World}{A:Around}{E Q:Value->qO->Prop}{s:qO}{t sl:Qp}{v vl vu:Value}{n:Nat}{items:Array Value}
section
open PySem.SeqAt
open PySem.AutoSeq1 (wpAny_loadPart')
open PySem.MeetsSeq PySem.MeetsSeq2 PySem.MeetsSeq3
end
section
def ahd{b:Qp}{vs g:List Value}(p:qD s.heap t vs.toArray)(B:qD s.heap b g.toArray)(N:vs≠[])(G:g=[]->Q (.ref t) s)(M:g≠[]->Q #[19] {s with heap:=s.heap.push {cls:=.type "tuple",data:=.seq (vs++g).toArray} })(hsz:vs.length+g.length<=sizeLine):wpAny #[8] A (binaryOp .Add (.ref t) (.ref b)) Q E s:=by
 let⟨⟨c,dd,R,sl⟩,O,L,n,a⟩:=id p;let⟨⟨f,r,data2,z⟩,d,C,T,o⟩:=id B;simp only at L a C o;subst L a C o;have e:vs.toArray++g.toArray=(vs++g).toArray:=by simp
 by_cases j:g=[]
 ·show qg ⟨_,O,U⟩ ⟨_,d,U⟩ qx WC yf yc (yV _ _)
   (tuple_addW1 t b vs.toArray g.toArray n T dd r sl z (by simpa using N) (by simp[j])) ⟨O,d,G j⟩
 ·show qg ⟨_,O,U⟩ ⟨_,d,U⟩ qx WC yf yc (yV _ _)
   (tuple_addW2 t b vs.toArray g.toArray n T dd r sl z (by simpa using N) (by simpa using j) (by rw[jP,jP];show hsz)) ⟨O,d,?_⟩
  rw[e];show M j
def ie(n d:Nat):Option Int->Nat
 |none=>d
 |some v=>if v<0 then(v+(n:Int)).toNat else min v.toNat n
def af8(n d:Nat):ie n d Y=d:=rfl
def aiC(n d k:Nat):ie n d (Z (k:Int))=min k n:=by change(if (k:Int)<0 then((k:Int)+(n:Int)).toNat else min (k:Int).toNat n)=min k n;rw[if_neg #[1],jG]
def alP(n d:Nat)(j:d<=n)(o:Option Int):ie n d o<=n:=by
 cases o with
 |none=>show j
 |some v=>
  change(if v<0 then(v+(n:Int)).toNat else min v.toNat n)<=n;by_cases N:v<0
  ·rw[if_pos N];lia
  ·rw[if_neg N];show Nat.min_le_right _ _
def aaC(v:Int)(n d:Nat):(if v<0 then max (v+(n:Int)) 0 else min v (n:Int))=((ie n d (Z v):Nat):Int):=by
 change(if v<0 then max (v+(n:Int)) 0 else min v (n:Int))=(((if v<0 then(v+(n:Int)).toNat else min v.toNat n):Nat):Int);by_cases N:v<0
 ·simp only[if_pos N];lia
 ·simp only[if_neg N];lia
def T4(lo W:Option Int)(n:Nat):yS lo W 1 (n:Int)=(((ie n 0 lo:Nat):Int),((ie n n W:Nat):Int)):=by
 have G:¬ ((1:Int)<0):=by lia
 unfold yS;simp only[G,if_false];show Prod.ext ?_ ?_
 ·cases lo with
  |none=>rfl
  |some v=>show aaC v n 0
 ·cases W with
  |none=>rfl
  |some v=>show aaC v n n
def Z4(i j:Nat):yJ (i:Int) (j:Int) 1=j-i:=by
 unfold yJ;have G:(1:Int) > 0:=by lia
 simp only[G,if_true,ZT];split<;>lia
def Ls{o:Option Int}{Q:Option Int->qO->Prop}(p:qC v o)(h:Q o s):wpAny #[8] A (xV v) Q E s:=by
 cases p with
 |none=>show slicePart_none h
 |int i t=>show slicePart_int h
def tQ{lo W:Option Int}{Q:Int×Int×Nat->qO->Prop}(hs:s.heap.IsSliceOf sl vl vu .none)(pl:qC vl lo)(c:qC vu W)(h:Q (((ie n 0 lo:Nat):Int),1,ie n n W-ie n 0 lo) s):wpAny #[8] A (XH (.ref sl) (pure (n:Int))) Q E s:=by
 let⟨os,a,d,b⟩:=id hs;unfold XH xt;show WX (WX (Wj a b (x:=vl) rfl (WX (Wj a b (x:=vu) rfl (WX (Wj a b (x:=.none) rfl (YB ?_)))))));show WX (slicePart_none ?_);change wpAny _ _ (if ((1:Int)==0)=true then _ else _) _ _ s;rw[if_neg #[9]];show WX (Ls pl (WX (Ls c (WX (YB ?_)))));change wpAny _ _ (match yS lo W 1 (n:Int)with|(lo,W)=>pure (lo,(1:Int),yJ lo W 1)) _ _ s
 rw[T4 lo W n];change wpAny _ _ (pure (((ie n 0 lo:Nat):Int),(1:Int),yJ ((ie n 0 lo:Nat):Int) ((ie n n W:Nat):Int) 1)) _ _ s;rw[Z4];show YB h
def afR(xs:Array Value)(i k:Nat):((jg k).filterMap λ(m:Nat)=>xs[((i:Int)+(m:Int)*1).toNat]?).toArray=((xs.toList.drop i).take k).toArray:=by
 have e:(λ(m:Nat)=>xs[((i:Int)+(m:Int)*1).toNat]?)=λm=>xs[i+m]?:=by
  funext m;have:((i:Int)+(m:Int)*1).toNat=i+m:=by lia
  rw[this]
 rw[e];have:=pick_run xs i k;rw[List.filterMap_map]at this;have g:((λx=>xs[x]?) ∘ λx=>i+x)=λm=>xs[i+m]?:=rfl;rw[g]at this;rw[this]
def Dg{lo W:Option Int}(p:qD s.heap t items)(hs:s.heap.IsSliceOf sl vl vu .none)(pl:qC vl lo)(c:qC vu W)(j:¬ (ie items.size 0 lo=0/\ie items.size items.size W=items.size))(h:Q #[19] {s with heap:=s.heap.push {cls:=.type "tuple",data:=.seq ((items.toList.drop (ie items.size 0 lo)).take (ie items.size items.size W-ie items.size 0 lo)).toArray} })(hsz:items.size<=sizeLine):wpAny #[8] A (getItem (.ref t) (.ref sl)) Q E s:=by
 have e:sizeOk (.seq ((items.toList.drop (ie items.size 0 lo)).take (ie items.size items.size W-ie items.size 0 lo)).toArray):=by change((items.toList.drop (ie items.size 0 lo)).take (ie items.size items.size W-ie items.size 0 lo)).toArray.size<=sizeLine;rw[jP,jT,Jw,jq];lia
 have f:ie items.size items.size W<=items.size:=alP _ _ (jE _) W;let⟨os,a,d,b⟩:=id hs;have i:s.TypeIs (.ref sl) "slice" :=⟨os,a,d⟩;unfold getItem
 try with_reducible show Wn ?_
 first|show WX (YB ?_)|skip
 show WX (YM p.typeIs #[9] ?_);show WX (WZ (name:=Str.ofString "__getitem__") p.typeIs Yz
  (Wa Yz p.typeIs entry_tuple_getitem ?_ (qR _ _)))
 change wpAny _ _ (yR (.ref t)>>=_) _ _ s;show WX (tupleItemsOf_ p ?_);show WX (YZ i ?_);rw[if_pos #[9]];show WX (tQ hs pl c ?_);have g:¬ (#[21]=true):=by intro q;rw[Jk,Jk]at q;have k:((ie items.size 0 lo:Nat):Int)=0:=eq_of_beq q.1.1;have l:ie items.size items.size W-ie items.size 0 lo=items.size:=eq_of_beq q.2;show j ⟨by lia,by lia⟩
 change wpAny _ _ (if #[21]=true then _ else _) _ _ s;rw[if_neg g,afR]
 first
  |show WX (m:=yM _) (Ww #[112] e)
  |show WX (m:=yM _) (Ww (WX (YB #[112])) e)
  |show WX (WX (m:=yM _) (Ww (YB #[112]) e))
  |show WX (WX (m:=yM _) (Ww #[112] e))
end
end HT
namespace L2
open PySem PySem.Spec PyProof.Rows
variable{X:Cx}{e:Expr}{te:TE}{pos:Pos}{xs ys:List V}{us aP its':List Value}{α:Type}{n j t':Nat}{i:Int}{r:R2}{o3:List (Qp×Obj)}{σ:St}{H:Hp}{s:qO}{p:Qp}{A:Around}{y x:V}{u v:Value}{es:List Expr}{t:TA}{name:Str}{prog:qL}{w:World}
abbrev TO:=St->Hp->(Option Int->Hp->Prop)->Prop
def PO(X:Cx)(e:Option Expr)(t:TO):Prop:=
 ∀(o3:List #[56]) (s:qO) (σ:St) (H:Hp) (Q:Option Int->Hp->Prop),Inv X o3 σ H s->t σ H Q ->
  wpAny #[4] X.A (evalPart e X.env) (λu s'=>∃o H',Inv X o3 σ H' s'/\qC u o/\Q o H') X.xe s
def aiT:TO:=λ_ H Q=>Q Y H
inductive aiV (Q:Option Int->Hp->Prop) (x:V) (H1:Hp):Prop|mk (i:_) (_:x=.int i) (_:Q (Z i) H1)
def apV(t:TE):TO:=λσ H Q=>t σ H (aiV Q)
section
variable{lo hi:Option Expr}{tl th:TO}{p2:Pos}
def DD:PO X Y aiT:=by exists 2;rw[evalPart_none];show YB ⟨Y,H,I,.none,h⟩
def DE(h:PE X e te):PO X (Z e) (apV te):=by intro o3 s σ H Q I j;rw[evalPart_some];show cw (h o3 s σ H _ I j) λu T ⟨x,d,P,f,E⟩=>?_;let⟨i,rfl,q⟩:=E;let⟨t,rfl⟩:=f;show⟨Z i,d,P,.int i t,q⟩
def SlR(X:Cx)(r:V->Option Int->Option Int->Hp->VK->Prop):Prop:=
 ∀(o3:List #[56]) (s:qO) (σ:St) (H:Hp) (x:V) (v vl vu:Value) (lo hi:Option Int) (sl:Qp) (Q:VK),Inv X o3 σ H s->RelV x v->s.heap.IsSliceOf sl vl vu .none->qC vl lo->qC vu hi->r x lo hi H Q ->
  ∃T id,typeLookup (.type T) "__getitem__" = pure (Z #[165])/\s.TypeIs v T/\wpAny #[4] X.A (getItem v (.ref sl)) #[76] X.xe s
def tSl(r:V->Option Int->Option Int->Hp->VK->Prop)(te:TE)(tl th:TO):TE:=λσ H Q=>te σ H λx H1=>tl σ H1 λl H2=>th σ H2 λu H3=>r x l u H3 Q
def AV{r:V->Option Int->Option Int->Hp->VK->Prop}(S:SlR X r)(R:PE X e te)(C:PO X lo tl)(c:PO X hi th):PE X (.Subscript e (.Slice lo hi Y p2) pos) (tSl r te tl th):=by exists 2;show qQ (cw #[93] λv d ⟨x,f,P,i,E⟩=>?_);show wpAny_Slice (cw (C o3 d σ f _ P E) λg n ⟨l,J,G,N,j⟩=>cw (c o3 n σ J _ G j) λy a ⟨u,o,k,m,p⟩=>?_);rw[evalPart_none];show YB ?_;have t:Inv X o3 σ o {a with heap:=a.heap.push {cls:=.type "slice",data:=.fields #[g,y,.none]} }:=k.kept (t':=a.toks) λb F q=>jB _ q;let⟨T,id,z,B,D⟩:=S o3 {a with heap:=a.heap.push {cls:=.type "slice",data:=.fields #[g,y,.none]} } σ o x v g y l u a.heap.objs.size Q t i (Gs ..) N m p;change wpAny #[4] X.A (subscriptTail e (.Slice lo hi Y p2) v (.ref a.heap.objs.size)) #[76] X.xe {a with heap:=a.heap.push {cls:=.type "slice",data:=.fields #[g,y,.none]} };show tail_any (ops:=[.ref a.heap.objs.size,v]) B z D #[22]
def Cq(xs:List V)(lo hi:Option Int):List V:=(xs.drop (HT.ie xs.length 0 lo)).take (HT.ie xs.length xs.length hi-HT.ie xs.length 0 lo)
def Fy(xs:List V)(lo hi:Option Int):(Cq xs lo hi).length<=xs.length:=by unfold Cq;rw[jT,Jw];lia
inductive auf (K:Yc) (x:V) (lo:Option Int) (hi:Option Int) (H:Hp) (Q:VK):Prop|mk (a:_) (xs:_) (_:x=.ref a) (_:iu K H a xs) (_:¬ (HT.ie xs.length 0 lo=0/\HT.ie xs.length xs.length hi=xs.length)) (_:∀p,H p=Y->Q (.ref p) (upd H p (.tup (Cq xs lo hi))))
def alU:SlR X (auf X.K):=by
 intro o3 s σ H x v g y lo hi V Q I D hs N c h;let⟨a,xs,rfl,J,j,q⟩:=h;cases D;let⟨aP,r,p,S⟩:=I.tuple J;have M:aP.toArray.size=xs.length:=by rw[jP];show r.length.symm
 exists "tuple",_,PyProof.Rows.slot_tuple_getitem.lookup,p.typeIs;show HT.Dg p hs N c (by rw[M];show j) ?_ (by rw[M];show S);rw[M];show⟨.ref s.heap.objs.size,_,I.laid (t':=s.toks) (o:=.tup (Cq xs lo hi)) (λb t q=>jB _ q) (jE _) ?_,U,q _ #[43]⟩;show⟨jc (Fy xs lo hi) S,_,(r.drop (HT.ie xs.length 0 lo)).take (HT.ie xs.length xs.length hi-HT.ie xs.length 0 lo),IsTup.new _ _⟩
inductive apl (K:Yc) (x:V) (y:V) (H:Hp) (Q:VK):Prop|mk (a:_) (b:_) (xs:_) (ys:_) (_:x=.ref a) (_:y=.ref b) (_:iu K H a xs) (_:iu K H b ys) (_:xs≠[]) (_:xs.length+ys.length<=sizeLine) (_:(ys=[]->Q #[44] H)) (_:(ys≠[]->∀p,H p=Y->Q (.ref p) (upd H p (.tup (xs++ys)))))
def Vals.Hz(r:Vals xs us):us=[]↔xs=[]:=by
 cases r with
 |nil=>simp
 |cons _ _=>simp
def aik:Ax X (binaryOp .Add) (apl X.K):=by exists 5;let⟨a,b,xs,ys,rfl,rfl,W,B,J,S,E,l⟩:=h;cases D;cases c;let⟨aP,f,P,_⟩:=I.tuple W;let⟨A,i,p2,_⟩:=I.tuple B;show HT.ahd P p2 (λz=>J (f.Hz.mp z)) (λz=>⟨.ref a,H,I,U,E (i.Hz.mp z)⟩) #[173] (by rw[<-f.length,<-i.length];show S);show⟨.ref s.heap.objs.size,_,I.laid (t':=s.toks) (o:=.tup (xs++ys)) (λb t q=>jB _ q) (jE _) ?_,U,l (λw=>z (i.Hz.mpr w)) _ #[43]⟩;show⟨by rw[jH];show S,_,f.append i,IsTup.new _ _⟩
end
def ixN(n:Nat)(i:Int):Option Nat:=if 0<=i then(if i<n then Z i.toNat else Y)else if -(n:Int)<=i then Z (i+n).toNat else Y
def wV(xs:List α)(i:Int):Option α:=(ixN xs.length i).bind λj=>xs[j]?
def aa8(h:ixN n i=Z j):seqIndex? i n=Z j/\j<n/\-(n:Int)<=i/\i<n:=by
 unfold ixN at h;by_cases X:0<=i
 ·rw[if_pos X]at h;by_cases G:i<n
  ·rw[if_pos G]at h;have e:i.toNat=j:=Option.some.inj h;show⟨by rw[WB X G,e],by lia,by lia,G⟩
  ·rw[if_neg G]at h;cases h
 ·rw[if_neg X]at h;by_cases G : -(n:Int)<=i
  ·rw[if_pos G]at h;have e:(i+n).toNat=j:=Option.some.inj h;show⟨by rw[seqIndex_neg #[1] G,e],by lia,G,by lia⟩
  ·rw[if_neg G]at h;cases h
def ON{xs:List α}{v:α}(h:wV xs i=Z v):∃j,seqIndex? i xs.length=Z j/\xs[j]?=Z v/\j<xs.length/\-(xs.length:Int)<=i/\i<xs.length:=by
 unfold wV at h;cases e:ixN xs.length i with
 |none=>rw[e]at h;cases h
 |some j=>
  rw[e]at h;let⟨G,M,B,k⟩:=aa8 e;show⟨j,G,h,M,B,k⟩
def Bt{xs:List α}{v:α}(h:xs[j]?=Z v):wV xs (j:Int)=Z v:=by
 have f:j<xs.length:=(jk.mp h).1;have e:ixN xs.length (j:Int)=Z j:=by unfold ixN;rw[if_pos #[1],if_pos #[1]];simp
 unfold wV;rw[e];show h
def ad1(xs:List α)(v:α):wV (xs++[v]) (-1)=Z v:=by
 have C:(xs++[v]).length=xs.length+1:=by simp
 have e:ixN (xs++[v]).length (-1)=Z xs.length:=by unfold ixN;rw[C,if_neg #[9],if_pos #[1]];congr 1;lia
 unfold wV;rw[e];change(xs++[v])[xs.length]?=Z v;simp
def ag2(b:Expr):Prop:=∀o i,subscripted b false o i=operate [o,i] (getItem o i)
def IxR(X:Cx)(r:R2):Prop:=
 ∀(value slice:Expr) (o3:List #[56]) (s:qO) (σ:St) (H:Hp) (x y:V) (v u:Value) (Q:VK),Inv X o3 σ H s->RelV x v->RelV y u->r x y H Q ->
  subscripted slice false v u=operate [v,u] (getItem v u)->wpAny #[4] X.A (subscriptTail value slice v u) #[76] X.xe s
def MtR(X:Cx)(id:String)(r:V->List V->Hp->VK->Prop):Prop:=
 ∀(o3:List #[56]) (s:qO) (σ:St) (H:Hp) (x:V) (xs:List V) (v:Value) (us:List Value) (Q:VK),Inv X o3 σ H s->RelV x v->Vals xs us->r x xs H Q ->
  wpAny #[4] X.A (call #[165] (v::us)) #[76] X.xe s
section
variable{a b:Expr}{ta tb:TE}
def ax(S:IxR X r)(W:PE X a ta)(B:PE X b tb)(hs:ag2 b):PE X (.Subscript a b pos) (tOp r ta tb):=by exists 2;show qQ (akh W B I h λv u n x y J G D c q=>S a b o3 n σ J x y v u Q G D c q (hs _ _))
inductive apm (K:Yc) (x:V) (y:V) (H:Hp) (Q:VK):Prop|mk (p:_) (xs:_) (i:_) (v:_) (_:x=.ref p) (_:y=.int i) (_:mC K H p xs) (_:wV xs i=Z v) (_:Q v H)
inductive alF (K:Yc) (x:V) (y:V) (H:Hp) (Q:VK):Prop|mk (p:_) (xs:_) (i:_) (v:_) (_:x=.ref p) (_:y=.int i) (_:iu K H p xs) (_:wV xs i=Z v) (_:Q v H)
inductive at9 (x:V) (y:V) (H:Hp) (Q:VK):Prop|mk (z:_) (i:_) (c:_) (_:x=.str z) (_:y=.int i) (_:z.length<=sizeLine) (_:wV z.cps.toList i=Z c) (_:Q (.str ⟨#[c]⟩) H)
def bR:IxR X (apm X.K):=by
 intro d a o3 s σ H x y v u Q I D c h hs;let⟨p,xs,i,z,rfl,rfl,l,R,q⟩:=h;cases D;let⟨t,rfl⟩:=c;let⟨aP,r,N,S⟩:=I.list l;let⟨j,G,M,m,k,e⟩:=ON R;let⟨w,O,B⟩:=r.get M;have C:=r.length;have L:=Cw;have W:EP X o3 σ Q w s:=⟨z,H,I,B,q⟩;by_cases b:0<=i
 ·have f:i.toNat=j:=by rw[WB b e]at G;show Option.some.inj G
  show item_listR N.isList b #[1] (by rw[f];simpa using O) W hs
 ·have f:(i+(aP.toArray.size:Int)).toNat=j:=by rw[seqIndex_neg #[1] k]at G;rw[jP,<-C];show Option.some.inj G
  show WH (x:=w) N.isList.typeIs slot_list_getitem.lookup
   (wpAny_getItem_list_neg (Q:=λr g=>r=w/\EP X o3 σ Q r g) N.isList #[1] (by rw[jP]<;>lia) #[1] (by rw[f];simpa using O) ⟨rfl,W⟩) hs
def ay:IxR X (alF X.K):=by
 intro d a o3 s σ H x y v u Q I D c h hs;let⟨p,xs,i,z,rfl,rfl,l,R,q⟩:=h;cases D;let⟨t,rfl⟩:=c;let⟨aP,r,N,S⟩:=I.tuple l;let⟨j,G,M,e,k,f⟩:=ON R;let⟨w,O,B⟩:=r.get M;have C:=r.length;have L:=Cw;have W:EP X o3 σ Q w s:=⟨z,H,I,B,q⟩;show WH (x:=w) N.typeIs slot_tuple_getitem.lookup
  (getItem_tuple (j:=j) (Q:=λr b=>r=w/\EP X o3 σ Q r b) N #[1] #[1] (by rw[jP,<-C];show G) (by simpa using O) ⟨rfl,W⟩) hs
def aeS:IxR X at9:=by
 intro d a o3 s σ H x y v u Q I D b h hs;let⟨z,i,c,rfl,rfl,S,R,q⟩:=h;exists 7;let⟨t',rfl⟩:=b;let⟨j,G,M,B,k,e⟩:=ON R;have C:z.cps.toList.length=z.length:=by simp[Str.length]
 rw[C]at G k e;have L:=Cw;show tail_any (WN s z t) slot_str_getitem.lookup (getItem_str (c:=c) (by have T:decide (i < -(2^63:Int))=false:=decide_eq_false #[1];have g:decide (i ≥ 2^63)=false:=decide_eq_false #[1];rw[T,g,Bool.or_false]) (by rw[G];simpa using M) ⟨.str ⟨#[c]⟩,H,I.tok _,⟨_,rfl⟩,q⟩) hs
def X9(aP:List Value)(n j:Nat)(u:Value):Obj.mapSeq (·.setIfInBounds j u) {cls:=.type "list",data:=.seq aP.toArray n}={cls:=.type "list",data:=.seq (aP.set j u).toArray n}:=by simp[Obj.mapSeq]
def Inv.lst{o3:List #[56]}{σ:St}{H:Hp}{s:qO}{p:Qp}{xs:List V}(I:Inv X o3 σ H s)(h:H p=Z #[133]):
  ∃(aP:List Value) (n:Nat),Vals xs aP/\s.heap.get? p=Z {cls:=.type "list",data:=.seq aP.toArray n}/\xs.length<=sizeLine:=by
 let⟨z,aP,n,r,e⟩:=I.hok p _ h;show⟨aP,n,r,e,z⟩
def Inv.ale{c:Nat}{f:Obj->Obj}(I:Inv X o3 σ H s)(h:H p=Z #[133])(O:s.heap.get? p=Z {cls:=.type "list",data:=.seq aP.toArray n})(V:f {cls:=.type "list",data:=.seq aP.toArray n}={cls:=.type "list",data:=.seq its'.toArray c})(r:Vals ys its')(hz:ys.length<=sizeLine)(t:Nat):
  Inv X o3 σ (upd H p #[72]) {s with heap:=s.heap.update p f,toks:=t}:=by
 have e:(s.heap.update p f).get? p=Z {cls:=.type "list",data:=.seq its'.toArray c}:=by rw[jz f O (by rw[V]<;>rfl),V]
 show I.write (x:=p) (e:=p) (by rw[h];trivial) #[90] (λb u B q=>(JI _ _ (Ne.symm B)).trans q) ⟨_,e⟩ ?_;show⟨hz,its',c,r,e⟩
inductive apo (o:V) (i:V) (v:V) (H:Hp) (Q:Hp->Prop):Prop|mk (p:_) (xs:_) (k:_) (j:_) (_:o=.ref p) (_:i=.int k) (_:H p=Z #[133]) (_:ixN xs.length k=Z j) (_:Q (upd H p (.lst (xs.set j v))))
def set_list:anm X apo:=by
 intro o3 s σ H o i v L e u Q I c d F h;let⟨p,xs,k,j,rfl,rfl,D,f,q⟩:=h;cases c;let⟨t,rfl⟩:=d;let⟨aP,n,r,O,S⟩:=I.lst D;let⟨G,M,B,a⟩:=aa8 f;have C:=r.length;have g:=Cw;have K:Inv X o3 σ (upd H p (.lst (xs.set j v))) {s with heap:=s.heap.update p (Obj.mapSeq (·.setIfInBounds j u))}:=
  I.ale D O (X9 aP n j u) (r.set F j) (by rw[Zc];show S) s.toks
 by_cases b:0<=k
 ·have R:k.toNat=j:=by rw[WB b a]at G;show Option.some.inj G
  show PySem.W.ki_setAt O b #[1] (by rw[jP,<-C];show a) (by rw[R];show⟨_,K,q⟩)
 ·have R:(k+(aP.toArray.size:Int)).toNat=j:=by rw[seqIndex_neg #[1] B]at G;rw[jP,<-C];show Option.some.inj G
  show PySem.W.ki_setBack O #[1] (by rw[jP,<-C];show B) #[1] (by rw[R];show⟨_,K,q⟩)
def PB(lo W:Option Int)(n:Nat):(sliceBounds lo W Y n).1=((HT.ie n 0 lo:Nat):Int)/\(sliceBounds lo W Y n).2.1=((HT.ie n n W:Nat):Int)/\(sliceBounds lo W Y n).2.2=1:=by
 show⟨?_,?_,U⟩
 ·cases lo with
  |none=>simp[sliceBounds,HT.ie]
  |some i=>
   simp only[sliceBounds,HT.ie,QM,show(1:Int) > 0 by decide,if_true];by_cases h:i<0
   ·simp only[h,if_true]<;>lia
   ·simp only[h,if_false]<;>lia
 ·cases W with
  |none=>simp[sliceBounds,HT.ie]
  |some i=>
   simp only[sliceBounds,HT.ie,QM,show(1:Int) > 0 by decide,if_true];by_cases h:i<0
   ·simp only[h,if_true]<;>lia
   ·simp only[h,if_false]<;>lia
def Mm(aP:List Value)(lo W:Option Int):slicePick aP.toArray lo W Y=((aP.drop (HT.ie aP.length 0 lo)).take (HT.ie aP.length aP.length W-HT.ie aP.length 0 lo)).toArray:=by let⟨G,M,B⟩:=PB lo W aP.toArray.size;unfold slicePick;rw[G,M,B];simp only[sliceRange_one,pick_run,jP]<;>rfl
inductive aue (K:Yc) (x:V) (lo:Option Int) (hi:Option Int) (H:Hp) (Q:VK):Prop|mk (a:_) (xs:_) (_:x=.ref a) (_:mC K H a xs) (_:∀p,H p=Y->Q (.ref p) (upd H p (.lst (Cq xs lo hi))))
def abu:SlR X (aue X.K):=by intro o3 s σ H x v g y lo W V Q I D hs N c h;let⟨a,xs,rfl,J,q⟩:=h;cases D;let⟨aP,r,p,S⟩:=I.list J;have M:=r.length;exists "list",_,slot_list_getitem.lookup,p.isList.typeIs;show wpAny_getItem_list_slice p.isList hs N c .none #[7] ?_ (by rw[jP]<;>lia);rw[Mm,<-M];show⟨.ref s.heap.objs.size,_,I.laid (t':=s.toks) (o:=.lst (Cq xs lo W)) (λb t q=>jB _ q) (jE _) ?_,U,q _ #[43]⟩;show⟨jc (Fy xs lo W) S,_,0,(r.drop (HT.ie xs.length 0 lo)).take (HT.ie xs.length xs.length W-HT.ie xs.length 0 lo),jJ _ rfl⟩
def FA:V->Bool
 |.non=>true
 |.bl _=>true
 |.int _=>true
 |.str _=>true
 |_=>false
def eqV:V->V->Bool
 |.non,.non=>true
 |.bl a,.bl b=>a==b
 |.bl a,.int b=>(if a then 1 else 0)==b
 |.int a,.bl b=>a==(if b then 1 else 0)
 |.int a,.int b=>a==b
 |.str a,.str b=>a==b
 |_,_=>false
def akr(c:RelV y u)(D:RelV x v)(e:FA y=true)(d:FA x=true):yQ A s u v (eqV y x):=by
 cases y with
 |non=>
  cases c;cases x with
  |non=>cases D;show yn _
  |bl b=>cases D;show Gb b
  |int b=>let⟨t,rfl⟩:=D;show Xm b t
  |str b=>let⟨t,rfl⟩:=D;show Gg b t
  |_=>show absurd (show false=true from d) jZ
 |bl a=>
  cases c;cases x with
  |non=>cases D;show Gd a
  |bl b=>cases D;show Ge a b
  |int b=>let⟨t,rfl⟩:=D;show Gh a b t
  |str b=>let⟨t,rfl⟩:=D;show Gi a b t
  |_=>show absurd (show false=true from d) jZ
 |int a=>
  let⟨t',rfl⟩:=c;cases x with
  |non=>cases D;show Xn a t'
  |bl b=>cases D;show Gj a t' b
  |int b=>let⟨t,rfl⟩:=D;show Xw a t' b t
  |str b=>let⟨t,rfl⟩:=D;show Xt a t' b t
  |_=>show absurd (show false=true from d) jZ
 |str a=>
  let⟨t',rfl⟩:=c;cases x with
  |non=>cases D;show Gk a t'
  |bl b=>cases D;show Gm a t' b
  |int b=>let⟨t,rfl⟩:=D;show Xu a t' b t
  |str b=>let⟨t,rfl⟩:=D;show Xx a t' b t
  |_=>show absurd (show false=true from d) jZ
 |_=>show absurd (show false=true from e) jZ
def V3(x:V)(u:Value):Bool:=match u with
 |.none=>eqV .non x
 |.bool b=>eqV (.bl b) x
 |.int i _=>eqV (.int i) x
 |.str z _=>eqV (.str z) x
 |_=>false
def aei(r:RelV y u)(f:FA y=true):V3 x u=eqV y x:=by
 cases y with
 |non=>cases r;rfl
 |bl b=>cases r;rfl
 |int i=>let⟨t,rfl⟩:=r;rfl
 |str z=>let⟨t,rfl⟩:=r;rfl
 |_=>show absurd (show false=true from f) jZ
theorem C8:∀{xs:List V} {us:List Value},Vals xs us->xs.all FA=true->us.any (V3 x)=xs.any λy=>eqV y x
 |_,_,.nil,_=>rfl
 |y::xs,u::us,.cons r t,f=>by rw[QZ,Jk]at f;rw[zf,zf,aei r f.1,C8 t f.2]
theorem AR(D:RelV x v)(d:FA x=true):∀{xs:List V} {us:List Value},Vals xs us->xs.all FA=true->∀u∈us,yQ A s u v (V3 x u)
 |_,_,.nil,_=>λu C=>by cases C
 |y::xs,u::us,.cons r t,f=>λS C=>by
  rw[QZ,Jk]at f;rcases jL.mp C with rfl|C
  ·rw[aei r f.1];show akr r D f.1 d
  ·show AR D d t f.2 S C
def inV(x:V)(xs:List V):Bool:=xs.any λy=>eqV y x
inductive rIn (K:Yc) (neg:Bool) (x:V) (y:V) (H:Hp) (Q:VK):Prop|mk (p:_) (xs:_) (_:y=.ref p) (_:(mC K H p xs\/iu K H p xs)) (_:FA x=true) (_:xs.all FA=true) (_:Q (.bl (if neg then !inV x xs else inV x xs)) H)
def ic:Ax X (qf .In) (rIn X.K false):=by
 exists 5;let⟨p,xs,rfl,l,d,fs,q⟩:=h;cases c;rcases l with l|l
 ·let⟨aP,r,N,S⟩:=I.list l;show SeqAt.in_listAt (V3 x) N.isList #[91] ⟨.bl _,H,I,U,?_⟩;exists 9;show q
 ·let⟨aP,r,N,S⟩:=I.tuple l;show SeqAt.in_tupleAt (V3 x) N #[91] ⟨.bl _,H,I,U,?_⟩;exists 9;show q
def Ph:Ax X (qf .NotIn) (rIn X.K true):=by
 exists 5;let⟨p,xs,rfl,l,d,fs,q⟩:=h;cases c;rcases l with l|l
 ·let⟨aP,r,N,S⟩:=I.list l;show SeqAt.notIn_listAt (V3 x) N.isList #[91] ⟨.bl _,H,I,U,?_⟩;exists 9;show q
 ·let⟨aP,r,N,S⟩:=I.tuple l;show SeqAt.notIn_tupleAt (V3 x) N #[91] ⟨.bl _,H,I,U,?_⟩;exists 9;show q
inductive AE (K0:Yc) (xs:List V) (H:Hp) (Q:VK):Prop|mk (p:_) (ys:_) (_:xs=[.ref p]) (_:(mC K0 H p ys\/iu K0 H p ys)) (_:Q (.int ys.length) H)
def aM:iQ X #[159] (AE X.K):=by
 exists 20;let⟨p,ys,rfl,l,q⟩:=h;exists 21;cases D;have L:=Cw;rcases l with l|l
 ·let⟨aP,F,N,S⟩:=I.list l;exists 33;show Xl N.isList #[116] ⟨.int ys.length,H,I.tok _,⟨s.toks+1,by rw[jP,M]⟩,q⟩
 ·let⟨aP,F,N,S⟩:=I.tuple l;exists 33;show len_tuple N #[116] ⟨.int ys.length,H,I.tok _,⟨s.toks+1,by rw[jP,M]⟩,q⟩
inductive IC (K0:Yc) (xs:List V) (H:Hp) (Q:VK):Prop|mk (p:_) (ys:_) (_:xs=[.ref p]) (_:(mC K0 H p ys\/iu K0 H p ys)) (_:∀l,H l=Y->Q #[102] (upd H l #[72]))
def OS:iQ X (.type "list") (IC X.K):=by
 exists 20;let⟨p,ys,rfl,l,q⟩:=h;exists 21;cases D;have W:∀(aP:List Value),Vals ys aP->ys.length<=sizeLine->∀(O:Heap) (P:Nat),(∀b m,s.heap.get? b=Z m->O.get? b=Z m)->
   O.get? s.heap.objs.size=Z {cls:=.type "list",dict:=Y,data:=.seq aP.toArray P,slots:=#[]}->EP X o3 σ Q #[19] {s with heap:=O}:=λaP F S O P a e=>
  ⟨.ref s.heap.objs.size,_,I.laid (t':=s.toks) a (jE _) (show bN X.prog X.w _ O _ #[72]from⟨S,aP,P,F,e⟩),rfl,q _ #[43]⟩
 rcases l with l|l
 ·let⟨aP,F,N,S⟩:=I.list l;exists 33;let⟨o,c,L,n,j⟩:=N.isList;show call_list_seq p #[90] c L j (λO P a e=>W aP F S O P a e) #[116]
 ·let⟨aP,F,N,S⟩:=I.tuple l;exists 33;let⟨o,c,L,n,j⟩:=N;show call_list_seq p (.inr rfl) c L j (λO P a e=>W aP F S O P a e) #[116]
inductive G1 (K0:Yc) (xs:List V) (H:Hp) (Q:VK):Prop|mk (p:_) (ys:_) (_:xs=[.ref p]) (_:((mC K0 H p ys/\∀l,H l=Y->Q #[102] (upd H l (.tup ys)))\/(iu K0 H p ys/\Q (.ref p) H)))
def bq:iQ X #[169] (G1 X.K):=by
 exists 20;let⟨p,ys,rfl,h⟩:=h;exists 21;cases D;rcases h with⟨l,q⟩|⟨l,q⟩
 ·let⟨aP,F,N,S⟩:=I.list l;exists 33;show call_tuple_list N.isList (λO a=>?_) #[116];have P:Inv X o3 σ H {s with heap:=O}:=I.kept (t':=s.toks) a;have G:Inv X o3 σ (upd H O.objs.size (.tup ys)) {s with heap:=O.push {cls:=.type "tuple",data:=.seq aP.toArray} }:=
   P.laid (t':=s.toks) (λb o e=>jB _ e) (jE _) (show bN X.prog X.w _ _ _ (.tup ys)from⟨S,aP,F,IsTup.new _ _⟩)
  show⟨.ref O.objs.size,_,G,U,q _ (P.hok.fresh (jE _))⟩
 ·let⟨aP,F,N,S⟩:=I.tuple l;show call_tuple_same N ⟨.ref p,H,I,U,q⟩
def tyV(K:Yc)(T:String)(x:V)(H:Hp):Prop:=match x with
 |.str _=>T = "str"
 |.int _=>T = "int"
 |.ref p=>(T = "list" /\ ∃xs,mC K H p xs)\/(T = "tuple" /\ ∃o,K.lookup p=Z o/\o.cls=.type "tuple" /\ o.dict=Y) \/
   (T = "dict" /\ ((∃kvs,H p=Z #[58])\/∃kvs,H p=Z (.dT kvs)))\/(T = "set" /\ ∃S n,H p=Z (.set S n))
 |_=>False
theorem agF{T:String}(I:Inv X o3 σ H s)(r:RelV x v)(ty:tyV X.K T x H):
  s.TypeIs v T/\∀a,v=.ref a->∃b,s.heap.get? a=Z b/\b.dict=Y:=by
 cases x with
 |str z=>
  let⟨t,rfl⟩:=r;cases(show T = "str" from ty);show⟨WN s z t,λ_ e=>nomatch e⟩
 |int i=>
  let⟨t,rfl⟩:=r;cases(show T = "int" from ty);show⟨typeIs_int s i t,λ_ e=>nomatch e⟩
 |ref p=>
  cases r;rcases ty with⟨rfl,xs,l⟩|⟨rfl,o,R,L,j⟩|⟨rfl,R⟩|⟨rfl,S,n,R⟩
  ·let⟨aP,_,N,_⟩:=I.list l;show⟨N.isList.typeIs,λa e=>?_⟩;cases e;let⟨o,n,e,c,j,_⟩:=N;show⟨o,e,j⟩
  ·show⟨⟨o,I.Dm p o R,L⟩,λa e=>?_⟩;cases e;show⟨o,I.Dm _ o R,j⟩
  ·have z:∃o,s.heap.get? p=Z o/\o.ExactDict:=by
    rcases R with⟨B,R⟩|⟨B,R⟩
    ·let⟨_,_,_,_,o,_,_,e,M,_⟩:=I.hok p _ R;show⟨o,e,M⟩
    ·let⟨_,_,_,_,o,_,_,e,M,_⟩:=I.hok p _ R;show⟨o,e,M⟩
   let⟨o,e,M⟩:=z;show⟨⟨o,e,M.1⟩,λa g=>?_⟩;cases g;show⟨o,e,M.2.1⟩
  ·let⟨o,_,_,_,e,M,_⟩:=I.hok p _ R;show⟨⟨o,e,M.1⟩,λa g=>?_⟩;cases g;show⟨o,e,M.2.1⟩
 |_=>show False.elim ty
structure alZ(K:Yc)(T:String)(r:V->List V->Hp->VK->Prop)(Q:VK)(x:V)(H1:Hp):Prop where
 h0:tyV K T x H1
 h1:r x [] H1 Q
def apL(K:Yc)(T:String)(r:V->List V->Hp->VK->Prop)(to:TE):TE:=λσ H Q=>to σ H (alZ K T r Q)
structure apM(K:Yc)(T:String)(r:V->List V->Hp->VK->Prop)(t:TA)(σ:St)(Q:VK)(x:V)(H1:Hp):Prop where
 h0:tyV K T x H1
 h1:t σ H1 λxs H2=>r x xs H2 Q
def tBM(K:Yc)(T:String)(r:V->List V->Hp->VK->Prop)(to:TE)(t:TA):TE:=λσ H Q=>to σ H (apM K T r t σ Q)
variable{o:Expr}{to:TE}{w4 fq:Pos}{T id:String}{r:V->List V->Hp->VK->Prop}
def K6(D:qK T)(y:Slot T name id)(b:typeOf #[165]=pure (.type "method_descriptor"))(N:MtR X id r)(O:PE X o to)(c:attributeBase o name X.env (eval o X.env)=eval o X.env:=by rfl)(j:(w4.endLine==fq.line)=true:=by rfl):PE X (.Call (.Attribute o name w4) [] [] fq) (apL X.K T r to):=by exists 2;show wpAny_Call_method0_late c j (cw #[111] λv a ⟨x,d,P,f,ty,E⟩=>?_);let⟨G,M⟩:=agF P f ty;show⟨T,id,D,y,b,G,M,Yx rfl (PySem.evalArgs_none (N o3 a σ d x [] v [] Q P f .nil E))⟩
def fZ(D:qK T)(y:Slot T name id)(b:typeOf #[165]=pure (.type "method_descriptor"))(N:MtR X id r)(O:PE X o to)(W:PA X (e::es) t)(c:attributeBase o name X.env (eval o X.env)=eval o X.env:=by rfl)(g:((backTo fq (WE (e::es) X.env)).all (λx=>!x.1)&&(backToKw fq #[106]).all (λx=>x.1.isSome)
   && decide ((e::es).length+([]:List qG).length+(if ([]:List qG).isEmpty then 0 else 1)<30))=true:=by rfl)(j:(w4.endLine==fq.line)=true:=by rfl)(hs:WE (e::es) X.env=#[29]::WE es X.env:=by rfl)(k:(backTo fq (WE es X.env)).any (·.1)=false:=by rfl):
  PE X (.Call (.Attribute o name w4) (e::es) [] fq) (tBM X.K T r to t):=by
 exists 2;show wpAny_Call_method_late c g j rfl (cw #[111] λv d ⟨x,i,P,f,ty,E⟩=>?_);let⟨G,M⟩:=agF P f ty;exists T,id,D,y,b,G,M;have J:=W fq o3 d σ i _ P E;rw[hs]at J ⊢;show Yx (by change(false||(backTo fq (WE es X.env)).any (·.1))=false;rw[k]<;>rfl) (yK ?_);show cw J λus n ⟨l,p,q,u,w⟩=>N o3 n σ p x l v us Q q f u w
/- xs.append(e),list.index on a aoY tuple .. are MtR facts of 06m -/
end
def MtM(X:Cx)(id:String)(r:V->List V->Hp->VK->Prop):Prop:=
 ∀(o3:List #[56]) (s:qO) (σ:St) (H:Hp) (x:V) (xs:List V) (v:Value) (us:List Value) (Q:VK),Inv X o3 σ H s->RelV x v->Vals xs us->r x xs H Q ->
  wpAny #[4] X.A (call #[165] (v::us)) #[76] X.xe s
theorem Vals.one:∀{x:V} {us:List Value},Vals [x] us->∃u,us=[u]/\RelV x u
 |_,_,.cons r .nil=>⟨_,rfl,r⟩
theorem Vals.two:∀{x y:V} {us:List Value},Vals [x,y] us->∃u v,us=[u,v]/\RelV x u/\RelV y v
 |_,_,_,.cons r (.cons q .nil)=>⟨_,_,rfl,r,q⟩
theorem Vals.zero:∀{us:List Value},Vals [] us->us=[]
 |_,.nil=>rfl
theorem Vals.dropLast(h:Vals xs us):Vals xs.dropLast us.dropLast:=by
 induction h with
 |nil=>show .nil
 |cons r t K=>
  cases t with
  |nil=>show .nil
  |cons q t'=>show .cons r K
def V4(l:List α):l.eraseIdx (l.length-1)=l.dropLast:=by
 induction l with
 |nil=>rfl
 |cons a r K=>
  cases r with
  |nil=>rfl
  |cons b r=>
   have e:(a::b::r).length-1=((b::r).length-1)+1:=by have G:(a::b::r).length=r.length+2:=rfl;have M:(b::r).length=r.length+1:=rfl;lia
   rw[e,List.eraseIdx_cons_succ,K]
   all_goals rfl
section
variable{l:Qp}
def Inv.ahT{f:Array Value->Array Value}{t':Nat}(I:Inv X o3 σ H s)(a:H l=Z #[133])(e:s.heap.get? l=Z {cls:=.type "list",data:=.seq aP.toArray n})(V:f aP.toArray=its'.toArray)(N:Vals ys its')(hz:ys.length<=sizeLine):
  Inv X o3 σ (upd H l #[72]) {s with heap:=s.heap.update l (Obj.mapSeq f),toks:=t'}:=by
 have q:=Gx e f;rw[V]at q;show I.write (x:=l) (e:=l) (by rw[a];show trivial) #[90] (λg u B C=>(JI s.heap (Obj.mapSeq f) (Ne.symm B)).trans C) ⟨_,q⟩ ?_;show⟨hz,its',_,N,q⟩
def Inv.aoW{t':Nat}(I:Inv X o3 σ H s)(N:Vals ys aP)(hz:ys.length<=sizeLine):
  Inv X o3 σ (upd H s.heap.objs.size #[72]) {s with heap:=s.heap.push {cls:=.type "list",data:=.seq aP.toArray},toks:=t'}:=
 I.laid (λ_ _ q=>jB _ q) (jE _) ⟨hz,aP,0,N,jJ _ rfl⟩
theorem Inv.fresh(I:Inv X o3 σ H s):H s.heap.objs.size=Y:=I.hok.fresh (jE _)
def Inv.J6(I:Inv X o3 σ H s)(a:H l=Z #[133]):xs.length<=sizeLine/\∃(aP:List Value) (n:Nat),Vals xs aP/\xs.length=aP.length/\s.heap.get? l=Z {cls:=.type "list",data:=.seq aP.toArray n}:=by let⟨z,aP,n,r,e⟩:=I.hok l _ a;show⟨z,aP,n,r,r.length,e⟩
def Sa(h:n<=sizeLine):yB n=false:=by unfold yB;show decide_eq_false #[1]
end
section
inductive aiz (x:V) (vs:List V) (H:Hp) (Q:VK):Prop|mk (l:_) (xs:_) (y:_) (_:x=.ref l) (_:vs=[y]) (_:H l=Z #[133]) (_:xs.length<sizeLine) (_:Q .non (upd H l (.lst (xs++[y]))))
def bX:MtM X "list.append" aiz:=by intro o3 s σ H x c v us Q I D b h;let⟨l,xs,y,rfl,rfl,a,S,q⟩:=h;cases D;let⟨u,rfl,N⟩:=b.one;let⟨z,aP,n,r,C,e⟩:=I.J6 a;show qX F.slot_list_append ⟨_,e,U⟩ F.entry_list_append (F.args_list_append_2 _ _) (PySem.list_append l aP.toArray n u (by rw[jP];lia)) ⟨e,?_⟩;show⟨.non,_,I.ahT (its':=aP++[u]) a e #[7] (r.append (.cons N .nil)) ?_,U,q⟩;rw[jH,je];lia
inductive abr (x:V) (vs:List V) (H:Hp) (Q:VK):Prop|mk (l:_) (b:_) (xs:_) (zs:_) (_:x=.ref l) (_:vs=[.ref b]) (_:H l=Z #[133]) (_:H b=Z (.lst zs)) (_:xs.length+zs.length<=sizeLine) (_:Q .non (upd H l (.lst (xs++zs))))
def ac2:MtM X "list.extend" abr:=by
 intro o3 s σ H x c v us Q I D F h;let⟨l,b,xs,E,rfl,rfl,a,o,S,q⟩:=h;cases D;let⟨u,rfl,N⟩:=F.one;cases N;let⟨z,aP,n,r,C,e⟩:=I.J6 a;let⟨f,A,T,i,m,g⟩:=I.J6 o;have G:aP.toArray.size+A.toArray.size<=sizeLine:=by rw[jP,jP];lia
 have d:¬ (!aP.toArray.isEmpty&&yB (aP.toArray.size+A.toArray.size))=true:=by rw[Sa G,Zi];show jZ
 show qX Xy ⟨_,e,U⟩ Xo (Xi _ _)
  (AutoSeq1.list_extend_list_list_0 l aP.toArray n b A.toArray T d (by rw[jP];lia) #[1]) ⟨e,g,?_⟩
 show⟨.non,_,I.ahT (its':=aP++A) a e #[7] (r.append i) ?_,U,q⟩;rw[jH];lia
inductive aub (x:V) (vs:List V) (H:Hp) (Q:VK):Prop|mk (l:_) (xs:_) (y:_) (_:x=.ref l) (_:vs=[]) (_:H l=Z #[133]) (_:xs[xs.length-1]?=Z y) (_:Q y (upd H l (.lst xs.dropLast)))
def Y1:MtM X "list.pop" aub:=by
 intro o3 s σ H x g v us Q I D b h;let⟨l,xs,y,rfl,rfl,a,G,q⟩:=h;cases D;have f:=b.zero;subst f;let⟨z,aP,n,r,C,e⟩:=I.J6 a;let⟨u,c,N⟩:=r.get G;have d:aP.toArray[aP.toArray.size-1]?=Z u:=by change aP.toArray[aP.length-1]?=Z u;rw[<-JU,<-C];show c
 show qX F.slot_list_pop ⟨_,e,U⟩ F.entry_list_pop (F.args_list_pop_1 _) (MeetsSeq.list_pop_last l aP.toArray n u d (by rw[jP];lia)) ⟨e,?_⟩;show⟨y,_,I.ahT (its':=aP.dropLast) a e ?_ r.dropLast ?_,N,q⟩
 ·change aP.toArray.eraseIdxIfInBounds (aP.toArray.size-1)=aP.dropLast.toArray;rw[jP,List.eraseIdxIfInBounds_toArray,V4]
 ·rw[Zk];lia
inductive at6 (x:V) (y:V) (H:Hp) (Q:VK):Prop|mk (l:_) (b:_) (xs:_) (zs:_) (_:x=.ref l) (_:y=.ref b) (_:H l=Z #[133]) (_:H b=Z (.lst zs)) (_:xs.length+zs.length<=sizeLine) (_:∀p,H p=Y->Q (.ref p) (upd H p (.lst (xs++zs))))
def als:Ax X (binaryOp .Add) at6:=by
 exists 5;let⟨l,b,xs,E,rfl,rfl,a,o,S,q⟩:=h;cases D;cases c;let⟨z,aP,n,r,C,e⟩:=I.J6 a;let⟨f,A,T,i,m,g⟩:=I.J6 o;show PySem.P.add_list e g ?_ (by rw[jP,jP];lia);have d:aP.toArray++A.toArray=(aP++A).toArray:=by simp
 rw[d];show⟨.ref _,_,I.aoW (t':=s.toks) (r.append i) (by rw[jH];lia),U,q _ I.fresh⟩
end
end L2
namespace Att
open PySem PySem.W PySem.Calls PyProof.Rows
variable{h:Heap}{n:Nat}{vals:List Value}{loose:List Str}{prog:qL}{w:World}
def Ha{P:Params}:∀(ns:List Int) (vs:List Value),WellAll P h vs (ns.map WData.int)->qA vs ns:=by
 intro ns
 induction ns with
 |nil=>
  intro vs w;rw[Zw]at w;cases w;show .nil
 |cons n ns K=>
  intro vs w;rw[jt]at w;cases w with
  |cons a b=>
   cases a;show .cons _ _ (K _ b)
theorem adu{l:OpenLaw}(f:l.most=Z n){P:Params}{args:List WData}(e:l.row.toRowW.claim.pre args=true)(s:WellAll P h vals args):
  ∃a vs ns,vals=[Yd a]/\args=[WData.list (ns.map WData.int)]/\h.get? a=Z {cls:=.type "list",data:=.seq vs.toArray}/\qA vs ns/\ns.length<=n:=by
 have c:WShape.hasAll [] args [.list .int]=true:=(pre_splitW e).1;have L:l.pre.holds [] {args:=args}=true:=(pre_splitW e).2;let⟨d,r,rfl,G,g⟩:=hasAllW_cons c;obtain rfl:=hasAllW_nil g;let⟨t,rfl,B⟩:=hasW_list G;let⟨ns,rfl⟩:=items_int B;have M:ns.length<=n:=by
  unfold OpenLaw.pre at L;have k:(WTm.not (.lt (.lit (.int (n:Int))) (.len (.arg 0)))).holds [] {args:=[.list (ns.map .int)]}=true:=by have k:=(holds_andW L).1;rw[f]at k;show k
  have b:=condW_of k (w_not (w_lt w_lit (w_len_list (w_arg rfl))));rw[jW]at b;show Jx λq=>?_;have D:(n:Int)<((ns.length:Nat):Int):=by lia
  first
   |(rw[decide_eq_true D]at b;show absurd b #[9])
   |(simp at b;lia)
 cases s with
 |cons u K=>
  cases K;cases u with
  |list O x=>show⟨_,_,ns,rfl,rfl,O,Ha ns _ x,M⟩
def adp(l:OpenLaw)(args:List WData):l.row.toRowW.claim.post args (.bool true) args=true:=
 postW_of (r:=l.row.toRowW) (X:=(true==true))
  (show WShape.has [] (.bool true) .bool=true by first|rfl|decide|simp[WShape.has,WShape.arms,WShape.armsAll])
  (show(WTm.eq .res (.lit (.bool true))).value [] {args:=args,res:=Z (.bool true),after:=args}=Z (.bool (true==true))from w_eq_bool (w_res rfl) w_lit) rfl
def Rg{l:OpenLaw}{q:qL}{v:(Str->Option Value)->Heap->Prop}{J:World->Heap->Prop}{d:DefRec}(L:l.most=Z n)(A:d.params.defaults=[])(call:∀(w:World) (s₀ K:qO) (mg z:Str->Option Value) (N:Qp) (o:Obj) (g h i:Value) (a:Qp) (vs:List Value) (ns:List Int),
   Ground q loose [] v w s₀ mg z K.heap->J w K.heap ->
   K.heap.get? N=Z o->o.data=.func (docDef d.name d.params d.body d.scope g h i)->K.heap.CodeRec h d.name->mg d.name=Z (.ref N)->
   K.heap.get? a=Z {cls:=.type "list",data:=.seq vs.toArray}->qA vs ns->ns.length<=n->K.gens=#[] ->
   codeAny (model l.prog w) callerA (.call (.ref N) ⟨[.ref a],[]⟩) (λr p=>r=.ok (.ret (.bool true))/\OldK K.heap p.heap/\p.os=K.os/\Qq p.gens) K):
  WalkO q loose v J l.row.toRowW d [] (λf vs=>xQ f vs):=by
 intro w s₀ K mg z G E N o g h i C kV O j D B W m c vals Q e u b s x;obtain rfl:C=.none:=Dflts.none B A;obtain rfl:kV=.none:=Dflts.noKw B;let⟨a,vs,ns,rfl,rfl,t,y,M⟩:=adu L e s;show enter_call (qd (call w s₀ K mg z N o g h i a vs ns G E O (fd_plain j) D W t y M m) λr p k=>?_);let⟨rfl,F,H,I⟩:=k;show⟨.inl ⟨.bool true,.bool true,[],U,λ_=>rfl,.bool true,adp l _,λ_=>⟨List.Pairwise.nil,λ_ P=>(nomatch P)⟩⟩,F,H,I⟩
section
def ledger(h:Heap)(L d:Qp):List #[56]:=(jg h.objs.size).filterMap λa=>if a=L\/a=d then Y else(h.get? a).map λo=>(a,o)
end
end Att
namespace L2
open PySem PySem.Spec PyProof.Rows
variable{X:Cx}{prog:qL}{w:World}{K:Yc}{mg m:Str->Option Value}{base h':Heap}{A:Around}{n i m0:Nat}{x y:Str}{pos py:Pos}{H H':Hp}{l a c D C it:Qp}{xs:List V}{scope:Scope}{env:Qw}{o3:List (Qp×Obj)}{σ:St}{s s1:qO}{N:List Str}{ix:List (Option Nat)}{fp:List Qp}{R:Result->qO->Prop}{E:Value->qO->Prop}{elt iter:Expr}{ifs:List Expr}{t tc:TT}{te:TE}{wi:TI}{Qd:Qp->Hp->Prop}{lo:Int}
theorem Om:∀{vs:List Value} {ns:List Int},qA vs ns->Vals #[47] vs
 |_,_,.nil=>.nil
 |_,_,.cons n t h=>.cons ⟨t,rfl⟩ (Om h)
def inClass(s:Stmt)(j:Nat):Stmt:=match s with
 |.ClassDef _ _ _ body _ _ _ _ _ _ _=>body.getD j (.Pass ⟨0,0,0,0⟩)
 |_=>.Pass ⟨0,0,0,0⟩
def dP(s:Stmt):Qr:=match s with
 |.FunctionDef _ a _ _ _ _ _ _ _ _=>a
 |_=>{posonlyargs:=[],args:=[],vararg:=Y,kwonlyargs:=[],kw_defaults:=[],kwarg:=Y,defaults:=[]}
def cT(s:Stmt):List Stmt:=match s with
 |.FunctionDef _ _ b _ _ _ _ _ _ _=>b
 |_=>[]
def aq(s:Stmt):Scope:=match s with
 |.FunctionDef _ _ _ _ _ _ sc _ _ _=>sc
 |_=>{kind:=.function,names:=[],isGenerator:=false,isCoroutine:=false}
abbrev cO:CXT:=λ_ _ _ _ _ _=>False
abbrev E0:XK:=λ_ _ _=>False
def afD:Passes cO X E0:=λ_ _ _ _ _ _ _ h=>h.elim
def ow{k:Nat}(S:eJ k A):A.units+1<cLine:=Jo (Nat.add_le_add_left (by decide:1<=64) _) S.units
def cC(h:n<=1000):n<sizeLine:=Jo h #[9]
section
def pv(i:Nat)(T:X.N[i]?=Z x:=by rfl)(a:Vis X.env.scope x:=by first|show Or.inl rfl|show Or.inr #[140]|show Or.inr (Or.inr rfl))(j:#[36]=false:=by decide)(D:(x==("__classdict__" : Str))=false:=by decide):PE X #[180] (aiX i):=Z3 T a j D
end
def ox{A B:Prop}(h:B):if false=true then A else B:=by rw[if_neg jZ];show h
def Cu{A B:Prop}(h:A):if true=true then A else B:=by rw[if_pos rfl];show h
def O8{c A B:Prop}[Decidable c](G:c->A)(M:¬ c->B):if c then A else B:=by
 by_cases h:c
 ·rw[if_pos h];show G h
 ·rw[if_neg h];show M h
def aoM{c A B:Prop}[Decidable c](L:c)(h:B):if (!decide c)=true then A else B:=by rw[decide_eq_true L];show ox h
def av(H H':Hp):Prop:=∀b o,H b=Z o->H' b=Z o
def av.refl(H:Hp):av H H:=λ_ _ h=>h
def av.trans{d J:Hp}(a:av H d)(b:av d J):av H J:=λc o h=>b c o (a c o h)
def av.free(e:av H H')(h:H' l=Qj):H l=Qj:=by
 cases q:H l with
 |none=>rfl
 |some o=>
  rw[e l o q]at h;cases h
def av.seq(e:av H H')(h:mC K H a xs):mC K H' a xs:=by
 rcases h with(h|⟨o,h⟩)|h
 ·show .inl (.inl (e _ _ h))
 ·show .inl (.inr ⟨o,e _ _ h⟩)
 ·show .inr h
def dh(cells:List #[156]):List (Str×qH)->List #[156]->List #[156]
 |[],cs=>cs
 |(n,k)::r,cs=>dh cells r (if k==.free then(n,(cells.lookup n).getD 0)::cs else cs)
def BX(h:∀y∈scope.names,y.2=.free->∃c,env.cells.lookup y.1=Z c):
  closureFor scope env=pure (dh env.cells scope.names []):=by
 have all:∀(l:List (Str×qH)) (L:List #[156]),(∀y∈l,y.2=.free->∃c,env.cells.lookup y.1=Z c)->
   (forIn l L (λ(x:Str×qH) (r:List #[156])=>(match x with
    | (a,b)=>if (b==NameKind.free)=true then(do let c <-cellOf env a;pure (ForInStep.yield ((a,c)::r)))else pure (ForInStep.yield r):qM (ForInStep (List #[156])))):qM (List #[156]))
   = pure (dh env.cells l L):=by
  intro l
  induction l with
  |nil=>intro L _;rfl
  |cons y r K=>
   intro L G;let⟨n,k⟩:=y;rw[zR];by_cases R:k=.free
   ·subst R;let⟨c,e⟩:=G (n,.free) jA rfl;have E:env.cells.lookup n=Z c:=e;have T:cellOf env n=pure c:=by unfold cellOf;rw[E]
    simp only[beq_self_eq_true,if_true,T,pure_bind];rw[K _ λz S=>G z (jF _ S)];simp only[dh,beq_self_eq_true,if_true,E,zg]
   ·have B:(k==NameKind.free)=false:=by simpa using R
    simp only[B,JW,if_false,pure_bind];rw[K _ λz S=>G z (jF _ S)];simp only[dh,B,JW,if_false]
 unfold closureFor;have q:=all scope.names [] h;simp only[bind_pure];show q
theorem BW(j:List #[156]):∀(ns:List (Str×qH)) (cs:List #[156]),(dh j ns cs).lookup x=Z c ->
  ((x,NameKind.free)∈ns/\(j.lookup x).getD 0=c)\/cs.lookup x=Z c
 |[],_,h=>.inr h
 |(n,k)::r,cs,h=>by
  rcases BW j r _ h with⟨G,M⟩|G
  ·show .inl ⟨jF _ G,M⟩
  ·by_cases R:k=.free
   ·subst R;simp only[beq_self_eq_true,if_true]at G;by_cases J:x=n
    ·subst J;simp only[ju,beq_self_eq_true]at G;show .inl ⟨jA,Option.some.inj G⟩
    ·have B:(x==n)=false:=by simpa using J
     simp only[ju,B]at G;show .inr G
   ·have B:(k==NameKind.free)=false:=by simpa using R
    simp only[B,JW,if_false]at G;show .inr G
theorem wq(j:List #[156])(e:j.lookup x=Z c):∀(ns:List (Str×qH)) (cs:List #[156]),((x,NameKind.free)∈ns\/cs.lookup x=Z c)->
  (dh j ns cs).lookup x=Z c
 |[],_,h=>by
  rcases h with h|h
  ·cases h
  ·show h
 |(n,k)::r,cs,h=>by
  show wq j e r _ ?_;rcases h with h|h
  ·rcases jL.mp h with z|z
   ·cases z;right;simp only[beq_self_eq_true,if_true,ju,e,zg]
   ·show .inl z
  ·right;by_cases R:(k==NameKind.free)=true
   ·rw[if_pos R];by_cases J:x=n
    ·subst J;simp only[ju,beq_self_eq_true,e,zg]
    ·have B:(x==n)=false:=by simpa using J
     simp only[ju,B];show h
   ·rw[if_neg R];show h
theorem DI{env:Qw}:∀{names:List (Str×qH)} {x:Str},names.lookup x=Z .free ->
  (names.map λ(n,k)=>if #[10]then#[138]else(n,k)).lookup x=Z .cell \/
  (names.map λ(n,k)=>if #[10]then#[138]else(n,k)).lookup x=Z .free
 |[],_,h=>by simp at h
 |(n,k)::r,x,h=>by
  have K:=@DI env r x;change Jn x ((if #[10]=true then#[138]else(n,k))::_)=_ \/
   Jn x ((if #[10]=true then#[138]else(n,k))::_)=_
  cases J:x==n with
  |true=>
   simp only[ju,J]at h;cases h;by_cases L:(NameKind.free==NameKind.free&&env.scope.kind==.function&&env.kindOf n==Z .cell)=true
   ·rw[if_pos L];simp only[ju,J];first|show .inl trivial|show .inl rfl
   ·rw[if_neg L];simp only[ju,J];first|show .inr trivial|show .inr rfl
  |false=>
   simp only[ju,J]at h;by_cases L:#[10]=true
   ·rw[if_pos L];simp only[ju,J];show K h
   ·rw[if_neg L];simp only[ju,J];show K h
theorem sC{env:Qw}:∀{names:List (Str×qH)} {x:Str} {t:qH},t=.cell\/t=.free ->
  (names.map λ(n,k)=>if #[10]then#[138]else(n,k)).lookup x=Z t->(x,NameKind.free)∈names\/(x,NameKind.cell)∈names
 |[],_,_,_,h=>by simp at h
 |(n,k)::r,x,t,E,h=>by
  have K:=@sC env r x t E;have h':Jn x ((if #[10]=true then#[138]else(n,k))::(r.map λ(n,k)=>if #[10]then#[138]else(n,k)))=Z t:=h;cases J:x==n with
  |true=>
   have a:x=n:=by simpa using J
   subst a;by_cases L:(k==NameKind.free&&env.scope.kind==.function&&env.kindOf x==Z .cell)=true
   ·have R:k=.free:=by simp only[Jk,beq_iff_eq]at L;show L.1.1
    subst R;show .inl jA
   ·rw[if_neg L]at h';simp only[ju,beq_self_eq_true]at h';have R:k=t:=Option.some.inj h';rcases E with z|z
    ·rw[R,z];show .inr jA
    ·rw[R,z];show .inl jA
  |false=>
   have up:(x,NameKind.free)∈r\/(x,NameKind.cell)∈r:=by
    show K ?_;by_cases L:#[10]=true
    ·rw[if_pos L]at h';simpa only[ju,J]using h'
    ·rw[if_neg L]at h';simpa only[ju,J]using h'
   rcases up with z|z
   ·show .inl (jF _ z)
   ·show .inr (jF _ z)
def aU(ix:List (Option Nat))(σ:St):St:=ix.map λo=>match o with
 |none=>Y
 |some i=>(σ[i]?).join
structure aY(NX:List Str)(scX:Scope)(N:List Str)(ix:List (Option Nat))(sc:Scope):Prop where
 kind:sc.kind=.function
 nd:N.Nodup
 nocell:∀y∈sc.names,y.2≠.cell
 locs:∀y∈sc.names,y.2=.local->sc.names.lookup y.1=Z .local
 free:∀y∈sc.names,y.2=.free->scX.names.lookup y.1=Z .cell\/scX.names.lookup y.1=Z .free
 len:ix.length=N.length
 at_:∀p∈N.zip ix,∀i,p.2=Z i->NX[i]?=Z p.1/\sc.names.lookup p.1=Z .free
def oO(X:Cx)(N:List Str)(scope:Scope)(fp:List Qp)(s:qO)(H:Hp)(C:Qp):Cx:=
 {prog:=X.prog,w:=X.w,K:=X.K,mg:=X.mg,base:=X.base,A:=X.A,N:=N,s₀:=s,H₀:=H,env:=compEnvC scope (dh X.env.cells scope.names []) C X.env,outer:=X.stack,stack:=X.stack,ex:=fp,fn:=λ_=>false,calm:=X.calm,pn:=X.pn,xe:=λ_ _=>False}
def He{names:List (Str×qH)}(h:names.lookup x=Z .free):(x,NameKind.free)∈names:=Yn h
section
def aY.bB(S:aY X.N X.env.scope N ix scope)(ok:X.Ok):∀y∈scope.names,y.2=.free->∃c,X.env.cells.lookup y.1=Z c:=λy G V=>ok.has y.1 (S.free y G V)
def cxC(X:Cx)(N:List Str)(fp:List Qp)(s:qO)(H:Hp)(env:Qw)(fn:Str->Bool):Cx:=
 {prog:=X.prog,w:=X.w,K:=X.K,mg:=X.mg,base:=X.base,A:=X.A,N:=N,s₀:=s,H₀:=H,env:=env,outer:=X.stack,stack:=X.stack,ex:=fp,fn:=fn,calm:=X.calm,pn:=X.pn,xe:=λ_ _=>False}
def W5{tk:Nat}{own:List #[156]}{fn:Str->Bool}(I:Inv X o3 σ H s)(kind:scope.kind=.function)(free:∀y∈scope.names,y.2=.free->X.env.scope.names.lookup y.1=Z .cell\/X.env.scope.names.lookup y.1=Z .free)(len:ix.length=N.length)(at_:∀p∈N.zip ix,∀i,p.2=Z i->X.N[i]?=Z p.1/\scope.names.lookup p.1=Z .free)(y4:∀y,(y,NameKind.cell)∈scope.names->∃d,own.lookup y=Z d)(w:∀y,(y,NameKind.free)∈scope.names->own.lookup y=Y)(d5:∀y,fn y=true->∃d,own.lookup y=Z d)(i5:∀y z d,own.lookup y=Z d->own.lookup z=Z d->y=z)(K:∀y d,own.lookup y=Z d->s.heap.objs.size<=d/\d≠D/\d≠C/\h'.get? d=Z {cls:=.type "cell",data:=.cell Y})(V:∀b∈fp,tW X o3 H b)(j5:∀b∈fp,∃o,s.heap.get? b=Z o/\∀v,o.data≠.cell v)(g:s.heap.objs.size<=D)(hC:s.heap.objs.size<=C)(o5:D≠C)(R:∀b o,s.heap.get? b=Z o->h'.get? b=Z o)(w5:h'.Ns C m)(hl:∃n,h'.get? D=Z {cls:=.type "list",data:=.seq ([]:List Value).toArray n}):
  Inv (cxC X N fp s H (compEnvC scope (own++dh X.env.cells scope.names []) C X.env) fn) o3 #[71] #[53] {s with heap:=h',toks:=tk}:=by
 have bB:∀y∈scope.names,y.2=.free->∃c,X.env.cells.lookup y.1=Z c:=λy G V=>I.ok.has y.1 (free y G V);have fresh:∀{a:Qp},s.heap.objs.size<=a->H a=Y:=λh=>I.hok.fresh h;have z5:∀y d,(dh X.env.cells scope.names []).lookup y=Z d->X.env.cells.lookup y=Z d:=λy d e=>by
  rcases BW _ _ _ e with⟨h1,h2⟩|h1
  ·let⟨c',e'⟩:=bB _ h1 rfl;have P:X.env.cells.lookup y=Z c':=e';rw[P]at h2;rw[P];show congrArg Z h2
  ·simp at h1
 have M:∀y d,(own++dh X.env.cells scope.names []).lookup y=Z d->own.lookup y=Z d\/(own.lookup y=Y/\X.env.cells.lookup y=Z d):=λy d e=>by
  rw[ZG]at e;cases q:own.lookup y with
  |none=>rw[q]at e;show .inr ⟨rfl,z5 y d e⟩
  |some d'=>rw[q]at e;show .inl e
 have c6:∀{y d},own.lookup y=Z d->(own++dh X.env.cells scope.names []).lookup y=Z d:=λ{y d} e=>by rw[ZG,e];rfl
 have Q:∀{y d},own.lookup y=Y->(dh X.env.cells scope.names []).lookup y=Z d->(own++dh X.env.cells scope.names []).lookup y=Z d:=λ{y d} G e=>by rw[ZG,G];show e
 have x:∀{b:Qp} {o:Obj},s.heap.get? b=Z o->b<s.heap.objs.size:=λe=>jM e;have F:∀{b:Qp} {o:Obj},s.heap.get? b=Z o->b≠C:=λe=>jU (jY (x e) hC);have S:∀{b:Qp} {o:Obj},s.heap.get? b=Z o->b≠D:=λe=>jU (jY (x e) g);have A:∀{b c y:_} {o:Obj},s.heap.get? b=Z o->own.lookup y=Z c->b≠c:=λe q=>jU (jY (x e) (K _ _ q).1);have J:∀y d,X.env.cells.lookup y=Z d->∃o,s.heap.get? d=Z o:=λy d e=>by let⟨v,o,O,_⟩:=I.cell y d e;show⟨o,O⟩
 show⟨⟨I.ok.mod,?_,I.ok.glob,I.ok.blt,hC,λy z d e1 t=>?_,λy G=>?_,λy d h e=>?_,I.ok.hd,I.ok.frames,.inl rfl,λb B=>?_,I.bs,jc I.ok.bsz I.sz,λb o e B=>?_,λb B d6=>?_,I.stack,I.abM⟩,
  rfl,I.bare,Un.laid R g (fresh g),⟨m,w5,λj y v e1 t e3=>?_⟩,λy d e=>?_,?_,λy d e=>?_,λp hp=>?_,I.hok.laid R g ?_,?_⟩
 ·show kind
 ·rcases M y d e1 with a|⟨_,a⟩
  ·rcases M z d t with b|⟨_,b⟩
   ·show i5 y z d a b
   ·let⟨o,O⟩:=J z d b;show absurd rfl (A O a)
  ·rcases M z d t with b|⟨_,b⟩
   ·let⟨o,O⟩:=J y d a;show absurd rfl (A O b)
   ·show I.ok.inj y z d a b
 ·have O7:(y,NameKind.free)∈scope.names\/(y,NameKind.cell)∈scope.names:=by
   rcases G with G|G
   ·show sC #[90] G
   ·show sC (.inr rfl) G
  rcases O7 with z|z
  ·let⟨d,e⟩:=bB _ z rfl;show⟨d,Q (w _ z) (wq _ e _ _ (.inl z))⟩
  ·let⟨d,e⟩:=y4 _ z;show⟨d,c6 e⟩
 ·let⟨d',q⟩:=d5 y h;rcases M y d e with a|⟨a,_⟩
  ·show(K _ _ a).1
  ·rw[q]at a;cases a
 ·let⟨f0,f1,f2,f3,f4,f5⟩:=V b B;let⟨o,e,_⟩:=j5 b B;show⟨F e,λy d ec=>?_⟩;rcases M y d ec with a|⟨_,a⟩
  ·show Ne.symm (A e a)
  ·show f4 y d a
 ·let⟨f0,f1,f2,f3,f4,f5⟩:=V b B;rcases f3 with z|z
  ·show I.ok.noex b o e z
  ·show absurd (jY (jM (I.ok.bs b o e).1) z) (JZ _)
 ·let⟨f0,f1,f2,f3,f4,f5⟩:=V b B;rcases jL.mp (I.LF b d6)with z|z
  ·show f1 z
  ·show f2 z
 ·-- a atL value
  let⟨mX,y6,h6⟩:=id I.loc;have f:#[71][j]?=Z (Z v):=t;unfold aU at f;rw[jR]at f;cases ej:ix[j]? with
  |none=>rw[ej]at f;cases f
  |some o=>
   rw[ej]at f;cases o with
   |none=>cases f
   |some i=>
    have l:(σ[i]?).join=Z v:=Option.some.inj f;have hz:(y,Z i)∈N.zip ix:=JJ.mpr ⟨j,by rw[ZQ];show⟨e1,ej⟩⟩;let⟨i6,E⟩:=at_ _ hz i rfl;have L:=He E;have k6:σ[i]?=Z (Z v):=by
     cases q:σ[i]? with
     |none=>rw[q]at l;cases l
     |some w'=>
      rw[q]at l;have q':w'=Z v:=l;rw[q']
    have T:X.env.scope.names.lookup y=Z .cell\/X.env.scope.names.lookup y=Z .free:=free _ L rfl;let⟨u,r,l6⟩:=h6 i y v i6 k6 (.inr T);show⟨u,r,.inr ⟨?_,?_⟩⟩
    ·show DI E
    ·rcases l6 with⟨k,_⟩|⟨k,d,ec,ci⟩
     ·have W:X.env.scope.names.lookup y=Z .local:=k;rcases T with z|z
      ·rw[z]at W;cases W
      ·rw[z]at W;cases W
     ·let⟨oc,o6,u6⟩:=ci;show⟨d,Q (w _ L) (wq _ ec _ _ (.inl L)),oc,R d oc o6,u6⟩
 ·rcases M y d e with a|⟨_,a⟩
  ·show⟨Y,_,(K _ _ a).2.2.2,U⟩
  ·let⟨v,o,O,hd⟩:=I.cell y d a;show⟨v,o,R d o O,hd⟩
 ·change upd H D #[171] C=Y;rw[aj (Ne.symm o5)];show fresh hC
 ·rcases M y d e with a|⟨_,a⟩
  ·have q:=K _ _ a;rw[aj q.2.1];show fresh q.1
  ·let⟨o,O⟩:=J y d a;rw[aj (S O)];show I.freeC y d a
 ·let⟨e,n,ne,nf,d⟩:=I.pin p hp;show⟨R _ _ e,by rw[aj (S e)];show n,F e,λz=>?_,d⟩;rcases jL.mp (I.LF p.1 z)with q|q
  ·show ne q
  ·show nf q
 ·let⟨n,hl⟩:=hl;show⟨jb _,[],n,.nil,hl⟩
 ·change#[71].length=N.length;unfold aU;rw[jW];show len
def acS{tk:Nat}(I:Inv X o3 σ H s)(S:aY X.N X.env.scope N ix scope)(V:∀b∈fp,tW X o3 H b)(c:∀b∈fp,∃o,s.heap.get? b=Z o/\∀v,o.data≠.cell v)(B:s.heap.objs.size<=D)(a:s.heap.objs.size<=C)(W:D≠C)(R:∀b o,s.heap.get? b=Z o->h'.get? b=Z o)(x:h'.Ns C m)(d:∃n,h'.get? D=Z {cls:=.type "list",data:=.seq ([]:List Value).toArray n}):
  Inv #[46] o3 #[71] #[53] {s with heap:=h',toks:=tk}:=
 W5 (own:=[]) (fn:=λ_=>false) I S.kind S.free S.len S.at_ (λy G=>absurd rfl (S.nocell _ G)) #[2] (λ_ h=>by cases h) (λ_ _ _ h=>by cases h) (λ_ _ h=>by cases h) V c B a W R x d
end
theorem U3{a:Expr}{it P:Value}(u:∀v s,¬ E v s)(I:Nat->qO->Prop)(M:∀n s,I n s->wpAny #[8] A (pyNext it) (λr K=>match r with
   |none=>R (.ok .next) K
   | some v=>wpAny #[8] A (letOwnedTupleGo a it v) (λ_ e=>wpAny #[8] A (assign a env v) (λ_ j=>wpAny #[8] A (forIn ifs true λc r=>if r=true then do let ok <-isTrue c env (eval c env);pure (ForInStep.yield ok)else pure (ForInStep.yield r)) (λok g=>
     if ok=true then wpAny #[8] A (eval elt env) (λx b=>
     wpAny #[8] A (call (.builtin "list.append") [P,x]) (λ_ d=>∃m,m<n/\I m d) E b)
     E g else ∃m,m<n/\I m g) E j) E e) E K) E s)(n:Nat)(h:I n s):
  codeAny #[8] A (.compLoop (.ListComp elt [⟨a,iter,ifs,0⟩] scope pos) 0 it P env) R s:=by
 have no:∀{F:Value->qO->Prop} v s,E v s->F v s:=λv s h=>absurd h (u v s);show codeAny_loop rfl I (λn s t=>?_) n h;change wpAny _ _ ((compTurn (.ListComp elt [⟨a,iter,ifs,0⟩] scope pos) 0 it P env).onRaise (λx=>do noteFrame x env;theTreesLotGoes x)) _ _ s;show wpAny_noted ?_;rw[compTurn_list];show WX (YS (WX (Wu (M n s t) (λr K O=>?_) no)));cases r with
 |none=>show YB O
 |some v=>
  show WX (Wu O (λ_ e i=>?_) no);show WX (Wu i (λ_ j l=>WX (Wu l (λok b p=>?_) no)) no);cases ok with
  |false=>show YB ⟨rfl,p⟩
  |true=>show WX (WX (Wu p (λx d q=>WX (Wu q (λ_ k f=>YB (YB ⟨rfl,f⟩)) no)) no))
def PTs(X:Cx)(ifs:List Expr)(t:TT):Prop:=
 ∀(o3:List #[56]) (s:qO) (σ:St) (H:Hp) (Q:Bool->Hp->Prop),Inv X o3 σ H s->t σ H Q->wpAny #[4] X.A (forIn ifs true λc r=>if r=true then do let ok <-isTrue c X.env (eval c X.env);pure (ForInStep.yield ok)else pure (ForInStep.yield r)) (TP X o3 σ Q) X.xe s
def tc0:TT:=λ_ H Q=>Q true H
def PTs.no:PTs X [] tc0:=λo3 s σ H Q I h=>wpAny_tests_nil ⟨H,I,h⟩
def PT.one{c:Expr}(h:PT X c t):PTs X [c] t:=λo3 s σ H Q I q=>wpAny_tests_one (h o3 s σ H Q I q)
def D9(J:It)(ix:List (Option Nat))(g:TG)(tc:TT)(te:TE)(σ:St)(H:Hp)(Qd:Qp->Hp->Prop):Prop:=
 ∀D,H D=Y->∃W:Nat->Nat->St->Hp->Prop,(∃m,W 0 m #[71] #[53])/\∀i m σ' H',W i m σ' H' ->
  (J.stop i H'/\Qd D H')\/(J.go i H'/\∀x H2,J.yld i H' x H2->g x σ' H2 λσ3 H3=>tc σ3 H3 λb H4=>if b=true then te σ3 H4 λy H5=>∃ys,H5 D=Z #[72]/\ys.length<sizeLine/\∃m',m'<m/\W (i+1) m' σ3 (upd H5 D (.lst (ys++[y])))else ∃m',m'<m/\W (i+1) m' σ3 H4)
def CU(J:It)(ix:List (Option Nat))(g:TG)(te:TE)(σ:St)(H:Hp)(Qd:Qp->Hp->Prop):Prop:=
 ∀D,H D=Y->∃W:Nat->Nat->St->Hp->Prop,(∃m,W 0 m #[71] #[53])/\∀i m σ' H',W i m σ' H' ->
  (J.stop i H'/\Qd D H')\/(J.go i H'/\∀x H2,J.yld i H' x H2->g x σ' H2 λσ3 H3=>te σ3 H3 λy H4=>∃ys,H4 D=Z #[72]/\ys.length<sizeLine/\∃m',m'<m/\W (i+1) m' σ3 (upd H4 D (.lst (ys++[y]))))
section
variable{Yq0:Cx}{tg:Expr}{aaf:Pos}{J:It}{tn:Nat->Heap->Prop}{g:TG}
def acn{Qd:Hp->Prop}{W:Nat->Nat->St->Hp->Prop}(hx:∀v s,¬ Yq0.xe v s)(hc:Yq0.calm=true)(T:Turn Yq0.prog Yq0.w Yq0.K tg J fp it tn)(I0:Inv Yq0 o3 σ H s)(st:tn 0 s.heap)(C:∀b∈fp,H b=Y)(q:∀H':Hp,#[141]->∀b∈fp,tW Yq0 o3 H' b)(hg:PG Yq0 tg g)(ht:PTs Yq0 ifs tc)(he:PE Yq0 elt te)(w0:W 0 m0 σ H)(M:∀i m O H',W i m O H'->(J.stop i H'/\Qd H')\/(J.go i H'/\∀x H2,J.yld i H' x H2->g x O H2 λa f=>tc a f λb H4=>if b=true then te a H4 λy h=>∃ys,h D=Z #[72]/\ys.length<sizeLine/\∃L,L<m/\W (i+1) L a (upd h D (.lst (ys++[y])))else ∃L,L<m/\W (i+1) L a H4))(hR:∀O H' p,Inv Yq0 o3 O H' p->Qd H'->R (.ok .next) p):codeAny (model Yq0.prog Yq0.w) Yq0.A (.compStart #[23] 0 #[149] #[103] Yq0.env) R s:=by
 have loop:codeAny (model Yq0.prog Yq0.w) Yq0.A (.compLoop #[23] 0 #[149] #[103] Yq0.env) R s:=by
  show U3 hx (λn p=>∃i O H',Inv Yq0 o3 O H' p/\tn i p.heap/\#[141]/\W i n O H') ?_ m0 ⟨0,_,_,I0,st,C,w0⟩;rintro n s3 ⟨i,a,f,I3,V,F,w3⟩;rcases M i n a f w3 with⟨k,qn⟩|⟨go,step⟩
  ·show cw (T.done Yq0 rfl rfl rfl hc i o3 s3 a f _ I3 (q _ F) V k) λr s4 ⟨S,I4⟩=>?_;subst S;show hR _ _ _ I4 qn
  ·show cw (T.item Yq0 rfl rfl rfl hc i o3 s3 a f _ I3 (q _ F) V go) λr s4 ⟨u,S,h4⟩=>?_;subst S;show cw h4 λ_ E ⟨x,h,I5,r5,y5,z,G⟩=>?_;have j:∀{c:qO} {t:St} {l:Hp} {L:Nat},Inv Yq0 (o3++Lb fp E.heap) t l c->L<n->W (i+1) L t l->∃m,m<n/\∃i O H',Inv Yq0 o3 O H' c/\tn i c.heap/\#[141]/\W i m O H':=λ{c t l L} I N Q=>
    have pn:∀b∈fp,∀o,E.heap.get? b=Z o->_:=λb B o e=>I.pin (b,o) (jo _ (jo _ (Cy B e)))
    ⟨L,N,i+1,_,_,I.D3,T.keep _ _ _ z λb B o e=>(pn b B o e).1,λb B=>by let⟨o,e,d⟩:=T.obj _ _ z b B;show(pn b B o e).2.1,Q⟩
   show cw (hg _ E a h x u _ (I5.pinned (q _ G) (T.obj _ _ z)) r5 (step x h y5)) λ_ s6 ⟨P,H6,I6,q6⟩=>?_;show cw (ht _ s6 P H6 _ I6 q6) λok s7 ⟨H7,I7,q7⟩=>?_;cases ok with
   |false=>
    let⟨L,N,w7⟩:=q7;show j I7 N w7
   |true=>
    show cw (he _ s7 P H7 _ I7 q7) λyv c ⟨y,l,I,r8,ys,hD,hz,L,N,Q⟩=>?_;show cw (bX (X:=Yq0) _ c P l #[103] [y] #[103] [yv] (λ_ H9=>W (i+1) L P H9) I rfl (.cons r8 .nil) ⟨_,ys,y,U,U,hD,hz,Q⟩) λ_ s9 ⟨_,H9,I9,_,w9⟩=>j I9 N w9
 show codeAny_compStart_list loop (T.self _ _ _ _ _ st loop)
def ad8{fn:Str->Bool}{RR:Value->Qp->Result->qO->Prop}(I:Inv X o3 σ H s)(L:X.calm=true)(T:Turn X.prog X.w X.K tg J fp it tn)(Q:∀b∈fp,tW X o3 H b)(j:∀b∈fp,∃o,s.heap.get? b=Z o/\∀v,o.data≠.cell v)(f:env.locals=s.heap.objs.size+1)(i:D9 J ix g tc te σ H Qd)(F:∀D C p H' m,Inv X o3 σ H' p->p.heap.Ns C m->tW X o3 H' C->Qd D H'->RR #[103] C (.ok .next) p)(c:Inv (cxC X N fp s H env fn) o3 #[71] (upd H s.heap.objs.size #[171]) s1)(st:tn 0 s1.heap)(n:PG (cxC X N fp s H env fn) tg g)(q:PTs (cxC X N fp s H env fn) ifs tc)(R:PE (cxC X N fp s H env fn) elt te):
  codeAny #[4] X.A (.compStart #[23] 0 #[149] #[19] env) (RR #[19] env.locals) s1:=by
 let⟨W,⟨m0,r⟩,M⟩:=i s.heap.objs.size #[43];have lt:∀b∈fp,b<s.heap.objs.size:=λb B=>by let⟨o,e,_⟩:=j b B;show jM e
 have d:s.heap.objs.size<=env.locals:=by rw[f];show JV _
 show acn (Yq0:=cxC X N fp s H env fn) (λ_ _ h=>h) L T c st (λb B=>?_) (λH' u b B=>?_) n q R r M λO H' x t y=>?_
 ·rw[aj (jU (lt b B))];show(Q b B).1
 ·let⟨z,a,E,S,G,k⟩:=Q b B;show⟨u b B,jU (jY (lt b B) d),c.ok.exfs b B,.inl B,(c.ok.exf b B).2,k⟩
 ·let⟨P,l,_⟩:=id t.loc;show F _ _ x H' P (I.anu (ch:=fp) t.os t.base t.hok t.bare λb B=>by let⟨z,a,E,S,G,k⟩:=Q b B;show⟨S,a,G,k⟩) l (I.IL d t.free) y
def P4(X:Cx)(elt tg iter:Expr)(ifs:List Expr)(scope:Scope)(pos:Pos)(ix:List (Option Nat))(g:TG)(tc:TT)(te:TE):Prop:=∀{o3:List #[56]} {σ:St} {H:Hp} {s:qO} {J:It} {fp:List Qp} {it:Qp} {tn:Nat->Heap->Prop} {Qd:Qp->Hp->Prop} {RR:Value->Qp->Result->qO->Prop} {E:Value->qO->Prop},Inv X o3 σ H s->Turn X.prog X.w X.K tg J fp it tn->tn 0 s.heap->(∀b∈fp,tW X o3 H b)->D9 J ix g tc te σ H Qd ->
  (∀D C s' H' m,Inv X o3 σ H' s'->s'.heap.Ns C m->tW X o3 H' C->Qd D H'->RR #[103] C (.ok .next) s')->
  wpAny #[4] X.A (newList []) (λj4 s₃=>wpAny #[4] X.A (newFunctionEnv scope X.env.globals (dh X.env.cells scope.names []) [] X.env.qual Y .none (Z X.env)) (λanv s₄=>
   codeAny #[4] X.A (.compStart #[23] 0 #[149] j4 {anv with scope:=relabel scope X.env}) (RR j4 anv.locals) s₄) E s₃) E s
def EA(L:X.calm=true)(S:aY X.N X.env.scope N ix scope)(m:∀fp s H C,PG #[46] tg g)(p:∀fp s H C,PTs #[46] ifs tc)(R:∀fp s H C,PE #[46] elt te):P4 X elt tg iter ifs scope pos ix g tc te:=by
 intro o3 σ H s J fp it tn Qd l E I T st Q f F;show Ww (Wv S.nocell (by intro y G;simp at G) (λO k i=>?_) S.kind);dsimp only at k i ⊢;generalize h:s.heap.push {cls:=.type "list",dict:=Y,data:=.seq ([]:List Value).toArray}=H2 at k i ⊢;have a:H2.objs.size=s.heap.objs.size+1:=by rw[<-h,jn]
 have W:s.heap.objs.size≠H2.objs.size:=by rw[a];show jU (JP _)
 have d:s.heap.objs.size<=H2.objs.size:=by rw[a];show JV _
 have below:∀b,b<s.heap.objs.size->b≠H2.objs.size:=λb B=>by rw[a];show jU (Js B)
 have old:∀b o,s.heap.get? b=Z o->O.get? b=Z o:=λb o e=>i.extBut b o (below b (jM e)) (jB _ (h▸jB _ e));have K:∃n,O.get? s.heap.objs.size=Z {cls:=.type "list",data:=.seq ([]:List Value).toArray n}:=⟨_,i.extBut _ _ W (jB _ (h▸jJ _ rfl))⟩;have j:=T.obj _ _ st;have c:Inv (oO X N scope fp s H H2.objs.size) o3 #[71] (upd H s.heap.objs.size #[171]) {s with heap:=O,toks:=s.toks+([]:List #[139]).length}:=
  acS I S Q j (jE _) d W old k K
 show ad8 (N:=N) I L T Q j a f F c (T.keep _ _ _ st λb _ o e=>old b o e) (m _ _ _ _) (p _ _ _ _) (R _ _ _ _)
def P4.pe(R:P4 X elt tg iter ifs scope pos ix g tc te)(a:scope.kind=.function)(d:∀y∈scope.names,y.2=.local->scope.names.lookup y.1=Z .local)(j:X.Ok->∀y∈scope.names,y.2=.free->∃c,X.env.cells.lookup y.1=Z c)(W:PI X tg iter wi)(hs:∀x,foldedSetIterable iter X.env x=pure x):PE X #[23] (λσ H Q=>wi σ H λJ f=>D9 J ix g tc te σ f λD H'=>Q #[103] H'):=by exists 2;rw[eval_ListComp];show Wb (use:=Y) rfl hs (BX (j I.ok)) a d (cw #[40] λv s1 G=>cw G λO u M=>?_);let⟨it,fp,tn,J,z,e,i,T,t,l,n⟩:=M;subst e;show R (RR:=λP C=>compPost #[4] X.A X.xe Y #[76] P C) i T t l n ?_;intro D C p H' m K L k q;show⟨m,L,λh' r=>⟨.ref D,H',K.turned (t':=p.toks) (λb o B e=>(r.2 b B).trans e) k.1 k.2.1 k.2.2.2.1 k.2.2.2.2.1 k.2.2.2.2.2,U,q⟩⟩
def P4.ps(R:P4 X elt tg iter ifs scope pos ix g tc te)(f:scope.kind=.function)(j:∀y∈scope.names,y.2=.local->scope.names.lookup y.1=Z .local)(l:X.Ok->∀y∈scope.names,y.2=.free->∃c,X.env.cells.lookup y.1=Z c)(W:PI X tg iter wi)(hs:∀x,foldedSetIterable iter X.env x=pure x)(B:X.N.Nodup)(u:X.N[i]?=Z y)(G:Loc X.env.scope y)(F:WI #[23] (Z (.Name y py)) aaf.line X.env=pure true)(V:X.fn y=true\/X.env.scope.names.lookup y=Z .local):
  PS X (.Assign [.Name y py] #[23] aaf) (tT (λσ H Q=>wi σ H λJ K=>D9 J ix g tc te σ K λD H'=>Q #[103] H') (aJ i)):=by
 exists 17;rw[exec_Assign_Name_used _ _ _ _ F];show WX (YS (WX ?_));change wpAny _ X.A (do let _ <-comprehension #[23] scope X.env _ (newList []) false (eval iter X.env) (Z (assign (.Name y py) X.env))) _ _ s;show WX (Wu (Wb (use:=Z (assign (.Name y py) X.env)) (Q:=λ_ p=>SP X o3 D .next p) rfl hs (BX (l I.ok)) f j
  (cw #[40] λv s1 L=>cw L λO n M=>?_)) (λ_ p P=>YB (YB P)) λ_ _ e=>e)
 let⟨it,fp,tn,J,H2,e,I2,T,t,f2,hW⟩:=M;subst e;show R (RR:=λj4 C=>compPost #[4] X.A X.xe (Z (assign (.Name y py) X.env)) (λ_ p=>SP X o3 D .next p) j4 C) I2 T t f2 hW ?_;intro r C p H' m I' hn k q;change wpAny _ X.A (assign (.Name y py) X.env (.ref r)) _ _ p;show WV (Oc I' B u G (v:=.ref r) rfl (λn S E=>?_) V);let⟨a,sb,ha⟩:=E;show⟨m,hn.sameBut sb ?_,λh3 d=>⟨_,H',S.turned (t':=n.toks) (λb o hb e=>(d.2 b hb).trans e) k.1 k.2.1 k.2.2.2.1 k.2.2.2.2.1 k.2.2.2.2.2,q⟩⟩;rcases ha with z|z
 ·rw[z];show k.2.1
 ·show Ne.symm (k.2.2.2.2.1 _ _ z)
def ajY(ix:List (Option Nat))(wi:TI)(g:TG)(te:TE):TE:=λσ H Q=>wi σ H λJ H1=>CU J ix g te σ H1 λD H'=>Q #[103] H'
def al3(ix:List (Option Nat))(wi:TI)(g:TG)(tc:TT)(te:TE):TE:=λσ H Q=>wi σ H λJ H1=>D9 J ix g tc te σ H1 λD H'=>Q #[103] H'
def fJ(L:X.calm=true)(S:aY X.N X.env.scope N ix scope)(W:PI X tg iter wi)(m:∀fp s H C,PG #[46] tg g)(R:∀fp s H C,PE #[46] elt te)(hs:∀x,foldedSetIterable iter X.env x=pure x:=by intro _;rfl):PE X (.ListComp elt [⟨tg,iter,[],0⟩] scope pos) (ajY ix wi g te):=
 P4.pe (EA L S m (λ_ _ _ _=>PTs.no) R) S.kind S.locs S.bB W hs
def eR(L:X.calm=true)(T:X.N.Nodup)(u:X.N[i]?=Z y)(G:Loc X.env.scope y)(S:aY X.N X.env.scope N ix scope)(W:PI X tg iter wi)(m:∀fp s H C,PG #[46] tg g)(R:∀fp s H C,PE #[46] elt te)(F:WI (.ListComp elt [⟨tg,iter,[],0⟩] scope pos) (Z (.Name y py)) aaf.line X.env=pure true:=by rfl)(V:X.fn y=true\/X.env.scope.names.lookup y=Z .local:=by first|show .inl rfl|show .inr rfl|assumption)(hs:∀x,foldedSetIterable iter X.env x=pure x:=by intro _;rfl):PS X (.Assign [.Name y py] (.ListComp elt [⟨tg,iter,[],0⟩] scope pos) aaf) (tT (ajY ix wi g te) (aJ i)):=
 P4.ps (EA L S m (λ_ _ _ _=>PTs.no) R) S.kind S.locs S.bB W hs T u G F V
end
def wu(f:Qp->Nat->List V->Hp->Prop)(X:∀D,H D=Y->f D 0 [] #[53])(hs:∀D i ys H' (l:VK),H D=Y->i<n->H' D=Z #[72]->f D i ys H'->#[6] ->
   te (#[71].set 0 (Z (.int (lo+i)))) H' l)(j:∀D ys H',H D=Y->H' D=Z #[72]->f D n ys H'->Qd D H'):CU (Itr lo n) ix (aJ 0) te σ H Qd:=by
 intro D B;show⟨λi m O H'=>m=n-i/\i<=n/\#[51]/\∃ys,H' D=Z #[72]/\f D i ys H',⟨n,by simp,jb _,.inl rfl,[],ae,X D B⟩,?_⟩;exists 12;by_cases d:i<n
 ·show .inr ⟨d,λx J y=>?_⟩;let⟨T,g⟩:=y;subst T;subst g;have I:O.set 0 (Z (V.int (lo+i)))=#[71].set 0 (Z (V.int (lo+i))):=by
   exists 32
   ·rw[z]
   ·rw[z,Jy]
  change te (O.set 0 (Z (V.int (lo+i)))) _ _;rw[I];show hs D i ys _ _ B d G p λy R k S h=>⟨ys,k,S,n-(i+1),by lia,U,d,.inr ⟨_,U⟩,ys++[y],ae,h⟩
 ·have e:i=n:=by lia
  subst e;show .inl ⟨jE _,j D ys H' B G p⟩
def iX(f:Qp->Nat->List V->Hp->Prop)(X:∀D,H D=Y->f D 0 [] #[53])(C:∀D i ys H',i<=xs.length->f D i ys H'->mC K H' a xs)(hs:∀D i x ys H' (l:VK),H D=Y->xs[i]?=Z x->H' D=Z #[72]->f D i ys H'->#[6] ->
   te (#[71].set 0 (Z x)) H' l)(j:∀D ys H',H D=Y->H' D=Z #[72]->f D xs.length ys H'->Qd D H'):CU (Itl K a) ix (aJ 0) te σ H Qd:=by
 intro D B;show⟨λi m O H'=>m=xs.length-i/\i<=xs.length/\#[51]/\∃ys,H' D=Z #[72]/\f D i ys H',⟨xs.length,by simp,jb _,.inl rfl,[],ae,X D B⟩,?_⟩;exists 12;have q:=C D i ys H' W p;exists 23
 ·exists 10;let⟨T,g⟩:=y;subst T;have M:=g xs q;have I:O.set 0 (Z x)=#[71].set 0 (Z x):=by
   exists 32
   ·rw[z]
   ·rw[z,Jy]
  change te (O.set 0 (Z x)) _ _;rw[I];show hs D i x ys _ _ B M G p λy R k S h=>⟨ys,k,S,xs.length-(i+1),by lia,U,d,.inr ⟨_,U⟩,ys++[y],ae,h⟩
 ·exists 14;subst e;show .inl ⟨⟨xs,q,jE _⟩,j D ys H' B G p⟩
section
inductive at8 (K:Yc) (xs:List V) (H:Hp) (Q:VK):Prop|mk (x:_) (n:_) (t:_) (b:_) (_:xs=[x,.ty n]) (_:mW K H x t) (_:yL K t (.type n)=Z b) (_:Q (.bl b) H)
def fV:iQ X (.builtin "isinstance") (at8 X.K):=by intro o3 s σ H xs m Q I r h;let⟨x,n,t,b,rfl,ty,e,q⟩:=h;let⟨u,v,rfl,N,F⟩:=r.two;cases(show v=ym n from F);show acU I N ty e λtk=>⟨.bl b,H,I.tok tk,U,q⟩
end
end L2
namespace HT
open PySem PySem.Spec PyProof.Rows
variable{prog:qL}{w:World}{A:Around}{E Q:Value->qO->Prop}{s:qO}{items:Array Value}
section
def BQ{t V:Qp}{g y:Value}{lo W:Option Int}(p:qD s.heap t items)(hs:s.heap.IsSliceOf V g y .none)(pl:qC g lo)(c:qC y W)(j:ie items.size 0 lo=0/\ie items.size items.size W=items.size)(h:Q (.ref t) s):wpAny #[8] A (getItem (.ref t) (.ref V)) Q E s:=by
 let⟨os,a,d,b⟩:=id hs;have i:s.TypeIs (.ref V) "slice" :=⟨os,a,d⟩;unfold getItem
 try with_reducible show Wn ?_
 first|show WX (YB ?_)|skip
 show WX (YM p.typeIs #[9] ?_);show WX (WZ (name:=Str.ofString "__getitem__") p.typeIs Yz
  (Wa Yz p.typeIs entry_tuple_getitem ?_ (qR _ _)))
 change wpAny _ _ (yR (.ref t)>>=_) _ _ s;show WX (tupleItemsOf_ p ?_);show WX (YZ i ?_);rw[if_pos #[9]];show WX (tQ hs pl c ?_);have e:(#[21]=true):=by rw[j.1,j.2];simp
 change wpAny _ _ (if #[21]=true then _ else _) _ _ s;rw[if_pos e];unfold xa;show WX (WX (YZ p.typeIs (YB ?_)));rw[if_pos #[9]]
 first
  |show WX (YK #[112])
  |show WX (YK (WX (YB #[112])))
  |show WX (WX (YK #[112]))
end
end HT
namespace L2
open PySem PySem.Spec PyProof.Rows
variable{X:Cx}{xs sY:List V}{P:qL}{w:World}{K:Yc}{mg:Str->Option Value}{base:Heap}{x qual:Str}{st:Stmt}{dV oc:Value}{f:Qp}{fd:Qx}{sp:Sp}{ds:List Value}{o:Obj}{items:Array Value}{n:Nat}{od an:Option Qp}{PZ:Array (Option Value)}{p pos:Pos}{e tg a:Expr}{es:List Expr}{t ta:TA}{H:Hp}{tb:TS}{D:Ends}{σ:St}{c:TT}{o3:List (Qp×Obj)}{s:qO}
section
inductive apq (K:Yc) (x:V) (lo:Option Int) (hi:Option Int) (H:Hp) (Q:VK):Prop|mk (a:_) (xs:_) (_:x=.ref a) (_:iu K H a xs) (_:(HT.ie xs.length 0 lo=0/\HT.ie xs.length xs.length hi=xs.length)) (_:Q #[44] H)
def aiH:SlR X (apq X.K):=by
 intro o3 s σ H x v g y lo W V Q I D hs N c h;let⟨a,xs,rfl,J,j,q⟩:=h;cases D;let⟨b,r,p,S⟩:=I.tuple J;have M:b.toArray.size=xs.length:=by rw[jP];show r.length.symm
 exists "tuple",_,PyProof.Rows.slot_tuple_getitem.lookup,p.typeIs;show HT.BQ p hs N c (by rw[M];show j) ⟨.ref a,H,I,U,q⟩
inductive rSl (K:Yc) (x:V) (lo:Option Int) (hi:Option Int) (H:Hp) (Q:VK):Prop|mk (a:_) (xs:_) (_:x=.ref a) (_:((mC K H a xs/\∀p,H p=Y->Q (.ref p) (upd H p (.lst (Cq xs lo hi))))\/(iu K H a xs/\(Cq xs lo hi=xs->Q #[44] H)/\∀p,H p=Y->Q (.ref p) (upd H p (.tup (Cq xs lo hi))))))
def U7{lo W:Option Int}(h:HT.ie xs.length 0 lo=0/\HT.ie xs.length xs.length W=xs.length):Cq xs lo W=xs:=by unfold Cq;rw[h.1,h.2];simp
def agb:SlR X (rSl X.K):=by
 intro o3 s σ H x v g y lo W V Q I D hs N c h;let⟨a,xs,rfl,h⟩:=h;rcases h with⟨J,q⟩|⟨J,E,l⟩
 ·show abu o3 s σ H _ v g y lo W V Q I D hs N c ⟨a,xs,U,J,q⟩
 ·by_cases j:HT.ie xs.length 0 lo=0/\HT.ie xs.length xs.length W=xs.length
  ·show aiH o3 s σ H _ v g y lo W V Q I D hs N c ⟨a,xs,U,J,j,E (U7 j)⟩
  ·show alU o3 s σ H _ v g y lo W V Q I D hs N c ⟨a,xs,U,J,j,l⟩
end
structure bu(K:Yc)(x qual:Str)(st:Stmt)(dV:Value)(f:Qp)(fd:Qx):Prop where
 ex:∃(oc:Value) (od:Option Qp) (kV doc pm:Value) (an:Option Qp) (cq ct:Value) (PZ:Array (Option Value)),
  fd=Ym x qual (dP st) (cT st) (aq st) dV kV doc pm an cq ct/\K.lookup f=Z ⟨oc,od,.func fd,PZ⟩/\Yy K cq qual=true
 kp:Yk K #[68]=true
section
def bu.ok{N ps:List Str}{k:Nat}(F:bu K x qual st dV f fd)(S:aA N ps (aq st))(len:∀vs H Q E,sp vs H Q E->vs.length=ps.length)(z:∀(j:Value) (A:Around) (outer:List Qw) (s:qO) (H:Hp) (vs:List V) (Q:VK) (E:XK),eJ k (A.deeper (envOfC qual (aq st) s.heap.objs.size f j))->sp vs H Q E ->
   ∃t,Ti (bH cO P w K mg base N qual (aq st) f j A outer s H E).eY (cT st) t/\t {nx:=λ_ H'=>Q .non H',rt:=Q} (start N vs) H):aR P w K mg base cO (k+1) f fd ps sp:=by
 let⟨oc,od,kV,i,g,an,j,b,PZ,rfl,M,D⟩:=F.ex;show ajg M D S len λA outer s H vs Q E a X=>?_;let⟨t,h,q⟩:=z j A outer s H vs Q E a X;show⟨t,h.eY,q⟩
def bu.binds{ps:List Str}(F:bu K x qual st .none f fd)(h:∀(kV i g:Value) (an:Option Qp) (j ct:Value) (us:List Value),us.length=ps.length->bindArgs (Ym x qual (dP st) (cT st) (aq st) .none kV i g an j ct) ⟨us,[]⟩=pure #[152]):Binds K fd ps []:=by let⟨oc,od,kV,i,g,an,j,ct,PZ,rfl,M,D⟩:=F.ex;show .all (h kV i g an j ct)
def bu.T7{T:Qp}{ps:List Str}(F:bu K x qual st #[158] f fd)(O:K.lookup T=Z o)(hs:o.data=.seq items n)(m:Nat)(N:m+ds.length=ps.length)(h:∀(kV i g:Value) (an:Option Qp) (j ct:Value) (us:List Value),us.length=m->∃k:Option (Array Value)->qM (List #[139]),
   bindArgs (Ym x qual (dP st) (cT st) (aq st) #[158] kV i g an j ct) ⟨us,[]⟩=seqItems? #[158]>>=k/\k (Z items)=pure (ps.zip (us++ds))):Binds K fd ps ds:=by
 let⟨oc,od,kV,i,g,an,j,ct,PZ,rfl,a,D⟩:=F.ex;intro s us X C;let⟨k,G,M⟩:=h kV i g an j ct us (by rw[jH]at C;lia);show BindsTo.of_defaults (fd:=Ym x qual (dP st) (cT st) (aq st) #[158] kV i g an j ct) rfl (X _ _ O) hs G M
def Bx{kV i g j ct:Value}(l:K.lookup f=Z ⟨oc,od,.func (Ym x qual (dP st) (cT st) (aq st) dV kV i g an j ct),PZ⟩)(c:Yy K j qual=true)(k:Yk K #[68]=true):bu K x qual st dV f (Ym x qual (dP st) (cT st) (aq st) dV kV i g an j ct):=⟨⟨oc,od,kV,i,g,an,j,ct,PZ,rfl,l,c⟩,k⟩
structure bh(P:qL)(w:World)(K:Yc)(mg:Str->Option Value)(base:Heap)(x:Str)(k:Nat)(ps:List Str)(sY:List V)(sp:Sp):Prop where
 ex:∃(f:Qp) (fd:Qx) (ds:List Value),mg x=Z #[68]/\Yk K #[68]=true/\Vals sY ds/\Binds K fd ps ds/\aR P w K mg base cO k f fd ps sp
end
section
variable{j k:Nat}{ps:List Str}
def aK(G:bh X.prog X.w X.K X.mg X.base x k ps sY sp)(S:eJ j X.A)(W:PA X (e::es) t)(J:∀e s,X.xe e s=False:=by intro _ _;rfl)(hkj:k<=j:=by decide)(m:Gl X x:=by rfl)(a:#[36]=false:=by decide)(R:WE (e::es) X.env=#[29]::WE es X.env:=by rfl)(y:#[34].any (·.1)=false:=by rfl):
  PE X #[32] (agw sp sY E0 t):=by
 let⟨f,fd,ds,N,b,c,B,F⟩:=G.ex;show ain F (S.mono hkj) m N b B c (λ_ _ _ _ _ _ _ h=>h.elim) W a R y
end
def FL(K:Yc):yL K (.type "int") (.type "int")=Z true:=by with_unfolding_all rfl
def Dn(K:Yc):yL K (.type "int") (.type "bool")=Z false:=by with_unfolding_all rfl
def ak{p:Qp}(h:H p=Y)(o:HO):av H (upd H p o):=λb u q=>by rw[aj (ar q h)];show q
def small(h:n<=1000):n<=sizeLine:=JS (cC h)
def bZ:qV "len" = Z #[159]:=by decide +kernel
def aki:qV "min" = Z (.builtin "min"):=by decide +kernel
def ad2:qV "max" = Z (.builtin "max"):=by decide +kernel
def cj:qV "isinstance" = Z (.builtin "isinstance"):=by decide +kernel
def ad3:qV "sum" = Z (.builtin "sum"):=by decide +kernel
def Ew:qV "sorted" = Z (.builtin "sorted"):=by decide +kernel
def IA:qV "int" = Z (.type "int"):=by decide +kernel
def aaB:qV "bool" = Z (.type "bool"):=by decide +kernel
def bJ:qV "tuple" = Z #[169]:=by decide +kernel
def De:qV "list" = Z (.type "list"):=by decide +kernel
def Hn:qV "dict" = Z #[163]:=by decide +kernel
def T8:qV "set" = Z (.type "set"):=by decide +kernel
def Rk:qV "reversed" = Z (.type "reversed"):=by decide +kernel
def BIG:Int:=2^4000
def Rh{k:Int}(X:0<=k)(h:k<BIG):k.natAbs.log2<4000:=by
 rcases zD k.natAbs with z|D
 ·rw[z];decide +kernel
 ·show(Nat.log2_lt #[1]).mpr ?_;have e:BIG=((2^4000:Nat):Int):=by unfold BIG;norm_cast
  rw[e]at h;lia
def adO(i j:Int):Prop:=(0<=i/\i<BIG)/\(0<=j/\j<BIG)
def adO.ok{i j:Int}(h:adO i j):IntMulOk i j:=by
 have one:∀{k:Int},0<=k->k<BIG->Xp k<=2^20:=λ{k} X G=>by unfold Xp;have:=Rh X G;split<;>lia
 show .of_bits (one h.1.1 h.1.2) (one h.2.1 h.2.2)
def am2(i j:Int):Prop:=0<j/\j<BIG
section
def abk:Ax X (binaryOp .Mult) (rI adO λi j=>.int (i*j)):=opI λ_ _ _ _ _ _ _ L q=>Gf q L.ok
def afy:Ax X (binaryOp .FloorDiv) (rI am2 λi j=>.int (i / j)):=opI λi j _ _ _ _ _ L q=>by have G:(0:Int)<j:=L.1;have M:j<BIG:=L.2;have B:=Rh (Ja G) M;show qq #[1] (by rw[ZI i #[1]];show q) (.inl (PyProof.noPylong_of_log2 #[1]))
end
def Itv(K:Yc)(a:Qp)(n:Nat):It:=
 ⟨λi H=>i<n/\∃xs,mC K H a xs/\xs.length=n,λi H x H'=>H'=H/\∀xs,mC K H a xs->xs[n-1-i]?=Z x,λi H=>i=n⟩
theorem agE(a W:Qp)(n:Nat):Turn P w K tg (Itv K a n) [W] W (λi h=>i<=n/\Xj h W a ((n:Int)-1-(i:Int))) where
 mem:=by simp
 obj:=λi h st b B=>by
  have e:b=W:=by simpa using B
  subst e;let⟨_,o,e,c,d⟩:=st;exists 6
 keep:=λi h O st k=>⟨st.1,st.2.at λo e=>k W #[7] o e⟩
 item:=by
  exists 4;subst y j g;let⟨hi,xs,l,hn⟩:=m;let⟨aP,F,p,hz⟩:=I.list l;have f:n-1-i<xs.length:=by lia
  let⟨u,C,N⟩:=F.get (i:=n-1-i) (x:=xs[n-1-i]) (by simp[f]);let⟨T,D,Q,q,S,G⟩:=V W #[7];have e:(n:Int)-1-(i:Int)=((n-1-i:Nat):Int):=by lia
  have t:=st.2;rw[e]at t;show wpAny_pyNext_rev_item t p.isList (x:=u) (by simpa using C) λO R r=>?_;have A:Inv X o3 σ H {s with heap:=O}:=I.turned (t':=s.toks) (λb o B e=>(r.2 b B).trans e) T D q S G;let⟨o,J,c,d⟩:=id R;show⟨u,U,MN (s:={s with heap:=O}) J c d #[9] ⟨xs[n-1-i],H,A,N,⟨U,λys M=>by rw[I.J4 M l];simp[f]⟩,⟨by lia,?_⟩,λb B=>(V b B).1⟩⟩;have e2:(n:Int)-1-((i+1:Nat):Int)=((n-1-i:Nat):Int)-1:=by lia
  rw[e2];show R
 done:=by
  exists 4;subst y j g;have y4:i=n:=m;let⟨T,D,Q,q,S,G⟩:=V W #[7];have e:(n:Int)-1-(i:Int) = -1:=by lia
  have t:=st.2;rw[e]at t;show wpAny_pyNext_rev_end #[117] t λO eb=>⟨U,I.turned (t':=s.toks) (λb o B e=>eb b o B e) T D q S G⟩
 self:=λ_ _ _ _ _ st h=>YF st.2 h
section
def ata(K:Yc)(ta:TA):TI:=λσ H R=>ta σ H λvs H1=>∃a xs,vs=[.ref a]/\mC K H1 a xs/\R (Itv K a xs.length) H1
def afQ(m:Gl X "reversed")(N:X.mg "reversed" = Y)(W:PA X [a] ta)(hs:WE [a] X.env=[(false,eval a X.env)]:=by rfl):PI X tg (.Call (.Name "reversed" p) [a] [] pos) (ata X.K ta):=by
 exists 30;show Call_ (su I m N Rk (Yp (cw #[80] λi T ⟨n,d,P,f,E⟩=>?_) hs rfl));let⟨l,xs,e,c,q⟩:=E;subst e;cases f with
 |cons r y=>
  cases y;cases r;let⟨J,F,g,S⟩:=P.list c;exists 33;show call_reversed_list g.isList ?_;have G:Inv X o3 σ d {T with heap:=T.heap.push (revObj l ((J.toArray.size:Int)-1))}:=P.kept (t':=T.toks) λb o e=>jB _ e;have hit:Xj (T.heap.push (revObj l ((J.toArray.size:Int)-1))) T.heap.objs.size l ((xs.length:Int)-1-((0:Nat):Int)):=by
   show⟨_,jJ _ rfl,U,?_⟩;have e:((J.toArray.size:Int)-1)=(xs.length:Int)-1-((0:Nat):Int):=by rw[jP];lia
   rw[<-e];rfl
  show YF hit ?_;show⟨T.heap.objs.size,[T.heap.objs.size],_,_,d,U,G,agE l _ xs.length,⟨jb _,hit⟩,λb B=>?_,q⟩;exists 8;subst e;exists 18
end
def aaQ{a:Qp}{g:TG}(f:Nat->St->Hp->Prop)(X:f 0 σ H)(C:∀i σ H,i<=xs.length->f i σ H->mC K H a xs)(hs:∀i x σ H,i<xs.length->xs[xs.length-1-i]?=Z x->f i σ H->g x σ H λc J=>tb {D with nx:=f (i+1),ct:=f (i+1),bk:=D.nx} c J)(j:∀σ H,f xs.length σ H->D.nx σ H):
  ∃W:Nat->Nat->St->Hp->Prop,#[104]/\∀i m σ H,W i m σ H ->
   ((Itv K a xs.length).stop i H/\D.nx σ H)\/((Itv K a xs.length).go i H/\∃N:St->Hp->Prop,#[20]/\∀x H',(Itv K a xs.length).yld i H x H'->g x σ H' λc J=>tb {D with nx:=N,ct:=N,bk:=D.nx} c J):=by
 exists 3;exists 22;have q:=C i σ H b p;exists 23
 ·show .inr ⟨⟨d,xs,q,U⟩,f (i+1),λO H' n=>⟨xs.length-(i+1),by lia,U,d,n⟩,λx H' y=>?_⟩;let⟨e,y⟩:=y;subst e;show hs i x σ _ d (y xs q) p
 ·exists 14;subst e;show .inl ⟨U,j σ H p⟩
def sd(f:Nat->St->Hp->Prop)(X:∃m,f m σ H)(hs:∀m σ H,f m σ H->c σ H λb d=>if b=true then ∃N:St->Hp->Prop,(∀O H',N O H'->∃L,L<m/\f L O H')/\tb {D with nx:=N,ct:=N,bk:=D.nx} σ d else D.nx σ d):sU c tb D σ H:=⟨f,X,hs⟩
end L2
namespace PySem
variable{prog:qL}{w:World}{A:Around}{R:Result->qO->Prop}{I:Qp}{n c:Nat}{s:qO}{E Q:Value->qO->Prop}
section
variable{fp wr:List Qp}{P:Nat->Value->Prop}{St:Nat->Heap->Prop}
def acd(a v:Value):argsOk "max" ⟨[a],[(Str.ofString "default",v)]⟩:=by unfold argsOk;kernel_rfl
theorem ac1(W:Walks prog w A.in1 I fp wr n P St)(C:Nat->Nat->Bool)(r:CmpOf prog w A.in1 .Gt P C)(S:Qp)(a:S∉fp)(q:List #[139]):
  ∀(k j:Nat) (s:qO) (u:Value) (c:Nat),n-(j+1)=k->j+1<=n->St (j+1) s.heap->P (argBest C j) u ->
  s.heap.get? S=Z {cls:=.type "list",dict:=Y,data:=.seq #[u,u] c,slots:=#[]} ->
  (∀v h' tk,P (argBest C (n-1)) v->(∀b o,b∉wr->b≠S->s.heap.get? b=Z o->h'.get? b=Z o)->R (.ok (.ret v)) {s with heap:=h',toks:=tk})->
  codeAny #[8] A (.builtin "max.loop" ⟨[.ref I,.none,.ref S],q⟩) R s:=by
 have D:S∉wr:=λh=>a (W.sub _ h);have O:(toString "max" ++ toString ".loop" : String) = "max.loop" :=by decide
 intro k
 induction k with
 |zero=>
  intro j s u c f L M H g F;have X:j+1=n:=by lia
  show qZ XN ?_;rw[Around.under_plainId yD _];show WX (m:=seqItems? (.ref S)) (YL g rfl ?_);show WX (m:=tryCatch #[166] _) (YW (W.done s _ _ (X▸M) λh' tk E=>?_));have J:=E S _ D g;show WX (m:=updateSeq S (λ_=>#[])) ?_;show Ya J rfl (WX (Ws (YB ?_)));show F u _ tk (by rw[<-X];show H) λb o p l e=>(JI _ _ (Ne.symm l)).trans (E b o p e)
 |succ k K=>
  intro j s u c f L M H g F;have d:j+1<n:=by lia
  show qZ XN ?_;rw[Around.under_plainId yD _];show WX (m:=seqItems? (.ref S)) (YL g rfl ?_);show WX (m:=tryCatch #[166] _) (YW (W.item (j+1) s _ _ d M λv h' tk y Q E=>?_));have J:=E S _ D g;show WX (m:=tryCatch (holding [v,v] (richCompare .Gt v u>>=_)) _) (YW (Wn (WX (r (j+1) (argBest C j) v u _ _ _ y H ?_))));show WX (Wn (YV ?_));show WX (Ws (YB ?_));cases B:C (j+1) (argBest C j)with
  |true=>
   simp only[if_true];exists 34;show Ya J rfl (WX (Ws ?_));rw[O];show YB ⟨qy yD _,K (j+1) _ v _ #[1] d (W.frame _ _ _ Q λb N o e=>?_) (by simp only[argBest,B,if_true];show y) (jz _ J rfl)
    λG t x i z=>?_⟩
   ·show(JI _ _ (λh:S=b=>a (by rw[h];show N))).trans e
   ·show F G t x i λb o p l e=>z b o p l ((JI _ _ (Ne.symm l)).trans (E b o p e))
  |false=>
   simp only[JW,if_false];show WX (Ws ?_);rw[O];show YB ⟨qy yD _,K (j+1) _ u c #[1] d Q (by simp only[argBest,B,JW,if_false];show H) J λG t x i z=>?_⟩;show F G t x i λb o p l e=>z b o p l (E b o p e)
def Hd(W:Walks prog w A.in1 I fp wr n P St)(C:Nat->Nat->Bool)(r:CmpOf prog w A.in1 .Gt P C)(S:Qp)(a:S∉fp)(d:Value)(M:St 0 s.heap)(g:s.heap.get? S=Z {cls:=.type "list",dict:=Y,data:=.seq #[] c,slots:=#[]})(X:n=0->∀h' tk,(∀b o,b∉wr->b≠S->s.heap.get? b=Z o->h'.get? b=Z o)->R (.ok (.ret d)) {s with heap:=h',toks:=tk})(F:0<n->∀v h' tk,P (argBest C (n-1)) v->(∀b o,b∉wr->b≠S->s.heap.get? b=Z o->h'.get? b=Z o)->R (.ok (.ret v)) {s with heap:=h',toks:=tk}):
  codeAny #[8] A (.builtin "max.loop" ⟨[.ref I,.none,.ref S],[(Str.ofString "default",d)]⟩) R s:=by
 have D:S∉wr:=λh=>a (W.sub _ h);have O:(toString "max" ++ toString ".loop" : String) = "max.loop" :=by decide
 show qZ XN ?_;rw[Around.under_plainId yD _];show WX (m:=seqItems? (.ref S)) (YL g rfl ?_);rcases zD n with L|L
 ·show WX (m:=tryCatch #[166] _) (YW (W.done s _ _ (L▸M) λh' tk E=>?_));show WX (m:=rule _) (YK (YB ?_));show X L h' tk λb o p _ e=>E b o p e
 show WX (m:=tryCatch #[166] _) (YW (W.item 0 s _ _ L M λv h' tk y Q E=>?_));have J:=E S _ D g;show WX (m:=updateSeq S (λ_=>#[v,v])) ?_;show Ya J rfl ?_;rw[O];show YB ⟨qy yD _,ac1 W C r S a _ _ 0 _ v _ rfl L (W.frame _ _ _ Q λb N o e=>?_) y (jz _ J rfl) λG t x i z=>?_⟩
 ·show(JI _ _ (λh:S=b=>a (by rw[h];show N))).trans e
 ·show F L G t x i λb o p l e=>z b o p l ((JI _ _ (Ne.symm l)).trans (E b o p e))
end
section
def IE{x d:Value}(h:wpAny #[8] A.in1 (pyIter x) (λk j=>∃I c f n P St C,k=.ref I/\Walks prog w A.in1 I c f n P St/\St 0 j.heap/\(∀b∈c,b<j.heap.objs.size)/\CmpOf prog w A.in1 .Gt P C /\
   (n=0->∀h' tk,(∀b o,b∉f->j.heap.get? b=Z o->h'.get? b=Z o)->Q d {j with heap:=h',toks:=tk}) /\
   (0<n->∀v h' tk,P (argBest C (n-1)) v->(∀b o,b∉f->j.heap.get? b=Z o->h'.get? b=Z o)->Q v {j with heap:=h',toks:=tk})) E s):
  wpAny #[8] A (call (.builtin "max") [x] [(Str.ofString "default",d)]) Q E s:=by
 have O:(toString "max" ++ toString ".loop" : String) = "max.loop" :=by decide
 show Ga F.kind_max F.plain_max F.entry_max (acd _ _) ?_;show WX (m:=XD "max" ["key","default"] 0 ⟨[],[(Str.ofString "default",d)]⟩) (Wy (show XD "max" ["key","default"] 0 ⟨[],[(Str.ofString "default",d)]⟩=pure [Y,Z d]from rfl) ?_);show WX (YB ?_);show WX (Wu h (λk j l=>?_) λ_ _ e=>e);let⟨I,c,f,n,P,St,C,rfl,W,M,g,r,i,H⟩:=l;show WX (Ww ?_);have a:j.heap.objs.size∉c:=λN=>JZ _ (g _ N);rw[O];show YB ⟨qy yD _,Hd W C r j.heap.objs.size a d (W.frame _ _ _ M λb _ o e=>jB _ e) (jJ _ rfl) (λL h' tk R=>?_) λL v h' tk y R=>?_⟩
 ·show i L h' tk λb o p e=>R b o p (jU (jM e)) (jB _ e)
 ·show H L v h' tk y λb o p e=>R b o p (jU (jM e)) (jB _ e)
end
end PySem
namespace L2
open PySem PySem.Spec PyProof.Rows
variable{X:Cx}{o3:List (Qp×Obj)}{σ:St}{H H':Hp}{s:qO}{xs:List V}{Q E:Value->qO->Prop}{pos:Pos}{e value:Expr}{d y v:V}{ta:TA}{td te tv:TE}{prog P:qL}{w:World}{A:Around}{K:Yc}{a b:Qp}{ix:List (Option Nat)}{Qd:Qp->Hp->Prop}{κ:Type}{o:Option V}{d' u r:Value}{kvs:List (List Key×V)}{h h':Heap}{ks:List Key}{t':Nat}{ob:HO}{more:List Value}{env:Qw}{vs values:List Expr}
section
inductive ajN (K:Yc) (xs:List V) (zs:List V) (H:Hp) (Q:VK):Prop|mk (a:Qp) (ns:List Int) (d:V) (_:xs=[.ref a]) (_:zs=[d]) (_:mC K H a #[47]) (_:(ns=[]->Q d H)) (_:∀M,M∈ns->(∀z∈ns,z<=M)->Q (.int M) H)
def ahY{zs:List V}{us m:List Value}{Q:VK}(D:X.calm=true)(I:Inv X o3 σ H s)(r:Vals xs us)(G:Vals zs m)(h:ajN X.K xs zs H Q):
  wpAny #[4] X.A (call (.builtin "max") us (([Str.ofString "default"]:List Str).zip m)) #[76] X.xe s:=by
 let⟨a,l,d,rfl,rfl,O,S,T⟩:=h;let⟨u,rfl,N⟩:=r.one;let⟨dv,rfl,rd⟩:=G.one;cases(show u=Yd a from N);let⟨J,F,p,hz⟩:=I.list O;exists 33;rw[jW]at M;change wpAny _ _ (call (.builtin "max") [.ref a] [(Str.ofString "default",dv)]) _ _ s;have n:a<s.heap.objs.size:=by let⟨_,e,_⟩:=p.isList;show jM e
 show IE (YE p.isList ?_);have W:=Walks.list (prog:=X.prog) (w:=X.w) (A:=X.A.in1) (I.ok.hd D) s.heap.objs.size a (jU n) J.toArray;have q:∀(i:Nat) (v:Value),J.toArray[i]?=Z v->∃t,v=.int (l.getD i 0) t:=λi v e=>by
  have E:J[i]?=Z v:=by simpa using e
  have f:i<l.length:=by rw[M];show(jk.mp E).1
  let⟨u,C,N⟩:=F.get (i:=i) (x:=.int l[i]) (by simp[f]);rw[E]at C;cases C;let⟨t,rfl⟩:=N;show⟨t,by simp[f]⟩
 show⟨_,_,_,_,_,_,_,U,W,⟨⟨_,jJ _ rfl,U,U⟩,p.isList.push _⟩,λb B=>?_,CmpOf.ints_gt (λi=>l.getD i 0) q,λL h' tk R=>?_,λL v h' tk hP R=>?_⟩
 ·change b<(s.heap.push _).objs.size;rw[jn];rcases jL.mp B with rfl|B
  ·show JP _
  ·rw[jI.mp B];show Js n
 ·have c:l=[]:=zV.mp (by simp at L;rw[M,L];rfl);have P:Inv X o3 σ H {s with heap:=h',toks:=tk}:=I.kept (t':=tk) λb o e=>R b o (λg=>by rw[jI.mp g]at e;show JZ _ (jM e)) (jB _ e)
  show⟨d,H,P,rd,S c⟩
 ·have c:0<l.length:=by rw[M];simpa using L
  have P:Inv X o3 σ H {s with heap:=h',toks:=tk}:=I.kept (t':=tk) λb o e=>R b o (λg=>by rw[jI.mp g]at e;show JZ _ (jM e)) (jB _ e)
  let⟨t,rfl⟩:=q _ v hP;have B:=argBest_gt (λi=>l.getD i 0) (J.toArray.size-1);have y:argBest (λi j=>decide (l.getD i 0 > l.getD j 0)) (J.toArray.size-1)<l.length:=by have:=B.1;rw[jP]at this ⊢;lia
  show⟨.int _,H,P,⟨t,U⟩,T _ ?_ λz k=>?_⟩
  ·rw[jQ,jC y,zg];show jO y
  ·let⟨i,f,rfl⟩:=ji k;have:=B.2 i (by rw[jP];lia);simpa[jQ,jC f]using this
variable{p aoQ:Pos}{d:Expr}
def apS(K:Yc)(ta:TA)(td:TE):TE:=λσ H Q=>ta σ H λxs H1=>td σ H1 λz H2=>ajN K xs [z] H2 Q
def aiq(L:X.calm=true)(m:Gl X "max")(N:X.mg "max" = Y)(W:PA X [e] ta)(j:PE X d td)(R:backTo pos (WE [e] X.env)=#[29]::backTo pos (WE [] X.env):=by rfl)(D:(backTo pos (WE [e] X.env)).any (·.1)=false:=by rfl):
  PE X (.Call (.Name "max" p) [e] [⟨Z (Str.ofString "default"),d,aoQ⟩] pos) (apS X.K ta td):=by
 exists 2;show WR (su I m N ad2 ?_);show callWith_kw (cw #[80] λb T ⟨vs,a,P,f,E⟩=>?_) R D;show kws_cons (cw (j o3 T σ a _ P E) λO n ⟨z,J,G,i,l⟩=>kws_nil ?_);show ahY L G f (.cons i .nil) l
end
def rh(f:Qp->Nat->List V->Hp->Prop)(X:∀D,H D=Y->f D 0 [] #[53])(C:∀D i ys H',i<=xs.length->f D i ys H'->iu K H' a xs)(hs:∀D i x ys H' (l:VK),H D=Y->xs[i]?=Z x->H' D=Z #[72]->f D i ys H'->#[6] ->
   te (#[71].set 0 (Z x)) H' l)(j:∀D ys H',H D=Y->H' D=Z #[72]->f D xs.length ys H'->Qd D H'):CU (Itt K a) ix (aJ 0) te σ H Qd:=by
 intro D B;show⟨λi m O H'=>m=xs.length-i/\i<=xs.length/\#[51]/\∃ys,H' D=Z #[72]/\f D i ys H',⟨xs.length,by simp,jb _,.inl rfl,[],ae,X D B⟩,?_⟩;exists 12;have q:=C D i ys H' W p;exists 23
 ·exists 10;let⟨T,g⟩:=y;subst T;have M:=g xs q;have I:O.set 0 (Z x)=#[71].set 0 (Z x):=by
   exists 32
   ·rw[z]
   ·rw[z,Jy]
  change te (O.set 0 (Z x)) _ _;rw[I];show hs D i x ys _ _ B M G p λy R k S h=>⟨ys,k,S,xs.length-(i+1),by lia,U,d,.inr ⟨_,U⟩,ys++[y],ae,h⟩
 ·exists 14;subst e;show .inl ⟨⟨xs,q,jE _⟩,j D ys H' B G p⟩
section
def aua(K:Yc):List V->Hp->VK->Prop:=λxs H Q=>AE K xs H Q
def L8(K:Yc)(h:X.K=K:=by rfl):iQ X #[159] (aua K):=by subst h;show aM
def aeR(K:Yc)(h:X.K=K:=by rfl):IxR X (apm K):=by subst h;show bR
def mS(K:Yc)(h:X.K=K:=by rfl):IxR X (alF K):=by subst h;show ay
end
section
variable[DecidableEq κ]
def cG(kvs:List (κ×V))(k:κ):Option V:=(kvs.find? λkv=>decide (kv.1=k)).map (·.2)
def putK(kvs:List (κ×V))(k:κ)(v:V):List (κ×V):=
 if (kvs.any λkv=>decide (kv.1=k))=true then kvs.map (λkv=>if kv.1=k then(kv.1,v)else kv)else kvs++[(k,v)]
def II(kvs:List (κ×V))(k:κ):List (κ×V):=kvs.filter λkv=>decide (kv.1≠k)
def agH{k:κ}:cG ([]:List (κ×V)) k=Y:=rfl
def cR{p:κ×V}{r:List (κ×V)}{k:κ}(e:p.1=k):cG (p::r) k=Z p.2:=by simp[cG,zE,e]
def cE{p:κ×V}{r:List (κ×V)}{k:κ}(e:¬ p.1=k):cG (p::r) k=cG r k:=by simp[cG,zE,e]
theorem Bo(k:κ):∀kvs:List (κ×V),(kvs.any λi=>decide (i.1=k))=(cG kvs k).isSome
 |[]=>rfl
 |p::r=>by
  rw[zf];by_cases e:p.1=k
  ·simp only[cR e,decide_eq_true e,Bool.true_or,Option.isSome_some]
  ·rw[cE e,decide_eq_false e,Bool.false_or];show Bo k r
theorem Te(k j:κ)(y:V):∀kvs:List (κ×V),cG (kvs.map λi=>if i.1=k then(i.1,y)else i) j=(cG kvs j).map λx=>if j=k then y else x
 |[]=>rfl
 |p::r=>by
  have K:=Te k j y r;rw[jt];by_cases h:p.1=k
  ·rw[if_pos h];by_cases e:p.1=j
   ·rw[cR (p:=(p.1,y)) e,cR e,zq,if_pos (e.symm.trans h)]
   ·rw[cE (p:=(p.1,y)) e,cE e,K]
  ·rw[if_neg h];by_cases e:p.1=j
   ·rw[cR (p:=p) e,cR e,zq,if_neg (λz=>h (e.trans z))]
   ·rw[cE (p:=p) e,cE e,K]
theorem Ol(k j:κ)(y:V):∀kvs:List (κ×V),cG kvs k=Y->cG (kvs++[(k,y)]) j=if j=k then Z y else cG kvs j
 |[],_=>by
  by_cases e:k=j
  ·rw[if_pos e.symm];show cR (p:=(k,y)) e
  ·rw[if_neg (λz=>e z.symm)];show cE (p:=(k,y)) e
 |p::r,L=>by
  rw[ZU];have R:¬ p.1=k:=λz=>by rw[cR z]at L;cases L
  rw[cE R]at L;have K:=Ol k j y r L;by_cases e:p.1=j
  ·rw[cR e,cR e,if_neg (λz=>R (e.trans z))]
  ·rw[cE e,cE e,K]
def Tf(kvs:List (κ×V))(k j:κ)(y:V):cG (putK kvs k y) j=if j=k then Z y else cG kvs j:=by
 unfold putK;by_cases a:(kvs.any λi=>decide (i.1=k))=true
 ·rw[if_pos a,Te];rw[Bo]at a;by_cases e:j=k
  ·let⟨x,J⟩:=Jh.mp a;rw[if_pos e,e,J,zq,if_pos rfl]
  ·rw[if_neg e];cases cG kvs j with
   |none=>rfl
   |some x=>rw[zq,if_neg e]
 ·rw[if_neg a];show Ol k j y kvs ?_;rw[Bo]at a;cases q:cG kvs k with
  |none=>rfl
  |some x=>rw[q]at a;show(a rfl).elim
def oy(kvs:List (κ×V))(k:κ)(v:V):(putK kvs k v).length<=kvs.length+1:=by
 unfold putK;split
 ·rw[jW];lia
 ·rw[jH,jX,Jq];lia
def Sv{kvs:List (κ×V)}{k:κ}(v:V)(h:cG kvs k=Y):putK kvs k v=kvs++[(k,v)]:=by unfold putK;rw[Bo,h];show if_neg #[9]
def sW.tp{u:Option Value}(r:sW o u):o.isSome=u.isSome:=by
 cases o with
 |none=>cases u with
  |none=>rfl
  |some _=>show(show False from r).elim
 |some _=>cases u with
  |none=>show(show False from r).elim
  |some _=>rfl
theorem sW.getD{u:Option Value}(r:sW o u)(m:RelV d d'):RelV (o.getD d) (u.getD d'):=by
 cases o with
 |none=>cases u with
  |none=>show m
  |some _=>show(show False from r).elim
 |some _=>cases u with
  |none=>show(show False from r).elim
  |some _=>show r
def KV.val{kvs:List (κ×V)}{vs:List (κ×Value)}(r:KV kvs vs)(k:κ):sW (cG kvs k) (valueAt vs k):=by
 unfold KV at r
 induction r with
 |nil=>show True.intro
 | @cons p q ps g h t K=>
  let⟨G,M⟩:=h;by_cases e:p.1=k
  ·have E:q.1=k:=G.symm.trans e;have b:valueAt (q::g) k=Z q.2:=by simp[valueAt,zE,E]
   rw[cR e,b];show M
  ·have E:¬ q.1=k:=λz=>e (G.trans z);have b:valueAt (q::g) k=valueAt g k:=by simp[valueAt,zE,E]
   rw[cE e,b];show K
theorem KV.any{kvs:List (κ×V)}{vs:List (κ×Value)}(r:KV kvs vs)(k:κ):(kvs.any λi=>decide (i.1=k))=vs.any λi=>decide (i.1=k):=by
 unfold KV at r
 induction r with
 |nil=>rfl
 |cons h t K=>rw[zf,zf,K,h.1]
theorem KV.alI{kvs:List (κ×V)}{vs:List (κ×Value)}(r:KV kvs vs)(k:κ)(c:RelV y u):
  KV (kvs.map λi=>if i.1=k then(i.1,y)else i) (vs.map λi=>if i.1=k then(i.1,u)else i):=by
 unfold KV at r ⊢
 induction r with
 |nil=>show .nil
 | @cons p q ps g h t K=>
  rw[jt,jt];show .cons ?_ K;let⟨G,M⟩:=h;by_cases e:p.1=k
  ·rw[if_pos e,if_pos (G.symm.trans e)];show⟨G,c⟩
  ·rw[if_neg e,if_neg (λz=>e (G.trans z))];show⟨G,M⟩
def KV.put{kvs:List (κ×V)}{vs:List (κ×Value)}(r:KV kvs vs)(k:κ)(c:RelV y u):KV (putK kvs k y) (stored vs k u):=by
 unfold putK stored;rw[r.any k];by_cases e:(vs.any λi=>decide (i.1=k))=true
 ·rw[if_pos e,if_pos e];show r.alI k c
 ·rw[if_neg e,if_neg e];show Paired.snoc r ⟨rfl,c⟩
def KV.drop{kvs:List (κ×V)}{vs:List (κ×Value)}(r:KV kvs vs)(k:κ):KV (II kvs k) (without vs k):=by
 unfold KV at r ⊢;unfold II without
 induction r with
 |nil=>show .nil
 | @cons p q ps g h t K=>
  let⟨G,M⟩:=h;rw[QN,QN];by_cases e:p.1=k
  ·have a:¬ decide (p.1≠k)=true:=by simp[e]
   have b:¬ decide (q.1≠k)=true:=by simp[G.symm.trans e]
   rw[if_neg a,if_neg b];show K
  ·have E:¬ q.1=k:=λz=>e (G.trans z);have a:decide (p.1≠k)=true:=by simp[e]
   have b:decide (q.1≠k)=true:=by simp[E]
   rw[if_pos a,if_pos b];show .cons ⟨G,M⟩ K
def KV.keys{kvs:List (κ×V)}{vs:List (κ×Value)}(r:KV kvs vs):kvs.map (·.1)=vs.map (·.1):=by
 unfold KV at r
 induction r with
 |nil=>rfl
 |cons h t K=>rw[jt,jt,K,h.1]
theorem KV.length{kvs:List (κ×V)}{vs:List (κ×Value)}(r:KV kvs vs):kvs.length=vs.length:=Paired.length r
def aec(kvs:List (κ×V))(k:κ):(II kvs k).length<=kvs.length:=JR _ _
end
def B5{k:Key}(r:RelV (kV k) u):(bL P w).is k u=true:=by
 cases k with
 |inl i=>let⟨t,e⟩:=(show ∃t,u=Yl i t from r);subst e;show R6 P w i t
 |inr x=>let⟨t,e⟩:=(show ∃t,u=yF x t from r);subst e;show R7 P w x t
theorem MS:∀{ks:List Key} {us:List Value},Vals (ks.map kV) us->ItemsAre (bL P w) ks us
 |[],_,r=>by rw[Zw]at r;cases r;show .nil
 |k::ks,_,r=>by
  rw[jt]at r;cases r with
  |cons h t=>show .cons (B5 h) (MS t)
abbrev KT(H:Hp):List #[85]->List #[60]->Prop:=qI λp q=>p.1=q.1/\H q.2.1=Z (.tup (p.1.map kV))/\RelV p.2 q.2.2
def KT.val{xs:List #[60]}(r:KT H kvs xs)(k:List Key):sW (cG kvs k) ((atKey xs k).map (·.2)):=by
 induction r with
 |nil=>show True.intro
 | @cons p q ps g h t K=>
  let⟨G,_,M⟩:=h;by_cases e:p.1=k
  ·have E:q.1=k:=G.symm.trans e;have b:atKey (q::g) k=Z q.2:=by simp[atKey,zE,E]
   rw[cR e,b];show M
  ·have E:¬ q.1=k:=λz=>e (G.trans z);have b:atKey (q::g) k=atKey g k:=by simp[atKey,zE,E]
   rw[cE e,b];show K
theorem KT.alI{xs:List #[60]}(r:KT H kvs xs)(k:List Key)(c:RelV y u):
  KT H (kvs.map λi=>if i.1=k then(i.1,y)else i) (xs.map (putAt k u)):=by
 induction r with
 |nil=>show .nil
 | @cons p q ps g h t K=>
  rw[jt,jt];show .cons ?_ K;let⟨G,M,B⟩:=h;unfold putAt;by_cases e:p.1=k
  ·rw[if_pos e,if_pos (G.symm.trans e)];show⟨G,M,c⟩
  ·rw[if_neg e,if_neg (λz=>e (G.trans z))];show⟨G,M,B⟩
def KT.put{xs:List #[60]}(r:KT H kvs xs)(k:List Key)(B:H b=Z (.tup (k.map kV)))(c:RelV y u):
  KT H (putK kvs k y) (storedH xs k b u):=by
 have e:(kvs.any λi=>decide (i.1=k))=(atKey xs k).isSome:=by rw[Bo,(r.val k).tp,ZN]
 unfold putK storedH;rw[e];by_cases q:(atKey xs k).isSome=true
 ·rw[if_pos q,if_pos q];show r.alI k c
 ·rw[if_neg q,if_neg q];show Paired.snoc r ⟨rfl,B,c⟩
def KT.keeps{xs:List #[60]}(r:KT H kvs xs)(p:∀b ys,H b=Z (.tup ys)->H' b=Z (.tup ys)):KT H' kvs xs:=
 Paired.EM r λ_ _ z=>⟨z.1,p _ _ z.2.1,z.2.2⟩
section
def ajO{u:HO}(ok:pX P w H h)(e:Rd H a u):bN P w H h a u:=e.ok ok
def BZ{kvs:List #[157]}(ok:pX P w H h)(e:Rd H a #[58]):kvs.length<=sizeLine/\(a==WJ)=false/\∃vs,KV kvs vs/\h.DictOf (bL P w) a vs:=
 show bN P w H h a #[58]from ajO ok e
def aaM{kvs:List #[157]}(ok:pX P w H h)(e:H a=Z #[58]):kvs.length<=sizeLine/\(a==WJ)=false/\∃vs,KV kvs vs/\h.DictOf (bL P w) a vs:=BZ ok (.inl e)
def Cv(ok:pX P w H h)(e:H a=Z (.tup (ks.map kV))):(WL (bL P w)).is h ks a:=by let⟨_,J,r,o,G,M,n,B⟩:=(show bN P w H h a (.tup (ks.map kV))from ok a _ e);show⟨o,J.toArray,n,G,M,B,by simpa using MS r⟩
def IJ(ok:pX P w H h)(e:Rd H a (.dT kvs)):kvs.length<=sizeLine/\(a==WJ)=false /\
  ∃xs,KT H kvs xs/\h.DictOfH (WL (bL P w)) a xs:=by
 let⟨z,y,xs,r,o,I,T,G,M,B,k,c⟩:=(show bN P w H h a (.dT kvs)from ajO ok e);show⟨z,y,xs,r,o,I,T,G,M,B,k,λx J=>?_,c⟩;have all:∀{l:List #[85]} {m:List #[60]},KT H l m->∀x∈m,(WL (bL P w)).is h x.1 x.2.1:=by
  intro l m q
  induction q with
  |nil=>intro x J;show nomatch J
  | @cons p q ps g b t K=>
   intro x J;rcases jL.mp J with e|J
   ·subst e;show Cv ok (by rw[<-b.1];show b.2.1)
   ·show K x J
 show all r x J
def anE(ok:pX P w H h)(e:H a=Z (.dT kvs)):kvs.length<=sizeLine/\(a==WJ)=false /\
  ∃xs,KT H kvs xs/\h.DictOfH (WL (bL P w)) a xs:=IJ ok (.inl e)
end
def lG(H:Hp)(a:Qp)(y:V)(r:Option V):Prop:=
 (∃kvs k,Rd H a #[58]/\y=kV k/\r=cG kvs k)\/∃kvs k b,Rd H a (.dT kvs)/\y=.ref b/\H b=Z (.tup (k.map kV))/\r=cG kvs k
def Ea(H:Hp)(a:Qp)(y v:V)(H':Hp):Prop:=
 (∃kvs k,H a=Z #[58]/\y=kV k/\kvs.length<sizeLine/\H'=upd H a (.dK (putK kvs k v))) \/
 ∃kvs k b,H a=Z (.dT kvs)/\y=.ref b/\H b=Z (.tup (k.map kV))/\kvs.length<sizeLine/\H'=upd H a (.dT (putK kvs k v))
theorem lG.k{kvs:List #[157]}{k:Key}(e:H a=Z #[58]):lG H a (kV k) (cG kvs k):=.inl ⟨kvs,k,.inl e,rfl,rfl⟩
theorem Ea.k{kvs:List #[157]}{k:Key}(e:H a=Z #[58])(C:kvs.length<sizeLine):Ea H a (kV k) v (upd H a (.dK (putK kvs k v))):=.inl ⟨kvs,k,e,rfl,C,rfl⟩
section
def Inv.big(I:Inv X o3 σ H s):WJ<s.heap.objs.size:=by have h:qw<s.heap.objs.size:=(I.mod.glob.keeps I.bk).lt;show zT #[9] h
def acr(C:A.units+1<cLine)(I:Inv X o3 σ H s)(g:lG H a y (Z v))(c:RelV y u)(h:∀K d,Inv X o3 σ H d->RelV v K->Q K d):
  wpAny #[4] A (getItem #[44] u) Q E s:=by
 rcases g with⟨kvs,k,e,N,l⟩|⟨kvs,k,b,e,N,n,l⟩
 ·subst N;let⟨z,i,vs,f,dd⟩:=BZ I.hok e;let⟨K,j,B⟩:=sW.some_of (v:=v) (o:=valueAt vs k) (by rw[l];show f.val k);show wpAny_getItem_of (B5 c) dd.mapOf j (h K _ (I.tok _) B)
 ·subst N;cases(show u=Yd b from c);let⟨z,i,xs,f,dd⟩:=IJ I.hok e;let⟨K,j,B⟩:=sW.some_of (v:=v) (o:=(atKey xs k).map (·.2)) (by rw[l];show f.val k);let⟨p,D,L⟩:=Jd.mp j;show wpAny_getItem_heap (WM C) (Cv I.hok n) dd D ?_;rw[L];show h K _ (I.tok _) B
def arC(C:A.units+1<cLine)(I:Inv X o3 σ H s)(g:lG H a y o)(c:RelV y u)(h:∀p,Inv X o3 σ H p->Q (.bool o.isSome) p):
  wpAny #[4] A (qf .In u #[44]) Q E s:=by
 rcases g with⟨kvs,k,e,N,l⟩|⟨kvs,k,b,e,N,n,l⟩
 ·subst N;let⟨z,j,vs,f,dd⟩:=BZ I.hok e;show wpAny_in_of (B5 c) j dd.mapOf ?_;rw[<-(f.val k).tp,<-l];show h _ (I.tok _)
 ·subst N;cases(show u=Yd b from c);let⟨z,j,xs,f,dd⟩:=IJ I.hok e;show wpAny_in_heap (WM C) (Cv I.hok n) j dd ?_;have q:=(f.val k).tp;rw[ZN]at q;rw[<-q,<-l];show h _ (I.tok _)
def ahg(C:A.units+1<cLine)(I:Inv X o3 σ H s)(g:lG H a y o)(c:RelV y u)(h:∀p,Inv X o3 σ H p->Q (.bool (!o.isSome)) p):
  wpAny #[4] A (qf .NotIn u #[44]) Q E s:=by
 rcases g with⟨kvs,k,e,N,l⟩|⟨kvs,k,b,e,N,n,l⟩
 ·subst N;let⟨z,j,vs,f,dd⟩:=BZ I.hok e;show wpAny_notIn_of (B5 c) j dd.mapOf ?_;rw[<-(f.val k).tp,<-l];show h _ (I.tok _)
 ·subst N;cases(show u=Yd b from c);let⟨z,j,xs,f,dd⟩:=IJ I.hok e;show wpAny_notIn_heap (WM C) (Cv I.hok n) j dd ?_;have q:=(f.val k).tp;rw[ZN]at q;rw[<-q,<-l];show h _ (I.tok _)
def rP{t':Nat}(I:Inv X o3 σ H s)(d:Mut (H a))(hs:Yj a s.heap h')(R:∃q,h'.get? a=Z q)(new:bN X.prog X.w (upd H a ob) h' a ob):
  Inv X o3 σ (upd H a ob) {s with heap:=h',toks:=t'}:=
 I.write (x:=a) (e:=a) d #[90] (λb q B z=>(hs.2 b B).trans z) R new
def IH{kvs:List #[157]}{vs:List (Key×Value)}(z:kvs.length<=sizeLine)(j:(a==WJ)=false)(f:KV kvs vs)(dd:h'.DictOf (bL P w) a vs):
  bN P w H' h' a #[58]:=⟨z,j,vs,f,dd⟩
def acs{Q:Unit->qO->Prop}(t:A.units+1<cLine)(I:Inv X o3 σ H s)(g:Ea H a y v H')(n:RelV y u)(F:RelV v r)(h:∀p,Inv X o3 σ H' p->Q () p):
  wpAny #[4] A (setItem #[44] u r) Q E s:=by
 rcases g with⟨kvs,k,e,N,l,j⟩|⟨kvs,k,b,e,N,o,l,j⟩
 ·subst N j;let⟨z,m,vs,f,dd⟩:=aaM I.hok e;have S:vs.length<=sizeLine:=by rw[<-f.length];show z
  have C:(putK kvs k v).length<=sizeLine:=by have:=oy kvs k v;lia
  show wpAny_setItem_pairs (hsz:=S) (B5 n) dd λh' d hs=>h _ ?_;have R:∃q,h'.get? a=Z q:=let ⟨q,_,_,i,_⟩:=d;⟨q,i⟩;show rP I #[77] hs R (IH C m (f.put k F) d)
 ·subst N j;cases(show u=Yd b from n);let⟨z,m,xs,f,dd⟩:=anE I.hok e;have S:xs.length<=sizeLine:=by rw[<-Paired.length f];show z
  have C:(putK kvs k v).length<=sizeLine:=by have:=oy kvs k v;lia
  show wpAny_setItem_heap (hsz:=S) (WM t) (Cv I.hok o) dd λh' d hs=>h _ ?_;let⟨q,x,T,i,M,B,D,_,G⟩:=d;show rP I #[77] hs ⟨q,i⟩ ⟨C,m,_,(f.put k o F).keeps λc J P=>?_,q,x,T,i,M,B,D,G⟩;rw[aj (aO P e #[69])];show P
end
section
variable{kvs:List (Key×V)}{k:Key}
def anC(I:Inv X o3 σ H s)(e:H a=Z #[58])(c:RelV (kV k) u)(l:cG kvs k=Z v)(N:more=[]\/∃x,more=[x])(h:∀K p,Inv X o3 σ (upd H a (.dK (II kvs k))) p->RelV v K->Q K p):wpAny #[4] A (call (.builtin "dict.pop") (.ref a::u::more)) Q E s:=by
 let⟨z,j,vs,f,dd⟩:=aaM I.hok e;let⟨K,b,B⟩:=sW.some_of (v:=v) (o:=valueAt vs k) (by rw[<-l];show f.val k);have D:(keyPart u).isSome=true:=by
  cases k with
  |inl i=>let⟨t,q⟩:=(show ∃t,u=Yl i t from c);subst q;rfl
  |inr x=>let⟨t,q⟩:=(show ∃t,u=yF x t from c);subst q;rfl
 have W:argsOk "dict.pop" ⟨.ref a::u::more,[]⟩:=by
  rcases N with q|⟨x,q⟩
  ·subst q;show PySem.F.args_dict_pop_2 _ _
  ·subst q;show PySem.F.args_dict_pop_3 _ _ _
 show qY Xe dd.typeIs PySem.F.entry_dict_pop W (meets_dict_pop_there #[168] a (B5 c) more N D)
  ⟨vs,K,dd,by rw[<-f.length];show z,b,λh' d hs=>h K _ ?_ B⟩
 have R:∃q,h'.get? a=Z q:=let ⟨q,_,_,hq,_⟩:=d;⟨q,hq⟩;show rP I #[77] hs R (IH (jc (aec kvs k) z) j (f.drop k) d)
def anB(I:Inv X o3 σ H s)(e:Rd H a #[58])(h:∀t p,Inv X o3 σ H p->Q (.int kvs.length t) p):wpAny #[4] A (call #[159] [.ref a]) Q E s:=by let⟨z,j,vs,f,dd⟩:=BZ I.hok e;show call_len_dict j dd (by rw[<-f.length];rw[WD]at z;lia) ?_;rw[<-f.length];show h _ _ (I.tok _)
end
def anh(i:Expr):Prop:=∀ov iv,subscripted i false ov iv=operate [ov,iv] (getItem ov iv)
def aiK{a:Expr}{T id:String}(C:typeLookup (.type T) "__getitem__" = pure (Z #[165]))(hs:anh a)(h:wpAny #[8] A (eval value env) (λo K=>wpAny #[8] A (eval a env) (λi j=>j.TypeIs o T/\wpAny #[8] A (getItem o i) Q E j) E K) E s):
  wpAny #[8] A (eval (.Subscript value a pos) env) Q E s:=by
 show qQ (Wu h (λo K O=>Wu O (λi j l=>?_) λ_ _ x=>x) λ_ _ x=>x);let⟨c,l⟩:=l;unfold subscriptTail;exists 34;rw[getitemInPython_of_ne c.not_modules];show WX (YR c C ?_);have W:wpAny #[8] A (subscripted a false o i) (λr b=>wpAny #[8] A (letTemporaryGo value o r>>=λ_=>pure r) Q E b) E j:=by rw[hs o i];show wpAny_operating (Wu l (λr b p=>WX (wpAny_letTemporaryGo (YB p))) λ_ _ x=>x)
 first
  |show YB (WX W)
  |show WX (YB (WX W))
  |show WX W
def Rx(I:Inv X o3 σ H s)(g:lG H a y o):s.TypeIs #[44] "dict" :=by
 rcases g with⟨kvs,k,e,_,_⟩|⟨kvs,k,b,e,_,_,_⟩
 ·let⟨_,_,vs,_,dd⟩:=BZ I.hok e;show dd.typeIs
 ·let⟨_,_,xs,_,dd⟩:=IJ I.hok e;show dd.typeIs
inductive aiO (Q:VK) (x:V) (y:V) (H2:Hp):Prop|mk (a:_) (v:_) (_:x=.ref a) (_:lG H2 a y (Z v)) (_:Q v H2)
def apN(td ty:TE):TE:=λσ H Q=>td σ H λx H1=>ty σ H1 (aiO Q x)
inductive al5 (Q:VK) (y:V) (x:V) (H2:Hp):Prop|mk (a:_) (o:_) (_:x=.ref a) (_:lG H2 a y o) (_:Q (.bl o.isSome) H2)
def auz(ty td:TE):TE:=λσ H Q=>ty σ H λy H1=>td σ H1 (al5 Q y)
inductive adz (Q:VK) (y:V) (x:V) (H2:Hp):Prop|mk (a:_) (o:_) (_:x=.ref a) (_:lG H2 a y o) (_:Q (.bl (!o.isSome)) H2)
def aiP(ty td:TE):TE:=λσ H Q=>ty σ H λy H1=>td σ H1 (adz Q y)
def apz(td ty tv:TE):TS:=λD σ H=>tv σ H λv H1=>td σ H1 λx H2=>ty σ H2 λy H3=>∃a H4,x=.ref a/\Ea H3 a y v H4/\D.nx σ H4
section
variable{o i:Expr}{pos':Pos}{ty:TE}
def iE(C:X.A.units+1<cLine)(O:PE X o td)(W:PE X i ty)(hs:anh i):PE X (.Subscript o i pos) (apN td ty):=by exists 2;show aiK PySem.F.slot_dict_getitem.lookup hs (cw #[111] λu T ⟨x,d,P,D,E⟩=>cw (W o3 T σ d _ P E) λb n ⟨y,J,G,c,a,v,M,g,l⟩=>?_);subst M;exists 28;show⟨Rx G g,acr C G g c λK e j B=>⟨v,J,j,B,l⟩⟩
def alv(C:X.A.units+1<cLine)(W:PE X i ty)(O:PE X o td):PC X .In i o (auz ty td):=by exists 2;show cw #[40] λb T ⟨y,d,P,c,E⟩=>cw (O o3 T σ d _ P E) λu n ⟨x,J,G,D,a,L,M,g,l⟩=>?_;subst M;exists 28;show arC C G g c λe j=>⟨.bl L.isSome,J,j,U,l⟩
def EV(C:X.A.units+1<cLine)(W:PE X i ty)(O:PE X o td):PC X .NotIn i o (aiP ty td):=by exists 2;show cw #[40] λb T ⟨y,d,P,c,E⟩=>cw (O o3 T σ d _ P E) λu n ⟨x,J,G,D,a,L,M,g,l⟩=>?_;subst M;exists 28;show ahg C G g c λe j=>⟨.bl (!L.isSome),J,j,U,l⟩
def pH(C:X.A.units+1<cLine)(O:PE X o td)(W:PE X i ty)(N:PE X value tv)(hs:WI value (Z (.Subscript o i pos')) pos.line X.env=pure false):
  PS X (.Assign [.Subscript o i pos'] value pos) (apz td ty tv):=by
 exists 17;show WQ (cw (N o3 s σ H _ I h) λr T ⟨v,d,P,F,E⟩=>cw (O o3 T σ d _ P E) λu n ⟨x,J,G,b,l⟩=>cw (W o3 n σ J _ G l) λe f ⟨y,k,j,c,a,R,M,g,p⟩=>?_) hs;subst M;obtain rfl:u=Yd a:=b;show acs C j g c F λm t=>⟨σ,R,t,p⟩
end
def Ry(h:Heap)(B:WJ<h.objs.size):bN P w H (h.push {cls:=.type "dict",data:=.dict #[]}) h.objs.size (.dK []):=
 ⟨jb _,beq_eq_false_iff_ne.mpr (Ne.symm (jU B)),[],.nil,xR h⟩
def al6:TE:=λ_ H Q=>∀p,H p=Y->Q (.ref p) (upd H p (.dK []))
section
def rn:PE X (.Dict [] [] pos) al6:=λo3 s σ H Q I h=>
 wpAny_Dict_empty ⟨.ref s.heap.objs.size,_,I.laid (a:=s.heap.objs.size) (o:=.dK []) (t':=s.toks) (λ_ _ q=>jB _ q) (jE _) (Ry s.heap I.big),rfl,h _ #[43]⟩
end
def PJ:List (TE×TE)->St->Hp->(List (V×V)->Hp->Prop)->Prop
 |[],_,H,Q=>Q [] H
 |(tk,tv)::r,σ,H,Q=>tk σ H λx H1=>tv σ H1 λy H2=>PJ r σ H2 λps H3=>Q ((x,y)::ps) H3
abbrev VV:List (V×V)->List (Value×Value)->Prop:=qI λp q=>RelV p.1 q.1/\RelV p.2 q.2
def PPs(X:Cx)(pos:Pos)(keys:List (Option Expr))(values:List Expr)(trs:List (TE×TE)):Prop:=
 ∀(o3:List #[56]) (s:qO) (σ:St) (H:Hp) (Q:List (V×V)->Hp->Prop),Inv X o3 σ H s->PJ trs σ H Q ->
  wpAny #[4] X.A (evalPairs (pairTrees keys values X.env pos)) (λvs s'=>∃ps H',Inv X o3 σ H' s'/\VV ps vs/\Q ps H') X.xe s
def DF:PPs X pos [] [] []:=λo3 s σ H Q I h=>pairTrees_nil_walk ⟨[],H,I,.nil,h⟩
def oB{k v:Expr}{ks:List (Option Expr)}{tk:TE}{i:List (TE×TE)}(R:PE X k tk)(N:PE X v tv)(S:PPs X pos ks vs i):
  PPs X pos (Z k::ks) (v::vs) ((tk,tv)::i):=λo3 s σ H Q I h=>
 pairTrees_cons_walk (cw #[93] λu T ⟨x,d,P,D,E⟩=>cw (N o3 T σ d _ P E) λK n ⟨y,J,G,c,l⟩=>
  cw (S o3 n σ J _ G l) λg a ⟨ps,o,j,f,p⟩=>⟨(x,y)::ps,o,j,.cons ⟨D,c⟩ f,p⟩)
def dw(kvs more:List #[157]):List #[157]:=more.foldl (λj4 kv=>putK j4 kv.1 kv.2) kvs
def KV.merge:∀{more:List #[157]} {rs:List (Key×Value)} {kvs:List #[157]} {vs:List (Key×Value)},KV more rs->KV kvs vs->KV (dw kvs more) (merged vs rs):=by
 intro more rs kvs vs r;unfold KV at r
 induction r generalizing kvs vs with
 |nil=>intro q;show q
 | @cons p q ps g h t K=>
  intro m;have e:KV (putK kvs p.1 p.2) (stored vs q.1 q.2):=by have:=m.put p.1 h.2;rw[<-h.1];show this
  show K e
theorem sx:∀(more kvs:List #[157]),(dw kvs more).length<=kvs.length+more.length
 |[],kvs=>by change kvs.length<=kvs.length+0;lia
 |p::r,kvs=>by have G:=sx r (putK kvs p.1 p.2);have M:=oy kvs p.1 p.2;change(dw (putK kvs p.1 p.2) r).length<=_;rw[jX];lia
theorem IG{P:qL}{w:World}:∀{kvs:List #[157]} {g:List (Value×Value)},VV (kvs.map λi=>(kV i.1,i.2)) g->∃rs,Carries (bL P w) g rs/\KV kvs rs
 |[],_,r=>by rw[Zw]at r;cases r;show⟨[],True.intro,.nil⟩
 |p::kvs,_,r=>by
  rw[jt]at r;cases r with
  | @cons a b I bs h t=>
   let⟨rs,c,q⟩:=IG (P:=P) (w:=w) t;let⟨d,j⟩:=b;show⟨(p.1,j)::rs,⟨B5 h.1,U,c⟩,.cons ⟨U,h.2⟩ q⟩
def apP(trs:List (TE×TE)):TE:=λσ H Q=>∀p,H p=Y->PJ trs σ (upd H p (.dK [])) λps H2=>H2 p=Z (.dK [])/\∃kvs:List #[157],ps=kvs.map (λkv=>(kV kv.1,kv.2))/\kvs.length<=15/\Q (.ref p) (upd H2 p (.dK (dw [] kvs)))
def HA{keys:List (Option Expr)}{i:List (TE×TE)}(h:PPs X pos keys values i)(x:keys.all (·.isSome)=true)(C:keys.length=values.length)(g:keys≠[])(b:keys.length<=15):PE X (.Dict keys values pos) (apP i):=by
 intro o3 s σ H Q I q;have L:=I.hok.fresh (jE s.heap.objs.size);have j:=I.laid (a:=s.heap.objs.size) (o:=.dK []) (h':=s.heap.push {cls:=.type "dict",data:=.dict #[]}) (t':=s.toks) (λ_ _ q=>jB _ q) (jE _) (Ry s.heap I.big);show wpAny_Dict_walk (knd:=bL X.prog X.w) x C g b (cw (h o3 _ σ _ _ j (q _ L)) λu v ⟨ps,J,G,f,e,kvs,T,M,l⟩=>?_);subst T;let⟨p,c,r⟩:=IG (P:=X.prog) (w:=X.w) f;let⟨z,k,m,n,dd⟩:=aaM G.hok e;cases n;show⟨p,c,dd,λh' d hs=>⟨.ref s.heap.objs.size,_,?_,U,l⟩⟩;have S:(dw [] kvs).length<=sizeLine:=by have t:=sx kvs [];rw[Jq]at t;rw[WD];lia
 have R:∃q,h'.get? s.heap.objs.size=Z q:=let ⟨q,_,_,hq,_⟩:=d;⟨q,hq⟩;show rP G #[77] hs R (IH S k (r.merge .nil) d)
structure M1(X:Cx)(o:Expr)(m:Str)(w4:Pos)(e:Expr)(fq:Pos):Prop where
 base:attributeBase o m X.env (eval o X.env)=eval o X.env
 B1:((backTo fq (WE [e] X.env)).all (λx=>!x.1)&&(backToKw fq #[106]).all (λx=>x.1.isSome)
  && decide (([e]:List Expr).length+([]:List qG).length+(if ([]:List qG).isEmpty then 0 else 1)<30))=true
 line:(w4.endLine==fq.line)=true
 trees:backTo fq (WE [e] X.env)=[#[29]]
structure M2(X:Cx)(o:Expr)(m:Str)(w4:Pos)(e f:Expr)(fq:Pos):Prop where
 base:attributeBase o m X.env (eval o X.env)=eval o X.env
 B1:((backTo fq (WE [e,f] X.env)).all (λx=>!x.1)&&(backToKw fq #[106]).all (λx=>x.1.isSome)
  && decide (([e,f]:List Expr).length+([]:List qG).length+(if ([]:List qG).isEmpty then 0 else 1)<30))=true
 line:(w4.endLine==fq.line)=true
 trees:backTo fq (WE [e,f] X.env)=[#[29],(false,eval f X.env)]
def IsD(H:Hp)(a:Qp):Prop:=(∃kvs,Rd H a #[58])\/∃kvs,Rd H a (.dT kvs)
def W6(I:Inv X o3 σ H s)(d:IsD H a):
  s.TypeIs #[44] "dict" /\ (∀b,Yd a=.ref b->∃ob,s.heap.get? b=Z ob/\ob.dict=Y)/\(a==WJ)=false:=by
 rcases d with⟨kvs,e⟩|⟨kvs,e⟩
 ·let⟨_,j,vs,_,dd⟩:=BZ I.hok e;show⟨dd.typeIs,λb q=>?_,j⟩;cases q;let⟨ob,_,_,G,M,_⟩:=dd;show⟨ob,G,M.2.1⟩
 ·let⟨_,j,xs,_,dd⟩:=IJ I.hok e;show⟨dd.typeIs,λb q=>?_,j⟩;cases q;let⟨ob,_,_,G,M,_⟩:=dd;show⟨ob,G,M.2.1⟩
section
def akm(C:A.units+1<cLine)(I:Inv X o3 σ H s)(g:lG H a y o)(c:RelV y u)(m:RelV d r)(h:∀K p,Inv X o3 σ H p->RelV (o.getD d) K->Q K p):
  wpAny #[4] A (call (.builtin "dict.get") [.ref a,u,r]) Q E s:=by
 rcases g with⟨kvs,k,e,N,l⟩|⟨kvs,k,b,e,N,n,l⟩
 ·subst N;let⟨z,j,vs,f,dd⟩:=BZ I.hok e;show qY yG dd.typeIs yg (XT _ _ _) (meets_dict_get_default #[168] a (B5 c) j r) ⟨_,dd.mapOf,h _ _ (I.tok _) ?_⟩;rw[l];show(f.val k).getD m
 ·subst N;cases(show u=Yd b from c);let⟨z,j,xs,f,dd⟩:=IJ I.hok e;show qY yG dd.typeIs yg (XT _ _ _) (meetsH_dict_get_default (WL #[168]) a b j r) ⟨WM C,k,xs,Cv I.hok n,dd,h _ _ (I.tok _) ?_⟩;rw[l];show(f.val k).getD m
end
inductive agz (ty:TE) (tx:TE) (σ:St) (Q:VK) (x:V) (H1:Hp):Prop|mk (a:_) (_:x=.ref a) (_:IsD H1 a) (_:ty σ H1 λy H2=>tx σ H2 λz H3=>∃o,lG H3 a y o/\Q (o.getD z) H3)
def al4(td ty tx:TE):TE:=λσ H Q=>td σ H (agz ty tx σ Q)
inductive agA (ty:TE) (σ:St) (Q:VK) (x:V) (H1:Hp):Prop|mk (a:_) (_:x=.ref a) (_:IsD H1 a) (_:ty σ H1 λy H2=>∃kvs k v,H2 a=Z #[58]/\y=kV k/\cG kvs k=Z v/\Q v (upd H2 a (.dK (II kvs k))))
def al7(td ty:TE):TE:=λσ H Q=>td σ H (agA ty σ Q)
section
variable{o f:Expr}{w4 fq:Pos}{ty tx:TE}
def Sm(C:X.A.units+1<cLine)(O:PE X o td)(R:PE X e ty)(V:PE X f tx)(m:M2 X o "get" w4 e f fq):PE X (.Call (.Attribute o "get" w4) [e,f] [] fq) (al4 td ty tx):=by
 exists 2;show WS m.base m.B1 m.line yC yG Xf (cw #[111] λu T ⟨x,b,P,D,a,M,d,E⟩=>?_);subst M;exists 28;let⟨L,i,_⟩:=W6 P d;exists L,i;rw[m.trees];show Yx rfl (yK (Yu (cw (R o3 T σ b _ P E) λr n ⟨y,J,G,c,l⟩=>
  Yu (cw (V o3 n σ J _ G l) λv w ⟨z,j,k,q,F,g,p⟩=>yI ?_))))
 show akm C k g c q λK N t B=>⟨_,j,t,B,p⟩
def Sn(O:PE X o td)(R:PE X e ty)(m:M1 X o "pop" w4 e fq):PE X (.Call (.Attribute o "pop" w4) [e] [] fq) (al7 td ty):=by exists 2;show WS m.base m.B1 m.line yC Xe PySem.F.type_dict_pop (cw #[111] λu T ⟨x,b,P,D,a,M,d,E⟩=>?_);subst M;exists 28;let⟨L,i,_⟩:=W6 P d;exists L,i;rw[m.trees];show Yx rfl (yK (Yu (cw (R o3 T σ b _ P E) λn p ⟨y,J,G,c,kvs,k,v,g,N,l,f⟩=>yI ?_)));subst N;show anC G g c l #[90] λK q j B=>⟨v,_,j,B,f⟩
end
section
variable[DecidableEq κ]
theorem Dr:∀{l:List κ} {k:κ},l.Nodup->¬ k∈l->(l++[k]).Nodup
 |[],k,_,_=>by simp
 |a::r,k,h,R=>by
  let⟨G,M⟩:=jm.mp h;change(a::(r++[k])).Nodup;show jm.mpr ⟨λm=>?_,Dr M λm=>R (jL.mpr (Or.inr m))⟩;rcases zC.mp m with q|q
  ·show G q
  ·show R (jL.mpr (Or.inl (jI.mp q).symm))
end
end L2
namespace PySem
open Sem (wp)
open Builtin
end PySem
namespace L2
open PySem PySem.Spec PyProof.Rows
variable{X:Cx}{b body:List Stmt}{e c:Expr}{es:List Expr}{tb u:TS}{te:TE}{t:TA}{pos pos' p:Pos}{st:Stmt}{i n:Nat}{x:Str}{tc:TT}{wi:TI}{w:World}{K:Yc}{N:List Str}{scope:Scope}{A:Around}{s:qO}{H:Hp}
section
inductive apj (K:Yc) (x:V) (y:V) (H:Hp) (Q:VK):Prop|mk (a:_) (b:_) (xs:_) (ys:_) (_:x=.ref a) (_:y=.ref b) (_:iu K H a xs) (_:iu K H b ys) (_:xs.length+ys.length<=sizeLine) (_:(xs=[]->Q (.ref b) H)) (_:(xs≠[]->ys=[]->Q #[44] H)) (_:(xs≠[]->ys≠[]->∀p,H p=Y->Q (.ref p) (upd H p (.tup (xs++ys)))))
def abj:Ax X (binaryOp .Add) (apj X.K):=by
 intro k s w H x y v u Q I D c h;let⟨a,b,t,M,rfl,rfl,W,B,S,G,E,l⟩:=h;by_cases J:t=[]
 ·cases D;cases c;let⟨f,g,P,_⟩:=I.tuple W;let⟨A,q,m,_⟩:=I.tuple B;let⟨⟨i,dd,R,V⟩,O,L,n,j⟩:=id P;let⟨⟨p,r,data2,z⟩,d,C,T,o⟩:=id m;simp only at L j C o;subst L j C o;have e:f=[]:=g.Hz.mpr J;show qg ⟨_,O,U⟩ ⟨_,d,U⟩ qx WC yf yc (yV _ _)
   (tuple_addW0 a b f.toArray A.toArray n T dd r V z (by simp[e])) ⟨O,d,⟨.ref b,H,I,rfl,G J⟩⟩
 ·show aik k s w H _ _ v u Q I D c ⟨a,b,t,M,U,U,W,B,J,S,E J,l J⟩
end
structure Em(X:Cx)(e:Expr)(t:TE):Prop where
 out:PE X e t
structure PAW(X:Cx)(es:List Expr)(t:TA):Prop where
 out:PA X es t
structure PTW(X:Cx)(e:Expr)(t:TT):Prop where
 out:PT X e t
structure eI(X:Cx)(s:Stmt)(t:TS):Prop where
 out:PS X s t
structure P8(X:Cx)(s:List Stmt)(t:TS):Prop where
 out:Ti X s t
section
variable{a b:Expr}{tb:TE}
def Fq:PAW X [] agC:=⟨af⟩
def cV(W:Em X e te)(S:PAW X es t)(hs:WE (e::es) X.env=#[29]::WE es X.env:=by rfl):PAW X (e::es) (abQ te t):=⟨aa W.out S.out hs⟩
def aj3(h:PAW X es t):Em X (.List es pos) (apR t):=⟨bS h.out⟩
def abW{x1}(h:PAW X es t):Em X (.Tuple es x1 pos) (apX t):=⟨cA h.out⟩
variable{rest:List Stmt}{ts us:TS}
def aar:P8 X [] aZ:=⟨aV⟩
def aD(G:eI X st ts)(M:P8 X rest us):P8 X (st::rest) (aai ts us):=⟨ah G.out M.out⟩
def dM(G:eI X st ts):P8 X [st] ts:=⟨ao G.out⟩
def abV(R:Em X e te):eI X (.Return (Z e) pos) (apW te):=⟨aE R.out⟩
def agJ(R:Em X e te)(hs:WI e Y pos.line X.env=pure false:=by rfl):eI X (.Expr e pos) (ajZ te):=⟨bC R.out hs⟩
def aj4(T:X.N.Nodup)(W:X.N[i]?=Z x)(J:Loc X.env.scope x)(R:Em X e te)(hs:WI e (Z (.Name x pos')) pos.line X.env=pure false:=by rfl)(V:X.fn x=true\/X.env.scope.names.lookup x=Z .local:=by first|show .inl rfl|show .inr rfl|assumption):
  eI X (.Assign [.Name x pos'] e pos) (tT te (aJ i)):=⟨afS T W J R.out hs V⟩
def ai0{a b:List Stmt}(L:PTW X c tc)(W:P8 X a ts)(B:P8 X b u):eI X (.If c a b pos) (ama tc ts u):=⟨bV L.out W.out B.out⟩
def agK{a iter:Expr}{g:TG}{tb:TS}(D:qJ #[4] X.A X.env X.xe)(L:X.calm=true)(W:PI X a iter wi)(m:PG X a g)(B:P8 X body tb)(hs:∀x,foldedSetIterable iter X.env x=pure x:=by intro _;rfl):eI X (.For a iter body [] pos) (pQ wi g tb):=⟨cf D L W m B.out hs⟩
def mD{b:List Stmt}{R:TS->Prop}(h:P8 X b ts)(r:R ts):∃t,Ti X b t/\R t:=⟨ts,h.out,r⟩
end
end L2
namespace L2
open PySem PySem.Spec PySem.W PySem.Builtin PySem.Builtin.Getset_descriptor
end L2
namespace L2
open PySem PySem.Spec PyProof.Rows
variable{X:Cx}{o3:List (Qp×Obj)}{σ:St}{H:Hp}{s:qO}{E:XK}{C:Qp}{x:Str}{j i:Nat}{xs:List V}{p pos:Pos}{e a:Expr}{es:List Expr}{t:TA}{prog:qL}{w:World}{K:Yc}{N:List Str}{ix:List (Option Nat)}{scope:Scope}{fp:List Qp}{tc:TT}{te:TE}{wi:TI}{Qd:Qp->Hp->Prop}
section
abbrev TXE:=St->Hp->VK->XK->Prop
abbrev TX:=Ends->XK->St->Hp->Prop
end
theorem oA{α c:Type}{F:α->c->Prop}:∀{l₁:List α} {l₂:List c} {j:Nat} {q:c},qI F l₁ l₂->l₂[j]?=Z q->∃p,l₁[j]?=Z p/\F p q
 |_,_,_,_,.nil,e=>by simp at e
 |_,_,0,_,.cons r _,e=>by simp at e;subst e;show⟨_,rfl,r⟩
 |_,_,j+1,_,.cons _ t,e=>by let⟨p,G,M⟩:=oA (j:=j) t (by simpa using e);show⟨p,by simpa using G,M⟩
section
theorem MV:∀{ks:List Key} {us:List Value},us.length=ks.length->(∀(j:Nat) (v:Value),us[j]?=Z v->∃k,ks[j]?=Z k/\FK k v=true)->Vals (ks.map kV) us
 |[],[],_,_=>.nil
 |[],_::_,h,_=>by simp at h
 |_::_,[],h,_=>by simp at h
 |k::ks,u::us,h,q=>by
  let⟨a,e,i⟩:=q 0 u rfl;cases(show k=a from by simpa using e);show .cons ?_ (MV #[154] λj v e=>by simpa using q (j+1) v (by simpa using e));rcases cH i with⟨n,t,rfl,rfl⟩|⟨x,t,rfl,rfl⟩
  ·show⟨t,U⟩
  ·show⟨t,U⟩
inductive alG (xs:List V) (H:Hp) (Q:VK):Prop|mk (p:_) (kvs:_) (_:xs=[.ref p]) (_:H p=Z #[58]) (_:∀l,H l=Y->Q #[102] (upd H l (.lst (kvs.map λq=>kV q.1))))
def IB(L:X.calm=true):iQ X (.type "list") alG:=by
 intro o3 s σ H xs z Q I r h;let⟨p,B,rfl,D,q⟩:=h;let⟨u,rfl,a⟩:=vals1 r;cases a;let⟨S,lo,n,i,c⟩:=(show bN X.prog X.w H s.heap p (.dK B)from I.hok p _ D);let⟨T,b⟩:=c.dictAt;have M:B.length=n.length:=Paired.length i;show xM (PySem.W.kdl_dict (knd:=bL X.prog X.w) (kvs:=n) (ep:=T) lo) #[117] b (by rw[<-M];show S) λO tk P d f e K=>?_;have F:Vals ((B.map (·.1)).map kV) P.toList:=MV (by rw[jq,K.1,jW,M]) λj v l=>by let⟨k,x,g,m⟩:=K.2 j v (by rw[<-JU];show l);show⟨k,?_,m⟩;let⟨pv,o,t⟩:=oA i g;rw[jR,o];show congrArg Z t.1
 rw[JQ]at F;have y:bN X.prog X.w (upd H s.heap.objs.size (.lst (B.map λq=>kV q.1))) O s.heap.objs.size (.lst (B.map λq=>kV q.1)):=by
  exists by rw[jW];show S,P.toList,d,F
  rw[Zl];show e
 show⟨.ref _,_,I.laid (t':=tk) f (jE _) y,U,q _ #[43]⟩
end
section
variable{tg elt iter cond:Expr}{g:TG}
def DB(L:X.calm=true)(S:aY X.N X.env.scope N ix scope)(W:PI X tg iter wi)(m:∀fp s H C,PG #[46] tg g)(p:∀fp s H C,PT #[46] cond tc)(R:∀fp s H C,PE #[46] elt te)(hs:∀x,foldedSetIterable iter X.env x=pure x:=by intro _;rfl):PE X (.ListComp elt [⟨tg,iter,[cond],0⟩] scope pos) (al3 ix wi g tc te):=
 P4.pe (EA L S m (λfp s H C=>(p fp s H C).one) R) S.kind S.locs S.bB W hs
end
def Bv{a:Qp}(f:Qp->Nat->List V->Hp->Prop)(X:∀D,H D=Y->f D 0 [] #[53])(C:∀D i ys H',i<=xs.length->f D i ys H'->iu K H' a xs)(hs:∀D i x ys H' (u:VK) (c:Hp->Prop),H D=Y->xs[i]?=Z x->H' D=Z #[72]->f D i ys H'->(∀y R,R D=Z #[72]->ys.length<sizeLine->f D (i+1) (ys++[y]) (upd R D (.lst (ys++[y])))->u y R)->
   (∀R,R D=Z #[72]->f D (i+1) ys R->c R)->tc (#[71].set 0 (Z x)) H' λb R=>if b=true then te (#[71].set 0 (Z x)) R u else c R)(j:∀D ys H',H D=Y->H' D=Z #[72]->f D xs.length ys H'->Qd D H'):D9 (Itt K a) ix (aJ 0) tc te σ H Qd:=by
 intro D B;show⟨λi m O H'=>m=xs.length-i/\i<=xs.length/\#[51]/\∃ys,H' D=Z #[72]/\f D i ys H',⟨xs.length,by simp,jb _,.inl rfl,[],ae,X D B⟩,?_⟩;exists 12;have q:=C D i ys H' W p;exists 23
 ·exists 10;let⟨T,g⟩:=y;subst T;have M:=g xs q;have es:O.set 0 (Z x)=#[71].set 0 (Z x):=by
   exists 32
   ·rw[z]
   ·rw[z,Jy]
  change tc (O.set 0 (Z x)) _ _;rw[es];show hs D i x ys _ _ _ B M G p (λy R k S h=>⟨ys,k,S,xs.length-(i+1),by lia,U,d,.inr ⟨_,U⟩,ys++[y],ae,h⟩) λR k h=>⟨xs.length-(i+1),by lia,U,d,.inr ⟨_,U⟩,ys,k,h⟩
 ·exists 14;subst e;show .inl ⟨⟨xs,q,jE _⟩,j D ys H' B G p⟩
end L2
set_option maxHeartbeats 4000000
namespace L2
open PySem PySem.Spec PyProof.Rows
open AutoSeq1 (wpAny_loadPart')
variable{prog:qL}{w:World}{A:Around}{E Q:Value->qO->Prop}{s:qO}{it t l:Qp}{i:Nat}{items:Array Value}{x:Value}
section
def Dt(hit:s.heap.IsTupleIter it t i)(p:s.heap.IsTuple t items)(J:items[i]?=Z x)(H:∀h',h'.IsTupleIter it t (i+1)->Yj it s.heap h'->Q x {s with heap:=h'}):wpAny #[8] A (Yo #[149]) Q E s:=by
 let⟨o,O,L,j⟩:=id hit;let⟨n,k,_,y,d⟩:=p;unfold Yo;show WX (WZ (name:=Str.ofString "__next__") hit.typeIs yH
  (Wa yH hit.typeIs XE ?_ (yx _)))
 change wpAny _ _ (field #[149] 0>>=_) _ _ s;show WX (Wj O j (x:=.ref t) rfl ?_);change wpAny _ _ (if (Yd t==Yq)=true then _ else _) _ _ s;rw[if_neg (show ¬ ((Yd t==Yq)=true)from jZ)];change wpAny _ _ (field #[149] 1>>=_) _ _ s;show WX (Wj O j (x:=.int i 0) rfl ?_);change wpAny _ _ (seqItems? (.ref t)>>=_) _ _ s;show WX (YL k d ?_);simp only[jG,J];show WX (YN O j #[7] (YB ⟨x,U,YB (H _ ?_ (Yi ..))⟩));show⟨_,jz _ O (Obj.isFreed_of_fields (Obj.data_mapFields j _)),(Obj.cls_mapFields ..).trans L,by rw[Obj.data_mapFields j];simp[rawInt]⟩
def tD(f:A.handled=Y)(hit:s.heap.IsTupleIter it t i)(p:s.heap.IsTuple t items)(J:items[i]?=Y)(u:∀h' e,XC it s.heap h'->(∃o,h'.get? e=Z o/\o.cls=.type "StopIteration")->E (.ref e) {s with heap:=h'}):wpAny #[8] A (Yo #[149]) Q E s:=by
 let⟨o,O,L,j⟩:=id hit;let⟨n,k,_,y,d⟩:=p;unfold Yo;show WX (WZ (name:=Str.ofString "__next__") hit.typeIs yH
  (Wa yH hit.typeIs XE ?_ (yx _)))
 change wpAny _ _ (field #[149] 0>>=_) _ _ s;show WX (Wj O j (x:=.ref t) rfl ?_);change wpAny _ _ (if (Yd t==Yq)=true then _ else _) _ _ s;rw[if_neg (show ¬ ((Yd t==Yq)=true)from jZ)];change wpAny _ _ (field #[149] 1>>=_) _ _ s;show WX (Wj O j (x:=.int i 0) rfl ?_);change wpAny _ _ (seqItems? (.ref t)>>=_) _ _ s;show WX (YL k d ?_);simp only[jG,J];show WX (YK (WX (YN O j #[7] ?_)));change wpAny _ _ (newExc (.type "StopIteration") []>>=_) _ _ _;exists 34;simp only[newExc,newTuple];show WX (Ww ?_ #[161]);show WX (m:=firstArgMember _ _) (Wy (a:=Yq) (by first|rfl|(simp only[firstArgMember];rfl)) ?_);show Ww ?_ #[161];simp only[raiseNew];show WX (Wm ?_)
 first|rw[show A.in1.handled=Y from f]|rw[f]
 show WX (YB (YU ?_));show u _ _ (((Yi ..).extBut.push _).push _) ⟨_,jJ _ rfl,U⟩
end
theorem wx(f:A.handled=Y)(it t:Qp)(K:t≠it)(items:Array Value):
  Draws prog w A it [it,t] items.size (λi v=>items[i]?=Z v) (λi h=>h.IsTupleIter it t i/\h.IsTuple t items) where
 live:=λ_ _ st=>let ⟨o,ho,_⟩:=st.1;⟨o,ho⟩
 frame:=λ_ _ _ st R=>⟨st.1.at λo e=>R it #[7] o e,st.2.at λo e=>R t #[7] o e⟩
 item:=λi s Q E W st H=>by show Dt st.1 st.2 (x:=items[i]) (by simp[W]) λO a D=>?_;show H _ O s.toks (by simp[W]) ⟨a,st.2.at λo e=>(D.2 t K).trans e⟩ D
 done:=λs Q E st u=>tD f st.1 st.2 #[7] u
def AQ(l:Qp)(items:Array Value)(n:Nat)(a:Option Qp)(V:Array (Option Value)):
  Meets (Builtin.«enumerate.__new__» ⟨[.type "enumerate",.ref l],[]⟩) (λ_ R s=>s.heap.get? l=Z {cls:=.type "tuple",dict:=a,data:=.seq items n,slots:=V} /\
   R (.ok (.ret (.ref #[24].objs.size)))
    {s with heap:=#[24].push {cls:=.type "enumerate",data:=.fields #[.none,.bool false,.ref s.heap.objs.size,rawInt 0,.none,.none]} }):=
 .of_wp λprog w A R s h=>by
  let⟨D,g,d,tk,os⟩:=s;let⟨C,h⟩:=h;have p:=sub_enumerate;have u:XO (Shared.heap ⟨D,g,d,tk,os⟩) l items:=⟨_,C,rfl,n,rfl⟩
  wp_walk using wpAny_loadPart' C
  show wpAny_stack_any λst=>YB ?_;split
  ·rename_i c _ _ _ _ _;cases(c==ym "enumerate")
   ·wp_walk using wpAny_loadPart' C,YH u
    show⟨_,U,h⟩
   ·wp_walk using wpAny_loadPart' C,YH u
    show⟨_,U,h⟩
  ·wp_walk using wpAny_loadPart' C,YH u
   show⟨_,U,h⟩
def AD(u:s.heap.IsTuple l items)(h:∀h',IsEnum h' #[16] s.heap.objs.size 0 .none->h'.IsTupleIter s.heap.objs.size l 0->h'.objs.size=s.heap.objs.size+2 ->
   #[45]->Q (.ref #[16]) {s with heap:=h'}):
  wpAny #[8] A (call (.type "enumerate") [.ref l]) Q E s:=by
 let⟨⟨c,a,d,V⟩,C,L,n,j⟩:=u;replace L:c=.type "tuple" :=L;replace j:d=.seq items n:=j;subst L j;show callType_new F.called_enumerate #[9] (F.typeCall_enumerate_1 _) (F.newCall_enumerate_1 _) (λobj=>F.args_object_init_2 obj _) F.entry_enumerate_new
  (AQ l items n a V) ⟨C,?_⟩
 have S:#[24].objs.size=s.heap.objs.size+1:=jn ..;change _/\_;rw[S];have R:IsEnum (#[24].push
   {cls:=.type "enumerate",data:=.fields #[.none,.bool false,.ref s.heap.objs.size,rawInt 0,.none,.none]}) #[16] s.heap.objs.size 0 .none:=by
  have:=jJ #[24]
   (o:={cls:=.type "enumerate",data:=.fields #[.none,.bool false,.ref s.heap.objs.size,rawInt 0,.none,.none]}) rfl
  rw[S]at this;show this
 show⟨⟨_,R,U⟩,h _ R ⟨_,jB _ (jJ _ rfl),U,U⟩ (by rw[jn,S]) λb o x=>jB _ (jB _ x)⟩
variable{X:Cx}{o3:List (Qp×Obj)}{σ B:St}{H:Hp}{s:qO}{h':Heap}{t' n j:Nat}{e l:Expr}{P prog:qL}{w:World}{K:Yc}{elts es:List Expr}{pos PL p:Pos}{tl ta t:TA}{a C:Qp}{xs:List V}{tb:TS}{D:Ends}{j4 ys:Array Value}{x m:Str}{sp:Sp}{A:Around}{E Q:Value->qO->Prop}{ch:List Qp}{ns:List Int}{us:List Value}{ix:List (Option Nat)}{te:TE}{Qd:Qp->Hp->Prop}{v:Value}
section
def Inv.aiY{t':Nat}{e it:Qp}(I:Inv X o3 σ H s)(k:∀b o,b≠e->b≠it->s.heap.get? b=Z o->h'.get? b=Z o)(a:tW X o3 H e)(D:tW X o3 H it):Inv X o3 σ H {s with heap:=h',toks:=t'}:=by
 have F:∀b u,H b=Z u->b≠e/\b≠it:=λb u q=>⟨λz=>(by rw[z,a.1]at q;cases q),λz=>(by rw[z,D.1]at q;cases q)⟩;have f:∀b o,b∉[e,it]->s.heap.get? b=Z o->h'.get? b=Z o:=λb o L q=>k b o #[134] #[134] q;show I.step (g':=s.gens) (d':=s.drawn) (ch:=[e,it]) (λb B=>?_) (λb o _ _ L q _=>f b o L q) (λb o _ _ L q _=>⟨o.slots,f b o L q⟩) (λ_ _ _ _ n=>n)
  (λb o L q=>⟨o,f b o L q⟩) (λ_ _ q=>q) (λ_ _ _ q=>q) (λb ps q=>⟨#[],by rw[q];simp⟩) (λm N=>?_) (λb u q=>?_) I.bare
 ·have q:b=e\/b=it:=by simpa using B
  rcases q with rfl|rfl
  ·show⟨a.2.2.2.1,a.2.1,a.2.2.2.2.1,a.2.2.2.2.2⟩
  ·show⟨D.2.2.2.1,D.2.1,D.2.2.2.2.1,D.2.2.2.2.2⟩
 ·let⟨o,es,T,O,r⟩:=N;show⟨o,es,T,k _ o (Ne.symm a.2.1) (Ne.symm D.2.1) O,r⟩
 ·show(I.hok b u q).Hj (λc v L z=>k c v ?_ ?_ z) (λ_ z=>z) λ_ _ z=>z
  ·rcases L with z|z
   ·rw[z];show(F b u q).1
   ·show(F c _ z).1
  ·rcases L with z|z
   ·rw[z];show(F b u q).2
   ·show(F c _ z).2
end
structure agZ(K:Yc)(Sq:Hp->Qp->List V->Prop)(Ir:Heap->Qp->Qp->Nat->Prop)(Is:Heap->Qp->Array Value->Prop):Prop where
 val:∀{X:Cx} {o3:List #[56]} {σ:St} {H:Hp} {s:qO} {a:Qp} {xs:List V},X.K=K->Inv X o3 σ H s->Sq H a xs->∃aP,Vals xs aP/\Is s.heap a aP.toArray
 inj:∀{X:Cx} {o3:List #[56]} {σ:St} {H:Hp} {s:qO} {a:Qp} {xs ys:List V},X.K=K->Inv X o3 σ H s->Sq H a xs->Sq H a ys->xs=ys
 obj:∀{h:Heap} {it a:Qp} {i:Nat},Ir h it a i->∃o c,h.get? it=Z o/\o.cls=.type c/\c ≠ "enumerate" /\ ∀v,o.data≠.cell v
 src:∀{h:Heap} {a:Qp} {aP:Array Value},Is h a aP->∃o c,h.get? a=Z o/\o.cls=.type c/\c ≠ "enumerate"
 ne:∀{h:Heap} {it a:Qp} {i:Nat} {aP:Array Value},Is h a aP->Ir h it a i->a≠it
 at_:∀{h h':Heap} {it a:Qp} {i:Nat},Ir h it a i->(∀o,h.get? it=Z o->h'.get? it=Z o)->Ir h' it a i
 draws:∀{prog:qL} {w:World} {A:Around},A.handled=Y->∀(it a:Qp),a≠it->∀items:Array Value,Draws prog w A it [it,a] items.size (λi v=>items[i]?=Z v) (λi h=>Ir h it a i/\Is h a items)
 fin:∀{prog:qL} {w:World} {A:Around} {s:qO} {it a:Qp} {i:Nat} {items:Array Value} {Q:Value->qO->Prop} {E:Value->qO->Prop},A.handled=Y->Ir s.heap it a i->Is s.heap a items->items[i]?=Y->(∀h' e,XC it s.heap h'->(∃o,h'.get? e=Z o/\o.cls=.type "StopIteration")->E (.ref e) {s with heap:=h'})->wpAny #[8] A (Yo #[149]) Q E s
 call:∀{prog:qL} {w:World} {A:Around} {E:Value->qO->Prop} {s:qO} {l:Qp} {items:Array Value} {Q:Value->qO->Prop},Is s.heap l items->(∀h',IsEnum h' #[16] s.heap.objs.size 0 .none->Ir h' s.heap.objs.size l 0->h'.objs.size=s.heap.objs.size+2->#[45]->Q (.ref #[16]) {s with heap:=h'})->wpAny #[8] A (call (.type "enumerate") [.ref l]) Q E s
def Tz(Sq:Hp->Qp->List V->Prop)(a:Qp):It:=
 ⟨λi H=>∃xs x,Sq H a xs/\xs[i]?=Z x,λi H v H'=>∃T x,v=.ref T/\H T=Y/\H'=upd H T #[100]/\∀xs,Sq H a xs->xs[i]?=Z x,λi H=>∃xs,Sq H a xs/\xs.length<=i⟩
theorem aak{Sq:Hp->Qp->List V->Prop}{Ir:Heap->Qp->Qp->Nat->Prop}{Is:Heap->Qp->Array Value->Prop}{x1:_}(S:agZ K Sq Ir Is)(a e it:Qp):Turn P w K (.Tuple elts x1 pos) (Tz Sq a) [e,it] e (λi h=>(∃old,IsEnum h e it i old)/\Ir h it a i) where
 mem:=by simp
 obj:=λi h st b B=>by
  have q:b=e\/b=it:=by simpa using B
  rcases q with rfl|rfl
  ·let⟨⟨old,st⟩,_⟩:=st;show⟨_,st,λv z=>by have z':Data.fields _=Data.cell v:=z;cases z'⟩
  ·let⟨o,c,e,_,_,d⟩:=S.obj st.2;show⟨o,e,d⟩
 keep:=λi h h' st k=>⟨let ⟨old,z⟩:=st.1;⟨old,k e #[7] _ z⟩,S.at_ st.2 λo z=>k it #[7] o z⟩
 item:=by
  intro X j m p L i o3 s σ H E I f st t;subst j m p;let⟨xs,x,l,C⟩:=t;let⟨J,N,n⟩:=S.val rfl I l;let⟨u,hu,ru⟩:=N.get C;let⟨⟨old,R⟩,hit⟩:=st;have fe:=f e #[7];have fi:=f it #[7];have no:∀{x:Qp},(∃o c,s.heap.get? x=Z o/\o.cls=.type c/\c ≠ "enumerate")->e≠x:=λq z=>by let⟨o,c,g,O,W⟩:=q;rw[<-z,R]at g;cases g;show W (yY O).symm
  have ne:e≠it:=no (let ⟨o,c,g,O,W,_⟩:=S.obj hit;⟨o,c,g,O,W⟩);have y4:a≠e:=Ne.symm (no (S.src n));have d5:a≠it:=S.ne n hit;have hi:i<J.toArray.size:=by have:i<J.length:=(jk.mp hu).1;simpa using this
  have D:=S.draws (prog:=X.prog) (w:=X.w) (A:=X.A.in1) (show X.A.in1.handled=Y from I.ok.hd L) it a d5 J.toArray;show wpAny_pyNext_enum_itemD D R ⟨hit,n⟩ hi ne (by simp[ne,Ne.symm y4]) λy h1 tk G ho i5 r c6 hk=>?_;have ey:y=u:=by
   have:J.toArray[i]?=Z u:=by simpa using hu
   rw[this]at G;show(Option.some.inj G).symm
  subst ey;show⟨_,U,wpAny_letOwnedTupleGo_enum ho λh2 j5 M=>?_⟩;have fr:H s.heap.objs.size=Y:=I.hok.fresh (jE _);have I1:Inv X o3 σ (upd H s.heap.objs.size #[100]) {s with heap:=s.heap.push {cls:=.type "tuple",data:=.seq #[.int i tk,y]},toks:=tk+1}:=
   I.laid (o:=.tup [.int i,x]) (λb ob q=>jB _ q) (jE _) ⟨by change 2<=sizeLine;decide,[.int i tk,y],.cons ⟨tk,rfl⟩ (.cons ru .nil),⟨_,jJ _ rfl,rfl,_,rfl⟩⟩
  have lt:∀b∈[e,it],b<s.heap.objs.size:=λb B=>by
   have q:b=e\/b=it:=by simpa using B
   rcases q with rfl|rfl
   ·show jM R
   ·let⟨o,c,g,_⟩:=S.obj hit;show jM g
  have Q:∀b∈[e,it],tW X o3 (upd H s.heap.objs.size #[100]) b:=λb B=>by show⟨?_,(f b B).2⟩;rw[aj (jU (lt b B))];show(f b B).1
  have I2:Inv X o3 σ (upd H s.heap.objs.size #[100]) {s with heap:=h2,toks:=tk+1}:=by
   show I1.aiY (t':=tk+1) (h':=h2) (λb o b1 b2 q=>?_) (Q e #[7]) (Q it #[7]);show(M.2 b b1).trans ?_;rcases zt (show(s.heap.push {cls:=.type "tuple",data:=.seq #[.int i tk,y]}).get? b=Z o from q)with⟨rfl,rfl⟩|z
   ·show r
   ·show hk b o b1 b2 z
  show⟨.ref s.heap.objs.size,_,I2,U,⟨s.heap.objs.size,x,U,fr,U,λys G=>by rw[S.inj rfl I G l];show C⟩,⟨⟨y,?_⟩,?_⟩,λb B=>(Q b B).1⟩
  ·have:((i+1:Nat):Int)=(i:Int)+1:=by push_cast;rfl
   rw[this];show j5
  ·show S.at_ i5.1 λo z=>(M.2 it (Ne.symm ne)).trans z
 done:=by
  intro X j m p L i o3 s σ H E I f st t;subst j m p;let⟨xs,l,C⟩:=t;let⟨J,N,n⟩:=S.val rfl I l;let⟨⟨old,R⟩,hit⟩:=st;let⟨f0,f1,Q,f3,f4,f5⟩:=f it #[7];have hl:=N.length;have r:s.TypeIs (.ref e) "enumerate" :=⟨_,R,rfl⟩;unfold pyNext;show WX (WW (WZ (name:=Str.ofString "__next__") r Xg
   (Wa Xg r F.entry_enumerate_next ?_ (F.args_enumerate_next_1 _))))
  change wpAny _ _ (field (.ref e) 2>>=_) _ _ _;show WX (Wj R rfl (x:=.ref it) rfl ?_);show WX (S.fin (show X.A.in1.handled=Y from I.ok.hd L) hit n (by simp;lia) λh' x o5 w5=>?_);let⟨o,ho,z5⟩:=w5;show WX (Wo (T:="StopIteration") (b:=true) ⟨o,ho,z5⟩ qv ?_);show YB ⟨U,I.turned (t':=s.toks) (λb o B z=>o5 b o B z) f0 f1 f3 f4 f5⟩
 self:=λ_ _ _ _ _ st h=>let ⟨_,z⟩:=st.1;YD z h
section
def OP:qV "enumerate" = Z (.type "enumerate"):=by decide +kernel
theorem So{k:Hp->Qp->List V->Prop}{W:Heap->Qp->Qp->Nat->Prop}{f:Heap->Qp->Array Value->Prop}(S:agZ X.K k W f){i:_}(m:Gl X "enumerate")(N:X.mg "enumerate" = Y)(C:PA X [l] tl)(hs:WE [l] X.env=[(false,eval l X.env)]):
  PI X (.Tuple elts i PL) (.Call (.Name "enumerate" p) [l] [] pos) (λσ H R=>tl σ H λvs d=>∃a,vs=[.ref a]/\(∃xs,k d a xs)/\R (Tz k a) d):=by
 exists 30;show Call_ (su I m N OP (Yp (cw (C pos o3 s σ H _ I h) λus T ⟨vs,d,P,g,E⟩=>?_) hs rfl));let⟨a,e,⟨xs,j⟩,q⟩:=E;subst e;cases g with
 |cons r y=>
  cases y;cases r;let⟨J,F,p⟩:=S.val rfl P j;show S.call p λh' c hit G n=>?_;show YD c ?_;show⟨T.heap.objs.size+1,[T.heap.objs.size+1,T.heap.objs.size],_,_,d,U,P.kept (t':=T.toks) n,aak S a _ T.heap.objs.size,⟨⟨_,c⟩,hit⟩,λb B=>?_,q⟩;have e:b=T.heap.objs.size+1\/b=T.heap.objs.size:=by simpa using B
  rcases e with rfl|rfl
  ·show P.IL (JV _) (P.hok.fresh (JV _))
  ·exists 18
end
def ML{k:Hp->Qp->List V->Prop}{g:TG}(f:Nat->St->Hp->Prop)(X:f 0 σ H)(C:∀i σ H,i<=xs.length->f i σ H->k H a xs)(hs:∀i x σ H T,xs[i]?=Z x->f i σ H->H T=Y->g #[158] σ (upd H T #[100]) λc J=>tb {D with nx:=f (i+1),ct:=f (i+1),bk:=D.nx} c J)(j:∀σ H,f xs.length σ H->D.nx σ H):
  ∃W:Nat->Nat->St->Hp->Prop,#[104]/\∀i m σ H,W i m σ H ->
   ((Tz k a).stop i H/\D.nx σ H)\/((Tz k a).go i H/\∃N:St->Hp->Prop,#[20]/\∀x H',(Tz k a).yld i H x H'->g x σ H' λc J=>tb {D with nx:=N,ct:=N,bk:=D.nx} c J):=by
 exists 3;exists 22;have q:=C i σ H b p;exists 23
 ·show .inr ⟨⟨xs,xs[i],q,by simp[d]⟩,f (i+1),λO H' n=>⟨xs.length-(i+1),by lia,U,d,n⟩,λx H' y=>?_⟩;let⟨T,u,rfl,r,rfl,y⟩:=y;show hs i u σ _ T (y xs q) p r
 ·exists 14;subst e;show .inl ⟨⟨xs,q,jE _⟩,j σ H p⟩
theorem anK:agZ K (iu K) Heap.IsTupleIter XO where
 val:=λe I q=>by subst e;let⟨J,F,p,_⟩:=I.tuple q;show⟨J,F,p⟩
 inj:=λe I q D=>by subst e;show I.BO q D
 obj:=λ⟨o,e,c,d⟩=>⟨o,_,e,c,by decide,λv z=>by rw[d]at z;cases z⟩
 src:=λ⟨o,e,c,_⟩=>⟨o,_,e,c,by decide⟩
 ne:=λ⟨o,e,c,_⟩ ⟨m,E,P,_⟩ z=>by rw[z,E]at e;cases e;rw[P]at c;show absurd (yY c) #[9]
 at_:=λx k=>x.at k
 draws:=wx
 fin:=tD
 call:=AD
def Ite(K:Yc):Qp->It:=Tz (iu K)
section
def akX(K:Yc)(tl:TA):TI:=λσ H R=>tl σ H λvs H1=>∃a,vs=[.ref a]/\(∃xs,iu K H1 a xs)/\R (Ite K a) H1
def afO{i:_}(m:Gl X "enumerate")(N:X.mg "enumerate" = Y)(C:PA X [l] tl)(hs:WE [l] X.env=[(false,eval l X.env)]:=by rfl):
  PI X (.Tuple elts i PL) (.Call (.Name "enumerate" p) [l] [] pos) (akX X.K tl):=So anK m N C hs
end
def acz{g:TG}(f:Nat->St->Hp->Prop)(X:f 0 σ H)(C:∀i σ H,i<=xs.length->f i σ H->iu K H a xs)(hs:∀i x σ H T,xs[i]?=Z x->f i σ H->H T=Y->g #[158] σ (upd H T #[100]) λc J=>tb {D with nx:=f (i+1),ct:=f (i+1),bk:=D.nx} c J)(j:∀σ H,f xs.length σ H->D.nx σ H):
  ∃W:Nat->Nat->St->Hp->Prop,#[104]/\∀i m σ H,W i m σ H ->
   ((Ite K a).stop i H/\D.nx σ H)\/((Ite K a).go i H/\∃N:St->Hp->Prop,#[20]/\∀x H',(Ite K a).yld i H x H'->g x σ H' λc J=>tb {D with nx:=N,ct:=N,bk:=D.nx} c J):=ML f X C hs j
def W9(h:ItemsOf (λi v=>∃t,v=.int (0+(i:Int)*1) t) j4 n):Vals ((jg n).map λi:Nat=>V.int i) j4.toList:=by
 have d:∀(n:Nat) (us:List Value),us.length=n->(∀(j:Nat) (v:Value),us[j]?=Z v->∃t,v=Yl (0+(j:Int)*1) t)->Vals ((jg n).map λi:Nat=>V.int i) us:=by
  intro n
  induction n with
  |zero=>
   intro us C _;cases us with
   |nil=>show .nil
   |cons a r=>cases C
  |succ n K=>
   intro us C N;have b:us≠[]:=λz=>by rw[z]at C;cases C
   have e:=ZA b;rw[<-e,JN,jD];have c:us.dropLast.length=n:=by rw[Zk,C];rfl
   show(K us.dropLast c λj v f=>?_).append (.cons ?_ .nil)
   ·show N j v ?_;have lt:=(jk.mp f).1;rw[<-e,JA lt];show f
   ·let⟨t,p⟩:=N n (us.getLast b) (by rw[List.getLast_eq_getElem,jC #[1]];simp[C]);rw[p];show⟨t,by rw[Je,Qi]⟩
 show d n j4.toList (by rw[jq,h.1]) λj v f=>h.2 j v (by rw[<-JU];show f)
section
variable{a:Expr}{p2 ado:Pos}
inductive aah (Q:VK) (vs:List V) (H1:Hp):Prop|mk (n:Nat) (_:vs=[.int n]) (_:n<=sizeLine) (_:∀l,H1 l=Y->Q #[102] (upd H1 l (.lst ((jg n).map λi:Nat=>V.int i))))
def agB(ta:TA):TE:=λσ H Q=>ta σ H (aah Q)
theorem Z2(L:X.calm=true)(j:Gl X "list")(k:X.mg "list" = Y)(m:Gl X "range")(N:X.mg "range" = Y)(W:PA X [a] ta)(hs:WE [a] X.env=[(false,eval a X.env)]:=by rfl)(M:WE [.Call (.Name "range" p2) [a] [] ado] X.env=[(false,eval (.Call (.Name "range" p2) [a] [] ado) X.env)]:=by rfl):
  PE X (.Call (.Name "list" p) [.Call (.Name "range" p2) [a] [] ado] [] pos) (agB ta):=by
 exists 2;show WR (su I j k De ?_);show Yp ?_ M rfl;rw[M];show Yu ?_;show Call_ (su I m N boot_range (Yp (cw (W ado o3 s σ H _ I h) λus T ⟨C,d,P,g,E⟩=>?_) hs rfl));let⟨n,e,u,q⟩:=E;subst e;cases g with
 |cons r y=>
  cases y;let⟨t,rfl⟩:=r;have big:sizeLine<=2^24:=by decide
  have v:((sizeLine:Nat):Int)<2^62:=by decide
  have l:(n:Int)<2^62:=by lia
  show call_range_1 ?_;show yI ?_;have sz:(T.heap.push {cls:=.type "range",data:=.fields #[.int 0 T.toks,.int n t,.int 1 (T.toks+1)]}).objs.size=T.heap.objs.size+1:=jn _ _;show PySem.call_list_range (s:={T with heap:=T.heap.push {cls:=.type "range",data:=.fields #[.int 0 T.toks,.int n t,.int 1 (T.toks+1)]},toks:=T.toks+1+1}) (n:=n) (P.ok.hd L) (IsRange.new ..) (small_one #[1] #[1] #[1] l)
   (by rw[rangeSize_one];split<;>lia) #[1] λh' tk c x z e K=>?_
  have A:∀b o,T.heap.get? b=Z o->h'.get? b=Z o:=λb o f=>z b o (jB _ f);have B:bN X.prog X.w (upd d (T.heap.push {cls:=.type "range",data:=.fields #[.int 0 T.toks,.int n t,.int 1 (T.toks+1)]}).objs.size (.lst ((jg n).map λi:Nat=>V.int i))) h' (T.heap.push {cls:=.type "range",data:=.fields #[.int 0 T.toks,.int n t,.int 1 (T.toks+1)]}).objs.size (.lst ((jg n).map λi:Nat=>V.int i)):=by
   exists by rw[jW,jd];show u,c.toList,x,W9 K
   show e
  show⟨.ref _,_,P.laid (t':=tk) A (by rw[sz];show JV _) B,U,q _ (P.hok.fresh (by rw[sz];show JV _))⟩
end
structure Fw(P:qL)(w:World)(K:Yc)(mg:Str->Option Value)(base:Heap)(x:Str)(C:Qp)(k:Nat)(ps:List Str)(sp:Sp):Prop where
 m:mg x=Z #[189]
 cl:Fv K C
 ex:∃(f:Qp) (fd:Qx),Mk K C f/\Binds K fd ps []/\aR P w K mg base cO k f fd ps sp
def EW{k:Nat}{ps:List Str}(G:Fw X.prog X.w X.K X.mg X.base x C k ps sp)(S:eJ j X.A)(W:PA X (e::es) t)(hkj:k+1<=j:=by decide)(b:Gl X x:=by rfl)(a:#[36]=false:=by decide)(R:WE (e::es) X.env=#[29]::WE es X.env:=by rfl)(y:#[34].any (·.1)=false:=by rfl):PE X #[32] (aj0 C sp [] E0 t):=by let⟨f,c,M,B,F⟩:=G.ex;show aip M F (S.mono hkj) b G.m B .nil afD W a R y
structure bP(P:qL)(w:World)(K:Yc)(mg:Str->Option Value)(base:Heap)(C:Qp)(m:Str)(k:Nat)(ps:List Str)(sp:Sp):Prop where
 cl:Fv K C
 ex:∃(f:Qp) (fd:Qx),Meth K C m f/\Binds K fd ps []/\aR P w K mg base cO k f fd ps sp
def mq{k:Nat}{ps:List Str}{a:Pos}{o:Expr}{ta:TE}{pl:qM Bool}(G:bP X.prog X.w X.K X.mg X.base C m k ps sp)(S:eJ j X.A)(O:PE X o ta)(W:PA X (e::es) t)(hkj:k<=j:=by decide)(M:WE (e::es) X.env=#[29]::WE es X.env:=by rfl)(y:#[34].any (·.1)=false:=by rfl)(p:eval (.Call (.Attribute o m a) (e::es) [] pos) X.env=(do
   let L <-eval o X.env
   standAt a.atName
   let (f,first) <-holding [L] (getMethod L m pl)
   callWith pos f first (backTo pos (WE (e::es) X.env)) (backToKw pos #[106])):=by rfl):
  PE X (.Call (.Attribute o m a) (e::es) [] pos) (abR C m sp [] E0 ta t):=by
 let⟨f,b,N,B,F⟩:=G.ex;show air O G.cl N F (S.mono hkj) B .nil afD W M y p
section
structure T3(z TI TO i1 i2:Qp)(fp1 fp2:List Qp):Prop where
 TIz:TI≠z
 TOz:TO≠z
 TITO:TI≠TO
 i1z:i1≠z
 i2z:i2≠z
 TIi1:TI≠i1
 TIi2:TI≠i2
 TOi1:TO≠i1
 TOi2:TO≠i2
 i12:i1≠i2
 z1:z∉fp1
 TO1:TO∉fp1
 i21:i2∉fp1
 z2:z∉fp2
 TO2:TO∉fp2
 i12':i1∉fp2
variable{z TI TO i1 i2:Qp}{fp1 fp2:List Qp}{n1 n2 k:Nat}{P1 P2:Nat->Value->Prop}{St1 St2:Nat->Heap->Prop}{a b:Value}
def adH(N:Draws prog w A.in1 i1 fp1 n1 P1 St1)(t:Draws prog w A.in1 i2 fp2 n2 P2 St2)(F:T3 z TI TO i1 i2 fp1 fp2)(hz:qF s.heap z TI TO .none)(PU:qB s.heap TI (.ref i1) (.ref i2))(H:qB s.heap TO a b)(s1:St1 k s.heap)(s2:St2 k s.heap)(l1:k<n1)(l2:k<n2)(hQ:∀x y h' tk,P1 k x->P2 k y->qF h' z TI TO (rawInt s.heap.objs.size)->qB h' TO x y->St1 (k+1) h'->St2 (k+1) h'->qB h' s.heap.objs.size x y ->
   (∀c o,c≠z->c≠TO->c≠i1->c≠i2->s.heap.get? c=Z o->h'.get? c=Z o)->Q #[19] {s with heap:=h',toks:=tk}):
  wpAny #[8] A.in1 (Builtin.«zip.__next__» ⟨[.ref z],[]⟩) (λy4 s'=>∃v,y4=.done (.ret v)/\Q v s') E s:=by
 let⟨hp,g,d,j5,os⟩:=s;change wpAny _ _ (field (.ref z) 2>>=_) _ _ _;show WX (Wj hz rfl (x:=.bool false) rfl ?_);change wpAny _ _ (field (.ref z) 3>>=_) _ _ _;show WX (Wj hz rfl (x:=.ref TI) rfl ?_);show WX (YL PU rfl ?_);change wpAny _ _ (Yv (.ref z)>>=_) _ _ _;exists 34;unfold Yv;show WX (Wj hz rfl (x:=.none) rfl (YB ?_));simp only[if_true];show WX (YK ?_);show WX (Wj hz rfl (x:=.ref TO) rfl ?_);show WX (YO hz #[7] λO IU J=>?_);replace IU:qF O z TI TO .ellipsis:=IU;replace J:Yj z hp O:=J;exists 34;simp only[QO,QP,zR,ZC];show WX (WX (Wz ?_));change wpAny _ _ (Yo (.ref i1)>>=_) _ _ _;have q1:St1 k O:=N.frame _ _ _ s1 λc L o e=>J.extBut c o (λx=>F.z1 (x▸L)) e;show WX (N.item k _ _ _ l1 q1 λx l I hx q2 K=>YB ?_);replace K:Yj i1 O l:=K;have X:qB l TO a b:=K.extBut _ _ F.TOi1 (J.extBut _ _ F.TOz H);show WX (YL (s:=⟨l,g,d,I,os⟩) X rfl ?_);show WX (Yb (s:=⟨l,g,d,I,os⟩) X λp V9 P=>?_);replace V9:qB p TO x b:=V9;replace P:Yj TO l p:=P;show WX (Ws (YB ?_));show WX (WX (Wz ?_));change wpAny _ _ (Yo (.ref i2)>>=_) _ _ _;have r3:St2 k p:=t.frame _ _ _ s2 λc L o e=>P.extBut c o (λx=>F.TO2 (x▸L)) (K.extBut c o (λx=>F.i12' (x▸L)) (J.extBut c o (λx=>F.z2 (x▸L)) e));show WX (t.item k _ _ _ l2 r3 λy q S hy r4 u=>YB ?_);replace u:Yj i2 p q:=u;have i:qB q TO x b:=u.extBut _ _ F.TOi2 V9;show WX (YL (s:=⟨q,g,d,S,os⟩) i rfl ?_);show WX (Yb (s:=⟨q,g,d,S,os⟩) i λf W h=>?_);replace W:qB f TO x y:=W;replace h:Yj TO q f:=h;show WX (Ws (YB (YB ?_)));show WX (YL (s:=⟨f,g,d,S,os⟩) W rfl ?_);show WX (wpAny_newTuple ?_);have G:f.objs.size=hp.objs.size:=by rw[h.1,u.1,P.1,K.1,J.1]
 have D:qF f z TI TO .ellipsis:=h.extBut _ _ F.TOz.symm (u.extBut _ _ F.i2z.symm (P.extBut _ _ F.TOz.symm (K.extBut _ _ F.i1z.symm IU)));have d5:∀c o,c≠z->c≠TO->c≠i1->c≠i2->hp.get? c=Z o->f.get? c=Z o:=λc o r B c3 c4 e=>
  h.extBut _ _ B (u.extBut _ _ c4 (P.extBut _ _ B (K.extBut _ _ c3 (J.extBut _ _ r e))))
 have q5:St1 (k+1) f:=N.frame _ _ _ q2 λc L o e=>h.extBut c o (λx=>F.TO1 (x▸L)) (u.extBut c o (λx=>F.i21 (x▸L)) (P.extBut c o (λx=>F.TO1 (x▸L)) e));have r5:St2 (k+1) f:=t.frame _ _ _ r4 λc L o e=>h.extBut c o (λx=>F.TO2 (x▸L)) e;have M:z<f.objs.size:=jM D;change wpAny _ _ (yW (.ref z) (.ref f.objs.size)>>=_) _ _ _;exists 34;unfold yW;have i5:qF (f.push {cls:=.type "tuple",data:=.seq #[x,y]}) z TI TO .ellipsis:=jB _ D;show WX (YO (s:=⟨f.push {cls:=.type "tuple",data:=.seq #[x,y]},g,d,S,os⟩) i5 #[7] λC T V=>?_);replace T:qF C z TI TO (rawInt f.objs.size):=T;replace V:Yj z (f.push {cls:=.type "tuple",data:=.seq #[x,y]}) C:=V;show YO (s:=⟨C,g,d,S,os⟩) T #[7] λm j n=>?_;replace j:qF m z TI TO (rawInt f.objs.size):=j;replace n:Yj z C m:=n;have up:∀c o,c≠z->f.get? c=Z o->m.get? c=Z o:=λc o r e=>n.extBut _ _ r (V.extBut _ _ r (jB _ e));have R:qB m f.objs.size x y:=n.extBut _ _ (Jv M) (V.extBut _ _ (Jv M) (jJ _ rfl));rw[G]at j R;show YB ⟨_,U,?_⟩;change Q (.ref f.objs.size) _;rw[G];show hQ x y m S hx hy j (up _ _ F.TOz W) (N.frame _ _ _ q5 λc L o e=>up c o (λx=>F.z1 (x▸L)) e) (t.frame _ _ _ r5 λc L o e=>up c o (λx=>F.z2 (x▸L)) e) R λc o r B c3 c4 e=>up c o r (d5 c o r B c3 c4 e)
def agO{Q:PySem.Fin->qO->Prop}(N:Draws prog w A.in1 i1 fp1 n1 P1 St1)(F:T3 z TI TO i1 i2 fp1 fp2)(hz:qF s.heap z TI TO .none)(j:qB s.heap TI (.ref i1) (.ref i2))(T:St1 n1 s.heap)(u:∀h' e,(∀c o,c≠z->c≠TO->c≠i1->c≠i2->s.heap.get? c=Z o->h'.get? c=Z o)->(∃o,h'.get? e=Z o/\o.cls=.type "StopIteration")->E (.ref e) {s with heap:=h'}):
  wpAny #[8] A.in1 (Builtin.«zip.__next__» ⟨[.ref z],[]⟩) Q E s:=by
 let⟨D,g,d,b,os⟩:=s;change wpAny _ _ (field (.ref z) 2>>=_) _ _ _;show WX (Wj hz rfl (x:=.bool false) rfl ?_);change wpAny _ _ (field (.ref z) 3>>=_) _ _ _;show WX (Wj hz rfl (x:=.ref TI) rfl ?_);show WX (YL j rfl ?_);change wpAny _ _ (Yv (.ref z)>>=_) _ _ _;exists 34;unfold Yv;show WX (Wj hz rfl (x:=.none) rfl (YB ?_));simp only[if_true];show WX (YK ?_);show WX (Wj hz rfl (x:=.ref TO) rfl ?_);show WX (YO hz #[7] λO H J=>?_);replace H:qF O z TI TO .ellipsis:=H;replace J:Yj z D O:=J;exists 34;simp only[QO,QP,zR,ZC];show WX (WX (Wz ?_));change wpAny _ _ (Yo (.ref i1)>>=_) _ _ _;have i:St1 n1 O:=N.frame _ _ _ T λc L o e=>J.extBut c o (λx=>F.z1 (x▸L)) e;show WX (N.done _ _ _ i λl e K R=>?_);let⟨m,a,f⟩:=R;have h:qF l z TI TO .ellipsis:=K _ _ F.i1z.symm H;have k:e≠z:=λx=>by subst x;rw[h]at a;cases a;simp at f
 show YO (s:=⟨l,g,d,b,os⟩) h #[7] λp _ P=>u p e (λc o r _ n _ x=>Xq P _ _ r (K _ _ n (J.extBut _ _ r x))) ⟨m,Xq P _ _ k a,f⟩
end
def J7(u X:Qp)(xs ys:Array Value):
  Meets (Builtin.«zip.__new__» ⟨[.type "zip",.ref u,.ref X],[]⟩) (λ_ R s=>s.heap.IsTuple u xs/\s.heap.IsTuple X ys /\
   R (.ok (.ret (.ref (s.heap.objs.size+4)))) {s with heap:=((((s.heap.push {cls:=.type "tuple_iterator",data:=.fields #[.ref u,.int 0 0]}).push {cls:=.type "tuple_iterator",data:=.fields #[.ref X,.int 0 0]}).push {cls:=.type "tuple",data:=.seq #[.ref s.heap.objs.size,.ref #[16]]}).push {cls:=.type "tuple",data:=.seq #[.none,.none]}).push {cls:=.type "zip",data:=.fields #[.none,.bool false,.bool false,.ref #[132],.ref #[131]]} }):=
 .of_wp λprog w A R s h=>by
  let⟨D,g,d,tk,os⟩:=s;let⟨C,m,h⟩:=h;have p:=sub_zip;have x:XO (Shared.heap ⟨D,g,d,tk,os⟩) u xs:=C;have a:XO (Shared.heap ⟨D.push {cls:=.type "tuple_iterator",data:=.fields #[.ref u,.int 0 0]},g,d,tk,os⟩) X ys:=m.at λo e=>jB _ e
  wp_walk using YH x,YH a
  exists _,rfl;simp only[jn]at h ⊢;show h
section
def Inv.abT{t':Nat}(I:Inv X o3 σ H s)(k:∀b o,b∉ch->s.heap.get? b=Z o->h'.get? b=Z o)(a:∀b∈ch,tW X o3 H b)(C:∀b∈ch,∀o,s.heap.get? b=Z o->True):Inv X o3 σ H {s with heap:=h',toks:=t'}:=by
 have F:∀b u,H b=Z u->b∉ch:=λb u q z=>by have:=(a b z).1;rw[q]at this;cases this
 show I.step (g':=s.gens) (d':=s.drawn) (ch:=ch) (λb B=>?_) (λb o _ _ L q _=>k b o L q) (λb o _ _ L q _=>⟨o.slots,k b o L q⟩) (λ_ _ _ _ n=>n)
  (λb o L q=>⟨o,k b o L q⟩) (λ_ _ q=>q) (λ_ _ _ q=>q) (λb ps q=>⟨#[],by rw[q];simp⟩) (λm N=>?_) (λb u q=>?_) I.bare
 ·show⟨(a b B).2.2.2.1,(a b B).2.1,(a b B).2.2.2.2.1,(a b B).2.2.2.2.2⟩
 ·let⟨o,es,T,O,r⟩:=N;show⟨o,es,T,k _ o (λz=>(a _ z).2.1 rfl) O,r⟩
 ·show(I.hok b u q).Hj (λc v L z=>k c v ?_ z) (λ_ z=>z) λ_ _ z=>z;rcases L with z|z
  ·rw[z];show F b u q
  ·show F c _ z
end
def aci{u X:Qp}{xs:Array Value}(C:s.heap.IsTuple u xs)(m:s.heap.IsTuple X ys)(h:∀h',qF h' (s.heap.objs.size+4) #[132] #[131] .none->qB h' #[132] #[19] (.ref #[16])->
   qB h' #[131] .none .none->h'.IsTupleIter s.heap.objs.size u 0->h'.IsTupleIter #[16] X 0 ->
   (∀c o,s.heap.get? c=Z o->h'.get? c=Z o)->Q (.ref (s.heap.objs.size+4)) {s with heap:=h'}):
  wpAny #[8] A (call (.type "zip") [.ref u,.ref X]) Q E s:=by
 show callType_new F.called_zip #[9] (F.typeCall_zip_2 _ _) (F.newCall_zip_2 _ _) (λobj=>F.args_object_init_3 obj _ _) F.entry_zip_new
  (J7 u X xs ys) ⟨C,m,?_⟩
 let⟨G,T⟩:=gn (s.heap.push {cls:=.type "tuple_iterator",data:=.fields #[.ref u,.int 0 0]});let⟨M,g⟩:=gn (G.push {cls:=.type "tuple_iterator",data:=.fields #[.ref X,.int 0 0]});let⟨B,l⟩:=gn (M.push {cls:=.type "tuple",data:=.seq #[.ref s.heap.objs.size,.ref #[16]]});let⟨k,a⟩:=gn (B.push {cls:=.type "tuple",data:=.seq #[.none,.none]});let⟨b,i⟩:=gn (k.push {cls:=.type "zip",data:=.fields #[.none,.bool false,.bool false,.ref #[132],.ref #[131]]});have n:G.objs.size=s.heap.objs.size+1:=by rw[<-T];show jn ..
 have S:M.objs.size=s.heap.objs.size+2:=by rw[<-g,jn,n]
 have f:B.objs.size=s.heap.objs.size+3:=by rw[<-l,jn,S]
 have r:k.objs.size=s.heap.objs.size+4:=by rw[<-a,jn,f]
 have d:∀{c o},k.get? c=Z o->b.get? c=Z o:=λe=>by rw[<-i];show jB _ e
 have p:∀{c o},B.get? c=Z o->b.get? c=Z o:=λe=>d (by rw[<-a];show jB _ e);have q:∀{c o},M.get? c=Z o->b.get? c=Z o:=λe=>p (by rw[<-l];show jB _ e);have N:∀{c o},G.get? c=Z o->b.get? c=Z o:=λe=>q (by rw[<-g];show jB _ e);have z:qF b (s.heap.objs.size+4) #[132] #[131] .none:=by rw[<-r,<-i];show jJ _ rfl
 have j:qB b #[131] .none .none:=d (by rw[<-f,<-a];show jJ _ rfl);have V:qB b #[132] #[19] (.ref #[16]):=p (by rw[<-S,<-l];show jJ _ rfl);have D:b.IsTupleIter #[16] X 0:=⟨_,q (by rw[<-n,<-g];show jJ _ rfl),rfl,rfl⟩;have v:b.IsTupleIter s.heap.objs.size u 0:=⟨_,N (by rw[<-T];show jJ _ rfl),rfl,rfl⟩;change _/\_;rw[T,g,l,a,i];show⟨⟨_,z,U⟩,h _ z V j v D λc o x=>N (by rw[<-T];show jB _ x)⟩
def Itz(K:Yc)(a b:Qp):It:=
 ⟨λi H=>∃xs ys x y,iu K H a xs/\iu K H b ys/\xs[i]?=Z x/\ys[i]?=Z y,
  λi H v H'=>∃T x y,v=.ref T/\H T=Y/\H'=upd H T (.tup [x,y])/\(∀xs,iu K H a xs->xs[i]?=Z x)/\∀ys,iu K H b ys->ys[i]?=Z y,
  λi H=>∃xs,iu K H a xs/\xs.length=i⟩
section
def aoK(K:Yc)(tl:TA):TI:=λσ H R=>tl σ H λvs H1=>∃a b,vs=[.ref a,.ref b]/\(∃xs,iu K H1 a xs)/\(∃ys,iu K H1 b ys)/\R (Itz K a b) H1
def akj:qV "zip" = Z (.type "zip"):=by decide +kernel
end
def ael{b:Qp}{ys:List V}{g:TG}(M:xs.length=ys.length)(f:Nat->St->Hp->Prop)(X:f 0 σ H)(C:∀i σ H,i<=xs.length->f i σ H->iu K H a xs/\iu K H b ys)(hs:∀i x y σ H T,xs[i]?=Z x->ys[i]?=Z y->f i σ H->H T=Y->g #[158] σ (upd H T (.tup [x,y])) λc J=>tb {D with nx:=f (i+1),ct:=f (i+1),bk:=D.nx} c J)(j:∀σ H,f xs.length σ H->D.nx σ H):
  ∃W:Nat->Nat->St->Hp->Prop,#[104]/\∀i m σ H,W i m σ H ->
   ((Itz K a b).stop i H/\D.nx σ H)\/((Itz K a b).go i H/\∃N:St->Hp->Prop,#[20]/\∀x H',(Itz K a b).yld i H x H'->g x σ H' λc J=>tb {D with nx:=N,ct:=N,bk:=D.nx} c J):=by
 exists 3;rintro i m σ H ⟨rfl,h,p⟩;have q:=C i σ H h p;exists 23
 ·show .inr ⟨⟨xs,ys,xs[i],ys[i]'#[1],q.1,q.2,by simp[d],by rw[jC #[1]]⟩,f (i+1),λO H' n=>⟨xs.length-(i+1),by lia,U,d,n⟩,λx H' y=>?_⟩;let⟨T,u,k,rfl,r,rfl,l,o⟩:=y;show hs i u k σ _ T (l xs q.1) (o ys q.2) p r
 ·exists 14;subst e;show .inl ⟨⟨xs,q.1,U⟩,j σ H p⟩
section
def agI(r:Vals #[47] us):∀(j:Nat) (u:Value),us[j]?=Z u->∃n t,ns[j]?=Z n/\u=Yl n t:=by intro j u C;have f:j<us.length:=(jk.mp C).1;have a:=r.length;rw[jW]at a;let⟨v,N,F⟩:=r.get (i:=j) (x:=V.int (ns[j]'#[1])) (by rw[jR,jC #[1]];rfl);rw[C]at N;cases N;let⟨t,rfl⟩:=(show ∃t,u=Yl _ t from F);show⟨_,t,jC #[1],U⟩
end
theorem anJ:agZ K (mC K) Heap.IsListIter GU where
 val:=λe I q=>by subst e;let⟨J,F,p,_⟩:=I.list q;show⟨J,F,p.isList⟩
 inj:=λe I q D=>by subst e;show I.J4 q D
 obj:=λ⟨o,e,c,d⟩=>⟨o,_,e,c,by decide,λv z=>by rw[d]at z;cases z⟩
 src:=λ⟨o,e,c,_⟩=>⟨o,_,e,c,by decide⟩
 ne:=λ⟨o,e,c,_⟩ ⟨m,E,P,_⟩ z=>by rw[z,E]at e;cases e;rw[P]at c;show absurd (yY c) #[9]
 at_:=λx k=>x.at k
 draws:=Draws.list
 fin:=wpAny_nextOf_list_end
 call:=call_enumerate_list
def adR(K:Yc):Qp->It:=Tz (mC K)
section
def akW(K:Yc)(tl:TA):TI:=λσ H R=>tl σ H λvs H1=>∃a,vs=[.ref a]/\(∃xs,mC K H1 a xs)/\R (adR K a) H1
def K9{i:_}(m:Gl X "enumerate")(N:X.mg "enumerate" = Y)(C:PA X [l] tl)(hs:WE [l] X.env=[(false,eval l X.env)]:=by rfl):
  PI X (.Tuple elts i PL) (.Call (.Name "enumerate" p) [l] [] pos) (akW X.K tl):=So anJ m N C hs
end
def MM{g:TG}(f:Nat->St->Hp->Prop)(X:f 0 σ H)(C:∀i σ H,i<=xs.length->f i σ H->mC K H a xs)(hs:∀i x σ H T,xs[i]?=Z x->f i σ H->H T=Y->g #[158] σ (upd H T #[100]) λc J=>tb {D with nx:=f (i+1),ct:=f (i+1),bk:=D.nx} c J)(j:∀σ H,f xs.length σ H->D.nx σ H):
  ∃W:Nat->Nat->St->Hp->Prop,#[104]/\∀i m σ H,W i m σ H ->
   ((adR K a).stop i H/\D.nx σ H)\/((adR K a).go i H/\∃N:St->Hp->Prop,#[20]/\∀x H',(adR K a).yld i H x H'->g x σ H' λc J=>tb {D with nx:=N,ct:=N,bk:=D.nx} c J):=ML f X C hs j
def SG{t u a b:Option V}:((((B.set 0 t).set 1 u).set 0 a).set 1 b)=(B.set 0 a).set 1 b:=by rw[List.set_comm u a (l:=B.set 0 t) (by decide:(1:Nat)≠0),Jy,Jy]
def U5{J:It}{item:Nat->V}{g:TG}(f:Qp->Nat->List V->Hp->Prop)(b:∀(T:Qp) (σ:St) (H:Hp) (Q:St->Hp->Prop) (i:Int) (x:V),H T=Z #[100]->Q ((σ.set 0 (Z (.int i))).set 1 (Z x)) H->g #[158] σ H Q)(X:∀D,H D=Y->f D 0 [] #[53])(c:∀D i ys H',i<n->f D i ys H'->J.go i H'/\∀x a,J.yld i H' x a->∃T,x=.ref T/\H' T=Y/\a=upd H' T (.tup [.int i,item i]))(M:∀D ys H',f D n ys H'->J.stop n H')(hs:∀D i ys H' T (l:VK),H D=Y->i<n->H' D=Z #[72]->f D i ys H'->H' T=Y->#[6] ->
   te ((#[71].set 0 (Z (.int i))).set 1 (Z (item i))) (upd H' T (.tup [.int i,item i])) l)(j:∀D ys H',H D=Y->H' D=Z #[72]->f D n ys H'->Qd D H'):CU J ix g te σ H Qd:=by
 intro D B;show⟨λi m O H'=>m=n-i/\i<=n/\(O=aU ix σ\/∃t u,O=(#[71].set 0 t).set 1 u)/\∃ys,H' D=Z #[72]/\f D i ys H',⟨n,by simp,jb _,.inl rfl,[],ae,X D B⟩,?_⟩;exists 12;by_cases d:i<n
 ·let⟨v,h⟩:=c D i ys H' d p;show .inr ⟨v,λx a y=>?_⟩;let⟨T,rfl,r,rfl⟩:=h x a y;show b T O _ _ i (item i) ae ?_;have es:((O.set 0 (Z (V.int i))).set 1 (Z (item i)))=(#[71].set 0 (Z (V.int i))).set 1 (Z (item i)):=by
   rcases A with z|⟨t,u,z⟩
   ·rw[z]
   ·rw[z,SG]
  change te ((O.set 0 (Z (V.int i))).set 1 (Z (item i))) _ _;rw[es];show hs D i ys _ T _ B d G p r λy R k S o=>⟨ys,k,S,n-(i+1),by lia,U,d,.inr ⟨_,_,U⟩,ys++[y],ae,o⟩
 ·have e:i=n:=by lia
  subst e;show .inl ⟨M D ys H' p,j D ys H' B G p⟩
def aa9{k:Key}(h:FK k v=true):RelV (kV k) v:=by
 rcases cH h with⟨n,t,rfl,rfl⟩|⟨x,t,rfl,rfl⟩
 ·show⟨t,U⟩
 ·show⟨t,U⟩
section
abbrev C0(v d:Qp):HO:=.ext λh=>h.IsItemsView v d
inductive alE (x:V) (vs:List V) (H:Hp) (Q:VK):Prop|mk (d:_) (kvs:_) (_:x=.ref d) (_:vs=[]) (_:H d=Z #[58]) (_:∀v,H v=Y->Q (.ref v) (upd H v (C0 v d)))
def ae1:MtM X "dict.items" alE:=by intro o3 s σ H x n v us Q I D a h;let⟨d,B,rfl,rfl,j,q⟩:=h;cases D;have f:=a.zero;subst f;let⟨z,lo,n,i,c⟩:=(show bN X.prog X.w H s.heap d (.dK B)from I.hok d _ j);show qY XU c.typeIs PySem.F.entry_dict_items (PySem.F.args_dict_items_1 _) (meets_dict_items #[168] d lo) ⟨⟨n,c⟩,?_⟩;show⟨.ref _,_,I.laid (o:=C0 s.heap.objs.size d) (t':=s.toks) (λb o e=>jB _ e) (jE _) ?_,U,q _ #[43]⟩;show⟨⟨_,jJ _ rfl,U,U⟩,⟨_,jJ _ rfl⟩,λG M ⟨o,O,x⟩ g=>⟨o,g o O,x⟩⟩
def PH(ns:List Int):Int:=ns.foldl (·+·) 0
theorem DG(ns:List Int):∀n,n<=ns.length->preSum (λi=>ns.getD i 0) n=(ns.take n).foldl (·+·) 0
 |0,_=>rfl
 |n+1,h=>by have L:n<ns.length:=h;change preSum _ n+ns.getD n 0=_;rw[DG ns n (JS L),jS,jC L,JC];simp[L]
end
end L2
namespace PySem
open PyProof.Rows
namespace F
end F
end PySem
namespace L2
open PySem PySem.Spec PyProof.Rows
variable{X:Cx}{o:Expr}{es:List Expr}{pos:Pos}{n:Nat}{m:Str}{C:Qp}{sp:Sp}{ta:TE}{prog:qL}{w:World}{A:Around}{s:qO}{D:Ends}{σ:St}{H:Hp}
section
def abl(K:Yc){k:Nat}{t:TGs}(L:X.calm=true)(h:PGs X es t)(g:X.K=K:=by rfl)(a:(qS es X.env).length=n:=by rfl)(M:(qS es X.env).findIdx? (·.1)=Y:=by rfl):PG X (.Tuple es k pos) (akt K n t):=by subst g;show EX L h a M
def K7{j k:Nat}{ps:List Str}{a:Pos}{pl:qM Bool}(G:bP X.prog X.w X.K X.mg X.base C m k ps sp)(S:eJ j X.A)(O:PE X o ta)(hkj:k<=j:=by decide)(p:eval (.Call (.Attribute o m a) [] [] pos) X.env=(do
   let L <-eval o X.env
   standAt a.atName
   let (f,first) <-holding [L] (getMethod L m pl)
   callWith pos f first (backTo pos (WE [] X.env)) (backToKw pos #[106])):=by rfl):
  PE X (.Call (.Attribute o m a) [] [] pos) (abR C m sp [] E0 ta agC):=by
 let⟨f,b,N,B,F⟩:=G.ex;show afI O G.cl N F (S.mono hkj) B .nil afD p
inductive apr (K:Yc) (xs:List V) (H:Hp) (Q:VK):Prop|mk (a:Qp) (ns:List Int) (_:xs=[.ref a]) (_:mC K H a #[47]) (_:Q (.int (PH ns)) H)
def MG(L:X.calm=true):iQ X (.builtin "sum") (apr X.K):=by
 intro k s σ H y C Q I r h;let⟨a,l,rfl,g,q⟩:=h;let⟨u,rfl,N⟩:=r.one;cases(show u=Yd a from N);let⟨J,F,f,S⟩:=I.list g;have p:s.heap.IsList a J.toArray:=f.isList;exists 33;rw[jW]at M;have d:a<s.heap.objs.size:=by let⟨_,e,_⟩:=p;show jM e
 show call_sum_walkG (YE p ?_);have W:=Walks.list (prog:=X.prog) (w:=X.w) (A:=X.A.in1) #[117] s.heap.objs.size a (jU d) J.toArray;show⟨_,_,_,_,_,_,λi=>l.getD i 0,U,W,⟨⟨_,jJ _ rfl,U,U⟩,p.at λo e=>jB _ e⟩,λb B=>?_,λi v c=>?_,λO tk j R=>?_⟩
 ·rcases jL.mp B with z|z
  ·rw[z];change _<(Qm _ _).objs.size;rw[jn];show JP _
  ·rw[jI.mp z];change _<(Qm _ _).objs.size;rw[jn];show Js d
 ·have E:J[i]?=Z v:=by simpa using c
  let⟨n,t,T,m⟩:=agI F i v E;show⟨t,by rw[m];change Yl n t=Yl (l.getD i 0) t;rw[jQ,T];rfl⟩
 ·have P:Inv X k σ H {s with heap:=O,toks:=tk}:=I.kept (t':=tk) λb o e=>R b o (λx=>by rw[jI.mp x]at e;show JZ _ (jM e)) (jB _ e)
  show⟨.int (PH l),H,P,⟨j,?_⟩,q⟩;change Yl _ _=Yl _ _;rw[jP,<-M,DG l _ (jE _),jV];rfl
end
def cg{t u:TS}(R:St->Hp->Prop)(G:∀O H',R O H'->u D O H')(M:∀p:Ends,(∀O H',R O H'->p.nx O H')->t p σ H):aai t u D σ H:=
 M {D with nx:=u D} G
inductive Rp (xs:List V) (H:Hp) (Q:VK):Prop|mk (a:_) (kvs:_) (_:xs=[.ref a]) (_:H a=Z #[58]) (_:Q (.int kvs.length) H)
def Bu:iQ X #[159] (Rp):=by intro k s σ H b m Q I r h;let⟨a,B,rfl,W,q⟩:=h;exists 21;cases D;show anB I (.inl W) λt p K=>⟨.int B.length,H,K,⟨t,U⟩,q⟩
def Me(l b:Qp)(a e:Array Value)(n T:Nat)(f:Option Qp)(V:Array (Option Value))(X:¬(!a.isEmpty&&yB (a.size+e.size))=true)(G:a.size<=sizeLine)(M:a.size+e.size<=sizeLine+1):
  Meets (Builtin.«list.extend» ⟨[.ref l,.ref b],[]⟩) (λ_ R s=>s.heap.get? l=Z {cls:=.type "list",dict:=Y,data:=.seq a n,slots:=#[]}/\s.heap.get? b=Z {cls:=.type "tuple",dict:=f,data:=.seq e T,slots:=V}/\R (.ok (.ret Yq)) {s with heap:=s.heap.update l (Obj.mapSeq (·++e))}):=
 .of_wp λprog w A R s h=>by
  let⟨D,g,d,tk,os⟩:=s;let⟨C,B,h⟩:=h;have i:=AutoSeq1.idx_int;have Q:=AutoSeq1.sub_tuple_tuple;have q:=AutoSeq1.sub_list_list;have S:=AutoSeq1.sub_tuple_list;have j:=AutoSeq1.sub_list_tuple;have c:(a++e).size<=sizeLine+1:=by rw[Array.size_append];show M
  wp_walk using (Ya C rfl (hz:=G) (_hz':=c)),wpAny_loadPart' C,wpAny_loadPart' B
  show⟨_,U,h⟩
section
inductive Sx (x:V) (vs:List V) (H:Hp) (Q:VK):Prop|mk (l:_) (b:_) (xs:_) (zs:_) (_:x=.ref l) (_:vs=[.ref b]) (_:H l=Z #[133]) (_:H b=Z (.tup zs)) (_:xs.length+zs.length<=sizeLine) (_:Q .non (upd H l (.lst (xs++zs))))
def Cz:MtM X "list.extend" Sx:=by
 intro t s σ H x w v y Q I D F h;let⟨l,b,C,E,rfl,rfl,a,o,S,q⟩:=h;cases D;let⟨u,rfl,N⟩:=F.one;cases N;let⟨z,J,n,r,L,e⟩:=I.J6 a;let⟨A,i,p,f⟩:=I.tuple (iu.of (K:=X.K) o);have m:=i.length;let⟨⟨c,g,M,V⟩,j,B,T,k⟩:=p;cases B;cases k;have G:J.toArray.size+A.toArray.size<=sizeLine:=by rw[jP,jP];lia
 have d:¬ (!J.toArray.isEmpty&&yB (J.toArray.size+A.toArray.size))=true:=by rw[Sa G,Zi];show jZ
 show qX Xy ⟨_,e,U⟩ Xo (Xi _ _)
  (Me l b J.toArray A.toArray n T g V d (by rw[jP];lia) #[1]) ⟨e,j,?_⟩
 show⟨.non,_,I.ahT (its':=J++A) a e #[7] (r.append i) ?_,U,q⟩;rw[jH];lia
def af2:V->List V->Hp->VK->Prop:=λx vs H Q=>abr x vs H Q\/Sx x vs H Q
def K2:MtM X "list.extend" af2:=by
 intro k s σ H x n v m Q I D F h;rcases h with h|h
 ·show ac2 k s σ H x n v m Q I D F h
 ·show Cz k s σ H x n v m Q I D F h
end
end L2
namespace PySem
open PyProof.Rows
variable{prog:qL}{w:World}{A:Around}{E Q:Value->qO->Prop}{s:qO}{a x l:Qp}{xs:Array Value}{sl:Array (Option Value)}{K α:Type}{R:Result->qO->Prop}{o:Obj}{ts:List Qp}{c:Nat}
def J0:typeLookup (.type "list") "keys" = pure Y:=by rw[WO,qW];kernel_rfl
def IZ{k:Nat}{Q:Option Value->qO->Prop}(J:s.heap.get? a=Z {cls:=.type "list",dict:=Y,data:=.seq xs k,slots:=sl})(f:A.handled=Y)(h:∀h' tk,#[45]->Q Y {s with heap:=h',toks:=tk}):wpAny #[8] A (getAttr? #[44] "keys") Q E s:=by
 let⟨D,g,d,tk,os⟩:=s;have r:∀m,(⟨D,g,d,m,os⟩:qO).TypeIs #[44] "list" :=λ_=>⟨_,J,rfl⟩;have i:=sub_AttributeError;have q:=F.slot_list_getattribute.lookup;have S:=F.slot_list_getattribute.bind #[44];have G:=am_list_getattr_none;have c:=J0;have O:(["__module__","__name__","__qualname__","__doc__","__annotations__"]:List Str).contains (Str.ofString "keys")=false:=by decide +kernel
 unfold getAttr? getAttrBy? getAttrBy
 repeat (any_goals (first|assumption|show r _|((with_reducible change wpAny _ _ (call (xb "list.__getattribute__") _ _) _ _ _);show qX F.slot_list_getattribute (r _) am_entry_list_getattribute (F.args_list_getattribute_2 _ _) (meets_getattribute_miss_list a xs k sl (Str.ofString "keys") _ c O #[9]) ⟨J,f,λh' m e R=>?_⟩)|wp_step))
 let⟨W,j,l⟩:=R.there;change wpAny _ _ (getattributeRaised _ _ _ _ _ _ _) _ _ _;unfold getattributeRaised
 repeat (any_goals (first|assumption|wp_step))
 show h h' m R.keeps
section
variable[DecidableEq K]{knd:KeyKind prog w K}
def rQ:entryFor table "dict.update.loop" = Z Builtin.«dict.update.loop»:=qj #[147]
def fK:plainId "dict.update.loop" = true:=by decide +kernel
def P9(knd:KeyKind prog w K)(h:Heap)(ts:List Qp)(ps:List (K×Value)):Prop:=∀(j:Nat) (t:Qp) (p:K×Value),ts[j]?=Z t->ps[j]?=Z p->∃key,knd.is p.1 key=true/\qD h t #[key,p.2]
def HZ(h h':Heap):Prop:=∀b o,h.get? b=Z o->o.cls=.type "tuple" -> h'.get? b=Z o
def HZ.but{h h':Heap}(e:h.get? x=Z o)(c:o.cls≠.type "tuple")(k:∀b o,b≠x->h.get? b=Z o->h'.get? b=Z o):HZ h h':=λb m E P=>k b m (λz=>by rw[z,e]at E;cases E;show c P) E
structure anr(prog:qL)(w:World)(A:Around)(D:Qp)(val:α->Value)(put:List α->α->List α)(Ds:Heap->List α->Prop)(Ky:Heap->α->Value->Prop):Prop where
 ds:∀{h h':Heap} {j4:List α},Ds h j4->(∀o,h.get? D=Z o->h'.get? D=Z o)->HZ h h'->Ds h' j4
 ty:∀{h:Heap} {j4:List α},Ds h j4->∃o,h.get? D=Z o/\o.cls=.type "dict"
 ky:∀{h h':Heap} {p:α} {k:Value},Ky h p k->HZ h h'->Ky h' p k
 set:∀{s:qO} {j4:List α} {p:α} {k:Value} {Q:Unit->qO->Prop} {E:Value->qO->Prop},Ky s.heap p k->Ds s.heap j4->j4.length<sizeLine->(∀h' tk,Ds h' (put j4 p)->(∀b o,b≠D->s.heap.get? b=Z o->h'.get? b=Z o)->Q () {s with heap:=h',toks:=tk})->wpAny #[8] A (dictSet D k (val p)) Q E s
 len:∀j4 p,(put j4 p).length<=j4.length+1
section
variable{D I:Qp}{val:α->Value}{put:List α->α->List α}{Ds:Heap->List α->Prop}{Ky:Heap->α->Value->Prop}{ps:List α}
theorem PM(e:anr prog w A.in1 D val put Ds Ky)(W:Walks prog w A.in1 I [I,l] [I] ts.length (λi v=>#[172].toArray[i]?=Z v) (λi h=>h.IsListIter I l i/\h.IsList l #[172].toArray))(hl:ts.length=ps.length)(n:D≠I)(g:D≠l)(u:∀t∈ts,t≠D/\t≠I)(hz:ps.length<=sizeLine):
  ∀(k i:Nat) (s:qO) (P:List α),ts.length-i=k->i<=ts.length->(s.heap.IsListIter I l i/\s.heap.IsList l #[172].toArray)->Ds s.heap P->P.length<=i->(∀(j:Nat) (t:Qp) (p:α),ts[j]?=Z t->ps[j]?=Z p->∃J,Ky s.heap p J/\qD s.heap t #[J,val p])->
  (∀h' tk,(∀b o,b≠D->b≠I->s.heap.get? b=Z o->h'.get? b=Z o)->Ds h' ((ps.drop i).foldl put P)->R (.ok (.ret .none)) {s with heap:=h',toks:=tk})->
  codeAny #[8] A (.builtin "dict.update.loop" ⟨[.ref D,.ref I,rawInt (i:Int),.none],[]⟩) R s:=by
 intro k;have H:∀{h h':Heap} {i:Nat},h.IsListIter I l i->(∀b o,b≠I->h.get? b=Z o->h'.get? b=Z o)->HZ h h':=λx kp=>by let⟨o,ho,hc,_⟩:=x;show HZ.but ho (by rw[hc];intro z;show absurd (yY z) #[9]) kp
 induction k with
 |zero=>
  intro i s P hk hi M m Ct y F;have D7:i=ts.length:=by lia
  subst D7;show qZ rQ ?_;rw[Around.under_plainId fK _];change wpAny _ A.in1 (pyNext (.ref I)>>=_) _ _ s;show WX (W.done s _ _ M λh' tk N=>?_);change wpAny _ _ (GL D []>>=_) _ _ _;show WX (Wy (a:=()) rfl ?_);have keep:∀b o,b≠I->s.heap.get? b=Z o->h'.get? b=Z o:=λb o B q=>N b o (by simpa using B) q;show YB (F h' tk (λb o _ B q=>keep b o B q) ?_);rw[hl,ZV];show e.ds m (λo q=>keep D o n q) (H M.1 keep)
 |succ k ih=>
  intro i s P hk hi M m Ct y F;have d:i<ts.length:=by lia
  have c:i<ps.length:=by lia
  show qZ rQ ?_;rw[Around.under_plainId fK _];change wpAny _ A.in1 (pyNext (.ref I)>>=_) _ _ s;show WX (W.item i s _ _ d M λv h' tk hv O6 N=>?_);have ev:v=.ref ts[i]:=by
   have:#[172].toArray[i]?=Z (.ref ts[i]):=by simp[d]
   rw[this]at hv;show(Option.some.inj hv).symm
  subst ev;have keep:∀b o,b≠I->s.heap.get? b=Z o->h'.get? b=Z o:=λb o B q=>N b o (by simpa using B) q;have E:=H M.1 keep;let⟨J,r,ht⟩:=y i ts[i] ps[i] (jC d) (jC c);have tn:=u ts[i] (jO d);have f:qD h' ts[i] #[J,val ps[i]]:=ht.extBut (b:=I) keep tn.2;have C:=e.ds m (λo q=>keep D o n q) E;let⟨ot,G,j5,nt,Q⟩:=id f
  try dsimp only
  show WX (Wn ?_);show WX (YW ?_);unfold GV;show WX (YZ (s:={s with heap:=h',toks:=tk}) f.typeIs ?_);rw[if_pos #[9]];show WX (YL (s:={s with heap:=h',toks:=tk}) G Q ?_);show YB ?_;change wpAny _ _ (holding [J,val ps[i]] (dictSet D J (val ps[i]))) _ _ _;show Wn (e.set (s:={s with heap:=h',toks:=tk}) (e.ky r E) C #[1] (λh2 S T O=>?_));show YB ⟨qy fK _,?_⟩;have ri:rawInt ((i:Int)+1)=rawInt (((i+1:Nat)):Int):=by push_cast;rfl
  rw[ri];let⟨od,PV,K⟩:=e.ty C;show ih (i+1) {s with heap:=h2,toks:=S} (put P ps[i]) #[1] d ⟨O6.1.at λo q=>O I o (Ne.symm n) q,O6.2.at λo q=>O l o (Ne.symm g) q⟩ T (by have:=e.len P ps[i];lia) (λj t p h1 G6=>?_) (λh3 V y4 LS=>?_)
  ·let⟨d5,Hs,i5⟩:=y j t p h1 G6;have X:=u t (JT h1);show⟨d5,e.ky (e.ky Hs E) (HZ.but PV (by rw[K];intro z;show absurd (yY z) #[9]) O),(i5.extBut (b:=I) keep X.2).extBut (b:=D) O X.1⟩
  ·show F h3 V (λb o B L q=>y4 b o B L (O b o B (keep b o L q))) ?_;rw[JB c];show LS
def Fx(e:anr prog w A.in1.in1 s.heap.objs.size val put Ds Ky)(f:A.handled=Y)(u:s.heap.get? l=Z {cls:=.type "list",dict:=Y,data:=.seq #[172].toArray c,slots:=#[]})(C:ts.length=ps.length)(y:∀(j:Nat) (t:Qp) (p:α),ts[j]?=Z t->ps[j]?=Z p->∃J,Ky s.heap p J/\qD s.heap t #[J,val p])(hz:ps.length<=sizeLine)(v:Ds (s.heap.push {cls:=.type "dict",data:=.dict #[]}) [])(H:∀h' tk,#[45]->Ds h' (ps.foldl put [])->Q #[19] {s with heap:=h',toks:=tk}):
  wpAny #[8] A (call #[163] [.ref l]) Q E s:=by
 show callType_codes (Q₁:=λobj K=>obj=.ref s.heap.objs.size/\K={s with heap:=s.heap.push {cls:=.type "dict",data:=.dict #[]} }) F.kt_called_dict (F.kt_typeCall_dict_1 _) F.entry_dict_init (kt_code_dict_new _ ⟨rfl,rfl⟩) ?_;rintro obj K ⟨rfl,rfl⟩;have h:({s with heap:=s.heap.push {cls:=.type "dict",data:=.dict #[]} }:qO).TypeIs #[19] "dict" :=⟨_,jJ s.heap rfl,rfl⟩;have n:l<s.heap.objs.size:=jM u;have a:(s.heap.push {cls:=.type "dict",data:=.dict #[]}).get? l=Z {cls:=.type "list",dict:=Y,data:=.seq #[172].toArray c,slots:=#[]}:=jB _ u;exists h,F.args_dict_init_2 _ _;unfold Builtin.«dict.__init__»;exists 34;unfold GN;show WX (Wx h ?_);change wpAny _ _ (pure (s.heap.objs.size,[Yd l])) _ _ _;show YB ?_;change wpAny _ _ (XW "dict.__init__" s.heap.objs.size #[102] [] .none) _ _ _;unfold XW;show WX (YZ (T:="list") ⟨_,a,rfl⟩ ?_);rw[if_pos #[9]];show WX (IZ a f λG I g=>?_);rw[if_pos #[31]];show WX (YK ?_);have x:=g _ _ a;have r:GU G l #[172].toArray:=⟨_,x,rfl,c,rfl⟩;show WX (YE (s:={s with heap:=G,toks:=I}) r ?_);show YB ⟨qy fK _,?_⟩;have z:(G.push {cls:=.type "list_iterator",data:=.fields #[.ref l,.int 0 0]}).get? G.objs.size=Z {cls:=.type "list_iterator",data:=.fields #[.ref l,.int 0 0]}:=jJ _ rfl;have B:l<G.objs.size:=jM x;have i:s.heap.objs.size<G.objs.size:=jM (g _ _ (jJ s.heap rfl));have W:=Walks.list (prog:=prog) (w:=w) (A:=A.in1.in1) f G.objs.size l (jU B) #[172].toArray;have sz:#[172].toArray.size=ts.length:=by simp
 rw[sz]at W;have N:∀b o,s.heap.get? b=Z o->(G.push {cls:=.type "list_iterator",data:=.fields #[.ref l,.int 0 0]}).get? b=Z o:=λb o q=>jB _ (g _ _ (jB _ q));show PM (A:=A.in1) (ps:=ps) e W C (jU i) (Jv n) (λt d=>?_) hz ts.length 0 {s with heap:=G.push {cls:=.type "list_iterator",data:=.fields #[.ref l,.int 0 0]},toks:=I} [] rfl (jb _) ⟨⟨_,z,rfl,rfl⟩,r.at λo q=>jB _ q⟩ ?_ (jb _) (λj t p L D=>?_) (λM V m O=>?_)
 ·let⟨j,k⟩:=JJ.mp d;have R:j<ps.length:=by rw[<-C];show(jk.mp k).1
  let⟨J,_,o,S,_⟩:=y j t ps[j] k (jC R);have P:=jM S;show⟨jU P,jU (zT P i)⟩
 ·show e.ds v (λo q=>jB _ (g _ _ q)) λb o q _=>jB _ (g _ _ q)
 ·let⟨J,X,d⟩:=y j t p L D;show⟨J,e.ky X λb o q _=>N b o q,d.keeps N⟩
 ·show⟨U,H M V (λb o q=>m b o (jU (jM q)) (jU (zT (jM q) i)) (N b o q)) O⟩
end
def G0{ps:List (K×Value)}(f:A.handled=Y)(u:s.heap.get? l=Z {cls:=.type "list",dict:=Y,data:=.seq #[172].toArray c,slots:=#[]})(C:ts.length=ps.length)(y:P9 knd s.heap ts ps)(hz:ps.length<=sizeLine)(H:∀h' tk,#[45]->h'.DictOf knd s.heap.objs.size (merged [] ps)->Q #[19] {s with heap:=h',toks:=tk}):
  wpAny #[8] A (call #[163] [.ref l]) Q E s:=
 Fx (α:=K×Value) (Ds:=λh P=>h.DictOf knd s.heap.objs.size P) (Ky:=λ_ p k=>knd.is p.1 k=true) (val:=λp:K×Value=>p.2) (put:=λP p=>stored P p.1 p.2)
  ⟨λ{h h' P} x B _=>by
   let⟨o,r⟩:=x;show⟨o,r.imp λ_ r=>r.imp λ_ r=>⟨B _ r.1,r.2⟩⟩,λ{h P} x=>by
   let⟨o,_,_,G,M,_⟩:=x;show⟨o,G,M.1⟩,λx _=>x,λR B hz k=>Wf (knd:=knd) R B (λM T d=>k M _ T λb o a q=>d.extBut b o a q) (JS hz),λP p=>stored_length_le P p.1 p.2⟩ f u C y hz (xR s.heap) H
end
end PySem
namespace L2
open PySem PySem.Spec PyProof.Rows
variable{X:Cx}{P:qL}{w:World}{o3:List (Qp×Obj)}{σ:St}{H:Hp}{s:qO}{a I:Qp}{z:V}{A:Around}{E Q Q₁:Value->qO->Prop}{kvs:List (Key×V)}{o:Obj}{h:Int}{K:Yc}{tg l:Expr}{tl:TE}{elts:List Expr}{pos PL:Pos}{tb:TS}{D:Ends}{i j n:Nat}{α:Type}{t:qN}{b:Bool}{R:Result->qO->Prop}
section
def mB(H:Hp):List Qp->List #[157]->Prop:=qI λa p=>H a=Z #[145]
theorem K1:∀{kvs:List #[157]} {d:List Qp} {H:Hp} {h:Heap},mB H d kvs->pX P w H h->∃ps:List (Key×Value),KV kvs ps/\ps.length=d.length/\P9 (bL P w) h d ps
 |[],[],_,_,.nil,_=>⟨[],.nil,rfl,λj t p h=>by simp at h⟩
 |_,_,_,_,.cons (a:=a) (b:=p) (l₁:=d) (l₂:=kvs) q t,ok=>by
  let⟨ps,f,i,c⟩:=K1 t ok;let⟨z,J,F,e⟩:=ok a _ q;let⟨u,v,rfl,N,x⟩:=Vals.two F;show⟨(p.1,v)::ps,.cons ⟨U,x⟩ f,by simp[i],λj W n G M=>?_⟩;cases j with
  |zero=>
   simp at G M;subst G M;show⟨u,B5 N,by simpa using e⟩
  |succ j=>show c j W n (by simpa using G) #[155]
inductive aiA (xs:List V) (H:Hp) (Q:VK):Prop|mk (l:_) (ts:_) (kvs:_) (_:xs=[.ref l]) (_:H l=Z (.lst (ts.map V.ref))) (_:mB H ts kvs) (_:∀D,H D=Y->Q #[103] (upd H D (.dK (dw [] kvs))))
theorem BP:∀{d:List Qp} {us:List Value},Vals (d.map V.ref) us->us=d.map Yd
 |[],_,.nil=>rfl
 |t::d,_,.cons r q=>by cases r;rw[jt,BP q]
def AB(L:X.calm=true):iQ X #[163] aiA:=by
 intro o3 s σ H d m Q I r h;let⟨l,g,kvs,rfl,C,D,q⟩:=h;let⟨u,rfl,a⟩:=vals1 r;cases a;let⟨z,J,n,F,j,e⟩:=I.J6 C;have y:=BP F;subst y;let⟨ps,f,i,b⟩:=K1 D I.hok;have M:kvs.length=ps.length:=Paired.length f;have V:ps.length<=sizeLine:=by rw[i];rw[jW]at z;show z
 show G0 (knd:=bL X.prog X.w) #[117] e i.symm b V λO tk c dd=>?_;have t:bN X.prog X.w (upd H s.heap.objs.size (.dK (dw [] kvs))) O s.heap.objs.size (.dK (dw [] kvs)):=by show IH ?_ (beq_eq_false_iff_ne.mpr (Ne.symm (jU I.big))) (KV.merge f .nil) dd;have:=sx kvs [];simp only[Jq]at this;lia
 show⟨.ref _,_,I.laid (t':=tk) c (jE _) t,U,q _ #[43]⟩
end
section
variable{u r:Value}{k:Key}
def OX(I:Inv X o3 σ H s)(e:H a=Z #[58])(hz:kvs.length<sizeLine)(c:RelV (kV k) u)(q:RelV z r)(G:∀v K p,cG kvs k=Z v->Inv X o3 σ H p->RelV v K->Q K p)(M:∀p,cG kvs k=Y->Inv X o3 σ (upd H a (.dK (putK kvs k z))) p->Q r p):
  wpAny #[4] A (call (.builtin "dict.setdefault") [.ref a,u,r]) Q E s:=by
 let⟨V,j,n,f,dd⟩:=aaM I.hok e;have b:=f.val k;show qY yy dd.typeIs PySem.F.entry_dict_setdefault (PySem.F.args_dict_setdefault_3 _ _ _) (kt_meets_setdefault #[168] a (B5 c) j r) ⟨n,dd,by rw[<-f.length];show V,λv N=>?_,λL O d l=>?_⟩
 ·cases R:cG kvs k with
  |none=>rw[R,N]at b;show b.elim
  |some x=>
   rw[R,N]at b;show G x v _ R (I.tok _) b
 ·have R:cG kvs k=Y:=by
   cases R:cG kvs k with
   |none=>rfl
   |some x=>rw[R,L]at b;show b.elim
  show M _ R (rP (t':=s.toks+1) I (by rw[e];trivial) l ?_ (IH (kvs:=putK kvs k z) (by have:=oy kvs k z;lia) j (f.put k q) d));let⟨t,_,_,g,_⟩:=d;show⟨t,g⟩
end
inductive aiQ (ty:TE) (tx:TE) (σ:St) (Q:VK) (x:V) (H1:Hp):Prop|mk (a:_) (_:x=.ref a) (_:IsD H1 a) (_:ty σ H1 λy H2=>tx σ H2 λz H3=>∃kvs k,H3 a=Z #[58]/\y=kV k/\kvs.length<sizeLine/\(∀v,cG kvs k=Z v->Q v H3)/\(cG kvs k=Y->Q z (upd H3 a (.dK (putK kvs k z)))))
def apO(td ty tx:TE):TE:=λσ H Q=>td σ H (aiQ ty tx σ Q)
section
variable{o e f:Expr}{w4 fq:Pos}{td ty tx:TE}
def Pj(O:PE X o td)(R:PE X e ty)(V:PE X f tx)(m:M2 X o "setdefault" w4 e f fq):PE X (.Call (.Attribute o "setdefault" w4) [e,f] [] fq) (apO td ty tx):=by
 exists 2;show WS m.base m.B1 m.line yC yy PySem.F.type_dict_setdefault (cw #[111] λu T ⟨x,b,P,D,a,M,d,E⟩=>?_);subst M;exists 28;let⟨L,i,_⟩:=W6 P d;exists L,i;rw[m.trees];show Yx rfl (yK (Yu (cw (R o3 T σ b _ P E) λW n ⟨y,J,G,c,l⟩=>
  Yu (cw (V o3 n σ J _ G l) λfv s3 ⟨z,g,j,q,kvs,k,p,N,S,r,w⟩=>yI ?_))))
 subst N;show OX j p S c q (λv w' A B t C=>⟨v,g,t,C,r v B⟩) λA K t=>⟨z,_,t,q,w K⟩
end
section
def Inv.freeze(I:Inv X o3 σ H s)(e:H a=Z #[58])(O:s.heap.get? a=Z o):Inv X o3 σ (upd H a #[121]) s:=by
 have f:∀b u,H b=Z u->(u=.dK kvs->False)->b≠a:=λb u q d=>aO q e d;show I.un (t':=s.toks) ⟨λb u q _ _ _=>q,λb u q _ _ _=>⟨u.slots,q⟩,λb u q n _=>?_,λb u q _=>⟨u,q⟩,λb t q=>?_,λb u t q=>?_,λb ps q=>⟨#[],?_⟩⟩ (λb u q=>?_)
 ·rw[aj (λz=>by rw[z,e]at n;cases n)];show n
 ·rw[aj (f b _ q #[3])];show q
 ·rw[aj (f b _ q #[3])];show q
 ·rw[aj (f b _ q #[3]),q];simp
 ·by_cases B:b=a
  ·subst B;rw[ae]at q;cases q;show⟨O,(I.hok b _ e)⟩
  ·rw[aj B]at q;show(I.hok b u q).Hj (λc v _ z=>z) (λc z=>by rw[aj (f c _ z (by intro y;cases y))];show z) λc t z=>by rw[aj (f c _ z (by intro y;cases y))];show z
end
def lR(o:Obj):Nat:=match o.data with
 |.dict _ ep=>ep
 |_=>0
def Itd(a:Qp)(o:Obj)(kvs:List #[157]):It:=
 ⟨λi H=>i<kvs.length/\H a=Z #[121],λi H x H'=>H'=H/\∀p,kvs[i]?=Z p->x=kV p.1,λi H=>kvs.length<=i/\H a=Z #[121]⟩
def Iti(a:Qp)(o:Obj)(kvs:List #[157]):It:=
 ⟨λi H=>i<kvs.length/\H a=Z #[121],λi H x H'=>∃T p,x=.ref T/\H T=Y/\H'=upd H T #[145]/\kvs[i]?=Z p,λi H=>kvs.length<=i/\H a=Z #[121]⟩
def tR{h:Heap}(ok:pX P w H h)(e:H a=Z #[121]):∃vs,KV kvs vs/\h.DictAt (bL P w) a vs (lR o)/\(a==WJ)=false/\h.get? a=Z o:=by
 let⟨O,z,lo,vs,f,t,I,T,m,J,j,rest⟩:=ok a _ e;rw[O]at m;cases m;have i:lR o=T:=by unfold lR;rw[j]
 show⟨vs,f,⟨o,I,O,J,by rw[i];show j,rest⟩,lo,O⟩
theorem adA(a W:Qp)(o:Obj)(kvs:List #[157]):Turn P w K tg (Itd a o kvs) [W] W (λi h=>h.IsKeyIter W a i kvs.length (lR o)) where
 mem:=by simp
 obj:=λi h st b B=>by
  have e:b=W:=by simpa using B
  subst e;let⟨o,e,c,d⟩:=st;exists 6
 keep:=λi h O st k=>by let⟨t,e,r⟩:=st;show⟨t,k W #[7] t e,r⟩
 item:=by
  intro X y j m L i o3 s σ H E I g st q;subst y j m;let⟨hi,l⟩:=q;let⟨n,f,C,lo,ho⟩:=tR I.hok l;exists 15;have N:i<n.length:=by lia
  let⟨T,D,f2,u,S,G⟩:=g W #[7];rw[M]at st;show wpAny_pyNext_dict_item (knd:=bL X.prog X.w) st C (k:=(n[i]).1) (v:=(n[i]).2) (jC N) λJ O hk R sb=>?_;have I1:Inv X o3 σ H {s with heap:=O}:=I.turned (t':=s.toks) (λb o B e=>(sb.2 b B).trans e) T D u S G;let⟨p,e1,e2⟩:=oA f (jC N);rw[<-M]at R;let⟨t,e,c,d⟩:=id R;show⟨J,U,MN (s:={s with heap:=O}) e c d #[9] ⟨kV p.1,H,I1,?_,⟨U,λp' x=>by rw[e1]at x;cases x;rfl⟩,R,λb B=>(g b B).1⟩⟩;rw[e2.1];show aa9 hk
 done:=by intro X y j m L i o3 s σ H E I g st q;subst y j m;let⟨hi,l⟩:=q;let⟨n,f,C,lo,ho⟩:=tR I.hok l;exists 15;let⟨T,D,f2,u,S,G⟩:=g W #[7];rw[M]at st;show wpAny_pyNext_dict_end #[117] st C (JE #[1]) λO eb=>⟨U,I.turned (t':=s.toks) (λb o B e=>eb b o B e) T D u S G⟩
 self:=λA i s Q E st h=>by show YG st.typeIs Yw (Wa Yw st.typeIs yZ ?_ (yX _));change wpAny _ _ (ret (.ref W)) _ _ s;show YB ⟨_,U,"dict_keyiterator",_,st.typeIs,PySem.F.slot_dict_keyiterator_next.lookup,h⟩
section
def aoH(tl:TE):TI:=λσ H R=>tl σ H λx H1=>∃a kvs,x=.ref a/\((H1 a=Z #[58]/\∀o,R (Itd a o kvs) (upd H1 a #[121]))\/∃o,H1 a=Z #[121]/\R (Itd a o kvs) H1)
def aiu(d:PE X l tl):PI X tg l (aoH tl):=by
 exists 30;show cw (d o3 s σ H _ I h) λv T ⟨x,g,P,i,E⟩=>?_;let⟨a,kvs,e,q⟩:=E;subst e;cases i;have c:∀(o:Obj) (J:Hp),Inv X o3 σ J T->J a=Z #[121]->R (Itd a o kvs) J->wpAny #[4] X.A (pyIter #[44]) (PIE X o3 σ tg R) X.xe T:=λo J G k m=>by let⟨n,f,C,lo,O⟩:=tR G.hok k;exists 15;show wpAny_pyIter_dict lo C ?_;show⟨T.heap.objs.size,[T.heap.objs.size],_,_,J,U,G.kept (t':=T.toks) λb o e=>jB _ e,adA a _ o kvs,⟨_,jJ _ rfl,U,by rw[M];rfl⟩,λb B=>?_,m⟩;exists 8;subst e;show G.IL (jE _) (G.hok.fresh (jE _))
 rcases q with⟨j,q⟩|⟨o,j,q⟩
 ·let⟨z,lo,n,f,t,r,u,p,rest⟩:=P.hok a _ j;show c t _ (P.freeze j p) ae (q t)
 ·show c o g P j q
end
def G3:entryFor table "dict_itemiterator.__iter__" = Z Builtin.«dict_keyiterator.__iter__»:=
 qh (id':="dict_keyiterator.__iter__") #[147] (by first|rfl|decide +kernel|(unfold String.splitOn;simp +decide [String.splitOnAux])) #[0] #[147]
theorem aal{x1:_}(a W:Qp)(o:Obj)(kvs:List #[157]):Turn P w K (.Tuple elts x1 pos) (Iti a o kvs) [W] W (λi h=>∃ok L,IsItemIter h W a i kvs.length (lR o) ok L) where
 mem:=by simp
 obj:=λi h st b B=>by
  have e:b=W:=by simpa using B
  subst e;let⟨ok,L,st⟩:=st;show⟨_,st,λv z=>by have z':Data.fields _=Data.cell v:=z;cases z'⟩
 keep:=λi h O st k=>by let⟨ok,L,st⟩:=st;show⟨ok,L,k W #[7] _ st⟩
 item:=by
  intro X y j m hc i o3 s σ H E I r st t;subst y j m;let⟨hi,l⟩:=t;let⟨ok,L,st⟩:=st;let⟨n,f,C,lo,ho⟩:=tR I.hok l;exists 15;have hv:i<n.length:=by lia
  let⟨T,D,f2,x,S,G⟩:=r W #[7];rw[M]at st;have N:W<s.heap.objs.size:=jM st;show wpAny_pyNext_items_item (knd:=bL X.prog X.w) st C (k:=(n[i]).1) (v:=(n[i]).2) (jC hv) λJ O hk HL ht i5 kp=>?_;let⟨p,e1,e2⟩:=oA f (jC hv);show⟨.ref s.heap.objs.size,U,wpAny_letOwnedTupleGo_items (s:={s with heap:=O}) HL λg R d=>?_⟩;have y4:∀b u,s.heap.get? b=Z u->b≠W->g.get? b=Z u:=λb u e B=>(d.2 b B).trans (kp b u B e);have nT:s.heap.objs.size≠W:=Jv N;have d5:g.get? s.heap.objs.size=Z {cls:=.type "tuple",data:=.seq #[J,(n[i]).2]}:=(d.2 _ nT).trans ht;have fr:H s.heap.objs.size=Y:=I.hok.fresh (jE _);have c:tW X o3 (upd H s.heap.objs.size #[145]) W:=⟨by rw[aj (Ne.symm nT)];show T,D,f2,x,S,G⟩;have I0:Inv X o3 σ (upd H s.heap.objs.size #[145]) {s with heap:=s.heap.push {cls:=.type "tuple",data:=.seq #[J,(n[i]).2]} }:=
   I.laid (t':=s.toks) (o:=.tup [kV p.1,p.2]) (λb ob q=>jB _ q) (jE _) ⟨by change 2<=sizeLine;decide,[J,(n[i]).2],.cons (by rw[e2.1];show aa9 hk) (.cons e2.2 .nil),⟨_,jJ _ rfl,rfl,_,rfl⟩⟩
  have I2:Inv X o3 σ (upd H s.heap.objs.size #[145]) {s with heap:=g}:=by
   show I0.turned (t':=s.toks) (h':=g) (λb ob B q=>?_) c.1 c.2.1 c.2.2.2.1 c.2.2.2.2.1 c.2.2.2.2.2;rcases zt (show(s.heap.push {cls:=.type "tuple",data:=.seq #[J,(n[i]).2]}).get? b=Z ob from q)with⟨rfl,rfl⟩|z
   ·show d5
   ·show y4 b ob z B
  show⟨.ref s.heap.objs.size,_,I2,U,⟨s.heap.objs.size,p,U,fr,U,e1⟩,⟨_,_,by rw[M];show R⟩,λb B=>?_⟩;have e:b=W:=by simpa using B
  subst e;show c.1
 done:=by intro X y j m hc i o3 s σ H E I r st t;subst y j m;let⟨hi,l⟩:=t;let⟨ok,L,st⟩:=st;let⟨n,f,C,lo,ho⟩:=tR I.hok l;exists 15;let⟨T,D,f2,x,S,G⟩:=r W #[7];rw[M]at st;show wpAny_pyNext_items_end (I.ok.hd hc) st C (JE #[1]) λO eb=>⟨U,I.turned (t':=s.toks) (λb o B e=>eb b o B e) T D x S G⟩
 self:=λA i s Q E st h=>by let⟨ok,L,st⟩:=st;have hT:s.TypeIs (.ref W) "dict_itemiterator" :=⟨_,st,rfl⟩;show YG hT ya (Wa ya hT G3 ?_ (PySem.F.args_dict_itemiterator_iter_1 _));change wpAny _ _ (ret (.ref W)) _ _ s;show YB ⟨_,U,"dict_itemiterator",_,hT,PySem.F.slot_dict_itemiterator_next.lookup,h⟩
section
def akY(tl:TE):TI:=λσ H R=>tl σ H λx H1=>∃v d kvs,x=.ref v/\H1 v=Z (C0 v d)/\H1 d=Z #[58]/\∀o,R (Iti d o kvs) (upd H1 d #[121])
def afP{i:_}(d:PE X l tl):PI X (.Tuple elts i PL) l (akY tl):=by exists 30;show cw (d o3 s σ H _ I h) λv T ⟨x,g,P,k,E⟩=>?_;let⟨v,a,kvs,e,N,j,q⟩:=E;subst e;cases k;let⟨c,_,_⟩:=(show bN X.prog X.w g T.heap v (C0 v a)from P.hok v _ N);let⟨z,lo,m,n,t,y,A,p,rest⟩:=P.hok a _ j;have G:=P.freeze j p;let⟨r,f,C,u,O⟩:=tR G.hok ae;have M:kvs.length=r.length:=Paired.length f;show wpAny_pyIter_items c C ?_;show⟨T.heap.objs.size,[T.heap.objs.size],_,_,_,U,G.kept (t':=T.toks) λb o e=>jB _ e,aal a _ t kvs,⟨_,_,by rw[M];show jJ _ rfl⟩,λb B=>?_,q t⟩;exists 8;subst e;show G.IL (jE _) (G.hok.fresh (jE _))
end
def acA{g:TG}(f:Nat->St->Hp->Prop)(X:f 0 σ H)(C:∀i σ H,i<=kvs.length->f i σ H->H a=Z #[121])(hs:∀i p σ H T,kvs[i]?=Z p->f i σ H->H T=Y->g #[158] σ (upd H T #[145]) λc J=>tb {D with nx:=f (i+1),ct:=f (i+1),bk:=D.nx} c J)(j:∀σ H,f kvs.length σ H->D.nx σ H):
  ∃W:Nat->Nat->St->Hp->Prop,#[104]/\∀i m σ H,W i m σ H ->
   ((Iti a o kvs).stop i H/\D.nx σ H)\/((Iti a o kvs).go i H/\∃N:St->Hp->Prop,#[20]/\∀x H',(Iti a o kvs).yld i H x H'->g x σ H' λc J=>tb {D with nx:=N,ct:=N,bk:=D.nx} c J):=by
 show⟨λi m σ H=>m=kvs.length-i/\i<=kvs.length/\f i σ H,⟨kvs.length,by simp,jb _,X⟩,?_⟩;exists 22;have q:=C i σ H b p;by_cases d:i<kvs.length
 ·show .inr ⟨⟨d,q⟩,f (i+1),λO H' n=>⟨kvs.length-(i+1),by lia,U,d,n⟩,λx H' y=>?_⟩;let⟨T,A,rfl,r,rfl,y⟩:=y;show hs i A σ _ T y p r
 ·have e:i=kvs.length:=by lia
  subst e;show .inl ⟨⟨jE _,q⟩,j σ H p⟩
abbrev C1(xs:Array Nat):Prop:=xs.toList.Pairwise (·<·)
def C1.lt{xs:Array Nat}(r:C1 xs)(W:i<j)(f:j<xs.size):xs[i]<xs[j]:=by have:=ZR.mp r i j (by simpa using zT W f) (by simpa using f) W;simpa using this
theorem Iv{xs:Array Nat}(r:C1 xs):∀(a lo W:Nat),W-lo<=a->lo<=W->W<=xs.size->(∀i (h:i<xs.size),i<lo->xs[i]<j)->(∀i (h:i<xs.size),W<=i->j<=xs[i])->
  (SetTable.below.go xs j a lo W<=xs.size/\(∀i (h:i<xs.size),i<SetTable.below.go xs j a lo W->xs[i]<j)/\∀i (h:i<xs.size),SetTable.below.go xs j a lo W<=i->j<=xs[i])
 |0,lo,W,V,C,hs,G,M=>by
  have e:lo=W:=by lia
  subst e;show⟨hs,G,M⟩
 |a+1,lo,W,V,C,hs,G,M=>by
  unfold SetTable.below.go;by_cases c:lo<W
  ·rw[if_pos c];dsimp only;have N:(lo+W) / 2<xs.size:=by lia
   have f:xs.getD ((lo+W) / 2) j=xs[(lo+W) / 2]:=by simp[QQ,N]
   by_cases d:xs.getD ((lo+W) / 2) j<j
   ·rw[if_pos d];show Iv r a _ _ #[1] #[1] hs (λi h o=>?_) M;rcases Jb i ((lo+W) / 2)with z|z
    ·show zT (r.lt z N) (by rw[f]at d;show d)
    ·have e:i=(lo+W) / 2:=by lia
     subst e;rw[f]at d;show d
   ·rw[if_neg d];show Iv r a _ _ #[1] #[1] #[1] G (λi h o=>?_);rw[f]at d;rcases Jb ((lo+W) / 2) i with z|z
    ·show jc (Jx d) (JS (r.lt z h))
    ·have e:i=(lo+W) / 2:=by lia
     subst e;show Jx d
  ·rw[if_neg c];have e:lo=W:=by lia
   subst e;show⟨hs,G,M⟩
def Iw{xs:Array Nat}(r:C1 xs)(j:Nat):SetTable.below xs j<=xs.size/\(∀i (h:i<xs.size),i<SetTable.below xs j->xs[i]<j)/\∀i (h:i<xs.size),SetTable.below xs j<=i->j<=xs[i]:=
 Iv r xs.size 0 xs.size #[1] (jb _) (jE _) (λi h z=>by lia) (λi h z=>by lia)
def T6{xs:Array Nat}(r:C1 xs):SetTable.below xs 0=0:=by
 let⟨X,G,_⟩:=Iw r 0;rcases zD (SetTable.below xs 0)with z|z
 ·show z
 ·show absurd (G 0 (jY z X) z) (zF _)
def T5{xs:Array Nat}(r:C1 xs)(W:i<xs.size):SetTable.below xs (xs[i]+1)=i+1:=by
 let⟨X,G,M⟩:=Iw r (xs[i]+1);rcases Nat.lt_trichotomy (SetTable.below xs (xs[i]+1)) (i+1)with z|z|z
 ·have:=M i W #[1];lia
 ·show z
 ·have l:i+1<xs.size:=by lia
  have L:=G (i+1) l z;have k:xs[i]<xs[i+1]:=r.lt (JP i) l;lia
def toList_insertAt(xs:Array α)(p:Nat)(x:α):(SetTable.insertAt xs p x).toList=xs.toList.take p++x::xs.toList.drop p:=by unfold SetTable.insertAt;simp;rw[zb #[7]]
def C1.put{xs:Array Nat}(r:C1 xs)(g:xs[SetTable.below xs j]?≠Z j):C1 (SetTable.insertAt xs (SetTable.below xs j) j):=by
 let⟨X,G,M⟩:=Iw r j;unfold C1;rw[toList_insertAt,List.pairwise_append];have tk:∀a∈xs.toList.take (SetTable.below xs j),a<j:=λa W=>by
  let⟨i,d,rfl⟩:=List.mem_take_iff_getElem.mp W;have:i<SetTable.below xs j/\i<xs.size:=by simp at d;lia
  simpa using G i this.2 this.1
 have f:∀b∈xs.toList.drop (SetTable.below xs j),j<b:=λb B=>by
  let⟨i,d,rfl⟩:=List.mem_drop_iff_getElem.mp B;have hs:i+SetTable.below xs j<xs.size:=by simpa using d
  have o:=M (i+SetTable.below xs j) hs #[1];have c:SetTable.below xs j<xs.size:=by lia
  have K:xs[SetTable.below xs j]≠j:=λz=>g (by rw[jy c,z]);have h:=M (SetTable.below xs j) c (jE _);have:j<xs[i+SetTable.below xs j]:=by
   rcases zD i with z|z
   ·subst z;simp only[Jc];lia
   ·have:=r.lt (i:=SetTable.below xs j) (j:=i+SetTable.below xs j) #[1] hs;lia
  simpa[Nat.add_comm]using this
 show⟨List.Pairwise.sublist (ZM _ _) r,zG.mpr ⟨f,List.Pairwise.sublist (List.drop_sublist _ _) r⟩,λa W b B=>?_⟩;rcases jL.mp B with e|B
 ·rw[e];show tk a W
 ·show zT (tk a W) (f b B)
def Z6(n:Nat):C1 (Array.range n):=by unfold C1;rw[Array.toList_range];show Zf
structure iV(t:qN)(led:Bool):Prop where
 rise:C1 t.place
 nod:t.dummies=#[]
 led:t.led=led
theorem iV.standIn{led:Bool}(k:iV t led)(n:Nat):iV (t.standIn n) led:=⟨Z6 n,rfl,k.led⟩
theorem iV.orStandIn{led:Bool}(k:iV t led)(n:Nat):iV (t.orStandIn n) led:=by
 unfold SetTable.orStandIn;split
 ·show k
 ·show k.standIn n
def aaW(j:Nat):SetTable.has #[] j=false:=by unfold SetTable.has;simp
theorem Lc{led:Bool}(k:iV t led):∀(fuel:Nat) (p:SetTable.Probe) (j:Nat) (a:Option Nat),p.dummy=Y->SetTable.probe.go t (λ_=>h+1) h fuel p=Z (.empty j a)->t.slot j=.empty/\a=Y
 |0,p,j,a,_,e=>by cases e
 |fuel+1,p,j,a,D,e=>by
  unfold SetTable.probe.go at e;cases hs:t.slot p.j with
  |empty=>
   rw[hs]at e;cases e;show⟨hs,D⟩
  |dummy=>
   exfalso;unfold SetTable.slot at hs;dsimp only at hs;split at hs
   ·cases hs
   ·rw[k.nod,aaW]at hs;simp at hs
  |live i=>
   rw[hs]at e;dsimp only at e;rw[if_neg (by simp;lia)]at e;show Lc k fuel _ j a ?_ e;unfold SetTable.advance;split
   ·show D
   ·show D
def acB{led:Bool}(k:iV t led)(e:t.freeSlot h=Z (j,b)):t.place[SetTable.below t.place j]?≠Z j/\b=false:=by
 unfold SetTable.freeSlot SetTable.probe at e;split at e
 ·rename_i c a E;let⟨G,rfl⟩:=Lc k _ _ _ _ rfl E;simp at e;let⟨rfl,rfl⟩:=e;show⟨λz=>?_,U⟩;unfold SetTable.slot at G;dsimp only at G;rw[if_pos (by rw[z];simp)]at G;cases G
 ·cases e
def X4{led:Bool}(k:iV t led)(es:Array (Int×Value))(h:Int)(x:Value):iV (layNew t es h x).2.1 led:=by
 unfold layNew;split
 ·rename_i y o e;let⟨f,rfl⟩:=acB k e;have M:iV (t.put y).1 led:=by show⟨k.rise.put f,?_,k.led⟩;change(if SetTable.has t.dummies y=true then _ else t.dummies)=#[];rw[k.nod,aaW];rfl
  show M.orStandIn _
 ·show k.standIn _
def Pq{led:Bool}(k:iV t led)(es:Array (Int×Value))(n:Nat):iV (relayAll t es n).2.1 led:=by
 unfold relayAll;split
 ·rename_i W c e;dsimp only;split
  ·unfold SetTable.relaid SetTable.laid at e;simp only[Option.bind_eq_bind,Option.bind_eq_some_iff]at e;let⟨d,_,e⟩:=e;cases e;show⟨?_,U,k.led⟩;unfold C1;dsimp only;rw[List.map_filterMap];show List.Pairwise.filterMap _ (λa f S b B g C=>?_) Zf;simp only[Option.map_map,Option.mem_def,Jd,Function.comp]at B C;let⟨_,_,rfl⟩:=B;let⟨_,_,rfl⟩:=C;show S
  ·show k.standIn _
 ·show k.standIn _
abbrev Rm(w:World):Bool:=w.params.followText "set-order"
section
def fX(w:World):Obj:={cls:=.type "set",dict:=Y,data:=.set #[] 0 (.fresh 0 0 (!Rm w))}
def ack(a:Value)(h:Q₁ #[19] {s with heap:=s.heap.push (fX w)}):
  codeAny #[37] A (.call (.builtin "set.__new__") ⟨[.type "set",a],[]⟩) (wants Q₁ E) s:=by
 show qe ?_;change wpAny _ A.in1 (do checkBuiltinCall "set.__new__" ⟨[.type "set",a],[]⟩;again (.builtin "set.__new__" ⟨[.type "set",a],[]⟩)) _ _ s;show WX (Wy (F.newCall_set_1 a) (YB ⟨qy xS _,qZ F.entry_set_new ?_⟩));rw[Around.under_plainId xS _];unfold Builtin.«set.__new__» xc;have p:=sub_set_self;let⟨D,g,d,tk,os⟩:=s;dsimp only
 wp_walk
 show WU (YB ?_);dsimp only;simp only[newObj];show WX (wpAny_alloc (YB (YB h)))
end
namespace SF
def V2:entryFor table "set.__iter__" = Z Builtin.«frozenset.__iter__»:=qh (id':="frozenset.__iter__") #[147] rfl #[0] #[147]
def slot_next:Slot "set_iterator" "__next__" "set_iterator.__next__" :=
 .of (owner:="set_iterator") (n:="__next__") (by rw[WO,qW];kernel_rfl) #[0] #[0] #[0] (by first|show .inl #[0]|show .inr #[0])
  (by rw[isSubtype_type];kernel_rfl)
def entry_next:entryFor table "set_iterator.__next__" = Z Builtin.«set_iterator.__next__»:=qj #[147]
def args_next(a:Value):argsOk "set_iterator.__next__" ⟨[a],[]⟩:=by unfold argsOk;kernel_rfl
def Bi:Slot "set_iterator" "__iter__" "set_iterator.__iter__" :=
 .of (owner:="set_iterator") (n:="__iter__") (by rw[WO,qW];kernel_rfl) #[0] #[0] #[0] (by first|show .inl #[0]|show .inr #[0])
  (by rw[isSubtype_type];kernel_rfl)
end SF
theorem Cr{α:Type}:∀(l:List α) (i:Nat) (h:i<l.length),(l[i]::l.eraseIdx i).Perm l
 |x::r,0,_=>List.Perm.refl _
 |x::r,i+1,h=>(List.Perm.swap _ _ _).trans (List.Perm.cons _ (Cr r i (zc h)))
theorem abm{α:Type}(next:Nat->Nat):∀(a k:Nat) (left:List α) (out:Array α),left.length=a->(pickOrder.go next a k left out).toList.Perm (out.toList++left)
 |0,k,left,out,h=>by rw[zV.mp h,jh];show List.Perm.refl _
 |a+1,k,left,out,h=>by
  unfold pickOrder.go;have d:next k%left.length<left.length:=QR _ #[1]
  rw[jC d];dsimp only;show(abm next a (k+1) _ _ (by rw[zP d];lia)).trans ?_;rw[QH,jr];show List.Perm.append_left _ ?_;show Cr _ _ d
def EY{α:Type}(next:Nat->Nat)(xs:Array α):(pickOrder next xs).toList.Perm xs.toList:=by
 have q:=abm next xs.size 0 xs.toList #[] #[7]
 unfold pickOrder;simpa using q
def Mq{M:Model}{A:Around}{E:Value->qO->Prop}{s:qO}{a:Source}{n:Nat}{Q:Nat->qO->Prop}(L:n≠0)(h:∀i d',i<n->Q i {s with drawn:=d'}):wpAny M A (choose a n) Q E s:=
 λ_ _ _=>⟨L,h _ _ (QR _ (Zx L))⟩
theorem MK{M:Model}{A:Around}{E:Value->qO->Prop}{α:Type}:∀(n:Nat) (xs:List α) (s:qO) (Q:List α->qO->Prop),xs.length=n->(∀ys d',ys.Perm xs->Q ys {s with drawn:=d'})->wpAny M A (drawOrder n xs) Q E s
 |0,xs,s,Q,C,h=>by have e:xs=[]:=zV.mp C;subst e;unfold drawOrder;show YB (h [] s.drawn (List.Perm.refl _))
 |n+1,[],s,Q,C,h=>by cases C
 |n+1,x::r,s,Q,C,h=>by unfold drawOrder;show WX (Mq #[7] λi d' W=>?_);rw[jC W];dsimp only;show WX (MK n _ _ _ (by rw[zP W];lia) λys j p=>YB ?_);show h _ _ ((List.Perm.cons _ p).trans (Cr _ _ W))
def mz(h:Heap)(I S:Qp)(first:Value)(i n ep:Nat):Prop:=∃o,h.get? I=Z o/\o.cls=.type "set_iterator" /\ o.data=.fields #[first,.int i 0,.ref S,.int n 0,.int ep 0]
def mz.typeIs{s:qO}{I S:Qp}{first:Value}{i n ep:Nat}(x:mz s.heap I S first i n ep):s.TypeIs (.ref I) "set_iterator" :=let ⟨o,ho,hc,_⟩:=x;⟨o,ho,hc⟩
def akg(w:World)(es:Array (Int×Value))(ep:Nat)(t:qN)(S T:Qp)(L:List Value)(h:Heap)(i:Nat)(first:Value):Prop:=
 (Rm w=true/\(∃z:Nat,first=.int z 0)/\L=#[52].toList.map (·.2)) \/
 (Rm w=false/\(t.plain=true\/es.size<=1)/\(∃z:Nat,first=.int z 0/\SetTable.below t.place z=i)/\L=es.toList.map (·.2)) \/
 (Rm w=false/\first=.ref T/\∃pl:List Nat,pl.Perm (jg es.size)/\(∃o e,h.get? T=Z o/\o.data=.seq (pl.map λp:Nat=>Yl (p:Int) 0).toArray e)/\L=pl.map λp=>(es.getD p (0,.none)).2)
structure Mv(w:World)(es:Array (Int×Value))(ep:Nat)(t:qN)(S T I:Qp)(L:List Value)(i:Nat)(h:Heap):Prop where
 set:∃o,h.get? S=Z o/\o.data=.set es ep t
 it:∃first,mz h I S first i es.size ep/\akg w es ep t S T L h i first
section
variable{P:qL}{w:World}{A:Around}{E:Value->qO->Prop}{s:qO}{es:Array (Int×Value)}{ep:Nat}{t:qN}{S T I:Qp}{L:List Value}{i:Nat}
def next_item(V:t.fits es.size=true)(hk:iV t (!Rm w))(hL:L.length=es.size)(PU:T≠I)(K:S≠I)(st:Mv w es ep t S T I L i s.heap)(W:i<es.size){Q:Option Value->qO->Prop}(h:∀h',Yj I s.heap h'->Mv w es ep t S T I L (i+1) h'->Q (Z (L.getD i .none)) {s with heap:=h'}):wpAny #[37] A #[166] Q E s:=by
 let⟨⟨oS,g,c⟩,first,hit,pB⟩:=st;let⟨o,O,hc,j⟩:=id hit;have u:L.getD i .none=L[i]'#[1]:=by simp[Qo,hL,W]
 unfold pyNext;show WX (WW (WZ (name:=Str.ofString "__next__") hit.typeIs SF.slot_next (Wa SF.slot_next hit.typeIs SF.entry_next ?_ (SF.args_next _))));unfold Builtin.«set_iterator.__next__»;show WX (m:=slotArgs "__next__" 0 _) (YB ?_);show WX (Wk O j ?_);dsimp only;unfold setEntries;show WX (WX (YQ g c V (YB ?_)));rw[if_neg #[7]];have y4:∀(f:Array Value->Array Value),(s.heap.update I (Obj.mapFields f)).get? I=Z (Obj.mapFields f o):=λf=>jz _ O (Obj.isFreed_of_fields (Obj.data_mapFields j _));have R:∀(f:Array Value->Array Value) b,b≠I->(s.heap.update I (Obj.mapFields f)).get? b=s.heap.get? b:=λf b hb=>JI _ _ (Ne.symm hb);have B:∀(G:Heap) (D:Value),mz G I S D i es.size ep->mz (G.update I #[28]) I S D (i+1) es.size ep:=by rintro G D ⟨a,H,e,M⟩;show⟨_,jz _ H (Obj.isFreed_of_fields (Obj.data_mapFields M _)),(Obj.cls_mapFields ..).trans e,by rw[Obj.data_mapFields M];simp[rawInt]⟩
 have n:∀(G:Heap) (D:Value) (v:Nat),mz G I S D i es.size ep->mz (G.update I (Obj.mapFields (·.setIfInBounds 0 (rawInt v)))) I S (.int v 0) i es.size ep:=by rintro G D v ⟨a,H,e,M⟩;show⟨_,jz _ H (Obj.isFreed_of_fields (Obj.data_mapFields M _)),(Obj.cls_mapFields ..).trans e,by rw[Obj.data_mapFields M];simp[rawInt]⟩
 have J:∀G,Yj I s.heap G->∃o,G.get? S=Z o/\o.data=.set es ep t:=λG l=>⟨oS,(l.2 S K).trans g,c⟩;rcases pB with⟨C,⟨z,rfl⟩,x⟩|⟨C,N,⟨z,rfl,hz⟩,x⟩|⟨C,rfl,N,d,⟨oT,eT,hT,F⟩,x⟩
 ·have px:=EY (w.params.setOrder S ep) es;have hx:i<#[52].size:=by rw[<-jq,px.length_eq,jq];show W
  exists 34;unfold setNext;show WX (YQ g c V ?_);unfold setsByText;exists 24;rw[if_pos (show#[37].w.params.followText "set-order" = true from C),if_neg #[7]];unfold setWalk setsByText;show WX (WX (YQ g c V ?_));exists 24;rw[if_pos (show#[37].w.params.followText "set-order" = true from C)];show WX (WU (YB (YB ?_)));have ex:(pickOrder (#[37].w.params.setOrder S ep) es)[((i:Nat):Int).toNat]?=Z #[52][i]:=by rw[jG];show jy hx
  rw[ex];dsimp only[Ql];show WX (YN O j #[7] ?_);let⟨a,H,e,M⟩:=n _ _ z hit;rw[show((z:Nat):Int).toNat=z from jG z];show WX (YN H M #[7] (YB ⟨_,U,YB ?_⟩));have l:Yj I s.heap ((s.heap.update I (Obj.mapFields (·.setIfInBounds 0 (rawInt z)))).update I #[28]):=(Yi ..).trans (Yi ..);have q:=h _ l ⟨J _ l,_,B _ _ (n _ _ z hit),.inl ⟨C,⟨z,rfl⟩,x⟩⟩;rw[u]at q;have k:L[i]'#[1]=#[52][i].2:=by simp[x]
  rw[k]at q;show q
 ·have d5:t.place.size=es.size:=by simp only[SetTable.fits,Jk,beq_iff_eq,decide_eq_true_eq]at V;show V.1
  have r:i<t.place.size:=by lia
  exists 34;unfold setNext;show WX (YQ g c V ?_);unfold setsByText;exists 24;rw[if_neg (show ¬ (#[37].w.params.followText "set-order" = true)from by rw[show#[37].w.params.followText "set-order" = false from C];show jZ)];change wpAny _ _ (if (!t.plain&&decide (es.size > 1))=true then _ else _) _ _ _;rw[if_neg (by
   rcases N with q|q
   ·rw[q];simp
   ·simp;lia)]
  change wpAny _ _ ((if (!t.led&&!es.isEmpty)=true then _ else pure ())>>=_) _ _ _;rw[if_neg (by rw[hk.led,C];simp)];show WX (YB (YB ?_));rw[jG,hz,jy W,jy r];dsimp only;show WX (YN O j #[7] ?_);let⟨a,H,e,M⟩:=n _ _ (t.place[i]+1) hit;show WX (YN H M #[7] (YB ⟨_,U,YB ?_⟩));have l:Yj I s.heap ((s.heap.update I (Obj.mapFields (·.setIfInBounds 0 (rawInt (t.place[i]+1:Nat))))).update I #[28]):=(Yi ..).trans (Yi ..);have q:=h _ l ⟨J _ l,_,B _ _ (n _ _ (t.place[i]+1) hit),.inr (.inl ⟨C,N,⟨_,rfl,T5 hk.rise r⟩,x⟩)⟩;rw[u]at q;have k:L[i]'#[1]=es[i].2:=by simp[x]
  rw[k]at q;show q
 ·have X:N.length=es.size:=by rw[d.length_eq,jd]
  have G9:N[i]'#[1]<es.size:=js.mp (d.mem_iff.mp (jO _));change wpAny _ _ (seqItems? #[158]>>=_) _ _ _;unfold seqItems?;show WX (WX (Wt hT ?_));rw[F];show YB ?_;dsimp only;have y:(N.map λp:Nat=>Yl (p:Int) 0).toArray[((i:Nat):Int).toNat]?=Z (Yl ((N[i]'#[1]:Nat):Int) 0):=by rw[jG];simp[X,W]
  rw[y];dsimp only;unfold setNextDrawn;show WX (WX (YQ g c V ?_));dsimp only;rw[if_neg #[7],jG,jy G9];dsimp only;show YB (WX (YN O j #[7] (YB ⟨_,U,YB ?_⟩)));have l:Yj I s.heap (s.heap.update I #[28]):=Yi ..;have q:=h _ l ⟨J _ l,_,B _ _ hit,.inr (.inr ⟨C,rfl,N,d,⟨oT,eT,(l.2 T PU).trans hT,F⟩,x⟩)⟩;rw[u]at q;have k:L[i]'#[1]=es[N[i]'#[1]].2:=by simp[x,QQ,G9]
  rw[k]at q;show q
def next_end(f:A.handled=Y)(V:t.fits es.size=true)(R:iV t (!Rm w))(K:S≠I)(st:Mv w es ep t S T I L es.size s.heap){Q:Option Value->qO->Prop}(h:∀h',XC I s.heap h'->Q Y {s with heap:=h'}):wpAny #[37] A #[166] Q E s:=by
 let⟨⟨oS,g,c⟩,first,hit,n⟩:=st;let⟨o,O,hc,j⟩:=id hit;unfold pyNext;show WX (WW (WZ (name:=Str.ofString "__next__") hit.typeIs SF.slot_next (Wa SF.slot_next hit.typeIs SF.entry_next ?_ (SF.args_next _))));unfold Builtin.«set_iterator.__next__»;show WX (m:=slotArgs "__next__" 0 _) (YB ?_);show WX (Wk O j ?_);dsimp only;unfold setEntries;show WX (WX (YQ g c V (YB ?_)));rw[if_neg #[7]];have k:∀G,XC I s.heap G->wpAny #[37] A.in1 (do let e <-newExc (.type "StopIteration") [];raiseNew e:qM Fin) (λW d=>∃v,W=Fin.done (Flow.ret v)/\wpAny #[37] A (pure (Z v)) Q E d)
   (λe d=>wpAny #[37] A (do if <-isInstance e (.type "StopIteration")then pure Y else throw e) Q E d) {s with heap:=G}:=by
  intro G r;exists 34;simp only[newExc,newTuple];show WX (Ww ?_ #[161]);show WX (m:=firstArgMember _ _) (Wy (a:=Yq) (by first|rfl|(simp only[firstArgMember];rfl)) ?_);show Ww ?_ #[161];simp only[raiseNew];show WX (Wm ?_);rw[show A.in1.handled=Y from f];show WX (YB (YU ?_));show WX (Wo (T:="StopIteration") (b:=true) ⟨_,jJ _ rfl,rfl⟩ qv ?_);show YB (h _ ((r.push _).push _))
 rcases n with⟨C,⟨z,rfl⟩,x⟩|⟨C,N,⟨z,rfl,u⟩,x⟩|⟨C,rfl,N,y,⟨oT,eT,B,F⟩,x⟩
 ·have D:=EY (w.params.setOrder S ep) es;have J:#[52].size=es.size:=by rw[<-jq,D.length_eq,jq]
  exists 34;unfold setNext;show WX (YQ g c V ?_);unfold setsByText;exists 24;rw[if_pos (show#[37].w.params.followText "set-order" = true from C),if_neg #[7]];unfold setWalk setsByText;show WX (WX (YQ g c V ?_));exists 24;rw[if_pos (show#[37].w.params.followText "set-order" = true from C)];show WX (WU (YB (YB ?_)));have M:(pickOrder (#[37].w.params.setOrder S ep) es)[((es.size:Nat):Int).toNat]?=Y:=by rw[jG];show zd (Zv J)
  rw[M];dsimp only[Ql];show WX (YN O j #[7] ?_);show k _ (Yi ..).extBut
 ·have H:t.place.size=es.size:=by simp only[SetTable.fits,Jk,beq_iff_eq,decide_eq_true_eq]at V;show V.1
  exists 34;unfold setNext;show WX (YQ g c V ?_);unfold setsByText;exists 24;rw[if_neg (show ¬ (#[37].w.params.followText "set-order" = true)from by rw[show#[37].w.params.followText "set-order" = false from C];show jZ)];change wpAny _ _ (if (!t.plain&&decide (es.size > 1))=true then _ else _) _ _ _;rw[if_neg (by
   rcases N with q|q
   ·rw[q];simp
   ·simp;lia)]
  change wpAny _ _ ((if (!t.led&&!es.isEmpty)=true then _ else pure ())>>=_) _ _ _;rw[if_neg (by rw[R.led,C];simp)];show WX (YB (YB ?_));rw[jG,u,zd (jE _)];dsimp only;show WX (YN O j #[7] ?_);show k _ (Yi ..).extBut
 ·have X:N.length=es.size:=by rw[y.length_eq,jd]
  change wpAny _ _ (seqItems? #[158]>>=_) _ _ _;unfold seqItems?;show WX (WX (Wt B ?_));rw[F];show YB ?_;dsimp only;have i:(N.map λp:Nat=>Yl (p:Int) 0).toArray[((es.size:Nat):Int).toNat]?=Y:=by rw[jG];simp[X]
  rw[i];dsimp only;show WX (YN O j #[7] ?_);have l:=Obj.data_mapFields j (·.setIfInBounds 0 (rawInt 0));show WX (YN (jz _ O (Obj.isFreed_of_fields l)) l #[7] ?_);show k _ ((Yi ..).trans (Yi ..)).extBut
end
end L2
namespace L2
open PySem PySem.Spec PyProof.Rows
namespace SF
def G4:entryFor table "set_iterator.__iter__" = Z Builtin.«dict_keyiterator.__iter__»:=qh (id':="dict_keyiterator.__iter__") #[147] rfl #[0] #[147]
def Iu(a:Value):argsOk "set_iterator.__iter__" ⟨[a],[]⟩:=by unfold argsOk;kernel_rfl
end SF
section
variable{P:qL}{w:World}{A:Around}{E:Value->qO->Prop}{s:qO}{es:Array (Int×Value)}{ep:Nat}{t:qN}{S T I:Qp}{L:List Value}
theorem ap5(f:A.handled=Y)(V:t.fits es.size=true)(R:iV t (!Rm w))(u:L.length=es.size)(j:T≠I)(K:S≠I):
  WalksS P w A I [I,S,T] [I] (λa b=>b=a) es.size (λi v=>v=L.getD i .none) (λi s=>Mv w es ep t S T I L i s.heap) where
 sub:=λb B=>by simp at B;simp[B]
 grefl:=λ_=>rfl
 gtrans:=λ_ _ _ G M=>M.trans G
 frame:=λi s O tk st _ k=>by
  let⟨⟨D,g,c⟩,first,⟨o,d,r,h⟩,C⟩:=st;show⟨⟨D,k S #[7] _ g,c⟩,first,⟨o,k I #[7] _ d,r,h⟩,?_⟩;rcases C with z|z|⟨b,e,N,l,⟨m,y,n,F⟩,x⟩
  ·show .inl z
  ·show .inr (.inl z)
  ·show .inr (.inr ⟨b,e,N,l,⟨m,y,k T #[7] _ n,F⟩,x⟩)
 item:=λi s Q E W st H=>next_item V R u j K st W λO p q=>H _ _ rfl q ⟨λb o B e=>(p.2 b λz=>B (by simp[z])).trans e,rfl,rfl,rfl,jE _⟩
 done:=λs Q E st H=>next_end f V R K st λO J=>H _ ⟨λb o B e=>J b o (λz=>B (by simp[z])) e,rfl,rfl,rfl,jE _⟩
 self:=λi s Q E st H=>by let⟨_,first,hit,_⟩:=st;show YG hit.typeIs SF.Bi (Wa SF.Bi hit.typeIs SF.G4 ?_ (SF.Iu _));change wpAny _ _ (ret (.ref I)) _ _ s;show YB ⟨_,U,"set_iterator",_,hit.typeIs,SF.slot_next.lookup,H⟩
def aoN{o:Obj}{Q:Value->qO->Prop}(O:s.heap.get? S=Z o)(hex:o.ExactSet)(j:o.data=.set es ep t)(B:es.size<scanBound)(V:t.fits es.size=true)(R:iV t (!Rm w))(h:∀(h':Heap) (d':Drawn) (I T:Qp) (L:List Value),L.Perm (es.toList.map (·.2))->Mv w es ep t S T I L 0 h'->(∀b u,s.heap.get? b=Z u->h'.get? b=Z u)->s.heap.objs.size<=I->I<h'.objs.size->T≠I->(T=S\/s.heap.objs.size<=T)->Q (.ref I) {s with heap:=h',drawn:=d'}):
  wpAny #[37] A (pyIter (.ref S)) Q E s:=by
 have r:s.TypeIs (.ref S) "set" :=⟨o,O,hex.1⟩;have f:S<s.heap.objs.size:=jM O;show YG r xT (Wa xT r SF.V2 ?_ (F.args_set_iter_1 _));unfold Builtin.«frozenset.__iter__» GQ GO setEntries;show WX (WX (m:=slotArgs "__iter__" 0 _) (YB (YB ?_)));show WX (WX (WX (YQ O j V (YB (YB ?_)))));exists 34;unfold setDrawn setsByText;show WX (YQ O j V ?_);show WX (WX (WU (YB (YB ?_))));change wpAny _ _ (if (!Rm w&&(!t.plain&&decide (es.size > 1)))=true then _ else _) _ _ _;by_cases c:(!Rm w&&(!t.plain&&decide (es.size > 1)))=true
 ·rw[if_pos c];have C:Rm w=false:=by
   cases b:Rm w with
   |false=>rfl
   |true=>rw[b]at c;simp at c
  show WX (MK _ _ _ _ #[7] λN d' d=>WX ?_);have a:N.length=es.size:=by rw[d.length_eq,jd]
  show wpAny_newTuple (hsz:=by rw[jW,a];show qp B) ?_;have X:N.length=es.size:=by rw[d.length_eq,jd]
  have H:(s.heap.push (seqObj "tuple" (N.map λi:Nat=>rawInt i).toArray 0)).get? S=Z o:=jB _ O;unfold setEpoch;show WX (WX (YQ (s:={s with heap:=s.heap.push (seqObj "tuple" (N.map λi:Nat=>rawInt i).toArray 0),drawn:=d'}) H j V (YB ?_)));unfold newFields;show WX (Ww (YB ⟨_,U,"set_iterator",_,⟨_,jJ _ rfl,rfl⟩,SF.slot_next.lookup,?_⟩) #[161]);show h _ d' _ s.heap.objs.size (N.map λp=>(es.getD p (0,.none)).2) ?_ ⟨⟨o,jB _ H,j⟩,_,⟨_,jJ _ rfl,U,U⟩,.inr (.inr ⟨C,U,N,d,⟨_,0,jB _ (jJ _ rfl),U⟩,U⟩)⟩
   (λb u q=>jB _ (jB _ q)) ?_ ?_ ?_ ?_
  ·show(d.map _).trans ?_;rw[show(jg es.size).map (λp=>(es.getD p (0,.none)).2)=es.toList.map (·.2)from by
    show zh #[7] λi G M=>?_;have W:i<es.size:=by simpa using G
    simp[QQ,W]]
  ·rw[jn];show JV _
  ·show jM (jJ _ rfl)
  ·rw[jn];show jU (JP _)
  ·show .inr (jE _)
 ·rw[if_neg c];show WX (YB ?_);unfold setEpoch;show WX (WX (YQ O j V (YB ?_)));unfold newFields;show WX (Ww (YB ⟨_,U,"set_iterator",_,⟨_,jJ _ rfl,rfl⟩,SF.slot_next.lookup,?_⟩) #[161]);cases C:Rm w with
  |true=>
   show h _ s.drawn _ S (#[52].toList.map (·.2)) ((EY _ es).map _) ⟨⟨o,jB _ O,j⟩,_,⟨_,jJ _ rfl,U,U⟩,.inl ⟨C,⟨0,U⟩,U⟩⟩
    (λb u q=>jB _ q) (jE _) ?_ (jU f) ?_
   ·rw[jn];show JP _
   ·show .inl rfl
  |false=>
   rw[C]at c;have N:t.plain=true\/es.size<=1:=by
    cases q:t.plain with
    |true=>show .inl rfl
    |false=>
     rw[q]at c;simp at c;show .inr c
   show h _ s.drawn _ S (es.toList.map (·.2)) (List.Perm.refl _) ⟨⟨o,jB _ O,j⟩,_,⟨_,jJ _ rfl,U,U⟩,.inr (.inl ⟨C,N,⟨0,U,T6 R.rise⟩,U⟩)⟩
    (λb u q=>jB _ q) (jE _) ?_ (jU f) ?_
   ·rw[jn];show JP _
   ·show .inl rfl
end
end L2
namespace L2
open PySem PySem.Spec PyProof.Rows
variable{s:qO}{ns:List Int}
theorem LM:∀{ns:List Int} {us:List Value},Vals #[47] us->qA us ns
 |[],_,.nil=>.nil
 |n::r,_,.cons ⟨t,e⟩ z=>by subst e;show .cons n t (LM z)
def bU(ns:List Int):List Int:=ns.foldl step_dedup []
def acu{s:List Int}{v k:Int}:k∈step_dedup s v↔k∈s\/k=v:=by
 unfold step_dedup;split
 ·rename_i h;have N:v∈s:=by simpa using h
  show⟨.inl,λz=>z.elim id λe=>e▸N⟩
 ·simp
theorem FQ:∀(ns s:List Int) (k:Int),k∈ns.foldl step_dedup s↔k∈s\/k∈ns
 |[],s,k=>by simp
 |n::r,s,k=>by
  rw[JO,FQ r,acu,jL];constructor
  ·rintro((h|h)|h)
   ·show .inl h
   ·show .inr (.inl h)
   ·show .inr (.inr h)
  ·rintro(h|h|h)
   ·show .inl (.inl h)
   ·show .inl (.inr h)
   ·show .inr h
def Dx{k:Int}:k∈bU ns↔k∈ns:=by unfold bU;rw[FQ];simp
theorem lh:∀(ns s:List Int),(ns.foldl step_dedup s).length<=s.length+ns.length
 |[],s=>jE _
 |n::r,s=>by
  show jc (lh r _) ?_;have:(step_dedup s n).length<=s.length+1:=by
   unfold step_dedup;split
   ·show JV _
   ·rw[jH];show jE _
  rw[jX];lia
def Dv(ns:List Int):(bU ns).length<=ns.length:=by have q:=lh ns [];unfold bU;simpa using q
end L2
namespace PySem
open PyProof.Rows
end PySem
namespace L2
open PySem PySem.Spec PyProof.Rows
variable{a:Expr}{p:Pos}{ix:List (Option Nat)}{te:TE}{σ:St}{H:Hp}{x:Str}{o:Obj}{kvs:List (Key×V)}{Qd:Qp->Hp->Prop}
def aco{a:Qp}(f:Qp->Nat->List V->Hp->Prop)(X:∀D,H D=Y->f D 0 [] #[53])(C:∀D i ys H',i<=kvs.length->f D i ys H'->H' a=Z #[121])(hs:∀D i p ys H' (l:VK),H D=Y->kvs[i]?=Z p->H' D=Z #[72]->f D i ys H'->#[6] ->
   te (#[71].set 0 (Z (kV p.1))) H' l)(j:∀D ys H',H D=Y->H' D=Z #[72]->f D kvs.length ys H'->Qd D H'):CU (Itd a o kvs) ix (aJ 0) te σ H Qd:=by
 intro D B;show⟨λi m O H'=>m=kvs.length-i/\i<=kvs.length/\#[51]/\∃ys,H' D=Z #[72]/\f D i ys H',⟨kvs.length,by simp,jb _,.inl rfl,[],ae,X D B⟩,?_⟩;exists 12;have q:=C D i ys H' W p;by_cases d:i<kvs.length
 ·show .inr ⟨⟨d,q⟩,λx J y=>?_⟩;let⟨T,g⟩:=y;subst T;have M:=g kvs[i] (jC d);subst M;have I:O.set 0 (Z (kV (kvs[i]).1))=#[71].set 0 (Z (kV (kvs[i]).1)):=by
   exists 32
   ·rw[z]
   ·rw[z,Jy]
  change te (O.set 0 (Z (kV (kvs[i]).1))) _ _;rw[I];show hs D i kvs[i] ys _ _ B (jC d) G p λy R k S h=>⟨ys,k,S,kvs.length-(i+1),by lia,U,d,.inr ⟨_,U⟩,ys++[y],ae,h⟩
 ·have e:i=kvs.length:=by lia
  subst e;show .inl ⟨⟨jE _,q⟩,j D ys H' B G p⟩
end L2
namespace PySem
open PyProof.Rows
variable{prog:qL}{w:World}{K:Type}{A:Around}{E Q:Value->qO->Prop}{s:qO}{h h':Heap}{a D l:Qp}{ts:List Qp}{c:Nat}
section
variable[DecidableEq K]{knd:KeyKind prog w K}
def IsTupleKey.there{ks:List K}(x:qE knd h ks a)(k:∀o,h.get? a=Z o->h'.get? a=Z o):qE knd h' ks a:=let ⟨o,it,n,ho,r⟩:=x;⟨o,it,n,k _ ho,r⟩
def Mu(knd:KeyKind prog w K)(h:Heap)(ts:List Qp)(ps:List #[144]):Prop:=∀(j:Nat) (t:Qp) (p:List K×Qp×Value),ts[j]?=Z t->ps[j]?=Z p->qE knd h p.1 p.2.1/\qD h t #[.ref p.2.1,p.2.2]
def Pe(xs ps:List #[144]):List #[144]:=ps.foldl (λj4 p=>storedH j4 p.1 p.2.1 p.2.2) xs
def aeb{xs:List #[144]}(x:h.DictOfH (WL knd) D xs)(B:∀o,h.get? D=Z o->h'.get? D=Z o)(R:∀p∈xs,∀o,h.get? p.2.1=Z o->h'.get? p.2.1=Z o):h'.DictOfH (WL knd) D xs:=by let⟨o,I,T,O,L,j,c,a,d⟩:=x;show⟨o,I,T,B _ O,L,j,c,λp b=>IsTupleKey.there (a p b) (R p b),d⟩
def Ta(xs:List #[144])(k:List K)(a:Qp)(v:Value):(storedH xs k a v).length<=xs.length+1:=by
 unfold storedH;split
 ·rw[jW];lia
 ·rw[jH];show jE _
def Ey{ps:List #[144]}(C:A.units+2<cLine)(f:A.handled=Y)(u:s.heap.get? l=Z {cls:=.type "list",dict:=Y,data:=.seq #[172].toArray c,slots:=#[]})(e:ts.length=ps.length)(y:Mu knd s.heap ts ps)(hz:ps.length<=sizeLine)(H:∀h' tk,#[45]->h'.DictOfH (WL knd) s.heap.objs.size (Pe [] ps)->Q #[19] {s with heap:=h',toks:=tk}):
  wpAny #[8] A (call #[163] [.ref l]) Q E s:=
 Fx (α:=List K×Qp×Value) (Ds:=λh P=>h.DictOfH (WL knd) s.heap.objs.size P) (Ky:=λh p k=>k=.ref p.2.1/\qE knd h p.1 p.2.1) (val:=λp=>p.2.2) (put:=λP p=>storedH P p.1 p.2.1 p.2.2)
  ⟨λ{h h' P} x B R=>by
   let⟨_,_,_,_,_,_,_,a,_⟩:=id x;show aeb x B λp D o q=>?_;let⟨m,_,_,O,L,_⟩:=a p D;rw[O]at q;cases q;show R _ _ O L,λ{h P} x=>by
   let⟨o,_,_,G,M,_⟩:=x;show⟨o,G,M.1⟩,λ{h h' p k} x R=>⟨x.1,by
   let⟨o,W,n,O,L,r⟩:=x.2;show⟨o,W,n,R _ _ O L,L,r⟩⟩,λ{s P p k Q E} R B hz q=>by
   let⟨rfl,R⟩:=R;show We (knd:=WL knd) (k:=p.1) (by show C) R B (λM T d=>q M _ T λb o g z=>d.extBut b o g z) (JS hz),λP p=>Ta P p.1 p.2.1 p.2.2⟩ f u e (λj t p G M=>⟨_,⟨U,(y j t p G M).1⟩,(y j t p G M).2⟩) hz (Gy s.heap) H
end
end PySem
namespace L2
open PySem PySem.Spec PyProof.Rows
variable{X:Cx}{P:qL}{w:World}{H:Hp}{A:Around}
section
def TM(H:Hp):List Qp->List #[85]->Prop:=qI λt p=>∃b,H t=Z (.tup [.ref b,p.2])/\H b=Z (.tup (p.1.map kV))
theorem FP:∀{kvs:List #[85]} {d:List Qp} {H:Hp} {h:Heap},TM H d kvs->pX P w H h->∃ps:List #[60],KT H kvs ps/\ps.length=d.length/\Mu (bL P w) h d ps
 |[],[],_,_,.nil,_=>⟨[],.nil,rfl,λj t p h=>by simp at h⟩
 |_,_,_,_,.cons (a:=a) (b:=p) (l₁:=d) (l₂:=kvs) q t,ok=>by
  let⟨ps,f,i,e⟩:=FP t ok;let⟨b,g,c⟩:=q;let⟨z,J,F,k⟩:=ok a _ g;let⟨u,v,rfl,N,x⟩:=Vals.two F;cases(show u=Yd b from N);show⟨(p.1,b,v)::ps,.cons ⟨U,c,x⟩ f,by simp[i],λj W n G M=>?_⟩;cases j with
  |zero=>
   simp at G M;subst G M;show⟨Cv ok c,by simpa using k⟩
  |succ j=>show e j W n (by simpa using G) #[155]
def oQ(j4 kvs:List #[85]):List #[85]:=kvs.foldl (λa p=>putK a p.1 p.2) j4
theorem sy:∀(kvs P:List #[85]),(oQ P kvs).length<=P.length+kvs.length
 |[],P=>jE _
 |p::kvs,P=>by have G:=sy kvs (putK P p.1 p.2);have M:=oy P p.1 p.2;change(oQ (putK P p.1 p.2) kvs).length<=_;rw[jX];lia
theorem KT.merge:∀{kvs:List #[85]} {ps:List #[60]} {P:List #[85]} {xs:List #[60]},KT H kvs ps->KT H P xs->KT H (oQ P kvs) (Pe xs ps)
 |[],[],_,_,.nil,r=>r
 |p::kvs,q::ps,P,xs,.cons h t,r=>by let⟨e,B,F⟩:=h;have s:=r.put p.1 B F;rw[e]at s;have i:=KT.merge t s;change KT H (oQ (putK P p.1 p.2) kvs) (Pe (storedH xs q.1 q.2.1 q.2.2) ps);rw[e];show i
inductive af1 (xs:List V) (H:Hp) (Q:VK):Prop|mk (l:_) (ts:_) (kvs:_) (_:xs=[.ref l]) (_:H l=Z (.lst (ts.map V.ref))) (_:TM H ts kvs) (_:∀D,H D=Y->Q #[103] (upd H D (.dT (oQ [] kvs))))
def OQ(L:X.calm=true)(C:X.A.units+2<cLine):iQ X #[163] af1:=by
 intro E s J H K N Q I r h;let⟨l,R,B,rfl,a,D,q⟩:=h;let⟨u,rfl,b⟩:=vals1 r;cases b;let⟨z,S,n,F,j,e⟩:=I.J6 a;have y:=BP F;subst y;let⟨ps,f,i,d⟩:=FP D I.hok;have M:B.length=ps.length:=Paired.length f;have V:ps.length<=sizeLine:=by rw[i];rw[jW]at z;show z
 show Ey (knd:=bL X.prog X.w) C #[117] e i.symm d V λO tk g dd=>?_;have t:bN X.prog X.w (upd H s.heap.objs.size (.dT (oQ [] B))) O s.heap.objs.size (.dT (oQ [] B)):=by
  let⟨o,k,T,G,m,p,v,_,x⟩:=dd;show⟨?_,beq_eq_false_iff_ne.mpr (Ne.symm (jU I.big)),_,(KT.merge f .nil).keeps λc W P=>?_,o,k,T,G,m,p,v,x⟩
  ·have:=sy B [];simp only[Jq]at this;lia
  ·rw[aj (ar P #[43])];show P
 show⟨.ref _,_,I.laid (t':=tk) g (jE _) t,U,q _ #[43]⟩
end
def aeM{k:Nat}(S:eJ k A):A.units+2<cLine:=by have:=S.un;lia
end L2
namespace PySem
variable{prog:qL}{w:World}{A:Around}{E:Value->qO->Prop}{s:qO}{d it:Qp}{es:Array Qu}{ep:Nat}{Q:Option Value->qO->Prop}
section
def Ib(h:Heap)(d:Qp)(es:Array Qu)(ep:Nat):Prop:=∃o,h.get? d=Z o/\o.ExactDict/\o.data=.dict es ep
def Ib.ty(x:Ib s.heap d es ep):s.TypeIs (.ref d) "dict" :=let ⟨o,h1,h2,_⟩:=x;⟨o,h1,h2.1⟩
def Ib.to{h h':Heap}(x:Ib h d es ep)(k:∀o,h.get? d=Z o->h'.get? d=Z o):Ib h' d es ep:=let ⟨o,h1,r,r1⟩:=x;⟨o,k _ h1,r,r1⟩
def RT{Q:Value->qO->Prop}(lo:(d==WJ)=false)(x:Ib s.heap d es ep)(q:Q #[19] {s with heap:=s.heap.push {cls:=.type "dict_keyiterator",data:=.fields #[.ref d,.int 0 0,.int es.size 0,.int ep 0]} }):wpAny #[8] A (pyIter (.ref d)) Q E s:=by have ty:=x.ty;let⟨t,v,D,V⟩:=x;show YG ty xN (Wa xN ty F.entry_dict_iter ?_ (F.args_dict_iter_1 _));unfold Builtin.«dict.__iter__» xu;show WX (WX (Wx ty ?_));change wpAny _ _ (pure (Yd d)) _ _ s;show YB ?_;change wpAny _ _ (Xh d>>=_) _ _ s;unfold Xh;rw[if_neg (λz=>by rw[lo]at z;cases z)];show WX (YB (WX (Wc v V (WX (Wd v V ?_)))));show WX (Ww (YB ⟨_,U,"dict_keyiterator",_,⟨_,jJ _ rfl,rfl⟩,F.slot_dict_keyiterator_next.lookup,?_⟩));simpa[rawInt]using q
def R8{i:Nat}(y:s.heap.IsKeyIter it d i es.size ep)(x:Ib s.heap d es ep)(W:i<es.size)(q:∀h',h'.IsKeyIter it d (i+1) es.size ep->Yj it s.heap h'->Q (Z es[i].key) {s with heap:=h'}):wpAny #[8] A (pyNext #[149]) Q E s:=by
 have ty:=y.typeIs;let⟨h,c,j,e⟩:=id y;let⟨t,v,D,V⟩:=x;unfold pyNext;show WX (WW (WZ (name:=Str.ofString "__next__") ty yE (Wa yE ty yt ?_ (yo _))));show WX (YB (WX (WX ?_)));exists 11;show WX (Wk c e ?_);have g:XA "dict_keyiterator" = false:=by decide
 simp only[g,JW,if_false];change wpAny _ _ (if (Yd d==Yq)=true then _ else _) _ _ s;rw[if_neg #[3]];show WX (YB (WX (Wc v V ?_)));rw[if_neg #[7]];show WX (YB (WX (Wd v V ?_)));rw[if_neg #[7]];show YB ?_;simp only[show ¬ ((i:Int)<0)from by lia,if_false,jG,jy W];exists 34;exists 11;show WX (Wq ty ?_);change wpAny _ _ (setField #[149] 1 (rawInt ((i:Int)+1))>>=_) _ _ s;show WX (YN c e #[7] ?_);have X:(s.heap.update it #[28]).IsKeyIter it d (i+1) es.size ep:=⟨_,jz _ c (Obj.isFreed_of_fields (Obj.data_mapFields e _)),(Obj.cls_mapFields ..).trans j,by rw[Obj.data_mapFields e];simp[rawInt]⟩;show WX (Wn (WX (Wq (s:={s with heap:=s.heap.update it #[28]}) X.typeIs ?_)));change wpAny _ _ (pure es[i].key) _ _ _;show YB (YB ⟨_,U,YB (q _ X (Yi ..))⟩)
def aaO(f:A.handled=Y)(y:s.heap.IsKeyIter it d es.size es.size ep)(x:Ib s.heap d es ep)(q:∀h',XC it s.heap h'->Q Y {s with heap:=h'}):wpAny #[8] A (pyNext #[149]) Q E s:=by
 have ty:=y.typeIs;let⟨h,c,j,e⟩:=id y;let⟨t,v,D,V⟩:=x;unfold pyNext;show WX (WW (WZ (name:=Str.ofString "__next__") ty yE (Wa yE ty yt ?_ (yo _))));show WX (YB (WX (WX ?_)));exists 11;show WX (Wk c e ?_);have g:XA "dict_keyiterator" = false:=by decide
 simp only[g,JW,if_false];change wpAny _ _ (if (Yd d==Yq)=true then _ else _) _ _ s;rw[if_neg #[3]];show WX (YB (WX (Wc v V ?_)));rw[if_neg #[7]];show WX (YB (WX (Wd v V ?_)));rw[if_neg #[7]];show YB ?_;simp only[show ¬ ((es.size:Int)<0)from by lia,if_false,jG,zd (jE es.size)];exists 34;exists 11;change wpAny _ _ (setField #[149] 0 .none>>=_) _ _ s;show WX (YN c e #[7] ?_);change wpAny _ _ (newExc (.type "StopIteration") []>>=_) _ _ _;exists 34;simp only[newExc,newTuple];show WX (Ww (WX (m:=firstArgMember _ _) (Wy (a:=Yq) (by first|rfl|(simp only[firstArgMember];rfl)) (Ww ?_ #[161]))) #[161]);simp only[raiseNew];show WX (Wm ?_);rw[show A.in1.handled=Y from f];show(WX (YB (YU ?fin)));show(WX (Wo (T:="StopIteration") (b:=true) ⟨_,(jJ _ rfl),rfl⟩ qv ?_));show YB (q _ (((Yi ..).extBut.push _).push _))
theorem adG(f:A.handled=Y)(I d:Qp)(t:d≠I)(es:Array Qu)(ep:Nat):
  Walks prog w A I [I,d] [I] es.size (λi v=>∃W:i<es.size,v=es[i].key) (λi h=>h.IsKeyIter I d i es.size ep/\Ib h d es ep) where
 sub:=λb B=>by simp at B;simp[B]
 frame:=λ_ _ _ st R=>⟨st.1.at λo e=>R I #[7] o e,st.2.to λo e=>R d #[7] o e⟩
 item:=λi s Q E W st H=>R8 st.1 st.2 W λO X l=>H _ O s.toks ⟨W,rfl⟩ ⟨X,st.2.to λo e=>l.extBut d o t e⟩ λb o B e=>l.extBut b o (λh=>B (by simp[h])) e
 done:=λs Q E st H=>aaO f st.1 st.2 λO a=>H O s.toks λb o B e=>a b o (λh=>B (by simp[h])) e
 self:=λ_ _ _ _ st H=>wpAny_pyIter_keyiter st.1 H
end
theorem PySem.W.ahN(lo:(d==WJ)=false):PySem.W.KdlSrc prog w "dict" d d es.size (λi v=>∃a:i<es.size,v=es[i].key) (λh=>Ib h d es ep) where
 type:=λ_ x=>x.ty
 there:=λ_ x=>let ⟨_,h1,_,_⟩:=x;⟨jM h1,jM h1⟩
 keep:=λ_ _ x R=>x.to λo e=>R d #[90] o e
 notList:=by decide
 notTuple:=by decide
 hint:=λ_ _ _ _ x l=>PySem.W.kdl_hint_dict x.ty l
 iter:=λ_ s f x=>⟨_,_,(λ_ _ q=>RT lo x q),adG f _ d (let ⟨_,h1,_,_⟩:=x;jU (jM h1)) es ep,⟨⟨_,jJ _ rfl,rfl,rfl⟩,x.to λo e=>jB _ e⟩⟩
end PySem
namespace L2
open PySem PySem.Spec PyProof.Rows
variable{X:Cx}{H:Hp}{K:Yc}{a f d:Qp}{xs:List V}{ix:List (Option Nat)}{te:TE}{σ:St}{Qd:Qp->Hp->Prop}{P prog:qL}{w:World}{mg:Str->Option Value}{base:Heap}{CX:CXT}{fd:Qx}{o3:List (Qp×Obj)}{s:qO}{A:Around}{o:Obj}{kvs:List (List Key×V)}{E:Value->qO->Prop}
section
def aaw(H:Hp):List Qp->List #[85]->Prop:=qI λb p=>H b=Z (.tup (p.1.map kV))
theorem KT.keys:∀{kvs:List #[85]} {xs:List #[60]},KT H kvs xs->aaw H (xs.map λq=>q.2.1) kvs
 |[],[],.nil=>.nil
 |_::_,_::_,.cons h t=>.cons h.2.1 (KT.keys t)
inductive alH (xs:List V) (H:Hp) (Q:VK):Prop|mk (p:_) (kvs:_) (_:xs=[.ref p]) (_:H p=Z (.dT kvs)) (_:∀l bs,H l=Y->aaw H bs kvs->Q #[102] (upd H l (.lst (bs.map V.ref))))
def U0(L:X.calm=true):iQ X (.type "list") alH:=by
 intro o3 s σ H xs z Q I r h;let⟨p,kvs,rfl,D,q⟩:=h;let⟨u,rfl,c⟩:=vals1 r;cases c;let⟨S,lo,xs,E,o,a,T,G,g,B,k,A⟩:=(show bN X.prog X.w H s.heap p (.dT kvs)from I.hok p _ D);have M:kvs.length=xs.length:=Paired.length E;have sz:a.size=xs.length:=by have:=congrArg zI k;rw[jW]at this;simpa using this
 show xM (PySem.W.ahN (es:=a) (ep:=T) lo) #[117] ⟨o,G,g,B⟩ (by rw[sz,<-M];show S) λO tk P i m e K=>?_;have n:P.toList=(xs.map λq=>q.2.1).map Yd:=by
  show QI λj=>?_;rcases Jb j a.size with f|f
  ·have d:j<P.size:=by rw[K.1];show f
   let⟨C,t⟩:=K.2 j P[j] (jy d);have v:a[j]=entryOfKey (WL #[168]) (xs[j]'(by rw[<-sz];show f)):=by have:=congrArg (λl=>l[j]?) k;simp only[JU,jR]at this;rw[jy f,jC (by rw[<-sz];show f)]at this;show Option.some.inj this
   rw[JU,jy d,t,v,jR,jR,jC (by rw[<-sz];show f)];rfl
  ·rw[JE (by rw[jq,K.1];show f),JE (by rw[jW,jW,<-sz];show f)]
 have F:∀bs:List Qp,Vals (bs.map V.ref) (bs.map Yd):=λbs=>by
  induction bs with
  |nil=>show .nil
  |cons b bs x=>show .cons rfl x
 have y:bN X.prog X.w (upd H s.heap.objs.size (.lst ((xs.map λq=>q.2.1).map V.ref))) O s.heap.objs.size (.lst ((xs.map λq=>q.2.1).map V.ref)):=by show⟨by rw[jW,jW,<-M];show S,P.toList,i,by rw[n];show F _,?_⟩;rw[Zl];show e
 show⟨.ref _,_,I.laid (t':=tk) m (jE _) y,U,q _ _ #[43] (KT.keys E)⟩
end
def U6{g:TG}(f:Qp->Nat->List V->Hp->Prop)(m:∀(T:Qp) (σ:St) (H:Hp) (Q:St->Hp->Prop) (i:Int) (x:V),H T=Z #[100]->Q ((σ.set 0 (Z (.int i))).set 1 (Z x)) H->g #[158] σ H Q)(X:∀D,H D=Y->f D 0 [] #[53])(C:∀D i ys H',i<=xs.length->f D i ys H'->mC K H' a xs)(hs:∀D i x ys H' T (l:VK),H D=Y->xs[i]?=Z x->H' D=Z #[72]->f D i ys H'->H' T=Y->#[6] ->
   te ((#[71].set 0 (Z (.int i))).set 1 (Z x)) (upd H' T #[100]) l)(j:∀D ys H',H D=Y->H' D=Z #[72]->f D xs.length ys H'->Qd D H'):CU (adR K a) ix g te σ H Qd:=by
 show U5 (n:=xs.length) (item:=λi=>xs.getD i .non) f m X (λD i ys H' W p=>?_) (λD ys H' p=>⟨xs,C D _ ys H' (jE _) p,jE _⟩) (λD i ys H' T l B W G p r k=>?_) j
 ·have q:=C D i ys H' (JS W) p;show⟨⟨xs,xs[i],q,jC W⟩,λx J y=>?_⟩;let⟨T,u,rfl,r,rfl,y⟩:=y;have e:=y xs q;exists T,rfl,r;change _=upd H' T (.tup [.int i,xs.getD i .non]);rw[jQ,e];rfl
 ·have e:xs.getD i .non=xs[i]:=by rw[jQ,jC W];rfl
  change te ((#[71].set 0 (Z (.int i))).set 1 (Z (xs.getD i .non))) (upd H' T (.tup [.int i,xs.getD i .non])) l;rw[e];show hs D i xs[i] ys H' T l B (jC W) G p r k
def aR.or{k:Nat}{ps:List Str}{sp a:Sp}(F:aR P w K mg base CX k f fd ps sp)(b:aR P w K mg base CX k f fd ps a):
  aR P w K mg base CX k f fd ps (λvs H Q E=>sp vs H Q E\/a vs H Q E):=
 ⟨λvs H Q E q=>q.elim (F.len vs H Q E) (b.len vs H Q E),λA I s H c m vs Q E S R B N hs=>hs.elim (F.run A I s H c m vs Q E S R B N) (b.run A I s H c m vs Q E S R B N)⟩
def aeN{k:Nat}(S:eJ k A):A.units+3<cLine:=by have:=S.un;lia
section
open Classical in
noncomputable def isR(H:Hp)(ns:List Int)(u:Value):Bool:=decide (∃b,u=Yd b/\H b=Z (.tup #[47]))
end
def ady{u r:Value}{Q:PUnit->qO->Prop}(h:wpAny #[8] A (dictSet d u r) (λ_ p=>Q PUnit.unit p) E s):wpAny #[8] A (storeAll d [(u,r)]) Q E s:=by unfold storeAll;simp only[zR,ZC];show WX (WX (Wu h (λ_ p q=>YB (YB q)) λ_ _ e=>e))
end L2
namespace PySem
variable{prog:qL}{w:World}{A:Around}{E Q:Value->qO->Prop}{s:qO}{d:Qp}{n:Nat}
def Mf(d:Qp)(n:Nat)(j:(d==WJ)=false):
  MeetsIn prog w (Builtin.«dict.__len__» {pos:=[Yd d]}) λ_ R s=>(∃o es ep,s.heap.get? d=Z o/\o.data=Data.dict es ep/\es.size=n)/\R (.ok (.ret (Yl (n:Int) s.toks))) {s with toks:=s.toks+1}:=
 MeetsIn.of_wp λA R s ⟨⟨o,es,ep,G,M,B⟩,h⟩=>by
  change wpAny #[8] A.in1 (do
   let x <-dictSize d
   let T <-xv d
   retInt ((x:Int)+(T:Int))) _ _ _
  show WX (WX (Wc G M (YB (WX (wpAny_pendingCount_other j (YJ ?_))))));rw[Qc,B];show h
def ahQ(j:(d==WJ)=false)(ty:s.TypeIs (.ref d) "dict")(J:∃o es ep,s.heap.get? d=Z o/\o.data=Data.dict es ep/\es.size=n)(a:(n:Int)<2^63)(h:Q (Yl (n:Int) (s.toks+1)) {s with toks:=s.toks+1+1}):
  wpAny #[8] A (call (xb "len") [Yd d]) Q E s:=by
 show XM kind_len plain_len entry_len (args_len1 (Yd d)) ?_;change wpAny _ _ _ _ _ _;show WX (YB (WX (WZ ty xU (qY xU ty F.entry_dict_len (F.args_dict_len_1 _) (Mf d n j) ⟨J,?_⟩))));change wpAny _ _ _ _ _ _;show WX (Wn (YB (WX (Ws ?_))));change wpAny _ _ (if _ then _ else _) _ _ _;rw[if_neg #[1]];change wpAny _ _ (if _ then _ else _) _ _ _;rw[if_neg #[1]];show WX (wpAny_mkInt (YB ⟨_,U,h⟩))
end PySem
namespace L2
open PySem PySem.Spec PyProof.Rows
end L2
namespace PySem
variable{prog:qL}{w:World}{A:Around}{E:Value->qO->Prop}{s:qO}{n m:Nat}{a:Qp}{o:Obj}{items:Array Value}{i:Int}
section
def N3{Q:Bool->qO->Prop}(b:s.TypeIs #[44] "tuple")(O:s.heap.get? a=Z o)(j:o.data=.seq items m)(l:∀y∈items.toList,∀Q:Bool->qO->Prop,Q true s->wpAny #[8] A (eqIsQuiet n y) Q E s)(h:Q true s):wpAny #[8] A (eqIsQuiet (n+1) #[44]) Q E s:=by
 rw[eqIsQuiet.eq_def];show WX (YR b F.slot_tuple_eq.lookup ?_);show WX (Wo b isSubtype_tuple_tuple ?_);simp only[Qa,JW,if_false];show WX (YL O j ?_);exists 34;change wpAny _ _ (forIn items _ _) _ _ _;rw[<-Zy];show wpAny_forIn_list _ (λrest r p=>r.fst=Y/\p=s/\∀y∈rest,y∈items.toList) _ ?_ ?_ _ _ ⟨U,U,λy G=>G⟩
 ·rintro v rest ⟨f,i⟩ p ⟨S,rfl,x⟩;show WX (l v (x v jA) _ ?_);simp only[Qa,JW,if_false];show YB ⟨U,U,λy G=>x y (jF _ G)⟩
 ·rintro⟨f,i⟩ p ⟨S,rfl,_⟩;cases(show f=Y from S);show YB h
def aaq{Q:Int->qO->Prop}(h:Q (reduceHash i) s):wpAny #[8] A (pyHashByItsType.reduced i) Q E s:=by
 unfold pyHashByItsType.reduced;unfold reduceHash at h;by_cases c:(decide (-2^63<=i)&&decide (i<2^63))=true
 ·rw[if_pos c];rw[if_pos c]at h;show YB h
 ·rw[if_neg c];rw[if_neg c]at h;show WX (YK (YB h))
end
end PySem
namespace L2
open PySem PySem.Spec PyProof.Rows
variable{P:qL}{w:World}{h h' base:Heap}{c a d Pt f c' b:Qp}{aP us ds:List Value}{ns:List Int}{xs ys more:Array Value}{o:Obj}{es:List Expr}{ep n i:Nat}{A:Around}{E:Value->qO->Prop}{s i4:qO}{y v u dV:Value}{X:Cx}{o3:List (Qp×Obj)}{σ:St}{H H':Hp}{pos p:Pos}{qual x:Str}{params:Qr}{body e:Expr}{scope:Scope}{α β:Type}{cs Ps ts:List Qp}{K:Yc}{mg mb:Str->Option Value}{Tp vs sY:List V}{outer:List Qw}{Q:VK}{t:TA}{tf te:TE}{sp:Sp}{CX:CXT}{fd:Qx}{st:Stmt}{loose:List Str}
theorem RS:∀{ns:List Int} {aP:List Value},qA aP ns->PySem.ItemsAre (qu P w) ns aP
 |_,_,.nil=>.nil
 |_,_,.cons n t r=>.cons (intKind_is P w n t) (RS r)
def HY(h:Heap)(k:Int×List Int)(a:Qp):Prop:=∃(t:Tok) (c:Qp) (aP:List Value),h.IsTuple a #[.int k.1 t,.ref c]/\h.IsTuple c aP.toArray/\qA aP k.2
def HY.tk(p:h.IsTuple c aP.toArray)(q:qA aP ns):qE (qu P w) h ns c:=by let⟨o,G,M,n,B⟩:=p;show⟨o,aP.toArray,n,G,M,B,by simpa using RS q⟩
def Fp(p:h.IsTuple a xs)(q:h.IsTuple a ys):xs=ys:=by let⟨o,G,_,n,B⟩:=p;let⟨m,k,_,c,b⟩:=q;rw[G]at k;cases k;rw[B]at b;cases b;rfl
def FT{es:Array Qu}(p:h.IsTuple a xs)(O:h.get? d=Z o)(j:o.data=Data.dict es ep)(hs:Yj d h h'):h'.IsTuple a xs:=by
 let⟨m,G,M,n,B⟩:=p;have t:a≠d:=λz=>by subst z;rw[G]at O;cases O;rw[B]at j;cases j
 show⟨m,(hs.2 a t).trans G,M,n,B⟩
theorem RQ:∀{aP:List Value} {ns ms:List Int},qA aP ns->qA aP ms->ns=ms
 |_,_,_,.nil,.nil=>rfl
 |_,_,_,.cons n t r,.cons _ _ F=>by rw[RQ r F]
def aeQ(h:qA aP ns):∀y∈aP,carriedByValue y=true:=by
 induction h with
 |nil=>intro y G;cases G
 |cons n t r K=>
  intro y G;rcases jL.mp G with rfl|z
  ·rfl
  ·show K y z
def adt(G:carriedByValue y=true)(Q:Bool->qO->Prop)(h:Q true s):wpAny #[37] A (eqIsQuiet n y) Q E s:=by rw[eqIsQuiet_byValue n G];show YB h
abbrev NK:=Int×List Int
def OW(x:PySem.W.CodeHd h c Pt):isCodeTable h Pt:=by let⟨o,vs,_,_,_,_,_,_,_,G,M,B,k,_⟩:=x;show⟨c,o,vs,G,M,B,k⟩
def HR(h:Heap)(mg:Str->Option Value):Prop:=∃bm o,mg "__builtins__" = Z (.ref bm)/\bm≠builtinsNs/\bm≠qw/\h.get? bm=Z o/\o.cls=.type "module" /\ o.dict=Z builtinsNs/\o.data=.plain
def sh(c:Qp)(qual:Str)(h:Heap):Prop:=∃o vs t,h.get? c=Z o/\o.data=.fields vs/\vs[1]?=Z (.str qual t)
def sV(f:Qp)(qual:Str)(params:Qr)(body:Expr)(scope:Scope)(bB:List #[156])(c':Qp)(h:Heap):Prop:=∃pm Rw,h.get? f=Z (yp "<lambda>" qual params body scope bB pm c' Rw)
def lQ(H:Hp)(Pt:Qp)(qual:Str)(pos:Pos):Prop:=H Pt=Z (.Fo #[])\/∃c',H Pt=Z (.Fo #[rawInt pos.line,rawInt pos.col,.ref c'])/\H c'=Z (.ext (sh c' qual))
def sh.ok(x:sh c qual h):bN P w H h c (.ext (sh c qual)):=
 ⟨x,let ⟨o,_,_,e,_,_⟩:=x;⟨o,e⟩,λG M ⟨o,vs,t,e,r,f⟩ k=>⟨o,vs,t,k o e,r,f⟩⟩
def sV.ok{bB:List #[156]}(x:sV f qual params body scope bB c' h):bN P w H h f #[96]:=
 ⟨x,let ⟨_,_,e⟩:=x;⟨_,e⟩,λG M ⟨g,n,e⟩ k=>⟨g,n,k _ e⟩⟩
structure aka(K:Yc)(mg:Str->Option Value)(base:Heap)(c Pt:Qp):Prop where
 hd:XQ K c Pt=true
 bm:HR base mg
structure auB(qual:Str)(params:Qr)(body:Expr)(scope:Scope)(bB:List (Str×Qp))(pos:Pos)(Pt:Qp)(σ:St)(H:Hp)(Q:VK):Prop where
 h0:lQ H Pt qual pos
 h1:∀(f c':Qp) (H':Hp),H f=Y->H' f=Z #[96]->H' Pt=Z (.Fo #[rawInt pos.line,rawInt pos.col,.ref c'])->H' c'=Z (.ext (sh c' qual))->(∀b u,b≠Pt->H b=Z u->H' b=Z u)->Q #[68] H'
def Inv.table{tk:Nat}{ps:Array Value}(I:Inv X o3 σ H s)(y:H Pt=Z (.Fo ps))(k:∀b o,b≠Pt->s.heap.get? b=Z o->h'.get? b=Z o)(i:h'.get? Pt=Z {cls:=.none,data:=.fields (ps++more)})(p:H' Pt=Z (.Fo (ps++more)))(a:∀b,b≠Pt->b<s.heap.objs.size->H' b=H b)(new:∀b u,s.heap.objs.size<=b->H' b=Z u->bN X.prog X.w H' h' b u):Inv X o3 σ H' {s with heap:=h',toks:=tk}:=by
 have keep:∀b u,b≠Pt->H b=Z u->H' b=Z u:=λb u O e=>by rw[a b O (I.hok.lt e)];show e
 have m:∀b,H b=Y->b≠Pt:=λb n z=>by rw[z,y]at n;cases n
 show I.un ⟨λb o e n _ _=>k b o (m b n) e,λb o e n _ _=>⟨o.slots,k b o (m b n) e⟩,λb o e n _=>by rw[a b (m b n) (jM e)];show n,λb o e _=>?_,λb xs e=>keep b _ (λz=>by rw[z,y]at e;cases e) e,λb o u e=>keep b _ (λz=>by rw[z,y]at e;cases e) e,λb g e=>?_⟩ λb u e=>?_
 ·by_cases B:b=Pt
  ·show⟨_,by rw[B];show i⟩
  ·show⟨o,k b o B e⟩
 ·by_cases B:b=Pt
  ·subst B;rw[y]at e;cases e;show⟨more,p⟩
  ·show⟨#[],by rw[keep b _ B e];simp⟩
 ·by_cases B:b=Pt
  ·subst B;rw[p]at e;cases e;show i
  ·by_cases C:b<s.heap.objs.size
   ·have E:=e;rw[a b B C]at E;show(I.hok b u E).Hj (λc v L q=>k c v ?_ q) (λc q=>keep c _ (λz=>by rw[z,y]at q;cases q) q) λc xs q=>keep c _ (λz=>by rw[z,y]at q;cases q) q;rcases L with rfl|L
    ·show B
    ·intro z;rw[z,y]at L;cases L
   ·show new b u (Jx C) e
def acb:codeAmong pos [rawInt pos.line,rawInt pos.col,v]=Z v:=by change(if ((pos.line:Int)==(pos.line:Int)&&(pos.col:Int)==(pos.col:Int))=true then Z v else _)=Z v;rw[if_pos #[7]]
section
variable{bB:List (Str×Qp)}
def alx(k:aka X.K X.mg X.base c Pt)(M:X.env.code=.ref c)(f:closureFor scope X.env=pure bB)(A:defaultsOf params X.env=([],[]):=by rfl):PE X (.Lambda params body scope pos) (auB #[55] params body scope bB pos Pt):=by
 exists 2;let⟨st,h⟩:=h;show PySem.W.kla_eval A ?_;have a:∃ps,H Pt=Z (.Fo ps):=by rcases st with z|⟨c',z,_⟩<;>show⟨_,z⟩
 let⟨d5,p⟩:=a;have ns:s.heap.Ns qw X.mg:=I.mod.glob.keeps I.bk;have nG:qw≠Pt:=λz=>by let⟨o,es,ep,e,_⟩:=I.mod.glob;have:=(I.bs _ _ e).2;rw[z,p]at this;cases this
 have blt:s.heap.BuiltinsAt X.mg Pt:=by let⟨bm,o,r,j,b3,N,b5,b6,b7⟩:=k.bm;show⟨bm,o,r,j,b3,λz=>?_,I.bk _ _ N,b5,b6,b7⟩;have S:=(I.bs _ _ N).2;rw[z,p]at S;cases S
 have v:=Xr I.Dm k.hd;rcases st with y|⟨c',y,R⟩
 ·have F:s.heap.get? Pt=Z (yb #[]):=I.hok Pt _ y;show PySem.W.kla_makeFunction f I.ok.glob ns M v F trivial rfl nG blt λc' n h' tk ex G h2 cr i=>?_;have m:Pt<s.heap.objs.size:=jM F;have g:s.heap.objs.size<=h'.objs.size:=JS (Jo G h2);let⟨y4,oc,vs,t,e2,l,hd,hv⟩:=cr;cases e2
  let J:Hp:=upd (upd (upd H Pt (.Fo (#[]++#[rawInt pos.line,rawInt pos.col,.ref c']))) c' (.ext (sh c' #[55]))) h'.objs.size (.ext (sV h'.objs.size #[55] params body scope bB c'))
  have T:c'≠h'.objs.size:=jU h2;have V:Pt≠h'.objs.size:=jU (jY m g);have q:Pt≠c':=jU (jY m G);have gP:J Pt=Z (.Fo (#[]++#[rawInt pos.line,rawInt pos.col,.ref c'])):=(aj V).trans ((aj q).trans ae);have gc:J c'=Z (.ext (sh c' #[55])):=(aj T).trans ae;have gf:J h'.objs.size=Z (.ext (sV h'.objs.size #[55] params body scope bB c')):=ae;have d:∀b,b≠Pt->b≠c'->b≠h'.objs.size->J b=H b:=λb x n2 n3=>(aj n3).trans ((aj n2).trans (aj x));have D:=Inv.table (H':=J) (tk:=tk) I y (λb o O e=>jB (yp "<lambda>" #[55] params body scope bB ((X.mg "__name__").getD .none) c' n) (ex b o O e)) (jB _ i) gP
   (λb x C=>d b x (jU (jY C G)) (jU (jY C g))) λb u C e=>by
    by_cases r:b=h'.objs.size
    ·rw[r,gf]at e;cases e;rw[r];show sV.ok ⟨_,_,jJ _ rfl⟩
    ·by_cases j:b=c'
     ·rw[j,gc]at e;cases e;rw[j];show sh.ok ⟨oc,vs,t,jB _ l,hd,hv⟩
     ·rw[d b (λz=>absurd C (by rw[z];show Nat.not_le_of_lt m)) j r,I.hok.fresh C]at e;cases e
  have E:H h'.objs.size=Y:=I.hok.fresh g;have L:H c'=Y:=I.hok.fresh G;show⟨.ref h'.objs.size,J,D,U,h h'.objs.size c' J E gf (by rw[gP];rfl) gc λb u O e=>by rw[d b O (ar e L) (ar e E)];show e⟩
 ·have F:s.heap.get? Pt=Z (yb #[rawInt pos.line,rawInt pos.col,.ref c']):=I.hok Pt _ y;show PySem.W.kla_makeFunctionHit (cv:=.ref c') f I.ok.glob ns M v F ?_ ?_ blt λn h' tk kp G=>?_
  ·show trivial
  ·show acb
  ·have E:H h'.objs.size=Y:=I.hok.fresh G;have new:=sV.ok (P:=X.prog) (w:=X.w) (H:=upd H h'.objs.size (.ext (sV h'.objs.size #[55] params body scope bB c'))) (h:=h'.push (yp "<lambda>" #[55] params body scope bB ((X.mg "__name__").getD .none) c' n)) ⟨_,_,jJ _ rfl⟩;have B:∀b o,s.heap.get? b=Z o->(h'.push (yp "<lambda>" #[55] params body scope bB ((X.mg "__name__").getD .none) c' n)).get? b=Z o:=λb o e=>jB _ (kp b o e);have D:=I.un (t':=tk) (Un.laid B G E) (pX.laid I.hok B G new);show⟨.ref h'.objs.size,_,D,U,h h'.objs.size c' _ E ae (by rw[aj (ar y E)];show y) (by rw[aj (ar R E)];show R) λb u _ e=>by rw[aj (ar e E)];show e⟩
end
def dk(c:Qp)(o:Obj)(h:Heap):Prop:=h.get? c=Z o
def dk.ok(x:dk c o h):bN P w H h c #[115]:=
 ⟨x,⟨o,x⟩,λ_ _ e k=>k _ e⟩
def arc(H:Hp)(c:Qp)(v:V):Prop:=∃o u,H c=Z #[115]/\o.data=.cell (Z u)/\RelV v u
structure Aw(H:Hp)(f c':Qp)(qual:Str)(params:Qr)(body:Expr)(scope:Scope)(bB:List (Str×Qp))(Tp:List V):Prop where
 fn:H f=Z #[96]
 cd:H c'=Z (.ext (sh c' qual))
 cl:qI (λ(p:Str×Qp) v=>arc H p.2 v) bB Tp
 nd:#[83].Nodup
theorem Paired.lookup{F:(Str×α)->β->Prop}:∀{l₁:List (Str×α)} {l₂:List β},qI F l₁ l₂->∀{x:Str} {c:α},l₁.lookup x=Z c->∃v,F (x,c) v
 |_,_,.nil,_,_,e=>by simp at e
 |_,_,.cons (a:=(y,d)) r t,x,c,e=>by
  rw[ju]at e;by_cases h:x=y
  ·subst h;simp at e;subst e;show⟨_,r⟩
  ·rw[show(x==y)=false from beq_false_of_ne h]at e;show Paired.lookup t e
def less(H:Hp)(cs:List Qp):Hp:=λb=>if b∈cs then Y else H b
def back(H:Hp)(cs:List Qp)(H':Hp):Hp:=λb=>if b∈cs then H b else H' b
def rT(h:b∈cs):less H cs b=Y:=if_pos h
def ck(h:b∉cs):less H cs b=H b:=if_neg h
def aaA(h:b∈cs):back H cs H' b=H b:=if_pos h
def pY(h:b∉cs):back H cs H' b=H' b:=if_neg h
def ace:back H cs (less H cs)=H:=by
 funext b;by_cases h:b∈cs
 ·show aaA h
 ·rw[pY h,ck h]
def Cells(H:Hp)(cs:List Qp):Prop:=∀c∈cs,∃o,H c=Z #[115]
section
variable{fs:List Qp}
def pX.ajD(x:pX P w H h)(k:Cells H cs):pX P w (L2.less H cs) h:=λb u e=>by
 have B:b∉cs:=λz=>by rw[rT z]at e;cases e
 rw[ck B]at e;show(x b u e).Hj (λ_ _ _ q=>q) (λc q=>?_) λc xs q=>?_<;>rw[ck]<;>first|show q|(intro z;let⟨o,r⟩:=k _ z;rw[r]at q;cases q)
theorem Un.back(u:Un fs [] (less H cs) H' h h')(k:Cells H cs)(x:pX P w H h)(V:pX P w H' h')(E:∀c∈cs,c∉fs):Un fs [] H (back H cs H') h h'/\pX P w (back H cs H') h':=by
 have O:∀b,H b=Y->b∉cs:=λb n z=>by let⟨o,r⟩:=k _ z;rw[n]at r;cases r
 have a:∀c∈cs,∀o,H c=Z #[115]->h'.get? c=Z o:=λc z o e=>u.keep c o (show dk c o h from(x c _ e).1) (rT z) (E c z) #[7];have d:∀c∈cs,H' c=Y:=λc z=>by let⟨o,e⟩:=k c z;show u.free c o (show dk c o h from(x c _ e).1) (rT z) #[7]
 show⟨⟨λb o e n B _=>u.keep b o e (by rw[ck (O b n)];show n) B #[7],λb o e n B _=>u.slot b o e (by rw[ck (O b n)];show n) B #[7],λb o e n _=>by rw[pY (O b n)];show u.free b o e (by rw[ck (O b n)];show n) #[7],
  λb o e _=>u.there b o e #[7],λb xs e=>?_,λb o v e=>?_,λb ps e=>?_⟩,λb v e=>?_⟩
 ·have B:b∉cs:=λz=>by let⟨o,r⟩:=k _ z;rw[e]at r;cases r
  rw[pY B];show u.tups b xs (by rw[ck B];show e)
 ·have B:b∉cs:=λz=>by let⟨o,r⟩:=k _ z;rw[e]at r;cases r
  rw[pY B];show u.frzs b o v (by rw[ck B];show e)
 ·have B:b∉cs:=λz=>by let⟨o,r⟩:=k _ z;rw[e]at r;cases r
  rw[pY B];show u.tbls b ps (by rw[ck B];show e)
 ·by_cases B:b∈cs
  ·rw[aaA B]at e;let⟨o,r⟩:=k b B;rw[r]at e;cases e;show dk.ok (a b B o r)
  ·rw[pY B]at e;show(V b v e).Hj (λ_ _ _ q=>q) (λc q=>?_) λc xs q=>?_<;>rw[pY]<;>first|show q|(intro z;rw[d _ z]at q;cases q)
end
def aaI(P:qL)(w:World)(K:Yc)(mg:Str->Option Value)(base:Heap)(N:List Str)(qual:Str)(scope:Scope)(f:Qp)(cd:Value)(bB:List #[156])(A:Around)(outer:List Qw)(s:qO)(H:Hp):Cx where
 prog:=P
 w:=w
 K:=K
 mg:=mg
 base:=base
 A:=A.deeper (XR qual scope s.heap.objs.size f cd bB)
 N:=N
 s₀:=s
 H₀:=H
 env:=XR qual scope s.heap.objs.size f cd bB
 outer:=outer
 stack:=XR qual scope s.heap.objs.size f cd bB::outer
 ex:=[]
 calm:=true
 fn:=λ_=>false
 pn:=[]
 xe:=λ_ _=>False
structure Ia(ps fr:List Str)(sc:Scope):Prop where
 kind:sc.kind=.function
 co:sc.isCoroutine=false
 gen:sc.isGenerator=false
 nd:(ps++fr).Nodup
 par:∀x∈ps,sc.names.lookup x=Z .local
 fre:∀x∈fr,sc.names.lookup x=Z .free
 nocell:∀y∈sc.names,y.2≠.cell
 all:∀y∈sc.names,y.2=.free->y.1∈fr
theorem lookup_mem:∀{l:List (Str×α)} {x:Str},x∈l.map (·.1)->∃c,l.lookup x=Z c
 |[],x,h=>by simp at h
 |(y,d)::r,x,h=>by
  rw[ju];by_cases e:x=y
  ·subst e;simp
  ·rw[show(x==y)=false from beq_false_of_ne e];show lookup_mem (by simpa[e]using h)
def X6{l:List #[156]}{y:Str}(o:(l.map (·.2)).Nodup)(G:l.lookup x=Z c)(M:l.lookup y=Z c):x=y:=by
 have N:=Yn G;have O:=Yn M;have J:∀{l:List #[156]},(l.map (·.2)).Nodup->(x,c)∈l->(y,c)∈l->x=y:=by
  intro l
  induction l with
  |nil=>intro _ h;simp at h
  |cons p r K=>
   intro o N O;let⟨F,u⟩:=jm.mp (show(p.2::r.map (·.2)).Nodup from o);rcases jL.mp N with T|N
   ·rcases jL.mp O with g|O
    ·rw[<-T]at g;cases g;rfl
    ·show absurd (jK.mpr ⟨(y,c),O,by rw[<-T]⟩) F
   ·rcases jL.mp O with g|O
    ·show absurd (jK.mpr ⟨(x,c),N,by rw[<-g]⟩) F
    ·show K u N O
 show J o N O
theorem Paired.at{F:α->β->Prop}:∀{l₁:List α} {l₂:List β},qI F l₁ l₂->∀{i:Nat} {b:β},l₂[i]?=Z b->∃a,l₁[i]?=Z a/\F a b
 |_,_,.nil,i,b,e=>by simp at e
 |_,_,.cons r t,0,b,e=>by simp at e;subst e;show⟨_,U,r⟩
 |_,_,.cons r t,i+1,b,e=>by let⟨a,G,M⟩:=Paired.at t (i:=i) (by simpa using e);show⟨a,by simpa using G,M⟩
theorem wB:∀{l:List (Str×α)} {x:Str} {c:α},(l.map (·.1)).Nodup->(x,c)∈l->l.lookup x=Z c
 |[],_,_,_,h=>by simp at h
 |(y,d)::r,x,c,o,h=>by
  let⟨F,u⟩:=jm.mp (show(y::r.map (·.1)).Nodup from o);rw[ju];rcases jL.mp h with e|h
  ·cases e;simp
  ·have t:x≠y:=λe=>F (by rw[<-e];show jK.mpr ⟨(x,c),h,rfl⟩);rw[show(x==y)=false from beq_false_of_ne t];show wB u h
theorem abX:∀{ps:List Str} {us:List Value},(#[152].map (·.1)).Sublist ps
 |[],_=>by simp
 |_::_,[]=>by simp
 |p::ps,u::us=>by change(p::#[152].map (·.1)).Sublist (p::ps);show abX.cons₂ p
def J5{ps:List Str}(o:ps.Nodup)(G:ps[i]?=Z x)(M:us[i]?=Z u):#[152].reverse.lookup x=Z u:=by
 show wB ?_ (List.mem_reverse.mpr (JT (i:=i) ?_))
 ·rw[List.map_reverse];show List.pairwise_reverse.mpr (List.Pairwise.imp (λh=>Ne.symm h) (List.Nodup.sublist ?_ o));show abX
 ·rw[ZQ];show⟨G,M⟩
section
variable{k:Nat}{bB:List (Str×Qp)}{ps:List Str}{t:TE}
def ahP(S:Ia ps (bB.map (·.1)) scope)(L:Aw H f c' qual params body scope bB Tp)(hr:eJ (k+1) A)(d:Ot P w K mg base A outer s H)(r:Vals vs us)(C:vs.length=ps.length)(RF:∀pm Rw,bindArgs (xW "<lambda>" qual params body scope bB pm (.ref c') Rw) ⟨us,[]⟩=pure #[152])(n:PE (aaI P w K mg base (ps++bB.map (·.1)) qual scope f (.ref c') bB A outer s (less H #[83])) body t)(ht:t ((vs++Tp).map Z) (less H #[83]) λv H'=>Q v (back H #[83] H')):
  codeAny #[37] A (.call #[68] ⟨us,[]⟩) (λr x=>∃u,r=.ok (.ret u)/\CE outer P w H s Q u x) s:=by
 obtain⟨pm,Rw,ef⟩:sV f qual params body scope bB c' s.heap:=(d.hok f _ L.fn).1;obtain⟨oc,cv,tc,e1,e2,e3⟩:sh c' qual s.heap:=(d.hok c' _ L.cd).1;have j:Cells H #[83]:=λc D=>by
  let⟨⟨y,B⟩,hm,rfl⟩:=jK.mp D;let⟨i,l⟩:=List.getElem?_of_mem hm;have F:i<Tp.length:=by rw[<-L.cl.length];show(jk.mp l).1
  let⟨a,G,o,u,M,_⟩:=Paired.at L.cl (jC F);rw[l]at G;cases G;show⟨o,M⟩
 have N:s.heap.NoLimit:=d.mod.nolimit.keeps λb o e=>(d.bs b o e).1;have V:∀c∈bB.map (·.2),c∉frs outer:=λc D z=>by let⟨o,e⟩:=j c D;rw[d.frf c z]at e;cases e
 show PySem.W.kla_callFunE hr.depth ef rfl S.co S.gen rfl ⟨c',oc,cv,tc,U,e1,e2,e3⟩ ?_;rw[RF];show YB (Wv S.nocell (λy g=>S.par y.1 (zQ (show(y.1,y.2)∈ps.zip us from g)).1) (λO T E=>⟨N.fresh _ E,?_⟩) S.kind);have R:∀b o,s.heap.get? b=Z o->O.get? b=Z o:=λb o e=>E.extBut b o (jU (jM e)) (jB _ e);have m:∀b:Qp,b∉([]:List Qp):=λb z=>absurd z #[7];have I:Inv (aaI P w K mg base (ps++bB.map (·.1)) qual scope f (.ref c') bB A outer s (less H #[83])) [] ((vs++Tp).map Z) (less H #[83]) {s with heap:=O,toks:=s.toks+#[152].length}:=by
  show⟨⟨d.mod,S.kind,U,U,jE _,λy z c G M=>X6 L.nd G M,λy g=>?_,λy c h=>(nomatch h),λ_=>hr.hd,Around.frames_deeper d.frames,.inr ⟨U,U⟩,λb z=>absurd z (m b),λb o e=>⟨(d.bs b o e).1,?_⟩,d.bsz,λb _ _=>m b,λb z=>absurd z (m b),d.Cs,λb n=>?_⟩,
   rfl,d.bare,Un.kept R,⟨_,T,λi y v G M h3=>?_⟩,λy c h=>?_,?_,λy c h=>rT (jK.mpr ⟨(y,c),Yn h,rfl⟩),λp hp=>absurd (show p∈([]:List #[56])from hp) #[7],(d.hok.ajD j).kept R,?_⟩
  ·have g:scope.names.lookup y=Z .cell\/scope.names.lookup y=Z .free:=g;rcases g with g|g
   ·show absurd rfl (S.nocell _ (Yn g))
   ·show lookup_mem (S.all _ (Yn g) rfl)
  ·change less H #[83] b=Y;by_cases z:b∈bB.map (·.2)
   ·show rT z
   ·rw[ck z];show(d.bs b o e).2
  ·change less H #[83] b=Y;by_cases z:b∈bB.map (·.2)
   ·show rT z
   ·rw[ck z];show d.frf b n
  ·have G:(ps++bB.map (·.1))[i]?=Z y:=G;rw[jR]at M;by_cases l:i<vs.length
   ·rw[JA l]at M;have X:vs[i]?=Z v:=by
     cases e:vs[i]? with
     |none=>rw[e]at M;cases M
     |some a=>rw[e]at M;cases M;rfl
    rw[JA (by rw[<-C];show l)]at G;let⟨u,hu,rv⟩:=r.get X;have y4:ps.Nodup:=(JM.mp S.nd).1;show⟨u,rv,.inl ⟨S.par y (JT G),?_⟩⟩;change#[152].reverse.lookup y=Z u;show J5 y4 G hu
   ·rw[JD (Jx l)]at M;rw[JD (by rw[<-C];show Jx l),<-C]at G;have X:Tp[i-vs.length]?=Z v:=by
     cases e:Tp[i-vs.length]? with
     |none=>rw[e]at M;cases M
     |some a=>rw[e]at M;cases M;rfl
    let⟨⟨y2,B⟩,g1,o,u,g2,g3,g4⟩:=Paired.at L.cl X;rw[jR,g1]at G;cases G;show⟨u,g4,.inr ⟨.inr (S.fre y2 (jK.mpr ⟨(y2,B),JT g1,U⟩)),B,?_,o,R _ _ (show dk B o s.heap from(d.hok B _ g2).1),g3⟩⟩;show wB (JM.mp S.nd).2.1 (JT g1)
  ·let⟨v,o,u,g2,g3,g4⟩:=Paired.lookup L.cl h;show⟨Z u,o,R _ _ (show dk c o s.heap from(d.hok c _ g2).1),g3⟩
  ·change less H #[83] s.heap.objs.size=Y;by_cases z:s.heap.objs.size∈bB.map (·.2)
   ·show rT z
   ·rw[ck z];show d.hok.fresh (jE _)
  ·change((vs++Tp).map Z).length=(ps++bB.map (·.1)).length;rw[jW,jH,jH,jW,C,L.cl.length]
 show PySem.W.kla_codeExpr (Wu (n [] _ _ _ _ I ht) (λu x ⟨v,H',J,rv,q⟩=>?_) λe x z=>False.elim z);let⟨un,d5⟩:=Un.back J.base j d.hok J.hok V;show⟨u,U,v,_,J.os,J.bare,un,d5,rv,q⟩
end
def FnV(v:V)(H:Hp):Prop:=∃f qual params body scope bB c',v=.ref f/\H f=Z #[96]
def LR(X:Cx)(R:V->List V->Hp->VK->Prop):Prop:=∀(o3:List #[56]) (s:qO) (σ:St) (H:Hp) (f:Qp) (vs:List V) (us:List Value) (Q:VK),Inv X o3 σ H s->Vals vs us->R #[68] vs H Q->wpAny #[4] X.A (call #[68] us) #[76] X.xe s
def al2(R:V->List V->Hp->VK->Prop)(tf:TE)(t:TA):TE:=λσ H Q=>tf σ H λv H1=>FnV v H1/\t σ H1 λvs H2=>FnV v H2/\R v vs H2 Q
section
variable{R:V->List V->Hp->VK->Prop}
def FnV.at{v:V}(F:FnV v H)(A:pX P w H h)(r:RelV v u):∃f,v=.ref f/\u=.ref f/\PySem.W.FnAt f h:=by let⟨f,qual,params,body,scope,bB,c',rfl,e⟩:=F;obtain rfl:u=Yd f:=r;obtain⟨g,n,z⟩:sV f qual params body scope bB c' h:=(A f _ e).1;show⟨f,U,U,_,_,_,_,z⟩
def afF(b:PE X (.Name x p) tf)(c:PA X (e::es) t)(L:LR X R)(d:WE (e::es) X.env=#[29]::WE es X.env:=by rfl)(y:#[34].any (·.1)=false:=by rfl):PE X #[32] (al2 R tf t):=by exists 2;show WR (cw (b o3 s σ H _ I h) λu T ⟨v,g,P,r,F,q⟩=>?_);let⟨f,rfl,rfl,N⟩:=F.at P.hok r;show PySem.W.callWith_F N (cw (c pos o3 T σ g _ P q) λus n ⟨vs,J,G,i,j,l⟩=>?_) d y;let⟨m,k,o,a⟩:=j.at G.hok (show RelV (V.ref f) (Yd f)from rfl);cases k;show⟨a,L o3 n σ J f vs us Q G i l⟩
end
def alc{k:Nat}{ps fr:List Str}(a:eJ (k+1) X.A)(S:Ia ps fr scope)(b:∀(us:List Value),us.length=ps.length->∀qual bB c' g n,bindArgs (xW "<lambda>" qual params body scope bB g (.ref c') n) ⟨us,[]⟩=pure #[152])(B:∀(qual:Str) (f c':Qp) (bB:List #[156]) (s:qO) (H:Hp),bB.map (·.1)=fr->eJ k (X.A.deeper (XR qual scope s.heap.objs.size f (.ref c') bB))->
   PE (aaI X.prog X.w X.K X.mg X.base (ps++fr) qual scope f (.ref c') bB X.A X.stack s H) body te):
  LR X λv vs H Q=>vs.length=ps.length/\∃f c' qual bB Tp,v=.ref f/\bB.map (·.1)=fr/\Aw H f c' qual params body scope bB Tp/\te ((vs++Tp).map Z) (less H #[83]) λv H'=>Q v (back H #[83] H'):=by
 intro o3 s σ H T vs us Q I r ⟨C,f,c',qual,bB,Tp,c,E,L,p⟩;cases c;subst E;show WY (qd (ahP (k:=k) S L a I.ahj r C (λg n=>b us (by rw[<-r.length];show C) qual bB c' g n) (B qual T c' bB s _ rfl (a.deeper _)) p) λr h ⟨u,e,d⟩=>?_);subst e;show I.after d
def al1(sp:Sp)(sY:List V)(c:Qp)(i:Nat)(t:TA):TE:=λσ H Q=>t σ H λvs H1=>∃v,σ[i]?=Z (Z v) /\
 ∀o u,H1 c=Y->o.data=.cell (Z u)->RelV v u->sp (vs++sY) (upd H1 c #[115]) (λv' H'=>H' c=Z #[115]/\Q v' (less H' [c])) E0
section
variable{y:Str}{j k:Nat}{ps:List Str}
theorem af6(F:aR X.prog X.w X.K X.mg X.base cO k f fd ps sp)(hr:eJ k X.A)(B:Binds X.K fd ps ds)(p:Vals sY ds)(hN:X.N[i]?=Z y)(hv:X.env.scope.names.lookup y=Z .cell)(x:X.fn y=true)(l:X.env.cells.lookup y=Z c)(I:Inv X o3 σ H s)(r:Vals vs us)(h:∃v,σ[i]?=Z (Z v)/\∀o u,H c=Y->o.data=.cell (Z u)->RelV v u->sp (vs++sY) (upd H c #[115]) (λG H'=>H' c=Z #[115]/\Q G (less H' [c])) E0):
  wpAny #[4] X.A (call #[68] us) #[76] X.xe s:=by
 let⟨v,D,h⟩:=h;let⟨m,_,hl⟩:=I.loc;let⟨u,rv,E⟩:=hl i y v hN D (.inr (.inl hv));rcases E with⟨hk,_⟩|⟨_,c2,C,o,O,R⟩
 ·have Hs:X.env.scope.names.lookup y=Z .local:=hk;rw[hv]at Hs;cases Hs
 rw[l]at C;cases C;have L:H c=Y:=I.freeC y c l;have hq:=h o u L R rv;have a:X.s₀.heap.objs.size<=c:=I.ok.cab y c x l;have S:∀b o,X.base.get? b=Z o->b≠c:=λb o e z=>by have:=jY (jM e) (jc I.ok.bsz a);rw[z]at this;show JZ _ this
 have V:∀b∈frs X.stack,b≠c:=λb B z=>by
  rcases jL.mp (I.LF b B)with e|B
  ·show I.cne y c l (z.symm.trans e)
  ·let⟨_,o,O,_⟩:=I.ok.Cs.mem B;have:=jY (jM O) a;rw[z]at this;show JZ _ this
 have y4:pX X.prog X.w (upd H c #[115]) s.heap:=λb w e=>by
  by_cases B:b=c
  ·rw[B,ae]at e;cases e;rw[B];show dk.ok O
  ·rw[aj B]at e;show(I.hok b w e).Hj (λ_ _ _ q=>q) (λd q=>by rw[aj (ar q L)];show q) λd xs q=>by rw[aj (ar q L)];show q
 have T:=I.ahj;have e0:Ot X.prog X.w X.K X.mg X.base X.A X.stack s (upd H c #[115]):=⟨T.frames,T.mod,λb o e=>⟨(T.bs b o e).1,by rw[aj (S b o e)];show(T.bs b o e).2⟩,T.bsz,T.Cs,λb B=>by rw[aj (V b B)];show T.frf b B,y4,T.bare⟩;have r2:Vals (vs++sY) (us++ds):=r.append p;have M:(us++ds).length=ps.length:=by rw[<-r2.length];show F.len _ _ _ _ hq
 show WY (qd (F.run X.A X.stack s _ ⟨us,[]⟩ (us++ds) (vs++sY) _ E0 hr e0 (B s us I.Dm M) r2 hq) λr s' P=>?_);cases r with
 |error e=>show False.elim P
 |ok fl=>
  cases fl with
  |next=>show False.elim P
  |brk=>show False.elim P
  |cont=>show False.elim P
  |ret u'=>
   let⟨G,H',os,j,un,g,d5,EF,q'⟩:=P;have oc:s'.heap.get? c=Z o:=(g c _ EF).1;have W:∀b,b≠c->b∉[c]:=λb n z=>n (by simpa using z);show I.after ⟨G,less H' [c],os,j,⟨λb t e n B J=>?_,λb t e n B J=>?_,λb t e n J=>?_,λb t e J=>un.there b t e J,λb xs e=>?_,λb t z e=>?_,λb qs e=>?_⟩,g.ajD λd p=>?_,d5,q'⟩
   ·by_cases z:b=c
    ·subst z;rw[O]at e;cases e;show oc
    ·show un.keep b t e (by rw[aj z];show n) B J
   ·show un.slot b t e (by rw[aj (V b B)];show n) B J
   ·by_cases z:b=c
    ·show rT (by simp[z])
    ·rw[ck (W b z)];show un.free b t e (by rw[aj z];show n) J
   ·have z:b≠c:=ar e L;rw[ck (W b z)];show un.tups b xs (by rw[aj z];show e)
   ·have z':b≠c:=ar e L;rw[ck (W b z')];show un.frzs b t z (by rw[aj z'];show e)
   ·have z:b≠c:=ar e L;rw[ck (W b z)];show un.tbls b qs (by rw[aj z];show e)
   ·obtain rfl:d=c:=by simpa using p
    show⟨o,EF⟩
def alw(G:bh X.prog X.w X.K X.mg X.base x k ps sY sp)(S:eJ j X.A)(W:PA X (e::es) t)(T:X.N[i]?=Z y)(b:X.env.scope.names.lookup y=Z .cell)(L:X.env.cells.lookup y=Z c)(O:X.fn y=true:=by rfl)(hkj:k<=j:=by decide)(m:Gl X x:=by rfl)(a:#[36]=false:=by decide)(R:WE (e::es) X.env=#[29]::WE es X.env:=by rfl)(d:#[34].any (·.1)=false:=by rfl):
  PE X #[32] (al1 sp sY c i t):=by
 let⟨f,fd,ds,g,l,n,B,F⟩:=G.ex;exists 2;show WR (Hx I m g ?_ a);show yP (h₀:=X.base) I.ok.mod.kin l (cw #[80] λus o ⟨vs,u,P,r,q⟩=>⟨P.Dm,?_⟩) R d;show af6 F (S.mono hkj) B n T b O L P r q
end
def bu.okL{N ps:List Str}{k:Nat}(F:bu K x qual st dV f fd)(L:fd.code=.ref c)(S:aA N ps (aq st))(len:∀vs H Q E,sp vs H Q E->vs.length=ps.length)(z:∀(A:Around) (outer:List Qw) (s:qO) (H:Hp) (vs:List V) (Q:VK) (E:XK),eJ k (A.deeper (envOfC qual (aq st) s.heap.objs.size f (.ref c)))->sp vs H Q E ->
   ∃t,Ti (bH cO P w K mg base N qual (aq st) f (.ref c) A outer s H E).eY (cT st) t/\t {nx:=λ_ H'=>Q .non H',rt:=Q} (start N vs) H):aR P w K mg base cO (k+1) f fd ps sp:=by
 let⟨m,b,kV,i,g,d,j,e,l,rfl,M,D⟩:=F.ex;obtain rfl:j=.ref c:=L;show ajg M D S len λA outer s H vs Q E a X=>?_;let⟨t,h,q⟩:=z A outer s H vs Q E a X;show⟨t,h.eY,q⟩
open Classical in
noncomputable def avZ(cells:List #[156])(h:Heap)(H:Hp):Hp:=λb=>if ∃y,cells.lookup y=Z b then(h.get? b).map λo=>.ext (dk b o)else H b
def TL(Ps:List Qp)(H:Hp):Prop:=(∀b∈Ps,H b=Z (.Fo #[]))/\∀b,b∉Ps->H b=Y\/∃o xs,H b=Z (.B2 o #[133])
theorem X3{k:Nat}{N:Qp}{vs:List Value}(KX:K.In i4.heap)(f:i4.heap.Ns qw mg)(B:i4.heap.Ns builtinsNs mb)(D:∀x:Str,x ≠ "__name__" -> mb x=qV x)(I:i4.heap.NoLimit)(hg:i4.gens=#[])(W:i4.heap.get? a=Z {cls:=.type "list",data:=.seq vs.toArray})(hi:qA vs ns)(hl:ns.length<=sizeLine)(hr:eJ k callerA)(y:∀b∈Ps,isCodeTable i4.heap b/\i4.heap.get? b=Z (yb #[])/\K.lookup b=Y)(J:HR i4.heap mg)(F:∀base:Heap,K.In base->base.Ns qw mg->HR base mg->aR P w K mg base CX k N fd [x] sp)(RF:∀(s:qO) (u:Value),Qs s fd ⟨[u],[]⟩ [(x,u)])(X:∀H:Hp,TL Ps H->mC K H a #[47]->sp [.ref a] H (λv _=>v=.bl true) λ_ _ _=>False)(M:∀H e p,CX [] H i4 (λ_ _ _=>False) e p->False):
  codeAny #[37] callerA (.call (.ref N) ⟨[.ref a],[]⟩) (λr p=>r=.ok (.ret (.bool true))/\OldK i4.heap p.heap/\p.os=i4.os/\Qq p.gens) i4:=by
 have rv:=Om hi;have Q:=hi.length;have c:∀H:Hp,TL Ps H->mC K H a #[47]->pX P w H i4.heap->(∀b,H b≠Y->b=a\/b∈Ps)->(H a≠Y->K.lookup a=Y)->
   codeAny #[37] callerA (.call (.ref N) ⟨[.ref a],[]⟩) (λr p=>r=.ok (.ret (.bool true))/\OldK i4.heap p.heap/\p.os=i4.os/\Qq p.gens) i4:=by
  intro H R hS A S hK;have free:∀{b:Qp} {o:Obj},i4.heap.get? b=Z o->o.cls≠.none->b≠a->H b=Y:=λ{b o} e d na=>by
   cases q:H b with
   |none=>rfl
   |some u=>
    rcases S b (by rw[q];simp)with E|E
    ·show absurd E na
    ·rw[(y b E).2.1]at e;cases e;show absurd rfl d
  have OO:∀{b:Qp} {o:Obj},i4.heap.get? b=Z o->H b=Y->(Ma i4.heap H).get? b=Z o:=λe n=>aeF e n;have y4:∀{b:Qp} {o:Obj} {es:Array Qu} {ep:Nat},i4.heap.get? b=Z o->o.data=.dict es ep->H b=Y:=λ{b o es ep} e d=>by
   cases q:H b with
   |none=>rfl
   |some u=>
    rcases S b (by rw[q];simp)with E|E
    ·subst E;rw[W]at e;cases e;have d':Data.seq vs.toArray _=Data.dict es ep:=d;cases d'
    ·rw[(y b E).2.1]at e;cases e;have d':Data.fields #[]=Data.dict es ep:=d;cases d'
  have t:∀{b:Qp} {m:Str->Option Value},i4.heap.Ns b m->(Ma i4.heap H).Ns b m:=λ{b m} ⟨o,es,ep,e,d,r⟩=>⟨o,es,ep,OO e (y4 e d),d,r⟩;have C:K.In (Ma i4.heap H):=λb o e=>OO (KX b o e) (by
   cases q:H b with
   |none=>rfl
   |some u=>
    rcases S b (by rw[q];simp)with E|E
    ·subst E;rw[hK (by rw[q];simp)]at e;cases e
    ·rw[(y b E).2.2]at e;cases e)
  have hB:HR (Ma i4.heap H) mg:=by let⟨bm,o,b1,b2,b3,O,b5,b6,b7⟩:=J;show⟨bm,o,b1,b2,b3,OO O (free O (by rw[b5];intro z;cases z) λz=>?_),b5,b6,b7⟩;rw[z,W]at O;cases O;cases b7
  have hM:Mod K mg (Ma i4.heap H):=⟨C,t f,⟨mb,t B,D⟩,let ⟨mc,h1,h2⟩:=I;⟨mc,t h1,h2⟩⟩;have e0:Ot P w K mg (Ma i4.heap H) callerA [] i4 H:=⟨rfl,hM,λb o e=>ah3 e,Zv (acO _ _),trivial,λb B=>absurd (show b∈([]:List Qp)from B) #[7],A,.of_eq hg⟩;show qd ((F _ C (t f) hB).run callerA [] i4 H ⟨[.ref a],[]⟩ [.ref a] [.ref a] _ _ hr e0 (RF i4 #[44]) (.cons rfl .nil) (X H R hS)) λr p h=>?_;cases r with
  |error e=>show(M H e p h).elim
  |ok fl=>
   cases fl with
   |next=>show False.elim h
   |brk=>show False.elim h
   |cont=>show False.elim h
   |ret u=>
    let⟨v,H',os,j,un,g,r',q⟩:=h;have q':v=.bl true:=q;subst q';obtain rfl:u=yk true:=r';have d5:∀b o,i4.heap.get? b=Z o->asItWas i4.heap p.heap b o:=λb o e=>by
     by_cases B:b∈Ps
     ·let⟨h1,h2,_⟩:=y b B;rw[h2]at e;cases e;let⟨more,z⟩:=un.tbls b _ (R.1 b B);have z2:p.heap.get? b=Z {cls:=.none,data:=.fields (#[]++more)}:=g b _ z;show .inr (.inl ⟨h1,U,#[],more,U,z2⟩)
     ·show .inl ?_;cases q:H b with
      |none=>show un.keep b o e q (by intro z;show absurd (show b∈([]:List Qp)from z) #[7]) #[7]
      |some u=>
       rcases R.2 b B with z|⟨ob,xs,z⟩
       ·rw[q]at z;cases z
       ·have z2:=un.frzs b ob _ z;let⟨e1,_⟩:=A b _ z;let⟨e2,_⟩:=g b _ z2;rw[e]at e1;cases e1;show e2
    show⟨U,⟨d5,λb o e=>un.there b o e #[7]⟩,os,j⟩
 have l:a∉Ps:=λz=>by have:=(y a z).2.1;rw[W]at this;cases this
 obtain⟨T,eT⟩:∃T:Hp->Hp,∀G b,T G b=if b∈Ps then Z (.Fo #[])else G b:=⟨λG b=>if b∈Ps then Z (.Fo #[])else G b,λ_ _=>rfl⟩
 have L:∀{G:Hp} {b:Qp},b∈Ps->T G b=Z (.Fo #[]):=λ{G b} h=>(eT G b).trans (if_pos h);have i:∀{G:Hp} {b:Qp},b∉Ps->T G b=G b:=λ{G b} h=>(eT G b).trans (if_neg h);cases hk:K.lookup a with
 |some o=>
  have e:=KX a o hk;rw[W]at e;cases e;show c (T λ_=>Y) ⟨λb B=>L B,λb B=>.inl (i B)⟩ (.inr ⟨_,vs.toArray,_,hk,U,U,U,by rw[jP,Q];show hl,by simpa using rv⟩) (λb u z=>?_) (λb z=>?_) λz=>absurd (i l) z
  ·by_cases B:b∈Ps
   ·rw[L B]at z;cases z;show(y b B).2.1
   ·rw[i B]at z;cases z
  ·by_cases B:b∈Ps
   ·show .inr B
   ·show absurd (i B) z
 |none=>
  obtain⟨G,eG⟩:∃G:Hp,∀b,G b=if b=a then Z (.B2 {cls:=.type "list",data:=.seq vs.toArray} (.lst #[47]))else Y:=⟨_,λ_=>rfl⟩
  have g1:G a=Z (.B2 {cls:=.type "list",data:=.seq vs.toArray} (.lst #[47])):=(eG a).trans (if_pos rfl);have g2:∀{b:Qp},b≠a->G b=Y:=λ{b} h=>(eG b).trans (if_neg h);show c (T G) ⟨λb B=>L B,λb B=>?_⟩ (.inl (.inr ⟨{cls:=.type "list",data:=.seq vs.toArray},(i l).trans g1⟩)) (λb u z=>?_) (λb z=>?_) λ_=>hk
  ·by_cases h:b=a
   ·subst h;show .inr ⟨_,_,(i B).trans g1⟩
   ·show .inl ((i B).trans (g2 h))
  ·by_cases B:b∈Ps
   ·rw[L B]at z;cases z;show(y b B).2.1
   ·rw[i B]at z;by_cases h:b=a
    ·subst h;rw[g1]at z;cases z;show⟨W,by rw[jW];show hl,vs,_,rv,W⟩
    ·rw[g2 h]at z;cases z
  ·by_cases B:b∈Ps
   ·show .inr B
   ·rw[i B]at z;by_cases h:b=a
    ·show .inl h
    ·show absurd (g2 h) z
structure TV(K:Yc)(ts:List Qp)(c Pt:Qp):Prop where
 hd:XQ K c Pt=true
 nl:K.lookup Pt=Y
 tm:Pt∈ts
def adE{l:yq}{k:Nat}{q:qL}{j:(Str->Option Value)->Heap->Prop}{J:World->Heap->Prop}{d:DefRec}{K:Params->Yc}{CX:World->CXT}{sp:World->List Qp->Sp}(r:l.most=Z n)(R:n<=sizeLine)(A:d.params.defaults=[])(S:eJ k callerA)(m:∀(w:World) (h:Heap),J w h->#[128].In h/\∀P,P∈ts->h.get? P=Z (yb #[]))(F:∀(w:World) (mg:Str->Option Value) (N:Qp) (h:Heap),#[128].In h->h.Ns qw mg->mg d.name=Z (.ref N)->
   ∃(fd:Qx) (Ps:List Qp),(∀b∈Ps,∃c,TV #[128] ts c b)/\(∀(s:qO) (u:Value),Qs s fd ⟨[u],[]⟩ [(x,u)]) /\
    ∀base:Heap,#[128].In base->base.Ns qw mg->HR base mg->aR l.prog w #[128] mg base (CX w) k N fd [x] (sp w Ps))(X:∀(w:World) (Ps:List Qp) (H:Hp) (a:Qp) (ns:List Int),ns.length<=n->TL Ps H->mC #[128] H a #[47]->sp w Ps [.ref a] H (λv _=>v=.bl true) λ_ _ _=>False)(i:∀(w:World) (H:Hp) (s:qO) (e:Value) (p:qO),CX w [] H s (λ_ _ _=>False) e p->False):
  xf q loose j J l.row.toRowW d [] (λf vs=>xQ f vs):=by
 show Att.Rg r A λw L i4 mg mb N o pm cd O a vs ns G E ho hd W0 W t y M hg=>?_;have Q:=(m w _ E).1;let⟨fd,Ps,hT,B,hF⟩:=F w mg N _ Q G.T.g W;have I:HR i4.heap mg:=by let⟨bm,ob,b1,b2,C,b4,b5,D⟩:=G.T.bmain;show⟨bm,ob,b1,b2,λz=>?_,C,b4,b5,D⟩;let⟨og,es,ep,e1,e2,_⟩:=G.T.g;rw[z,e1]at C;cases C;rw[e2]at D;cases D
 show X3 Q G.T.g G.T.b G.T.builtins G.T.nolimit hg t y (jc M R) S (λb B=>?_) I hF B (λH hO hS=>X w Ps H a ns M hO hS) λH e p=>i w H i4 e p;let⟨c,T⟩:=hT b B;show⟨OW (Xr Q T.hd),(m w _ E).2 b T.tm,T.nl⟩
end L2
namespace PySem
variable{prog:qL}{w:World}{A:Around}{s:qO}{E:Value->qO->Prop}{us:List Value}{d m:Nat}{a:Qp}{o:Obj}
section
inductive Tx (prog:qL) (w:World) (A:Around) (s:qO):List Value->List Int->Nat->Prop
 |nil:Tx prog w A s [] [] 0
 |cons {u:Value} {hu:Int} {du:Nat} {us:List Value} {hs:List Int} {d:Nat} (h:∀(E:Value->qO->Prop) (t:Nat) (Q:Int->qO->Prop),Q hu {s with toks:=t+du}->wpAny #[8] A (pyHash u) Q E {s with toks:=t}) (r:Tx prog w A s us hs d):Tx prog w A s (u::us) (hu::hs) (du+d)
def Tx.loop{E:Value->qO->Prop}{hs:List Int}(x:Tx prog w A s us hs d):∀(P:Array Int) (t:Nat) (Q:Array Int->qO->Prop),Q (P++hs.toArray) {s with toks:=t+d}->wpAny #[8] A (forIn us P λx hs=>do let i <-pyHash x;pure (ForInStep.yield (hs.push i))) Q E {s with toks:=t}:=by
 induction x with
 |nil=>
  intro P t Q h;rw[ZC];show YB #[154]
 |cons C r K=>
  intro P t Q h;rw[zR];show WX (WX (C _ t _ (YB ?_)));show K _ _ _ ?_;rw[Qb];simpa using h
def acK{hs:List Int}{Q:Int->qO->Prop}(S:A.units<cLine)(r:s.TypeIs #[44] "tuple")(O:s.heap.get? a=Z o)(j:o.data=.seq us.toArray m)(x:Tx prog w A.in1 s us hs d)(h:Q (reduceHash (yT hs)) {s with toks:=s.toks+(d+1)}):wpAny #[8] A (pyHash #[44]) Q E s:=by
 change wpAny _ _ (pyHashByItsType #[44]) _ _ _;unfold pyHashByItsType;show WX (wpAny_cRoomFor_or (.inr S) (WX (YR r F.slot_tuple_hash.lookup ?_)));rw[if_neg (by rw[qU "tuple.__hash__"];show jZ)];show WX (YR r F.slot_tuple_hash.lookup ?_);show WX (wpAny_callSpecialIfBoundUnlessNone?_slot r xF (Wa xF r F.entry_tuple_hash ?_ (F.args_tuple_hash_1 _)));change wpAny #[8] A.in1 (do
  let t <-yR #[44]
  let hs <-forIn t #[] λx hs=>do
   let i <-pyHash x
   pure (ForInStep.yield (hs.push i))
  retInt (yT hs.toList)) _ _ _
 show WX (wpAny_tupleItemsOf O j (WX ?_));rw[<-Zy];show x.loop #[] s.toks _ ?_;show YJ ?_;change wpAny _ _ (pyHashByItsType.reduced _) _ _ {s with toks:=s.toks+d+1};rw[Qb];have e:(#[]++hs.toArray).toList=hs:=by simp
 rw[e];show aaq h
end
end PySem
namespace L2
open PySem PySem.Spec PyProof.Rows
variable{h h':Heap}{cs:List Qp}{A:Around}{s:qO}{b d:Qp}{P:qL}{w:World}{H:Hp}{κ:Type}{v:Value}{o:Obj}
abbrev LK:=List (List Int)
inductive iT (h:Heap):List Qp->LK->Prop
 |nil:iT h [] []
 |cons {c:Qp} {aP:List Value} {ns:List Int} {cs:List Qp} {k:LK} (p:h.IsTuple c aP.toArray) (q:qA aP ns) (r:iT h cs k):iT h (c::cs) (ns::k)
def iT.at(f:∀c xs,h.IsTuple c xs->h'.IsTuple c xs){k:LK}(r:iT h cs k):iT h' cs k:=by
 induction r with
 |nil=>show .nil
 |cons p q r K=>show .cons (f _ _ p) q K
theorem iT.one{k:LK}(r:iT h cs k):∀{t:LK},iT h cs t->k=t:=by
 induction r with
 |nil=>intro t F;cases F;rfl
 |cons p q r K=>
  intro t F;cases F with
  |cons n D F=>
   have z:=congrArg ZS (Fp p n);simp only at z;subst z;rw[RQ q D,K F]
def iT.len{k:LK}(r:iT h cs k):cs.length=k.length:=by
 induction r with
 |nil=>rfl
 |cons p q r K=>rw[jX,jX,K]
def OC(h:Heap)(k:LK)(a:Qp):Prop:=∃cs:List Qp,h.IsTuple a (cs.map Yd).toArray/\iT h cs k
def Sz{c:List Qp}(z:(cs.map Yd).toArray=(c.map Yd).toArray):cs=c:=by have:=congrArg ZS z;simp only at this;show List.map_inj_right (λx y e=>Gz e) |>.mp (by simpa using this)
theorem iT.eq{A:Around}{s:qO}(hs:s.heap=h)(S:A.units<cLine):∀{cs c:List Qp} {x y:LK},iT h cs x->iT h c y->∀(j:Nat) (G:j<cs.length) (M:j<c.length),yQ A s (.ref cs[j]) (.ref c[j]) (decide (x[j]?=y[j]?))
 |_,_,_,_,.nil,_,j,G,_=>absurd G (zF _)
 |_,_,_,_,.cons _ _ _,.nil,j,_,M=>absurd M (zF _)
 |_,_,_,_,.cons p q r,.cons n D F,0,_,_=>by subst hs;have e:=λa w E Q h=>wpAny_eqBool_tuple (A:=A) (E:=E) (s:=s) (Q:=Q) (knd:=qu a w) S (HY.tk p q) (HY.tk n D) h;intro a w E Q l;show e a w E Q ?_;simpa using l
 |_,_,_,_,.cons p q r,.cons n D F,j+1,G,M=>by have:=iT.eq hs S r F j (zc G) (zc M);simpa using this
def all_eq(x y:LK):((jg (min x.length y.length)).all (λj=>decide (x[j]?=y[j]?))&&x.length==y.length)=decide (x=y):=by
 by_cases c:x=y
 ·subst c;simp
 ·rw[decide_eq_false c];by_cases l:x.length=y.length
  ·rw[Bool.and_eq_false_iff];left;rw[<-Bool.not_eq_true,List.all_eq_true];intro z;show c (QI λj=>?_);by_cases f:j<x.length
   ·show of_decide_eq_true (z j (js.mpr #[1]))
   ·rw[JE #[1],JE #[1]]
  ·rw[beq_false_of_ne l,Zi]
def ahR{x y:LK}{a:Qp}(S:A.units+1<cLine)(J:OC s.heap x a)(G:OC s.heap y b):yQ A s #[44] (.ref b) (decide (x=y)):=by
 let⟨cs,P,m⟩:=J;let⟨c,E,l⟩:=G;by_cases e:a=b
 ·subst e;have z:=Sz (Fp P E);subst z;rw[decide_eq_true (m.one l)];show yn _
 ·have z:=xG (A:=A) (e:=λj=>decide (x[j]?=y[j]?)) P E #[1] λj d M=>by
   have v:j<cs.length:=by simpa using d
   have D:j<c.length:=by simpa using M
   have:=iT.eq (A:=A.in1) (s:=s) rfl (by change A.units+1<cLine;show S) m l j v D;simpa using this
  have g:((jg (min ((cs.map Yd).toArray).size ((c.map Yd).toArray).size)).all (λj=>decide (x[j]?=y[j]?))&&((cs.map Yd).toArray).size==((c.map Yd).toArray).size)=decide (x=y):=by rw[<-all_eq x y,<-m.len,<-l.len];simp
  rw[g]at z;show Xz e z
def aoR(P:qL)(w:World)(k:LK):Int:=reduceHash (yT (k.map (tupleKeyHash (qu P w))))
def X1(k:LK):Nat:=(k.map λns=>ns.length+1).sum
def iT.hs(S:A.units<cLine){k:LK}(r:iT s.heap cs k):Tx P w A s (cs.map Yd) (k.map (tupleKeyHash (qu P w))) (X1 k):=by
 induction r with
 |nil=>show .nil
 |cons p q r K=>
  unfold X1;rw[jt,jt,jt,List.sum_cons];show .cons (λE W Q l=>wpAny_pyHash_tuple (knd:=qu P w) (s:={s with toks:=W}) S (HY.tk p q) l) K
def aoS(P:qL)(w:World):HeapKind P w LK where
 is:=OC
 hash:=aoR P w
 draws:=λk=>X1 k+1
 room:=λA=>A.units+1<cLine
 inj:=λ{h a x y} hx hy=>by let⟨cs,p1,p2⟩:=hx;let⟨cs',q1,q2⟩:=hy;have z:=Sz (Fp p1 q1);subst z;show p2.one q2
 keeps:=λ{h h' k a d o es ep} x ho hd hs=>by let⟨cs,p1,p2⟩:=x;show⟨cs,FT p1 ho hd hs,p2.at λc xs q=>FT q ho hd hs⟩
 pyHash:=λ{A E s k a Q} hr hk h=>by
  let⟨cs,p1,p2⟩:=hk;have hT:s.TypeIs #[44] "tuple" :=by let⟨o,h1,h2,_⟩:=p1;show⟨o,h1,h2⟩
  let⟨o,h1,h2,m,h3⟩:=p1;show acK #[1] hT h1 h3 (p2.hs (by change A.units+1<cLine;show hr)) h
 eqBool:=λ{A E s x y a b Q} hr hx hy h=>ahR hr hx hy P w E Q h
 quiet:=λ{A E s k a Q} hk h=>by
  let⟨cs,p1,p2⟩:=hk;let⟨o,h1,h2,m,h3⟩:=p1;show N3 (n:=7) ⟨o,h1,h2⟩ h1 h3 (λy hy Q hq=>?_) h;have:∀{cs:List Qp} {k:LK},iT s.heap cs k->y∈cs.map Yd->wpAny #[37] A (eqIsQuiet 7 y) Q E s:=by
   intro cs k r
   induction r with
   |nil=>intro hy;cases hy
   |cons p q r ih=>
    intro hy;rcases jL.mp hy with rfl|z
    ·let⟨o',g1,g2,m',g3⟩:=p;show N3 (n:=6) ⟨o',g1,g2⟩ g1 g3 (λy hy Q hq=>adt (aeQ q y (by simpa using hy)) Q hq) hq
    ·show ih z
  show this p2 (by simpa using hy)
def sk(H:Hp)(k:LK)(b:Qp):Prop:=∃cs:List Qp,H b=Z (.tup (cs.map V.ref))/\qI (λc ns=>H c=Z (.tup #[47])) cs k
def sk.same{H':Hp}{k:LK}(h:sk H k b)(s:∀b xs,H b=Z #[42]->H' b=Z #[42]):sk H' k b:=by
 let⟨c,T,g⟩:=h;exists c,s _ _ T;clear T
 induction g with
 |nil=>show .nil
 |cons p r K=>show .cons (s _ _ p) K
def sk.is{k:LK}(ok:pX P w H h)(x:sk H k b):OC h k b:=by
 let⟨cs,T,g⟩:=x;let⟨S,J,r,p⟩:=(show bN P w H h b (.tup (cs.map V.ref))from ok b _ T);have y:=BP r;subst y;exists cs,p;clear T r p S
 induction g with
 |nil=>show .nil
 |cons q r K=>
  let⟨_,t,i,m⟩:=(show bN P w H h _ (.tup _)from ok _ _ q);show .cons m (LM i) K
structure KK(κ:Type)[DecidableEq κ] where
 kd:∀(P:qL) (w:World),HeapKind P w κ
 kat:Hp->κ->Qp->Prop
 same:∀{H H':Hp} {k:κ} {b:Qp},kat H k b->(∀b xs,H b=Z #[42]->H' b=Z #[42])->kat H' k b
 is:∀{P:qL} {w:World} {H:Hp} {h:Heap} {k:κ} {b:Qp},pX P w H h->kat H k b->(kd P w).is h k b
 room:∀(P:qL) (w:World) (A:Around),A.units+1<cLine->(kd P w).room A
def kkL:KK LK:=⟨aoS,sk,sk.same,sk.is,λ_ _ _ h=>h⟩
def kkI:KK (List Int):=⟨λP w=>WL (qu P w),λH k b=>H b=Z (.tup (k.map V.int)),λh s=>s _ _ h,λ{P w H h k b} ok x=>by let⟨_,LW,r2,p2⟩:=(show bN P w H h _ (.tup _)from ok _ _ x);show HY.tk p2 (LM r2),λP w A h=>by change A.units<cLine;lia⟩
def Tj(vf:Nat->V):Nat->List #[78]->List (κ×Qp×Value)->Prop
 |_,[],xs=>xs=[]
 |n,p::ks,xs=>∃v xs',xs=(p.1,p.2,v)::xs'/\RelV (vf n) v/\Tj vf (n+1) ks xs'
section
variable[DecidableEq κ]{vf:Nat->V}{k:κ}
theorem Tj.snoc:∀{ks:List #[78]} {n:Nat} {xs:List (κ×Qp×Value)},Tj vf n ks xs->RelV (vf (n+ks.length)) v->Tj vf n (ks++[(k,b)]) (xs++[(k,b,v)])
 |[],n,xs,h,r=>by cases(show xs=[]from h);show⟨v,[],U,r,U⟩
 |p::ks,n,xs,h,r=>by let⟨W,a,rfl,F,h'⟩:=h;show⟨W,_,U,F,Tj.snoc h' ?_⟩;rw[show n+1+ks.length=n+(p::ks).length by rw[jX];lia];show r
theorem Tj.keys:∀{ks:List #[78]} {n:Nat} {xs:List (κ×Qp×Value)},Tj vf n ks xs->xs.map (λx=>(x.1,x.2.1))=ks
 |[],n,xs,h=>by cases(show xs=[]from h);rfl
 |p::ks,n,xs,h=>by let⟨W,a,rfl,F,h'⟩:=h;rw[jt,Tj.keys h']
theorem Tj.none:∀{ks:List #[78]} {n:Nat} {xs:List (κ×Qp×Value)},Tj vf n ks xs->k∉ks.map (·.1)->atKey xs k=Y
 |[],n,xs,h,_=>by cases(show xs=[]from h);rfl
 |p::ks,n,xs,h,R=>by let⟨W,a,rfl,F,h'⟩:=h;have K:=Tj.none h' λz=>R (jF _ z);unfold atKey at K ⊢;rw[Zg (by simpa using λz=>R (by rw[<-z];show jA))];show K
theorem Tj.there:∀{ks:List #[78]} {n j:Nat} {xs:List (κ×Qp×Value)},Tj vf n ks xs->#[97].Nodup->#[97][j]?=Z k->∃b v,atKey xs k=Z (b,v)/\RelV (vf (n+j)) v
 |[],n,j,xs,h,_,R=>by cases R
 |p::ks,n,0,xs,h,o,R=>by let⟨W,a,rfl,F,h'⟩:=h;cases(show Z p.1=Z k from R);show⟨p.2,W,?_,F⟩;unfold atKey;rw[List.find?_cons_of_pos #[7]];rfl
 |p::ks,n,j+1,xs,h,o,R=>by let⟨W,a,rfl,F,h'⟩:=h;have g:=jm.mp o;have E:#[97][j]?=Z k:=R;let⟨b,t,e,r⟩:=Tj.there h' g.2 E;show⟨b,t,?_,by rw[show n+(j+1)=n+1+j by lia];show r⟩;unfold atKey at e ⊢;rw[Zg (by simpa using λz=>g.1 (by change p.1∈_;rw[z];show JT E)),e]
end
def wm[DecidableEq κ](kk:KK κ)(P:qL)(w:World)(d:Qp)(vf:Nat->V)(ks:List #[78])(o:Obj)(h:Heap):Prop:=(d==WJ)=false/\ks.length<=sizeLine/\#[97].Nodup/\∃xs es ep,Tj vf 0 ks xs/\h.get? d=Z o/\o.ExactDict/\o.data=.dict es ep/\es.toList=xs.map (entryOfKey (kk.kd P w))
def wm.keep[DecidableEq κ]{f:KK κ}{a:Nat->V}{ks:List #[78]}(x:wm f P w d a ks o h)(k:∀o,h.get? d=Z o->h'.get? d=Z o):wm f P w d a ks o h':=
 let ⟨a1,a2,a3,xs,es,ep,a4,a5,a6,a7,a8⟩:=x;⟨a1,a2,a3,xs,es,ep,a4,k o a5,a6,a7,a8⟩
def wm.obj[DecidableEq κ]{f:KK κ}{a:Nat->V}{ks:List #[78]}(x:wm f P w d a ks o h):h.get? d=Z o:=let ⟨_,_,_,_,_,_,_,a5,_,_,_⟩:=x;a5
def anf[DecidableEq κ](kk:KK κ)(H:Hp)(ks:List #[78]):Prop:=∀p∈ks,kk.kat H p.1 p.2
section
variable[DecidableEq κ]{kk:KK κ}{vf:Nat->V}{ks:List (κ×Qp)}
def ajC(ok:pX P w H h)(x:wm kk P w d vf ks o h)(R:anf kk H ks):∃xs,Tj vf 0 ks xs/\h.DictOfH (kk.kd P w) d xs:=by
 let⟨L,k,a,xs,I,T,b,c,f,e,g⟩:=x;have n:=b.keys;show⟨xs,b,o,I,T,c,f,e,g,λx J=>?_,?_⟩
 ·show kk.is ok (R (x.1,x.2.1) (by rw[<-n];show jK.mpr ⟨x,J,U⟩))
 ·have:xs.map (λx=>x.1)=ks.map (·.1):=by rw[<-n,JQ];rfl
  rw[this];show a
end
section
variable[DecidableEq κ]
end
section
variable[DecidableEq κ]
end
end L2
namespace PySem
variable{prog:qL}{w:World}{A:Around}{s:qO}{d:Qp}{E:Value->qO->Prop}{Q:Unit->qO->Prop}
section
variable{u v:Value}
def Y0(j:(d==WJ)=false):MeetsIn prog w (Builtin.«dict.get» ⟨[.ref d,u],[]⟩) (λA R s=>∀E,wpAny #[8] A.in1 (dictGet d u) (λr p=>R (.ok (.ret (r.getD .none))) p) E s):=
 .of_wp λA R s h=>by
  change wpAny _ _ (dictGet d u>>=_) _ _ s;show WX (Wu (h _) (λr p q=>?_) λ_ _ e=>e);cases r with
  |some v=>show YB ⟨v,rfl,q⟩
  |none=>
   change wpAny _ _ (Gn d u>>=_) _ _ _;show WX (wpAny_missed_other j (YB ⟨.none,U,q⟩))
def aiF(ty:s.TypeIs (.ref d) "dict")(h:∀E,wpAny #[8] A.in1 (dictSet d u v) (λ_ p=>Q () p) E s):wpAny #[8] A (setItem (.ref d) u v) Q E s:=by
 unfold setItem
 try with_reducible show Wn ?_
 show WX (YM ty #[9] ?_);show WX (WZ (name:=Str.ofString "__setitem__") ty Xs (Wa Xs ty F.entry_dict_setitem ?_ (F.args_dict_setitem_3 _ _ _)));change wpAny _ _ (GR "__setitem__" ⟨[.ref d,u,v],[]⟩>>=_) _ _ s;show WX (Wx ty ?_);change wpAny _ _ (dictSet d u v>>=_) _ _ s;show WX (Wu (h _) (λ_ p q=>YB ⟨.none,U,YB q⟩) λ_ _ e=>e)
end
end PySem
namespace L2
open PySem PySem.Spec PyProof.Rows
variable{κ:Type}{P prog:qL}{w:World}{H:Hp}{h base:Heap}{d l a b I S it:Qp}{o:Obj}{X:Cx}{o3:List (Qp×Obj)}{σ:St}{s:qO}{pos w4:Pos}{v:Value}{e tg:Expr}{K:Yc}{tl te:TE}{ix:List (Option Nat)}{Qd:Qp->Hp->Prop}{es:List Expr}{n ep j:Nat}{A:Around}{E Q:Value->qO->Prop}{vs:List Value}{ss ns:List Str}{u:Tok}{t:qN}{wd:Bool}{R:Result->qO->Prop}{fp:List Qp}{items:Array Value}
structure KD(κ:Type)[DecidableEq κ] where
 val:κ->Qp->V
 kat:Hp->κ->Qp->Prop
 same:∀{H H':Hp} {k:κ} {b:Qp},kat H k b->(∀b xs,H b=Z #[42]->H' b=Z #[42])->kat H' k b
 D:qL->World->Qp->List #[78]->Obj->Heap->Prop
 obj:∀{P:qL} {w:World} {d:Qp} {ks:List #[78]} {o:Obj} {h:Heap},D P w d ks o h->h.get? d=Z o
 keep:∀{P:qL} {w:World} {d:Qp} {ks:List #[78]} {o:Obj} {h h':Heap},D P w d ks o h->h'.get? d=Z o->D P w d ks o h'
 raw:∀{P:qL} {w:World} {d:Qp} {ks:List #[78]} {o:Obj} {h:Heap},D P w d ks o h->(d==WJ)=false/\ks.length<=sizeLine/\∃es,Ib h d es (lR o)/\es.size=ks.length/\∀(j:Nat) (hj:j<es.size) (p:κ×Qp),ks[j]?=Z p->RelV (val p.1 p.2) es[j].key
 new:∀{P:qL} {w:World} (h:Heap),WJ<h.objs.size->D P w h.objs.size [] {cls:=.type "dict",data:=.dict #[]} (h.push {cls:=.type "dict",data:=.dict #[]})
 get:∀{P:qL} {w:World} {A:Around} {E:Value->qO->Prop} {s:qO} {H:Hp} {d b:Qp} {k:κ} {ks:List #[78]} {o:Obj} {u:Value} {Q:Option Value->qO->Prop},A.units+1<cLine->pX P w H s.heap->D P w d ks o s.heap->(∀p∈ks,kat H p.1 p.2)->kat H k b->RelV (val k b) u ->
  (∀t',(∀j:Nat,#[97][j]?=Z k->∀t,Q (Z (.int (j:Int) t)) {s with toks:=t'})/\(k∉ks.map (·.1)->Q Y {s with toks:=t'}))->wpAny #[37] A (dictGet d u) Q E s
 put:∀{P:qL} {w:World} {A:Around} {E:Value->qO->Prop} {s:qO} {H:Hp} {d b:Qp} {k:κ} {ks:List #[78]} {o:Obj} {u v:Value} {Q:Unit->qO->Prop},A.units+1<cLine->pX P w H s.heap->D P w d ks o s.heap->(∀p∈ks,kat H p.1 p.2)->kat H k b->RelV (val k b) u->k∉ks.map (·.1)->ks.length<sizeLine->RelV (.int (ks.length:Int)) v ->
  (∀h' o' t',D P w d (ks++[(k,b)]) o' h'->Yj d s.heap h'->Q () {s with heap:=h',toks:=t'})->wpAny #[37] A (dictSet d u v) Q E s
section
variable[DecidableEq κ]
def KDH(kd:KD κ)(P:qL)(w:World)(d:Qp)(ks:List #[78])(h:Heap):Prop:=∃o,kd.D P w d ks o h
abbrev eZ(kd:KD κ)(P:qL)(w:World)(d:Qp)(ks:List #[78]):HO:=.ext (KDH kd P w d ks)
abbrev sj(kd:KD κ)(P:qL)(w:World)(d:Qp)(ks:List #[78])(o:Obj):HO:=.ext (kd.D P w d ks o)
abbrev PKs(kd:KD κ)(H:Hp)(ks:List #[78]):Prop:=∀p∈ks,kd.kat H p.1 p.2
def aeT{kd:KD κ}{ks:List #[78]}(x:kd.D P w d ks o h):bN P w H h d (eZ kd P w d ks):=
 ⟨⟨o,x⟩,⟨o,kd.obj x⟩,λG M y k=>let ⟨o,y⟩:=y;⟨o,kd.keep y (k _ (kd.obj y))⟩⟩
def ak0{kd:KD κ}{ks:List #[78]}(x:kd.D P w d ks o h):bN P w H h d (sj kd P w d ks o):=
 ⟨x,⟨o,kd.obj x⟩,λG M y k=>kd.keep y (k _ (kd.obj y))⟩
def MT{kd:KD κ}{ks:List #[78]}(I:Inv X o3 σ H s)(e:H d=Z (eZ kd X.prog X.w d ks)):∃o,kd.D X.prog X.w d ks o s.heap:=
 (show bN X.prog X.w H s.heap d (eZ kd X.prog X.w d ks)from I.hok d _ e).1
def al8(kd:KD κ)(P:qL)(w:World)(trs:List (TE×TE)):TE:=λσ H Q=>∀p,H p=Y->PJ trs σ (upd H p (eZ kd P w p [])) λps H2=>H2 p=Z (eZ kd P w p [])/\∃b k,ps=[(kd.val k b,.int 0)]/\kd.kat H2 k b/\Q (.ref p) (upd H2 p (eZ kd P w p [(k,b)]))
inductive aiR (kd:KD κ) (P:qL) (w:World) (ty:TE) (σ:St) (Q:VK) (x:V) (H1:Hp):Prop|mk (d:_) (ks:_) (_:x=.ref d) (_:H1 d=Z (eZ kd P w d ks)) (_:ty σ H1 λy H2=>∃b k,y=kd.val k b/\H2 d=Z (eZ kd P w d ks)/\PKs kd H2 ks/\kd.kat H2 k b/\(∀j:Nat,#[97][j]?=Z k->Q (.int (j:Int)) H2)/\(k∉ks.map (·.1)->Q .non H2))
def apQ(kd:KD κ)(P:qL)(w:World)(td ty:TE):TE:=λσ H Q=>td σ H (aiR kd P w ty σ Q)
def apB(kd:KD κ)(P:qL)(w:World)(td ty tv:TE):TS:=λD σ H=>tv σ H λv H1=>td σ H1 λx H2=>ty σ H2 λy H3=>∃d b k ks,x=.ref d/\y=kd.val k b/\v=.int (ks.length:Int)/\H3 d=Z (eZ kd P w d ks)/\PKs kd H3 ks/\kd.kat H3 k b/\k∉ks.map (·.1)/\ks.length<sizeLine/\D.nx σ (upd H3 d (eZ kd P w d (ks++[(k,b)])))
variable{kd:KD κ}{pos':Pos}{o i value:Expr}{td ty tv:TE}
def afH{k v:Expr}{i:List (TE×TE)}(C:X.A.units+2<cLine)(h:PPs X pos [Z k] [v] i):PE X (.Dict [Z k] [v] pos) (al8 kd X.prog X.w i):=by
 intro o3 s σ H Q I q;have L:=I.hok.fresh (jE s.heap.objs.size);have P:=I.laid (a:=s.heap.objs.size) (o:=eZ kd X.prog X.w s.heap.objs.size []) (h':=s.heap.push {cls:=.type "dict",data:=.dict #[]}) (t':=s.toks) (λ_ _ q=>jB _ q) (jE _) (aeT (kd.new s.heap I.big));show wpAny_Dict_any rfl rfl #[3] (by change 1<=15;decide) (cw (h o3 _ σ _ _ P (q _ L)) λg n ⟨ps,J,G,f,e,b,c,ep,B,l⟩=>?_);subst ep;obtain⟨u,y,d,N,j⟩:∃u y,g=[(u,y)]/\RelV (kd.val c b) u/\RelV (.int 0) y:=by
  cases f with
  |cons r t=>
   cases t;show⟨_,_,U,r.1,r.2⟩
 subst d;let⟨E,x⟩:=MT G e;show ady (kd.put (ks:=[]) #[1] G.hok x (λp D=>by cases D) B N #[70] (by change 0<sizeLine;decide) j λO m W V hs=>⟨.ref s.heap.objs.size,_,rP G #[77] hs ⟨m,kd.obj V⟩ (aeT V),U,l⟩)
def aio{z:Pos}(hu:X.A.units+2<cLine)(O:PE X o td)(R:PE X e ty)(m:M1 X o "get" w4 e z):PE X (.Call (.Attribute o "get" w4) [e] [] z) (apQ kd X.prog X.w td ty):=by
 exists 2;show WS m.base m.B1 m.line yC yG Xf (cw #[111] λu T ⟨x,f,P,g,d,ks,M,i,E⟩=>?_);subst M;obtain rfl:u=Yd d:=g;let⟨n,l⟩:=MT P i;let⟨_,_,D6,⟨_,v,D,_⟩,_⟩:=kd.raw l;show⟨⟨_,v,D.1⟩,λb q=>?_,?_⟩
 ·cases q;show⟨_,v,D.2.1⟩
 rw[m.trees];show Yx rfl (yK (Yu (cw (R o3 T σ f _ P E) λiv s2 ⟨y,J,G,p,b,k,N,r,B,C,K,L⟩=>yI ?_)));subst N;let⟨ob,V⟩:=MT G r;let⟨S,_,es,a,_⟩:=kd.raw V;show qY yG a.ty yg (PySem.F.args_dict_get_2 _ _) (Y0 S) λE'=>kd.get (by change X.A.units+1+1<cLine;lia) G.hok V B C p λt'=>⟨λj W t=>⟨.int (j:Int),J,G.tok _,⟨t,U⟩,K j W⟩,λc=>⟨.non,J,G.tok _,U,L c⟩⟩
def aiw(K:X.A.units+2<cLine)(O:PE X o td)(W:PE X i ty)(N:PE X value tv)(hs:WI value (Z (.Subscript o i pos')) pos.line X.env=pure false):
  PS X (.Assign [.Subscript o i pos'] value pos) (apB kd X.prog X.w td ty tv):=by
 exists 17;show WQ (cw (N o3 s σ H _ I h) λr T ⟨v,c,P,F,E⟩=>cw (O o3 T σ c _ P E) λu n ⟨x,J,G,f,l⟩=>cw (W o3 n σ J _ G l) λL Q ⟨y,S,j,g,d,b,k,ks,M,m,p,e,R,B,q,C,t⟩=>?_) hs;subst M m p;obtain rfl:u=Yd d:=f;let⟨ob,x⟩:=MT j e;let⟨a1,_,es,a,_⟩:=kd.raw x;show aiF a.ty λE'=>kd.put (by change X.A.units+1+1<cLine;lia) j.hok x R B g q C F λh' z t' V hs=>⟨σ,_,rP j #[77] hs ⟨z,kd.obj V⟩ (aeT V),t⟩
inductive apn (kd:KD κ) (P:qL) (w:World) (xs:List V) (H:Hp) (Q:VK):Prop|mk (d:_) (ks:_) (_:xs=[.ref d]) (_:H d=Z (eZ kd P w d ks)) (_:Q (.int ks.length) H)
def acf:iQ X #[159] (apn kd X.prog X.w):=by intro o3 s σ H t m Q I r h;let⟨d,S,rfl,j,q⟩:=h;exists 21;cases D;let⟨o,x⟩:=MT I j;let⟨L,k,es,a,sz,_⟩:=kd.raw x;have ty:=a.ty;let⟨z,G,M,B⟩:=a;show ahQ L ty ⟨z,es,_,G,B,sz⟩ (by rw[WD]at k;lia) ⟨.int S.length,H,I.tok _,⟨_,U⟩,q⟩
def ItK(kd:KD κ)(P:qL)(w:World)(a:Qp)(ks:List #[78])(o:Obj):It:=
 ⟨λi H=>i<ks.length/\H a=Z (sj kd P w a ks o),λi H x H'=>H'=H/\∀p,ks[i]?=Z p->x=kd.val p.1 p.2,λi H=>i=ks.length/\H a=Z (sj kd P w a ks o)⟩
theorem aaj(a it:Qp)(o:Obj)(ks:List #[78]):Turn P w K tg (ItK kd P w a ks o) [it] it (λi h=>h.IsKeyIter it a i ks.length (lR o)) where
 mem:=by simp
 obj:=λi h st b B=>by
  have e:b=it:=by simpa using B
  subst e;let⟨o,e,c,d⟩:=st;exists 6
 keep:=λi h O st k=>by let⟨t,e,r⟩:=st;show⟨t,k it #[7] t e,r⟩
 item:=by exists 4;subst y j g;let⟨W,l⟩:=m;let⟨_,_,es,C,sz,f⟩:=kd.raw (show bN X.prog X.w H s.heap a (sj kd X.prog X.w a ks o)from I.hok a _ l).1;let⟨T,D,n,q,S,G⟩:=V it #[7];rw[<-sz]at st;show R8 st C #[1] λO R p=>?_;have u:Inv X o3 σ H {s with heap:=O}:=I.turned (t':=s.toks) (λb o B e=>(p.2 b B).trans e) T D q S G;rw[sz]at R;let⟨t,e,c,d⟩:=id R;show⟨_,U,MN (s:={s with heap:=O}) e c d #[9] ⟨kd.val (ks[i]).1 (ks[i]).2,H,u,f i #[1] _ (jC W),⟨U,λM x=>?_⟩,R,λb B=>(V b B).1⟩⟩;rw[jC W]at x;cases x;rfl
 done:=by exists 4;subst y j g;let⟨W,l⟩:=m;let⟨_,_,es,C,sz,_⟩:=kd.raw (show bN X.prog X.w H s.heap a (sj kd X.prog X.w a ks o)from I.hok a _ l).1;let⟨T,D,n,q,S,G⟩:=V it #[7];subst W;rw[<-sz]at st;show aaO #[117] st C λO J=>⟨U,I.turned (t':=s.toks) (λb o B e=>J b o B e) T D q S G⟩
 self:=λA i s Q E st h=>by show YG st.typeIs Yw (Wa Yw st.typeIs yZ ?_ (yX _));change wpAny _ _ (ret #[149]) _ _ s;show YB ⟨_,U,"dict_keyiterator",_,st.typeIs,PySem.F.slot_dict_keyiterator_next.lookup,h⟩
def akV(kd:KD κ)(P:qL)(w:World)(tl:TE):TI:=λσ H R=>tl σ H λx H1=>∃a ks,x=.ref a/\H1 a=Z (eZ kd P w a ks)/\∀o,R (ItK kd P w a ks o) (upd H1 a (sj kd P w a ks o))
def afN{l:Expr}(c:PE X l tl):PI X tg l (akV kd X.prog X.w tl):=by exists 30;show cw (c o3 s σ H _ I h) λv T ⟨x,d,P,f,E⟩=>?_;let⟨a,S,e,j,q⟩:=E;subst e;cases f;let⟨t,u⟩:=MT P j;have G:Inv X o3 σ (upd d a (sj kd X.prog X.w a S t)) T:=rP (h':=T.heap) (t':=T.toks) P (by rw[j];show True.intro) ⟨rfl,λ_ _=>rfl⟩ ⟨t,kd.obj u⟩ (ak0 u);let⟨lo,_,es,C,sz,_⟩:=kd.raw u;show RT lo C ?_;show⟨T.heap.objs.size,[T.heap.objs.size],_,_,_,U,G.kept (t':=T.toks) λb o e=>jB _ e,aaj a _ t S,⟨_,jJ _ rfl,U,by rw[sz];rfl⟩,λb B=>?_,q t⟩;exists 8;subst e;show G.IL (jE _) (G.hok.fresh (jE _))
def U4{o:Obj}{ks:List #[78]}(f:Qp->Nat->List V->Hp->Prop)(X:∀D,H D=Y->f D 0 [] #[53])(C:∀D i ys H',i<=ks.length->f D i ys H'->H' a=Z (sj kd P w a ks o))(hs:∀D i p ys H' (l:VK),H D=Y->ks[i]?=Z p->H' D=Z #[72]->f D i ys H'->#[6] ->
   te (#[71].set 0 (Z (kd.val p.1 p.2))) H' l)(j:∀D ys H',H D=Y->H' D=Z #[72]->f D ks.length ys H'->Qd D H'):CU (ItK kd P w a ks o) ix (aJ 0) te σ H Qd:=by
 intro D B;show⟨λi m O H'=>m=ks.length-i/\i<=ks.length/\#[51]/\∃ys,H' D=Z #[72]/\f D i ys H',⟨ks.length,by simp,jb _,.inl rfl,[],ae,X D B⟩,?_⟩;exists 12;have q:=C D i ys H' W p;by_cases d:i<ks.length
 ·show .inr ⟨⟨d,q⟩,λx J y=>?_⟩;let⟨T,g⟩:=y;subst T;have M:=g ks[i] (jC d);subst M;have es:O.set 0 (Z (kd.val (ks[i]).1 (ks[i]).2))=#[71].set 0 (Z (kd.val (ks[i]).1 (ks[i]).2)):=by
   exists 32
   ·rw[z]
   ·rw[z,Jy]
  change te (O.set 0 (Z (kd.val (ks[i]).1 (ks[i]).2))) _ _;rw[es];show hs D i ks[i] ys _ _ B (jC d) G p λy R k S h=>⟨ys,k,S,ks.length-(i+1),by lia,U,d,.inr ⟨_,U⟩,ys++[y],ae,h⟩
 ·have e:i=ks.length:=by lia
  subst e;show .inl ⟨⟨U,q⟩,j D ys H' B G p⟩
end
def vI:Nat->V:=λn=>.int (n:Int)
def ae3{ks:List #[78]}{k:κ}(h:#[97].Nodup)(n:k∉ks.map (·.1)):((ks++[(k,b)]).map (·.1)).Nodup:=by rw[jD];show JM.mpr ⟨h,jm.mpr ⟨by simp,Jg⟩,λa W c L z=>n (by have T:c=k:=jI.mp L;rw[<-T,<-z];show W)⟩
def kdH[DecidableEq κ](kk:KK κ):KD κ where
 val:=λ_ b=>.ref b
 kat:=kk.kat
 same:=kk.same
 D:=λP w d ks o h=>wm kk P w d vI ks o h
 obj:=wm.obj
 keep:=λx e=>wm.keep x λo1 e1=>by rw[x.obj]at e1;cases e1;show e
 raw:=λ{P w d ks o h} x=>by
  let⟨a1,a2,a3,xs,es,ep,nv,h1,h2,h3,h4⟩:=x;have ee:lR o=ep:=by unfold lR;rw[h3]
  have ek:=nv.keys;have sz:es.size=xs.length:=by have:=congrArg zI h4;rw[jW]at this;simpa using this
  have lx:xs.length=ks.length:=by rw[<-ek,jW]
  show⟨a1,a2,es,⟨o,h1,h2,by rw[ee];show h3⟩,by lia,λj hj p hp=>?_⟩;have ej:=congrArg (λl=>l[j]?) h4;simp only[JU,jR]at ej;rw[jy hj,jC #[1]]at ej;rw[Option.some.inj ej];rw[<-ek,jR,jC #[1]]at hp;cases hp;rfl
 new:=λh hb=>⟨beq_eq_false_iff_ne.mpr (Ne.symm (jU hb)),jb _,Jg,[],#[],0,rfl,jJ _ rfl,⟨rfl,rfl,rfl⟩,rfl,rfl⟩
 get:=λ{P w A E s H d b k ks o u Q} hu ok x hk hb ru q=>by
  obtain rfl:u=Yd b:=ru;let⟨xs,nv,dd⟩:=ajC ok x hk;let⟨a1,a2,a3,_⟩:=x;show wpAny_dictGet_heap (kk.room _ _ _ hu) (kk.is ok hb) dd ?_;by_cases c:k∈ks.map (·.1)
  ·let⟨j,hj,ej⟩:=ji c;have hj':#[97][j]?=Z k:=by rw[jC hj,ej]
   let⟨b',t,e',r⟩:=nv.there a3 hj';rw[Jc]at r;let⟨tk,rfl⟩:=(show ∃tk,t=Yl (j:Int) tk from r);rw[e'];show(q _).1 j hj' tk
  ·rw[nv.none c];show(q _).2 c
 put:=λ{P w A E s H d b k ks o u v Q} hu ok x hk hb ru nk hl rv q=>by
  obtain rfl:u=Yd b:=ru;let⟨xs,nv,dd⟩:=ajC ok x hk;let⟨a1,a2,a3,_⟩:=x;have hz:xs.length<=sizeLine:=by have:=congrArg zI nv.keys;rw[jW]at this;lia
  show We (hsz:=hz) (kk.room _ _ _ hu) (kk.is ok hb) dd λh' PQ hs=>?_;rw[storedH_new (nv.none nk)]at PQ;let⟨o',es,ep,g1,g2,g3,g4,_,_⟩:=PQ;show q h' o' _ ⟨a1,by rw[jH];show hl,ae3 a3 nk,_,es,ep,nv.snoc (by rw[Jc];show rv),g1,g2,g3,g4⟩ hs
def isOpt:Option Int->Value->Bool
 |none,.none=>true
 |some i,v=>XB i v
 |_,_=>false
def oV:Option Int->V
 |none=>.non
 |some i=>.int i
def MQ{k:Option Int}(h:isOpt k v=true):RelV (oV k) v:=by
 cases k with
 |none=>cases v<;>first|show rfl|cases h
 |some i=>show xB h
def N4{k:Option Int}(h:RelV (oV k) v):isOpt k v=true:=by
 cases k with
 |none=>cases(show v=Yq from h);rfl
 |some i=>
  let⟨t,rfl⟩:=(show ∃t,v=Yl i t from h);change XB i (.int i t)=true;simp[XB]
def fY{k:Option Int}(h:isOpt k v=true):(k=Y/\v=.none)\/∃i t,k=Z i/\v=.int i t:=by
 have r:=MQ h;cases k with
 |none=>show .inl ⟨rfl,r⟩
 |some i=>let⟨t,e⟩:=(show ∃t,v=Yl i t from r);show .inr ⟨i,t,rfl,e⟩
def optKind(P:qL)(w:World):KeyKind P w (Option Int) where
 is:=isOpt
 hash:=λk=>match k with
  |none=>reduceHash 0xFCA86420
  |some i=>hashInt i
 inj:=λv a b ha hb=>by rcases fY ha with⟨rfl,rfl⟩|⟨i,t,rfl,rfl⟩<;>rcases fY hb with⟨rfl,e⟩|⟨j,u,rfl,e⟩<;>cases e<;>rfl
 byValue:=λk v h=>by rcases fY h with⟨_,rfl⟩|⟨_,_,_,rfl⟩<;>rfl
 pyHash:=λ{A E s k v Q} hv h=>by
  rcases fY hv with⟨rfl,rfl⟩|⟨i,t,rfl,rfl⟩
  ·show PySem.W.pyHash_slot (T:="NoneType") rfl PySem.F.slot_NoneType_hash PySem.F.entry_NoneType_hash (PySem.F.args_NoneType_hash_1 _) (qU _) #[90] (WX (YB (WX (wpAny_mkInt (YB ⟨_,_,rfl,h⟩)))))
  ·show YC h
 eqBool:=λ{A E s a b u v Q} hu hv h=>by
  rcases fY hu with⟨rfl,rfl⟩|⟨i,t,rfl,rfl⟩<;>rcases fY hv with⟨rfl,rfl⟩|⟨j,y,rfl,rfl⟩
  ·show yn _ P w E Q h
  ·show Xm j y P w E Q h
  ·show Xn i t P w E Q h
  ·show Wg ?_;rw[show(i==j)=decide (Z i=Z j) by by_cases c:i=j<;>simp[c]];show h
 «strs»:=λk x t v h=>by rcases fY h with⟨_,e⟩|⟨_,_,_,e⟩<;>cases e
def CA:Nat->List #[78]->List (κ×V)
 |_,[]=>[]
 |n,p::r=>(p.1,.int (n:Int))::CA (n+1) r
section
variable[DecidableEq κ]{k:κ}
theorem K3:∀(ks:List #[78]) (n:Nat),(CA n ks).length=ks.length
 |[],_=>rfl
 |_::r,n=>by change(CA (n+1) r).length+1=r.length+1;rw[K3 r]
theorem ER:∀(ks:List #[78]) (n:Nat),(CA n ks).map (·.1)=ks.map (·.1)
 |[],_=>rfl
 |p::r,n=>by change p.1::(CA (n+1) r).map (·.1)=_;rw[ER r];rfl
theorem M8:∀(ks:List #[78]) (n:Nat),CA n (ks++[(k,b)])=CA n ks++[(k,.int ((n+ks.length:Nat):Int))]
 |[],n=>rfl
 |p::r,n=>by change(p.1,V.int (n:Int))::CA (n+1) (r++[(k,b)])=_;rw[M8 r,show n+1+r.length=n+(p::r).length by rw[jX];lia];rfl
theorem ES:∀{ks:List #[78]} {n:Nat},k∉ks.map (·.1)->cG (CA n ks) k=Y
 |[],_,_=>rfl
 |p::r,n,h=>by rw[show CA n (p::r)=(p.1,V.int (n:Int))::CA (n+1) r from rfl,cE (λz=>h (by rw[<-z];show jA))];show ES λz=>h (jF _ z)
theorem abi:∀{ks:List #[78]} {n j:Nat},#[97].Nodup->#[97][j]?=Z k->cG (CA n ks) k=Z (.int ((n+j:Nat):Int))
 |[],_,_,_,h=>by cases h
 |p::r,n,0,_,h=>by cases(show Z p.1=Z k from h);show cR rfl
 |p::r,n,j+1,o,h=>by have g:=jm.mp o;have O:(r.map (·.1))[j]?=Z k:=h;rw[show CA n (p::r)=(p.1,V.int (n:Int))::CA (n+1) r from rfl,cE (λz=>g.1 (by change p.1∈_;rw[z];show JT O)),abi g.2 O,show n+1+j=n+(j+1) by lia]
end
def ani(P:qL)(w:World)(d:Qp)(ks:List (Option Int×Qp))(o:Obj)(h:Heap):Prop:=(d==WJ)=false/\ks.length<=sizeLine/\h.get? d=Z o/\∃es ep vs,o.ExactDict/\o.data=.dict es ep/\KeysOf (optKind P w) es/\Pairs (optKind P w) es.toList vs/\(vs.map (·.1)).Nodup/\KV (CA 0 ks) vs
def kdO:KD (Option Int) where
 val:=λk _=>oV k
 kat:=λ_ _ _=>True
 same:=λ_ _=>trivial
 D:=ani
 obj:=λx=>x.2.2.1
 keep:=λx e=>⟨x.1,x.2.1,e,x.2.2.2⟩
 raw:=λ{P w d ks o h} x=>by
  let⟨a1,a2,a3,es,ep,vs,b1,b2,b3,b4,b5,b6⟩:=x;have ee:lR o=ep:=by unfold lR;rw[b2]
  have sz:es.size=ks.length:=by have e1:=b4.length;have e2:=b6.length;rw[K3]at e2;rw[jq]at e1;lia
  show⟨a1,a2,es,⟨o,a3,b1,by rw[ee];show b2⟩,sz,λj hj p hp=>?_⟩;have kv:(vs.map (·.1))[j]?=Z p.1:=by rw[<-b6.keys,ER,jR,hp];rfl
  rw[jR]at kv;let⟨q,hq,eq⟩:=Jd.mp kv;have:=b4.get? (i:=j) (e:=es[j]) (k:=q.1) (v:=q.2) (by rw[JU];show jy hj) hq;rw[eq]at this;show MQ this.1
 new:=λh hb=>⟨beq_eq_false_iff_ne.mpr (Ne.symm (jU hb)),jb _,jJ _ rfl,#[],0,[],⟨rfl,rfl,rfl⟩,rfl,λ_ he=>by simp at he,.nil,Jg,.nil⟩
 get:=λ{P w A E s H d b k ks o u Q} hu ok x hk hb ru q=>by
  let⟨a1,a2,a3,es,ep,vs,b1,b2,b3,b4,b5,b6⟩:=x;have dd:s.heap.DictOf (optKind P w) d vs:=⟨o,es,ep,a3,b1,b2,b3,b4,b5⟩;show wpAny_dictGet_of (knd:=optKind P w) (N4 ru) dd.mapOf ?_;have r:=b6.val k;have nd:#[97].Nodup:=by rw[<-ER ks 0,b6.keys];show b5
  by_cases c:k∈ks.map (·.1)
  ·let⟨j,hj,ej⟩:=ji c;have hj':#[97][j]?=Z k:=by rw[jC hj,ej]
   rw[abi nd hj',Jc]at r;let⟨w',hw,tk,rfl⟩:=sW.some_of r;rw[hw];show(q _).1 j hj' tk
  ·rw[ES c]at r;cases e:valueAt vs k with
   |none=>show(q _).2 c
   |some z=>rw[e]at r;show r.elim
 put:=λ{P w A E s H d b k ks o u v Q} hu ok x hk hb ru nk hl rv q=>by
  let⟨a1,a2,a3,es,ep,vs,b1,b2,b3,b4,b5,b6⟩:=x;have dd:s.heap.DictOf (optKind P w) d vs:=⟨o,es,ep,a3,b1,b2,b3,b4,b5⟩;have hz:vs.length<=sizeLine:=by rw[<-b6.length,K3];show a2
  show Wf (hsz:=hz) (knd:=optKind P w) (N4 ru) dd λh' PQ hs=>?_;let⟨o',B0,ep',g1,g2,g3,g4,g5,g6⟩:=PQ;show q h' o' _ ⟨a1,by rw[jH];show hl,g1,B0,ep',_,g2,g3,g4,g5,g6,?_⟩ hs;have z:=b6.put k rv;rw[Sv _ (ES nk)]at z;rw[M8,Jc];show z
theorem LN:∀{ns:List Str} {us:List Value},Vals (ns.map V.str) us->qP us ns
 |[],_,h=>by cases h;show .nil
 |n::ns,_,h=>by
  cases h with
  |cons r t=>
   let⟨tk,rfl⟩:=r;show .cons n tk (LN t)
theorem Td:∀{ns:List Str} {us:List Value},qP us ns->Vals (ns.map V.str) us
 |_,_,.nil=>.nil
 |_,_,.cons n t r=>.cons ⟨t,rfl⟩ (Td r)
section
inductive rJoin (x:V) (vs:List V) (H:Hp) (Q:VK):Prop|mk (z:Str) (l:Qp) (ys:List Str) (_:x=.str z) (_:vs=[.ref l]) (_:H l=Z (.lst (ys.map V.str))) (_:(ys.map (·.length)).sum+ys.length*z.length<=16777216) (_:Q (.str (Txt.join z ys)) H)
def ahZ:MtM X "str.join" rJoin:=by intro o3 s σ H x vs v m Q I D F h;let⟨z,l,M,rfl,rfl,a,ok,q⟩:=h;exists 7;let⟨u,rfl,N⟩:=F.one;cases N;let⟨b,J,n,r,C,e⟩:=I.J6 a;show join_list ⟨_,e,U,n,U⟩ (by simpa using LN r) ok λW k=>⟨.str _,H,I.tok _,⟨_,U⟩,q⟩
end
def cZ(val:Nat->Str)(i:Nat):List Str:=((jg i).map val).foldl step_dedup []
def AH(val:Nat->Str)(i:Nat):cZ val (i+1)=step_dedup (cZ val i) (val i):=by unfold cZ;rw[JN,jD,JC];rfl
def U8(s:List Str)(v:Str):(step_dedup s v).length<=s.length+1:=by
 unfold step_dedup;split
 ·lia
 ·rw[jH];show jE _
theorem pC(val:Nat->Str):∀i,(cZ val i).length<=i
 |0=>jE _
 |i+1=>by rw[AH];have:=pC val i;have:=U8 (cZ val i) (val i);lia
theorem StrsAre.agt:∀{vs:List Value} {ns:List Str},qP vs ns->∀(i:Nat) (v:Value),vs[i]?=Z v->∃t,v=.str (ns.getD i Str.empty) t
 |_,_,.nil,i,v,h=>by simp at h
 |_,_,.cons y t r,0,v,h=>⟨t,#[143].symm⟩
 |_,_,.cons y t r,i+1,v,h=>by let⟨W,e⟩:=StrsAre.agt r i v #[154];show⟨W,by simpa using e⟩
theorem StrsAre.abb:∀{vs:List Value} {ns:List Str},qP vs ns->vs.length=ns.length
 |_,_,.nil=>rfl
 |_,_,.cons _ _ r=>by simp[StrsAre.abb r]
def PX(a b:Str):Prop:=¬ b.cps.toList<a.cps.toList
def PX.trans{a b c:Str}(h:PX a b)(h':PX b c):PX a c:=ZF.mpr (List.le_trans (ZF.mp h) (ZF.mp h'))
theorem N5:∀(l:List Str) (p:Str),risingS p l=true->(p::l).Pairwise PX
 |[],p,_=>List.pairwise_singleton ..
 |x::r,p,h=>by
  have O:(!ltCps x.cps.toList p.cps.toList&&risingS x r)=true:=h;let⟨G,M⟩:=Bool.and_eq_true_iff.mp O;have n:PX p x:=by intro z;rw[ltCps_eq,decide_eq_true z]at G;cases G
  have K:=N5 r x M;show zG.mpr ⟨λy a=>?_,K⟩;rcases jL.mp a with z|z
  ·rw[z];show n
  ·show n.trans ((zG.mp K).1 y z)
theorem adw:∀(l:List Str),sortedS l=true->l.Pairwise PX
 |[],_=>List.Pairwise.nil
 |x::r,h=>N5 r x h
def Hc{P:Fin->qO->Prop}(O:s.heap.get? a=Z (seqObj "list" vs.toArray n))(g:qP vs ss)(c:vs.length<64)(h:∀(out:Array Value) (b:List Str),qP out.toList b->b.Perm ss->b.Pairwise PX->P (.done (.ret .none)) {s with heap:=sortedHeap s.heap a vs out}):wpAny #[8] A (Builtin.«list.sort» ⟨[.ref a],[]⟩) P E s:=
 list_sort_treeK strKind_oneLt O g.keysOf (λd f rest e=>keyKind_strs (by rw[<-e];show g)) c λR D hs=>by let⟨b,G,M,B⟩:=sorted_out_str g D hs;show h _ b G M (adw _ B)
def iU(P:qL)(w:World)(h:Heap)(a:Qp)(ns:List Str):Prop:=
 ∃o es ep t,h.get? a=Z o/\o.ExactSet/\o.data=.set es ep t/\Qv (Yr P w) es.toList/\(∀e∈es.toList,∃n u,e.2=.str n u)/\(es.toList.map λe=>strOf e.2).Perm ns/\es.size<scanBound/\t.fits es.size=true/\iV t (!Rm w)
def iU.keep{h':Heap}(x:iU P w h a ns)(k:∀o,h.get? a=Z o->h'.get? a=Z o):iU P w h' a ns:=by let⟨o,es,ep,t,O,f,i,q,S,M,d,b,c⟩:=x;show⟨o,es,ep,t,k o O,f,i,q,S,M,d,b,c⟩
section
def aa7{k n:Str}:(Yr P w).is k (.str n u)=decide (k=n):=KeyKind.is_eq_decide (WG P w n u) k
def abN{es i:Array (Int×Value)}{t':qN}(O:h.get? a=Z o)(hex:o.ExactSet)(j:o.data=.set es ep t)(c:Qv (Yr P w) i.toList)(W:∀e∈i.toList,∃n u,e.2=.str n u)(D:(i.toList.map λe=>strOf e.2).Perm ns)(B:i.size<scanBound)(V:t'.fits i.size=true)(R:iV t' (!Rm w)):
  (h.update a (Obj.putSet i t')).get? a=Z {o with data:=.set i (ep+1) t'}/\iU P w (h.update a (Obj.putSet i t')) a ns:=by
 have m:(h.update a (Obj.putSet i t')).get? a=Z {o with data:=.set i (ep+1) t'}:=by have q:=jz (Obj.putSet i t') O (by rw[putSet_of i t' j];rfl);rw[putSet_of i t' j]at q;show q
 show⟨m,_,i,ep+1,t',m,hex,U,c,W,D,B,V,R⟩
def Rc{g:Bool->qM Unit}(y:∀(b:Bool) (K:qO) (l:Unit->qO->Prop),l () K->wpAny #[37] A (g b) l E K){es r:Array (Int×Value)}{i:qN}{R:Option Bool->qO->Prop}(O:s.heap.get? a=Z o)(hex:o.ExactSet)(j:o.data=.set es ep t)(c:Qv (Yr P w) r.toList)(W:∀e∈r.toList,∃n u,e.2=.str n u)(D:(r.toList.map λe=>strOf e.2).Perm ns)(B:r.size<scanBound)(V:i.fits r.size=true)(m:iV i (!Rm w))(h:∀h',Yj a s.heap h'->iU P w h' a ns->R (Z true) {s with heap:=h'}):
  wpAny #[37] A (do
    storeSet a r i
    if (!wd&&i.tooFull)=true then do
      g (relayAll i r #[99]).2.2
      storeSet a (relayAll i r #[99]).1 (relayAll i r #[99]).2.1
      pure (Z true)
     else pure (Z true)) R E s:=by
 show WX (YT O j ?_ (qp B));let⟨H,q⟩:=abN (P:=P) (w:=w) O hex j c W D B V m;have k:=Yi s.heap a (Obj.putSet r i);split
 ·have f:=relayAll_perm i r #[99];have v:=relayAll_fits i r #[99];have d:=Pq m r #[99];generalize relayAll i r #[99]=Rl at f v d ⊢;let⟨p,C,F⟩:=Rl;dsimp only at f v d ⊢;have sz:p.size=r.size:=by rw[<-jq,f.length_eq,jq]
  have L:p.size<scanBound:=by rw[sz];show B
  show WX (y _ _ _ ?_);show WX (YT H rfl ?_ (qp L));let⟨_,x⟩:=abN (P:=P) (w:=w) (ns:=ns) H hex rfl (c.perm f) (λe z=>W e (f.mem_iff.mp z)) ((f.map _).trans D) L v d;show YB (h _ (k.trans (Yi _ a _)) x)
 ·show YB (h _ k q)
def SH{k:Str}{Q:Bool->qO->Prop}(hS:iU P w s.heap a ns)(I:ns.length+1<scanBound)(h:∀h' b,Yj a s.heap h'->iU P w h' a (step_dedup ns k)->Q b {s with heap:=h'}):wpAny #[37] A (setAddHashed a (.str k u) ((Yr P w).hash k)) Q E s:=by
 let⟨o,es,ep,t,O,hex,f,c,W,D,F,V,T⟩:=hS;have G:es.size=ns.length:=by rw[<-D.length_eq,jW,jq]
 have i:∀z:Str,z∈ns↔∃e∈es.toList,(Yr P w).is z e.2=true:=λz=>by
  rw[<-D.mem_iff,jK];constructor
  ·rintro⟨e,R,rfl⟩;let⟨n,v,g⟩:=W e R;show⟨e,R,by rw[g,aa7];simp[strOf]⟩
  ·rintro⟨e,R,q⟩;let⟨n,v,g⟩:=W e R;rw[g,aa7]at q;show⟨e,R,by rw[g];show(of_decide_eq_true q).symm⟩
 unfold setAddHashed setAddHashedIn;show Wn (WX (YQ O f V ?_));dsimp only;rw[byScan_of (x:=.str k u) rfl F c];simp only[↓reduceIte];unfold setAddByScan;show WX (WX (YK ?_));show WX (wpAny_setScan_of (WG P w k u) O f V c ?_);cases X:List.findIdx? (λe=>(Yr P w).is k e.2) es.toList with
 |some j=>
  dsimp only;let⟨hj,pj,_⟩:=List.findIdx?_eq_some_iff_getElem.mp X;have J:k∈ns:=(i k).mpr ⟨es.toList[j],jO hj,pj⟩;show YB (YB ?_);have q:=h s.heap false (Gv a s.heap) ⟨o,es,ep,t,O,hex,f,c,W,by unfold step_dedup;rw[if_pos (by simpa using J)];show D,F,V,T⟩
  cases s;show q
 |none=>
  dsimp only;have M:k∉ns:=λz=>by let⟨e,R,q⟩:=(i k).mp z;have:=List.findIdx?_eq_none_iff.mp X e R;rw[q]at this;cases this
  have N:∀(b:Bool) (K:qO) (l:Unit->qO->Prop),l () K->wpAny #[37] A (match b with|true=>rule "set.scan.the-table-gave-way"|false=>pure ()) l E K:=λb K l q=>by
   cases b
   ·show YB q
   ·show YK q
  have d:=layNew_perm t es ((Yr P w).hash k) (.str k u);have H:=layNew_fits t es ((Yr P w).hash k) (.str k u);have lt:=X4 T es ((Yr P w).hash k) (.str k u);generalize layNew t es ((Yr P w).hash k) (.str k u)=L at d H lt ⊢;let⟨r,t1,wd,y4⟩:=L;dsimp only at d H lt ⊢;rw[QH]at d;have m:Qv (Yr P w) r.toList:=(c.push (WG P w k u) rfl).perm d;have C:∀e∈r.toList,∃n v,e.2=.str n v:=λe R=>by
   rcases zC.mp (d.mem_iff.mp R)with z|z
   ·show W e z
   ·rw[jI.mp z];show⟨k,u,rfl⟩
  have p:(r.toList.map λe=>strOf e.2).Perm (step_dedup ns k):=by unfold step_dedup;rw[if_neg #[155]];show(d.map _).trans ?_;rw[jD];show D.append (List.Perm.refl _)
  have y:r.size<scanBound:=by rw[<-jq,d.length_eq,jH,jq,G];show I
  show WX (N _ _ _ ?_);split
  ·exists 34;rw[hashByValue_scannable 8 (x:=.str k u) rfl];show YB ?_;show Rc (λb K l q=>N b K l q) O hex f m C p y (by split<;>first|show H|show SetTable.fits_plain_off H) (by split<;>first|show lt|show⟨lt.1,lt.2,lt.3⟩) λh' B S=>YB (h h' true B S)
  ·show WX (YB ?_);simp only[↓reduceIte];show Rc (λb K l q=>N b K l q) O hex f m C p y H lt λh' B S=>YB (h h' true B S)
end
section
variable{wr:List Qp}{G:Array Qz->Array Qz->Prop}{Pz:Nat->Value->Prop}{St:Nat->qO->Prop}
theorem Mp(W:WalksS P w A.in1 I fp wr G n Pz St)(S:Qp)(a:S∉fp)(val:Nat->Str)(f:∀i v,Pz i v->∃t,v=.str (val i) t)(B:n+1<scanBound):
  ∀(k i:Nat) (s:qO),n-i=k->i<=n->St i s->iU P w s.heap S (cZ val i)->(∀p,Moved (S::wr) G s p->iU P w p.heap S (cZ val n)->R (.ok (.ret .none)) p)->
   codeAny #[37] A (.builtin "set.update.loop" ⟨[.ref S,.ref I],[]⟩) R s:=by
 have c:S∉wr:=λz=>a (W.sub _ z);have up:∀b∈wr,b∈S::wr:=λb z=>jF _ z;intro k
 induction k with
 |zero=>
  intro i s h r M g F;obtain rfl:i=n:=by lia
  show qZ XX ?_;rw[Around.under_plainId yd _];show WX (m:=pyNext (.ref I)) (W.done s _ _ M λp N=>?_);show YB (F p (N.mono up) (g.keep λo q=>N.heap S o c q))
 |succ k K=>
  intro i s h r M g F;have d:i<n:=by lia
  show qZ XX ?_;rw[Around.under_plainId yd _];show WX (m:=pyNext (.ref I)) (W.item i s _ _ d M λv p y Q N=>?_);let⟨t,rfl⟩:=f i v y;have J:iU P w p.heap S (cZ val i):=g.keep λo q=>N.heap S o c q;show WX (m:=holding [yF (val i) t] (setAdd S (.str (val i) t))) (Wn ?_);unfold setAdd;show Wn (WX ((Yr P w).pyHash (k:=val i) (WG _ _ _ _) ?_));have room:(cZ val i).length+1<scanBound:=by have:=pC val i;lia
  show SH (s:={p with toks:=p.toks+1}) J room λC b l j=>?_;rw[<-AH]at j;show YB ⟨qy yd _,K (i+1) _ #[1] d (W.frame _ p _ _ Q (JV _) λb B o e=>?_) j λu O x=>?_⟩
  ·rw[l.2 b (λz:b=S=>a (z▸B))];show e
  ·show F u (Moved.trans W.gtrans ((N.mono up).then_heap (JV _) λb o B e=>?_) O) x;rw[l.2 b (λz:b=S=>B (by rw[z];show jA))];show e
end
section
def ao4(h:Heap)(m:h.get? a=Z (fX w)):iU P w h a []:=
 ⟨_,#[],0,_,m,⟨rfl,rfl,rfl⟩,rfl,(λe R=>by cases R),(λe R=>by cases R),List.Perm.refl _,by decide,rfl,⟨List.Pairwise.nil,rfl,rfl⟩⟩
set_option maxHeartbeats 3200000 in
theorem U1(a:A.handled=Y)(n:s.heap.IsList l items)(W:qP items.toList ns)(B:items.size+1<scanBound)(h:∀(h':Heap) (tk:Nat),iU P w h' s.heap.objs.size (cZ (λi=>ns.getD i Str.empty) items.size)->(∀b o,b<s.heap.objs.size->s.heap.get? b=Z o->h'.get? b=Z o)->Q #[19] {s with heap:=h',toks:=tk}):
  wpAny #[37] A (call (.type "set") [.ref l]) Q E s:=by
 let⟨c,tl,V⟩:=F.called_set.mro;have X:=F.called_set.made;have p:=F.called_set.sub;show WY (qe ?_);change wpAny _ _ (callAny (.type "set") _) _ _ _;show YB ⟨Code.quiet_builtin _ #[0],qZ F.entry_type_call ?_⟩;rw[Around.under_plain (weight_type_call_type "set" [.ref l] []) rfl];have h1:=F.called_set.notType;have h2:=F.called_set.canCreate;have z:=F.typeCall_set_1 #[102]
 repeat (any_goals (first|assumption|wp_step))
 show qd (ack #[102] (E:=E) (Q₁:=λobj K=>obj=.ref s.heap.objs.size/\K={s with heap:=s.heap.push (fX w)}) ⟨U,U⟩) λr K S=>?_;cases r with
 |error e=>show S
 |ok q=>
  cases q with
  |ret obj=>
   let⟨rfl,rfl⟩:=S;have g:#[130].get? s.heap.objs.size=Z (fX w):=jJ _ rfl;have hT:Shared.TypeIs {s with heap:=s.heap.push (fX w)} #[19] "set" :=⟨_,g,rfl⟩;have y4:=F.called_set.init.lookup;have d5:=F.called_set.init.bind #[19]
   repeat (any_goals (first|assumption|wp_step))
   show qd (codeAny_call_builtin (R:=wants (λr j=>r=.none/\∃h' tk,j={s with heap:=h',toks:=tk}/\iU P w h' s.heap.objs.size (cZ (λi=>ns.getD i Str.empty) items.size) /\
     (∀b o,b<s.heap.objs.size->s.heap.get? b=Z o->h'.get? b=Z o)) E) F.called_set.init.plain F.entry_set_init (check_set_init_1 hT ?_)) λt j u=>?_
   ·let⟨ol,k,f,y,d⟩:=n;let⟨i5,G,j5,H⟩:=ol;simp only at f d;subst f;subst d;have I:#[130].get? l=Z {cls:=.type "list",dict:=G,data:=.seq items y,slots:=H}:=jB _ k;have o5:=F.sub_list_set;have w5:=F.sub_list_frozenset;have C:#[130].IsList l items:=⟨_,I,rfl,y,rfl⟩;have z5:(ym "list" == ym "dict")=false:=by decide
    have c6:#[130].get? s.heap.objs.size=Z {cls:=.type "set",dict:=Y,data:=.set #[] 0 (.fresh 0 0 (!Rm w))}:=g;unfold Builtin.«set.__init__» noKeywords xX;generalize L:pyIter=PI
    wp_walk
    subst L;show YE C (WX (wpAny_runValue ?_));have x:l<s.heap.objs.size:=jM k;have M:A.in1.in1.in1.handled=Y:=by simp[a]
    have O:l≠#[130].objs.size:=by rw[jn];show jU (Js x)
    have nS:s.heap.objs.size∉[#[130].objs.size,l]:=by rw[jn];simp only[jL,jI,JK,or_false,not_or];show⟨jU (JP _),Jv x⟩
    show Mp ((Walks.list M _ l O items).toS) s.heap.objs.size nS (λi=>ns.getD i Str.empty) (λi v hv=>StrsAre.agt W i v (by rw[JU];show hv)) B (items.size-0) 0 _ #[1] (jb _)
     ⟨⟨_,jJ _ rfl,rfl,rfl⟩,(C.push _)⟩ ?_ ?_
    ·show ao4 (w:=w) _ (jB _ g)
    ·rintro⟨h',g',d',m,D⟩ N J;have eg:g'=s.gens:=N.gens;have ed:d'=s.drawn:=N.drawn;have eo:D=s.os:=N.os;subst eg ed eo;show YB ?_;change wpAny _ _ (ret Yq) _ _ _;show YB ⟨U,h',m,U,J,λb o B e=>?_⟩;show N.heap b o ?_ (jB _ (jB _ e));rw[jn];simp only[jL,jI,JK,or_false,not_or];show⟨jU B,jU (Js B)⟩
   ·cases t with
    |error e=>show u
    |ok T=>
     cases T with
     |ret r=>
      let⟨rfl,h',tk,rfl,J,Hs⟩:=u
      repeat (any_goals (first|assumption|wp_step))
      show h _ _ J Hs
     |next=>show u
     |brk=>show u
     |cont=>show u
  |next=>show S
  |brk=>show S
  |cont=>show S
end
section
def acm{Q:List Value->qO->Prop}(hh:A.handled=Y)(hS:iU P w s.heap S ns)(hQ:∀(vs:List Value) (ms:List Str) (h':Heap) (d':Drawn) (tk:Nat),qP vs ms->ms.Perm ns->(∀b u,s.heap.get? b=Z u->h'.get? b=Z u)->s.heap.objs.size<=h'.objs.size->Q vs {s with heap:=h',drawn:=d',toks:=tk}):
  wpAny #[37] A (collect (.ref S)) Q E s:=by
 let⟨o,es,ep,t,X,hex,hd,y4,hi,hp,B,hf,hk⟩:=hS;have f:S<s.heap.objs.size:=jM X;unfold collect;show WX (wpAny_runValue (qZ F.entry_proto_collect ?_));rw[Around.under_plainId F.plain_proto_collect _];change wpAny _ A.in1 (newList []>>=λl=>again (.builtin "list.__iadd__" ⟨[l,.ref S],[]⟩)) _ _ s;show WX (Ww ?_);show YB ⟨qy xH _,qZ F.entry_list_iadd ?_⟩;rw[Around.under_plainId xH _];generalize hN:({cls:=.type "list",data:=.seq ([]:List Value).toArray}:Obj)=oN;have H:(s.heap.push oN).get? S=Z o:=jB _ X;have j:(s.heap.push oN).get? s.heap.objs.size=Z oN:=jJ _ (by rw[<-hN];rfl);have d:s.heap.objs.size≠S:=Jv f;have hT:(⟨s.heap.push oN,s.gens,s.drawn,s.toks,s.os⟩:qO).TypeIs (.ref S) "set" :=⟨o,H,hex.1⟩;change wpAny _ A.in1 (XF #[19] (.ref S) #[19]) _ _ ⟨s.heap.push oN,s.gens,s.drawn,s.toks,s.os⟩;unfold XF;show WX (YZ hT ?_);rw[if_neg (by
  have G:XS #[19] (.ref S)=false:=by simp[XS,d]
  rw[G];decide)]
 show WX (aoN H hex hd B hf hk λG d1 I T L K st keep M d5 PU g=>?_);have m:G.get? S=Z o:=keep S o H;have h:(⟨G,s.gens,d1,s.toks,s.os⟩:qO).TypeIs (.ref S) "set" :=⟨o,m,hex.1⟩;show WX (Wn ?_);unfold xY;show WX (YR h F.slot_set_len.lookup ?_)
 (generalize k:("set.__len__" : String)=id0;wp_delta;rw[show splitId id0=Z ("set","__len__")from by subst k;decide +kernel];subst k)
 show WX (Wo (b:=true) h sub_set_self ?_);change wpAny _ _ (typeOf (.ref S)>>=_) _ _ _;show WX (YZ h (YB ?_));change wpAny _ A.in1 (rule "list.extend.makes-room" >>= λ_=>GW #[19]>>=λ_=>
  again (.builtin "list.extend.loop" ⟨[.ref s.heap.objs.size,.ref I,.ref s.heap.objs.size],[]⟩)) _ _ _
 show WX (YK ?_);have RB:G.get? s.heap.objs.size=Z {cls:=.type "list",data:=.seq ([]:List Value).toArray}:=by rw[hN];show keep _ _ j
 exists 34;change wpAny _ A.in1 (updateSeq s.heap.objs.size (·.push .none)>>=λ_=>updateSeq s.heap.objs.size (·.pop)) _ _ _;show WX (Ya RB rfl ?_);have RC:=jz (Obj.mapSeq (·.push Yq)) RB rfl;show Ya RC rfl ?_;have C:=jz (Obj.mapSeq (·.pop)) RC rfl;have LY:∀b u,b≠s.heap.objs.size->G.get? b=Z u->((G.update s.heap.objs.size (Obj.mapSeq (·.push Yq))).update s.heap.objs.size (Obj.mapSeq (·.pop))).get? b=Z u:=
  λb u B q=>(JI _ _ (Ne.symm B)).trans ((JI _ _ (Ne.symm B)).trans q)
 have lL:L.length=es.size:=by rw[K.length_eq,jW,jq]
 have nI:s.heap.objs.size≠I:=by rw[jn]at M;show jU M
 have nT:s.heap.objs.size≠T:=by
  rcases g with z|z
  ·rw[z];show d
  ·rw[jn]at z;show jU z
 have SI:S≠I:=by rw[jn]at M;show jU (jY f (jc (JV _) M))
 have W:WalksS P w A.in1 I [I,S,T] [I] (λa b=>b=a) es.size (λi v=>v=L.getD i .none) (λi s=>Mv w es ep t S T I L i s.heap):=ap5 (A:=A.in1) (by simp[hh]) hf hk lL PU SI;have p:s.heap.objs.size∉[I,S,T]:=by simp only[jL,JK,or_false,not_or];show⟨nI,d,nT⟩
 show YB ⟨qy F.plain_extend_loop _,codeAny_extend_loopS W (qp B) _ p _ es.size 0 _ _ _ rfl (jb _)
  (W.frame 0 ⟨G,s.gens,d1,s.toks,s.os⟩ _ s.toks st (jE _) λb D u q=>LY b u (λz=>p (z▸D)) q) C (ItemsOf.nil _) λs' c c' N MO Ct=>?_⟩
 change wpAny _ A (load s.heap.objs.size>>=_) _ _ s';show WX (Wt MO (YB ?_));let⟨h',g',d',O,R⟩:=s';have eg:g'=s.gens:=N.gens;have eo:R=s.os:=N.os;subst eg eo;have V:c.toList=L:=by show zh (by rw[jq,Ct.1,lL]) λi FE G6=>?_;have:=Ct.2 i c[i] (by simp at FE;simp[FE]);simp[this,G6]
 rw[V];have y:∀vs:List Value,(∀v∈vs,∃n u,v=yF n u)->qP vs (vs.map strOf):=by
  intro vs
  induction vs with
  |nil=>intro _;show .nil
  |cons v r ih=>
   intro al;let⟨n,u,rfl⟩:=al v jA;show .cons n u (ih λx hx=>al x (jF _ hx))
 show hQ L (L.map strOf) h' d' O (y L λv hv=>?_) ?_ (λb u q=>?_) (JS (jM MO))
 ·let⟨e,he,rfl⟩:=jK.mp (K.mem_iff.mp hv);show hi e he
 ·show(K.map _).trans ?_;rw[JQ];show hp
 ·have J:b≠s.heap.objs.size:=jU (jM q);show N.heap b u ?_ (LY b u J (keep b u (jB _ q)));simp only[jL,JK,or_false,not_or];show⟨J,jU (jY (jM q) ?_)⟩;rw[jn]at M;show jc (JV _) M
def agf(f:A.handled=Y)(g:iU P w s.heap S ns)(c:ns.length<64)(h:∀(l:Qp) (out:List Value) (ms:List Str) (e:Nat) (h':Heap) (d':Drawn) (tk:Nat),qP out ms->ms.Perm ns->ms.Pairwise PX->s.heap.objs.size<=l->h'.get? l=Z (seqObj "list" out.toArray e)->(∀b u,s.heap.get? b=Z u->h'.get? b=Z u)->
   Q #[102] {s with heap:=h',drawn:=d',toks:=tk}):wpAny #[37] A (call (.builtin "sorted") [.ref S]) Q E s:=by
 show XM kind_sorted plain_sorted entry_sorted (args_sorted1 _) ?_;unfold Builtin.«sorted»;show WX (m:=checkCount "sorted" 1 1 _) (YB ?_);show WX (acm (by simp[f]) g λvs ms G i I t D keep j=>?_);have d:vs.length<64:=by have T:vs.length=ms.length:=(StrsAre.abb t);have p:=D.length_eq;lia
 show WX (wpAny_newList (hsz:=jc (JS d) #[9]) ?_);have C:(G.push (seqObj "list" vs.toArray 0)).get? G.objs.size=Z (seqObj "list" vs.toArray 0):=jJ _ rfl;show WX (Wn (Wa slot_list_sort ⟨_,C,U⟩ entry_list_sort (Hc C t d λout n L k o=>⟨_,U,?_⟩) (args_list_sort _)));let⟨e,R⟩:=sortedHeap_at (vs:=vs) (out:=out) C;show YB ⟨_,U,?_⟩;show h G.objs.size out.toList n e _ i I L (k.trans D) o ?_ (by simpa using R) λb u q=>?_
 ·show j
 ·have a:=keep b u q;have lt:=jM a;rw[sortedHeap_old (jU lt) (by rw[jn];show Js lt)];show jB _ a
end
abbrev Ci(P:qL)(w:World)(S:Qp)(ns:List Str):HO:=.ext λh=>iU P w h S ns
def iZ(ns:List Str):List Str:=ns.foldl step_dedup []
def IK(ns:List Str):cZ (λi=>ns.getD i Str.empty) ns.length=iZ ns:=by unfold cZ iZ;congr 1;show zh #[7] λi G M=>?_;simp[Qo,M]
def U9{s:List Str}{v k:Str}:k∈step_dedup s v↔k∈s\/k=v:=by
 unfold step_dedup;split
 ·rename_i h;have N:v∈s:=by simpa using h
  show⟨.inl,λz=>z.elim id λe=>e▸N⟩
 ·simp
def OY{s:List Str}{v:Str}(h:s.Nodup):(step_dedup s v).Nodup:=by
 unfold step_dedup;split
 ·show h
 ·rename_i c;have N:v∉s:=by simpa using c
  show JM.mpr ⟨h,by simp,λa W b B e=>N (by rw[<-jI.mp B,<-e];show W)⟩
theorem Dy:∀(ns s:List Str) (k:Str),k∈ns.foldl step_dedup s↔k∈s\/k∈ns
 |[],s,k=>by simp
 |n::r,s,k=>by
  rw[JO,Dy r,U9,jL];constructor
  ·rintro((h|h)|h)
   ·show .inl h
   ·show .inr (.inl h)
   ·show .inr (.inr h)
  ·rintro(h|h|h)
   ·show .inl (.inl h)
   ·show .inl (.inr h)
   ·show .inr h
def adl{k:Str}:k∈iZ ns↔k∈ns:=by unfold iZ;rw[Dy];simp
theorem AS:∀(ns s:List Str),s.Nodup->(ns.foldl step_dedup s).Nodup
 |[],s,h=>h
 |n::r,s,h=>AS r _ (OY h)
def Sh(ns:List Str):(iZ ns).Nodup:=AS ns [] List.Pairwise.nil
theorem Dw:∀(ns s:List Str),(ns.foldl step_dedup s).length<=s.length+ns.length
 |[],s=>jE _
 |n::r,s=>by
  show jc (Dw r _) ?_;have:(step_dedup s n).length<=s.length+1:=by
   unfold step_dedup;split
   ·show JV _
   ·rw[jH];show jE _
  rw[jX];lia
def EU(ns:List Str):(iZ ns).length<=ns.length:=by have q:=Dw ns [];unfold iZ;simpa using q
section
inductive OT (P0:qL) (w0:World) (xs:List V) (H:Hp) (Q:VK):Prop|mk (a:Qp) (ns:List Str) (_:xs=[.ref a]) (_:H a=Z (.lst (ns.map V.str))) (_:ns.length<4000) (_:∀S,H S=Y->Q (.ref S) (upd H S (Ci P0 w0 S (iZ ns))))
def Cp(L:X.calm=true):iQ X (.type "set") (OT X.prog X.w):=by
 intro o3 s σ H k m Q I r h;let⟨a,ns,rfl,W,S,q⟩:=h;exists 21;cases D;let⟨_,c,n,F,C,e⟩:=I.J6 W;have j:c.length=ns.length:=by rw[<-C,jW]
 show U1 #[117] ⟨_,e,U,n,U⟩ (ns:=ns) (by simpa using LN F) (by simp only[jP];unfold scanBound;lia) λO tk g keep=>?_;have d:∀b o,s.heap.get? b=Z o->O.get? b=Z o:=λb o z=>keep b o (jM z) z;have J:iU X.prog X.w O s.heap.objs.size (iZ ns):=by simp only[jP]at g;rw[j,IK]at g;show g
 show⟨.ref s.heap.objs.size,_,I.laid (o:=Ci X.prog X.w s.heap.objs.size (iZ ns)) (t':=tk) d (jE _) (show iU X.prog X.w O s.heap.objs.size (iZ ns)/\(∃o,O.get? s.heap.objs.size=Z o)/\∀G M:Heap,iU X.prog X.w G s.heap.objs.size (iZ ns)->(∀o,G.get? s.heap.objs.size=Z o->M.get? s.heap.objs.size=Z o)->iU X.prog X.w M s.heap.objs.size (iZ ns)from⟨J,?_,λG M p f=>p.keep f⟩),U,q _ #[43]⟩;let⟨o,es,ep,t,i,_⟩:=J;show⟨o,i⟩
def sr(L:X.calm=true):iQ X (.builtin "sorted") (λxs H Q=>∃(S:Qp) (ns:List Str),xs=[.ref S]/\H S=Z (Ci X.prog X.w S ns)/\ns.length<64 /\
  ∀(l:Qp) (ms:List Str),H l=Y->ms.Perm ns->ms.Pairwise PX->Q #[102] (upd H l (.lst (ms.map V.str)))):=by
 intro o3 s σ H xs b Q I r h;let⟨S,ns,rfl,g,c,q⟩:=h;let⟨u,rfl,a⟩:=vals1 r;cases a;let⟨p,_,_⟩:=(show bN X.prog X.w H s.heap S (Ci X.prog X.w S ns)from I.hok S _ g);show agf #[117] p c λl n ms e O f tk t D hs o m keep=>?_;have P:Inv X o3 σ (upd H l (.lst (ms.map V.str))) {s with heap:=O,toks:=tk}:=I.laid (t':=tk) keep o ⟨by rw[jW,D.length_eq];show jc (JS c) #[9],n,e,Td t,m⟩
 show⟨.ref l,_,⟨P.ok,P.os,P.bare,P.base,P.loc,P.cell,P.free,P.freeC,P.pin,P.hok,P.len⟩,U,q l ms (I.hok.fresh o) D hs⟩
end
def bA(l:List Nat):Str:=⟨l.toArray⟩
def abO(z:Str):bA z.cps.toList=z:=rfl
def str_inj{a b:Str}(h:a.cps.toList=b.cps.toList):a=b:=by rw[<-abO a,<-abO b,h]
def C9(a b:Str):(a++b).cps.toList=a.cps.toList++b.cps.toList:=by change(a.cps++b.cps).toList=_;rw[Array.toList_append]
def se(K:Yc):Nat->Hp->V->V->Prop
 |0,_,u,v=>(∃x,u=.str x/\v=.str x)\/∃n,u=.int n/\v=.int n
 |d+1,H,u,v=>((∃x,u=.str x/\v=.str x)\/∃n,u=.int n/\v=.int n)\/∃(a b:Qp) (us vs:List V),u=.ref a/\v=.ref b/\iu K H a us/\iu K H b vs/\qI (se K d H) us vs
section
def apd{R:V->V->Prop}{xs ys:List V}(G:j<xs.length)(M:j<ys.length)(p:qI R xs ys):R xs[j] ys[j]:=by
 induction p generalizing j with
 |nil=>show absurd G (zF _)
 |cons a t K=>
  cases j with
  |zero=>show a
  |succ j=>show K (by simpa using G) #[155]
def Mz{d:Nat}(h:∀{A:Around} {x y:V} {u v:Value},A.units+d<cLine->se X.K d H x y->RelV x u->RelV y v->yQ A s u v true){us vs:List V}(I:Inv X o3 σ H s)(C:A.units+(d+1)<cLine)(W:iu X.K H a us)(B:iu X.K H b vs)(p:qI (se X.K d H) us vs):
  ∃J t:List Value,s.heap.IsTuple a J.toArray/\s.heap.IsTuple b t.toArray/\J.length=t.length/\∀j (G:j<J.toArray.size) (M:j<t.toArray.size),yQ A.in1 s J.toArray[j] t.toArray[j] true:=by
 let⟨J,f,P,_⟩:=I.tuple W;let⟨t,c,m,_⟩:=I.tuple B;have q:=f.length;have r:=c.length;have w:=p.length;show⟨J,t,P,m,by lia,λj G M=>?_⟩;have e:j<us.length:=by simp at G;lia
 have g:j<vs.length:=by lia
 let⟨k,T,E⟩:=f.get (i:=j) (x:=us[j]) (by simp[e]);let⟨N,l,n⟩:=c.get (i:=j) (x:=vs[j]) (by simp[g]);have o:J.toArray[j]=k:=by have:=(jk.mp T).2;simpa using this
 have D:t.toArray[j]=N:=by have:=(jk.mp l).2;simpa using this
 rw[o,D];show h (A:=A.in1) (show A.units+1+d<cLine by lia) (apd e g p) E n
def Iq{x y:V}{u:Value}(h:(∃z,x=.str z/\y=.str z)\/∃n,x=.int n/\y=.int n)(N:RelV x u)(F:RelV y v):yQ A s u v true:=by
 rcases h with⟨z,rfl,rfl⟩|⟨n,rfl,rfl⟩
 ·let⟨t,rfl⟩:=(show ∃t,u=yF z t from N);let⟨W,rfl⟩:=(show ∃t,v=yF z t from F);have q:=Xx (A:=A) (s:=s) z t z W;simpa using q
 ·let⟨t,rfl⟩:=(show ∃t,u=Yl n t from N);let⟨W,rfl⟩:=(show ∃t,v=Yl n t from F);have q:=Xw (A:=A) (s:=s) n t n W;rw[beq_self_eq_true]at q;show q
def adZ{J t:List Value}(l:J.length=t.length):((jg (min J.toArray.size t.toArray.size)).all (λ_=>true)&&J.toArray.size==t.toArray.size)=true:=by simp;lia
theorem Rf(I:Inv X o3 σ H s):∀{d:Nat} {A:Around} {x y:V} {u v:Value},A.units+d<cLine->se X.K d H x y->RelV x u->RelV y v->yQ A s u v true
 |0,_,_,_,_,_,_,h,N,F=>Iq h N F
 |d+1,A,x,y,u,v,C,h,N,F=>by
  rcases h with h|⟨a,b,g,vs,rfl,rfl,W,B,p⟩
  ·show Iq h N F
  ·cases N;cases F;by_cases c:a=b
   ·subst c;show yn _
   let⟨J,t,P,m,l,q⟩:=Mz (λ{A x y u v} G M f k=>Rf I G M f k) I C W B p;have z:=xG (A:=A) (e:=λ_=>true) P m #[1] q;rw[adZ l]at z;show Xz c z
inductive at7 (K:Yc) (d:Nat) (b:Bool) (x:V) (y:V) (H:Hp) (Q:VK):Prop|mk (a c:Qp) (us vs:List V) (_:x=.ref a) (_:y=.ref c) (_:iu K H a us) (_:iu K H c vs) (_:qI (se K d H) us vs) (_:Q (.bl b) H)
def afB(d:Nat)(C:X.A.units+(d+1)<cLine):Ax X (qf .NotEq) (at7 X.K d false):=by intro o3 s σ H x y v u Q I f i h;let⟨a,c,b,vs,rfl,rfl,W,L,p,q⟩:=h;cases f;cases i;let⟨J,t,P,m,l,z⟩:=Mz (A:=X.A) (λ{A x y u v} G M B k=>Rf I G M B k) I C W L p;show Gp (e:=λ_=>true) P m #[1] z X.prog X.w X.xe _ ⟨.bl false,H,I,?_,q⟩;change yk _=yk _;rw[adZ l];rfl
end
end L2
namespace L2
open PySem PySem.Spec PySem.W PySem.Builtin PySem.Builtin.ObjectAttr PyProof.Rows
end L2
namespace L2
open PySem PySem.Spec PyProof.Rows
variable{e:Expr}{E:Value->qO->Prop}{H:Hp}
def but(H:Hp)(a:Qp):Hp:=λb=>if b=a then Y else H b
end L2
namespace L2
variable{E:Value->qO->Prop}
section
open PySem PySem.Spec PySem.W PySem.Builtin PySem.Builtin.ObjectAttr PyProof.Rows
end
open PySem PySem.Spec PyProof.Rows
end L2
namespace L2
open PySem PySem.Spec PyProof.Rows
variable{X:Cx}{o e:Expr}{name x:Str}{p pos PL:Pos}{es elts:List Expr}{t tl:TA}{tf:TE}{j i:Nat}{sp:Sp}{P:qL}{w:World}{K:Yc}
section
def ae2:MtM X "str.upper" (λx vs H Q=>∃z:Str,x=.str z/\vs=[]/\z.length<=1000/\((Txt.upper z).length<=3*z.length->Q (.str (Txt.upper z)) H)):=by intro k s w H x vs v m Q I D F h;let⟨z,rfl,rfl,S,q⟩:=h;exists 7;obtain rfl:=F.zero;show SCL.upper (jc S #[9]) λl=>⟨.str _,H,I.tok _,⟨_,U⟩,q l⟩
def aim(K:Yc){to:TE}{a z:Pos}{T id:String}{r:V->List V->Hp->VK->Prop}(D:qK T)(y:Slot T name id)(b:typeOf #[165]=pure (.type "method_descriptor"))(N:MtR X id r)(O:PE X o to)(c:attributeBase o name X.env (eval o X.env)=eval o X.env:=by rfl)(j:(a.endLine==z.line)=true:=by rfl)(g:X.K=K:=by rfl):PE X (.Call (.Attribute o name a) [] [] z) (apL K T r to):=by subst g;show K6 D y b N O c j
inductive adm (x:V) (y:V) (H:Hp) (Q:VK):Prop|mk (a:_) (b:_) (kvs:_) (_:x=.ref a) (_:y=.ref b) (_:H a=Z #[58]) (_:H b=Z #[58]) (_:(∀p∈kvs,∃r,p.2=.ref r/\cG kvs p.1=Z (.ref r))) (_:Q (.bl true) H)
def ail(M:X.A.units+1<cLine):Ax X (qf .Eq) (adm):=by
 intro P s R H x y v u Q I d j h;let⟨a,b,B,rfl,rfl,o,t,N,q⟩:=h;cases d;cases j;let⟨z,S,n,f,C⟩:=BZ I.hok (.inl o);let⟨_,E,g,i,G⟩:=BZ I.hok (.inl t);have K:n.length=g.length:=by rw[<-f.length,i.length]
 show PySem.W.keq_eq (r:=true) S E C G #[1] #[174] ?_
 ·have:∀(l:List #[157]) (m:List (Key×Value)),KV l m->(∀p∈l,∃r,p.2=.ref r/\cG B p.1=Z (.ref r))->PySem.W.KeqHits X.A.in1 s g m true:=by
   intro l m k
   induction k with
   |nil=>show λ_=>.nil
   | @cons p w l m D _ L=>
    intro N;let⟨r,T,c⟩:=N p jA;let⟨k,v⟩:=p;let⟨k',v'⟩:=w;let⟨rfl,F⟩:=D;dsimp only at T c F;subst T;cases F;have O:valueAt g k=Z (.ref r):=by
     have:=i.val k;rw[c]at this;cases J:valueAt g k with
     |none=>rw[J]at this;show this.elim
     |some u=>rw[J]at this;show congrArg Z this
    show Gq (e:=true) O (.same _) (L λp D=>N p (jF _ D))
  show this B n f N
 ·rw[K];simp only[beq_self_eq_true,Bool.and_self];show⟨.bl true,H,I,U,q⟩
end
section
variable{R:V->List V->Hp->VK->Prop}
inductive agx (K:Yc) (R:V->List V->Hp->VK->Prop) (t:TA) (σ:St) (Q:VK) (v:V) (H1:Hp):Prop|mk (f:_) (_:v=.ref f) (_:Yk K #[68]=true) (_:t σ H1 λvs H2=>R v vs H2 Q)
def al0(K:Yc)(R:V->List V->Hp->VK->Prop)(tf:TE)(t:TA):TE:=λσ H Q=>tf σ H (agx K R t σ Q)
def afE(K:Yc)(V:PE X (.Name x p) tf)(W:PA X (e::es) t)(L:LR X R)(a:WE (e::es) X.env=#[29]::WE es X.env:=by rfl)(y:#[34].any (·.1)=false:=by rfl)(g:X.K=K:=by rfl):PE X #[32] (al0 K R tf t):=by subst g;intro k s w H Q I h;show WR (cw (V k s w H _ I h) λu T ⟨v,d,P,r,f,c,b,q⟩=>?_);subst c;cases r;show yP (h₀:=X.base) I.ok.mod.kin b (cw (W pos k T w d _ P q) λm n ⟨i,J,G,j,l⟩=>⟨G.Dm,L k n w J f i m Q G j l⟩) a y
def alb{k:Nat}{ps:List Str}(G:bh X.prog X.w X.K X.mg X.base x k ps [] sp)(S:eJ j X.A)(hkj:k<=j:=by decide):LR X (λv vs H Q=>∃f,v=.ref f/\X.mg x=Z #[68]/\sp vs H Q E0):=by intro c s d H f vs m Q I r ⟨g,e,a,h⟩;let⟨i,l,n,N,R,b,B,F⟩:=G.ex;cases e;cases N.symm.trans a;cases b;show Pr (E:=E0) F (S.mono hkj) B .nil (λ_ _ _ _ _ _ _ h=>h.elim) I r (by rw[jh];show h)
end
def agc(z:Str)(f:j<=z.length):Txt.slice z Y (Z (j:Int))=bA (z.cps.toList.take j):=by have h:=StrLaws.sliceText_nat z (jb j) f;unfold StrLaws.sliceText at h;unfold Txt.slice;rw[StrLaws.sliceIdx_none_lo];show h
def agd(z:Str)(W:i<=z.length):Txt.slice z (Z (i:Int)) Y=bA (z.cps.toList.drop i):=by have h:=StrLaws.sliceText_nat z W (jE _);unfold StrLaws.sliceText at h;unfold Txt.slice;rw[StrLaws.sliceIdx_none_hi,h];change bA _=bA _;rw[zb (by rw[Jw];show jE _)]
section
inductive aud (x:V) (lo:Option Int) (hi:Option Int) (H:Hp) (Q:VK):Prop|mk (z:Str) (_:x=.str z) (_:z.length<=sizeLine) (_:((∃j:Nat,lo=Y/\hi=Z (j:Int)/\j<=z.length/\Q (.str (bA (z.cps.toList.take j))) H)\/∃i:Nat,lo=Z (i:Int)/\hi=Y/\i<=z.length/\Q (.str (bA (z.cps.toList.drop i))) H))
def abv:SlR X aud:=by
 intro e s w H x v g y lo a V Q I D hs N c h;let⟨z,rfl,S,h⟩:=h;exists 7;rcases h with⟨j,rfl,rfl,f,q⟩|⟨i,rfl,rfl,a,q⟩
 ·cases N with
  |none=>
   cases c with
   |int _ b=>show⟨"str",_,F.slot_str_getitem.lookup,WN _ _ _,Wl (l:=Y) (u:=Z ((j:Int),b)) (st:=Y) hs rfl (qz ⟨jc (Txt.slice_le z _ _) S,λW k=>⟨.str _,H,I.tok _,⟨W,congrArg (yF · W) (agc z f)⟩,q⟩⟩)⟩
 ·cases N with
  |int _ d=>
   cases c with
   |none=>show⟨"str",_,F.slot_str_getitem.lookup,WN _ _ _,Wl (l:=Z ((i:Int),d)) (u:=Y) (st:=Y) hs rfl (qz ⟨jc (Txt.slice_le z _ _) S,λW k=>⟨.str _,H,I.tok _,⟨W,congrArg (yF · W) (agd z a)⟩,q⟩⟩)⟩
end
def acV(l:List Nat):Txt.join (Str.ofString "") (l.map λk=>bA [k])=bA l:=by change Gw (Str.ofString "") (l.map λk=>bA [k])=_;rw[StrLaws.glued_eq_join];show GX l
theorem CT:∀{l:List Nat},(∀c∈l,97<=c/\c<=122)->Txt.upper (bA l)=bA (l.map (·-32))
 |[],_=>by decide +kernel
 |c::l,h=>by have L:=h c jA;have e:∀(c:Nat) (l:List Nat),bA (c::l)=bA [c]++bA l:=λc l=>str_inj (by rw[C9];rfl);rw[e c l,GY,CT λx J=>h x (jF _ J),jt,e (c-32)];congr 1;have:=GZ (c:=c) #[1];rw[if_pos L]at this;show this
def adD{l m:List Nat}(C:∀c∈l,97<=c/\c<=122)(N:∀c∈m,97<=c/\c<=122)(h:Txt.upper (bA l)=Txt.upper (bA m)):l=m:=by
 rw[CT C,CT N]at h;have O:l.map (·-32)=m.map (·-32):=congrArg (λz:Str=>z.cps.toList) h;have back:∀{l:List Nat},(∀c∈l,97<=c/\c<=122)->(l.map (·-32)).map (·+32)=l:=λ{l} h=>by rw[JQ];show(zB λc L=>(by have:=h c L;change c-32+32=c;lia)).trans (Zz l)
 rw[<-back C,O,back N]
def aaP{n a b:Qp}(W:a<n)(B:b<n):T3 (n+4) (n+2) (n+3) n (n+1) [n,a] [n+1,b]:=by constructor<;>simp<;>lia
theorem adC{x1:_}(a b n:Qp)(W:a<n)(f:b<n):
  Turn P w K (.Tuple elts x1 pos) (Itz K a b) [n+4,n+2,n+3,n,n+1] (n+4) (λi h=>qF h (n+4) (n+2) (n+3) .none/\qB h (n+2) (.ref n) (.ref (n+1))/\(∃u v,qB h (n+3) u v)/\h.IsTupleIter n a i/\h.IsTupleIter (n+1) b i) where
 mem:=by simp
 obj:=λi h st c L=>by
  let⟨S,j,⟨u,v,M⟩,C,l⟩:=st;simp only[jL,JK,or_false]at L;rcases L with rfl|rfl|rfl|rfl|rfl
  ·show⟨_,S,λv z=>by have p:Data.fields _=Data.cell v:=z;cases p⟩
  ·show⟨_,j,λv z=>by have p:Data.seq _ _=Data.cell v:=z;cases p⟩
  ·show⟨_,M,λv z=>by have p:Data.seq _ _=Data.cell v:=z;cases p⟩
  ·let⟨o,e,c,d⟩:=C;exists 6
  ·let⟨o,e,c,d⟩:=l;exists 6
 keep:=λi h h' st k=>by let⟨S,j,⟨u,v,M⟩,C,l⟩:=st;show⟨k _ #[7] _ S,k _ #[7] _ j,⟨u,v,k _ #[7] _ M⟩,C.at λo e=>k _ #[7] o e,l.at λo e=>k _ #[7] o e⟩
 item:=by
  intro X hP hw hK L i m s σ H E I t st hg;subst hP hw hK;let⟨xs,ys,x,y,g,B,hx,G⟩:=hg;let⟨J,rv,p1,_⟩:=I.tuple g;let⟨F,SA,p2,_⟩:=I.tuple B;let⟨u,hu,ru⟩:=rv.get hx;let⟨v,hv,y4⟩:=SA.get G;let⟨S,j,⟨o1,o2,M⟩,C,l⟩:=st;have Q:=aaP W f;have l1:i<J.toArray.size:=by have:i<J.length:=(jk.mp hu).1;simpa using this
  have l2:i<F.toArray.size:=by have:i<F.length:=(jk.mp hv).1;simpa using this
  have N:X.A.in1.handled=Y:=I.ok.hd L;have D1:=wx (prog:=X.prog) (w:=X.w) (A:=X.A.in1) N n a (jU W) J.toArray;have D2:=wx (prog:=X.prog) (w:=X.w) (A:=X.A.in1) N (n+1) b #[1] F.toArray;have r:s.TypeIs (.ref (n+4)) "zip" :=⟨_,S,rfl⟩;unfold pyNext;show WX (WW (WZ (name:=Str.ofString "__next__") r yr (Wa yr r xO ?_ (xI _))));show adH D1 D2 Q S j M ⟨C,p1⟩ ⟨l,p2⟩ l1 l2 λV O h' tk R O7 a1 a2 a3 a4 a5 a7=>YB ?_;have ex:V=u:=by
   have:J.toArray[i]?=Z u:=by simpa using hu
   rw[this]at R;show(Option.some.inj R).symm
  have ey:O=v:=by
   have:F.toArray[i]?=Z v:=by simpa using hv
   rw[this]at O7;show(Option.some.inj O7).symm
  subst ex ey;show⟨_,U,wpAny_letOwnedTupleGo_zip (s:={s with heap:=h',toks:=tk}) a1 λG6 d5 D=>?_⟩;have fr:H s.heap.objs.size=Y:=I.hok.fresh (jE _);have I1:Inv X m σ (upd H s.heap.objs.size (.tup [x,y])) {s with heap:=s.heap.push {cls:=.type "tuple",data:=.seq #[V,O]},toks:=tk}:=
   I.laid (o:=.tup [x,y]) (λb ob q=>jB _ q) (jE _) ⟨by change 2<=sizeLine;decide,[V,O],.cons ru (.cons y4 .nil),⟨_,jJ _ rfl,rfl,_,rfl⟩⟩
  have lt:∀c∈[n+4,n+2,n+3,n,n+1],c<s.heap.objs.size:=λc L=>by have:=jM S;simp only[jL,JK,or_false]at L;lia
  have f2:∀c∈[n+4,n+2,n+3,n,n+1],tW X m (upd H s.heap.objs.size (.tup [x,y])) c:=λc L=>by show⟨?_,(t c L).2⟩;rw[aj (jU (lt c L))];show(t c L).1
  have I2:Inv X m σ (upd H s.heap.objs.size (.tup [x,y])) {s with heap:=G6,toks:=tk}:=by
   show Inv.abT (s:={s with heap:=s.heap.push {cls:=.type "tuple",data:=.seq #[V,O]},toks:=tk}) (t':=tk) (h':=G6) (ch:=[n+4,n+2,n+3,n,n+1]) I1 (λc o L q=>?_) f2 (λ_ _ _ _=>trivial);simp only[jL,JK,or_false,not_or]at L;show(D.2 c L.1).trans ?_;rcases zt (show(s.heap.push {cls:=.type "tuple",data:=.seq #[V,O]}).get? c=Z o from q)with⟨rfl,rfl⟩|q
   ·show a5
   ·show a7 c o L.1 L.2.2.1 L.2.2.2.1 L.2.2.2.2 q
  show⟨.ref s.heap.objs.size,_,I2,U,⟨s.heap.objs.size,x,y,U,fr,U,λys G=>by rw[I.BO G g];show hx,λys O7=>by rw[I.BO O7 B];show G⟩,⟨d5,?_,⟨V,O,?_⟩,?_,?_⟩,λb f=>(f2 b f).1⟩
  ·show(D.2 _ Q.TIz).trans (a7 _ _ Q.TIz Q.TITO Q.TIi1 Q.TIi2 j)
  ·show(D.2 _ Q.TOz).trans a2
  ·show a3.1.at λo e=>(D.2 _ Q.i1z).trans e
  ·show a4.1.at λo e=>(D.2 _ Q.i2z).trans e
 done:=by
  intro X hP hw hK L i m s σ H E I t st hg;subst hP hw hK;let⟨xs,hq,hx⟩:=hg;let⟨J,rv,p1,_⟩:=I.tuple hq;let⟨S,j,⟨o1,o2,M⟩,C,l⟩:=st;have Q:=aaP W f;have N:X.A.in1.handled=Y:=I.ok.hd L;have D1:=wx (prog:=X.prog) (w:=X.w) (A:=X.A.in1) N n a (jU W) J.toArray;have hl:=rv.length;have ei:i=J.toArray.size:=by simp;lia
  rw[ei]at C;have r:s.TypeIs (.ref (n+4)) "zip" :=⟨_,S,rfl⟩;unfold pyNext;show WX (WW (WZ (name:=Str.ofString "__next__") r yr (Wa yr r xO ?_ (xI _))));show agO D1 Q S j ⟨C,p1⟩ λh' e hk he=>?_;let⟨o,ho,i5⟩:=he;show WX (Wo (T:="StopIteration") (b:=true) ⟨o,ho,i5⟩ qv ?_);show YB ⟨U,I.abT (t':=s.toks) (ch:=[n+4,n+2,n+3,n,n+1]) (λc o L q=>?_) t (λ_ _ _ _=>trivial)⟩;simp only[jL,JK,or_false,not_or]at L;show hk c o L.1 L.2.2.1 L.2.2.2.1 L.2.2.2.2 q
 self:=λ_ _ _ _ _ st h=>YI st.1 h
section
theorem aiv{i:_}{l r:Expr}(f:Gl X "zip")(N:X.mg "zip" = Y)(C:PA X [l,r] tl)(hs:WE [l,r] X.env=[(false,eval l X.env),(false,eval r X.env)]:=by rfl)(M:WE [r] X.env=[(false,eval r X.env)]:=by rfl):
  PI X (.Tuple elts i PL) (.Call (.Name "zip" p) [l,r] [] pos) (aoK X.K tl):=by
 intro k s w H R I h;show Call_ (su I f N akj (Yp (cw (C pos k s w H _ I h) λQ T ⟨W,j,P,n,E⟩=>?_) (by rw[hs,M]) (by rw[M];rfl)));let⟨a,b,e,⟨xs,g⟩,⟨ys,B⟩,q⟩:=E;subst e;cases n with
 |cons x y=>
  cases y with
  |cons A y=>
   cases y;cases x;cases A;let⟨J,rv,d,_⟩:=P.tuple g;let⟨t,u,m,_⟩:=P.tuple B;have S:a<T.heap.objs.size:=by let⟨o,e,_⟩:=d;show jM e
   have v:b<T.heap.objs.size:=by let⟨o,e,_⟩:=m;show jM e
   show aci (show T.heap.IsTuple a J.toArray from d) (show T.heap.IsTuple b t.toArray from m) λh' z V D F G O=>?_;show YI z ?_;have le:∀c∈[T.heap.objs.size+4,T.heap.objs.size+2,T.heap.objs.size+3,T.heap.objs.size,T.heap.objs.size+1],T.heap.objs.size<=c:=λc L=>by simp only[jL,JK,or_false]at L;lia
   show⟨_,_,_,_,j,U,P.kept (t':=T.toks) O,adC a b T.heap.objs.size S v,⟨z,V,⟨_,_,D⟩,F,G⟩,λc L=>P.IL (le c L) (P.hok.fresh (le c L)),q⟩
end
section
inductive apk (K:Yc) (x:V) (y:V) (H:Hp) (Q:VK):Prop|mk (l:_) (b:_) (xs:_) (zs:_) (_:x=.ref l) (_:y=.ref b) (_:mC K H l xs) (_:mC K H b zs) (_:xs.length+zs.length<=sizeLine) (_:∀p,H p=Y->Q (.ref p) (upd H p (.lst (xs++zs))))
def aij:Ax X (binaryOp .Add) (apk X.K):=by
 intro k s w H x y v u Q I D c h;let⟨l,b,t,E,rfl,rfl,W,B,S,q⟩:=h;cases D;cases c;let⟨J,f,P,_⟩:=I.list W;let⟨A,i,m,_⟩:=I.list B;let⟨⟨a,dd,R,V⟩,O,L,n,j⟩:=P.isList;let⟨⟨g,r,data2,z⟩,d,C,T,o⟩:=m.isList;simp only at L j C o;subst L j C o;have e:J.toArray++A.toArray=(J++A).toArray:=by simp
 show qg ⟨_,O,U⟩ ⟨_,d,U⟩ noFill_list_add seq_list_add PySem.F.slot_list_add PySem.F.entry_list_add (PySem.F.args_list_add_2 _ _) (list_addW l b J.toArray A.toArray n T dd r V z (by rw[jP,jP,<-f.length,<-i.length];show S)) ⟨O,d,?_⟩;rw[e];show⟨.ref _,_,I.aoW (t':=s.toks) (f.append i) (by rw[jH];show S),U,q _ I.fresh⟩
end
end L2
set_option maxHeartbeats 8000000
namespace My
open PySem L2
variable{α β κ γ:Type}{i b n t many wide j tn:Nat}{K:Yc}{H H' H0:Hp}{a p ra f B C go ms wt iw TC TJ TH CL rd Pt m0 m1 T fa dX dU fh iB dW fT Fu Mr HS aau pz:Qp}{xs Tp:List V}{P:qL}{sc scope:Scope}{ix:List (Option Nat)}{X:Cx}{x m y h c low most M:Int}{e body:Expr}{te:TE}{pos:Pos}{D:Ends}{σ:St}{o:Obj}{fz ts ds Ps:List Qp}{z t1 qual t0:Str}{w:World}{mg:Str->Option Value}{base:Heap}{fd:Qx}{dV oc doc pm cq ct tc:Value}{kvs:List (Key×V)}{sg o4 acG φ ru:Int->Int}{d d0 d1 d2:V}{zs loose:List Str}{sp:Sp}{params:Qr}{Qd:Qp->Hp->Prop}{A:Around}{st:Stmt}{od an td:Option Qp}{PZ tsl sl:Array (Option Value)}{LJ Mn Mo:Tok}
abbrev LL:=List (List Int)
abbrev LI:=List Int
abbrev OV:=Option V
def lH{l:List α}{a:α}(h:l[i]?=Z a):∃h:i<l.length,l[i]=a:=jk.mp h
def tw{l:List α}{a:α}(h:l[i]?=Z a):a∈l:=JT h
def BF{a:α}{s t:List α}:a∈s++t↔a∈s\/a∈t:=zC
def aW{f:α->β}{l:List α}:(l.map f).length=l.length:=jW f
def bg(h:H a=Z #[42]):iu K H a xs:=iu.of h
def bM(h:H a=Z #[133]):mC K H a xs:=mC.of h
def top(i:Nat):Stmt:=PySem.Challenge.pw_figuretell_k63_atoms_made.main.body.getD i (.Pass ⟨0,0,0,0⟩)
abbrev CI:Stmt:=top 7
abbrev oY:Stmt:=top 8
abbrev me:Stmt:=top 9
abbrev wL:Stmt:=top 10
abbrev CJ:Stmt:=top 11
abbrev Fe:Stmt:=top 12
abbrev Ll:Stmt:=top 13
abbrev Z8:Stmt:=top 16
abbrev oZ:Stmt:=top 17
abbrev DM:Stmt:=top 28
abbrev DN:Stmt:=top 30
abbrev dF:Stmt:=top 31
abbrev pJ:Stmt:=top 32
abbrev dE:Stmt:=top 33
abbrev Fd:Stmt:=top 34
abbrev BM:Stmt:=top 38
abbrev Pw:Stmt:=top 45
abbrev Ff:Stmt:=top 46
abbrev Be:Stmt:=top 47
abbrev pb:Stmt:=top 48
abbrev Fg:Stmt:=top 49
abbrev rJ:Stmt:=top 50
abbrev Bf:Stmt:=top 52
abbrev wK:Stmt:=top 60
abbrev Bb:Stmt:=top 61
abbrev Bc:Stmt:=top 62
abbrev sS:Stmt:=top 63
abbrev Pu:Stmt:=top 67
abbrev rX:Stmt:=top 69
abbrev wJ:Stmt:=top 71
abbrev A0:Stmt:=top 72
abbrev ma:Stmt:=top 73
abbrev Ba:Stmt:=top 74
abbrev rH:Stmt:=top 75
abbrev CG:Stmt:=top 76
abbrev mN:Stmt:=top 77
abbrev wI:Stmt:=top 78
abbrev pI:Stmt:=top 79
abbrev A2:Stmt:=top 80
abbrev Fc:Stmt:=top 81
abbrev rV:Stmt:=top 82
abbrev lZ:Stmt:=top 83
abbrev rW:Stmt:=top 84
abbrev rG:Stmt:=top 85
abbrev SD:Stmt:=top 86
abbrev iL:Stmt:=inClass (top 23) 0
abbrev oX:Stmt:=inClass (top 23) 1
abbrev rF:Stmt:=inClass (top 23) 2
abbrev rE:Stmt:=inClass (top 23) 3
abbrev cM:Stmt:=inClass (top 35) 0
abbrev mL:Stmt:=inClass (top 35) 1
abbrev eV:Stmt:=inClass (top 35) 2
abbrev mM:Stmt:=inClass (top 35) 3
abbrev eW:Stmt:=inClass (top 35) 4
abbrev lY:Stmt:=inClass (top 35) 5
abbrev dR:Stmt:=inClass (top 53) 0
abbrev ig:Stmt:=inClass (top 53) 1
abbrev fO:Stmt:=inClass (top 53) 2
abbrev rD:Stmt:=inClass (top 54) 0
abbrev rC:Stmt:=inClass (top 54) 1
abbrev sQ:Stmt:=inClass (top 55) 0
abbrev sP:Stmt:=inClass (top 55) 1
abbrev iJ:Stmt:=inClass (top 56) 0
abbrev oW:Stmt:=inClass (top 56) 1
abbrev rB:Stmt:=inClass (top 56) 2
abbrev rA:Stmt:=inClass (top 56) 3
abbrev mJ:Stmt:=inClass (top 68) 0
abbrev fH:Stmt:=inClass (top 68) 1
abbrev dQ:Stmt:=inClass (top 68) 2
abbrev mK:Stmt:=inClass (top 68) 6
abbrev fM:Stmt:=inClass (top 68) 7
abbrev iG:Stmt:=inClass (top 68) 8
def bQ{N P:List Str}(h:(sc.kind=.function/\sc.isCoroutine=false/\sc.isGenerator=false)/\N.Nodup/\N.take P.length=P/\(∀x∈P,sc.names.lookup x=Z .local\/sc.names.lookup x=Z .cell)/\∀y∈sc.names,y.2≠.free):aA N P sc:=⟨h.1.1,h.1.2.1,h.1.2.2,h.2.1,h.2.2.1,h.2.2.2.1,h.2.2.2.2⟩
def mH{b N:List Str}{a:Scope}(h:sc.kind=.function/\N.Nodup/\(∀y∈sc.names,y.2≠.cell)/\(∀y∈sc.names,y.2=.local->sc.names.lookup y.1=Z .local)/\(∀y∈sc.names,y.2=.free->a.names.lookup y.1=Z .cell\/a.names.lookup y.1=Z .free)/\ix.length=N.length/\∀p∈N.zip ix,∀i∈p.2,b[i]?=Z p.1/\sc.names.lookup p.1=Z .free):aY b a N ix sc:=⟨h.1,h.2.1,h.2.2.1,h.2.2.2.1,h.2.2.2.2.1,h.2.2.2.2.2.1,λp m i e=>h.2.2.2.2.2.2 p m i e⟩
def aB{x:Str}{a:Pos}(T:X.N.Nodup)(R:PE X e te)(W:X.N[i]?=Z x:=by rfl)(J:Loc X.env.scope x:=by first|show .inl rfl|show .inr rfl)(hs:WI e (Z (.Name x a)) pos.line X.env=pure false:=by rfl)(V:X.fn x=true\/X.env.scope.names.lookup x=Z .local:=by first|show .inl rfl|show .inr rfl|assumption):PS X (.Assign [.Name x a] e pos) (tT te (aJ i)):=afS T W J R hs V
def bj{x:Str}(T:X.N.Nodup)(W:X.N[i]?=Z x:=by rfl)(J:Loc X.env.scope x:=by first|show .inl rfl|show .inr rfl)(V:X.fn x=true\/X.env.scope.names.lookup x=Z .local:=by first|show .inl rfl|show .inr rfl|assumption):PG X #[180] (aJ i):=ait T W J V
def rM{c A B:Prop}[Decidable c](G:c->A)(M:¬ c->B):if decide c=true then A else B:=O8 (λh=>G (of_decide_eq_true h)) λh=>M λz=>h (decide_eq_true z)
def tu{c A B:Prop}[Decidable c](G:¬ c->A)(M:c->B):if (!decide c)=true then A else B:=O8 (λh=>G λz=>by rw[decide_eq_true z]at h;cases h) λh=>M (Decidable.byContradiction λz=>h (by rw[decide_eq_false z];rfl))
def EG{a b:Int}{A B:Prop}(G:a=b->A)(M:a≠b->B):if decide (V.int a=V.int b)=true then A else B:=rM (λh=>G (V.int.inj h)) λh=>M λz=>h (congrArg V.int z)
def alf{a b n:Int}(c:0<=a)(L:a<=m)(M:0<=b)(r:b<=n):0<=a*b/\a*b<=m*n:=⟨Jl c M,Ju L r M (zN c L)⟩
def cb{a b:Int}(h:0<b):0<=a%b/\a%b<b:=⟨QS a #[1],QA a h⟩
def Bw{t u:TS}(R:St->Hp->Prop)(M:∀O H',R O H'->u D O H')(G:(∀O H',R O H'->u D O H')->aai t u D σ H):aai t u D σ H:=G M
def cg{t u:TS}(R:St->Hp->Prop)(G:∀O H',R O H'->u D O H')(M:∀p:Ends,(∀O H',R O H'->p.nx O H')->t p σ H):aai t u D σ H:=M {D with nx:=u D} G
def au{o:HO}(h:av H H')(D:H p=Y):av H (upd H' p o):=λb u e=>by rw[aj (ar e D)];show h b u e
def fu(h:0<=x):∃n:Nat,x=(n:Int):=⟨x.toNat,by lia⟩
def getD_at{xs:List α}{d:α}(h:i<xs.length):xs.getD i d=xs[i]:=by simp[h]
def dY{ns:LI}{k:Int}(X:0<=k)(h:k<(ns.length:Int)):wV #[47] k=Z (.int (ns.getD k.toNat 0)):=by
 have R:k.toNat<ns.length:=by lia
 have n:k=((k.toNat:Nat):Int):=by lia
 have q:wV #[47] ((k.toNat:Nat):Int)=Z (.int ns[k.toNat]):=Bt (by rw[jR,jC R]<;>rfl);rw[<-n]at q;rw[q,getD_at R]
def Dc{k:Int}(X:0<=k)(h:fz[k.toNat]?=Z ra):wV #[63] k=Z (.ref ra):=by
 have n:k=((k.toNat:Nat):Int):=by lia
 have q:wV #[63] ((k.toNat:Nat):Int)=Z (.ref ra):=Bt (by rw[jR,h]<;>rfl);rw[<-n]at q;show q
def cy{ns:LI}{y:V}(h:#[47][i]?=Z y):∃z,y=V.int z/\ns[i]?=Z z:=by
 rw[jR]at h;cases e:ns[i]? with
 |none=>rw[e]at h;cases h
 |some z=>rw[e]at h;show⟨z,#[143].symm,rfl⟩
def cN(K:Yc):yL K #[169] #[169]=Z true:=by with_unfolding_all rfl
def bI(h:n<=100000):n<sizeLine:=by rw[WD];lia
def ajQ(h:n<=100000):n<=sizeLine:=JS (bI h)
def stepI(rows:LL)(h f:Int):Int:=(rows.getD h.toNat []).getD f.toNat 0
def bp(rows:LL)(row:LI)(h:Int):Int:=row.foldl (stepI rows) h
structure aQ(many wide:Nat)(rows:LL):Prop where
 len:rows.length=many
 row:∀r∈rows,r.length=wide
 val:∀r∈rows,∀v∈r,0<=v/\v<(many:Int)
def cP{rows:LL}{f:Int}(R:aQ many wide rows)(a:0<=h)(G:h<many)(T:0<=f)(D:f<wide):0<=stepI rows h f/\stepI rows h f<many:=by
 have u:h.toNat<rows.length:=by rw[R.len];lia
 have X:f.toNat<rows[h.toNat].length:=by rw[R.row _ (jO u)];lia
 unfold stepI;rw[getD_at u,getD_at X];show R.val _ (jO u) _ (jO X)
theorem oG{rows:LL}(R:aQ many wide rows):∀{ns:LI} {h:Int},(∀f∈ns,0<=f/\f<(wide:Int))->0<=h->h<many->0<=bp rows ns h/\bp rows ns h<many
 |[],h,_,X,G=>⟨X,G⟩
 |f::r,h,V,X,G=>by let⟨a,b⟩:=cP R X G (V f jA).1 (V f jA).2;show oG (ns:=r) R (λg m=>V g (jF _ m)) a b
def cW(rows:LL)(xs ys:LI)(h:Int):bp rows (xs++ys) h=bp rows ys (bp rows xs h):=by unfold bp;rw[JC]
def aao{rows:LL}{ns:LI}{z:Int}(e:ns[i]?=Z z):bp rows (ns.take (i+1)) h=stepI rows (bp rows (ns.take i) h) z:=by rw[jS,e,cW];rfl
def bF(H:Hp):List Qp->LL->Prop:=qI λa r=>H a=Z (.tup #[177])
theorem bF.length{rows:LL}(h:bF H fz rows):fz.length=rows.length:=Paired.length h
theorem bF.get:∀{H:Hp} {fz:List Qp} {rows:LL} {i:Nat},bF H fz rows->(h:i<rows.length)->∃ra,fz[i]?=Z ra/\H ra=Z (.tup (rows[i].map V.int))
 |_,_,_,_,.nil,h=>by simp at h
 |_,_,_,0,.cons (a:=a) r _,_=>⟨a,rfl,r⟩
 |_,_,_,i+1,.cons _ t,h=>by let⟨ra,G,M⟩:=bF.get (i:=i) t #[154];show⟨ra,by simpa using G,by simpa using M⟩
def bF.same{rows:LL}(h:bF H fz rows)(s:∀b xs,H b=Z #[42]->H' b=Z #[42]):bF H' fz rows:=Paired.EM h λ_ _ q=>s _ _ q
theorem bF.snoc:∀{H:Hp} {fz:List Qp} {rows:LL} {a:Qp} {r:LI},bF H fz rows->H a=Z (.tup #[177])->bF H (fz++[a]) (rows++[r])
 |_,_,_,_,_,.nil,h=>.cons h .nil
 |_,_,_,_,_,.cons q t,h=>.cons q (bF.snoc t h)
structure bD(H:Hp)(m r g:Qp)(wide:Nat)(rows:LL)(signs:LI):Prop where
 tup:H m=Z (.tup [.int wide,.ref r,.ref g])
 rows:∃fz,H r=Z (.tup #[63])/\bF H fz rows
 sgn:H g=Z (.tup (signs.map V.int))
theorem bD.same{m r g:Qp}{rows:LL}{signs:LI}(M:bD H m r g wide rows signs)(s:∀b xs,H b=Z #[42]->H' b=Z #[42]):bD H' m r g wide rows signs:=by let⟨G,⟨fz,a,B⟩,k⟩:=M;show⟨s _ _ G,⟨fz,s _ _ a,B.same s⟩,s _ _ k⟩
def AZ{rows:LL}{f:Int}(A:bF H fz rows)(R:aQ many wide rows)(X:0<=h)(G:h<many)(T:0<=f)(D:f<wide):
  ∃(ra:Qp) (r:LI),wV #[63] h=Z (.ref ra)/\H ra=Z (.tup #[177])/\wV #[177] f=Z (.int (stepI rows h f)):=by
 have u:h.toNat<rows.length:=by rw[R.len];lia
 have a:rows[h.toNat].length=wide:=R.row _ (jO u);let⟨ra,b,g⟩:=A.get u;exists ra,rows[h.toNat],Dc X b,g;rw[dY T (by rw[a];show D)];unfold stepI;rw[getD_at u]
variable{N u ns r signs s1 s2 ks gs v ls col ins ws mem s dn aI qs F:LI}{rows y3 az r1 r2 rs MJ:LL}
def eh(rows:LL)(ρ:Int->Int)(qs:LI):LL:=qs.map λq=>#[62].map ρ
def dz(signs qs:LI):LI:=qs.map λq=>signs.getD q.toNat 0
def akb(H:Hp)(D:Qp)(many:Nat)(rows:LL)(qs:LI)(ρ:Int->Int):Prop:=∃kvs,H D=Z #[58]/\∀q∈qs,∀t∈rows.getD q.toNat [],cG kvs (Sum.inl t)=Z (.int (ρ t))
def akc(H:Hp)(D:Qp)(many:Nat)(rows:LL)(qs:LI)(ρ:Int->Int):Prop:=∃ns:LI,H D=Z (.lst #[47])/\∀q∈qs,∀t∈rows.getD q.toNat [],(0<=t/\t<(ns.length:Int))/\ρ t=ns.getD t.toNat 0
inductive DY (K:Yc) (Num:Hp->Qp->Nat->LL->LI->(Int->Int)->Prop) (vs:List V) (H:Hp) (Q:VK) (E:XK):Prop|mk (m kl D r g:Qp) (many wide:Nat) (rows:LL) (signs qs:LI) (ρ:Int->Int) (_:vs=[.ref m,.ref kl,.ref D]) (_:bD H m r g wide rows signs) (_:aQ many wide rows) (_:signs.length=many) (_:(many<=100000/\wide<=100000)) (_:H kl=Z (.lst (qs.map V.int))) (_:qs.length<=100000) (_:(∀q∈qs,0<=q/\q<(many:Int))) (_:Num H D many rows qs ρ) (_:∀(m' r' g':Qp) (H':Hp),av H H'->bD H' m' r' g' wide (eh rows ρ qs) (dz signs qs)->Q (.ref m') H')
def bF.kept{q:Int}(A:bF H fz rows)(R:aQ many wide rows)(X:0<=q)(G:q<(many:Int)):∃ra,wV #[63] q=Z (.ref ra)/\H ra=Z (.tup (#[62].map V.int))/\#[62].length=wide:=by
 have l:q.toNat<rows.length:=by rw[R.len];lia
 let⟨ra,T,g⟩:=A.get l;show⟨ra,?_,by rw[getD_at l];show g,by rw[getD_at l];show R.row _ (jO l)⟩;have D:wV #[63] ((q.toNat:Nat):Int)=Z (.ref ra):=Bt (by rw[jR,T];rfl);rw[jf X]at D;show D
def arh(H:Hp)(D:Qp)(many:Nat)(rows:LL)(qs:LI)(ρ:Int->Int):Prop:=akb H D many rows qs ρ\/akc H D many rows qs ρ
def auD(t1 t2:TE):TE:=λσ H Q=>t1 σ H Q\/t2 σ H Q
def ais{t1 i:TE}(G:PE X e t1)(M:PE X e i):PE X e (auD t1 i):=λk s σ H Q I h=>h.elim (G k s σ H Q I) (M k s σ H Q I)
section
def iA:aA ["machine","kept","numbers","rows","signs","kept_rows","here"] ["machine","kept","numbers"] (aq dF):=bQ #[0]
def Aa:aY ["machine","kept","numbers","rows","signs","kept_rows","here"] (aq dF) ["there","numbers"] [Y,Z 2] ⟨.function,[#[41],("there",.local),("numbers",.free)],false,false,[]⟩:=mH #[0]
def Ab:aY ["machine","kept","numbers","rows","signs","kept_rows","here"] (aq dF) ["here","signs"] [Y,Z 4] ⟨.function,[#[41],("here",.local),("signs",.free)],false,false,[]⟩:=mH #[0]
def N1(F:bu K "with_rooms" "with_rooms" dF dV f fd)(aF:mg "tuple" = Y):aR P w K mg base cO 1 f fd ["machine","kept","numbers"] (DY K arh):=by
 show F.ok iA #[18] (λcq A y4 s H vs Q E hr h=>?_)
 ·let⟨m,J,D,r,g,many,wide,rows,signs,qs,u,rfl,_⟩:=h;rfl
 let⟨m,J,D,r,g,many,wide,rows,signs,qs,u,rfl,M,R,w5,⟨n1,w1⟩,l,lq,o,d,k⟩:=h;let⟨hm,⟨fz,AL,hA⟩,hg⟩:=M;have hu:=ow hr;show⟨_,(ah (aB (i:=3) iA.nd #[12])
   (ah (aB (i:=4) iA.nd #[12])
   (ah (aB (i:=5) iA.nd (bS af))
   (ah (cf PassesOwn.never rfl (cU (pv 1)) (bj (i:=6) iA.nd) (ao (bC (fZ Ye Yg Yh bX (pv 5) (aa (aS bq #[31] aF bJ (aa (fJ rfl Aa (eD (ax ay (pv 3) (pv 6) #[2])) (λ_ _ _ _=>(bj (i:=0) Aa.nd)) (λ_ _ _ _=>(ais (iE hu (pv 1) (pv 0) #[2]) (ax (aeR K) (pv 1) (pv 0) #[2])))) af)) af)))))
   (ao (aE (cA (aa #[12] (aa (aS bq #[31] aF bJ #[124]) (aa (aS bq #[31] aF bJ (aa (fJ rfl Ab (cU (pv 1)) (λ_ _ _ _=>(bj (i:=0) Ab.nd)) (λ_ _ _ _=>(ax (mS K) (pv 1) (pv 0) #[2]))) af)) af)))))))))),?_⟩
 exists 0;exists _,rfl,m,_,_,_,rfl,rfl,bg hm,rfl;exists _,rfl,m,_,_,_,rfl,rfl,bg hm,rfl;show⟨#[15],λL hL=>?_⟩;have sL:=ak hL #[74];exists 25;show cg (t:=pQ _ _ _) (λO H'=>∃(I:List Qp) (v:OV),O=[Z #[136],Z (.ref J),Z #[103],Z (.ref r),Z (.ref g),Z (.ref L),v]/\av H H'/\H' L=Z #[182]/\bF H' I (eh rows u qs)) ?_ #[27];exists 27
 ·exists _,rfl,J,rfl,⟨_,bM (sL _ _ l)⟩;show fW (K:=K) (xs:=qs.map V.int) (λi O H'=>∃(I:List Qp) (v:OV),O=[Z #[136],Z (.ref J),Z #[103],Z (.ref r),Z (.ref g),Z (.ref L),v]/\av H H'/\H' L=Z #[182]/\bF H' I (eh rows u #[184])) ⟨[],Y,U,sL,ae,.nil⟩ (λi O H' _ ⟨_,_,_,e,_,_⟩=>bM (e _ _ l)) ?_ ?_
  ·rintro i y O H3 hi ⟨I,v,rfl,X,IP,A3⟩;let⟨z,rfl,S⟩:=cy hi;have zm:=tw S;have li:=(lH S).1;let⟨z0,z1⟩:=o z zm;let⟨ra,e1,e2,e3⟩:=hA.kept R z0 z1;have la:I.length=i:=by rw[A3.length];unfold eh;rw[aW,jT];lia
   exists _,rfl,.inl ⟨rfl,_,bM IP⟩,_,rfl,_,rfl,r,_,_,_,rfl,rfl,bg (X _ _ AL),e1,ra,rfl,⟨_,bg (X _ _ e2)⟩;show rh (K:=K) (xs:=(rows.getD z.toNat []).map V.int) (λD j a H'=>av H3 H'/\a=(((rows.getD z.toNat []).take j).map u).map V.int) #[59] (λD j a H' _ ⟨e,_⟩=>bg (e _ _ (X _ _ e2))) ?_ ?_
   ·rintro T j y a n Q' hT hj c ⟨N,rfl⟩ k';let⟨t,rfl,p⟩:=cy hj;have tm:=tw p;have lj:=(lH p).1;have q:=X.trans N;have W:=k' (.int (u t)) n c (bI #[79]) ⟨au N hT,by rw[jS,p,jD,jD];rfl⟩
    rcases d with⟨kvs,B,d⟩|⟨nl,B,d⟩
    ·show .inl ⟨_,U,_,U,D,_,U,by rw[<-d z zm t tm];show lG.k (k:=Sum.inl t) (q _ _ B),W⟩
    ·let⟨⟨t0,t1⟩,et⟩:=d z zm t tm;show .inr ⟨_,U,_,U,D,_,_,_,U,U,bM (q _ _ B),by rw[et];show dY t0 t1,W⟩
   ·rintro T a n hT c ⟨N,rfl⟩;rw[aW,jV]at c;show⟨T,_,U,.inl ⟨bM c,λt p=>?_⟩⟩;have x:=N _ _ IP;have nL:L≠t:=ar x p;show⟨L,_,_,U,U,by rw[aj nL];show x,bI #[25],?_⟩;have sT:∀b xs,H3 b=Z #[42]->(upd (upd n t (.tup (((rows.getD z.toNat []).map u).map V.int))) L (.lst (I.map V.ref++[V.ref t]))) b=Z #[42]:=λb xs e=>by have e4:=N _ _ e;rw[aj (aO e4 x #[3]),aj (ar e4 p)];show e4
    show⟨I++[t],_,U,au (au (X.trans N) ((X.trans N).free p)) hL,by rw[ae,jD];rfl,?_⟩;have ek:eh rows u (qs.take (i+1))=eh rows u #[184]++[(rows.getD z.toNat []).map u]:=by unfold eh;rw[jS,S,jD];rfl
    rw[ek];show bF.snoc (A3.same sT) (by rw[aj (Ne.symm nL),ae])
  ·rintro O H3 ⟨I,v,rfl,X,IP,A3⟩;rw[aW,jV]at A3;show cI _ _ ⟨I,v,U,X,IP,A3⟩
 rintro O H1 ⟨I,v,rfl,s1,d5,A1⟩;show⟨_,U,m,_,_,_,U,U,bg (s1 _ _ hm),U,_,U,L,_,U,.inl ⟨bM d5,λrt i5=>?_⟩⟩;have s2:=ak i5 (HO.tup #[86]);have DK:=s1.trans s2;exists _,rfl,J,rfl,⟨_,bM (DK _ _ l)⟩;show iX (K:=K) (xs:=qs.map V.int) (λD j a H'=>av (upd H1 rt (HO.tup #[86])) H'/\a=(dz signs (qs.take j)).map V.int) #[59] (λD j a H' _ ⟨e,_⟩=>bM (e _ _ (DK _ _ l))) ?_ ?_
 ·rintro T j y a n Q' hT hj c ⟨N,rfl⟩ k';let⟨z,rfl,S⟩:=cy hj;have li:=(lH S).1;let⟨z0,z1⟩:=o z (tw S);show⟨_,U,_,U,g,_,_,_,U,U,bg ((DK.trans N) _ _ hg),dY z0 #[1],k' _ _ c (bI (by unfold dz;rw[aW,aW,jT];lia)) ⟨au N hT,?_⟩⟩;unfold dz;rw[jS,S,jD,jD];rfl
 rintro G a n hG c ⟨N,rfl⟩;rw[aW,jV]at c;show⟨G,_,U,.inl ⟨bM c,λgt j5=>⟨#[35],λmm o5=>?_⟩⟩⟩;have s5:=ak j5 (HO.tup ((dz signs qs).map V.int));have s6:=ak o5 (HO.tup [V.int wide,V.ref rt,V.ref gt]);have C:=s5.trans s6;show k mm rt gt _ (DK.trans (N.trans C)) ⟨ae,⟨I,(N.trans C) _ _ ae,A1.same λb zs e=>(s2.trans (N.trans C)) _ _ e⟩,s6 _ _ ae⟩
def aR.imp{k:Nat}{ps:List Str}{s1 s2:Sp}(A:aR P w K mg base cO k f fd ps s1)(g:∀vs H Q E,s2 vs H Q E->s1 vs H Q E):aR P w K mg base cO k f fd ps s2:=
 ⟨λvs H Q E h=>A.len vs H Q E (g _ _ _ _ h),λX I s H c m vs Q E S R B N hs=>A.run X I s H c m vs Q E S R B N (g _ _ _ _ hs)⟩
def adi(F:bu K "with_rooms" "with_rooms" dF dV f fd)(C:mg "tuple" = Y):aR P w K mg base cO 1 f fd ["machine","kept","numbers"] (DY K akb):=(N1 F C).imp λ_ _ _ _ ⟨m,J,D,r,g,many,wide,rows,signs,qs,u,e,M,R,a,x,l,A,o,N,k⟩=>⟨m,J,D,r,g,many,wide,rows,signs,qs,u,e,M,R,a,x,l,A,o,.inl N,k⟩
def adj(F:bu K "with_rooms" "with_rooms" dF dV f fd)(C:mg "tuple" = Y):aR P w K mg base cO 1 f fd ["machine","kept","numbers"] (DY K akc):=(N1 F C).imp λ_ _ _ _ ⟨m,J,D,r,g,many,wide,rows,signs,qs,u,e,M,R,a,x,l,A,o,N,k⟩=>⟨m,J,D,r,g,many,wide,rows,signs,qs,u,e,M,R,a,x,l,A,o,.inr N,k⟩
end
theorem MW(p:α->Bool):∀l:List α,l.length=(l.filter p).length+(l.filter λx=>!p x).length
 |[]=>rfl
 |x::l=>by
  have K:=MW p l;cases e:p x
  ·rw[JG (by rw[e];decide),JL (by rw[e];rfl),jX,jX];lia
  ·rw[JL e,JG (by rw[e];decide),jX,jX];lia
theorem cL:∀(many:Nat) {ks:LI},ks.Nodup->(∀q∈ks,0<=q/\q<(many:Int))->ks.length<=many
 |0,ks,_,h=>by
  cases ks with
  |nil=>show jE _
  |cons q r=>have:=h q jA;lia
 |many+1,ks,o,h=>by
  have e:(ks.filter λq=>decide (q≠(many:Int))).length<=many:=cL many (o.filter _) λq l=>by have G:=h q (jv.mp l).1;have M:q≠(many:Int):=of_decide_eq_true (jv.mp l).2;lia
  have c:(ks.filter λq=>!decide (q≠(many:Int))).length<=1:=by
   have a:=o.filter λq=>!decide (q≠(many:Int));have w:∀q∈ks.filter (λq=>!decide (q≠(many:Int))),q=(many:Int):=λq l=>by have:=(jv.mp l).2;simpa using this
   match hm:ks.filter (λq=>!decide (q≠(many:Int))),a,w with
   |[],_,_=>show jb _
   |[x],_,_=>show jE _
   |x::y::r,a,w=>
    have G:=w x jA;have M:=w y #[186];rw[G,M]at a;show absurd jA (jm.mp a).1
  have t:=MW (λq=>decide (q≠(many:Int))) ks;lia
def eA(ks:LI):List #[157]:=ks.map λq=>(Sum.inl q,V.bl true)
def Hw(ks:LI)(q:Int):(cG (eA ks) (Sum.inl q)).isSome=decide (q∈ks):=by
 induction ks with
 |nil=>rfl
 |cons k r K=>
  by_cases e:k=q
  ·subst e;rw[show eA (k::r)=(Sum.inl k,V.bl true)::eA r from rfl,cR rfl];simp
  ·rw[show eA (k::r)=(Sum.inl k,V.bl true)::eA r from rfl,cE (λz=>e (Sum.inl.inj z)),K];simp[Ne.symm e]
def Hv{q:Int}(h:q∉ks):putK (eA ks) (Sum.inl q) (V.bl true)=eA (ks++[q]):=by
 unfold putK;rw[if_neg (by intro z;let⟨p,D,e⟩:=Jz.mp z;let⟨k,R,rfl⟩:=jK.mp D;have:=Sum.inl.inj (of_decide_eq_true e);show h (this▸R))]
 unfold eA;rw[jD];rfl
def EI(es:List #[187]):List #[157]:=es.map λe=>(Sum.inl e.1,V.ref e.2)
theorem RW:∀{es:List #[187]} {q:Int},q∉es.map Prod.fst->cG (EI es) (Sum.inl q)=Y
 |[],_,_=>rfl
 |e::es,q,h=>by rw[show EI (e::es)=(Sum.inl e.1,V.ref e.2)::EI es from rfl,cE (λz=>h (by rw[<-Sum.inl.inj z];show jA))];show RW λz=>h (jF _ z)
theorem J2:∀{es:List #[187]} {q:Int} {a:Qp} {j:Nat},(es.map Prod.fst).Nodup->es[j]?=Z (q,a)->cG (EI es) (Sum.inl q)=Z (V.ref a)
 |[],_,_,_,_,h=>by cases h
 |e::es,q,a,0,_,h=>by cases h;show cR rfl
 |e::es,q,a,j+1,o,h=>by
  have g:=jm.mp (show(e.1::es.map Prod.fst).Nodup from o);have O:es[j]?=Z (q,a):=h;rw[show EI (e::es)=(Sum.inl e.1,V.ref e.2)::EI es from rfl,cE (λz=>g.1 (by have:e.1=q:=Sum.inl.inj z;rw[this];show jK.mpr ⟨(q,a),tw O,U⟩))]
  show J2 g.2 O
def ahO{es:List #[187]}{q:Int}(h:q∉es.map Prod.fst):putK (EI es) (Sum.inl q) (V.ref a)=EI (es++[(q,a)]):=by
 unfold putK;rw[if_neg (by intro z;let⟨p,D,e⟩:=Jz.mp z;let⟨k,R,rfl⟩:=jK.mp D;have:=Sum.inl.inj (of_decide_eq_true e);show h (this▸jK.mpr ⟨k,R,U⟩))]
 unfold EI;rw[jD];rfl
def snoc_cases{xs:List α}{y z:α}(h:(xs++[y])[j]?=Z z):xs[j]?=Z z\/(j=xs.length/\z=y):=by
 rcases Jb j xs.length with q|q
 ·rw[JA q]at h;show .inl h
 ·rw[JD q]at h;rcases Jb (j-xs.length) 1 with p|p
  ·have e:j=xs.length:=by lia
   subst e;rw[zO]at h;show .inr ⟨U,#[143].symm⟩
  ·rw[JE (by simpa using p)]at h;cases h
def mB.same(h:mB H ts kvs)(s:∀b xs,H b=Z #[42]->H' b=Z #[42]):mB H' ts kvs:=Paired.EM h λ_ _ q=>s _ _ q
theorem R5:∀{gs ks:LI},(ks++gs).Nodup->dw (eA ks) (eA gs)=eA (ks++gs)
 |[],ks,_=>by rw[jh];rfl
 |g::gs,ks,o=>by have m:g∉ks:=λz=>(JM.mp o).2.2 g z g jA rfl;change dw (putK (eA ks) (Sum.inl g) (V.bl true)) (eA gs)=_;rw[Hv m,R5 (by rw[jr];show o),jr];rfl
def MZ(o:gs.Nodup):dw [] (eA gs)=eA gs:=R5 (ks:=[]) o
structure cS(H0 H:Hp)(B:Qp)(es:List (Int×Qp))(P:Int->LI->Prop):Prop where
 at_:H B=Z (.dK (EI es))
 nd:(es.map Prod.fst).Nodup
 nd2:(es.map Prod.snd).Nodup
 fresh:∀e∈es,H0 e.2=Y
 lst:∀e∈es,∃ls:LI,H e.2=Z (.lst (ls.map V.int))/\P e.1 ls
 non:∀q,q∉es.map Prod.fst->P q []
def cS.get{es:List #[187]}{P:Int->LI->Prop}(b:cS H0 H B es P){q:Int}{v:V}(h:cG (EI es) (Sum.inl q)=Z v):∃S ls,v=.ref S/\(q,S)∈es/\H S=Z (.lst (ls.map V.int))/\P q ls:=by
 have N:q∈es.map Prod.fst:=Classical.byContradiction λz=>by rw[RW z]at h;cases h
 let⟨e,R,rfl⟩:=jK.mp N;let⟨j,f⟩:=JJ.mp R;have:=J2 b.nd (q:=e.1) (a:=e.2) f;rw[this]at h;let⟨ls,G,M⟩:=b.lst e R;show⟨e.2,ls,#[143].symm,R,G,M⟩
def ahq{es:List #[187]}(o:(es.map Prod.fst).Nodup){e E:Int×Qp}(h:e∈es)(h':E∈es)(q:e.1=E.1):e=E:=by
 let⟨i,W,y⟩:=ji h;let⟨j,f,l⟩:=ji h';have:(es.map Prod.fst)[i]'(by simpa using W)=(es.map Prod.fst)[j]'(by simpa using f):=by simp[y,l,q]
 have:=(JY o).mp this;subst this;rw[<-y,<-l]
def aiI{es:List #[187]}(o:(es.map Prod.snd).Nodup){e E:Int×Qp}(h:e∈es)(h':E∈es)(q:e.2=E.2):e=E:=by
 let⟨i,W,y⟩:=ji h;let⟨j,f,l⟩:=ji h';have:(es.map Prod.snd)[i]'(by simpa using W)=(es.map Prod.snd)[j]'(by simpa using f):=by simp[y,l,q]
 have:=(JY o).mp this;subst this;rw[<-y,<-l]
theorem cS.old{S:Qp}{es:List #[187]}{P d:Int->LI->Prop}{q:Int}(b:cS H0 H B es P)(N:(q,S)∈es)(g:H S=Z (.lst (ls.map V.int)))(D:d q (ls++[h]))(O:∀p ls,p≠q->P p ls->d p ls):
  cS H0 (upd H S (.lst (ls.map V.int++[.int h]))) B es d where
 at_:=by rw[aj (aO b.at_ g #[3])];show b.at_
 nd:=b.nd
 nd2:=b.nd2
 fresh:=b.fresh
 lst:=λe R=>by
  by_cases c:e.2=S
  ·have:=aiI b.nd2 R N c;subst this;show⟨ls++[h],by rw[ae,jD];rfl,D⟩
  ·let⟨ms,G,M⟩:=b.lst e R;show⟨ms,by rw[aj c];show G,O _ _ (λz=>c ?_) M⟩;have:=ahq b.nd R N z;rw[this]
 non:=λp x=>O p [] (λz=>x (by rw[z];show jK.mpr ⟨_,N,rfl⟩)) (b.non p x)
theorem cS.new{L:Qp}{es:List #[187]}{P d:Int->LI->Prop}{q:Int}(b:cS H0 H B es P)(l:q∉es.map Prod.fst)(u:H L=Z #[171])(S:H0 L=Y)(a:∀e∈es,e.2≠L)(D:d q [h])(O:∀p ls,p≠q->P p ls->d p ls):
  cS H0 (upd (upd H B (.dK (putK (EI es) (Sum.inl q) (.ref L)))) L (.lst [.int h])) B (es++[(q,L)]) d where
 at_:=by rw[aj (aO b.at_ u #[3]),ae,ahO l]
 nd:=by rw[jD];show Dr b.nd l
 nd2:=by rw[jD];show Dr b.nd2 λz=>?_;let⟨e,R,g⟩:=jK.mp z;show a e R g
 fresh:=λe R=>by
  rcases BF.mp R with z|z
  ·show b.fresh e z
  ·rw[jI.mp z];show S
 lst:=λe R=>by
  rcases BF.mp R with z|z
  ·let⟨ms,G,M⟩:=b.lst e z;show⟨ms,by rw[aj (a e z),aj (aO G b.at_ #[3])];show G,O _ _ (λy=>l ?_) M⟩;rw[<-y];show jK.mpr ⟨e,z,U⟩
  ·rw[jI.mp z];show⟨[h],by rw[ae];rfl,D⟩
 non:=λp x=>by rw[jD]at x;show O p [] (λz=>x (by rw[z];show jo _ jA)) (b.non p λz=>x (JH _ z))
theorem cS.keep{es:List #[187]}{P:Int->LI->Prop}(b:cS H0 H B es P)(o:H' B=H B)(C:∀e∈es,H' e.2=H e.2):cS H0 H' B es P where
 at_:=by rw[o];show b.at_
 nd:=b.nd
 nd2:=b.nd2
 fresh:=b.fresh
 lst:=λe R=>by rw[C e R];show b.lst e R
 non:=b.non
theorem cS.same{es:List #[187]}{P:Int->LI->Prop}(b:cS H0 H B es P)(s:av H H'):cS H0 H' B es P where
 at_:=s _ _ b.at_
 nd:=b.nd
 nd2:=b.nd2
 fresh:=b.fresh
 lst:=λe R=>by let⟨ls,G,M⟩:=b.lst e R;show⟨ls,s _ _ G,M⟩
 non:=b.non
def Df(rows:LL)(wide:Nat):LL:=(jg wide).map λf=>rows.map λr=>r.getD f 0
inductive agg (K:Yc) (vs:List V) (H:Hp) (Q:VK) (E:XK):Prop|mk (m r g:Qp) (many wide:Nat) (rows:LL) (signs:LI) (_:vs=[.ref m]) (_:bD H m r g wide rows signs) (_:aQ many wide rows) (_:(many<=100000/\wide<=100000)) (_:∀(l:Qp) (cs:List Qp) (H':Hp),av H H'->H' l=Z (.lst (cs.map V.ref))->bF H' cs (Df rows wide)->Q #[102] H')
def dN(col:LI)(q:Int):LI:=((jg col.length).filter λi=>decide (col.getD i 0=q)).map λi:Nat=>(i:Int)
def Su(col:LI)(q:Int):(dN col q).length<=col.length:=by unfold dN;rw[aW];show jc (JR _ _) #[7]
def EZ(col:LI)(t q:Int):dN (col++[t]) q=dN col q++(if t=q then [(col.length:Int)]else []):=by
 unfold dN;rw[jH,je,JN,JX,jD];congr 1
 ·congr 1;show ZO λi W=>?_;have l:=js.mp W;rw[jQ,jQ,JA l]
 ·have e:(col++[t]).getD col.length 0=t:=by rw[jQ,JD (jE _),zO];rfl
  by_cases c:t=q
  ·rw[if_pos c,JL (by rw[e];show decide_eq_true c)];rfl
  ·rw[if_neg c,JG (by rw[e,decide_eq_false c];decide)];rfl
def tG{q:Int}:x∈dN col q↔(0<=x/\x<(col.length:Int))/\col.getD x.toNat 0=q:=by
 unfold dN;rw[jK];constructor
 ·rintro⟨i,W,rfl⟩;have h:=jv.mp W;have G:=js.mp h.1;show⟨⟨by lia,by lia⟩,by rw[jG];show of_decide_eq_true h.2⟩
 ·rintro⟨⟨X,G⟩,M⟩;show⟨x.toNat,jv.mpr ⟨js.mpr #[1],decide_eq_true M⟩,by lia⟩
inductive abw (K:Yc) (vs:List V) (H:Hp) (Q:VK) (E:XK):Prop|mk (c:Qp) (many:Nat) (col:LI) (_:vs=[.ref c]) (_:H c=Z (.tup (col.map V.int))) (_:col.length<=100000) (_:many<=100000) (_:(∀t∈col,0<=t/\t<(many:Int))) (_:∀(B:Qp) (es:List #[187]) (H':Hp),av H H'->H B=Y->cS H H' B es #[135]->Q (.ref B) H')
section
def mT:aA ["machine","rows","columns","figure"] ["machine"] (aq pJ):=bQ #[0]
def wZ:aY ["machine","rows","columns","figure"] (aq pJ) ["row","figure"] [Y,Z 3] ⟨.function,[#[41],("row",.local),("figure",.free)],false,false,[]⟩:=mH #[0]
def wQ:aA ["column","back","here","there"] ["column"] (aq Fd):=bQ #[0]
def ah4(F:bu K "columns_of" "columns_of" pJ dV f fd)(bw:mg "range" = Y)(aF:mg "tuple" = Y):aR P w K mg base cO 1 f fd ["machine"] (agg K):=by
 show F.ok mT #[18] (λcq A c s H vs Q E hr h=>?_)
 ·let⟨m,r,g,many,wide,rows,signs,rfl,_⟩:=h;rfl
 let⟨m,r,g,many,wide,rows,signs,rfl,M,R,⟨n1,w1⟩,k⟩:=h;let⟨B,⟨fz,C,J⟩,hg⟩:=M;show⟨_,(ah (aB (i:=1) mT.nd #[12])
   (ah (aB (i:=2) mT.nd (bS af))
   (ah (cf PassesOwn.never rfl (de rfl bw #[84]) (bj (i:=3) mT.nd) (ao (bC (fZ Ye Yg Yh bX (pv 2) (aa (aS bq #[31] aF bJ (aa (fJ rfl wZ (eD (pv 1)) (λ_ _ _ _=>(bj (i:=0) wZ.nd)) (λ_ _ _ _=>(ax (mS K) (pv 0) (pv 1) #[2]))) af)) af)))))
   (ao (aE (pv 2)))))),?_⟩
 exists 0;exists _,rfl,m,_,_,_,rfl,rfl,bg B,rfl;show⟨#[15],λL S=>?_⟩;have W:=ak S #[74];show⟨_,U,m,_,_,_,U,U,bg (W _ _ B),U,_,U,by lia,by lia,?_⟩;show hZ (λi O H'=>∃(I:List Qp) (v:OV),O=[Z #[136],Z (.ref r),Z (.ref L),v]/\av H H'/\H' L=Z #[182]/\bF H' I ((jg i).map λf=>rows.map λr=>r.getD f 0)) ⟨[],Y,U,W,ae,.nil⟩ ?_ ?_
 ·rintro i O o hi ⟨I,v,rfl,X,q,A3⟩;rw[jG]at hi;have la:I.length=i:=by rw[A3.length,aW,jd]
  have z0:(0:Int)+(i:Int)=(i:Int):=Je _;exists _,rfl,.inl ⟨rfl,_,bM q⟩,_,rfl,r,rfl,⟨_,bg (X _ _ C)⟩;show rh (K:=K) (xs:=fz.map V.ref) (λD j a H'=>av o H'/\a=((rows.take j).map λr=>r.getD i 0).map V.int) #[114] (λD j a H' _ ⟨e,_⟩=>bg (e _ _ (X _ _ C))) ?_ ?_
  ·rintro T j y a H4 Q' hT d G ⟨N,rfl⟩ k';have l:j<rows.length:=by have:=(lH d).1;rw[aW,J.length]at this;show this
   let⟨ra,e1,e2⟩:=J.get l;have ey:y=.ref ra:=by rw[jR,e1]at d;show(Option.some.inj d).symm
   subst ey;have lr:=R.len;have y4:rows[j].length=wide:=R.row _ (jO l);have n:wV (rows[j].map V.int) (0+(i:Int))=Z (.int (rows[j].getD i 0)):=by rw[z0,dY #[1] #[1],jG]
   show⟨_,U,_,U,ra,_,_,_,U,U,bg ((X.trans N) _ _ e2),n,k' _ _ G (bI #[79]) ⟨au N hT,?_⟩⟩;rw[jS,jC l,jD,jD];rfl
  ·rintro T a H4 hT G ⟨N,rfl⟩;rw[aW,J.length,jV]at G;show⟨T,_,U,.inl ⟨bM G,λt p=>?_⟩⟩;have x:=N _ _ q;have nL:L≠t:=ar x p;show⟨L,_,_,U,U,by rw[aj nL];show x,bI #[25],?_⟩;have sT:∀b xs,o b=Z #[42]->(upd (upd H4 t (.tup ((rows.map λr=>r.getD i 0).map V.int))) L (.lst (I.map V.ref++[V.ref t]))) b=Z #[42]:=λb xs e=>by have u:=N _ _ e;rw[aj (aO u x #[3]),aj (ar u p)];show u
   show⟨I++[t],_,U,au (au (X.trans N) ((X.trans N).free p)) S,by rw[ae,jD];rfl,?_⟩;rw[JN,jD];show bF.snoc (A3.same sT) (by rw[aj (Ne.symm nL),ae])
 ·rintro O o ⟨I,v,rfl,X,q,A3⟩;rw[jG]at A3;show⟨_,U,k L I _ X q A3⟩
def ae7(F:bu K "back_of" "back_of" Fd dV f fd)(cY:mg "enumerate" = Y):aR P w K mg base cO 1 f fd ["column"] (abw K):=by
 show F.ok wQ #[18] (λcq A b s H vs Q E hr h=>?_)
 ·let⟨c,many,col,rfl,_⟩:=h;rfl
 let⟨c,many,col,rfl,hc,lc,n1,D,k⟩:=h;have hu:=ow hr;show⟨_,(ah (aB (i:=1) wQ.nd rn)
   (ah (cf PassesOwn.never rfl (afO rfl cY #[26]) (EX rfl (dC (bj (i:=2) wQ.nd) (dC (bj (i:=3) wQ.nd) wH))) (ao (bC (fZ Ye Yg Yh bX (Pj (pv 1) (pv 3) (bS af) ⟨rfl,rfl,rfl,rfl⟩) #[75]))))
   (ao (aE (pv 1))))),?_⟩
 exists 0;show λB o=>?_;have s0:=ak o (HO.dK []);have b0:cS H (upd H B (.dK [])) B [] (λq ls=>ls=dN (col.take 0) q):=⟨ae,List.Pairwise.nil,List.Pairwise.nil,(λe h=>by cases h),(λe h=>by cases h),λq _=>rfl⟩;show⟨_,U,c,U,⟨_,bg (s0 _ _ hc)⟩,acz (K:=K) (xs:=col.map V.int) (λi O H'=>∃(I:List #[187]) (G d:OV),O=[Z (.ref c),Z (.ref B),G,d]/\av H H'/\(∀e∈I,0<=e.1/\e.1<(many:Int))/\cS H H' B I (λq ls=>ls=dN (col.take i) q))
  ⟨[],Y,Y,rfl,s0,(λe h=>by cases h),b0⟩ (λi O H' _ ⟨_,_,_,_,e,_,_⟩=>bg (e _ _ hc)) ?_ ?_⟩
 ·rintro i y O H1 T hi ⟨I,G,d,rfl,s1,x,r⟩ hT;let⟨t,rfl,m⟩:=cy hi;have il:=(lH m).1;have X:=D t (tw m);have M:=ak hT (HO.tup [V.int i,V.int t]);let⟨J,Rz⟩:=gn (upd H1 T (HO.tup [V.int i,V.int t]));have N:J T=Z (.tup [V.int i,V.int t]):=by rw[<-Rz];show ae
  rw[Rz]at M ⊢;have s2:=s1.trans M;have j:=r.same M;exists T,_,rfl,bg N,rfl,_,_,rfl,_,_,rfl,rfl;show⟨_,U,B,U,.inl ⟨_,.inl j.at_⟩,_,U,#[15],λL u=>?_⟩;have W:=ak u #[74];have C:=j.same W;have nL:∀e∈I,e.2≠L:=λe R z=>by let⟨ls,h1,_⟩:=j.lst e R;rw[z,u]at h1;cases h1
  have S:B≠L:=ar j.at_ u;have fL:H L=Y:=s2.free u;have B1:=cL many C.nd (λq l=>by let⟨e,R,rfl⟩:=jK.mp l;show x e R)
  rw[aW]at B1;have len:(EI I).length<sizeLine:=bI (by unfold EI;rw[aW];lia);have et:col.take (i+1)=col.take i++[t]:=by rw[jS,m];rfl
  have ln:(col.take i).length=i:=by rw[jT];lia
  have LY:∀(p:Int) (ls:LI),p≠t->ls=dN (col.take i) p->ls=dN (col.take (i+1)) p:=λp ls np z=>by rw[et,EZ,if_neg (Ne.symm np),jh];show z
  have n:∀ls:LI,ls=dN (col.take i) t->ls++[(i:Int)]=dN (col.take (i+1)) t:=λls z=>by rw[et,EZ,if_pos rfl,ln,z]
  show⟨_,Sum.inl t,C.at_,U,len,λv hv=>?_,λhn=>?_⟩
  ·let⟨la,ls,rfl,hm,g,hp⟩:=C.get hv;have pl:=Su (col.take i) t;have lz:(ls.map V.int).length<sizeLine:=bI (by rw[aW,hp];lia);exists .inl ⟨rfl,_,bM g⟩,_,rfl,la,_,_,rfl,rfl,g,lz;show⟨I,_,_,U,au (s2.trans W) (j.fresh _ hm),x,C.old hm g (n ls hp) LY⟩
  ·have l:t∉I.map Prod.fst:=λz=>by let⟨e,R,ee⟩:=jK.mp z;let⟨jj,y4⟩:=JJ.mp R;have:=J2 C.nd (q:=e.1) (a:=e.2) y4;rw[ee,hn]at this;cases this
   have IP:(upd (upd J L #[74]) B (HO.dK (putK (EI I) (Sum.inl t) (V.ref L)))) L=Z #[171]:=by rw[aj (Ne.symm S),ae]
   show⟨.inl ⟨U,_,bM IP⟩,_,U,L,_,_,U,U,IP,(by change 0<sizeLine;decide),?_⟩;show⟨I++[(t,L)],_,_,U,au (au (s2.trans W) o) fL,λe R=>?_,C.new l ae fL nL (n [] (C.non _ l)) LY⟩;rcases BF.mp R with z|z
   ·show x e z
   ·rw[jI.mp z];show X
 ·rintro O H1 ⟨I,G,d,rfl,s1,x,r⟩;rw[aW,jV]at r;show⟨_,U,k B I _ s1 o r⟩
end
structure P7(K:Yc)(C:Qp):Prop where
 cl:Fv K C
 ng:df K C "group_of"
 nm:df K C "members"
 nw:df K C "waiting"
 ni:df K C "is_waiting"
structure Q0(H:Hp)(C x go ms wt iw:Qp):Prop where
 ob:∃dx:Qp,H x=Z (.ins C dx [("group_of",.ref go),("members",.ref ms),("waiting",.ref wt),("is_waiting",.ref iw)])
def Q0.same{x:Qp}(h:Q0 H C x go ms wt iw)(s:av H H'):Q0 H' C x go ms wt iw:=by let⟨O,G⟩:=h.ob;show⟨O,s _ _ G⟩
inductive SS (K:Yc) (C:Qp) (vs:List V) (H:Hp) (Q:VK) (E:XK):Prop|mk (x go ms wt iw:Qp) (gs:LI) (ds:List Qp) (_:vs=[.ref x]) (_:Q0 H C x go ms wt iw) (_:H go=Z (.lst (gs.map V.int))) (_:H ms=Z (.lst #[160])) (_:Q (.bl (decide (ds.length=gs.length))) H)
inductive agr (C:Qp) (vs:List V) (H:Hp) (Q:VK) (E:XK):Prop|mk (x go ms wt iw:Qp) (n:Int) (ws ks:LI) (_:vs=[.ref x,.int n]) (_:Q0 H C x go ms wt iw) (_:H wt=Z (.lst (ws.map V.int))) (_:H iw=Z (.dK (eA ks))) (_:ks.Nodup) (_:ws.length<=100000) (_:ks.length<=100000) (_:Q .non (upd (upd H wt (.lst ((ws++[n]).map V.int))) iw (.dK (eA (if n∈ks then ks else ks++[n])))))
def RX(ks:LI)(g:Int):II (eA ks) (Sum.inl g)=eA (ks.filter λk=>decide (k≠g)):=by
 unfold II eA;rw[List.filter_map];congr 1;show ZO λk _=>?_;by_cases c:k=g
 ·subst c;simp
 ·have:(Sum.inl k:Key)≠Sum.inl g:=λz=>c (Sum.inl.inj z);simp[c,this]
def aeV(ks:LI):(eA ks).map (λi=>kV i.1)=ks.map V.int:=by unfold eA;rw[JQ];rfl
inductive abH (C:Qp) (vs:List V) (H:Hp) (Q:VK) (E:XK):Prop|mk (x go ms wt iw da:Qp) (g:Int) (ws ks mem:LI) (ds:List Qp) (_:vs=[.ref x]) (_:Q0 H C x go ms wt iw) (_:H wt=Z (.lst ((ws++[g]).map V.int))) (_:H iw=Z (.dK (eA ks))) (_:g∈ks) (_:H ms=Z (.lst #[160])) (_:0<=g) (_:ds[g.toNat]?=Z da) (_:ms≠wt) (_:H da=Z (.dK (eA mem))) (_:da≠iw) (_:mem.length<=100000) (_:∀l,H l=Y->Q #[102] (upd (upd (upd H wt (.lst (ws.map V.int))) iw (.dK (eA (ks.filter λk=>decide (k≠g))))) l (.lst (mem.map V.int))))
section
def DQ:aA ["self"] ["self"] (aq mL):=bQ #[0]
def CK:aA ["self","group"] ["self","group"] (aq lY):=bQ #[0]
def lA:aA ["self","group"] ["self"] (aq eV):=bQ #[0]
def ac8(F:bu K "is_done" "Parted.is_done" mL dV f fd)(p:P7 K C)(o:mg "len" = Y):aR P w K mg base cO 1 f fd ["self"] (SS K C):=by
 show F.ok DQ #[11] #[5]
 ·let⟨x,go,ms,wt,iw,gs,ds,rfl,_⟩:=h;rfl
 let⟨x,go,ms,wt,iw,gs,ds,rfl,⟨O,J⟩,b,d,q⟩:=h;show⟨_,(ao (aE (eO cK (aH aM #[31] o bZ #[148]) (aH aM #[31] o bZ #[148]) (aL _)))),?_⟩;exists 0;exists _,rfl,x,C,O,_,_,rfl,J,p.cl,p.nm,rfl,ms,_,rfl,.inl (bM d),_,rfl,x,C,O,_,_,rfl,J,p.cl,p.ng,rfl,go,_,rfl,.inl (bM b),rfl;rw[aW,aW];have e:decide (V.int (ds.length:Int)=V.int (gs.length:Int))=decide (ds.length=gs.length):=decide_eq_decide.mpr ⟨λh=>by have:=V.int.inj h;lia,λh=>by rw[h]⟩;rw[e];show q
def Y9(F:bu K "wait_for" "Parted.wait_for" lY dV f fd)(p:P7 K C):aR P w K mg base cO 1 f fd ["self","group"] (agr C):=by
 show F.ok CK (λa H Q E h=>?_) (λcq A I s H a Q E S h=>?_)
 ·let⟨x,go,ms,wt,iw,n,ws,ks,rfl,_⟩:=h;rfl
 let⟨x,go,ms,wt,iw,n,ws,ks,rfl,⟨O,J⟩,j,t,o,u,X,q⟩:=h;have b:=ow S;show⟨_,(ah (bC (fZ Ye Yg Yh bX #[17] #[33]))
   (ao (pH b #[17] (pv 1) rl rfl))),?_⟩
 exists 0;have v:x≠wt:=aO J j #[3];have m:iw≠wt:=aO t j #[3];show⟨_,U,x,C,O,_,_,U,J,p.cl,p.nw,U,.inl ⟨U,_,bM j⟩,_,U,wt,_,_,U,U,j,bI (by rw[aW];show u),?_⟩;show⟨_,U,x,C,O,_,_,U,by rw[aj v];show J,p.cl,p.ni,U,_,U,iw,_,U,Ea.k (k:=Sum.inl n) (by rw[aj m];show t) (bI (by unfold eA;rw[aW];show X)),?_⟩;have e:putK (eA ks) (Sum.inl n) (V.bl true)=eA (if n∈ks then ks else ks++[n]):=by
  by_cases c:n∈ks
  ·rw[if_pos c];unfold putK;rw[if_pos (show((eA ks).any λi=>decide (i.fst=Sum.inl n))=true from Jz.mpr ⟨(Sum.inl n,V.bl true),jK.mpr ⟨n,c,rfl⟩,by simp⟩)];show(zB λi R=>?_).trans (QK _);let⟨k,_,rfl⟩:=jK.mp R;change(if (Sum.inl k:Key)=Sum.inl n then((Sum.inl k:Key),V.bl true)else(Sum.inl k,V.bl true))=(Sum.inl k,V.bl true);split<;>rfl
  ·rw[if_neg c];show Hv c
 rw[e];rw[jD]at q;show q
def afl(F:bu K "next_splitter" "Parted.next_splitter" eV dV f fd)(p:P7 K C)(m:mg "list" = Y):aR P w K mg base cO 1 f fd ["self"] (abH C):=by
 show F.ok lA #[11] (λcq A I s H n Q E L h=>?_)
 ·let⟨x,go,ms,wt,iw,S,g,ws,ks,mem,ds,rfl,_⟩:=h;rfl
 let⟨x,go,ms,wt,iw,S,g,ws,ks,mem,ds,rfl,⟨O,c⟩,j,t,T,d,g0,N,k,M,R,lm,q⟩:=h;have hu:=ow L;show⟨_,(ah (aB (i:=1) lA.nd (K6 Ye yi yj Y1 #[17]))
   (ah (bC (Sn #[17] (pv 1) ⟨rfl,rfl,rfl,rfl⟩))
   (ao (aE (aS (IB rfl) #[31] m De (aa (ax bR #[17] (pv 1) #[2]) af)))))),?_⟩
 exists 0;have W:x≠wt:=aO c j #[3];have e:x≠iw:=aO c t #[3];have X:iw≠wt:=aO t j #[3];have u:ms≠iw:=aO d t #[3];have G:S≠wt:=aO M j #[3];have J:((ws++[g]).map V.int)[((ws++[g]).map V.int).length-1]?=Z (.int g):=by rw[aW,jH,je,QB,jR,JD (jE _),zO];rfl
 have dl:((ws++[g]).map V.int).dropLast=ws.map V.int:=by rw[jD];show Zm
 obtain⟨v,hv⟩:∃v,cG (eA ks) (Sum.inl g)=Z v:=by have h:=Hw ks g;rw[decide_eq_true T]at h;show Jh.mp h
 have o:wV #[160] g=Z (.ref S):=by have D:wV #[160] ((g.toNat:Nat):Int)=Z (.ref S):=Bt (by rw[jR,N];rfl);rw[jf g0]at D;show D
 exists _,rfl,x,C,O,_,_,rfl,c,p.cl,p.nw,rfl,.inl ⟨rfl,_,bM j⟩,wt,_,_,rfl,rfl,j,J;rw[dl];have y:(upd H wt (HO.lst (ws.map V.int))) x=_:=(aj W).trans c;have b:(upd H wt (HO.lst (ws.map V.int))) iw=_:=(aj X).trans t;exists _,rfl,x,C,O,_,_,rfl,y,p.cl,p.ni,rfl,iw,rfl,.inl ⟨_,.inl b⟩,_,rfl,eA ks,Sum.inl g,v,b,rfl,hv;rw[RX];show⟨_,U,x,C,O,_,_,U,(aj e).trans y,p.cl,p.nm,U,_,U,ms,_,_,_,U,U,bM ((aj u).trans ((aj k).trans d)),o,S,_,U,(aj R).trans ((aj G).trans M),λl a=>?_⟩;rw[aeV];show q l ?_;by_cases r:l=iw
 ·rw[r,ae]at a;cases a
 ·rw[aj r]at a;by_cases B:l=wt
  ·rw[B,ae]at a;cases a
  ·rw[aj B]at a;show a
end
def setG(gs done:LI)(n:Int):LI:=done.foldl (λg q=>g.set q.toNat n) gs
def outF(mem done:LI):LI:=mem.filter λq=>decide (q∉done)
theorem SM(gs:LI)(n:Int):∀done:LI,(setG gs done n).length=gs.length:=λdone=>by
 unfold setG
 induction done generalizing gs with
 |nil=>rfl
 |cons q r K=>rw[JO,K,Zc]
def adv(gs done:LI)(q n:Int):setG gs (done++[q]) n=(setG gs done n).set q.toNat n:=by unfold setG;rw[JC];rfl
def adn(mem done:LI)(q:Int):(outF mem done).filter (λk=>decide (k≠q))=outF mem (done++[q]):=by
 unfold outF;rw[List.filter_filter];show ZO λk _=>?_;by_cases c:k=q
 ·subst c;simp
 ·simp[c]
inductive abK (K:Yc) (C:Qp) (vs:List V) (H:Hp) (Q:VK) (E:XK):Prop|mk (x go ms wt iw da il:Qp) (g:Int) (gs ws ks mem ins:LI) (ds:List Qp) (_:vs=[.ref x,.int g,.ref il]) (_:Q0 H C x go ms wt iw) (_:H go=Z (.lst (gs.map V.int))) (_:H ms=Z (.lst #[160])) (_:H wt=Z (.lst (ws.map V.int))) (_:H iw=Z (.dK (eA ks))) (_:ks.Nodup) (_:(ws.length<=100000/\ks.length<=100000/\ds.length<100000/\ins.length<=100000)) (_:0<=g) (_:ds[g.toNat]?=Z da) (_:H da=Z (.dK (eA mem))) (_:H il=Z (.lst (ins.map V.int))) (_:ins.Nodup) (_:(∀q∈ins,q∈mem/\0<=q/\q<(gs.length:Int))) (_:(go≠ms/\go≠wt/\go≠il/\ms≠wt/\ms≠il/\wt≠il/\da≠iw)) (_:∀(E:Qp) (nw:Int) (H':Hp),H E=Y->H' E=Z (.dK (eA ins))->H' ms=Z (.lst ((ds++[E]).map V.ref))->H' da=Z (.dK (eA (outF mem ins)))->H' go=Z (.lst (#[109].map V.int))->H' wt=Z (.lst ((ws++[nw]).map V.int))->H' iw=Z (.dK (eA (if nw∈ks then ks else ks++[nw])))->(#[64]->nw=(ds.length:Int))->(¬ #[64]->nw=g)->(∀c u,c≠go->c≠ms->c≠da->c≠wt->c≠iw->H c=Z u->H' c=Z u)->Q .non H')
def ahM{z:Nat}(h:z<n):ixN n (z:Int)=Z z:=by unfold ixN;rw[if_pos #[1],if_pos #[1],jG]
section
def dS:aA ["self","group","inside","fresh","outside","here"] ["self","group","inside"] (aq eW):=bQ #[0]
def ml:aY ["self","group","inside","fresh","outside","here"] (aq eW) ["here"] [Y] ⟨.function,[#[41],("here",.local)],false,false,[]⟩:=mH #[0]
def aft(F:bu K "split_off" "Parted.split_off" eW dV f fd)(p:P7 K C)(rN:bP P w K mg base C "wait_for" 1 ["self","group"] (agr C))(br:mg "len" = Y)(pq:mg "dict" = Y):aR P w K mg base cO 2 f fd ["self","group","inside"] (abK K C):=by
 show F.ok dS #[18] (λcq A d7 s H vs Q E hr h=>?_)
 ·let⟨x,go,ms,wt,iw,S,il,g,gs,ws,ks,mem,ins,ds,rfl,_⟩:=h;rfl
 let⟨x,go,ms,wt,iw,S,il,g,gs,ws,ks,mem,ins,ds,rfl,⟨m,R⟩,RH,d,IT,Mb,y4,⟨lw,lk,ld,li⟩,g0,Al,M,W,o5,f7,⟨n1,n2,n3,n4,n5,n6,n7⟩,k⟩:=h;have hu:=ow hr;show⟨_,(ah (aB (i:=3) dS.nd (aH aM #[31] br bZ #[148]))
   (ah (aB (i:=4) dS.nd (ax bR #[17] (pv 1) #[2]))
   (ah (cf PassesOwn.never rfl (cU (pv 2)) (bj (i:=5) dS.nd) (ah (bC (Sn (pv 4) (pv 5) ⟨rfl,rfl,rfl,rfl⟩))
   (ao (alB (pv 3) (aly #[17] (pv 5) set_list)))))
   (ah (bC (fZ Ye Yg Yh bX #[17] (aa (aS (AB rfl) #[31] pq Hn (aa (fJ rfl ml (cU (pv 2)) (λ_ _ _ _=>(bj (i:=0) ml.nd)) (λ_ _ _ _=>(cA (aa (pv 0) (aa rl af))))) af)) af)))
   (ao (bV (PW.pt (tJ (Pl (alv hu (pv 1) #[17]) #[22]) (E1 (aG Sk (aH aM #[31] br bZ #[75]) (aH Bu #[31] br bZ #[125]) (aL _))))) (ao (bC (mq rN hr (pv 0) #[49]))) (ao (bC (mq rN hr (pv 0) #[33]))))))))),?_⟩
 exists 0;have o0:outF mem []=mem:=Zr.mpr λ_ _=>by simp
 have w5:x≠go:=aO R RH #[3];have d5:x≠S:=aO R M #[3];have z5:go≠S:=aO RH M #[3];have g7:wV #[160] g=Z (.ref S):=by have q':wV #[160] ((g.toNat:Nat):Int)=Z (.ref S):=Bt (by rw[jR,Al];rfl);rw[jf g0]at q';show q'
 exists _,rfl,x,C,m,_,_,rfl,R,p.cl,p.nm,rfl,ms,_,rfl,.inl (bM d);rw[aW];exists _,rfl,x,C,m,_,_,rfl,R,p.cl,p.nm,rfl,_,rfl,ms,_,_,_,rfl,rfl,bM d,g7;exists 25;show cg (t:=pQ _ _ _) (λO H'=>∃v:OV,O=[Z #[164],Z (.int g),Z (.ref il),Z (.int (ds.length:Int)),Z (.ref S),v]/\H' S=Z (.dK (eA (outF mem ins)))/\H' go=Z (.lst (#[109].map V.int))/\∀c u,c≠go->c≠S->H c=Z u->H' c=Z u) ?_ #[27];exists 27
 ·exists _,rfl,il,rfl,⟨_,bM W⟩;show fW (K:=K) (xs:=ins.map V.int) (λi O H'=>∃v:OV,O=[Z #[164],Z (.int g),Z (.ref il),Z (.int (ds.length:Int)),Z (.ref S),v]/\H' S=Z (.dK (eA (outF mem (ins.take i))))/\H' go=Z (.lst ((setG gs (ins.take i) (ds.length:Int)).map V.int))/\∀c u,c≠go->c≠S->H c=Z u->H' c=Z u) ⟨Y,U,by rw[ZD,o0];show M,RH,λ_ _ _ _ e=>e⟩ (λi O H' _ ⟨_,_,_,_,e⟩=>bM (e _ _ (Ne.symm n3) (aO W M #[3]) W)) ?_ ?_
  ·rintro i y O H3 hi ⟨v,rfl,r,X,o⟩;let⟨q,rfl,hq⟩:=cy hi;have qm:=f7 q (tw hq);have qo:q∈outF mem (ins.take i):=by show jv.mpr ⟨qm.1,decide_eq_true λz=>?_⟩;let⟨j,hj,ej⟩:=ji z;rw[jT]at hj;rw[zX]at ej;have ql:=lH hq;have:=(JY o5).mp (ej.trans ql.2.symm);lia
   obtain⟨vv,h7⟩:∃v,cG (eA (outF mem (ins.take i))) (Sum.inl q)=Z v:=by have h:=Hw (outF mem (ins.take i)) q;rw[decide_eq_true qo]at h;show Jh.mp h
   have et:ins.take (i+1)=ins.take i++[q]:=by rw[jS,hq];rfl
   exists _,rfl,S,rfl,.inl ⟨_,.inl r⟩,_,rfl,_,Sum.inl q,vv,r,rfl,h7;rw[RX,adn,<-et];have i7:=o _ _ w5 d5 R;show⟨_,U,_,U,x,C,m,_,_,U,(aj d5).trans i7,p.cl,p.ng,U,_,U,go,_,q,q.toNat,U,U,(aj z5).trans X,?_,?_⟩
   ·rw[aW,SM];have:=ahM (n:=gs.length) (z:=q.toNat) #[1];rw[jf qm.2.1]at this;show this
   ·show⟨_,U,by rw[aj (Ne.symm z5),ae],?_,λc u c1 B e=>by rw[aj c1,aj B];show o c u c1 B e⟩;rw[ae,et,adv,List.map_set]
  ·rintro O H3 ⟨v,rfl,r,X,o⟩;rw[aW,jV]at r X;show cI _ _ ⟨v,U,r,X,o⟩
 rintro O H1 ⟨v,rfl,c6,d6,X0⟩;have h6:=X0 _ _ w5 d5 R;have i6:=X0 _ _ (Ne.symm n1) (aO d M #[3]) d;have i5:=X0 _ _ (Ne.symm n3) (aO W M #[3]) W;exists _,rfl,x,C,m,_,_,rfl,h6,p.cl,p.nm,rfl,.inl ⟨rfl,_,bM i6⟩,_,rfl,il,rfl,⟨_,bM i5⟩;show iX (K:=K) (xs:=ins.map V.int) (λD i ys H'=>av H1 H'/\∃ts,ys=ts.map V.ref/\mB H' ts (eA (ins.take i))) (λD hD=>⟨ak hD _,[],U,.nil⟩) (λD i ys H' _ ⟨e,_⟩=>bM (e _ _ i5)) ?_ ?_
 ·rintro D i y ys H' Q' hD hi hy ⟨hs,ts,rfl,pv⟩ k';let⟨q,rfl,hq⟩:=cy hi;have b8:i<ins.length:=(lH hq).1;show⟨_,U,#[14],λT hT=>?_⟩;have sT:=ak hT (HO.tup [V.int q,V.bl true]);have nD:D≠T:=ar hy hT;have c8:ts.length=i:=by rw[Paired.length pv];unfold eA;rw[aW,jT];lia
  have k6:(upd H' T (HO.tup [V.int q,V.bl true])) D=Z (.lst (ts.map V.ref)):=by rw[aj nD];show hy
  show k' _ _ k6 (bI #[25]) ⟨au (au hs (hs.free hT)) hD,ts++[T],by rw[jD];rfl,?_⟩;rw[jS,hq];have up:∀b xs,(upd H' T (HO.tup [V.int q,V.bl true])) b=Z #[42]->(upd (upd H' T (HO.tup [V.int q,V.bl true])) D (.lst (ts.map V.ref++[V.ref T]))) b=Z #[42]:=λb xs e=>by rw[aj (aO e k6 #[3])];show e
  change mB _ _ (eA (ins.take i++[q]));unfold eA;rw[jD];show Paired.snoc (mB.same pv λb xs e=>up b xs (sT _ _ e)) (up _ _ ae)
 rintro L ys H2 fL hL ⟨s2,ts,rfl,pv⟩;rw[aW,jV]at pv;show⟨L,ts,_,U,hL,pv,λN hN=>?_⟩;rw[MZ o5];have s3:=s2.trans (ak hN (HO.dK (eA ins)));let⟨H3,l6⟩:=gn (upd H2 N (HO.dK (eA ins)));have RC:H3 N=Z (.dK (eA ins)):=by rw[<-l6];show ae
 rw[l6]at s3 ⊢;have fN:H1 N=Y:=s2.free hN;have O4:=s3 _ _ i6;have j7:x≠ms:=aO R d #[3];show⟨ms,_,_,U,U,O4,bI #[25],?_⟩;have k7:N≠ms:=aO RC O4 #[3];have d8:x≠iw:=aO R Mb #[3];have o6:iw≠ms:=aO Mb d #[3];have m7:S≠ms:=aO M d #[3];let⟨H4,LQ⟩:=gn (upd H3 ms (HO.lst (ds.map V.ref++[V.ref N])));have l:∀c u,c≠ms->H1 c=Z u->H4 c=Z u:=λc u c1 e=>by rw[<-LQ,aj c1];show s3 _ _ e
 have RJ:H4 ms=Z (.lst ((ds++[N]).map V.ref)):=by rw[<-LQ,ae,jD];rfl
 have u6:H4 N=Z (.dK (eA ins)):=by rw[<-LQ,aj k7];show RC
 have G:=l _ _ j7 h6;have I:=l _ _ o6 (X0 _ _ (aO Mb RH #[3]) (Ne.symm n7) Mb);have J:=l _ _ (Ne.symm n4) (X0 _ _ (Ne.symm n2) (aO IT M #[3]) IT);have y6:=l _ _ m7 c6;have W3:=l _ _ n1 d6;have o7:=l _ _ (Ne.symm n5) i5;rw[LQ];have u7:iw≠wt:=aO Mb IT #[3];have lo:(eA (outF mem ins)).length=(outF mem ins).length:=by unfold eA;rw[aW]
 have j5:H N=Y:=by
  cases e:H N with
  |none=>rfl
  |some u=>
   have z1:N=go\/N=S:=Classical.byContradiction λz=>by have:=X0 N u (λa=>z (.inl a)) (λa=>z (.inr a)) e;rw[fN]at this;cases this
   rcases z1 with z|z
   ·rw[z,d6]at fN;cases fN
   ·rw[z,c6]at fN;cases fN
 have z6:∀nw:Int,(#[64]->nw=(ds.length:Int))->(¬ #[64]->nw=g)->Q .non (upd (upd H4 wt (.lst ((ws++[nw]).map V.int))) iw (.dK (eA (if nw∈ks then ks else ks++[nw])))):=λnw h1 h2=>by
  have y7:N≠wt:=aO u6 J #[3];have z7:N≠iw:=λz=>by rw[z,Mb]at j5;cases j5
  show k N nw _ j5 ?_ ?_ ?_ ?_ ?_ ae h1 h2 λc u c1 B c3 c4 c5 e=>?_
  ·rw[aj z7,aj y7];show u6
  ·rw[aj (Ne.symm o6),aj n4];show RJ
  ·rw[aj n7,aj (aO M IT #[3])];show y6
  ·rw[aj (aO RH Mb #[3]),aj n2];show W3
  ·rw[aj (Ne.symm u7),ae]
  ·rw[aj c5,aj c4];show l _ _ B (X0 c u c1 c3 e)
 exists _,rfl,_,rfl,x,C,m,_,_,rfl,G,p.cl,p.ni,rfl,iw,_,rfl,lG.k (k:=Sum.inl g) I,_,rfl;rw[Hw];have c7:#[64]->Q .non (upd (upd H4 wt (.lst ((ws++[(ds.length:Int)]).map V.int))) iw (.dK (eA (if (ds.length:Int)∈ks then ks else ks++[(ds.length:Int)])))):=λh=>z6 _ (λ_=>rfl) (λn=>absurd h n);show rM #[39] #[39]
 ·show Cu ⟨_,U,x,m,_,U,G,U,_,U,x,go,ms,wt,iw,(ds.length:Int),ws,ks,U,⟨m,G⟩,J,I,y4,lw,lk,c7 (.inl c)⟩
 ·show⟨_,U,il,_,U,.inl (bM o7),_,U,S,_,U,y6,_,_,U,U,_,U,rM (λB=>?_) (λB=>?_)⟩
  ·rw[aW,lo]at B;show⟨_,U,x,m,_,U,G,U,_,U,x,go,ms,wt,iw,(ds.length:Int),ws,ks,U,⟨m,G⟩,J,I,y4,lw,lk,c7 (.inr #[1])⟩
  ·rw[aW,lo]at B;show⟨_,U,x,m,_,U,G,U,_,U,x,go,ms,wt,iw,g,ws,ks,U,⟨m,G⟩,J,I,y4,lw,lk,z6 g (λh=>absurd h (λz=>by
    rcases z with z|z
    ·show c z
    ·show B #[1])) (λ_=>rfl)⟩
end
def aw(many:Nat)(q:Int):Prop:=0<=q/\q<(many:Int)
structure ai3(many:Nat)(y3:List (Int->Int))(sg:Int->Int)(R:Int->Int->Prop):Prop where
 sgn:∀x y,R x y->sg x=sg y
 led:∀x y,R x y->∀c∈y3,R (c x) (c y)
structure Hop(many:Nat)(y3:List (Int->Int))(sg:Int->Int)(R:Int->Int->Prop)(o4:Int->Int)(W:Int->Prop):Prop where
 coarse:∀x y,aw many x->aw many y->R x y->o4 x=o4 y
 signs:∀x y,aw many x->aw many y->o4 x=o4 y->sg x=sg y
 cong:∀x y,aw many x->aw many y->o4 x=o4 y->∀c∈y3,o4 (c x)=o4 (c y)\/W (o4 (c x))\/W (o4 (c y))
structure Ce(many:Nat)(y3:List (Int->Int))(sg:Int->Int)(R:Int->Int->Prop)(o4:Int->Int)(W:Int->Prop)(S:Int->Prop)(k:Nat):Prop where
 coarse:∀x y,aw many x->aw many y->R x y->o4 x=o4 y
 signs:∀x y,aw many x->aw many y->o4 x=o4 y->sg x=sg y
 whole:∀x y,aw many x->aw many y->R x y->S x->S y
 cong:∀x y,aw many x->aw many y->o4 x=o4 y->∀(j:Nat) (c:Int->Int),y3[j]?=Z c ->
  o4 (c x)=o4 (c y)\/W (o4 (c x))\/W (o4 (c y))\/(k<=j/\((S (c x)/\¬ S (c y))\/(S (c y)/\¬ S (c x))))
section
variable{y3:List (Int->Int)}{R:Int->Int->Prop}{W S:Int->Prop}{k:Nat}
theorem Hop.pop(h:Hop many y3 sg R o4 W)(L:∀x,aw many x->∀c∈y3,aw many (c x))(s:Int):Ce many y3 sg R o4 (λg=>W g/\g≠s) (λq=>o4 q=s) 0 where
 coarse:=h.coarse
 signs:=h.signs
 whole:=λx y J G r e=>(h.coarse x y J G r).symm.trans e
 cong:=λx y J G e j c f=>by
  have d:=tw f;rcases Classical.em (o4 (c x)=o4 (c y))with q|q
  ·show .inl q
  rcases Classical.em (o4 (c x)=s)with a|a
  ·show .inr (.inr (.inr ⟨jb _,.inl ⟨a,λb=>q (a.trans b.symm)⟩⟩))
  rcases Classical.em (o4 (c y)=s)with b|b
  ·show .inr (.inr (.inr ⟨jb _,.inr ⟨b,a⟩⟩))
  rcases h.cong x y J G e c d with z|z|z
  ·show .inl z
  ·show .inr (.inl ⟨z,a⟩)
  ·show .inr (.inr (.inl ⟨z,b⟩))
theorem Ce.done(h:Ce many y3 sg R o4 W S y3.length):Hop many y3 sg R o4 W where
 coarse:=h.coarse
 signs:=h.signs
 cong:=λx y J G e c d=>by
  let⟨j,f⟩:=JJ.mp d;rcases h.cong x y J G e j c f with z|z|z|⟨z,_⟩
  ·show .inl z
  ·show .inr (.inl z)
  ·show .inr (.inr z)
  ·have:=(lH f).1;lia
def Ce.split(h:Ce many y3 sg R o4 W S k)(t:∀x y,R x y->R y x)(d:∀x,aw many x->∀c∈y3,aw many (c x)){L:Int->Prop}{b n:Int}{m:Int->Prop}(u:∀x y,aw many x->aw many y->R x y->L x->L y)(F:∀x,aw many x->o4 x≠n)(B:∀g,W g->m g)(K:W b->m n)(Q:m n\/m b)(v:∀x,aw many x->o4 x=b->L x->acG x=n)(D:∀x,aw many x->¬ (o4 x=b/\L x)->acG x=o4 x):
  Ce many y3 sg R acG m S k:=by
 have back:∀x y,aw many x->aw many y->acG x=acG y->o4 x=o4 y/\(o4 x=b->(L x↔L y)):=λx y J G e=>by
  rcases Classical.em (o4 x=b/\L x)with q|q
  ·rcases Classical.em (o4 y=b/\L y)with p|p
   ·show⟨q.1.trans p.1.symm,λ_=>⟨λ_=>p.2,λ_=>q.2⟩⟩
   ·rw[v x J q.1 q.2,D y G p]at e;show absurd e.symm (F y G)
  ·rcases Classical.em (o4 y=b/\L y)with p|p
   ·rw[D x J q,v y G p.1 p.2]at e;show absurd e (F x J)
   ·rw[D x J q,D y G p]at e;show⟨e,λf=>⟨λC=>absurd ⟨f,C⟩ q,λE=>absurd ⟨e.symm.trans f,E⟩ p⟩⟩
 have s:∀x,aw many x->W (o4 x)->m (acG x):=λx J w=>by
  rcases Classical.em (o4 x=b/\L x)with q|q
  ·rw[v x J q.1 q.2];show K (q.1▸w)
  ·rw[D x J q];show B _ w
 show⟨λx y J G r=>?_,λx y J G e=>h.signs x y J G (back x y J G e).1,h.whole,λx y J G e j c o=>?_⟩
 ·have e:=h.coarse x y J G r;rcases Classical.em (o4 x=b/\L x)with q|q
  ·rw[v x J q.1 q.2,v y G (e.symm.trans q.1) (u x y J G r q.2)]
  ·have p:¬ (o4 y=b/\L y):=λp=>q ⟨e.trans p.1,u y x G J (t x y r) p.2⟩;rw[D x J q,D y G p,e]
 ·have A:=tw o;have i:=d x J c A;have l:=d y G c A;rcases h.cong x y J G (back x y J G e).1 j c o with z|z|z|z
  ·rcases Classical.em (o4 (c x)=b/\L (c x))with q|q
   ·rcases Classical.em (o4 (c y)=b/\L (c y))with p|p
    ·show .inl (by rw[v _ i q.1 q.2,v _ l p.1 p.2])
    ·have M:=v _ i q.1 q.2;have N:=D _ l p;rcases Q with a|a
     ·show .inr (.inl (by rw[M];show a))
     ·show .inr (.inr (.inl (by rw[N,<-z,q.1];show a)))
   ·rcases Classical.em (o4 (c y)=b/\L (c y))with p|p
    ·have M:=D _ i q;have N:=v _ l p.1 p.2;rcases Q with a|a
     ·show .inr (.inr (.inl (by rw[N];show a)))
     ·show .inr (.inl (by rw[M,z,p.1];show a))
    ·show .inl (by rw[D _ i q,D _ l p,z])
  ·show .inr (.inl (s _ i z))
  ·show .inr (.inr (.inl (s _ l z)))
  ·show .inr (.inr (.inr z))
theorem Ce.next(h:Ce many y3 sg R o4 W S k){c:Int->Int}(d:y3[k]?=Z c)(L:∀x y,aw many x->aw many y->o4 x=o4 y->S (c x)->S (c y)):Ce many y3 sg R o4 W S (k+1) where
 coarse:=h.coarse
 signs:=h.signs
 whole:=h.whole
 cong:=λx y J G e j P f=>by
  rcases h.cong x y J G e j P f with z|z|z|⟨i,z⟩
  ·show .inl z
  ·show .inr (.inl z)
  ·show .inr (.inr (.inl z))
  ·rcases Jb k j with l|l
   ·show .inr (.inr (.inr ⟨l,z⟩))
   ·have g:j=k:=by lia
    subst g;rw[d]at f;cases f;rcases z with⟨a,b⟩|⟨a,b⟩
    ·show absurd (L x y J G e a) b
    ·show absurd (L y x G J e.symm a) b
def Hop.alY(h:Hop many y3 sg R o4 W)(j:∀x,aw many x->¬ W (o4 x))(L:∀x,aw many x->∀c∈y3,aw many (c x)):∀x y,aw many x->aw many y->o4 x=o4 y->∀c∈y3,o4 (c x)=o4 (c y):=λx y J G e c d=>by
 rcases h.cong x y J G e c d with z|z|z
 ·show z
 ·show absurd z (j _ (L x J c d))
 ·show absurd z (j _ (L y G c d))
def Hop.single(inj:∀x y,aw many x->aw many y->o4 x=o4 y->x=y):∀x y,aw many x->aw many y->o4 x=o4 y->∀c∈y3,o4 (c x)=o4 (c y):=λx y J G e c _=>by rw[inj x y J G e]
end
theorem Hop.start{y3:List (Int->Int)}{R:Int->Int->Prop}(l:ai3 many y3 sg R){W:Int->Prop}(m:∀x y,aw many x->aw many y->(o4 x=o4 y↔sg x=sg y))(j:∀x,aw many x->W (o4 x))(L:∀x,aw many x->∀c∈y3,aw many (c x)):Hop many y3 sg R o4 W where
 coarse:=λx y J G r=>(m x y J G).mpr (l.sgn x y r)
 signs:=λx y J G e=>(m x y J G).mp e
 cong:=λx y J G _ c d=>.inr (.inl (j _ (L x J c d)))
theorem mI:∀{xs ys:LI},xs.Nodup->(∀x∈xs,x∈ys)->xs.length<=ys.length
 |[],_,_,_=>jb _
 |x::xs,ys,o,h=>by
  have n:=jm.mp o;have m:=h x jA;have i:=mI (xs:=xs) (ys:=ys.erase x) n.2 λy G=>by have e:y≠x:=λz=>n.1 (z▸G);show(Zn e).mpr (h y (jF _ G))
  rw[ZW m]at i;have:=ze m;rw[jX];lia
def Y2{xs ys:LI}(o:xs.Nodup)(h:∀x∈xs,x∈ys)(l:ys.length<=xs.length):∀y∈ys,y∈xs:=λy G=>Classical.byContradiction λz=>by
 have:=mI (xs:=y::xs) (ys:=ys) (jm.mpr ⟨z,o⟩) λq a=>by
  rcases jL.mp a with r|r
  ·rw[r];show G
  ·show h q r
 rw[jX]at this;lia
theorem SJ{n:Int}:∀{done gs:LI} {x:Nat},x<gs.length->(∀q∈done,0<=q)->(setG gs done n).getD x 0=if (x:Int)∈done then n else gs.getD x 0
 |[],gs,x,_,_=>by rw[if_neg #[7]];rfl
 |q::r,gs,x,J,h=>by
  have K:=SJ (gs:=gs.set q.toNat n) (n:=n) (done:=r) (x:=x) (by rw[Zc];show J) λp D=>h p (jF _ D);change(setG (gs.set q.toNat n) r n).getD x 0=_;rw[K];have G:=h q jA;by_cases c:(x:Int)∈r
  ·rw[if_pos c,if_pos (jF _ c)]
  ·rw[if_neg c];by_cases d:(x:Int)=q
   ·rw[if_pos (by rw[d];show jA)];have e:q.toNat=x:=by lia
    rw[e,jQ,zZ J];rfl
   ·rw[if_neg (λz=>(jL.mp z).elim d c)];have e:q.toNat≠x:=by lia
    rw[jQ,zo e,jQ]
def bG(gs:LI)(q:Int):Int:=gs.getD q.toNat 0
def SK{n q:Int}(X:0<=q)(G:q<(gs.length:Int))(W:∀p∈ins,0<=p):bG (setG gs ins n) q=if q∈ins then n else bG gs q:=by have h:=SJ (n:=n) (done:=ins) (gs:=gs) (x:=q.toNat) #[1] W;rw[jf X]at h;show h
structure FW(H:Hp)(C x go ms wt iw:Qp)(many:Nat)(gs:LI)(ds:List Qp)(ws:LI):Prop where
 pt:Q0 H C x go ms wt iw
 go_:H go=Z (.lst (gs.map V.int))
 ms_:H ms=Z (.lst #[160])
 wt_:H wt=Z (.lst (ws.map V.int))
 iw_:H iw=Z (.dK (eA ws))
 lg:gs.length=many
 val:∀q,aw many q->0<=bG gs q/\bG gs q<(ds.length:Int)
 mem:∀(i:Nat) (da:Qp),ds[i]?=Z da->∃mem:LI,H da=Z (.dK (eA mem))/\mem.Nodup/\mem≠[]/\∀q,q∈mem↔aw many q/\bG gs q=(i:Int)
 dn:ds.Nodup
 ndi:iw∉ds
 n1:go≠ms
 n2:go≠wt
 n3:ms≠wt
 wn:ws.Nodup
 wv:∀g∈ws,0<=g/\g<(ds.length:Int)
section
variable{x:Qp}
def FW.at_(h:FW H C x go ms wt iw many gs ds ws){d:Qp}(j:d∈ds):∃mem:LI,H d=Z (.dK (eA mem)):=by let⟨i,W⟩:=JJ.mp j;let⟨mem,G,_⟩:=h.mem i d W;show⟨mem,G⟩
theorem FW.same(h:FW H C x go ms wt iw many gs ds ws)(s:av H H'):FW H' C x go ms wt iw many gs ds ws:=
 ⟨h.pt.same s,s _ _ h.go_,s _ _ h.ms_,s _ _ h.wt_,s _ _ h.iw_,h.lg,h.val,λi S W=>by let⟨mem,G,M,B,k⟩:=h.mem i S W;show⟨mem,s _ _ G,M,B,k⟩,h.dn,h.ndi,h.n1,h.n2,h.n3,h.wn,h.wv⟩
def FW.B1(h:FW H C x go ms wt iw many gs ds ws):ds.length<=many:=by
 have t:=mI (xs:=(jg ds.length).map λi:Nat=>(i:Int)) (ys:=gs) (zM.mpr (List.nodup_range.imp λ{a b} n z=>n (by
  have p:(a:Int)=(b:Int):=z;lia))) (λg m=>by
  let⟨i,W,rfl⟩:=jK.mp m;have X:=js.mp W;let⟨mem,_,_,c,j⟩:=h.mem i _ (jC X);let⟨q,r,rfl⟩:=ZJ c;let⟨⟨G,E⟩,e⟩:=(j q).mp jA;have l:q.toNat<gs.length:=by rw[h.lg];lia
  unfold bG at e;rw[getD_at l]at e;rw[<-e];show jO l)
 rw[aW,jd,h.lg]at t;show t
def FW.auQ(h:FW H C x go ms wt iw many gs ds ws):ws.length<=ds.length:=cL ds.length h.wn h.wv
theorem FW.split{S E:Qp}{g I:Int}(h:FW H C x go ms wt iw many gs ds ws)(g0:0<=g)(L:ds[g.toNat]?=Z S)(y:H S=Z (.dK (eA mem)))(N:∀q,q∈mem↔aw many q/\bG gs q=g)(w:mem.Nodup)(R:ins.Nodup)(X:∀q∈ins,q∈mem)(K:ins≠[])(lt:ins.length<mem.length)(f:H E=Y)(O:H' E=Z (.dK (eA ins)))(j:H' ms=Z (.lst ((ds++[E]).map V.ref)))(F:H' S=Z (.dK (eA (outF mem ins))))(P:H' go=Z (.lst (#[109].map V.int)))(Q:H' wt=Z (.lst ((ws++[I]).map V.int)))(t:H' iw=Z (.dK (eA (if I∈ws then ws else ws++[I]))))(A:I∉ws)(s:I=(ds.length:Int)\/I=g)(k:∀c u,c≠go->c≠ms->c≠S->c≠wt->c≠iw->H c=Z u->H' c=Z u):FW H' C x go ms wt iw many #[109] (ds++[E]) (ws++[I]):=by
 have gl:g.toNat<ds.length:=(lH L).1;have T:∀p∈ins,0<=p:=λp D=>((N p).mp (X p D)).1.1;have o:∀q,aw many q->bG #[109] q=if q∈ins then(ds.length:Int)else bG gs q:=λq l=>SK l.1 (by rw[h.lg];show l.2) T
 have eE:E∉ds:=λz=>by let⟨m,N⟩:=h.at_ z;rw[f]at N;cases N
 let⟨dx,J⟩:=h.pt.ob;show⟨⟨dx,k _ _ (aO J h.go_ #[3]) (aO J h.ms_ #[3]) (aO J y #[3]) (aO J h.wt_ #[3]) (aO J h.iw_ #[3]) J⟩,P,j,Q,by rw[if_neg A]at t;show t,by rw[SM];show h.lg,λq l=>?_,λi d W=>?_,?_,?_,h.n1,h.n2,h.n3,Dr h.wn A,λp D=>?_⟩
 ·rw[o q l,jH,je];have v:=h.val q l;split<;>lia
 ·rcases snoc_cases W with W|⟨rfl,rfl⟩
  ·have il:=(lH W).1;by_cases c:d=S
   ·subst c;have ei:i=g.toNat:=by have e1:=(lH W).2;have e2:=(lH L).2;show(JY h.dn).mp (e1.trans e2.symm)
    show⟨outF mem ins,F,w.filter _,λz=>?_,λq=>?_⟩
    ·have all:∀q∈mem,q∈ins:=λq l=>Classical.byContradiction λn=>by have:q∈outF mem ins:=jv.mpr ⟨l,decide_eq_true n⟩;rw[z]at this;cases this
     have:=mI w all;lia
    ·unfold outF;rw[jv,N,ei,jf g0];constructor
     ·rintro⟨⟨G,M⟩,B⟩;show⟨G,by rw[o q G,if_neg (of_decide_eq_true B)];show M⟩
     ·rintro⟨G,M⟩;rw[o q G]at M;by_cases n:q∈ins
      ·rw[if_pos n]at M;lia
      ·rw[if_neg n]at M;show⟨⟨G,M⟩,decide_eq_true n⟩
   ·let⟨m2,G,M,B,h4⟩:=h.mem i d W;show⟨m2,k _ _ (aO G h.go_ #[3]) (aO G h.ms_ #[3]) c (aO G h.wt_ #[3]) (λz=>h.ndi (z▸tw W)) G,M,B,λq=>?_⟩;have ni:(i:Int)≠g:=λz=>by
     have e:i=g.toNat:=by lia
     rw[e,L]at W;show c (Option.some.inj W).symm
    rw[h4];show and_congr_right λl=>?_;rw[o q l];by_cases n:q∈ins
    ·have e:=((N q).mp (X q n)).2;rw[if_pos n,e];constructor<;>intro z<;>lia
    ·rw[if_neg n]
  ·show⟨ins,O,R,K,λq=>?_⟩;constructor
   ·intro l;have r:=((N q).mp (X q l)).1;show⟨r,by rw[o q r,if_pos l]⟩
   ·rintro⟨l,e⟩;rw[o q l]at e;by_cases n:q∈ins
    ·show n
    ·rw[if_neg n]at e;have:=h.val q l;lia
 ·show JM.mpr ⟨h.dn,jm.mpr ⟨by simp,Jg⟩,λa ha b hb=>?_⟩;rw[jI.mp hb];show λz=>eE (z▸ha)
 ·intro z;rcases BF.mp z with z|z
  ·show h.ndi z
  ·have e:=jI.mp z;rw[<-e,h.iw_]at f;cases f
 ·rw[jH,je];rcases BF.mp D with z|z
  ·have:=h.wv p z;lia
  ·rw[jI.mp z];rcases s with e|e<;>lia
end
def ag3(many:Nat)(L gs:LI)(n:Nat)(ws BB D4:LI):Prop:=∃b nw:Int,D4=ws++[nw]/\(nw=(n:Int)\/nw=b)/\(b∈ws->nw=(n:Int))/\(∀q,aw many q->bG gs q=b->q∈L->bG BB q=(n:Int))/\(∀q,aw many q->¬ (bG gs q=b/\q∈L)->bG BB q=bG gs q)
inductive SW (C:Qp) (vs:List V) (H:Hp) (Q:VK) (E:XK):Prop|mk (x go ms wt iw ll:Qp) (many:Nat) (gs ws L:LI) (ds:List Qp) (J:LI->Nat->LI->Prop) (_:vs=[.ref x,.ref ll]) (_:FW H C x go ms wt iw many gs ds ws) (_:many<100000) (_:H ll=Z (.lst (L.map V.int))) (_:(ll≠go/\ll≠ms/\ll≠wt)) (_:L.Nodup) (_:(∀q∈L,aw many q)) (_:J gs ds.length ws) (_:(∀gs n ws BB D4,J gs n ws->(∀q,aw many q->0<=bG gs q/\bG gs q<(n:Int))->ag3 many L gs n ws BB D4->J BB (n+1) D4)) (_:∀(H':Hp) (BB D4:LI) (more:List Qp),FW H' C x go ms wt iw many BB (ds++more) D4->J BB (ds++more).length D4->(∀a b,aw many a->aw many b->bG BB a=bG BB b->a∈L->b∈L)->(∀d∈more,H d=Y)->(∀c u,c≠go->c≠ms->c≠wt->c≠iw->c∉ds->H c=Z u->H' c=Z u)->Q .non H')
section
def dG:aA ["self","leading","touched","here","group","inside"] ["self","leading"] (aq mM):=bQ #[0]
def adb(F:bu K "part_by" "Parted.part_by" mM dV f fd)(pc:P7 K C)(tZ:bP P w K mg base C "split_off" 2 ["self","group","inside"] (abK K C))(br:mg "len" = Y):aR P w K mg base cO 3 f fd ["self","leading"] (SW C):=by
 show F.ok dG #[18] (λcq A c8 s H vs Q E hr h=>?_)
 ·let⟨x,go,ms,wt,iw,ll,many,gs,ws,L,ds,J,rfl,_⟩:=h;rfl
 let⟨x,go,ms,wt,iw,ll,many,gs,ws,L,ds,J,rfl,S,j9,i7,⟨l1,l2,l3⟩,j7,hL,j0,d8,k⟩:=h;have hu:=ow hr;let⟨dx,hx⟩:=S.pt.ob;have k9:L.length<=many:=cL many j7 hL;have l9:=S.B1;show⟨_,(ah (aB (i:=2) dG.nd rn)
   (ah (cf PassesOwn.never rfl (cU (pv 1)) (bj (i:=3) dG.nd) (ao (bC (fZ Ye Yg Yh bX (Pj (pv 2) (ax bR #[17] (pv 3) #[2]) (bS af) ⟨rfl,rfl,rfl,rfl⟩) #[49]))))
   (ao (cf PassesOwn.never rfl (afP (K6 yC XU PySem.F.type_dict_items ae1 (pv 2))) (EX rfl (dC (bj (i:=4) dG.nd) (dC (bj (i:=5) dG.nd) wH))) (ao (bV (aG Sl (aH aM #[31] br bZ #[124]) (aH Bu #[31] br bZ (aa (ax bR #[17] (pv 4) #[2]) af)) (aL _)) (ao (bC (mq tZ hr (pv 0) (aa (pv 4) #[124])))) aV)))))),?_⟩
 exists 0;show λB hB=>?_;have s0:=ak hB (HO.dK []);exists 25;show cg (t:=pQ _ _ _) (λO H'=>∃(I:List #[187]) (v:OV),O=[Z #[164],Z (.ref ll),Z (.ref B),v,Y,Y]/\av H H'/\cS H H' B I (λq ls=>ls=L.filter λh=>decide (bG gs h=q))/\∀e∈I,∃h∈L,bG gs h=e.1) ?_ #[27];exists 27
 ·have b0:cS H (upd H B (.dK [])) B [] (λq ls=>ls=(L.take 0).filter λh=>decide (bG gs h=q)):=⟨ae,List.Pairwise.nil,List.Pairwise.nil,(λe h=>by cases h),(λe h=>by cases h),λq _=>rfl⟩;exists _,rfl,ll,rfl,⟨_,bM (s0 _ _ i7)⟩;show fW (K:=K) (xs:=L.map V.int) (λi O H'=>∃(I:List #[187]) (v:OV),O=[Z #[164],Z (.ref ll),Z (.ref B),v,Y,Y]/\av H H'/\cS H H' B I (λq ls=>ls=(L.take i).filter λh=>decide (bG gs h=q))/\∀e∈I,∃h∈L,bG gs h=e.1) ⟨[],Y,U,s0,b0,λe h=>by cases h⟩ (λi O H' _ ⟨_,_,_,e,_,_⟩=>bM (e _ _ i7)) ?_ ?_
  ·rintro i y O H2 hi ⟨I,v,rfl,s2,b2,kr⟩;let⟨h,rfl,hh⟩:=cy hi;have M:=tw hh;have il:=(lH hh).1;have D7:=hL h M;have gv:=S.val h D7;have l6:wV (gs.map V.int) h=Z (.int (bG gs h)):=dY D7.1 (by rw[S.lg];show D7.2);show⟨_,U,B,U,.inl ⟨_,.inl b2.at_⟩,_,U,x,C,dx,_,_,U,s2 _ _ hx,pc.cl,pc.ng,U,_,U,go,_,_,_,U,U,bM (s2 _ _ S.go_),l6,#[15],λLa o5=>?_⟩;have sL:=ak o5 #[74];have b3:=b2.same sL;have nL:∀e∈I,e.2≠La:=λe R z=>by let⟨ls,G,_⟩:=b2.lst e R;rw[z,o5]at G;cases G
   have e8:B≠La:=ar b2.at_ o5;have fL:H La=Y:=s2.free o5;have B1:=cL ds.length b3.nd (λq l=>by let⟨e,R,rfl⟩:=jK.mp l;let⟨p,hp,ep⟩:=kr e R;rw[<-ep];show S.val p (hL p hp))
   rw[aW]at B1;have len:(EI I).length<sizeLine:=bI (by unfold EI;rw[aW];lia);have et:L.take (i+1)=L.take i++[h]:=by rw[jS,hh];rfl
   have LY:∀(p:Int) (ls:LI),p≠bG gs h->(ls=(L.take i).filter λh=>decide (bG gs h=p))->ls=(L.take (i+1)).filter λh=>decide (bG gs h=p):=λp ls np z=>by rw[et,JX,JG (by rw[decide_eq_false (Ne.symm np)];decide),QT,jh];show z
   have k6:∀ls:LI,(ls=(L.take i).filter λq=>decide (bG gs q=bG gs h))->ls++[h]=(L.take (i+1)).filter λq=>decide (bG gs q=bG gs h):=λls z=>by
    have e1:[h].filter (λq=>decide (bG gs q=bG gs h))=[h]:=by simp
    rw[et,JX,e1,z]
   show⟨_,Sum.inl (bG gs h),b3.at_,U,len,λv hv=>?_,λhn=>?_⟩
   ·let⟨la,ls,rfl,y4,o6,hp⟩:=b3.get hv;have pl:ls.length<=i:=by rw[hp];show jc (JR _ _) (by rw[jT];lia)
    have lz:(ls.map V.int).length<sizeLine:=bI #[25];exists .inl ⟨rfl,_,bM o6⟩,_,rfl,la,_,_,rfl,rfl,o6,lz;show⟨I,_,U,au (s2.trans sL) (b2.fresh _ y4),b3.old y4 o6 (k6 ls hp) LY,kr⟩
   ·have l:bG gs h∉I.map Prod.fst:=λz=>by let⟨e,R,ee⟩:=jK.mp z;let⟨jj,f8⟩:=JJ.mp R;have:=J2 b3.nd (q:=e.1) (a:=e.2) f8;rw[ee,hn]at this;cases this
    have IP:(upd (upd H2 La #[74]) B (HO.dK (putK (EI I) (Sum.inl (bG gs h)) (V.ref La)))) La=Z #[171]:=by rw[aj (Ne.symm e8),ae]
    show⟨.inl ⟨U,_,bM IP⟩,_,U,La,_,_,U,U,IP,(by change 0<sizeLine;decide),?_⟩;show⟨I++[(bG gs h,La)],_,U,au (au (s2.trans sL) hB) fL,b3.new l ae fL nL (k6 [] (b3.non _ l)) LY,λe R=>?_⟩;rcases BF.mp R with z|z
    ·show kr e z
    ·rw[jI.mp z];show⟨h,M,U⟩
  ·rintro O H1 ⟨I,v,rfl,s1,b1,kr⟩;rw[aW,jV]at b1;show cI _ _ ⟨I,v,U,s1,b1,kr⟩
 rintro O H1 ⟨I,v,rfl,s1,b1,kr⟩;show⟨_,U,.inr (.inr (.inl ⟨U,.inl ⟨_,b1.at_⟩⟩)),B,_,U,U,b1.at_,λvw u6=>?_⟩;have g8:B≠vw:=ar b1.at_ u6;show⟨vw,B,EI I,U,ae,by rw[aj g8];show b1.at_,λo=>?_⟩;have h8:H vw=Y:=s1.free u6;let⟨H2,Rz⟩:=gn (upd (upd H1 vw (C0 vw B)) B (.B2 o (.dK (EI I))));have s2:av H H2:=by rw[<-Rz];show au (au s1 h8) hB
 have j8:H2 B=Z (.B2 o (.dK (EI I))):=by rw[<-Rz,ae]
 have k8:∀e∈I,H2 e.2=Z (.lst ((L.filter λh=>decide (bG gs h=e.1)).map V.int)):=λe R=>by let⟨ls,G,h2⟩:=b1.lst e R;rw[<-Rz,aj (aO G b1.at_ #[3]),aj (ar G u6),G,h2]
 rw[Rz];have m8:=b1.nd;have lk:(EI I).length=I.length:=by unfold EI;rw[aW]
 show acA (o:=o) (kvs:=EI I) (λi O H'=>∃(X D4:LI) (D:List Qp) (v1 v2 v3:OV),O=[Z #[164],Z (.ref ll),Z (.ref B),v1,v2,v3]/\FW H' C x go ms wt iw many X (ds++D) D4/\J X (ds++D).length D4/\(∀d∈D,H d=Y)/\H' B=Z (.B2 o (.dK (EI I))) /\
   (∀e∈I,H' e.2=Z (.lst ((L.filter λh=>decide (bG gs h=e.1)).map V.int)))/\(∀c u,c≠go->c≠ms->c≠wt->c≠iw->c∉ds->H c=Z u->H' c=Z u)/\(∀q,aw many q->bG gs q∉(I.take i).map Prod.fst->bG X q=bG gs q) /\
   (∀a b,aw many a->aw many b->bG X a=bG X b->bG gs a=bG gs b/\(bG gs a∈(I.take i).map Prod.fst->(a∈L↔b∈L))))
  ⟨gs,ws,[],v,Y,Y,rfl,by rw[jh];show S.same s2,by rw[jh];show j0,(λd hd=>by cases hd),j8,k8,(λc u _ _ _ _ _ e=>s2 _ _ e),(λ_ _ _=>rfl),λa b _ _ e=>⟨e,λz=>by rw[ZD]at z;cases z⟩⟩
  (λi O H' _ ⟨_,_,_,_,_,_,_,_,_,_,e,_,_,_,_⟩=>e) ?_ ?_
 ·rintro i p O H3 T hi ⟨X,D4,D,v1,v2,v3,rfl,S3,j3,fm,y6,w5,j5,ga,gb⟩ hT;obtain⟨e,R,rfl⟩:∃e,I[i]?=Z e/\p=(Sum.inl e.1,V.ref e.2):=by unfold EI at hi;rw[jR]at hi;let⟨e,G,h2⟩:=Jd.mp hi;show⟨e,G,h2.symm⟩
  let⟨b,il⟩:=e;have y4:=tw R;have m9:i<I.length:=(lH R).1;have sT:=ak hT (HO.tup [V.int b,V.ref il]);exists T,_,rfl,bg ae,rfl,_,_,rfl,_,_,rfl,rfl;let⟨H4,LQ⟩:=gn (upd H3 T (HO.tup [V.int b,V.ref il]));have N:av H3 H4:=by rw[<-LQ];show sT
  have o8:upd H3 T (HO.tup [kV (Sum.inl b),V.ref il])=H4:=LQ
  try rw[LQ]
  try rw[o8]
  have r:=S3.same N;let⟨z6,c7⟩:=r.pt.ob;let⟨h0,z5,e0⟩:=kr _ y4;have bv:=S.val h0 (hL h0 z5);rw[e0]at bv;have bl:b.toNat<ds.length:=by lia
  have Al:(ds++D)[b.toNat]?=Z ds[b.toNat]:=by rw[JA bl,jC bl]
  let⟨da,k7⟩:=gn (ds[b.toNat]);rw[k7]at Al;let⟨mem,LU,m7,n9,M⟩:=r.mem b.toNat da Al;rw[jf bv.1]at M;have l6:wV ((ds++D).map V.ref) b=Z (.ref da):=Dc bv.1 Al;have q8:=N _ _ (w5 _ y4);let⟨ins,d7⟩:=gn ((L.filter λh=>decide (bG gs h=b)));have o7:H4 il=Z (.lst (ins.map V.int)):=by rw[<-d7];show q8
  have W:∀q,q∈ins↔q∈L/\bG gs q=b:=λq=>by rw[<-d7,jv];show and_congr_right λ_=>⟨of_decide_eq_true,decide_eq_true⟩
  have Y3:b∉(I.take i).map Prod.fst:=λz=>by
   let⟨e,G,h2⟩:=jK.mp z;let⟨j,hj,ej⟩:=ji G;rw[jT]at hj;rw[zX]at ej;have e2:=(lH R).2;have:(I.map Prod.fst)[j]'#[25]=(I.map Prod.fst)[i]'#[25]:=by rw[Jf,Jf,ej,e2];show h2
   have:=(JY m8).mp this;lia
  have IV:∀q∈ins,q∈mem:=λq l=>by have G:=(W q).mp l;show(M q).mpr ⟨hL q G.1,?_⟩;rw[ga q (hL q G.1) (by rw[G.2];show Y3),G.2]
  have c6:ins.Nodup:=by rw[<-d7];show j7.filter _
  have u8:ins≠[]:=λz=>by have:=(W h0).mpr ⟨z5,e0⟩;rw[z]at this;cases this
  have d6:(I.take (i+1)).map Prod.fst=(I.take i).map Prod.fst++[b]:=by rw[jS,R,jD];rfl
  have u7:(eA mem).length=mem.length:=by unfold eA;rw[aW]
  have f7:=r.go_;have h6:=r.ms_;have g7:=r.wt_;have d5:H il=Y:=b1.fresh _ y4;have g1:go≠il:=λz=>by rw[<-z,S.go_]at d5;cases d5
  have g2:ms≠il:=λz=>by rw[<-z,S.ms_]at d5;cases d5
  have g3:wt≠il:=λz=>by rw[<-z,S.wt_]at d5;cases d5
  have q9:=r.B1;have r9:=r.auQ;have u9:mem.length<=many:=cL many m7 λq l=>((M q).mp l).1;have y9:ins.length<=mem.length:=mI c6 IV;show⟨_,U,il,_,U,.inl (bM o7),_,U,x,C,z6,_,_,U,c7,pc.cl,pc.nm,U,_,U,ms,_,_,_,U,U,bM h6,l6,da,_,U,LU,_,_,U,U,_,U,rM #[39] #[39]⟩
  ·rw[aW,u7]at c;have lt:ins.length<mem.length:=by lia
   have y8:(ds++D).length<100000:=by lia
   show⟨_,U,x,z6,_,U,c7,U,_,U,_,U,x,go,ms,wt,iw,da,il,b,X,D4,D4,mem,ins,ds++D,U,⟨z6,c7⟩,f7,h6,g7,r.iw_,r.wn,⟨by lia,by lia,y8,by lia⟩,bv.1,Al,LU,o7,c6,λq l=>?_,⟨r.n1,r.n2,g1,r.n3,g2,g3,λz=>r.ndi (z▸tw Al)⟩,λE nw H5 fE hE z8 a9 b9 c9 d9 hy hn i6=>?_⟩
   ·have G:=(M q).mp (IV q l);show⟨IV q l,G.1.1,by rw[r.lg];show G.1.2⟩
   ·have y7:nw=((ds++D).length:Int)\/nw=b:=by
     by_cases z:b∈D4\/ins.length<=(outF mem ins).length
     ·show .inl (hy z)
     ·show .inr (hn z)
    have f9:nw∉D4:=λz=>by
     by_cases y:b∈D4\/ins.length<=(outF mem ins).length
     ·have:=r.wv nw z;rw[hy y]at this;lia
     ·rw[hn y]at z;show y (.inl z)
    have S5:=r.split bv.1 Al LU M m7 c6 IV u8 lt fE hE z8 a9 b9 c9 d9 f9 y7 i6;have ip:∀p∈ins,0<=p:=λp hp=>((M p).mp (IV p hp)).1.1;have gr:∀q,aw many q->bG (setG X ins ((ds++D).length:Int)) q=if q∈ins then((ds++D).length:Int)else bG X q:=λq l=>SK l.1 (by rw[r.lg];show l.2) ip
    have g9:bG X h0=b:=by rw[ga h0 (hL h0 z5) (by rw[e0];show Y3),e0]
    have z7:∀q,aw many q->(q∈ins↔bG X q=b/\q∈L):=λq l=>
     ⟨λz=>⟨((M q).mp (IV q z)).2,((W q).mp z).1⟩,λz=>(W q).mpr ⟨z.2,by rw[(gb q h0 l (hL h0 z5) (z.1.trans g9.symm)).1];show e0⟩⟩
    have h9:H E=Y:=by
     cases e:H E with
     |none=>rfl
     |some u=>
      have:=N _ _ (j5 E u (λz=>by rw[z,f7]at fE;cases fE) (λz=>by rw[z,h6]at fE;cases fE) (λz=>by rw[z,g7]at fE;cases fE) (λz=>by rw[z,r.iw_]at fE;cases fE) (λz=>by let⟨m,M⟩:=r.at_ (JH _ z);rw[fE]at M;cases M) e)
      rw[fE]at this;cases this
    have i5:=N _ _ y6;have i9:da∈ds:=k7▸jO bl;show⟨setG X ins ((ds++D).length:Int),D4++[nw],D++[E],_,_,_,U,by rw[<-jr];show S5,?_,λd hd=>?_,i6 _ _ (aO i5 f7 #[3]) (aO i5 h6 #[3]) (aO i5 LU #[3]) (aO i5 g7 #[3]) (aO i5 r.iw_ #[3]) i5,λe R=>?_,λc u c1 c2 c3 c4 c5 e=>i6 c u c1 c2 (λz=>c5 (z▸i9)) c3 c4 (N _ _ (j5 c u c1 c2 c3 c4 c5 e)),λq l nq=>?_,λa c ha hc e=>?_⟩
    ·have el:(ds++(D++[E])).length=(ds++D).length+1:=by simp only[jH,je];lia
     rw[el];show d8 X _ D4 _ _ j3 r.val ⟨b,nw,U,y7,λz=>hy (.inl z),λq l e hl=>by rw[gr q l,if_pos ((z7 q l).mpr ⟨e,hl⟩)],λq l n=>by rw[gr q l,if_neg λz=>n ((z7 q l).mp z)]⟩
    ·rcases BF.mp hd with z|z
     ·show fm d z
     ·rw[jI.mp z];show h9
    ·have fe:=b1.fresh e R;have h7:=N _ _ (w5 e R);show i6 _ _ (λz=>by rw[z,S.go_]at fe;cases fe) (λz=>by rw[z,S.ms_]at fe;cases fe) (aO h7 LU #[3]) (λz=>by rw[z,S.wt_]at fe;cases fe) (aO h7 r.iw_ #[3]) h7
    ·rw[d6]at nq;rw[gr q l,if_neg λz=>nq (jo _ (by rw[((W q).mp z).2];show jA))];show ga q l λz=>nq (JH _ z)
    ·rw[gr a ha,gr c hc]at e;by_cases ai:a∈ins
     ·by_cases ci:c∈ins
      ·have G:=(W a).mp ai;have h2:=(W c).mp ci;show⟨G.2.trans h2.2.symm,λ_=>⟨λ_=>h2.1,λ_=>G.1⟩⟩
      ·rw[if_pos ai,if_neg ci]at e;have:=r.val c hc;lia
     ·by_cases ci:c∈ins
      ·rw[if_neg ai,if_pos ci]at e;have:=r.val a ha;lia
      ·rw[if_neg ai,if_neg ci]at e;have g:=gb a c ha hc e;show⟨g.1,λz=>?_⟩;rw[d6]at z;rcases BF.mp z with z|z
       ·show g.2 z
       ·have za:=jI.mp z;show⟨λh=>absurd ((W a).mpr ⟨h,za⟩) ai,λh=>absurd ((W c).mpr ⟨h,g.1.symm.trans za⟩) ci⟩
  ·rw[aW,u7]at c;have all:=Y2 c6 IV #[1];show⟨X,D4,D,_,_,_,U,r,j3,fm,N _ _ y6,(λe R=>N _ _ (w5 e R)),(λc u c1 c2 c3 c4 c5 e=>N _ _ (j5 c u c1 c2 c3 c4 c5 e)),λq l nq=>?_,λa c ha hc e=>?_⟩
   ·rw[d6]at nq;show ga q l λz=>nq (JH _ z)
   ·have g:=gb a c ha hc e;show⟨g.1,λz=>?_⟩;rw[d6]at z;rcases BF.mp z with z|z
    ·show g.2 z
    ·have za:=jI.mp z;have b8:∀q,aw many q->bG gs q=b->q∈L:=λq l eq=>((W q).mp (all q ((M q).mpr ⟨l,by rw[ga q l (by rw[eq];show Y3),eq]⟩))).1;show⟨λ_=>b8 c hc (g.1.symm.trans za),λ_=>b8 a ha za⟩
 ·rintro O H' ⟨X,D4,D,v1,v2,v3,rfl,S3,j3,fm,y6,w5,j5,ga,gb⟩;rw[lk,jV]at gb;show k H' X D4 D S3 j3 (λa b ha hb e M=>?_) fm j5;have g:=gb a b ha hb e;show(g.2 (Classical.byContradiction λz=>?_)).mp M;have:=b1.non _ z;have h2:a∈L.filter λh=>decide (bG gs h=bG gs a):=jv.mpr ⟨M,decide_eq_true rfl⟩;rw[<-this]at h2;cases h2
end
def Reach(wide:Nat)(rows:LL)(q:Int):Prop:=∃row:LI,(∀f∈row,0<=f/\f<(wide:Int))/\bp rows row 0=q
def Reach.zero:Reach wide rows 0:=⟨[],(λf h=>by cases h),rfl⟩
def Reach.step{wide:Nat}{rows:LL}{q f:Int}(h:Reach wide rows q)(T:0<=f)(D:f<(wide:Int)):Reach wide rows (stepI rows q f):=by
 let⟨I,S,rfl⟩:=h;show⟨I++[f],λg m=>?_,by rw[cW];rfl⟩;rcases BF.mp m with z|z
 ·show S g z
 ·rw[jI.mp z];show⟨T,D⟩
def Reach.of{S:Int->Prop}(X:S 0)(hs:∀q,S q->∀f,0<=f->f<(wide:Int)->S (stepI rows q f)){q:Int}(h:Reach wide rows q):S q:=by
 let⟨I,a,rfl⟩:=h;have go:∀(I:LI) (p:Int),(∀f∈I,0<=f/\f<(wide:Int))->S p->S (bp rows I p):=by
  intro I
  induction I with
  |nil=>intro p _ D;show D
  |cons f r K=>intro p a D;show K (stepI rows p f) (λg m=>a g (jF _ m)) (hs p D f (a f jA).1 (a f jA).2)
 show go I 0 a X
def eK(s:LI)(x:Int):LI:=if x∈s then s else s++[x]
def ik(rows:LL)(s:LI)(q:Int):LI:=#[62].foldl eK s
def afV(h:y∈s):y∈eK s x:=by
 unfold eK;split
 ·show h
 ·show JH _ h
def afU(s:LI)(x:Int):x∈eK s x:=by
 unfold eK;split
 ·assumption
 ·show jo _ jA
theorem CD:∀(xs:LI) {s:LI} {y:Int},y∈s->y∈xs.foldl eK s
 |[],_,_,h=>h
 |x::xs,_,_,h=>CD xs (afV h)
theorem Ld:∀(xs:LI) {s:LI} {y:Int},y∈xs->y∈xs.foldl eK s
 |[],_,_,h=>by cases h
 |x::xs,s,y,h=>by
  rcases jL.mp h with rfl|h
  ·show CD xs (afU s y)
  ·show Ld xs h
theorem Bz(rows:LL):∀(qs:LI) {s:LI} {y:Int},y∈s->y∈qs.foldl #[181] s
 |[],_,_,h=>h
 |q::qs,_,_,h=>Bz rows qs (CD _ h)
theorem sZ(rows:LL):∀(qs:LI) {s:LI} {q y:Int},q∈qs->y∈rows.getD q.toNat []->y∈qs.foldl #[181] s
 |[],_,_,_,h,_=>by cases h
 |p::qs,s,q,y,h,G=>by
  rcases jL.mp h with rfl|h
  ·show Bz rows qs (Ld _ G)
  ·show sZ rows qs h G
structure Bfs(many wide:Nat)(rows:LL)(qs:LI):Prop where
 eq:qs=qs.foldl #[181] [0]
 nd:qs.Nodup
 inr:∀q∈qs,0<=q/\q<(many:Int)
 re:∀q,q∈qs↔Reach wide rows q
inductive Oa (K:Yc) (vs:List V) (H:Hp) (Q:VK) (E:XK):Prop|mk (m r g:Qp) (many wide:Nat) (rows:LL) (signs:LI) (_:vs=[.ref m,.int 0]) (_:bD H m r g wide rows signs) (_:aQ many wide rows) (_:(1<=many/\many<=100000)) (_:∀(l:Qp) (H':Hp) (qs:LI),av H H'->H' l=Z (.lst (qs.map V.int))->Bfs many wide rows qs->Q #[102] H')
structure Found(many wide:Nat)(rows:LL)(dn ks:LI):Prop where
 eq:ks=dn.foldl #[181] [0]
 nd:ks.Nodup
 inr:∀q∈ks,0<=q/\q<(many:Int)
 re:∀q∈ks,Reach wide rows q
structure Part(many wide:Nat)(rows:LL)(dn:LI)(xs:LI)(ks:LI):Prop where
 eq:ks=xs.foldl eK (dn.foldl #[181] [0])
 nd:ks.Nodup
 inr:∀q∈ks,0<=q/\q<(many:Int)
 re:∀q∈ks,Reach wide rows q
theorem Part.put{xs:LI}{q:Int}(F:Part many wide rows dn xs ks)(h:q∉ks)(G:0<=q)(E:q<(many:Int))(r:Reach wide rows q):Part many wide rows dn (xs++[q]) (ks++[q]) where
 eq:=by rw[JC,<-F.eq];change _=eK ks q;unfold eK;rw[if_neg h]
 nd:=JM.mpr ⟨F.nd,by simp,λa W b B e=>h (by rw[<-jI.mp B,<-e];show W)⟩
 inr:=λp D=>by
  rcases BF.mp D with z|z
  ·show F.inr p z
  ·rw[jI.mp z];show⟨G,E⟩
 re:=λp D=>by
  rcases BF.mp D with z|z
  ·show F.re p z
  ·rw[jI.mp z];show r
theorem Part.old{xs:LI}{q:Int}(F:Part many wide rows dn xs ks)(h:q∈ks):Part many wide rows dn (xs++[q]) ks where
 eq:=by rw[JC,<-F.eq];change _=eK ks q;unfold eK;rw[if_pos h]
 nd:=F.nd
 inr:=F.inr
 re:=F.re
section
def cu:aA ["machine","start","rows","reached","level","fresh","here","there"] ["machine","start"] (aq oZ):=bQ #[0]
def Y8(F:bu K "reached_rooms" "reached_rooms" oZ dV f fd)(iP:mg "list" = Y):aR P w K mg base cO 1 f fd ["machine","start"] (Oa K):=by
 show F.ok cu #[18] (λcq A j5 s H vs Q E hr h=>?_)
 ·let⟨m,r,g,many,wide,rows,signs,rfl,_⟩:=h;rfl
 let⟨m,r,g,many,wide,rows,signs,rfl,M,R,⟨n0,n1⟩,k⟩:=h;let⟨fz,AL,hA⟩:=M.rows;have hu:=ow hr;show⟨_,(ah (aB (i:=2) cu.nd #[12])
   (ah (aB (i:=3) cu.nd (HA (oB (pv 1) rl DF) rfl rfl #[3] #[9]))
   (ah (aB (i:=4) cu.nd (bS #[33]))
   (ah (oC PassesOwn.never (AX (pv 4) (λ_=>rfl)) (ah (aB (i:=5) cu.nd (bS af))
   (ah (cf PassesOwn.never rfl (cU (pv 4)) (bj (i:=6) cu.nd) (ao (cf PassesOwn.never rfl (eD (ax ay (pv 2) (pv 6) #[2])) (bj (i:=7) cu.nd) (ao (bV (Pl (EV hu (pv 7) (pv 3)) #[22]) (ah (pH hu (pv 3) (pv 7) rl rfl)
   (ao (bC (fZ Ye Yg Yh bX (pv 5) (aa (pv 7) af))))) aV)))))
   (ao (aB (i:=4) cu.nd (pv 5))))))
   (ao (aE (aS (IB rfl) #[31] iP De #[49]))))))),?_⟩
 exists 0;exists _,rfl,m,_,_,_,rfl,rfl,bg M.tup,rfl;show λD hD=>⟨_,U,ae,[(Sum.inl 0,V.bl true)],U,by change 1<=15;decide,?_⟩;rw[abU];have sD:=ak hD (HO.dK (eA [0]));show⟨_,U,#[73],λW hW=>?_⟩;have o:W≠D:=λz=>by rw[z,ae]at hW;cases hW
 have i6:H W=Y:=by rw[aj o]at hW;show hW
 exists 29;show Bw (t:=sU _ _) (λO H'=>∃(ks:LI) (W:Qp) (I G d:OV),O=[Z #[136],Z (.int 0),Z (.ref r),Z #[103],Z (.ref W),I,G,d]/\av H H'/\H' D=Z (.dK (eA ks))/\Found many wide rows ks ks) ?_ (λcI=>?_);exists 27
 ·show sd (λmm O H'=>∃(dn a:LI) (W:Qp) (I G d:OV),mm=2*(many-(dn++a).length)+a.length/\O=[Z #[136],Z (.int 0),Z (.ref r),Z #[103],Z (.ref W),I,G,d]/\av H H'/\H' D=Z (.dK (eA (dn++a)))/\W≠D/\H' W=Z (.lst (a.map V.int))/\Found many wide rows dn (dn++a))
   ⟨_,[],[0],W,Y,Y,Y,rfl,rfl,sD.trans (ak hW _),by rw[aj (Ne.symm o),ae];rfl,o,ae,?_⟩ ?_
  ·show⟨U,by simp,λq hq=>by rw[Zd]at hq;rw[jI.mp hq];lia,λq hq=>by rw[Zd]at hq;rw[jI.mp hq];show Reach.zero⟩
  rintro mm O H1 ⟨dn,a,W,I,G,d,rfl,rfl,s1,PR,o,J,L⟩;by_cases en:a=[]
  ·subst en;show⟨_,U,_,.inl ⟨_,bM J,U⟩,ox ?_⟩;rw[jh]at PR L;show cI _ _ ⟨dn,W,I,G,d,U,s1,PR,L⟩
  exists _,rfl,_,.inl ⟨_,bM J,rfl⟩;have ne:(!(a.map V.int).isEmpty)=true:=by
   cases a with
   |nil=>show absurd rfl en
   |cons x r=>rfl
  rw[ne];have kl:=cL many L.nd L.inr;have k6:1<=a.length:=by
   cases a with
   |nil=>show absurd rfl en
   |cons x r=>show Nat.succ_le_succ (jb _)
  rw[jH]at kl;show Cu ⟨λO H'=>∃m',m'<2*(many-(dn++a).length)+a.length/\∃(dn a:LI) (W:Qp) (I G d:OV),m'=2*(many-(dn++a).length)+a.length/\O=[Z #[136],Z (.int 0),Z (.ref r),Z #[103],Z (.ref W),I,G,d]/\av H H'/\H' D=Z (.dK (eA (dn++a)))/\W≠D/\H' W=Z (.lst (a.map V.int))/\Found many wide rows dn (dn++a),λO H' h=>h,?_⟩;show⟨#[15],λN hN=>?_⟩;have B:N≠D:=λz=>by rw[z,PR]at hN;cases hN
  have T:N≠W:=λz=>by rw[z,J]at hN;cases hN
  have o5:H N=Y:=s1.free hN;exists 29;show⟨_,U,W,U,⟨_,bM (by rw[aj (Ne.symm T)];show J)⟩,fW (K:=K) (xs:=a.map V.int) (λi O H'=>∃(b:LI) (G d:OV),
    O=[Z #[136],Z (.int 0),Z (.ref r),Z #[103],Z (.ref W),Z (.ref N),G,d]/\av H H'/\H' D=Z (.dK (eA (dn++a++b)))/\H' W=Z (.lst (a.map V.int))/\H' N=Z (.lst (b.map V.int))/\Found many wide rows (dn++a.take i) (dn++a++b))
   ⟨[],G,d,rfl,s1.trans (ak hN _),by rw[aj (Ne.symm B),jh];show PR,by rw[aj (Ne.symm T)];show J,ae,by rw[ZD,jh,jh];show L⟩ (λi O H' _ ⟨_,_,_,_,_,_,e,_,_⟩=>bM e) ?_ ?_⟩
  ·rintro i x O H2 hi ⟨b,G,d,rfl,s2,w5,z5,RB,F2⟩;let⟨here,rfl,n⟩:=cy hi;have l6:i<a.length:=(lH n).1;have hk:here∈dn++a++b:=JH _ (jo _ (tw n));have hh:=F2.inr here hk;have c6:=F2.re here hk;have y:here.toNat<rows.length:=by rw[R.len];lia
   let⟨ra,e1,e2⟩:=hA.get y;have lr:rows[here.toNat].length=wide:=R.row _ (jO y);show⟨_,U,_,U,r,_,_,_,U,U,bg (s2 _ _ AL),Dc hh.1 e1,ra,U,⟨_,bg (s2 _ _ e2)⟩,rR (K:=K) (xs:=rows[here.toNat].map V.int) (λj O H'=>∃(b:LI) (v:OV),
     O=[Z #[136],Z (.int 0),Z (.ref r),Z #[103],Z (.ref W),Z (.ref N),Z (.int here),v]/\av H H'/\H' D=Z (.dK (eA (dn++a++b)))/\H' W=Z (.lst (a.map V.int))/\H' N=Z (.lst (b.map V.int))/\Part many wide rows (dn++a.take i) (rows[here.toNat].take j) (dn++a++b))
    ⟨b,d,rfl,s2,w5,z5,RB,⟨F2.eq,F2.nd,F2.inr,F2.re⟩⟩ (λi O H' _ ⟨_,_,_,e,_,_,_,_⟩=>bg (e _ _ e2)) ?_ ?_⟩
   ·rintro j x O H3 hj ⟨b,v,rfl,s3,X,u,RC,C⟩;let⟨z,rfl,n⟩:=cy hj;have d6:j<rows[here.toNat].length:=(lH n).1;have d5:=R.val _ (jO y) z (tw n);have y4:=cL many C.nd C.inr;rw[jH,jH]at y4;have h6:stepI rows here (j:Int)=z:=by unfold stepI;rw[getD_at y,jG,getD_at d6];show(lH n).2
    have tk:rows[here.toNat].take (j+1)=rows[here.toNat].take j++[z]:=by rw[jS,n];rfl
    exists _,rfl,_,rfl,D,_,rfl,lG.k (k:=Sum.inl z) X,_,rfl;rw[Hw];show tu #[39] #[39]
    ·show⟨_,U,_,U,D,_,U,Ea.k (k:=Sum.inl z) X (bI (by unfold eA;rw[aW,jH,jH];lia)),?_⟩;rw[Hv c];have i5:(upd H3 D (HO.dK (eA (dn++a++b++[z])))) N=Z (.lst (b.map V.int)):=by rw[aj B];show RC
     show⟨_,U,.inl ⟨U,_,bM i5⟩,_,U,N,_,_,U,U,i5,Jo (show _<=200000 by rw[aW];lia) #[9],?_⟩;have F4:=C.put c d5.1 d5.2 (by rw[<-h6];show c6.step #[1] #[1]);show⟨b++[z],_,U,au (au s3 hD) o5,?_,?_,?_,?_⟩
     ·rw[aj (Ne.symm B),ae,jr]
     ·rw[aj (Ne.symm T),aj o];show u
     ·rw[ae,jD];rfl
     ·rw[tk,<-jr];show F4
    ·exists b,_,rfl,s3,X,u,RC;rw[tk];show C.old c
   ·rintro O H3 ⟨b,v,rfl,s3,X,u,RC,C⟩;rw[aW,jV]at C;show⟨b,_,_,U,s3,X,u,RC,⟨?_,C.nd,C.inr,C.re⟩⟩;have e9:dn++a.take (i+1)=(dn++a.take i)++[here]:=by rw[jS,n,jr];rfl
    rw[C.eq,e9,JC (l:=dn++a.take i)];change _=ik rows _ here;unfold ik;rw[getD_at y]
  ·rintro O H3 ⟨b,G,d,rfl,s3,X,u,RC,C⟩;rw[aW,jV]at C;have y4:=cL many C.nd C.inr;rw[jH,jH]at y4;show⟨_,U,_,?_,dn++a,b,N,_,_,_,U,U,s3,X,B,RC,C⟩;rw[jH,jH];lia
 rintro O H1 ⟨ks,W,I,G,d,rfl,s1,PR,L⟩;show⟨_,U,D,_,U,PR,λl hl=>?_⟩;have e:(eA ks).map (λq=>kV q.1)=ks.map V.int:=by unfold eA;rw[JQ];rfl
 rw[e];have z0:(0:Int)∈ks:=by rw[L.eq];show Bz rows ks jA
 show k l _ ks (s1.trans (ak hl _)) ae ⟨L.eq,L.nd,L.inr,λq=>⟨L.re q,λh=>?_⟩⟩;show Reach.of (S:=λq=>q∈ks) z0 (λp hp f f0 f1=>?_) h;have FI:=L.inr p hp;have y:p.toNat<rows.length:=by rw[R.len];lia
 have lr:rows[p.toNat].length=wide:=R.row _ (jO y);have hf:f.toNat<rows[p.toNat].length:=by lia
 rw[L.eq];show sZ rows ks hp ?_;unfold stepI;rw[getD_at y,getD_at hf];show jO hf
end
def sgn(signs:LI)(x:Int):Int:=signs.getD x.toNat 0
def Ej(wide:Nat)(v:LI):Prop:=∀f∈v,0<=f/\f<(wide:Int)
def Agree(rows:LL)(wide:Nat)(signs:LI)(n:Nat)(a b:Int):Prop:=∀v,Ej wide v->v.length<=n->sgn signs (bp rows v a)=sgn signs (bp rows v b)
def Agree.up{a b:Int}(X:sgn signs a=sgn signs b)(h:∀f:Nat,f<wide->Agree rows wide signs n (stepI rows a f) (stepI rows b f)):Agree rows wide signs (n+1) a b:=by
 intro v G M;cases v with
 |nil=>show X
 |cons f v=>
  have V:=G f jA;have q:=h f.toNat #[1] v (λg m=>G g (jF _ m)) (by rw[jX]at M;lia);rw[jf V.1]at q;show q
def lI(rows:LL)(wide:Nat)(signs:LI)(x y:Int):Prop:=∀n,Agree rows wide signs n x y
theorem lI.sgn(h:lI rows wide signs x y):My.sgn signs x=My.sgn signs y:=h 0 [] (λf V=>by cases V) (jE 0)
def lI.led(h:lI rows wide signs x y){f:Nat}(V:f<wide):lI rows wide signs #[151] (stepI rows y f):=λn v G M=>by
 show h (n+1) ((f:Int)::v) (λg m=>?_) (by rw[jX];lia);rcases jL.mp m with z|z
 ·rw[z];show⟨by lia,by lia⟩
 ·show G g z
def rg(c:LI)(q:Int):Int:=c.getD q.toNat 0
structure D8(many wide:Nat)(rows y3:LL):Prop where
 of:∀c∈y3,∃f:Nat,f<wide/\∀q,aw many q->rg c q=stepI rows q f
 all:∀f:Nat,f<wide->∃c∈y3,∀q,aw many q->rg c q=stepI rows q f
def D8.room(C:D8 many wide rows y3)(R:aQ many wide rows):∀x,aw many x->∀c∈y3.map rg,aw many (c x):=λx J c L=>by let⟨l,a,rfl⟩:=jK.mp L;let⟨f,V,e⟩:=C.of l a;rw[e x J];show cP R J.1 J.2 #[1] #[1]
theorem D8.aoV(C:D8 many wide rows y3)(R:aQ many wide rows):ai3 many #[183] #[162] (λx y=>aw many x/\aw many y/\lI rows wide signs x y) where
 sgn:=λx y h=>h.2.2.sgn
 led:=λx y h c L=>by have G:=C.room R x h.1 c L;have M:=C.room R y h.2.1 c L;exists G,M;let⟨l,a,rfl⟩:=jK.mp L;let⟨f,V,e⟩:=C.of l a;rw[e x h.1,e y h.2.1];show h.2.2.led V
theorem aaZ{W:Int->Prop}(C:D8 many wide rows y3)(R:aQ many wide rows)(h:Hop many #[183] #[162] (λx y=>aw many x/\aw many y/\lI rows wide signs x y) o4 W)(st:∀x y,aw many x->aw many y->o4 x=o4 y->∀c∈y3.map rg,o4 (c x)=o4 (c y))(J:aw many x)(G:aw many y):
  o4 x=o4 y↔lI rows wide signs x y:=by
 show⟨λe n=>?_,λa=>h.coarse x y J G ⟨J,G,a⟩⟩
 induction n generalizing x y with
 |zero=>
  intro v _ M;have:v=[]:=List.eq_nil_of_length_eq_zero #[1];rw[this];show h.signs x y J G e
 |succ n K=>
  show Agree.up (h.signs x y J G e) λf V=>?_;let⟨c,L,P⟩:=C.all f V;have N:rg c∈y3.map rg:=jK.mpr ⟨c,L,rfl⟩;have q:=st x y J G e _ N;rw[P x J,P y G]at q;show K (cP R J.1 J.2 #[1] #[1]) (cP R G.1 G.2 #[1] #[1]) q
def bO:Nat->LI->Option Nat
 |m,[]=>Z m
 |m,t::r=>if t=(m:Int)then bO (m+1) r else if t<(m:Int)then bO m r else Y
def cD:Nat->Nat->LL->Option Nat
 |_,m,[]=>Z m
 |q,m,r::rs=>if q<m then(bO m r).bind λm'=>cD (q+1) m' rs else Y
def pF(rows:LL):Prop:=cD 0 1 rows=Z rows.length
def Tells(wide:Nat)(rows az:LL)(signs aI:LI)(a b:Int):Prop:=∀v,Ej wide v->sgn signs (bp rows v a)=sgn aI (bp az v b)
def Apart(wide:Nat)(rows:LL)(signs:LI):Prop:=∀a b,aw rows.length a->aw rows.length b->lI rows wide signs a b->a=b
section
def Tells.led{a b:Int}(h:Tells wide rows az signs aI a b){f:Nat}(V:f<wide):Tells wide rows az signs aI (stepI rows a f) (stepI az b f):=λv N=>
 h ((f:Int)::v) λg m=>by
  rcases jL.mp m with z|z
  ·rw[z];show⟨by lia,by lia⟩
  ·show N g z
def Tells.left{a b:Int}(h:Tells wide rows az signs aI a c)(h':Tells wide rows az signs aI b c):lI rows wide signs a b:=λn v N _=>(h v N).trans (h' v N).symm
def Tells.right{a b:Int}(h:Tells wide rows az signs aI c a)(h':Tells wide rows az signs aI c b):lI az wide aI a b:=λn v N _=>(h v N).symm.trans (h' v N)
theorem Li(A:Apart wide rows signs)(n:Apart wide az aI):∀{r F:LI} {m m1 O:Nat},r.length=F.length->(∀i:Nat,i<m->Tells wide rows az signs aI i i)->(m<=rows.length/\m<=az.length)->
  (∀(j:Nat) (t t':Int),r[j]?=Z t->F[j]?=Z t'->aw rows.length t/\aw az.length t'/\Tells wide rows az signs aI t t')->bO m r=Z m1->bO m F=Z O ->
  r=F/\m1=O/\(∀i:Nat,i<m1->Tells wide rows az signs aI i i)/\m1<=rows.length/\m1<=az.length
 |[],[],m,m1,O,_,o,N,_,G,M=>by cases G;cases M;show⟨U,U,o,N.1,N.2⟩
 |[],t'::F,_,_,_,C,_,_,_,_,_=>by cases C
 |t::r,[],_,_,_,C,_,_,_,_,_=>by cases C
 |t::r,t'::F,m,m1,O,C,o,N,v,G,M=>by
  let⟨p,f,l⟩:=v 0 t t' rfl rfl;have h:r.length=F.length:=Nat.succ.inj C;have q:∀(j:Nat) (u S:Int),r[j]?=Z u->F[j]?=Z S->aw rows.length u/\aw az.length S/\Tells wide rows az signs aI u S:=λj u S a b=>v (j+1) u S a b;have low:∀{x:Int},0<=x->x<(m:Int)->∃i:Nat,i<m/\x=(i:Int):=λX G=>⟨_,by lia,(jf X).symm⟩;have k:#[48]=Z m1:=G;have D:(if t'=(m:Int)then bO (m+1) F else if t'<(m:Int)then bO m F else Y)=Z O:=M;by_cases c:t=(m:Int)
  ·by_cases P:t'=(m:Int)
   ·rw[if_pos c]at k;rw[if_pos P]at D;have s:∀i:Nat,i<m+1->Tells wide rows az signs aI i i:=λi W=>by
     rcases Jb i m with z|z
     ·show o i z
     ·have:i=m:=by lia
      rw[this,<-c];rw[P]at l;rw[c];rw[c]at l;show l
    let⟨T,g⟩:=Li A n h s ⟨by have:=p.2;lia,by have:=f.2;lia⟩ q k D;show⟨by rw[c,P,T],g⟩
   ·rw[if_neg P]at D;by_cases d:t'<(m:Int)
    ·let⟨i,W,rfl⟩:=low f.1 d;have:=A t (i:Int) p ⟨by lia,by lia⟩ (l.left (o i W));lia
    ·rw[if_neg d]at D;cases D
  ·rw[if_neg c]at k;by_cases d:t<(m:Int)
   ·rw[if_pos d]at k;let⟨i,W,rfl⟩:=low p.1 d;have e:=n t' (i:Int) f ⟨by lia,by lia⟩ (l.right (o i W));subst e;rw[if_neg #[1],if_pos d]at D;let⟨T,g⟩:=Li A n h o N q k D;show⟨by rw[T],g⟩
   ·rw[if_neg d]at k;cases k
theorem N6(A:Apart wide rows signs)(n:Apart wide az aI)(R:aQ rows.length wide rows)(v:aQ az.length wide az):∀{rs rs':LL} {q m:Nat},rs=rows.drop q->rs'=az.drop q->q<=rows.length->q<=az.length ->
  (∀i:Nat,i<m->Tells wide rows az signs aI i i)->(m<=rows.length/\m<=az.length)->cD q m rs=Z rows.length->cD q m rs'=Z az.length->rs=rs'/\rows.length=az.length/\∀i:Nat,i<rows.length->Tells wide rows az signs aI i i
 |[],[],q,m,_,_,_,_,o,_,G,M=>by have T:m=rows.length:=Option.some.inj G;have g:m=az.length:=Option.some.inj M;show⟨U,T.symm.trans g,λi O=>o i #[1]⟩
 |[],F::rs',q,m,e,_,l,_,_,_,G,M=>by have T:m=rows.length:=Option.some.inj G;have C:rows.length<=q:=Jt.mp e.symm;have D:(if q<m then(bO m F).bind λL=>cD (q+1) L rs' else Y)=Z az.length:=M;rw[if_neg #[1]]at D;cases D
 |r::rs,[],q,m,_,e,_,l,_,_,G,M=>by have T:m=az.length:=Option.some.inj M;have C:az.length<=q:=Jt.mp e.symm;have k:(if q<m then(bO m r).bind λL=>cD (q+1) L rs else Y)=Z rows.length:=G;rw[if_neg #[1]]at k;cases k
 |r::rs,F::rs',q,m,e,E,l,P,o,N,G,M=>by
  have k:(if q<m then(bO m r).bind λL=>cD (q+1) L rs else Y)=Z rows.length:=G;have D:(if q<m then(bO m F).bind λL=>cD (q+1) L rs' else Y)=Z az.length:=M;by_cases c:q<m
  ·rw[if_pos c]at k D;have u:q<rows.length:=by lia
   have X:q<az.length:=by lia
   have d1:=JB u;have d2:=JB X;rw[d1]at e;rw[d2]at E;injection e with B I;injection E with d h;cases f:bO m r with
   |none=>rw[f]at k;cases k
   |some m1=>
    cases z:bO m F with
    |none=>rw[z]at D;cases D
    |some V=>
     rw[f]at k;rw[z]at D;have S:=R.row _ (jO u);have p:=v.row _ (jO X);have J:∀(j:Nat) (t W:Int),r[j]?=Z t->F[j]?=Z W->aw rows.length t/\aw az.length W/\Tells wide rows az signs aI t W:=λj t W a b=>by
      rw[B]at a;rw[d]at b;have ja:=(lH a).1;have w:j<wide:=by lia
      have s1:stepI rows (q:Int) (j:Int)=t:=by unfold stepI;rw[jG,jG,getD_at u,jQ,a];rfl
      have s2:stepI az (q:Int) (j:Int)=W:=by unfold stepI;rw[jG,jG,getD_at X,jQ,b];rfl
      exists R.val _ (jO u) t (tw a),v.val _ (jO X) W (tw b);have:=(o q c).led w;rw[s1,s2]at this;show this
     let⟨T,g,s,x,y⟩:=Li A n (by rw[B,d,S,p]) o N J f z;subst g;let⟨H,Q,K⟩:=N6 A n R v I h u X s ⟨x,y⟩ k D;show⟨by rw[T,H],Q,K⟩
  ·rw[if_neg c]at k;cases k
def U2(A:Apart wide rows signs)(n:Apart wide az aI)(R:aQ rows.length wide rows)(v:aQ az.length wide az)(u:0<rows.length)(x:0<az.length)(O:pF rows)(d:pF az)(ls:signs.length=rows.length)(a:aI.length=az.length)(h:Tells wide rows az signs aI 0 0):rows=az/\signs=aI:=by
 let⟨e,b,o⟩:=N6 A n R v (rs:=rows) (rs':=az) (q:=0) (m:=1) rfl rfl (jb _) (jb _) (λi W=>by
  have:i=0:=by lia
  rw[this];show h) ⟨u,x⟩ O d
 show⟨e,zh #[1] λi G M=>?_⟩;have q:=o i #[1] [] (λf V=>by cases V);unfold sgn at q;have D:signs.getD ((i:Int)).toNat 0=aI.getD ((i:Int)).toNat 0:=q;rw[jG,getD_at G,getD_at M]at D;show D
end
def bx(φ:Int->Int):Nat->Nat
 |0=>0
 |m+1=>if φ (m:Int)=(bx φ m:Int)then bx φ m+1 else bx φ m
def cx(φ:Int->Int)(n:Nat):List Nat:=(jg n).filter λq=>decide (φ (q:Int)=(bx φ q:Int))
def lJ(φ:Int->Int)(n:Nat):Prop:=∀q:Nat,q<n->0<=φ (q:Int)/\φ (q:Int)<=(bx φ q:Int)
section
def MI:∀{a b:Nat},a<=b->bx φ a<=bx φ b:=by
 intro a b h
 induction h with
 |refl=>show jE _
 | @step m _ K=>
  have e:bx φ (m+1)=if φ (m:Int)=(bx φ m:Int)then bx φ m+1 else bx φ m:=rfl
  show jc K ?_;rw[e];by_cases c:φ (m:Int)=(bx φ m:Int)
  ·rw[if_pos c];show JV _
  ·rw[if_neg c];show jE _
def lJ.lt(h:lJ φ n){m:Nat}(p:t<m)(N:m<=n):φ (t:Int)<(bx φ m:Int):=by
 have G:=(h t #[1]).2;have M:=MI (φ:=φ) (show t+1<=m from p);have B:bx φ (t+1)=if φ (t:Int)=(bx φ t:Int)then bx φ t+1 else bx φ t:=rfl
 by_cases c:φ (t:Int)=(bx φ t:Int)
 ·rw[if_pos c]at B;lia
 ·rw[if_neg c]at B;lia
theorem rj(φ:Int->Int):∀n,(cx φ n).length=bx φ n
 |0=>rfl
 |n+1=>by
  have K:=rj φ n;unfold cx at K ⊢;rw[JN,JX,jH,K];change _=if φ (n:Int)=(bx φ n:Int)then bx φ n+1 else bx φ n
  by_cases c:φ (n:Int)=(bx φ n:Int)
  ·rw[if_pos c,JL (by show decide_eq_true c)];rfl
  ·rw[if_neg c,JG (by rw[decide_eq_false c];decide)];rfl
theorem Po(F:lJ φ n):∀{r:LI} {m m1:Nat},m<=n->(∀t∈r,aw n t)->bO m r=Z m1->bO (bx φ m) (r.map φ)=Z (bx φ m1)/\m1<=n/\(∀t∈r,t<(m1:Int))/\m<=m1
 |[],m,m1,N,_,h=>by cases h;show⟨U,N,λt p=>(by cases p),jE _⟩
 |t::r,m,m1,N,S,h=>by
  have p:=S t jA;have a:∀u∈r,aw n u:=λu C=>S u (jF _ C);have O:#[48]=Z m1:=h;change(if φ t=(bx φ m:Int)then bO (bx φ m+1) (r.map φ)else if φ t<(bx φ m:Int)then bO (bx φ m) (r.map φ)else Y)=_/\_;by_cases c:t=(m:Int)
  ·rw[if_pos c]at O;have M:m<n:=by have:=p.2;lia
   let⟨T,g,l,b⟩:=Po F (show m+1<=n from M) a O;have i:∀u∈t::r,u<(m1:Int):=λu C=>by
    rcases jL.mp C with z|z
    ·rw[z,c];lia
    ·show l u z
   have I:bx φ (m+1)=if φ (m:Int)=(bx φ m:Int)then bx φ m+1 else bx φ m:=rfl
   rw[c];by_cases d:φ (m:Int)=(bx φ m:Int)
   ·rw[if_pos d];rw[if_pos d]at I;rw[I]at T;rw[c]at i;show⟨T,g,i,by lia⟩
   ·rw[if_neg d]at I;rw[if_neg d,if_pos (by have:=(F m M).2;lia)];rw[I]at T;rw[c]at i;show⟨T,g,i,by lia⟩
  ·rw[if_neg c]at O;by_cases d:t<(m:Int)
   ·rw[if_pos d]at O;let⟨T,g,l,b⟩:=Po F N a O;have lt:φ t<(bx φ m:Int):=by have:=F.lt (t:=t.toNat) (m:=m) (by have:=p.1;lia) N;rw[jf p.1]at this;show this
    rw[if_neg #[1],if_pos lt];show⟨T,g,λu C=>?_,b⟩;rcases jL.mp C with z|z
    ·rw[z];lia
    ·show l u z
   ·rw[if_neg d]at O;cases O
theorem Pn(F:lJ φ n):∀{r:LI} {m m1:Nat},m<=n->(∀t∈r,aw n t/\φ t<(bx φ m:Int))->bO m r=Z m1->bx φ m1=bx φ m/\m1<=n/\(∀t∈r,t<(m1:Int))/\m<=m1
 |[],m,m1,N,_,h=>by cases h;show⟨U,N,λt p=>(by cases p),jE _⟩
 |t::r,m,m1,N,S,h=>by
  have p:=S t jA;have O:#[48]=Z m1:=h;by_cases c:t=(m:Int)
  ·rw[if_pos c]at O;have M:m<n:=by have:=p.1.2;lia
   have I:bx φ (m+1)=bx φ m:=by change(if φ (m:Int)=(bx φ m:Int)then bx φ m+1 else bx φ m)=_;rw[if_neg (by have:=p.2;rw[c]at this;lia)]
   let⟨T,g,l,a⟩:=Pn F (show m+1<=n from M) (λu C=>by rw[I];show S u (jF _ C)) O;show⟨T.trans I,g,λu C=>?_,by lia⟩;rcases jL.mp C with z|z
   ·rw[z,c];lia
   ·show l u z
  ·rw[if_neg c]at O;by_cases d:t<(m:Int)
   ·rw[if_pos d]at O;let⟨T,g,l,a⟩:=Pn F N (λu C=>S u (jF _ C)) O;show⟨T,g,λu C=>?_,a⟩;rcases jL.mp C with z|z
    ·rw[z];lia
    ·show l u z
   ·rw[if_neg d]at O;cases O
def eU(φ:Int->Int)(rows:LL):Nat->LL->LL
 |_,[]=>[]
 |q,r::rs=>if φ (q:Int)=(bx φ q:Int)then r.map φ::eU φ rows (q+1) rs else eU φ rows (q+1) rs
theorem Lh(F:lJ φ rows.length)(R:aQ rows.length wide rows)(s:∀x y:Nat,x<rows.length->y<rows.length->φ (x:Int)=φ (y:Int)->∀f:Nat,f<wide->φ #[151]=φ (stepI rows y f)):
  ∀{rs:LL} {q m k:Nat},rs=rows.drop q->q<=rows.length->m<=rows.length->(∀x:Nat,x<q->∀f:Nat,f<wide->stepI rows x f<(m:Int))->cD q m rs=Z k->cD (bx φ q) (bx φ m) (eU φ rows q rs)=Z (bx φ k)
 |[],q,m,k,_,_,_,_,h=>by cases h;rfl
 |r::rs,q,m,k,e,hq,N,old,h=>by
  have O:(if q<m then(bO m r).bind λL=>cD (q+1) L rs else Y)=Z k:=h;by_cases c:q<m
  ·rw[if_pos c]at O;have u:q<rows.length:=by lia
   rw[JB u]at e;injection e with B I;cases a:bO m r with
   |none=>rw[a]at O;cases O
   |some m1=>
    rw[a]at O;have hr:=R.row _ (jO u);have n:∀t∈r,aw rows.length t:=λt p=>R.val _ (jO u) t (B▸p);have X:∀f:Nat,f<wide->stepI rows (q:Int) (f:Int)∈r:=λf V=>by
     have H:f<rows[q].length:=by lia
     have:stepI rows (q:Int) (f:Int)=rows[q][f]:=by unfold stepI;rw[jG,jG,getD_at u,getD_at H]
     rw[this,B];show jO H
    have w:bx φ (q+1)=if φ (q:Int)=(bx φ q:Int)then bx φ q+1 else bx φ q:=rfl
    have A:∀m1:Nat,(∀t∈r,t<(m1:Int))->m<=m1->∀x:Nat,x<q+1->∀f:Nat,f<wide->stepI rows x f<(m1:Int):=λm1 l i x J f V=>by
     rcases Jb x q with z|z
     ·have:=old x z f V;lia
     ·have:x=q:=by lia
      rw[this];show l _ (X f V)
    by_cases d:φ (q:Int)=(bx φ q:Int)
    ·let⟨T,j,l,i⟩:=Po F N n a;have K:=Lh F R s I u j (A m1 l i) O;rw[w,if_pos d]at K;have lt:bx φ q<bx φ m:=by have:=F.lt c N;lia
     change cD _ _ (if φ (q:Int)=(bx φ q:Int)then _ else _)=_;rw[if_pos d];change(if bx φ q<bx φ m then(bO (bx φ m) (r.map φ)).bind λL=>cD (bx φ q+1) L (eU φ rows (q+1) rs)else Y)=_;rw[if_pos lt,T];show K
    ·-- room q is ayJ an aqi one
     have G:φ (q:Int)<(bx φ q:Int):=by have:=(F q u).2;lia
     obtain⟨x,J,M⟩:∃x:Nat,x<q/\φ (x:Int)=φ (q:Int):=by
      have:∀(b:Nat) (g:Int),0<=g->g<(bx φ b:Int)->∃x:Nat,x<b/\φ (x:Int)=g:=by
       intro b
       induction b with
       |zero=>intro g g0 v;show absurd v (by change ¬ g<((0:Nat):Int);lia)
       |succ b K=>
        intro g g0 v;have C:bx φ (b+1)=if φ (b:Int)=(bx φ b:Int)then bx φ b+1 else bx φ b:=rfl
        by_cases z:g<(bx φ b:Int)
        ·let⟨x,h1,P⟩:=K g g0 z;show⟨x,by lia,P⟩
        ·by_cases y:φ (b:Int)=(bx φ b:Int)
         ·rw[C,if_pos y]at v;show⟨b,JP b,by lia⟩
         ·rw[C,if_neg y]at v;show absurd v z
      show this q _ (F q u).1 G
     have D:∀t∈r,aw rows.length t/\φ t<(bx φ m:Int):=λt p=>by
      exists n t p;let⟨f,V,Q⟩:=ji (B▸p);have W:f<wide:=by lia
      have st:stepI rows (q:Int) (f:Int)=t:=by unfold stepI;rw[jG,jG,getD_at u,getD_at V,Q]
      have E:=s x q #[1] u M f W;rw[st]at E;rw[<-E];have o:=old x J f W;have S:=cP R (show(0:Int)<=(x:Int) by lia) #[1] (show(0:Int)<=(f:Int) by lia) #[1];have:=F.lt (t:=#[151].toNat) (m:=m) #[1] N;rw[jf S.1]at this;show this
     let⟨T,j,l,i⟩:=Pn F N D a;have K:=Lh F R s I u j (A m1 l i) O;rw[w,if_neg d,T]at K;change cD _ _ (if φ (q:Int)=(bx φ q:Int)then _ else _)=_;rw[if_neg d];show K
  ·rw[if_neg c]at O;cases O
end
abbrev dd(s:LI)(v:Int):LI:=ye s v
def sX{v:Int}(h:v∈s):dd s v=s:=by unfold dd ye;simp[h]
def mG{v:Int}(h:v∉s):dd s v=s++[v]:=by unfold dd ye;simp[h]
theorem EB:∀(ys s:LI),∃zs,ys.foldl dd s=s++zs
 |[],s=>⟨[],by simp⟩
 |y::ys,s=>by
  by_cases c:y∈s
  ·let⟨zs,e⟩:=EB ys s;show⟨zs,by rw[JO,sX c,e]⟩
  ·let⟨zs,e⟩:=EB ys (s++[y]);show⟨y::zs,by rw[JO,mG c,e,jr];rfl⟩
def Si(gs:LI)(m:Nat):∃zs,bU gs=bU #[167]++zs:=by let⟨zs,e⟩:=EB (gs.drop m) (bU #[167]);exists zs;rw[<-e];change gs.foldl dd []=(gs.drop m).foldl dd (#[167].foldl dd []);rw[<-JC,zj]
def pS{m:Nat}{g:Int}(h:gs[m]?=Z g):bU (gs.take (m+1))=dd (bU #[167]) g:=by unfold bU;rw[jS,h,JC];rfl
def sA(gs:LI)(q:Int):Int:=((bU gs).idxOf (gs.getD q.toNat 0):Nat)
def ahK{xs zs:LI}{g:Int}(h:g∈xs):(xs++zs).idxOf g=xs.idxOf g:=by rw[zY,if_pos h]
def HC{m:Nat}{g:Int}(h:gs[m]?=Z g)(O:g∈bU #[167]):sA gs (m:Int)=((bU #[167]).idxOf g:Nat):=by let⟨zs,e⟩:=Si gs m;unfold sA;rw[jG,jQ,h,e];change(((bU #[167]++zs).idxOf g:Nat):Int)=_;rw[ahK O]
def HB{m:Nat}{g:Int}(h:gs[m]?=Z g)(O:g∉bU #[167]):sA gs (m:Int)=((bU #[167]).length:Nat):=by let⟨zs,e⟩:=Si gs (m+1);rw[pS h,mG O]at e;unfold sA;rw[jG,jQ,h,e,jr];change(((bU #[167]++([g]++zs)).idxOf g:Nat):Int)=_;rw[zY,if_neg O];simp
theorem OU(gs:LI):∀{m:Nat},m<=gs.length->bx (sA gs) m=(bU #[167]).length
 |0,_=>rfl
 |m+1,h=>by
  have K:=OU gs (m:=m) #[1];have a:gs[m]?=Z gs[m]:=jC #[1];change(if sA gs (m:Int)=(bx (sA gs) m:Int)then bx (sA gs) m+1 else bx (sA gs) m)=_;rw[K,pS a];by_cases c:gs[m]∈bU #[167]
  ·have e:=HC a c;have lt:=jx c;rw[sX c,if_neg #[1]]
  ·have e:=HB a c;rw[mG c,if_pos e,jH];rfl
def acx(gs:LI):lJ (sA gs) gs.length:=λq l=>by
 have m:gs[q]?=Z gs[q]:=jC l;rw[OU gs #[1]];by_cases c:gs[q]∈bU (gs.take q)
 ·have e:=HC m c;have lt:=jx c;lia
 ·have e:=HB m c;lia
def afK(J:aw gs.length x)(G:aw gs.length y):sA gs x=sA gs y↔gs.getD x.toNat 0=gs.getD y.toNat 0:=by
 have mem:∀{z:Int},aw gs.length z->gs.getD z.toNat 0∈bU gs:=λ{z} S=>by
  have l:z.toNat<gs.length:=by have:=S.1;have:=S.2;lia
  rw[getD_at l];show Dx.mpr (jO l)
 unfold sA;constructor
 ·intro h;have O:(bU gs).idxOf (gs.getD x.toNat 0)=(bU gs).idxOf (gs.getD y.toNat 0):=by lia
  have o:=jx (mem J);have A:=jx (mem G);have M:(bU gs)[(bU gs).idxOf (gs.getD x.toNat 0)]=gs.getD x.toNat 0:=zH o;have N:(bU gs)[(bU gs).idxOf (gs.getD y.toNat 0)]=gs.getD y.toNat 0:=zH A;rw[<-M,<-N];congr 1
 ·intro h;rw[h]
theorem AI:∀{b:Nat} {g:Int},0<=g->g<(bx φ b:Int)->∃x:Nat,x<b/\φ (x:Int)=g/\(bx φ x:Int)=g
 |0,g,g0,v=>absurd v (by change ¬ g<((0:Nat):Int);lia)
 |b+1,g,g0,v=>by
  have n:bx φ (b+1)=if φ (b:Int)=(bx φ b:Int)then bx φ b+1 else bx φ b:=rfl
  by_cases z:g<(bx φ b:Int)
  ·let⟨x,G,M,f⟩:=AI g0 z;show⟨x,by lia,M,f⟩
  ·by_cases y:φ (b:Int)=(bx φ b:Int)
   ·rw[n,if_pos y]at v;show⟨b,JP b,by lia,by lia⟩
   ·rw[n,if_neg y]at v;show absurd v z
theorem EC:∀{n q:Nat},q<n->φ (q:Int)=(bx φ q:Int)->(cx φ n)[bx φ q]?=Z q
 |0,q,h,_=>absurd h (zF _)
 |n+1,q,h,e=>by
  have l:=rj φ n;unfold cx at l ⊢;rw[JN,JX];rcases Jb q n with z|z
  ·have K:=EC z e;unfold cx at K;rw[JA (lH K).1];show K
  ·have:q=n:=by lia
   subst this;rw[JD #[1],l,zO,JL (by show decide_eq_true e)];rfl
theorem Lg{φ:Int->Int}:∀{rs:LL} {q:Nat},rs=rows.drop q->q<=rows.length->eU φ rows q rs=((List.range' q (rows.length-q)).filter λi:Nat=>decide (φ (i:Int)=(bx φ i:Int))).map λi=>(rows.getD i []).map φ
 |[],q,e,l=>by have C:rows.length<=q:=Jt.mp e.symm;rw[show rows.length-q=0 from by lia];rfl
 |r::rs,q,e,l=>by
  have u:q<rows.length:=by
   rcases Jb q rows.length with z|z
   ·show z
   ·rw[zJ z]at e;cases e
  rw[JB u]at e;injection e with B I;have K:=Lg (φ:=φ) I u;rw[show rows.length-q=(rows.length-(q+1))+1 from by lia,List.range'_succ];change(if φ (q:Int)=(bx φ q:Int)then r.map φ::eU φ rows (q+1) rs else eU φ rows (q+1) rs)=_;by_cases c:φ (q:Int)=(bx φ q:Int)
  ·rw[if_pos c,K,JL (by show decide_eq_true c),jt,getD_at u,B]
  ·rw[if_neg c,K,JG (by rw[decide_eq_false c];decide)]
def DH:eU φ rows 0 rows=(cx φ rows.length).map λi=>(rows.getD i []).map φ:=by have h:=Lg (φ:=φ) (rows:=rows) (rs:=rows) (q:=0) rfl (jb _);rw[h];unfold cx;rw[List.range_eq_range',QC]
structure dj(wide:Nat)(rows az:LL)(signs aI:LI):Prop where
 ok:aQ az.length wide az
 pos:0<az.length
 sgn:aI.length=az.length
 ord:pF az
 apart:Apart wide az aI
 tells:Tells wide rows az signs aI 0 0
section
def af0(F:lJ φ rows.length)(R:aQ rows.length wide rows)(s:∀x y:Nat,x<rows.length->y<rows.length->φ (x:Int)=φ (y:Int)->∀f:Nat,f<wide->φ #[151]=φ (stepI rows y f)){q:Int}(l:aw rows.length q){f:Nat}(V:f<wide):
  stepI #[142] (φ q) f=φ (stepI rows q f):=by
 let⟨n,rfl⟩:=fu l.1;have L:n<rows.length:=by have:=l.2;lia
 have lt:=F.lt L (jE _);let⟨x,J,T,g⟩:=AI (F n L).1 lt;have o:=EC J (T.trans g.symm);have d:(rows[x]).length=wide:=R.row _ (jO J);have a:#[142].getD (φ (n:Int)).toNat []=(rows[x]).map φ:=by rw[DH,<-g,jG,jQ,jR,o];change(rows.getD x []).map φ=_;rw[getD_at J]
 have b:stepI rows (x:Int) (f:Int)=(rows[x])[f]'#[1]:=by unfold stepI;rw[jG,jG,getD_at J,getD_at #[1]]
 rw[<-s x n J L T f V,b];unfold stepI;rw[a,jG,jQ,jR,jC #[1]];rfl
theorem Sw(F:lJ φ rows.length)(R:aQ rows.length wide rows)(s:∀x y:Nat,x<rows.length->y<rows.length->φ (x:Int)=φ (y:Int)->∀f:Nat,f<wide->φ #[151]=φ (stepI rows y f)):∀{v:LI} {q:Int},Ej wide v->aw rows.length q->bp #[142] v (φ q)=φ (bp rows v q)
 |[],q,_,_=>rfl
 |f::v,q,N,l=>by have V:=N f jA;let⟨m,rfl⟩:=fu V.1;change bp _ v (stepI _ (φ q) (m:Int))=φ (bp rows v (stepI rows q (m:Int)));rw[af0 F R s l #[1]];show Sw F R s (λg a=>N g (jF _ a)) (cP R l.1 l.2 V.1 V.2)
def aeW(F:lJ φ rows.length)(R:aQ rows.length wide rows)(O:pF rows)(u:0<rows.length)(w:∀x y:Nat,x<rows.length->y<rows.length->(φ (x:Int)=φ (y:Int)↔lI rows wide signs x y)):
  dj wide rows #[142] signs ((cx φ rows.length).map λq=>signs.getD q 0):=by
 have s:∀x y:Nat,x<rows.length->y<rows.length->φ (x:Int)=φ (y:Int)->∀f:Nat,f<wide->φ #[151]=φ (stepI rows y f):=λx y J G e f V=>by have a:=((w x y J G).mp e).led V;have D:=cP R (show(0:Int)<=(x:Int) by lia) #[1] (show(0:Int)<=(f:Int) by lia) #[1];have c:=cP R (show(0:Int)<=(y:Int) by lia) #[1] (show(0:Int)<=(f:Int) by lia) #[1];have h:=(w #[151].toNat (stepI rows y f).toNat #[1] #[1]).mpr (by rw[jf D.1,jf c.1];show a);rw[jf D.1,jf c.1]at h;show h
 have j:#[142].length=bx φ rows.length:=by rw[DH,aW,rj]
 have A:φ ((0:Nat):Int)=((0:Nat):Int):=by have h:=F 0 u;have e:bx φ 0=0:=rfl;rw[e]at h;lia
 have d:bx φ 1=1:=by change(if φ ((0:Nat):Int)=((bx φ 0:Nat):Int)then bx φ 0+1 else bx φ 0)=1;rw[if_pos (by rw[A];rfl)];rfl
 have K:0<bx φ rows.length:=by have:=MI (φ:=φ) (show 1<=rows.length from u);lia
 have sg:∀{q:Int},aw rows.length q->sgn ((cx φ rows.length).map λq=>signs.getD q 0) (φ q)=sgn signs q:=λ{q} l=>by
  let⟨n,rfl⟩:=fu l.1;have L:n<rows.length:=by have:=l.2;lia
  let⟨x,J,T,g⟩:=AI (F n L).1 (F.lt L (jE _));have o:=EC J (T.trans g.symm);have a:=((w x n J L).mp T).sgn;rw[<-a];unfold sgn;rw[<-g,jG,jG,jQ,jR,o];rfl
 have P:∀{q:Int},aw rows.length q->Tells wide rows #[142] signs ((cx φ rows.length).map λq=>signs.getD q 0) q (φ q):=λ{q} l v N=>by rw[Sw F R s N l,sg (oG R N l.1 l.2)]
 show⟨⟨U,λr S=>?_,λr S v N=>?_⟩,by lia,by rw[aW,rj,j],?_,λa b W B E=>?_,?_⟩
 ·rw[DH]at S;let⟨x,J,rfl⟩:=jK.mp S;have i:=js.mp (jv.mp J).1;rw[aW,getD_at i];show R.row _ (jO i)
 ·rw[DH]at S;let⟨x,J,rfl⟩:=jK.mp S;have i:=js.mp (jv.mp J).1;let⟨t,p,rfl⟩:=jK.mp N;rw[getD_at i]at p;have C:=R.val _ (jO i) t p;let⟨n,rfl⟩:=fu C.1;have L:n<rows.length:=by lia
  have H:=(F n L).1;have M:=F.lt L (jE _);rw[j];show⟨H,M⟩
 ·have h:=Lh F R s (rs:=rows) (q:=0) (m:=1) (k:=rows.length) rfl (jb _) u (λx J=>absurd J (zF _)) O;rw[d]at h;change cD 0 1 _=Z _;rw[j];show h
 ·rw[j]at W B;let⟨x,J,T,_⟩:=AI W.1 W.2;let⟨y,G,g,_⟩:=AI B.1 B.2;rw[<-T,<-g];show(w x y J G).mpr λn v N I=>?_;rw[P (q:=(x:Int)) ⟨by lia,by lia⟩ v N,P (q:=(y:Int)) ⟨by lia,by lia⟩ v N,T,g];show E n v N I
 ·have h:=P (q:=0) ⟨by lia,by lia⟩;have z:φ 0=0:=A;rw[z]at h;show h
end
theorem BJ:∀(r s:LI),∃zs,r.foldl eK s=s++zs
 |[],s=>⟨[],by simp⟩
 |t::r,s=>by
  by_cases c:t∈s
  ·let⟨zs,e⟩:=BJ r s;show⟨zs,by rw[JO,show eK s t=s from if_pos c,e]⟩
  ·let⟨zs,e⟩:=BJ r (s++[t]);show⟨t::zs,by rw[JO,show eK s t=s++[t]from if_neg c,e,jr];rfl⟩
theorem Dh(rows:LL):∀(qs s:LI),∃zs,qs.foldl #[181] s=s++zs
 |[],s=>⟨[],by simp⟩
 |q::qs,s=>by let⟨n,T⟩:=BJ #[62] s;let⟨S,g⟩:=Dh rows qs (ik rows s q);exists n++S;rw[JO,g];change#[62].foldl eK s++S=_;rw[T,jr]
def sM(qs:LI)(q:Int):Int:=((qs.idxOf q:Nat):Int)
theorem N7:∀{r s zs:LI},qs=r.foldl eK s++zs->bO s.length (r.map (sM qs))=Z (r.foldl eK s).length
 |[],s,zs,_=>rfl
 |t::r,s,zs,e=>by
  have E:qs=r.foldl eK (eK s t)++zs:=e;let⟨M,N⟩:=BJ r (eK s t);have K:=N7 E;change(if sM qs t=(s.length:Int)then bO (s.length+1) (r.map (sM qs))else if sM qs t<(s.length:Int)then bO s.length (r.map (sM qs))else Y)=Z (r.foldl eK (eK s t)).length;by_cases c:t∈s
  ·have T:eK s t=s:=if_pos c;rw[T]at K E N ⊢;have y:qs.idxOf t=s.idxOf t:=by rw[E,N,jr,zY,if_pos c]
   have lt:=jx c;have B:sM qs t=((s.idxOf t:Nat):Int):=by unfold sM;rw[y]
   rw[if_neg #[1],if_pos #[1]];show K
  ·have T:eK s t=s++[t]:=if_neg c;rw[T]at K E N ⊢;have y:qs.idxOf t=s.length:=by rw[E,N,jr,jr,zY,if_neg c];simp
   have B:sM qs t=(s.length:Int):=by unfold sM;rw[y]
   rw[if_pos B];rw[jH,je]at K;show K
section
theorem Lu(R:aQ many wide rows)(a:0<many)(eq:qs=qs.foldl #[181] [0])(o:qs.Nodup)(n:∀q∈qs,∃I,Ej wide I/\bp rows I 0=q):
  ∀{ps:LI} {k:Nat},ps=qs.drop k->k<=qs.length->cD k ((qs.take k).foldl #[181] [0]).length (ps.map λq=>#[62].map (sM qs))=Z qs.length
 |[],k,e,b=>by have C:qs.length<=k:=Jt.mp e.symm;change Z _=Z _;rw[zb C,<-eq]
 |p::ps,k,e,b=>by
  have u:k<qs.length:=by
   rcases Jb k qs.length with z|z
   ·show z
   ·rw[zJ z]at e;cases e
  have d:=e;rw[JB u]at e;injection e with T c;let⟨s,hs⟩:=gn ((qs.take k).foldl #[181] [0]);have all:qs=(p::ps).foldl #[181] s:=by rw[<-hs,<-JC,d,zj];show eq
  let⟨zs,W⟩:=Dh rows (p::ps) s;rw[<-all]at W;have ks:k<s.length:=by
   rcases Jb k s.length with z|z
   ·show z
   ·have sub:∀q∈s,q∈qs.take k:=λq l=>by
     have:s=qs.take s.length:=by have h:(s++zs).take s.length=s:=List.take_left' rfl;rw[<-W]at h;show h.symm
     rw[this]at l;show(List.take_prefix_take_left z).subset l
    have j:∀q∈s,∀f:Int,0<=f->f<(wide:Int)->aw many q->stepI rows q f∈s:=λq l f B D S=>by
     rw[<-hs];show sZ rows (qs.take k) (sub q l) ?_;have A:q.toNat<rows.length:=by have:=R.len;have:=S.1;have:=S.2;lia
     have H:f.toNat<rows[q.toNat].length:=by rw[R.row _ (jO A)];lia
     unfold stepI;rw[getD_at A,getD_at H];show jO H
    have m:(0:Int)∈s:=by rw[<-hs];show Bz rows _ jA
    have r:∀(I:LI) (q:Int),Ej wide I->aw many q->q∈s->bp rows I q∈s:=λI=>by
     induction I with
     |nil=>intro q _ _ h;show h
     |cons f I K=>
      intro q V S h;have X:=V f jA;show K _ (λg t=>V g (jF _ t)) (cP R S.1 S.2 X.1 X.2) (j q h f X.1 X.2 S)
    have A:qs[k]∈s:=by let⟨I,V,O⟩:=n qs[k] (jO u);rw[<-O];show r I 0 V ⟨by lia,by lia⟩ m
    have v:=sub _ A;let⟨i,w,y⟩:=ji v;rw[jT]at w;rw[zX]at y;have:=(JY o).mp y;lia
  change(if k<((qs.take k).foldl #[181] [0]).length then(bO ((qs.take k).foldl #[181] [0]).length ((rows.getD p.toNat []).map (sM qs))).bind λL=>cD (k+1) L (ps.map λq=>#[62].map (sM qs))else Y)=_;rw[hs,if_pos ks];let⟨M,N⟩:=Dh rows ps (ik rows s p);have all2:qs=(rows.getD p.toNat []).foldl eK s++M:=by rw[all];show N
  rw[N7 all2];have K:=Lu R a eq o n c u;have x:(qs.take (k+1)).foldl #[181] [0]=ik rows s p:=by rw[jS,jC u,JC,hs,<-T];rfl
  rw[x]at K;show K
def aad(R:aQ many wide rows)(a:∀q∈qs,aw many q){q:Int}(l:q∈qs){f:Nat}(V:f<wide):stepI #[13] (sM qs q) f=sM qs (stepI rows q f):=by
 have b:=jx l;have S:=a q l;have A:q.toNat<rows.length:=by have:=R.len;have:=S.1;have:=S.2;lia
 have H:f<rows[q.toNat].length:=by rw[R.row _ (jO A)];show V
 have y:qs[qs.idxOf q]?=Z q:=by rw[jC b,zH b]
 have c:#[13].getD (sM qs q).toNat []=(rows[q.toNat]).map (sM qs):=by unfold sM;rw[jG,jQ,jR,y];change#[62].map _=_;rw[getD_at A]
 unfold stepI;rw[c,jG,getD_at A,getD_at H,jQ,jR,jC H];rfl
def age(R:aQ many wide rows)(eq:qs=qs.foldl #[181] [0])(a:∀q∈qs,aw many q){q f:Int}(l:q∈qs)(T:0<=f)(D:f<(wide:Int)):stepI rows q f∈qs:=by
 rw[eq];show sZ rows qs l ?_;have S:=a q l;have A:q.toNat<rows.length:=by have:=R.len;have:=S.1;have:=S.2;lia
 have H:f.toNat<rows[q.toNat].length:=by rw[R.row _ (jO A)];lia
 unfold stepI;rw[getD_at A,getD_at H];show jO H
theorem Lv(R:aQ many wide rows)(eq:qs=qs.foldl #[181] [0])(a:∀q∈qs,aw many q):∀{v:LI} {q:Int},Ej wide v->q∈qs->bp #[13] v (sM qs q)=sM qs (bp rows v q)/\bp rows v q∈qs
 |[],q,_,l=>⟨rfl,l⟩
 |f::v,q,N,l=>by have V:=N f jA;let⟨m,rfl⟩:=fu V.1;have hs:=age R eq a l V.1 V.2;have K:=Lv R eq a (λg b=>N g (jF _ b)) hs;have st:=aad R a l (f:=m) #[1];change bp _ v (stepI _ (sM qs q) (m:Int))=sM qs (bp rows v (stepI rows q (m:Int)))/\bp rows v (stepI rows q (m:Int))∈qs;rw[st];show K
def SO(R:aQ many wide rows)(u:0<many)(eq:qs=qs.foldl #[181] [0])(o:qs.Nodup)(a:∀q∈qs,aw many q)(n:∀q∈qs,∃I,Ej wide I/\bp rows I 0=q):
  aQ qs.length wide #[13]/\pF #[13]/\0<qs.length/\Tells wide rows #[13] signs (qs.map λq=>signs.getD q.toNat 0) 0 0:=by
 let⟨zs,W⟩:=Dh rows qs [0];rw[<-eq]at W;have c:(0:Int)∈qs:=by rw[W];show jA
 have m:sM qs 0=0:=by unfold sM;rw[W];simp
 show⟨⟨jW _,λr S=>?_,λr S v N=>?_⟩,?_,ze c,λv N=>?_⟩
 ·let⟨q,b,rfl⟩:=jK.mp S;have h:=a q b;have A:q.toNat<rows.length:=by have:=R.len;have:=h.1;have:=h.2;lia
  rw[aW,getD_at A];show R.row _ (jO A)
 ·let⟨q,b,rfl⟩:=jK.mp S;have h:=a q b;have A:q.toNat<rows.length:=by have:=R.len;have:=h.1;have:=h.2;lia
  let⟨t,p,rfl⟩:=jK.mp N;have i:t∈qs:=by rw[eq];show sZ rows qs b p
  have:=jx i;unfold sM;lia
 ·have h:=Lu R u eq o n (ps:=qs) (k:=0) rfl (jb _);change cD 0 1 _=Z _;rw[aW];show h
 ·have h:=Lv R eq a N c;rw[m]at h;rw[h.1];let⟨w,O⟩:=gn (bp rows v 0);have j:=h.2;rw[O]at j ⊢;have d:=jx j;unfold sgn sM;rw[jG,jQ (l:=qs.map _),jR,jC d,zH d];rfl
end
theorem Tells.trans{q:LL}{X:LI}{a b:Int}(h:Tells wide r1 r2 s1 s2 a b)(h':Tells wide r2 q s2 X b c):Tells wide r1 q s1 X a c:=λv N=>(h v N).trans (h' v N)
theorem Tells.symm{a b:Int}(h:Tells wide r1 r2 s1 s2 a b):Tells wide r2 r1 s2 s1 b a:=λv N=>(h v N).symm
def dj.of{a:LI}(h:dj wide rs az a aI)(t:Tells wide rows rs signs a 0 0):dj wide rows az signs aI:=
 ⟨h.ok,h.pos,h.sgn,h.ord,h.apart,t.trans h.tells⟩
def dj.one{a b:LL}{c l:LI}(G:dj wide r1 a s1 c)(M:dj wide r2 b s2 l)(t:Tells wide r1 r2 s1 s2 0 0):a=b/\c=l:=
 U2 G.apart M.apart G.ok M.ok G.pos M.pos G.ord M.ord G.sgn M.sgn ((G.tells.symm.trans t).trans M.tells)
def dj.self(R:aQ rows.length wide rows)(u:0<rows.length)(ls:signs.length=rows.length)(O:pF rows)(A:Apart wide rows signs):dj wide rows rows signs signs:=
 ⟨R,u,ls,O,A,λ_ _=>rfl⟩
def RY(R:aQ many wide rows)(u:0<many)(eq:qs=qs.foldl #[181] [0])(o:qs.Nodup)(a:∀q∈qs,aw many q)(n:∀q∈qs,∃I,Ej wide I/\bp rows I 0=q)(b:gs.length=qs.length)(m:∀x y:Nat,x<qs.length->y<qs.length->(gs.getD x 0=gs.getD y 0↔lI #[13] wide (qs.map λq=>signs.getD q.toNat 0) x y)):
  dj wide rows (eU (sA gs) #[13] 0 #[13]) signs ((cx (sA gs) qs.length).map λq=>(qs.map λq=>signs.getD q.toNat 0).getD q 0):=by
 let⟨d,g,P,t1⟩:=SO (signs:=signs) R u eq o a n;have D:#[13].length=qs.length:=jW _;have F:=acx gs;have h:=aeW (φ:=sA gs) (wide:=wide) (rows:=qs.map λq=>#[62].map (sM qs)) (signs:=qs.map λq=>signs.getD q.toNat 0) (by rw[D,<-b];show F) (by rw[D];show d) g (by rw[D];show P) (λx y J G=>by rw[D]at J G;rw[afK ⟨by lia,by lia⟩ ⟨by lia,by lia⟩,jG,jG];show m x y J G)
 rw[D]at h;show h.of t1
def EJ(xs:LI)(k:Nat):List #[157]:=(xs.zipIdx k).map λp=>(Sum.inl p.1,V.int (p.2:Int))
def wA(xs:LI)(k:Nat):(EJ xs k).length=xs.length:=by unfold EJ;rw[aW,List.length_zipIdx]
theorem BE:∀(xs:LI) (k:Nat) (g:Int),cG (EJ xs k) (Sum.inl g)=if g∈xs then Z (.int ((k+xs.idxOf g:Nat):Int))else Y
 |[],k,g=>by rw[if_neg #[7]];rfl
 |x::xs,k,g=>by
  have K:=BE xs (k+1) g;have d:EJ (x::xs) k=(Sum.inl x,V.int (k:Int))::EJ xs (k+1):=rfl;by_cases e:x=g
  ·subst e;rw[d,cR rfl,if_pos jA,QU];simp
  ·rw[d,cE (λz=>e (Sum.inl.inj z)),K];have m:g∈x::xs↔g∈xs:=by simp[Ne.symm e]
   by_cases c:g∈xs
   ·have i:(x::xs).idxOf g=xs.idxOf g+1:=by rw[QU,show(x==g)=false from beq_false_of_ne e];rfl
    rw[if_pos c,if_pos (m.mpr c),i];congr 3;lia
   ·rw[if_neg c,if_neg λz=>c (m.mp z)]
def Pb{xs:LI}{g:Int}(h:g∉xs):putK (EJ xs 0) (Sum.inl g) (V.int (xs.length:Int))=EJ (xs++[g]) 0:=by
 unfold putK;rw[if_neg (by
  intro z;let⟨p,D,e⟩:=Jz.mp z;let⟨k,R,rfl⟩:=jK.mp D;have E:=Sum.inl.inj (of_decide_eq_true e);have m:k.1∈xs:=by let⟨i,W,y⟩:=ji R;rw[List.getElem_zipIdx]at y;rw[<-y];show jO _
  show h (E▸m))]
 unfold EJ;rw[QD,jD,Jc];rfl
theorem CB:∀(gs s:LI),s.Nodup->(gs.foldl dd s).Nodup
 |[],s,h=>h
 |g::gs,s,h=>by
  rw[JO];by_cases c:g∈s
  ·rw[sX c];show CB gs s h
  ·rw[mG c];show CB gs _ (Dr h c)
def aih(gs:LI):(bU gs).Nodup:=CB gs [] Jg
theorem lh:∀(gs s:LI),(gs.foldl dd s).length<=s.length+gs.length
 |[],s=>jE _
 |g::gs,s=>by
  rw[JO];by_cases c:g∈s
  ·rw[sX c];have:=lh gs s;rw[jX];lia
  ·rw[mG c];have:=lh gs (s++[g]);rw[jH,je]at this;rw[jX];lia
def Dv(gs:LI):(bU gs).length<=gs.length:=by have:=lh gs [];rw[Jq,Jc]at this;show this
def ir(gs:LI):LI:=(jg gs.length).map λi:Nat=>sA gs i
def DC{q:Int}(X:0<=q)(G:q<(gs.length:Int)):bG (ir gs) q=sA gs q:=by
 unfold bG ir;have l:q.toNat<gs.length:=by lia
 rw[getD_at (by rw[aW,jd];show l),Jf,ZH,jf X]
def afL{q:Int}(X:0<=q)(G:q<(gs.length:Int)):0<=sA gs q/\sA gs q<((bU gs).length:Int):=by
 have l:q.toNat<gs.length:=by lia
 have m:gs.getD q.toNat 0∈bU gs:=by rw[getD_at l];show Dx.mpr (jO l)
 have:=jx m;unfold sA;lia
def afM(h:j<(bU gs).length):∃q:Int,aw gs.length q/\sA gs q=(j:Int):=by have m:(bU gs)[j]∈gs:=Dx.mp (jO h);let⟨i,W,e⟩:=ji m;show⟨(i:Int),⟨by lia,by lia⟩,?_⟩;unfold sA;rw[jG,getD_at W,e];have l:=jx (jO h);have q:=(JY (aih gs)).mp (zH l);rw[q]
def abp(col:LI)(q:Int):(dN col q).Nodup:=by unfold dN;show zM.mpr ((List.nodup_range.filter _).imp λ{a b} n z=>n ?_);have p:(a:Int)=(b:Int):=z;lia
inductive SX (C:Qp) (vs:List V) (H:Hp) (Q:VK) (E:XK):Prop|mk (x dx g:Qp) (signs:LI) (_:vs=[.ref x,.ref g]) (_:H x=Z (.ins C dx [])) (_:H g=Z (.tup (signs.map V.int))) (_:signs.length<100000) (_:∀(H':Hp) (go ms wt iw:Qp) (ds:List Qp),(∀b u,b≠x->H b=Z u->H' b=Z u)->H go=Y->H ms=Y->H wt=Y->H iw=Y->(∀d∈ds,H d=Y)->FW H' C x go ms wt iw signs.length #[153] ds ((jg ds.length).map λi:Nat=>(i:Int))->Q .non H')
section
def cF:aA ["self","signs","numbers","group_of","members","here","group"] ["self","signs"] (aq cM):=bQ #[0]
def mZ:aY ["self","signs","numbers","group_of","members","here","group"] (aq cM) ["sign","numbers"] [Y,Z 2] ⟨.function,[#[41],("sign",.local),("len",.globalImplicit),("numbers",.free)],false,false,[]⟩:=mH #[0]
def oa:aY ["self","signs","numbers","group_of","members","here","group"] (aq cM) ["sign"] [Y] ⟨.function,[#[41],("sign",.local)],false,false,[]⟩:=mH #[0]
def oh:aY ["self","signs","numbers","group_of","members","here","group"] (aq cM) ["group"] [Y] ⟨.function,[#[41],("group",.local)],false,false,[]⟩:=mH #[0]
def Y7(F:bu K "__init__" "Parted.__init__" cM dV f fd)(pc:P7 K C)(br:mg "len" = Y)(iP:mg "list" = Y)(bw:mg "range" = Y)(pq:mg "dict" = Y)(cY:mg "enumerate" = Y):aR P w K mg base cO 1 f fd ["self","signs"] (SX C):=by
 show F.ok cF #[18] (λcq A f7 s H vs Q E hr h=>?_)
 ·let⟨x,N,g,signs,rfl,_⟩:=h;rfl
 let⟨x,N,g,signs,rfl,hx,hg,ln,k⟩:=h;have hu:=ow hr;show⟨_,(ah (aB (i:=2) cF.nd rn)
   (ah (eR (i:=3) rfl cF.nd rfl #[140] mZ (eD (pv 1)) (λ_ _ _ _=>(bj (i:=0) mZ.nd)) (λ_ _ _ _=>(Pj (pv 1) (pv 0) (aH Bu #[31] br bZ #[33]) ⟨rfl,rfl,rfl,rfl⟩)))
   (ah (eR (i:=4) rfl cF.nd rfl #[140] oa (aiu (pv 2)) (λ_ _ _ _=>(bj (i:=0) oa.nd)) (λ_ _ _ _=>rn))
   (ah (cf PassesOwn.never rfl (K9 rfl cY #[49]) (EX rfl (dC (bj (i:=5) cF.nd) (dC (bj (i:=6) cF.nd) wH))) (ao (pH hu (ax bR (pv 4) (pv 6) #[2]) (pv 5) rl rfl)))
   (ah (hU (pv 0) (pv 3) rfl)
   (ah (hU (pv 0) (pv 4) rfl)
   (ah (hU (pv 0) (Z2 rfl rfl iP rfl bw (aa (aH aM #[31] br bZ #[125]) af)) rfl)
   (ao (hU (pv 0) (aS (AB rfl) #[31] pq Hn (aa (fJ rfl oh (de rfl bw (aa (aH aM #[31] br bZ #[125]) af)) (λ_ _ _ _=>(bj (i:=0) oh.nd)) (λ_ _ _ _=>(cA (aa (pv 0) (aa rl af))))) af)) rfl))))))))),?_⟩
 exists 0;show λJ w5=>?_;have s0:=ak w5 (HO.dK []);have pl:#[153].length=signs.length:=by unfold ir;rw[aW,jd]
 exists 25;show cg (t:=tT _ _) (λO H'=>∃go:Qp,O=[Z #[164],Z (.ref g),Z (.ref J),Z (.ref go),Y,Y,Y]/\av H H'/\H go=Y/\H' go=Z #[87]/\H' J=Z (.dK (EJ (bU signs) 0))) ?_ #[27];exists 27
 ·exists _,rfl,g,rfl,⟨_,bg (s0 _ _ hg)⟩;show rh (K:=K) (xs:=signs.map V.int) (λD i M H'=>av H H'/\H' J=Z (.dK (EJ (bU (signs.take i)) 0))/\M=((jg i).map λj:Nat=>sA signs j).map V.int) (λD B=>⟨au s0 (s0.free B),by rw[aj (ar ae B),ae];rfl,U⟩) (λD i M H' _ ⟨e,_⟩=>bg (e _ _ hg)) ?_ ?_
  ·rintro D i y M H2 Q' B hi G ⟨s2,RB,rfl⟩ k';let⟨sg,rfl,hs⟩:=cy hi;have il:=(lH hs).1;have ol:=Dv (signs.take i);rw[jT]at ol;have z5:J≠D:=aO RB G #[3];have fD:H D=Y:=s0.free B;show⟨_,U,J,U,.inl ⟨_,.inl RB⟩,_,U,_,U,J,_,U,RB,_,Sum.inl sg,RB,U,bI (by rw[wA];lia),λv hv=>?_,λhn=>?_⟩
   ·rw[BE]at hv;by_cases c:sg∈bU (signs.take i)
    ·rw[if_pos c,Jc]at hv;have ev:=(Option.some.inj hv).symm;subst ev;show k' _ _ G (bI (by rw[aW,aW,jd];lia)) ⟨au s2 fD,by rw[aj z5,RB,pS hs,sX c],?_⟩;rw[JN,jD,jD,<-HC hs c];rfl
    ·rw[if_neg c]at hv;cases hv
   ·rw[BE]at hn;by_cases c:sg∈bU (signs.take i)
    ·rw[if_pos c]at hn;cases hn
    ·rw[wA];show k' _ _ (by rw[aj (Ne.symm z5)];show G) (bI (by rw[aW,aW,jd];lia)) ⟨au (au s2 w5) fD,by rw[aj z5,ae,Pb c,pS hs,mG c],?_⟩;rw[JN,jD,jD,<-HB hs c];rfl
  ·rintro D M H2 B G ⟨s2,RB,rfl⟩;rw[aW,jV]at RB;rw[aW]at G;show cI _ _ ⟨D,U,s2,s0.free B,G,RB⟩
 rintro O H1 ⟨go,rfl,s1,i5,i6,k6⟩;have ol:=Dv signs;show cg (t:=tT _ _) (λO H'=>∃(ms:Qp) (I:List Qp),O=[Z #[164],Z (.ref g),Z (.ref J),Z (.ref go),Z (.ref ms),Y,Y]/\av H H'/\H' go=Z #[87]/\H ms=Y/\H' ms=Z #[182]/\I.length=(bU signs).length/\I.Nodup/\ms≠go/\(∀a∈I,H a=Y/\H' a=Z (.dK []))) ?_ #[27];exists 27
 ·show⟨_,U,J,_,U,.inl ⟨k6,λo=>?_⟩⟩;let⟨H2,Rz⟩:=gn (upd H1 J (.B2 o (.dK (EJ (bU signs) 0))));have s2:av H H2:=by rw[<-Rz];show au s1 w5
  have RB:H2 J=Z (.B2 o (.dK (EJ (bU signs) 0))):=by rw[<-Rz,ae]
  have W:H2 go=Z #[87]:=by rw[<-Rz,aj (aO i6 k6 #[3])];show i6
  rw[Rz];show aco (o:=o) (kvs:=EJ (bU signs) 0) (λD i M H'=>av H2 H'/\∃I:List Qp,M=I.map V.ref/\I.length=i/\I.Nodup/\(∀a∈I,H2 a=Y/\H' a=Z (.dK []))) (λD B=>⟨ak B _,[],U,U,Jg,λa h=>by cases h⟩) (λD i M H' _ ⟨e,_⟩=>e _ _ RB) ?_ ?_
  ·rintro D i p M H3 Q' B hi G ⟨X,I,rfl,la,nd,ha⟩ k';have il:=(lH hi).1;rw[wA]at il;show λd hd=>?_;have l6:D≠d:=ar G hd;have y4:d∉I:=λz=>by rw[(ha d z).2]at hd;cases hd
   show k' _ _ (by rw[aj l6];show G) (bI #[25]) ⟨au (au X (X.free hd)) B,I++[d],by rw[jD];rfl,by rw[jH,je,la],?_,λa h=>?_⟩
   ·show JM.mpr ⟨nd,by simp,λa ha b hb e=>y4 (by rw[<-jI.mp hb,<-e];show ha)⟩
   ·rcases BF.mp h with z|z
    ·let⟨h1,h2⟩:=ha a z;show⟨h1,by rw[aj (aO h2 G #[3]),aj (λy:a=d=>y4 (y▸z))];show h2⟩
    ·rw[jI.mp z];show⟨X.free hd,by rw[aj (Ne.symm l6),ae]⟩
  ·rintro D M H3 B G ⟨X,I,rfl,la,nd,ha⟩;rw[wA]at la;show cI _ _ ⟨D,I,U,s2.trans X,X _ _ W,s2.free B,G,la,nd,Ne.symm (ar W B),λa h=>⟨s2.free (ha a h).1,(ha a h).2⟩⟩
 rintro O H2 ⟨ms,I,rfl,s2,W,j5,g7,la,y4,h7,c6⟩;show cg (t:=pQ _ _ _) (λO H'=>∃(v1 v2:OV),O=[Z #[164],Z (.ref g),Z (.ref J),Z (.ref go),Z (.ref ms),v1,v2]/\av H H'/\H' go=Z #[87]/\H' ms=Z #[182]/\∀(j:Nat) (a:Qp),I[j]?=Z a->H' a=Z (.dK (eA (dN #[153] (j:Int))))) ?_ #[27];exists 27
 ·show⟨_,U,go,U,⟨_,bM W⟩,MM (K:=K) (xs:=#[153].map V.int) (λi O H'=>∃(v1 v2:OV),O=[Z #[164],Z (.ref g),Z (.ref J),Z (.ref go),Z (.ref ms),v1,v2]/\av H H'/\H' go=Z #[87]/\H' ms=Z #[182]/\∀(j:Nat) (a:Qp),I[j]?=Z a->H' a=Z (.dK (eA (dN (#[153].take i) (j:Int)))))
   ⟨Y,Y,rfl,s2,W,g7,λj a h=>(c6 a (tw h)).2⟩ (λi O H' _ ⟨_,_,_,_,e,_,_⟩=>bM e) ?_ ?_⟩
  ·rintro i y O H3 T hi ⟨v1,v2,rfl,X,d5,O4,r⟩ hT;let⟨t,rfl,ht⟩:=cy hi;have il:=(lH ht).1;rw[pl]at il;have et:t=sA signs (i:Int):=by have e:=(lH ht).2;rw[<-e];unfold ir;rw[Jf,ZH]
   have tv:=afL (gs:=signs) (q:=(i:Int)) #[1] #[1];rw[<-et]at tv;have tl:t.toNat<I.length:=by lia
   have sT:=ak hT (HO.tup [V.int i,V.int t]);let⟨R,LQ⟩:=gn (upd H3 T (HO.tup [V.int i,V.int t]));have i7:R T=Z (.tup [V.int i,V.int t]):=by rw[<-LQ];show ae
   rw[LQ]at sT ⊢;obtain⟨a,ea⟩:∃a,I[t.toNat]?=Z a:=⟨_,jC tl⟩;have l:=sT _ _ (r _ _ ea);have tn:((t.toNat:Nat):Int)=t:=jf tv.1;rw[tn]at l;have lp:(#[153].take i).length=i:=by rw[jT];lia
   have j7:(i:Int)∉dN (#[153].take i) t:=λz=>by have h1:=(tG.mp z).1.2;rw[lp]at h1;lia
   have y7:=Su (#[153].take i) t;exists T,_,rfl,bg i7,rfl,_,_,rfl,_,_,rfl,rfl;show⟨_,U,_,U,ms,_,_,_,U,U,bM (sT _ _ O4),Dc tv.1 ea,_,U,a,_,U,Ea.k (k:=Sum.inl (i:Int)) l (bI (by unfold eA;rw[aW];lia)),?_⟩;rw[Hv j7];have fa:H a=Y:=(c6 a (tw ea)).1;have W3:=sT _ _ d5;have RJ:=sT _ _ O4;show⟨_,_,U,au (X.trans sT) fa,by rw[aj (aO W3 l #[3])];show W3,by rw[aj (aO RJ l #[3])];show RJ,λj b hb=>?_⟩;have k7:#[153].take (i+1)=#[153].take i++[t]:=by rw[jS,ht];rfl
   rw[k7,EZ,lp];by_cases c:b=a
   ·subst c;have ej:j=t.toNat:=by have e1:=(lH hb);have e2:=(lH ea);show(JY y4).mp (e1.2.trans e2.2.symm)
    rw[ae,ej,tn,if_pos rfl]
   ·have nj:t≠(j:Int):=λz=>by
     have e:t.toNat=j:=by lia
     rw[e,hb]at ea;show c (Option.some.inj ea)
    rw[aj c,if_neg nj,jh];show sT _ _ (r j b hb)
  ·rintro O H3 ⟨v1,v2,rfl,X,d5,O4,r⟩;rw[aW,jV]at r;show cI _ _ ⟨v1,v2,U,X,d5,O4,r⟩
 rintro O H3 ⟨v1,v2,rfl,X,d5,O4,r⟩;have fa:∀a∈I,H a=Y:=λa h=>(c6 a h).1;show⟨_,U,_,U,x,C,N,[],U,X _ _ hx,pc.cl,pc.ng,by decide,?_⟩;show⟨_,U,_,U,x,C,N,_,U,ae,pc.cl,pc.nm,by change(1:Nat)<1000;decide,?_⟩;rw[abU];let⟨R,LQ⟩:=gn (upd H3 x (HO.ins C N (tI "members" (V.ref ms) (tI "group_of" (V.ref go) []))));have k4:∀b u,b≠x->H b=Z u->R b=Z u:=λb u n h=>by rw[<-LQ,aj n];show X _ _ h
 have x4:R x=Z (.ins C N [("group_of",.ref go),("members",.ref ms)]):=by rw[<-LQ,ae];rfl
 have S:∀b:Qp,H b=Y->x≠b:=λb h=>ar hx h;have W3:R go=Z #[87]:=by rw[<-LQ,aj (Ne.symm (S _ i5))];show d5
 have RJ:R ms=Z #[182]:=by rw[<-LQ,aj (Ne.symm (S _ j5))];show O4
 have l:∀(j:Nat) (a:Qp),I[j]?=Z a->R a=Z (.dK (eA (dN #[153] (j:Int)))):=λj a h=>by rw[<-LQ,aj (Ne.symm (S _ (fa a (tw h))))];show r j a h
 have f4:∀{b},R b=Y->H b=Y:=λ{b} h=>by
  rcases Decidable.em (b=x)with z|z
  ·subst z;rw[x4]at h;cases h
  ·cases e:H b with
   |none=>rfl
   |some u=>rw[k4 b u z e]at h;cases h
 rw[LQ];have lm:#[86].length=I.length:=jW _;show⟨_,U,ms,_,U,.inl (bM RJ),#[86].length,U,ajQ (by rw[lm];lia),λwt IT=>?_⟩;rw[lm];have d6:x≠wt:=ar x4 IT;show⟨_,U,x,C,N,_,U,by rw[aj d6];show x4,pc.cl,pc.nw,by change(2:Nat)<1000;decide,?_⟩;let⟨H5,o5⟩:=gn (upd (upd R wt (HO.lst ((jg I.length).map λi:Nat=>V.int i))) x (HO.ins C N (tI "waiting" (V.ref wt) [("group_of",.ref go),("members",.ref ms)])));have k5:∀b u,b≠x->R b=Z u->H5 b=Z u:=λb u n h=>by rw[<-o5,aj n,aj (ar h IT)];show h
 have x5:H5 x=Z (.ins C N [("group_of",.ref go),("members",.ref ms),("waiting",.ref wt)]):=by rw[<-o5,ae];rfl
 have o6:H5 wt=Z (.lst (((jg I.length).map λi:Nat=>(i:Int)).map V.int)):=by rw[<-o5,aj (Ne.symm d6),ae,JQ];rfl
 have m7:=k5 _ _ (Ne.symm (S _ i5)) W3;have u6:=k5 _ _ (Ne.symm (S _ j5)) RJ;have f5:∀{b},H5 b=Y->R b=Y:=λ{b} h=>by
  rcases Decidable.em (b=x)with z|z
  ·subst z;rw[x5]at h;cases h
  ·cases e:R b with
   |none=>rfl
   |some u=>rw[k5 b u z e]at h;cases h
 rw[o5];obtain⟨ns,m⟩:∃ns:LI,((jg I.length).map λi:Nat=>(i:Int))=ns:=⟨_,rfl⟩;have o7:ns.length=I.length:=by rw[<-m,aW,jd]
 have y6:ns.Nodup:=by rw[<-m];show zM.mpr (List.nodup_range.imp λ{a b} n z=>n ?_);have z':(a:Int)=(b:Int):=z;lia
 show⟨_,U,ms,_,U,.inl (bM u6),_,U,by rw[lm];lia,by rw[lm];lia,?_⟩;show wu (λD i M H'=>av H5 H'/\∃ts,M=ts.map V.ref/\mB H' ts (eA (ns.take i))) (λD B=>⟨ak B _,[],U,.nil⟩) ?_ ?_
 ·rintro D i M H' Q' B hi G ⟨hs,ts,rfl,pv⟩ k';rw[jG,lm]at hi;have hq:ns[i]?=Z (i:Int):=by rw[<-m,jR,zx hi];rfl
  show⟨_,U,#[14],λT hT=>?_⟩;rw[Je];have sT:=ak hT (HO.tup [V.int i,V.bl true]);have nD:D≠T:=ar G hT;have z7:ts.length=i:=by rw[Paired.length pv];unfold eA;rw[aW,jT];lia
  have z6:(upd H' T (HO.tup [V.int i,V.bl true])) D=Z (.lst (ts.map V.ref)):=by rw[aj nD];show G
  show k' _ _ z6 (bI #[25]) ⟨au (au hs (hs.free hT)) B,ts++[T],by rw[jD];rfl,?_⟩;rw[jS,hq];have up:∀b xs,(upd H' T (HO.tup [V.int i,V.bl true])) b=Z #[42]->(upd (upd H' T (HO.tup [V.int i,V.bl true])) D (.lst (ts.map V.ref++[V.ref T]))) b=Z #[42]:=λb xs e=>by rw[aj (aO e z6 #[3])];show e
  change mB _ _ (eA (ns.take i++[(i:Int)]));unfold eA;rw[jD];show Paired.snoc (mB.same pv λb xs e=>up b xs (sT _ _ e)) (up _ _ ae)
 rintro L M H6 fL hL ⟨s6,ts,rfl,pv⟩;rw[jG,lm,<-o7,jV]at pv;show⟨L,ts,_,U,hL,pv,λiw Mb=>?_⟩;rw[MZ y6];have c7:x≠iw:=ar (s6 _ _ x5) Mb;show⟨_,U,x,C,N,_,U,by rw[aj c7];show s6 _ _ x5,pc.cl,pc.ni,by change(3:Nat)<1000;decide,?_⟩;have h6:H5 iw=Y:=s6.free Mb;have kz:∀b u,b≠x->H5 b=Z u->(upd (upd H6 iw (HO.dK (eA ns))) x (HO.ins C N (tI "is_waiting" (V.ref iw) [("group_of",.ref go),("members",.ref ms),("waiting",.ref wt)]))) b=Z u:=λb u n h=>by rw[aj n,aj (ar h h6)];show s6 _ _ h
 have d7:∀(j:Nat) (a:Qp),I[j]?=Z a->H5 a=Z (.dK (eA (dN #[153] (j:Int)))):=λj a h=>k5 _ _ (Ne.symm (S _ (fa a (tw h)))) (l j a h);show k _ go ms wt iw I (λb u n h=>kz _ _ n (k5 _ _ n (k4 _ _ n h))) i5 j5 (f4 IT) (f4 (f5 h6)) fa ?_;have u7:wt≠x:=Ne.symm d6;show⟨⟨N,by rw[ae];rfl⟩,kz _ _ (Ne.symm (S _ i5)) m7,kz _ _ (Ne.symm (S _ j5)) u6,by rw[m];rw[m]at o6;show kz _ _ u7 o6,by rw[m,aj (Ne.symm c7),ae],pl,λq hq=>?_,λj a h=>?_,y4,λz=>?_,Ne.symm h7,?_,?_,by rw[m];show y6,λp hp=>?_⟩
 ·rw[DC hq.1 hq.2,la];show afL hq.1 hq.2
 ·have jl:=(lH h).1;show⟨dN #[153] (j:Int),kz _ _ (Ne.symm (S _ (fa a (tw h)))) (d7 j a h),abp _ _,λz=>?_,λq=>?_⟩
  ·let⟨q,hq,e⟩:=afM (gs:=signs) (j:=j) #[1];have:q∈dN #[153] (j:Int):=tG.mpr ⟨⟨hq.1,by rw[pl];show hq.2⟩,by have:=DC hq.1 hq.2;unfold bG at this;rw[this,e]⟩
   rw[z]at this;cases this
  ·rw[tG,pl];rfl
 ·let⟨j,hj⟩:=JJ.mp z;have:=d7 j iw hj;rw[h6]at this;cases this
 ·show ar W3 IT
 ·show ar RJ IT
 ·rw[m]at hp;rw[<-m]at hp;let⟨i,hi,rfl⟩:=jK.mp hp;have:=js.mp hi;lia
end
def afW(P:List #[85])(a k:List Key)(v:V):k∈(putK P a v).map Prod.fst↔k∈P.map Prod.fst\/k=a:=by
 unfold putK;by_cases c:(P.any λi=>decide (i.fst=a))=true
 ·rw[if_pos c,JQ];have e:P.map (Prod.fst ∘ λi=>if i.fst=a then(i.fst,v)else i)=P.map Prod.fst:=zB λi _=>by change(if i.fst=a then(i.fst,v)else i).fst=i.fst;split<;>rfl
  rw[e];let⟨i,G,M⟩:=Jz.mp c;have B:a∈P.map Prod.fst:=jK.mpr ⟨i,G,of_decide_eq_true M⟩;show⟨.inl,λz=>z.elim id λz=>z▸B⟩
 ·rw[if_neg c,jD,zC];show or_congr Iff.rfl jI
theorem J9:∀(kvs P:List #[85]) (k:List Key),k∈(oQ P kvs).map Prod.fst↔k∈P.map Prod.fst\/k∈kvs.map Prod.fst
 |[],P,k=>⟨.inl,λz=>z.elim id λz=>by cases z⟩
 |p::kvs,P,k=>by change k∈(oQ (putK P p.1 p.2) kvs).map Prod.fst↔_;rw[J9 kvs,afW,or_assoc];show or_congr Iff.rfl (jL (a:=k) (b:=p.1) (l:=kvs.map Prod.fst)).symm
def aa6{x y:LI}(e:x.map (Sum.inl:Int->Key)=y.map Sum.inl):x=y:=by have h:=congrArg (List.map λk:Key=>Sum.elim id (λ_=>(0:Int)) k) e;rw[JQ,JQ]at h;have f:((λk:Key=>Sum.elim id (λ_=>(0:Int)) k) ∘ (Sum.inl:Int->Key))=id:=rfl;rw[f,QK,QK]at h;show h
theorem MU:∀{bs:List Qp} {kvs:List #[85]},aaw H bs kvs->(∀k∈kvs.map Prod.fst,∃c:LI,k=c.map Sum.inl)->∃y3:LL,bF H bs y3/\kvs.map Prod.fst=y3.map λc=>c.map Sum.inl
 |[],[],.nil,_=>⟨[],.nil,rfl⟩
 |_,_,.cons (a:=b) (b:=p) (l₁:=bs) (l₂:=kvs) h t,q=>by let⟨y3,G,M⟩:=MU t λk R=>q k (jF _ R);let⟨c,e⟩:=q p.1 jA;show⟨c::y3,.cons ?_ G,by rw[jt,jt,M,e]⟩;rw[e,JQ]at h;show h
def L9{bs:List Qp}(h:aaw H bs (oQ [] (MJ.map λc=>(c.map Sum.inl,V.bl true)))):∃y3:LL,bF H bs y3/\y3.length<=MJ.length/\∀c,c∈y3↔c∈MJ:=by
 have mem:∀k,k∈(oQ [] (MJ.map λc=>((c.map Sum.inl:List Key),V.bl true))).map Prod.fst↔∃c∈MJ,k=c.map Sum.inl:=λk=>by
  rw[J9,JQ];constructor
  ·rintro(z|z)
   ·cases z
   ·let⟨c,G,M⟩:=jK.mp z;show⟨c,G,M.symm⟩
  ·rintro⟨c,G,M⟩;show .inr (jK.mpr ⟨c,G,M.symm⟩)
 let⟨y3,G,M⟩:=MU h λk R=>let ⟨c,_,e⟩:=(mem k).mp R;⟨c,e⟩;show⟨y3,G,?_,λc=>?_⟩
 ·have T:=congrArg zI M;have g:=sy (MJ.map λc=>((c.map Sum.inl:List Key),V.bl true)) [];rw[aW,aW]at T;rw[aW,Jq]at g;lia
 have m:=mem (c.map Sum.inl);rw[M]at m;constructor
 ·intro L;let⟨P,B,e⟩:=m.mp (jK.mpr ⟨c,L,rfl⟩);rw[aa6 e];show B
 ·intro L;let⟨P,B,e⟩:=jK.mp (m.mpr ⟨c,L,rfl⟩);rw[<-aa6 e];show B
def ad7(R:aQ many wide rows)(f:Nat){q:Int}(a:aw many q):rg (rows.map λr=>r.getD f 0) q=stepI rows q f:=by
 have l:q.toNat<rows.length:=by have:=a.1;have:=a.2;rw[R.len];lia
 unfold rg stepI;rw[getD_at (by rw[aW];show l),Jf,jG,getD_at l]
theorem ahf(R:aQ many wide rows)(h:∀c,c∈y3↔c∈Df rows wide):D8 many wide rows y3 where
 of:=λc L=>by let⟨f,V,rfl⟩:=jK.mp ((h c).mp L);show⟨f,js.mp V,λq l=>ad7 R f l⟩
 all:=λf V=>⟨_,(h _).mpr (jK.mpr ⟨f,js.mpr V,rfl⟩),λq l=>ad7 R f l⟩
def aaF(R:aQ many wide rows){c:LI}(h:c∈Df rows wide):c.length=many/\∀t∈c,0<=t/\t<(many:Int):=by let⟨f,V,rfl⟩:=jK.mp h;have a:=js.mp V;show⟨by rw[aW,R.len],λt p=>?_⟩;let⟨r,S,rfl⟩:=jK.mp p;have d:=R.row r S;rw[getD_at #[1]];show R.val r S _ (jO _)
def Ss(l:col.length=many){q:Int}:x∈dN col q↔aw many x/\rg col x=q:=by rw[tG,l];rfl
theorem O0(col:LI):∀{ms:LI},ms.Nodup->(ms.flatMap (dN col)).Nodup
 |[],_=>Jg
 |m::ms,h=>by have n:=jm.mp h;rw[ZP];show JM.mpr ⟨abp col m,O0 col n.2,λa W b B e=>?_⟩;let⟨L,G,M⟩:=Jm.mp B;have T:=(tG.mp W).2;have g:=(tG.mp M).2;rw[<-e,T]at g;show n.1 (g▸G)
def RA{ms:LI}(l:col.length=many):x∈ms.flatMap (dN col)↔aw many x/\rg col x∈ms:=by
 rw[Jm];constructor
 ·rintro⟨m,G,M⟩;have B:=(Ss l).mp M;show⟨B.1,B.2▸G⟩
 ·rintro⟨G,M⟩;show⟨_,M,(Ss l).mpr ⟨G,U⟩⟩
def Ce.mono{y3:List (Int->Int)}{R:Int->Int->Prop}{W m S:Int->Prop}{k:Nat}(h:Ce many y3 sg R o4 W S k)(w:∀g,W g->m g):Ce many y3 sg R o4 m S k:=
 ⟨h.coarse,h.signs,h.whole,λx y J G e j c f=>by
  rcases h.cong x y J G e j c f with z|z|z|z
  ·show .inl z
  ·show .inr (.inl (w _ z))
  ·show .inr (.inr (.inl (w _ z)))
  ·show .inr (.inr (.inr z))⟩
theorem lI.symm(h:lI rows wide signs x y):lI rows wide signs y x:=λn v G M=>(h n v G M).symm
def FW.pop{x l:Qp}{b:LI}{s:Int}(h:FW H C x go ms wt iw many gs ds (b++[s]))(p:H l=Y):
  FW (upd (upd (upd H wt (.lst (b.map V.int))) iw (.dK (eA ((b++[s]).filter λk=>decide (k≠s))))) l (.lst (mem.map V.int))) C x go ms wt iw many gs ds b:=by
 have o:=JM.mp h.wn;have w:(b++[s]).filter (λk=>decide (k≠s))=b:=by rw[JX,JG #[7],QT,jh];show Zr.mpr λk R=>decide_eq_true λz=>o.2.2 k R s jA z
 rw[w];have y:∀c u,H c=Z u->c≠l:=λc u e=>ar e p;have a:∀c u,c≠wt->c≠iw->H c=Z u->(upd (upd (upd H wt (.lst (b.map V.int))) iw (.dK (eA b))) l (.lst (mem.map V.int))) c=Z u:=λc u r B e=>by rw[aj (y c u e),aj B,aj r];show e
 let⟨O,J⟩:=h.pt.ob;have j:wt≠iw:=aO h.wt_ h.iw_ #[3];show⟨⟨O,a _ _ (aO J h.wt_ #[3]) (aO J h.iw_ #[3]) J⟩,a _ _ h.n2 (aO h.go_ h.iw_ #[3]) h.go_,a _ _ h.n3 (aO h.ms_ h.iw_ #[3]) h.ms_,by rw[aj (y _ _ h.wt_),aj j,ae],by rw[aj (y _ _ h.iw_),ae],h.lg,h.val,λi d W=>?_,h.dn,h.ndi,h.n1,h.n2,h.n3,o.1,λg q=>h.wv g (JH _ q)⟩;let⟨m,G,M,f,n⟩:=h.mem i d W;show⟨m,a _ _ (aO G h.wt_ #[3]) (λz=>h.ndi (z▸tw W)) G,M,f,n⟩
def FW.alone{x:Qp}(h:FW H C x go ms wt iw many gs ds ws)(e:ds.length=many):∀a b,aw many a->aw many b->bG gs a=bG gs b->a=b:=λa b W B f=>Classical.byContradiction λo=>by
 have S:a.toNat<gs.length:=by have:=W.1;have:=W.2;rw[h.lg];lia
 have d:b.toNat<gs.length:=by have:=B.1;have:=B.2;rw[h.lg];lia
 have k:a.toNat≠b.toNat:=by have:=W.1;have:=B.1;lia
 unfold bG at f;rw[getD_at S,getD_at d]at f;have t:=mI (xs:=(jg ds.length).map λi:Nat=>(i:Int)) (ys:=gs.eraseIdx b.toNat) (zM.mpr (List.nodup_range.imp λ{a b} n z=>n (by
  have p:(a:Int)=(b:Int):=z;lia))) (λg m=>by
  let⟨i,l,rfl⟩:=jK.mp m;have X:=js.mp l;let⟨mem,_,_,F,j⟩:=h.mem i _ (jC X);let⟨q,r,rfl⟩:=ZJ F;let⟨⟨G,E⟩,eq⟩:=(j q).mp jA;have A:q.toNat<gs.length:=by rw[h.lg];lia
  unfold bG at eq;rw[getD_at A]at eq;rw[List.mem_eraseIdx_iff_getElem];by_cases c:q.toNat=b.toNat
  ·exists a.toNat,S,k;rw[f,<-eq];congr 1;show c.symm
  ·show⟨q.toNat,A,c,eq⟩)
 rw[aW,jd,zP d,h.lg,e]at t;have:=B.1;have:=B.2;lia
inductive ajV (K:Yc) (vs:List V) (H:Hp) (Q:VK) (E:XK):Prop|mk (m r g:Qp) (many wide:Nat) (rows:LL) (signs:LI) (_:vs=[.ref m]) (_:bD H m r g wide rows signs) (_:aQ many wide rows) (_:signs.length=many) (_:many<100000) (_:wide<=100000) (_:∀(go:Qp) (gs:LI) (H':Hp),av H H'->H go=Y->H' go=Z (.lst (gs.map V.int))->gs.length=many->(∀x y,aw many x->aw many y->(bG gs x=bG gs y↔lI rows wide signs x y))->Q (.ref go) H')
def agY(H:Hp):List Qp->LL->Prop:=qI λB col=>∃H0 es,cS H0 H B es #[135]
section
def bT:aA ["machine","distinct","backs","parted","splitter","back","leading","here"] ["machine"] (aq dE):=bQ #[0]
def oj:aY ["machine","distinct","backs","parted","splitter","back","leading","here"] (aq dE) ["column"] [Y] ⟨.function,[#[41],("column",.local)],false,false,[]⟩:=mH #[0]
def oo:aY ["machine","distinct","backs","parted","splitter","back","leading","here"] (aq dE) ["column"] [Y] ⟨.function,[#[41],("column",.local),("back_of",.globalImplicit)],false,false,[]⟩:=mH #[0]
def aln(F:bu K "unparted_groups" "unparted_groups" dE dV f fd)(pc:P7 K C)(wg:bh P w K mg base "columns_of" 1 ["machine"] [] (agg K))(Ee:bh P w K mg base "back_of" 1 ["column"] [] (abw K))(Eb:Fw P w K mg base "Parted" C 1 ["self","signs"] (SX C))(B9:bP P w K mg base C "is_done" 1 ["self"] (SS K C))(mv:bP P w K mg base C "next_splitter" 1 ["self"] (abH C))(Ca:bP P w K mg base C "part_by" 3 ["self","leading"] (SW C))(iP:mg "list" = Y)(pq:mg "dict" = Y):aR P w K mg base cO 4 f fd ["machine"] (ajV K):=by
 show F.ok bT #[18] (λcq A b8 s H vs Q E hr h=>?_)
 ·let⟨m,r,g,many,wide,rows,signs,rfl,_⟩:=h;rfl
 let⟨m,r,g,many,wide,rows,signs,rfl,M,R,ls,n1,w1,k⟩:=h;have hu:=ow hr;have c8:=aeM hr;show⟨_,(ah (aB (i:=1) bT.nd (aS (U0 rfl) #[31] iP De (aa (aS ((OQ rfl c8)) #[31] pq Hn (aa (fJ rfl oj (cU (aK wg hr #[26])) (λ_ _ _ _=>(bj (i:=0) oj.nd)) (λ_ _ _ _=>(cA (aa (pv 0) (aa rl af))))) af)) af)))
   (ah (eR (i:=2) rfl bT.nd rfl #[140] oo (cU (pv 1)) (λ_ _ _ _=>(bj (i:=0) oo.nd)) (λ_ _ _ _=>(aK Ee hr #[26])))
   (ah (aB (i:=3) bT.nd (EW Eb hr #[84]))
   (ah (oC PassesOwn.never (PW.pt (AY ((AX (bz (pv 3) rfl) (λ_=>rfl))) (BK (oU (lX (K7 B9 hr (pv 3))))))) (ah (aB (i:=4) bT.nd (K7 mv hr (pv 3)))
   (ao (cf PassesOwn.never rfl (cU (pv 2)) (bj (i:=5) bT.nd) (ah (aB (i:=6) bT.nd (bS af))
   (ah (cf PassesOwn.never rfl (cU (pv 4)) (bj (i:=7) bT.nd) (ao (bC (fZ Ye yN yO K2 (pv 6) (aa (Sm hu (pv 5) (pv 7) (cA af) ⟨rfl,rfl,rfl,rfl⟩) af)))))
   (ao (bC (mq Ca hr (pv 3) (aa (pv 6) af))))))))))
   (ao (aE (bz (pv 3) rfl))))))),?_⟩
 exists 0;exists 25;show cg (t:=tT _ _) (λO H'=>∃(dl:Qp) (bs:List Qp) (y3:LL),O=[Z #[136],Z (.ref dl),Y,Y,Y,Y,Y,Y]/\av H H'/\H' dl=Z (.lst (bs.map V.ref))/\bF H' bs y3/\y3.length<=wide/\∀c,c∈y3↔c∈Df rows wide) ?_ #[27];exists 27
 ·show⟨_,U,m,r,g,many,wide,rows,signs,U,M,R,⟨by lia,w1⟩,λl cs H1 s1 z6 A1=>?_⟩;exists l,rfl,⟨_,bM z6⟩;have lc:(Df rows wide).length=wide:=by unfold Df;rw[aW,jd]
  show iX (K:=K) (xs:=cs.map V.ref) (λD i ys H'=>av H1 H'/\∃ts,ys=ts.map V.ref/\TM H' ts (((Df rows wide).take i).map λc=>(c.map Sum.inl,V.bl true))) (λD hD=>⟨ak hD _,[],U,.nil⟩) (λD i ys H' _ ⟨e,_⟩=>bM (e _ _ z6)) ?_ ?_
  ·rintro D i y ys H2 Q' hD hi hy ⟨s2,ts,rfl,pv⟩ k';have jl:i<(Df rows wide).length:=by have:=(lH hi).1;rw[aW,A1.length]at this;show this
   let⟨ca,e1,e2⟩:=A1.get jl;have ey:y=.ref ca:=by rw[jR,e1]at hi;show(Option.some.inj hi).symm
   subst ey;show⟨_,U,#[14],λT hT=>?_⟩;have sT:=ak hT (HO.tup [V.ref ca,V.bl true]);have nD:D≠T:=ar hy hT;have u9:ts.length=i:=by rw[Paired.length pv,aW,jT];lia
   have c7:(upd H2 T (HO.tup [V.ref ca,V.bl true])) D=Z (.lst (ts.map V.ref)):=by rw[aj nD];show hy
   show k' _ _ c7 (bI #[25]) ⟨au (au s2 (s2.free hT)) hD,ts++[T],by rw[jD];rfl,?_⟩;have up:∀b xs,(upd H2 T (HO.tup [V.ref ca,V.bl true])) b=Z #[42]->(upd (upd H2 T (HO.tup [V.ref ca,V.bl true])) D (.lst (ts.map V.ref++[V.ref T]))) b=Z #[42]:=λb xs e=>by rw[aj (aO e c7 #[3])];show e
   rw[jS,jC jl,jD];show Paired.snoc (Paired.EM pv λt p h=>?_) ⟨ca,up _ _ ae,?_⟩
   ·let⟨b,h1,h2⟩:=h;show⟨b,up _ _ (sT _ _ h1),up _ _ (sT _ _ h2)⟩
   ·rw[JQ];show up _ _ (sT _ _ (s2 _ _ e2))
  ·rintro D ys H2 hD hy ⟨s2,ts,rfl,pv⟩;rw[aW,A1.length,jV]at pv;show⟨D,ts,_,U,hy,pv,λdd d8=>?_⟩;have s3:=ak d8 (HO.dT (oQ [] ((Df rows wide).map λc=>(c.map Sum.inl,V.bl true))));show⟨dd,_,U,ae,λdl bs e8 kt=>?_⟩;let⟨y3,c1,c3,c2⟩:=L9 kt;rw[lc]at c3;have s4:=ak e8 (HO.lst (bs.map V.ref));show cI _ _ ⟨dl,bs,y3,U,(#[129].trans s3).trans s4,ae,c1.same λb xs e=>s4 _ _ e,c3,c2⟩
 rintro O H1 ⟨dl,bs,y3,rfl,s1,d7,A1,y9,hc⟩;have CO:=ahf R hc;show cg (t:=tT _ _) (λO H'=>∃(bl:Qp) (X:List Qp),O=[Z #[136],Z (.ref dl),Z (.ref bl),Y,Y,Y,Y,Y]/\av H H'/\H' bl=Z (.lst (X.map V.ref))/\agY H' X y3) ?_ #[27];exists 27
 ·exists _,rfl,dl,rfl,⟨_,bM d7⟩;show iX (K:=K) (xs:=bs.map V.ref) (λD i ys H'=>av H1 H'/\∃X,ys=X.map V.ref/\qI (λB col=>∃H0 es,(∃u,H0 D=Z u)/\cS H0 H' B es #[135]) X (y3.take i)) (λD hD=>⟨ak hD _,[],U,.nil⟩) (λD i ys H' _ ⟨e,_⟩=>bM (e _ _ d7)) ?_ ?_
  ·rintro D i y ys H2 Q' hD hi hy ⟨s2,X,rfl,pv⟩ k';have jl:i<y3.length:=by have:=(lH hi).1;rw[aW,A1.length]at this;show this
   let⟨ca,e1,e2⟩:=A1.get jl;have ey:y=.ref ca:=by rw[jR,e1]at hi;show(Option.some.inj hi).symm
   subst ey;have ci:=aaF R ((hc _).mp (jO jl));have lB:X.length=i:=by rw[Paired.length pv,jT];lia
   show⟨_,U,ca,many,y3[i],U,s2 _ _ e2,by lia,by lia,ci.2,λB es H3 s3 fB bo=>?_⟩;have f7:=s3 _ _ hy;show k' _ _ f7 (bI #[25]) ⟨au (s2.trans s3) hD,X++[B],by rw[jD];rfl,?_⟩;have keep:∀(H0:Hp) (B':Qp) (B0:List #[187]) (col:LI),(∃u,H0 D=Z u)->cS H0 H3 B' B0 #[135]->cS H0 (upd H3 D (.lst (X.map V.ref++[V.ref B]))) B' B0 #[135]:=λH0 B' B0 col hu i6=>i6.keep (aj (aO i6.at_ f7 #[3])) λe he=>aj λz=>by let⟨u,hu⟩:=hu;have:=i6.fresh e he;rw[z,hu]at this;cases this
   rw[jS,jC jl];show Paired.snoc (Paired.EM pv λB' col h=>let ⟨H0,B0,hu,b⟩:=h;⟨H0,B0,hu,keep H0 B' B0 col hu (b.same s3)⟩) ⟨H2,es,⟨_,hy⟩,keep H2 B es y3[i] ⟨_,hy⟩ bo⟩
  ·rintro D ys H2 hD hy ⟨s2,X,rfl,pv⟩;rw[aW,A1.length,jV]at pv;show cI _ _ ⟨D,X,U,s1.trans s2,hy,Paired.EM pv λB col h=>let ⟨H0,es,_,b⟩:=h;⟨H0,es,b⟩⟩
 rintro O J ⟨bl,X,rfl,sb,g7,BA⟩;have f8:X.length=y3.length:=Paired.length BA;show⟨_,U,m,_,_,_,U,U,bg (sb _ _ M.tup),U,λx dx hx g8 ne=>?_⟩;have up:∀b u,J b=Z u->(upd (upd J dx (HO.own x)) x (HO.ins C dx [])) b=Z u:=λb u h=>by rw[aj (ar h hx),aj (ar h g8)];show h
 show⟨x,dx,g,signs,U,ae,up _ _ (sb _ _ M.sgn),by lia,λH1 go ms wt iw h7 kk f1 f2 f3 f4 f5 S1=>⟨U,?_⟩⟩;have h8:av J H1:=λb u h=>kk b u (ar h hx) (up b u h);have fr:∀{b},(upd (upd J dx (HO.own x)) x (HO.ins C dx [])) b=Y->J b=Y:=λ{b} h=>by
  cases e:J b with
  |none=>rfl
  |some u=>rw[up b u e]at h;cases h
 rw[ls]at S1;obtain⟨RR,o5⟩:∃RR:Int->Int->Prop,(λx y=>aw many x/\aw many y/\lI rows wide signs x y)=RR:=⟨_,rfl⟩;have lk:=CO.aoV (signs:=signs) R;rw[o5]at lk;have room:=CO.room R;have j8:∀x y,RR x y->RR y x:=λx y h=>by rw[<-o5]at h ⊢;show⟨h.2.1,h.1,h.2.2.symm⟩
 have fg:=fr f1;have k8:=fr f2;have fw:=fr f3;have fi:=fr f4;have m8:Hop many #[183] #[162] RR (bG #[153]) (λg=>g∈(jg h7.length).map λi:Nat=>(i:Int)):=by
  show Hop.start lk (λa b W hb=>?_) (λa W=>?_) room
  ·have la:aw signs.length a:=by rw[ls];show W
   have lb:aw signs.length b:=by rw[ls];show hb
   rw[DC la.1 la.2,DC lb.1 lb.2];show afK la lb
  ·have v:=S1.val a W;show jK.mpr ⟨(bG #[153] a).toNat,js.mpr #[1],jf v.1⟩
 exists 25;show cg (t:=sU _ _) (λO H'=>∃(gs ws:LI) (ds:List Qp) (v4 v5 v6 S:OV),O=[Z #[136],Z (.ref dl),Z (.ref bl),Z #[164],v4,v5,v6,S]/\av J H'/\FW H' C x go ms wt iw many gs ds ws/\∀a b,aw many a->aw many b->(bG gs a=bG gs b↔lI rows wide signs a b)) ?_ #[27];exists 27
 ·show sd (λmm O H'=>∃(gs ws:LI) (ds:List Qp) (v4 v5 v6 S:OV),mm=2*many+ws.length-2*ds.length/\O=[Z #[136],Z (.ref dl),Z (.ref bl),Z #[164],v4,v5,v6,S]/\av J H'/\FW H' C x go ms wt iw many gs ds ws/\(∀d∈ds,J d=Y)/\Hop many #[183] #[162] RR (bG gs) (λg=>g∈ws))
   ⟨_,ir signs,_,h7,Y,Y,Y,Y,rfl,rfl,h8,S1,λd hd=>fr (f5 d hd),m8⟩ ?_
  rintro mm O H2 ⟨gs,ws,ds,v4,v5,v6,S,o8,rfl,s2,j,q8,y4⟩;let⟨d5,i5⟩:=j.pt.ob;have z9:=j.B1;rw[<-o5]at y4;by_cases en:ws=[]
  ·subst en;show⟨_,U,x,C,d5,_,_,U,i5,pc.cl,pc.nw,U,_,.inl ⟨_,bM j.wt_,U⟩,ox (ox ?_)⟩;show cI _ _ ⟨gs,[],ds,v4,v5,v6,S,U,s2,j,λa b W hb=>aaZ CO R y4 (y4.alY (λ_ _ z=>by cases z) room) W hb⟩
  exists _,rfl,x,C,d5,_,_,rfl,i5,pc.cl,pc.nw,rfl,_,.inl ⟨_,bM j.wt_,rfl⟩;have u8:(!(ws.map V.int).isEmpty)=true:=by
   cases ws with
   |nil=>show absurd rfl en
   |cons a r=>rfl
  rw[u8];show Cu ⟨_,U,x,d5,_,U,i5,U,x,go,ms,wt,iw,gs,ds,U,j.pt,j.go_,j.ms_,_,U,tu #[39] #[39]⟩
  ·show⟨λO H'=>∃m',m'<mm/\∃(gs ws:LI) (ds:List Qp) (v4 v5 v6 S:OV),m'=2*many+ws.length-2*ds.length/\O=[Z #[136],Z (.ref dl),Z (.ref bl),Z #[164],v4,v5,v6,S]/\av J H'/\FW H' C x go ms wt iw many gs ds ws/\(∀d∈ds,J d=Y)/\Hop many #[183] #[162] RR (bG gs) (λg=>g∈ws),λ_ _ h=>h,?_⟩;rw[o5]at y4;obtain⟨PN,s,y8⟩:∃PN s,ws=PN++[s]:=⟨ws.dropLast,ws.getLast en,(ZA en).symm⟩;subst y8;have sv:=j.wv s (jo _ jA);have z8:s.toNat<ds.length:=by lia
   obtain⟨da,Al⟩:∃da,ds[s.toNat]?=Z da:=⟨_,jC z8⟩;let⟨mem,LU,k6,nem,hm⟩:=j.mem s.toNat da Al;rw[jf sv.1]at hm;have arP:mem.length<=many:=cL many k6 λq hq=>((hm q).mp hq).1;show⟨_,U,x,d5,_,U,i5,U,x,go,ms,wt,iw,da,s,PN,PN++[s],mem,ds,U,j.pt,j.wt_,j.iw_,jo _ jA,j.ms_,sv.1,Al,j.n3,LU,(λz=>j.ndi (z▸tw Al)),by lia,λsl o=>?_⟩;have S3:=j.pop (mem:=mem) o;let⟨H3,l6⟩:=gn (upd (upd (upd H2 wt (HO.lst (PN.map V.int))) iw (HO.dK (eA ((PN++[s]).filter λk=>decide (k≠s))))) sl (HO.lst (mem.map V.int)));have i7:∀c u,J c=Z u->c≠go/\c≠ms/\c≠wt/\c≠iw:=λc u e=>⟨λz=>(by rw[z,fg]at e;cases e),λz=>(by rw[z,k8]at e;cases e),λz=>(by rw[z,fw]at e;cases e),λz=>(by rw[z,fi]at e;cases e)⟩;have s3:av J H3:=λc u e=>by have n:=i7 c u e;rw[<-l6,aj (ar (s2 _ _ e) o),aj n.2.2.2,aj n.2.2.1];show s2 _ _ e
   have a9:H3 sl=Z (.lst (mem.map V.int)):=by rw[<-l6,ae]
   rw[l6]at S3 ⊢;have q1:sl≠go:=λz=>by rw[z,j.go_]at o;cases o
   have q2:sl≠ms:=λz=>by rw[z,j.ms_]at o;cases o
   have q3:sl≠wt:=λz=>by rw[z,j.wt_]at o;cases o
   have b9:Ce many #[183] #[162] RR (bG gs) (λg=>g∈PN) (λq=>bG gs q=s) 0:=(y4.pop room s).mono λg h=>by
    rcases BF.mp h.1 with z|z
    ·show z
    ·show absurd (jI.mp z) h.2
   exists _,rfl,bl,rfl,⟨_,bM (s3 _ _ g7)⟩;show fW (K:=K) (xs:=X.map V.ref) (λk O H'=>∃(BB D4:LI) (G:List Qp) (v5 v6 S:OV),O=[Z #[136],Z (.ref dl),Z (.ref bl),Z #[164],Z (.ref sl),v5,v6,S]/\av J H'/\FW H' C x go ms wt iw many BB G D4/\(∀d∈G,J d=Y)/\H' sl=Z (.lst (mem.map V.int))/\Ce many #[183] #[162] RR (bG BB) (λg=>g∈D4) (λq=>bG gs q=s) k/\(D4.length:Int)-2*(G.length:Int)<=(PN.length:Int)-2*(ds.length:Int))
    ⟨gs,PN,ds,_,_,_,rfl,s3,S3,q8,a9,b9,JF _⟩ (λi O H' _ ⟨_,_,_,_,_,_,_,e,_,_,_,_,_⟩=>bM (e _ _ g7)) ?_ ?_
   ·rintro k y O H4 hk ⟨BB,D4,G,v5,v6,S,rfl,s4,S4,w5,z5,j5,j7⟩;have kl:k<y3.length:=by have:=(lH hk).1;rw[aW]at this;lia
    let⟨B,hB,H0,es,bo⟩:=oA BA (jC kl);have ey:y=.ref B:=by rw[jR,hB]at hk;show(Option.some.inj hk).symm
    subst ey;let⟨col,o6⟩:=gn (y3[k]);rw[o6]at bo;have c9:col∈y3:=o6▸jO kl;have ci:=aaF R ((hc _).mp c9);have k7:#[183][k]?=Z (rg col):=by rw[jR,jC kl,o6];rfl
    have c6:=tw k7;have lm:∀{x:Int},x∈mem.flatMap (dN col)↔aw many x/\rg col x∈mem:=λ{x}=>RA ci.1;let⟨d9,f9⟩:=S4.pt.ob;show⟨#[15],λLa I=>?_⟩;have m7:=ak I #[74];exists 25;show cg (t:=pQ _ _ _) (λO H'=>∃S:OV,O=[Z #[136],Z (.ref dl),Z (.ref bl),Z #[164],Z (.ref sl),Z (.ref B),Z (.ref La),S]/\av H4 H'/\H' La=Z (.lst ((mem.flatMap (dN col)).map V.int))) ?_ (λD'' g9=>?_);exists 27
    ·exists _,rfl,sl,rfl,⟨_,bM (m7 _ _ z5)⟩;show fW (K:=K) (xs:=mem.map V.int) (λi O H'=>∃S:OV,O=[Z #[136],Z (.ref dl),Z (.ref bl),Z #[164],Z (.ref sl),Z (.ref B),Z (.ref La),S]/\av H4 H'/\H' La=Z (.lst (((mem.take i).flatMap (dN col)).map V.int))) ⟨_,U,m7,ae⟩ (λi O H' _ ⟨_,_,e,_⟩=>bM (e _ _ z5)) ?_ ?_
     ·rintro i y O H5 hi ⟨S,rfl,s5,N⟩;let⟨q,rfl,hq⟩:=cy hi;have b5:=bo.same (s4.trans s5);show⟨_,U,.inl ⟨U,_,bM N⟩,_,U,B,U,.inl ⟨_,.inl b5.at_⟩,_,U,#[15],λt0 h9=>?_⟩;have d6:=ak h9 (HO.tup []);have b6:=b5.same d6;exists _,lG.k (k:=Sum.inl q) b6.at_;have o7:=d6 _ _ N;have et:(mem.take (i+1)).flatMap (dN col)=(mem.take i).flatMap (dN col)++dN col q:=by rw[jS,hq,zy];change _++[q].flatMap (dN col)=_;rw[ZP,List.flatMap_nil,jh]
      have len:(((mem.take i).flatMap (dN col)).map V.int).length+((dN col q).map V.int).length<=sizeLine:=by have nd:=O0 col (ms:=mem.take (i+1)) ((ZM _ _).nodup k6);have i9:=cL many nd λz hz=>((RA ci.1).mp hz).1;rw[et,jH]at i9;rw[aW,aW];show ajQ #[1]
      cases hv:cG (EI es) (Sum.inl q)with
      |none=>
       have j9:q∉es.map Prod.fst:=λz=>by let⟨e,he,ee⟩:=jK.mp z;let⟨jj,k9⟩:=JJ.mp he;have:=J2 b6.nd (q:=e.1) (a:=e.2) k9;rw[ee,hv]at this;cases this
       have e0:=b6.non _ j9;rw[<-e0]at et;rw[<-e0]at len;show .inr ⟨La,t0,_,[],U,U,o7,ae,len,?_⟩;show⟨_,U,au (s5.trans d6) I,by rw[ae,et,jD];rfl⟩
      |some v=>
       let⟨la,ls',rfl,hm',l9,hp⟩:=b6.get hv;rw[<-hp]at et;rw[<-hp]at len;show .inl ⟨La,la,_,_,U,U,o7,l9,len,?_⟩;show⟨_,U,au (s5.trans d6) I,by rw[ae,et,jD]⟩
     ·rintro O H5 ⟨S,rfl,s5,N⟩;rw[aW,jV]at N;show g9 _ _ ⟨S,U,s5,N⟩
    rintro O H5 ⟨S,rfl,s5,N⟩;have S5:=S4.same s5;have m9:∀q,aw many q->(q∈mem↔bG gs q=s):=λq hq=>⟨λz=>((hm q).mp z).2,λz=>(hm q).mpr ⟨hq,z⟩⟩;have h6:∀a,aw many a->(a∈mem.flatMap (dN col)↔bG gs (rg col a)=s):=λa W=>by rw[lm,m9 _ (room a W _ c6)];show⟨λz=>z.2,λz=>⟨W,z⟩⟩
    show⟨_,U,x,d9,_,U,s5 _ _ f9,U,_,U,x,go,ms,wt,iw,La,many,BB,D4,mem.flatMap (dN col),G,λu7 n1 u6=>Ce many #[183] #[162] RR (bG u7) (λg=>g∈u6) (λq=>bG gs q=s) k/\(u6.length:Int)-2*(n1:Int)<=(PN.length:Int)-2*(ds.length:Int),U,S5,n1,N,⟨λz=>(by rw[z,S4.go_]at I;cases I),λz=>(by rw[z,S4.ms_]at I;cases I),λz=>(by rw[z,S4.wt_]at I;cases I)⟩,O0 col k6,λq hq=>(lm.mp hq).1,⟨j5,j7⟩,?_,?_⟩
    ·rintro u7 n1 u6 gs2 ws2 ⟨h1,h2⟩ val ⟨b,nw,rfl,e1,e2,e3,e4⟩;show⟨h1.split j8 room (L:=λa=>a∈mem.flatMap (dN col)) (b:=b) (n:=(n1:Int)) (λa c W EF r hl=>?_) (λa W z=>?_) (λg hg=>JH _ hg) (λhb=>?_) ?_ e3 e4,?_⟩
     ·rw[h6 a W]at hl;rw[h6 c EF];show h1.whole _ _ (room a W _ c6) (room c EF _ c6) (lk.led a c r _ c6) hl
     ·have:=val a W;lia
     ·rw[<-e2 hb];show jo _ jA
     ·rcases e1 with e1|e1
      ·show .inl (by rw[<-e1];show jo _ jA)
      ·show .inr (by rw[<-e1];show jo _ jA)
     ·rw[jH,je];lia
    ·intro H6 n9 q9 y7 S6 j6 nc fm kp;have s6:av J H6:=λc u e=>by have n:=i7 c u e;show kp c u n.1 n.2.1 n.2.2.1 n.2.2.2 (λz=>by rw[w5 c z]at e;cases e) (s5 _ _ (s4 _ _ e))
     have y6:=s5 _ _ z5;show⟨n9,q9,G++y7,_,_,_,U,s6,S6,λd hd=>?_,kp sl _ q1 q2 q3 (aO y6 S5.iw_ #[3]) #[173] y6,j6.1.next k7 λa c W EF e h=>?_,j6.2⟩
     ·rcases BF.mp hd with z|z
      ·show w5 d z
      ·have:=fm d z;cases e:J d with
       |none=>rfl
       |some u=>rw[s5 _ _ (s4 _ _ e)]at this;cases this
     ·let⟨mm',z7⟩:=S5.at_ z;rw[y6]at z7;cases z7
     ·show(h6 c EF).mp (nc a c W EF e ((h6 a W).mpr h))
   ·rintro O H4 ⟨BB,D4,G,v5,v6,S,rfl,s4,S4,w5,z5,j5,j7⟩;have axj:=S4.B1;rw[aW,f8]at j5;have lcm:y3.length=#[183].length:=(jW _).symm;rw[lcm]at j5;show⟨_,?_,BB,D4,G,_,_,_,_,U,U,s4,S4,w5,j5.done⟩;rw[o8,jH,je];lia
  ·show cI _ _ ⟨gs,ws,ds,v4,v5,v6,S,U,s2,j,λa b W hb=>aaZ CO R y4 (Hop.single (j.alone (by rw[c,j.lg]))) W hb⟩
 rintro O H2 ⟨gs,ws,ds,v4,v5,v6,S,rfl,s2,j,r9⟩;let⟨d5,i5⟩:=j.pt.ob;show⟨_,U,x,C,d5,_,_,U,i5,pc.cl,pc.ng,U,k go gs H2 (sb.trans s2) (sb.free fg) j.go_ j.lg r9⟩
end
def abL(K:Yc):Sp:=λvs H Q E=>DY K akb vs H Q E\/DY K akc vs H Q E
def J3(xs:LI)(g:Int):EJ (xs++[g]) 0=EJ xs 0++[(Sum.inl g,V.int (xs.length:Int))]:=by unfold EJ;rw[QD,jD,Jc];rfl
theorem MY(o:qs.Nodup):∀i,dw [] (EJ #[184] 0)=EJ #[184] 0
 |0=>by rw[ZD];rfl
 |i+1=>by
  have K:=MY o i;cases e:qs[i]? with
  |none=>
   rw[jS,e];change dw [] (EJ (qs.take i++[]) 0)=EJ (qs.take i++[]) 0;rw[jh];show K
  |some g=>
   have x:qs.take (i+1)=qs.take i++[g]:=by rw[jS,e];rfl
   have X:=lH e;have a:g∉qs.take i:=λz=>by let⟨j,f,l⟩:=ji z;rw[jT]at f;rw[zX]at l;have:=(JY o).mp (l.trans X.2.symm);lia
   rw[x];change dw [] (EJ (qs.take i++[g]) 0)=_;have m:dw [] (EJ #[184] 0++[(Sum.inl g,V.int (#[184].length:Int))])=putK (dw [] (EJ #[184] 0)) (Sum.inl g) (V.int (#[184].length:Int)):=by unfold dw;rw[JC];rfl
   rw[J3,m,K,Pb a,J3]
def Fz(φ:Int->Int)(n:Nat):cx φ (n+1)=cx φ n++(if φ (n:Int)=(bx φ n:Int)then [n]else []):=by
 unfold cx;rw[JN,JX];congr 1;by_cases c:φ (n:Int)=(bx φ n:Int)
 ·rw[if_pos c,JL (by show decide_eq_true c)];rfl
 ·rw[if_neg c,JG (by rw[decide_eq_false c];decide)];rfl
def acy{q:Nat}(h:q∈cx φ n):q<n:=js.mp (jv.mp h).1
def DJ(R:aQ many wide rows){q t:Int}(X:0<=q)(G:q<(many:Int))(p:t∈rows.getD q.toNat []):∃f:Nat,f<wide/\t=stepI rows q f:=by
 have l:q.toNat<rows.length:=by rw[R.len];lia
 rw[getD_at l]at p;let⟨f,V,e⟩:=ji p;have d:=R.row _ (jO l);show⟨f,by lia,?_⟩;unfold stepI;rw[getD_at l,jG,getD_at V,e]
inductive DV (K:Yc) (vs:List V) (H:Hp) (Q:VK) (E:XK):Prop|mk (m r g:Qp) (many wide:Nat) (rows:LL) (signs:LI) (_:vs=[.ref m]) (_:bD H m r g wide rows signs) (_:aQ many wide rows) (_:signs.length=many) (_:(1<=many/\many<100000)) (_:wide<=100000) (_:∀(m' r' g':Qp) (az:LL) (aI:LI) (H':Hp),av H H'->bD H' m' r' g' wide az aI->dj wide rows az signs aI->Q (.ref m') H')
section
def afx(F:bu K "with_rooms" "with_rooms" dF dV f fd)(C:mg "tuple" = Y):aR P w K mg base cO 1 f fd ["machine","kept","numbers"] (abL K):=aR.or (adi F C) (adj F C)
def oE:aA ["machine","reached","small","numbers","firsts","groups","here","group"] ["machine"] (aq DN):=bQ #[0]
def Co:aY ["machine","reached","small","numbers","firsts","groups","here","group"] (aq DN) ["number","here"] [Y,Y] ⟨.function,[#[41],("number",.local),("here",.local)],false,false,[]⟩:=mH #[0]
def Iz:aY ["machine","reached","small","numbers","firsts","groups","here","group"] (aq DN) ["group","numbers"] [Y,Z 3] ⟨.function,[#[41],("group",.local),("numbers",.free)],false,false,[]⟩:=mH #[0]
def ae8(F:bu K "least" "least" DN dV f fd)(lO:bh P w K mg base "reached_rooms" 1 ["machine","start"] [.int 0] (Oa K))(pE:bh P w K mg base "with_rooms" 1 ["machine","kept","numbers"] [] (abL K))(lP:bh P w K mg base "unparted_groups" 4 ["machine"] [] (ajV K))(cY:mg "enumerate" = Y)(pq:mg "dict" = Y)(br:mg "len" = Y):aR P w K mg base cO 5 f fd ["machine"] (DV K):=by
 show F.ok oE #[18] (λcq A f7 s H vs Q E hr h=>?_)
 ·let⟨m,r,g,many,wide,rows,signs,rfl,_⟩:=h;rfl
 let⟨m,r,g,many,wide,rows,signs,rfl,M,R,ls,⟨n0,n1⟩,w1,k⟩:=h;have hu:=ow hr;show mD (aD (eI.mk (aB (i:=1) oE.nd (aK lO hr #[26])))
   (aD (eI.mk (aB (i:=2) oE.nd (aK pE hr (aa (pv 0) (aa (pv 1) (aa (aS (AB rfl) #[31] pq Hn (aa (fJ rfl Co (K9 rfl cY #[33]) (λ_ _ _ _=>(abl K (n:=2) rfl (dC (bj (i:=0) Co.nd) (dC (bj (i:=1) Co.nd) wH)))) (λ_ _ _ _=>(cA (aa (pv 1) #[26])))) af)) af))))))
   (aD (eI.mk (aB (i:=3) oE.nd rn))
   (aD (eI.mk (aB (i:=4) oE.nd (bS af)))
   (aD (eI.mk (aB (i:=5) oE.nd (aK lP hr #[75])))
   (aD (eI.mk (cf PassesOwn.never rfl (K9 rfl cY #[124]) (EX rfl (dC (bj (i:=6) oE.nd) (dC (bj (i:=7) oE.nd) wH))) (ao (bV (Pl (EV hu (pv 7) (pv 3)) #[22]) (ah (pH hu (pv 3) (pv 7) (aH Bu #[31] br bZ #[49]) rfl)
   (ao (bC (fZ Ye Yg Yh bX (pv 4) (aa (pv 6) af))))) aV))))
   (dM (eI.mk (aE (aK pE hr (aa (pv 2) (aa (pv 4) (aa (fJ rfl Iz (cU (pv 5)) (λ_ _ _ _=>(bj (i:=0) Iz.nd)) (λ_ _ _ _=>(iE hu (pv 1) (pv 0) #[2]))) af))))))))))))) ?_
 exists 0;show⟨_,U,m,r,g,many,wide,rows,signs,U,M,R,⟨n0,by lia⟩,λl H1 qs s1 o5 C=>?_⟩;have B1:=cL many C.nd C.inr;have h6:∀q∈qs,∃i6,Ej wide i6/\bp rows i6 0=q:=λq a=>(C.re q).mp a;let⟨R1,O1,p1,t1⟩:=SO (signs:=signs) R #[1] C.eq C.nd (λq a=>C.inr q a) h6;exists 25;show cg (t:=tT _ _) (λO H'=>∃m1 r1 g1:Qp,O=[Z #[136],Z #[102],Z (.ref m1),Y,Y,Y,Y,Y]/\av H H'/\bD H' m1 r1 g1 wide (eh rows (sM qs) qs) (dz signs qs)) ?_ #[27];exists 27
 ·exists _,rfl,_,rfl,_,rfl,l,rfl,⟨_,bM o5⟩;show U6 (K:=K) (xs:=qs.map V.int) (λD i N H'=>av H1 H'/\∃ts,N=ts.map V.ref/\mB H' ts (EJ #[184] 0)) (λT σ H Q i x h q=>⟨T,[.int i,x],U,bg h,U,.int i,[x],U,x,[],U,U,q⟩) (λD S=>⟨ak S _,[],U,.nil⟩) (λD i N H' _ ⟨e,_⟩=>bM (e _ _ o5)) ?_ ?_
  ·rintro D i y N H2 T0 Q' S hi hy ⟨s2,ts,rfl,pv⟩ g7 k';let⟨q,rfl,a⟩:=cy hi;have il:=(lH a).1;have h7:=ak g7 (HO.tup [V.int i,V.int q]);show⟨_,U,_,U,#[14],λT hT=>?_⟩;have sT:=ak hT (HO.tup [V.int q,V.int i]);let⟨B,o⟩:=gn (upd (upd H2 T0 (HO.tup [V.int i,V.int q])) T (HO.tup [V.int q,V.int i]));have i7:B T=Z (.tup [V.int q,V.int i]):=by rw[<-o,ae]
   rw[o]at sT ⊢;have X:=h7.trans sT;have k6:=X _ _ hy;have u7:ts.length=i:=by rw[Paired.length pv,wA,jT];lia
   show k' _ _ k6 (bI #[25]) ⟨au (s2.trans X) S,ts++[T],by rw[jD];rfl,?_⟩;have up:∀b xs,B b=Z #[42]->(upd B D (.lst (ts.map V.ref++[V.ref T]))) b=Z #[42]:=λb xs e=>by rw[aj (aO e k6 #[3])];show e
   have et:qs.take (i+1)=qs.take i++[q]:=by rw[jS,a];rfl
   have ll:#[184].length=i:=by rw[jT];lia
   rw[et,J3,ll];show Paired.snoc (mB.same pv λb xs e=>up b xs (X _ _ e)) (up _ _ i7)
  ·rintro L N H2 fL hL ⟨s2,ts,rfl,pv⟩;rw[aW,jV]at pv;show⟨L,ts,_,U,hL,pv,λD S=>?_⟩;have mk:=MY C.nd qs.length;rw[jV]at mk;rw[mk];have X:=s2.trans (ak S (HO.dK (EJ qs 0)));show .inl ⟨m,l,D,r,g,many,wide,rows,signs,qs,sM qs,U,M.same λb xs e=>X _ _ (s1 _ _ e),R,ls,⟨by lia,w1⟩,X _ _ o5,by lia,C.inr,⟨_,ae,λq a t ht=>?_⟩,λm1 r1 g1 B s4 M3=>?_⟩
   ·have qi:=C.inr q a;let⟨f,hf,e⟩:=DJ R qi.1 qi.2 ht;have tq:t∈qs:=(C.re t).mpr (by rw[e];show((C.re q).mp a).step #[1] #[1]);rw[BE,if_pos tq,Jc];rfl
   ·show cI _ _ ⟨m1,r1,g1,U,(s1.trans X).trans s4,M3⟩
 rintro O H2 ⟨m1,r1,g1,rfl,s2,M2⟩;show λv w5=>⟨#[15],λG z5=>?_⟩;let⟨B,o⟩:=gn (upd (upd H2 v (HO.dK [])) G #[74]);have X:av H2 B:=by rw[<-o];show(ak w5 _).trans (ak z5 _)
 have c6:v≠G:=ar ae z5;have RC:B v=Z (.dK []):=by rw[<-o,aj c6,ae]
 have y4:B G=Z #[171]:=by rw[<-o,ae]
 have fN:H v=Y:=s2.free w5;have fF:H G=Y:=s2.free ((ak w5 (HO.dK [])).free z5);rw[o];have l6:(dz signs qs).length=qs.length:=by unfold dz;rw[aW]
 have d5:aQ qs.length wide (eh rows (sM qs) qs):=R1;show⟨_,U,m1,r1,g1,qs.length,wide,_,_,U,M2.same λb xs e=>X _ _ e,d5,l6,by lia,w1,λgo gs H4 s4 i5 RH lg hg=>?_⟩;have o6:av H2 H4:=X.trans s4;have M4:=M2.same λb xs e=>o6 _ _ e;exists 25;show cg (t:=pQ _ _ _) (λO H'=>∃v6 v7:OV,O=[Z #[136],Z #[102],Z (.ref m1),Z (.ref v),Z (.ref G),Z (.ref go),v6,v7]/\(∀c u,c≠v->c≠G->H4 c=Z u->H' c=Z u)/\H' v=Z (.dK (EJ (bU gs) 0))/\H' G=Z (.lst ((#[107].map λi:Nat=>(i:Int)).map V.int))) ?_ #[27];exists 27
 ·have j7:go≠v:=aO RH (s4 _ _ RC) #[3];have k7:go≠G:=λz=>by rw[z,y4]at i5;cases i5
  show⟨_,U,go,U,⟨_,bM RH⟩,MM (K:=K) (xs:=gs.map V.int) (λi O H'=>∃v6 v7:OV,O=[Z #[136],Z #[102],Z (.ref m1),Z (.ref v),Z (.ref G),Z (.ref go),v6,v7]/\(∀c u,c≠v->c≠G->H4 c=Z u->H' c=Z u)/\H' v=Z (.dK (EJ (bU (gs.take i)) 0))/\H' G=Z (.lst (((cx (sA gs) i).map λi:Nat=>(i:Int)).map V.int)))
   ⟨Y,Y,rfl,λ_ _ _ _ e=>e,s4 _ _ RC,s4 _ _ y4⟩ (λi O H' _ ⟨_,_,_,e,_,_⟩=>bM (e _ _ j7 k7 RH)) ?_ ?_⟩
  ·rintro i y O H5 T hi ⟨v6,v7,rfl,j,W,I⟩ hT;let⟨J,rfl,p⟩:=cy hi;have il:=(lH p).1;have sT:=ak hT (HO.tup [V.int i,V.int J]);let⟨H6,u6⟩:=gn (upd H5 T (HO.tup [V.int i,V.int J]));have m7:H6 T=Z (.tup [V.int i,V.int J]):=by rw[<-u6];show ae
   rw[u6]at sT ⊢;have j5:=sT _ _ W;have d6:=sT _ _ I;have ol:=Dv (gs.take i);rw[jT]at ol;have cp:=OU gs (m:=i) #[1];have fl:=rj (sA gs) i;exists T,_,rfl,bg m7,rfl,_,_,rfl,_,_,rfl,rfl;exists _,rfl,_,rfl,v,_,rfl,lG.k (k:=Sum.inl J) j5,_,rfl;rw[BE];by_cases c:J∈bU (gs.take i)
   ·rw[if_pos c];show ox ⟨_,_,U,λc' u c1 c2 e=>sT _ _ (j c' u c1 c2 e),by rw[j5,pS p,sX c],?_⟩;have ph:=HC p c;have lt:=jx c;rw[d6,Fz,if_neg (by rw[ph,cp];lia),jh]
   ·rw[if_neg c];show Cu ⟨_,U,v,_,U,j5,_,U,_,U,v,_,U,Ea.k (k:=Sum.inl J) j5 (bI (by rw[wA];lia)),?_⟩;rw[wA,Pb c];have y6:G≠v:=Ne.symm c6;have ph:=HB p c;show⟨_,U,.inl ⟨U,_,bM (by rw[aj y6];show d6)⟩,_,U,G,_,_,U,U,(by rw[aj y6];show d6),bI (by rw[aW,aW,fl,cp];lia),?_⟩;show⟨_,_,U,λc' u c1 c2 e=>by rw[aj c2,aj c1];show sT _ _ (j c' u c1 c2 e),by rw[aj c6,ae,pS p,mG c],?_⟩;rw[ae,Fz,if_pos (by rw[ph,cp]),jD,jD];rfl
  ·rintro O H5 ⟨v6,v7,rfl,j,W,I⟩;rw[aW,jV]at W;rw[aW]at I;show cI _ _ ⟨v6,v7,U,j,W,I⟩
 rintro O H5 ⟨v6,v7,rfl,j,W,I⟩;have s5:av H H5:=λc u e=>j c u (λz=>by rw[z,fN]at e;cases e) (λz=>by rw[z,fF]at e;cases e) (o6 _ _ (s2 _ _ e));have M5:bD H5 m1 r1 g1 wide (eh rows (sM qs) qs) (dz signs qs):=M4.same λb xs e=>j b _ (aO e (s4 _ _ RC) #[3]) (aO e (s4 _ _ y4) #[3]) e;have z6:H5 go=Z (.lst (gs.map V.int)):=j _ _ (aO RH (s4 _ _ RC) #[3]) (λz=>by rw[z,y4]at i5;cases i5) RH;have c7:(ir gs).length=gs.length:=by unfold ir;rw[aW,jd]
 exists _,rfl,_,rfl,_,rfl,go,rfl,⟨_,bM z6⟩;show iX (K:=K) (xs:=gs.map V.int) (λD i N H'=>av H5 H'/\N=((ir gs).take i).map V.int) (λD S=>⟨ak S _,U⟩) (λD i N H' _ ⟨e,_⟩=>bM (e _ _ z6)) ?_ ?_
 ·rintro D i y N H6 Q' S hi hy ⟨s6,rfl⟩ k';let⟨J,rfl,p⟩:=cy hi;have il:=(lH p).1;have om:J∈bU gs:=Dx.mpr (tw p);have ph:sA gs (i:Int)=(((bU gs).idxOf J:Nat):Int):=by unfold sA;rw[jG,jQ,p];rfl
  have dg:lG H6 v (.int J) (Z (.int (sA gs (i:Int)))):=by have d:=lG.k (k:=Sum.inl J) (s6 _ _ W);rw[BE,if_pos om,Jc,<-ph]at d;show d
  have hp:(ir gs)[i]?=Z (sA gs (i:Int)):=by unfold ir;rw[jR,zx il];rfl
  show⟨_,U,_,U,v,_,U,dg,k' _ _ hy (bI (by rw[aW,jT];lia)) ⟨au s6 S,?_⟩⟩;rw[jS,hp,jD];rfl
 ·rintro L N H6 fL hL ⟨s6,rfl⟩;rw[aW,<-c7,jV]at hL;have fi:∀q∈#[107].map (λi:Nat=>(i:Int)),0<=q/\q<(qs.length:Int):=λq a=>by let⟨i,hi,rfl⟩:=jK.mp a;have:=acy hi;lia
  have o7:(#[107].map λi:Nat=>(i:Int)).length<=100000:=by rw[aW];have:=JR (λq:Nat=>decide (sA gs (q:Int)=(bx (sA gs) q:Int))) (jg gs.length);rw[jd]at this;unfold cx;lia
  show .inr ⟨m1,G,L,r1,g1,qs.length,wide,_,_,_,sA gs,U,M5.same λb xs e=>s6 _ _ e,d5,l6,⟨by lia,w1⟩,s6 _ _ I,o7,fi,⟨ir gs,hL,λq a t ht=>?_⟩,λm' r' g' H7 s7 M7=>?_⟩
  ·have qi:=fi q a;let⟨f,hf,e⟩:=DJ d5 qi.1 qi.2 ht;have tv:=cP d5 qi.1 qi.2 (f:=(f:Int)) #[1] #[1];rw[<-e]at tv;have d7:t<(gs.length:Int):=by rw[lg];show tv.2
   show⟨⟨tv.1,by rw[c7];show d7⟩,?_⟩;have:=DC (gs:=gs) tv.1 d7;unfold bG at this;show this.symm
  ·show k m' r' g' _ _ H7 ((s5.trans s6).trans s7) M7 ?_;have L:=RY (signs:=signs) (gs:=gs) R #[1] C.eq C.nd (λq a=>C.inr q a) h6 lg (λx y hx hy=>by have h:=hg (x:Int) (y:Int) ⟨by lia,by lia⟩ ⟨by lia,by lia⟩;unfold bG at h;rw[jG,jG]at h;show h)
   have el:#[13].length=gs.length:=by rw[aW,lg]
   rw[DH,el,<-lg]at L;have e1:eh (eh rows (sM qs) qs) (sA gs) (#[107].map λi:Nat=>(i:Int))=#[107].map λi=>(#[13].getD i []).map (sA gs):=by unfold eh;rw[JQ];rfl
   have e2:dz (dz signs qs) (#[107].map λi:Nat=>(i:Int))=#[107].map λq=>(qs.map λq=>signs.getD q.toNat 0).getD q 0:=by unfold dz;rw[JQ];rfl
   rw[e1,e2];show L
end
def afC{q m k:Nat}(h:cD q m (r::rs)=Z k):q<m/\∃m1,bO m r=Z m1/\cD (q+1) m1 rs=Z k:=by
 unfold cD at h;by_cases c:q<m
 ·rw[if_pos c]at h;cases e:bO m r with
  |none=>rw[e]at h;cases h
  |some m1=>rw[e]at h;show⟨c,m1,rfl,h⟩
 ·rw[if_neg c]at h;cases h
def adF{f:Int}:bp rows (v++[f]) 0=stepI rows (bp rows v 0) f:=by rw[cW];rfl
theorem CC{P:Int->Prop}:∀{r:LI} {m m1:Nat},bO m r=Z m1->(∀i:Nat,i<m->P (i:Int))->(∀t∈r,P t)->∀i:Nat,i<m1->P (i:Int)
 |[],m,m1,h,N,_=>by have e:m=m1:=Option.some.inj h;subst e;show N
 |t::r,m,m1,h,N,p=>by
  have O:#[48]=Z m1:=h;have f:∀t∈r,P t:=λx J=>p x (jF _ J);by_cases c:t=(m:Int)
  ·rw[if_pos c]at O;show CC O (λi W=>?_) f;by_cases d:i=m
   ·rw[d,<-c];show p t jA
   ·show N i #[1]
  ·rw[if_neg c]at O;by_cases d:t<(m:Int)
   ·rw[if_pos d]at O;show CC O N f
   ·rw[if_neg d]at O;cases O
theorem FR{P:Int->Prop}:∀{rs:LL} {q m k:Nat},cD q m rs=Z k->(∀i:Nat,i<m->P (i:Int))->(∀(j:Nat) (r:LI),rs[j]?=Z r->P ((q+j:Nat):Int)->∀t∈r,P t)->∀i:Nat,i<k->P (i:Int)
 |[],q,m,k,h,N,_=>by have e:m=k:=Option.some.inj h;subst e;show N
 |r::rs,q,m,k,h,N,S=>by let⟨c,m1,a,z⟩:=afC h;show FR z (CC a N (S 0 r rfl (N q c))) λj F f D=>S (j+1) F f ?_;rw[show q+(j+1)=q+1+j by lia];show D
def pF.Pp(R:aQ rows.length wide rows)(O:pF rows):∀i:Nat,i<rows.length->∃v,Ej wide v/\bp rows v 0=(i:Int):=by
 show FR (P:=λq=>∃v,Ej wide v/\bp rows v 0=q) O (λi W=>⟨[],(λf V=>by cases V),by rw[show i=0 by lia];rfl⟩) ?_;rintro j r a ⟨v,N,e⟩ t p;rw[Jc]at e;let⟨f,V,w⟩:=ji p;have d:r.length=wide:=R.row r (tw a);show⟨v++[(f:Int)],λg m=>?_,?_⟩
 ·rcases BF.mp m with z|z
  ·show N g z
  ·rw[jI.mp z];lia
 ·rw[adF,e];have B:rows.getD j []=r:=by rw[jQ,a];rfl
  unfold stepI;rw[jG,jG,B,getD_at V,w]
def Tells.on{a b:Int}(h:Tells wide rows az signs aI a b)(N:Ej wide v):Tells wide rows az signs aI (bp rows v a) (bp az v b):=λu C=>by
 have:=h (v++u) λf V=>by
  rcases BF.mp V with z|z
  ·show N f z
  ·show C f z
 rw[cW,cW]at this;show this
def dj.B1(h:dj wide rows az signs aI)(R:aQ many wide rows)(m0:1<=many):az.length<=many:=by
 have M:∀i:Nat,∃p:Int,i<az.length->(0<=p/\p<(many:Int))/\Tells wide rows az signs aI p (i:Int):=λi=>by
  by_cases c:i<az.length
  ·let⟨v,N,O⟩:=h.ord.Pp h.ok i c;show⟨bp rows v 0,λ_=>⟨oG R N #[1] #[1],?_⟩⟩;have:=Tells.on h.tells N;rw[O]at this;show this
  ·show⟨0,λz=>absurd z c⟩
 let⟨F,X⟩:=Classical.axiomOfChoice M;have o:((jg az.length).map F).Nodup:=zM.mpr (List.nodup_range.imp_of_mem λ{a b} W B t z=>t (by have e:=js.mp W;have f:=js.mp B;have d:=(X a e).2;have g:=(X b f).2;rw[z]at d;have:=h.apart (a:Int) (b:Int) ⟨by lia,by lia⟩ ⟨by lia,by lia⟩ (Tells.right d g);lia))
 have:=cL many o λq l=>by let⟨i,j,rfl⟩:=jK.mp l;show(X i (js.mp j)).1
 rw[aW,jd]at this;show this
section
variable[DecidableEq α]
def AW(st:α->Nat->α)(b:α)(v:LI):α:=v.foldl (λp f=>st p f.toNat) b
def lW(st:α->Nat->α)(b:α)(v:LI)(f:Int):AW st b (v++[f])=st (AW st b v) f.toNat:=by unfold AW;rw[JC];rfl
structure LP(st:α->Nat->α)(b:α)(wide:Nat)(ps:List α)(rows:LL):Prop where
 nd:ps.Nodup
 hd:ps[0]?=Z b
 le:rows.length<=ps.length
 row:∀(i:Nat) (r:LI),rows[i]?=Z r->r.length=wide
 to:∀(i:Nat) (r:LI) (f:Nat) (t:Int),rows[i]?=Z r->r[f]?=Z t->∃(n:Nat) (p:α),t=(n:Int)/\ps[i]?=Z p/\ps[n]?=Z (st p f)
 re:∀p∈ps,∃v,Ej wide v/\AW st b v=p
structure FU(st:α->Nat->α)(b:α)(wide:Nat)(ps:List α)(rows:LL)(p:α)(r:LI):Prop where
 nd:ps.Nodup
 hd:ps[0]?=Z b
 at_:ps[rows.length]?=Z p
 row:∀(i:Nat) (r:LI),rows[i]?=Z r->r.length=wide
 to:∀(i:Nat) (r:LI) (f:Nat) (t:Int),rows[i]?=Z r->r[f]?=Z t->∃(n:Nat) (p:α),t=(n:Int)/\ps[i]?=Z p/\ps[n]?=Z (st p f)
 now:∀(f:Nat) (t:Int),r[f]?=Z t->∃n:Nat,t=(n:Int)/\ps[n]?=Z (st p f)
 re:∀p∈ps,∃v,Ej wide v/\AW st b v=p
variable{st:α->Nat->α}{b:α}{ps:List α}{p:α}
def LP.start(st:α->Nat->α)(b:α)(wide:Nat):LP st b wide [b] []:=
 ⟨jm.mpr ⟨by simp,Jg⟩,rfl,jb _,(λi r h=>by cases h),(λi r f t h=>by cases h),λp D=>⟨[],(λf V=>by cases V),by rw[jI.mp D];rfl⟩⟩
def LP.next(g:LP st b wide ps rows)(h:ps[rows.length]?=Z p):FU st b wide ps rows p []:=
 ⟨g.nd,g.hd,h,g.row,g.to,(λf t h=>by cases h),g.re⟩
def FU.old(g:FU st b wide ps rows p r)(h:ps[n]?=Z (st p r.length)):FU st b wide ps rows p (r++[(n:Int)]):=by
 show⟨g.nd,g.hd,g.at_,g.row,g.to,λf t V=>?_,g.re⟩;rcases snoc_cases V with z|⟨rfl,rfl⟩
 ·show g.now f t z
 ·show⟨n,U,h⟩
theorem FU.new(g:FU st b wide ps rows p r)(j:r.length<wide)(h:st p r.length∉ps):FU st b wide (ps++[st p r.length]) rows p (r++[(ps.length:Int)]):=by
 have up:∀(n:Nat) (x:α),ps[n]?=Z x->(ps++[st p r.length])[n]?=Z x:=λn x J=>by rw[JA (lH J).1];show J
 show⟨nd_snocA g.nd h,up _ _ g.hd,up _ _ g.at_,g.row,λi F f t G M=>?_,λf t V=>?_,λx J=>?_⟩
 ·let⟨n,q,T,d,l⟩:=g.to i F f t G M;show⟨n,q,T,up _ _ d,up _ _ l⟩
 ·rcases snoc_cases V with z|⟨rfl,rfl⟩
  ·let⟨n,T,d⟩:=g.now f t z;show⟨n,T,up _ _ d⟩
  ·show⟨ps.length,U,by rw[JD (jE _),zO];rfl⟩
 ·rcases BF.mp J with z|z
  ·show g.re x z
  ·let⟨v,N,e⟩:=g.re p (tw g.at_);show⟨v++[(r.length:Int)],λf V=>?_,?_⟩
   ·rcases BF.mp V with y|y
    ·show N f y
    ·rw[jI.mp y];lia
   ·rw[lW,e,jG,jI.mp z]
where
 nd_snocA {xs:List α} {x:α} (h:xs.Nodup) (n:x∉xs):(xs++[x]).Nodup:=
  JM.mpr ⟨h,jm.mpr ⟨by simp,Jg⟩,λa W c L e=>n (by rw[<-jI.mp L,<-e];show W)⟩
def FU.done(g:FU st b wide ps rows p r)(j:r.length=wide):LP st b wide ps (rows++[r]):=by
 have lt:=(lH g.at_).1;show⟨g.nd,g.hd,by rw[jH,je];lia,λi F h=>?_,λi F f t G M=>?_,g.re⟩
 ·rcases snoc_cases h with z|⟨_,rfl⟩
  ·show g.row i F z
  ·show j
 ·rcases snoc_cases G with z|⟨rfl,rfl⟩
  ·show g.to i F f t z M
  ·let⟨n,T,a⟩:=g.now f t M;show⟨n,p,T,g.at_,a⟩
def LP.ok(g:LP st b wide ps rows)(h:rows.length=ps.length):aQ rows.length wide rows:=by
 show⟨U,λr S=>?_,λr S v N=>?_⟩
 ·let⟨i,W,e⟩:=ji S;show g.row i r (by rw[jC W,e])
 ·let⟨i,W,e⟩:=ji S;let⟨f,V,w⟩:=ji N;let⟨n,p,T,_,l⟩:=g.to i r f v (by rw[jC W,e]) (by rw[jC V,w]);have:=(lH l).1;lia
theorem LP.walk(g:LP st b wide ps rows)(h:rows.length=ps.length):∀(v:LI) (n:Nat) (p:α),Ej wide v->ps[n]?=Z p->∃k:Nat,bp rows v (n:Int)=(k:Int)/\ps[k]?=Z (v.foldl (λp f=>st p f.toNat) p)
 |[],n,p,_,D=>⟨n,rfl,D⟩
 |f::v,n,p,N,D=>by
  have V:=N f jA;have y:=(lH D).1;have u:n<rows.length:=by lia
  have e:=g.row n _ (jC u);have a:f.toNat<(rows[n]).length:=by lia
  let⟨k,q,T,c,l⟩:=g.to n _ f.toNat _ (jC u) (jC a);rw[D]at c;have eq:=Option.some.inj c;subst eq;let⟨j,d,i⟩:=g.walk h v k _ (λx J=>N x (jF _ J)) l;show⟨j,?_,i⟩;change bp rows v (stepI rows (n:Int) f)=_;unfold stepI;rw[jG,getD_at u,getD_at a,T];show d
def LP.told(g:LP st b wide ps rows)(h:rows.length=ps.length)(N:Ej wide v):∃k:Nat,bp rows v 0=(k:Int)/\ps[k]?=Z (AW st b v):=g.walk h v 0 b N g.hd
end
def bP.up{m:Str}{k:Nat}{ps:List Str}(G:bP P w K mg base C m j ps sp)(h:j<=k:=by decide):bP P w K mg base C m k ps sp:=by let⟨f,fd,N,B,F⟩:=G.ex;show⟨G.cl,f,fd,N,B,F.len,λA I s H c a n Q E S=>F.run A I s H c a n Q E (S.mono h)⟩
def fs(ks:List #[78]):List κ:=ks.map (·.1)
def ED(ks:List #[78]):(fs ks).length=ks.length:=jW ..
def V6(ks qs:List #[78]):fs (ks++qs)=fs ks++fs qs:=jD ..
section
variable[DecidableEq κ]
def pvK(kd:KD κ)(p:κ×Qp):V:=kd.val p.1 p.2
def pks{kd:KD κ}{ks:List #[78]}(h:PKs kd H ks)(s:∀b xs,H b=Z #[42]->H' b=Z #[42]):PKs kd H' ks:=λp D=>kd.same (h p D) s
structure TZ(kd:KD κ)(C x:Qp)(wide:Nat)(W:Hp->Prop)(OkP:κ->Prop)(st:κ->Nat->κ)(b0:κ)(sg:κ->Int)(spB spS spG:Sp):Prop where
 same:∀H H',av H H'->W H->W H'
 ob:∀H,W H->∃(dx:Qp) (fs:List (Str×V)),H x=Z #[118]/\fs.lookup ("begin" : Str)=Y/\fs.lookup ("step" : Str)=Y/\fs.lookup ("sign" : Str)=Y
 begin:∀(H:Hp) (Q:VK) (E:XK),W H->(∀(t:Qp) (H':Hp),av H H'->kd.kat H' b0 t->Q (kd.val b0 t) H')->spB [.ref x] H Q E
 step:∀(H:Hp) (Q:VK) (E:XK) (b:Qp) (u:κ) (f:Nat) (fi:Int),fi=(f:Int)->W H->kd.kat H u b->OkP u->f<wide->(∀(t:Qp) (H':Hp),av H H'->kd.kat H' (st u f) t->Q (kd.val (st u f) t) H')->spS [.ref x,kd.val u b,.int fi] H Q E
 sign:∀(H:Hp) (Q:VK) (E:XK) (b:Qp) (u:κ),W H->kd.kat H u b->OkP u->(∀H':Hp,av H H'->Q (.int (sg u)) H')->spG [.ref x,kd.val u b] H Q E
 ok0:OkP b0
 okS:∀u f,OkP u->f<wide->OkP (st u f)
theorem lV{OkP:κ->Prop}{st:κ->Nat->κ}(r:∀u f,OkP u->f<wide->OkP (st u f)):∀(v:LI) (b:κ),OkP b->Ej wide v->OkP (AW st b v)
 |[],b,B,_=>B
 |f::v,b,B,W=>by show lV r v _ (r _ _ B ?_) λg m=>W g (jF _ m);have:=W f jA;lia
def adP(st:κ->Nat->κ)(b0:κ)(wide:Nat):Prop:=∀ps:List κ,ps.Nodup->(∀p∈ps,∃v,Ej wide v/\AW st b0 v=p)->ps.length<100000
inductive Bj (kd:KD κ) (C:Qp) (spB spS spG:Sp) (vs:List V) (H:Hp) (Q:VK) (E:XK):Prop|mk (x:Qp) (wide:Nat) (W:Hp->Prop) (OkP:κ->Prop) (st:κ->Nat->κ) (b0:κ) (sg:κ->Int) (_:vs=[.ref x,.int wide,.int 100000]) (_:W H) (_:TZ kd C x wide W OkP st b0 sg spB spS spG) (_:wide<=1000) (_:adP st b0 wide) (_:∀(m' r' g':Qp) (az:LL) (ps:List κ) (H':Hp),av H H'->bD H' m' r' g' wide az (ps.map sg)->LP st b0 wide ps az->az.length=ps.length->ps.length<100000->Q (.ref m') H')
section
variable{kd:KD κ}{spB spS spG:Sp}
def eF:aA ["walk","wide","most","begin","numbers","rows","level","fresh","place","row","figure","there","number"] ["walk","wide","most"] (aq DM):=bQ #[0]
def Iy:aY ["walk","wide","most","begin","numbers","rows","level","fresh","place","row","figure","there","number"] (aq DM) ["place","walk"] [Y,Z 0] ⟨.function,[#[41],("place",.local),("walk",.free)],false,false,[]⟩:=mH #[0]
def BG(F:bu K "grown" "grown" DM dV f fd)(Ao:bP P w K mg base C "begin" 6 ["self"] spB)(CY:bP P w K mg base C "step" 6 ["self","place","figure"] spS)(CV:bP P w K mg base C "sign" 6 ["self","place"] spG)(bw:mg "range" = Y)(br:mg "len" = Y)(aF:mg "tuple" = Y):aR P w K mg base cO 7 f fd ["walk","wide","most"] (Bj kd C spB spS spG):=by
 show F.ok eF #[18] (λcq A f9 s H vs Q E hr h=>?_)
 ·let⟨x,wide,W,d7,st,M,sg,rfl,_⟩:=h;rfl
 let⟨x,wide,W,d7,st,M,sg,rfl,f7,T,w1,B1,k⟩:=h;have g7:=aeM hr;let⟨dx,fs0,h8,fB,fS,fG⟩:=T.ob H f7;show mD (aD (eI.mk (aB (i:=3) eF.nd (K7 Ao hr (pv 0))))
   (aD (eI.mk (aB (i:=4) eF.nd (afH (kd:=kd) g7 (oB (pv 3) ag DF))))
   (aD (eI.mk (aB (i:=5) eF.nd (bS af)))
   (aD (eI.mk (aB (i:=6) eF.nd (bS #[49])))
   (aD (eI.mk (oC PassesOwn.never (AX (pv 6) (λ_=>rfl)) (ah (aB (i:=7) eF.nd (bS af))
   (ah (cf PassesOwn.never rfl (cU (pv 6)) (bj (i:=8) eF.nd) (ah (aB (i:=9) eF.nd (bS af))
   (ah (cf PassesOwn.never rfl (de rfl bw #[33]) (bj (i:=10) eF.nd) (ah (aB (i:=11) eF.nd (mq CY hr (pv 0) (aa (pv 8) (aa (pv 10) af))))
   (ah (aB (i:=12) eF.nd (aio (kd:=kd) g7 (pv 4) (pv 11) ⟨rfl,rfl,rfl,rfl⟩))
   (ah (bV (aG Z1 (pv 12) K8 (aL _)) (ah (aB (i:=12) eF.nd (aH ((acf (kd:=kd))) #[31] br bZ #[125]))
   (ah (bV (aG afz (pv 12) (pv 2) (aL _)) (ao iz) aV)
   (ah (aiw (kd:=kd) g7 (pv 4) (pv 11) (pv 12) rfl)
   (ao (bC (fZ Ye Yg Yh bX (pv 7) (aa (pv 11) af))))))) aV)
   (ao (bC (fZ Ye Yg Yh bX (pv 9) (aa (pv 12) af))))))))
   (ao (bC (fZ Ye Yg Yh bX (pv 5) (aa (aS bq #[31] aF bJ (aa (pv 9) af)) af)))))))
   (ao (aB (i:=6) eF.nd (pv 7)))))))
   (dM (abV (abW (cV (Em.mk (pv 1)) (cV (Em.mk (aS bq #[31] aF bJ #[124])) (cV (Em.mk (aS bq #[31] aF bJ (aa (fJ rfl Iy (((afN (kd:=kd))) (pv 4)) (λ_ _ _ _=>(bj (i:=0) Iy.nd)) (λ_ _ _ _=>(mq CV hr (pv 1) #[26]))) af))) Fq))))))))))) ?_
 exists 0;show⟨_,U,x,dx,_,U,h8,fB,T.begin _ _ _ f7 λg H0 s0 j8=>?_⟩;have hW:=T.same _ _ s0 f7;have hx:=s0 _ _ h8;have k:=λm' r' g' az ps H' (s:av H0 H')=>k m' r' g' az ps H' (s0.trans s);show λD hD=>?_;have sD:=ak hD (eZ kd P w D []);show⟨_,U,ae,g,M,U,kd.same j8 (λb xs e=>sD _ _ e),?_⟩;let⟨H1,h7⟩:=gn (upd (upd H0 D (eZ kd P w D [])) D (eZ kd P w D [(M,g)]));have s1:av H0 H1:=by rw[<-h7];show au sD hD
 have PR:H1 D=Z (eZ kd P w D [(M,g)]):=by rw[<-h7,ae]
 rw[h7];show⟨#[15],λN i7=>?_⟩;have sR:=ak i7 #[74];have k8:D≠N:=ar PR i7;show⟨_,U,#[73],λL0 j7=>?_⟩;let⟨H2,Rz⟩:=gn (upd (upd H1 N #[74]) L0 (HO.lst [kd.val M g]));have DK:av H1 H2:=by rw[<-Rz];show sR.trans (ak j7 _)
 have g9:H2 N=Z #[171]:=by rw[<-Rz,aj (ar ae j7),ae]
 have V8:H2 L0=Z (.lst [kd.val M g]):=by rw[<-Rz,ae]
 have s2:=s1.trans DK;have h9:H0 N=Y:=s1.free i7;rw[Rz];exists 1;show cg (t:=sU _ _) (λO H'=>∃(ks:List #[78]) (az:LL) (fz:List Qp) (v6 v7 S v9 X a d:OV),O=[Z #[164],Z #[176],Z #[179],Z (kd.val M g),Z #[103],Z (.ref N),v6,v7,S,v9,X,a,d]/\av H0 H'/\H' D=Z (eZ kd P w D ks)/\PKs kd H' ks/\H' N=Z (.lst #[63])/\bF H' fz az/\LP st M wide (fs ks) az/\az.length=ks.length) ?_ #[27];exists 27
 ·show sd (λmm O H'=>∃(ks:List #[78]) (az:LL) (fz:List Qp) (L:Qp) (v7 S v9 X a d:OV),mm=100000-az.length/\O=[Z #[164],Z #[176],Z #[179],Z (kd.val M g),Z #[103],Z (.ref N),Z (.ref L),v7,S,v9,X,a,d]/\av H0 H'/\H' D=Z (eZ kd P w D ks)/\PKs kd H' ks/\H' N=Z (.lst #[63])/\bF H' fz az/\LP st M wide (fs ks) az/\H' L=Z (.lst ((ks.drop az.length).map (pvK kd)))/\N≠L)
   ⟨_,[(M,g)],[],[],L0,Y,Y,Y,Y,Y,Y,rfl,rfl,s2,DK _ _ PR,λp hp=>by rw[jI.mp hp];show kd.same j8 λb xs e=>s2 _ _ e,g9,.nil,LP.start _ _ _,V8,ar ae j7⟩ ?_
  rintro mm O H3 ⟨ks,az,fz,L,v7,S,v9,X,a,d,rfl,rfl,s3,LS,c6,o5,A3,G,IP,i9⟩;have gl:=G.le;have fk:=ED ks;have lk:=B1 _ G.nd G.re;by_cases en:ks.length<=az.length
  ·have e0:ks.drop az.length=[]:=Jt.mpr en;rw[e0]at IP;show⟨_,U,_,.inl ⟨_,bM IP,U⟩,ox ?_⟩;show cI _ _ ⟨ks,az,fz,_,v7,S,v9,X,a,d,U,s3,LS,c6,o5,A3,G,by lia⟩
  let⟨xs,k7⟩:=gn ((ks.drop az.length).map (pvK kd));have m8:xs.length=ks.length-az.length:=by rw[<-k7,aW,Jw]
  rw[k7]at IP;exists _,rfl,_,.inl ⟨_,bM IP,rfl⟩;rw[show(!xs.isEmpty)=true by
   cases xs with
   |nil=>exfalso;rw[Jq]at m8;lia
   | cons x r=>rfl]
  show Cu ⟨λO H'=>∃m',m'<100000-az.length/\∃(ks:List #[78]) (az:LL) (fz:List Qp) (L:Qp) (v7 S v9 X a d:OV),m'=100000-az.length/\O=[Z #[164],Z #[176],Z #[179],Z (kd.val M g),Z #[103],Z (.ref N),Z (.ref L),v7,S,v9,X,a,d]/\av H0 H'/\H' D=Z (eZ kd P w D ks)/\PKs kd H' ks/\H' N=Z (.lst #[63])/\bF H' fz az/\LP st M wide (fs ks) az/\H' L=Z (.lst ((ks.drop az.length).map (pvK kd)))/\N≠L,λ_ _ h=>h,?_⟩;show⟨#[15],λFr w5=>?_⟩;have sF:=ak w5 #[74];have j9:H0 Fr=Y:=s3.free w5;have o8:D≠Fr:=ar LS w5;have m7:N≠Fr:=ar o5 w5;have k9:L≠Fr:=ar IP w5;let⟨H4,LQ⟩:=gn (upd H3 Fr #[74]);have t4:av H3 H4:=by rw[<-LQ];show sF
  have l9:H4 Fr=Z #[171]:=by rw[<-LQ,ae]
  rw[LQ];exists 1;show⟨_,U,L,U,⟨_,bM (t4 _ _ IP)⟩,fW (K:=K) (xs:=xs) (λi O H'=>∃(di:LL) (qs:List #[78]) (CF:List Qp) (S v9 X a d:OV),
    O=[Z #[164],Z #[176],Z #[179],Z (kd.val M g),Z #[103],Z (.ref N),Z (.ref L),Z (.ref Fr),S,v9,X,a,d]/\av H0 H'/\H' D=Z (eZ kd P w D (ks++qs))/\PKs kd H' (ks++qs)/\H' N=Z (.lst (CF.map V.ref))/\bF H' CF di/\LP st M wide (fs (ks++qs)) di/\di.length=az.length+i/\H' Fr=Z (.lst (qs.map (pvK kd)))/\H' L=Z #[133])
   ⟨az,[],fz,S,v9,X,a,d,rfl,s3.trans t4,by rw[jh];show t4 _ _ LS,by rw[jh];show pks c6 (λb xs e=>t4 _ _ e),t4 _ _ o5,A3.same (λb xs e=>t4 _ _ e),by rw[jh];show G,rfl,l9,t4 _ _ IP⟩ (λi O H' _ ⟨_,_,_,_,_,_,_,_,_,_,_,_,_,_,_,_,_,e⟩=>bM e) ?_ ?_⟩
  ·rintro i y O H5 hi ⟨di,qs,CF,S,v9,X,a,d,rfl,s5,d6,o7,h6,A5,G5,l5,i6,u7⟩;rw[<-k7,jR,List.getElem?_drop,<-l5]at hi;let⟨p,hp,ey⟩:=Jd.mp hi;subst ey;have FI:(ks++qs)[di.length]?=Z p:=by rw[JA (lH hp).1];show hp
   have pm:=tw FI;have q8:(fs (ks++qs))[di.length]?=Z p.1:=by unfold fs;rw[jR,FI];rfl
   have lu:d7 p.1:=by let⟨v,hv,e⟩:=G5.re _ (tw q8);rw[<-e];show lV T.okS v M T.ok0 hv
   show⟨#[15],λR y4=>?_⟩;have sO:=ak y4 #[74];have u8:H0 R=Y:=s5.free y4;have y7:D≠R:=ar d6 y4;have y8:N≠R:=ar h6 y4;have z7:Fr≠R:=ar i6 y4;have z8:L≠R:=ar u7 y4;let⟨H6,b8⟩:=gn (upd H5 R #[74]);have t6:av H5 H6:=by rw[<-b8];show sO
   have m9:H6 R=Z (.lst (([]:LI).map V.int)):=by rw[<-b8,ae];rfl
   rw[b8];exists 1;show cg (t:=pQ _ _ _) (λO H'=>∃(qs:List #[78]) (I:LI) (X a d:OV),
    O=[Z #[164],Z #[176],Z #[179],Z (kd.val M g),Z #[103],Z (.ref N),Z (.ref L),Z (.ref Fr),Z (pvK kd p),Z (.ref R),X,a,d]/\av H0 H'/\H' D=Z (eZ kd P w D (ks++qs))/\PKs kd H' (ks++qs)/\H' N=Z (.lst (CF.map V.ref))/\bF H' CF di/\FU st M wide (fs (ks++qs)) di p.1 I/\I.length=wide/\H' R=Z (.lst #[178])/\H' Fr=Z (.lst (qs.map (pvK kd)))/\H' L=Z #[133]) ?_ (λD1 n9=>?_)
   exists 27
   ·show⟨_,U,_,U,by lia,by lia,?_⟩;show hZ (λj O H'=>∃(qs:List #[78]) (I:LI) (X a d:OV),
     O=[Z #[164],Z #[176],Z #[179],Z (kd.val M g),Z #[103],Z (.ref N),Z (.ref L),Z (.ref Fr),Z (pvK kd p),Z (.ref R),X,a,d]/\av H0 H'/\H' D=Z (eZ kd P w D (ks++qs))/\PKs kd H' (ks++qs)/\H' N=Z (.lst (CF.map V.ref))/\bF H' CF di/\FU st M wide (fs (ks++qs)) di p.1 I/\I.length=j/\H' R=Z (.lst #[178])/\H' Fr=Z (.lst (qs.map (pvK kd)))/\H' L=Z #[133])
     ⟨qs,[],X,a,d,rfl,s5.trans t6,t6 _ _ d6,pks o7 (λb xs e=>t6 _ _ e),t6 _ _ h6,A5.same (λb xs e=>t6 _ _ e),G5.next q8,rfl,m9,t6 _ _ i6,t6 _ _ u7⟩ ?_ ?_
    ·rintro j O H7 hj ⟨qs,I,X,a,d,rfl,s7,m,B,l,A7,G7,rfl,d5,i5,J⟩;rw[jG]at hj;have q9:p∈ks++qs:=BF.mpr (.inl (tw hp));show⟨_,U,x,dx,_,U,s7 _ _ hx,fS,_,U,_,U,T.step _ _ _ p.2 p.1 I.length _ (Je _) (T.same _ _ s7 hW) (B p q9) lu hj λTh H8 s8 k6=>?_⟩;have z5:=s8 _ _ m;have c8:=pks B (λb xs e=>s8 _ _ e);have hm:=ED (ks++qs);have r9:=B1 _ G7.nd G7.re;have l6:=s8 _ _ d5;show⟨_,U,D,ks++qs,U,z5,_,U,Th,st p.1 I.length,U,z5,c8,k6,λn hn=>?_,λc=>?_⟩
     ·replace hn:(fs (ks++qs))[n]?=Z (st p.1 I.length):=hn;show⟨_,U,U,_,U,ox ?_⟩;show⟨_,U,.inl ⟨U,_,bM l6⟩,_,U,R,_,_,U,U,l6,bI #[25],?_⟩;have LY:∀b u,b≠R->H7 b=Z u->(upd H8 R (.lst (I.map V.int++[V.int (n:Int)]))) b=Z u:=λb u n e=>by rw[aj n];show s8 _ _ e
      have up:∀b xs,H7 b=Z #[42]->(upd H8 R (.lst (I.map V.int++[V.int (n:Int)]))) b=Z #[42]:=λb xs e=>LY b _ (aO e d5 #[3]) e;show⟨qs,I++[(n:Int)],_,_,_,U,au (s7.trans s8) u8,LY _ _ y7 m,pks B up,LY _ _ y8 l,A7.same up,G7.old hn,by rw[jH];rfl,by rw[ae,jD];rfl,LY _ _ z7 i5,LY _ _ z8 J⟩
     ·replace c:st p.1 I.length∉fs (ks++qs):=c;have G8:=G7.new hj c;have u9:=B1 _ G8.nd G8.re;rw[jH,je]at u9;show⟨_,U,U,_,U,Cu ?_⟩;show⟨_,U,D,_,U,z5,_,U,_,U,_,_,U,U,_,U,rM #[173] #[173]⟩
      ·exfalso;lia
      show⟨_,U,_,U,_,U,D,Th,st p.1 I.length,ks++qs,U,U,U,z5,c8,k6,c,bI #[1],?_⟩;have a9:=s8 _ _ i5;let⟨u',eu⟩:=gn (st p.1 I.length);rw[eu]at G8 k6 ⊢;rw[ED,show fs (ks++qs)++[u']=fs (ks++(qs++[(u',Th)])) by rw[V6,V6,V6,jr];rfl]at G8;rw[jr];let⟨H9,e9⟩:=gn (upd H8 D (eZ kd P w D (ks++(qs++[(u',Th)]))));rw[e9];have o9:∀b u,b≠D->H8 b=Z u->H9 b=Z u:=λb u n e=>by rw[<-e9,aj n];show e
      have b9:=o9 _ _ (Ne.symm o8) a9;have y9:=o9 _ _ (Ne.symm y7) l6;have lpq:(ks++qs).length=ks.length+qs.length:=jH;show⟨_,U,.inl ⟨U,_,bM b9⟩,_,U,Fr,_,_,U,U,b9,bI #[25],?_⟩;have c9:(upd H9 Fr (.lst (qs.map (pvK kd)++[kd.val u' Th]))) R=Z (.lst #[178]):=by rw[aj (Ne.symm z7)];show y9
      show⟨_,U,.inl ⟨U,_,bM c9⟩,_,U,R,_,_,U,U,c9,bI #[25],?_⟩;let⟨OA,j5⟩:=gn (upd (upd H9 Fr (.lst (qs.map (pvK kd)++[kd.val u' Th]))) R (.lst (I.map V.int++[V.int ((ks++qs).length:Int)])));have LY:∀b u,b≠R->b≠Fr->b≠D->H8 b=Z u->OA b=Z u:=λb u n1 n2 n3 e=>by rw[<-j5,aj n1,aj n2];show o9 _ _ n3 e
      have d8:∀b xs,H8 b=Z #[42]->OA b=Z #[42]:=λb xs e=>LY b _ (aO e l6 #[3]) (aO e a9 #[3]) (aO e z5 #[3]) e;have z9:av H0 OA:=by rw[<-j5,<-e9];show au (au (au (s7.trans s8) hD) j9) u8
      have c7:∃(o6:List #[78]) (e8:LI) (auP a d:OV),[Z (V.ref x),Z #[176],Z #[179],Z (kd.val M g),Z #[103],Z (.ref N),Z (.ref L),Z (.ref Fr),Z (pvK kd p),Z (.ref R),Z (.int (0+(I.length:Int))),Z (kd.val u' Th),Z (.int ((ks++qs).length:Int))]=[Z #[164],Z #[176],Z #[179],Z (kd.val M g),Z #[103],Z (.ref N),Z (.ref L),Z (.ref Fr),Z (pvK kd p),Z (.ref R),auP,a,d]/\av H0 OA/\OA D=Z (eZ kd P w D (ks++o6))/\PKs kd OA (ks++o6)/\OA N=Z (.lst (CF.map V.ref))/\bF OA CF di/\FU st M wide (fs (ks++o6)) di p.1 e8/\e8.length=I.length+1/\OA R=Z (.lst (e8.map V.int))/\OA Fr=Z (.lst (o6.map (pvK kd)))/\OA L=Z #[133]:=by
       show⟨qs++[(u',Th)],I++[((ks++qs).length:Int)],_,_,_,U,z9,?_,λq hq=>?_,LY _ _ y8 m7 (Ne.symm k8) (s8 _ _ l),A7.same λb xs e=>d8 _ _ (s8 _ _ e),G8,by rw[jH];rfl,?_,?_,LY _ _ z8 k9 (aO J m #[3]) (s8 _ _ J)⟩
       ·rw[<-j5,aj y7,aj o8,<-e9,ae]
       ·rw[<-jr]at hq;rcases BF.mp hq with z|z
        ·show kd.same (c8 q z) d8
        ·rw[jI.mp z];show kd.same k6 d8
       ·rw[<-j5,ae,jD];rfl
       ·rw[<-j5,aj z7,ae,jD];rfl
      rw[<-j5]at c7;show c7
    ·rintro O H7 ⟨qs,I,X,a,d,rfl,s7,m,B,l,A7,G7,u6,d5,i5,J⟩;rw[jG]at u6;show n9 _ _ ⟨qs,I,X,a,d,U,s7,m,B,l,A7,G7,u6,d5,i5,J⟩
   ·rintro O H7 ⟨qs,I,X,a,d,rfl,s7,m,B,l,A7,G7,u6,d5,i5,J⟩;have r9:=(lH G7.at_).1;have lq:=B1 _ G7.nd G7.re;show⟨_,U,.inl ⟨U,_,bM l⟩,_,U,R,_,U,.inl ⟨bM d5,λt ht=>?_⟩⟩;have nRt:N≠t:=ar l ht;have s8:=ak ht (HO.tup #[178]);have lra:=A7.length;show⟨N,_,_,U,U,s8 _ _ l,bI #[25],?_⟩;have up:∀b xs,H7 b=Z #[42]->(upd (upd H7 t (.tup #[178])) N (.lst (CF.map V.ref++[V.ref t]))) b=Z #[42]:=λb xs e=>by rw[aj (aO e l #[3]),aj (ar e ht)];show e
    have LY:∀b u,b≠N->H7 b=Z u->(upd (upd H7 t (.tup #[178])) N (.lst (CF.map V.ref++[V.ref t]))) b=Z u:=λb u n e=>by rw[aj n];show s8 _ _ e
    show⟨di++[I],qs,CF++[t],_,_,_,_,_,U,au (s7.trans s8) h9,LY _ _ k8 m,pks B up,by rw[ae,jD];rfl,bF.snoc (A7.same up) (by rw[aj (Ne.symm nRt),ae]),G7.done u6,by rw[jH,je,l5];rfl,LY _ _ (Ne.symm m7) i5,LY _ _ (Ne.symm i9) J⟩
  ·rintro O H5 ⟨di,qs,CF,S,v9,X,a,d,rfl,s5,d6,o7,h6,A5,G5,l5,i6,u7⟩;rw[m8]at l5;have l5':di.length=ks.length:=by lia
   show⟨_,U,100000-di.length,by lia,ks++qs,di,CF,Fr,Z (.ref Fr),S,v9,X,a,d,U,U,s5,d6,o7,h6,A5,G5,?_,m7⟩;rw[l5',List.drop_append_of_le_length (jE _),ZV,Zd];show i6
 rintro O H3 ⟨ks,az,fz,v6,v7,S,v9,X,a,d,rfl,s3,LS,c6,o5,A3,G,el⟩;show⟨_,U,_,U,N,_,U,.inl ⟨bM o5,λrt hrt=>?_⟩⟩;have s4:=ak hrt (HO.tup #[63]);show⟨_,U,D,_,U,s4 _ _ LS,λo=>?_⟩;let⟨Hf,y6⟩:=gn (upd (upd H3 rt (HO.tup #[63])) D (sj kd P w D ks o));have sf:av H0 Hf:=by rw[<-y6];show au (s3.trans s4) hD
 have hDf:Hf D=Z (sj kd P w D ks o):=by rw[<-y6,ae]
 have f8:∀b xs,(upd H3 rt (HO.tup #[63])) b=Z #[42]->Hf b=Z #[42]:=λb xs e=>by rw[<-y6,aj (aO e (s4 _ _ LS) #[3])];show e
 have hKf:PKs kd Hf ks:=pks c6 λb xs e=>f8 _ _ (s4 _ _ e);have lm:=B1 _ G.nd G.re;have fk:=ED ks;rw[y6];show U4 (λDl i ys H'=>av Hf H'/\ys=(((fs ks).take i).map sg).map V.int) (λDl z6=>⟨ak z6 _,U⟩) (λDl i ys H' _ ⟨e,_⟩=>e _ _ hDf) ?_ ?_
 ·rintro Dl i p ys H4 Q' z6 hi hy ⟨s5,rfl⟩ k';have d9:(fs ks)[i]?=Z p.1:=by unfold fs;rw[jR,hi];rfl
  have lu:d7 p.1:=by let⟨v,hv,e⟩:=G.re _ (tw d9);rw[<-e];show lV T.okS v M T.ok0 hv
  show⟨_,U,x,dx,_,U,s5 _ _ (sf _ _ hx),fG,_,U,T.sign _ _ _ p.2 p.1 (T.same _ _ (sf.trans s5) hW) (kd.same (hKf p (tw hi)) λb xs e=>s5 _ _ e) lu λH9 s9=>k' _ _ (s9 _ _ hy) (bI #[79]) ⟨au (s5.trans s9) z6,?_⟩⟩;rw[jS,d9,jD,jD];rfl
 ·rintro Dl ys H4 z6 hy ⟨s5,rfl⟩;rw[<-ED,jV]at hy;show⟨Dl,_,U,.inl ⟨bM hy,λgt hgt=>?_⟩⟩;have s6:=ak hgt (HO.tup (((fs ks).map sg).map V.int));show⟨#[35],λm' hm'=>?_⟩;have s7:=ak hm' (HO.tup [V.int wide,V.ref rt,V.ref gt]);have g8:=s6.trans s7;show k m' rt gt az (fs ks) _ (sf.trans (s5.trans g8)) ⟨ae,⟨fz,g8 _ _ (s5 _ _ (f8 _ _ ae)),A3.same λb xs e=>g8 _ _ (s5 _ _ (f8 _ _ (s4 _ _ e)))⟩,s7 _ _ ae⟩ G (by rw[ED];show el) lm
end
end
abbrev oH:=Int×Str
def OD(H:Hp)(a:Qp)(p:oH):Prop:=H a=Z #[81]
def mj(H:Hp)(v:V)(ps:List oH):Prop:=∃(a:Qp) (as:List Qp),v=.ref a/\H a=Z (.tup (as.map V.ref))/\qI (OD H) as ps
abbrev Br(H H':Hp):Prop:=∀(b:Qp) (xs:List V),H b=Z #[42]->H' b=Z #[42]
def rL(s:av H H'):Br H H':=λb xs e=>s _ _ e
def mj.same{v:V}{ps:List oH}(h:mj H v ps)(s:Br H H'):mj H' v ps:=by let⟨a,I,e,G,M⟩:=h;show⟨a,I,e,s _ _ G,Paired.EM M λ_ _ q=>s _ _ q⟩
abbrev Look:=Str×List oH
inductive At where
 |cm (k:Fin 3) (a c:List oH)
 |sg (l:Look) (n:Int)
 |lk (l m:Look)
def kC:Fin 3->Str
 |0=> "="
 |1=> "<="
 |2=> "<"
def eM(H:Hp)(v:V):At->Prop
 |.cm k a c=>∃(x:Qp) (va vb:V),v=.ref x/\H x=Z (.tup [.str (kC k),va,vb])/\mj H va a/\mj H vb c
 |.sg l n=>∃(x:Qp) (va:V),v=.ref x/\H x=Z (.tup [.str "is",.str l.1,va,.int n])/\mj H va l.2
 |.lk l m=>∃(x:Qp) (va vb:V),v=.ref x/\H x=Z (.tup [.str "like",.str l.1,va,.str m.1,vb])/\mj H va l.2/\mj H vb m.2
theorem eM.same(s:Br H H'):∀{t:At} {v:V},eM H v t->eM H' v t
 |.cm _ _ _,v,⟨x,j,u,e,h,G,M⟩=>⟨x,j,u,e,s _ _ h,G.same s,M.same s⟩
 |.sg _ _,v,⟨x,j,e,h,G⟩=>⟨x,j,e,s _ _ h,G.same s⟩
 |.lk _ _,v,⟨x,j,u,e,h,G,M⟩=>⟨x,j,u,e,s _ _ h,G.same s,M.same s⟩
def lD:At->List (List oH)
 |.cm _ a c=>[a,c]
 |.sg l _=>[l.2]
 |.lk l m=>[l.2,m.2]
def iq:At->List Look
 |.cm _ _ _=>[]
 |.sg l _=>[l]
 |.lk l m=>[l,m]
def iy(ps:List oH):Prop:=ps.length<=8/\∀p∈ps,(0<=p.1/\p.1<=1000000)/\p.2.length<=100/\(p.2≠("" : Str)->p.1<=20)
def aay(ps:List oH):Prop:=ps.length<=2/\∀p∈ps,0<=p.1/\p.1<=20
def ac0(t:At):(iq t).length<=2:=by cases t<;>(first|show(show 0<=2 by decide)|show(show 1<=2 by decide)|show jE _)
def agu(t:At):(lD t).length<=2:=by cases t<;>(first|show(show 1<=2 by decide)|show jE _)
def Mw{a b:Str}:(V.str a=V.str b)↔a=b:=⟨λh=>V.str.inj h,λh=>by rw[h]⟩
theorem DA{R:Qp->oH->Prop}:∀{I:List Qp} {ps:List oH} {i:Nat} {y:V},qI R I ps->#[86][i]?=Z y->∃(a:Qp) (p:oH),y=.ref a/\R a p/\ps[i]?=Z p
 |_,_,_,_,.nil,h=>by simp at h
 |_,_,0,_,.cons (a:=a) (b:=p) r _,h=>⟨a,p,#[143].symm,r,rfl⟩
 |_,_,i+1,_,.cons _ t,h=>by let⟨a,p,e,r,q⟩:=DA (i:=i) t #[154];show⟨a,p,e,r,by simpa using q⟩
theorem K5{R:V->β->Prop}:∀{us:List V} {a:List β} {i:Nat} {y:V},qI R us a->us[i]?=Z y->∃s,R y s/\a[i]?=Z s
 |_,_,_,_,.nil,h=>by simp at h
 |_,_,0,_,.cons (b:=s) r _,h=>⟨s,Option.some.inj h▸r,rfl⟩
 |_,_,i+1,_,.cons _ t,h=>by let⟨s,r,q⟩:=K5 (i:=i) t #[154];show⟨s,r,by simpa using q⟩
def RM{b:Bool}{A B:Prop}(h:b=true)(a:A):if b=true then A else B:=by rw[if_pos h];show a
def BC{b:Bool}{A B:Prop}(h:b=false)(a:B):if b=true then A else B:=by rw[if_neg (by rw[h];decide)];show a
def BN{ns:List Str}{y:V}(h:(ns.map V.str)[i]?=Z y):∃z,y=V.str z/\ns[i]?=Z z:=by
 rw[jR]at h;cases e:ns[i]? with
 |none=>rw[e]at h;cases h
 |some z=>rw[e]at h;show⟨z,#[143].symm,rfl⟩
def pf(ps:List oH):List Str:=(ps.filter λp=>decide (p.2≠("" : Str))).map (·.2)
def dB(t:At):List Str:=(lD t).flatMap pf
structure HQ(t:At):Prop where
 ok:∀ps∈lD t,iy ps
 lo:∀l∈iq t,l.1.length<=1000/\aay l.2
 nm:∃x y:Str,∀z∈dB t,z=x\/z=y
structure Cg(zs xs:List Str):Prop where
 so:zs.Pairwise PX
 nd:zs.Nodup
 mem:∀x,x∈zs↔x∈xs
def Cg.ET{ms ns:List Str}(p:ms.Perm (iZ ns))(f:ms.Pairwise PX):Cg ms ns:=
 ⟨f,p.nodup_iff.mpr (Sh ns),λx=>by rw[p.mem_iff,adl]⟩
def Oe(ps:List oH)(p:oH):pf (ps++[p])=pf ps++(if p.2=("" : Str)then []else [p.2]):=by
 unfold pf;rw[JX,jD];congr 1;by_cases c:p.2=("" : Str)
 ·rw[if_pos c,JG (by simp[c])];rfl
 ·rw[if_neg c,JL (by simp[c])];rfl
def LG{ps:List oH}(h:iy ps):(pf ps).length<=8:=by unfold pf;rw[aW];show jc (JR ..) h.1
def PX.arw{a b:Str}(h:PX a b)(h':PX b a):a=b:=by have e:a.cps.toList=b.cps.toList:=List.le_antisymm (ZF.mp h) (ZF.mp h');cases a;cases b;congr 1;show Array.toList_inj.mp e
theorem abh:∀{zs ws:List Str},zs.Pairwise PX->zs.Nodup->ws.Pairwise PX->ws.Nodup->(∀x,x∈zs↔x∈ws)->zs=ws
 |[],[],_,_,_,_,_=>rfl
 |[],w::ws,_,_,_,_,h=>absurd ((h w).mpr jA) JK
 |z::zs,[],_,_,_,_,h=>absurd ((h z).mp jA) JK
 |z::zs,w::ws,S,i,j,I,h=>by
  have n:=zG.mp S;have u:=zG.mp j;have a:=jm.mp i;have b:=jm.mp I;have e:z=w:=by
   rcases jL.mp ((h z).mp jA)with c|c
   ·show c
   ·rcases jL.mp ((h w).mpr jA)with B|B
    ·show B.symm
    ·show PX.arw (n.1 _ B) (u.1 _ c)
  subst e;rw[abh n.2 a.2 u.2 b.2 λx=>⟨λJ=>?_,λJ=>?_⟩]
  ·rcases jL.mp ((h x).mp (jF _ J))with c|c
   ·show absurd (c▸J) a.1
   ·show c
  ·rcases jL.mp ((h x).mpr (jF _ J))with c|c
   ·show absurd (c▸J) b.1
   ·show c
def Cg.uniq{ws xs:List Str}(h:Cg zs xs)(h':Cg ws xs):zs=ws:=abh h.so h.nd h'.so h'.nd λx=>(h.mem x).trans (h'.mem x).symm
def lF(ps:List oH)(x:Str):Int:=PH #[82]
def Tg(ps:List oH)(p:oH)(x:Str):(((ps++[p]).filter λp=>decide (p.2=x)).map (·.1))=#[82]++(if p.2=x then [p.1]else []):=by
 rw[JX,jD];congr 1;by_cases c:p.2=x
 ·rw[if_pos c,JL (by simp[c])];rfl
 ·rw[if_neg c,JG (by simp[c])];rfl
theorem sum_in:∀(ns:LI) (a:Int),(∀z∈ns,0<=z/\z<=m)->a<=ns.foldl (·+·) a/\ns.foldl (·+·) a<=a+m*ns.length
 |[],a,_=>by simp
 |n::ns,a,h=>by
  have G:=h n jA;have K:=sum_in ns (a+n) λz S=>h z (jF _ S);rw[JO,jX];have e:m*((ns.length+1:Nat):Int)=m*(ns.length:Int)+m:=by rw[QV,zK];simp
  lia
def aas{ps:List oH}{x:Str}(h:∀p∈ps,p.2=x->0<=p.1/\p.1<=m)(l:ps.length<=n)(m0:0<=m):0<=lF ps x/\lF ps x<=m*n:=by
 unfold lF PH;have a:#[82].length<=n:=by rw[aW];show jc (JR ..) l
 have:=sum_in (m:=m) #[82] 0 λz S=>by let⟨p,D,rfl⟩:=jK.mp S;let⟨G,M⟩:=jv.mp D;show h p G (of_decide_eq_true M)
 have:=zv (Int.ofNat_le.mpr a) m0;lia
theorem wU[DecidableEq α]:∀{ps vs:List α},ps.Nodup->(∀p∈ps,p∈vs)->ps.length<=vs.length
 |[],_,_,_=>jb _
 |p::ps,vs,o,h=>by have g:=jm.mp o;have D:=h p jA;have:=wU (vs:=vs.erase p) g.2 λq l=>(Zn (show q≠p from λz=>g.1 (by rw[<-z];show l))).mpr (h q (jF _ l));rw[ZW D]at this;have:=ze D;rw[jX];lia
def EO{t:At}(h:Cg zs (dB t))(ok:HQ t):zs.length<=2:=by let⟨x,y,e⟩:=ok.nm;show wU (vs:=[x,y]) h.nd λz S=>by rcases e z ((h.mem z).mp S)with q|q<;>rw[q]<;>simp
def O9:List V:=[.str "=",.str "<=",.str "<"]
def Pa:List V:=[.str "and",.str "or"]
def J1:List V:=[.str "some",.str "all"]
def ajA:At->Str
 |.cm k _ _=>kC k
 |.sg .. => "is"
 |.lk .. => "like"
structure KF(k:Str)(c b l:Bool):Prop where
 c:inV (.str k) O9=c
 s:decide (V.str k=V.str (Str.ofString "is"))=b
 l:decide (V.str k=V.str (Str.ofString "like"))=l
 n:decide (V.str k=V.str (Str.ofString "not"))=false
 j:inV (.str k) Pa=false
 h:inV (.str k) J1=false
def B6:KF "is" false true false:=⟨by decide +kernel,by decide +kernel,by decide +kernel,by decide +kernel,by decide +kernel,by decide +kernel⟩
def fI:KF "like" false false true:=⟨by decide +kernel,by decide +kernel,by decide +kernel,by decide +kernel,by decide +kernel,by decide +kernel⟩
theorem Ad(k:Fin 3):KF (kC k) true false false:=match k with
 |0=>⟨by decide +kernel,by decide +kernel,by decide +kernel,by decide +kernel,by decide +kernel,by decide +kernel⟩
 |1=>⟨by decide +kernel,by decide +kernel,by decide +kernel,by decide +kernel,by decide +kernel,by decide +kernel⟩
 |2=>⟨by decide +kernel,by decide +kernel,by decide +kernel,by decide +kernel,by decide +kernel,by decide +kernel⟩
def kf_at(t:At):∃c b l,KF (ajA t) c b l:=by cases t<;>show⟨_,_,_,by first|show B6|show fI|show Ad _⟩
theorem Hu:∀{H:Hp} {v:V} {t:At},eM H v t->∃(x:Qp) (rest:List V),v=.ref x/\H x=Z (.tup (.str (ajA t)::rest))
 |_,_,.cm ..,⟨x,_,_,e,h,_,_⟩=>⟨x,_,e,h⟩
 |_,_,.sg ..,⟨x,_,e,h,_⟩=>⟨x,_,e,h⟩
 |_,_,.lk ..,⟨x,_,_,e,h,_,_⟩=>⟨x,_,e,h⟩
def at0{x:V}{r:List V}:wV (x::r) 0=Z x:=by unfold wV ixN;rw[if_pos #[9],if_pos (by rw[jX];lia)];rfl
inductive aae (vs:List V) (H:Hp) (Q:VK) (E:XK):Prop|mk (v:V) (t:At) (_:vs=[v]) (_:eM H v t) (_:∀(T:Qp) (H':Hp),av H H'->H' T=Z (.tup [])->Q #[158] H')
inductive agp (vs:List V) (H:Hp) (Q:VK) (E:XK):Prop|mk (v:V) (t:At) (_:vs=[v]) (_:eM H v t) (_:∀(T:Qp) (us:List V) (H':Hp),av H H'->H' T=Z (.tup us)->qI (mj H') us (lD t)->Q #[158] H')
inductive SY (vs:List V) (H:Hp) (Q:VK) (E:XK):Prop|mk (v:V) (t:At) (_:vs=[v]) (_:eM H v t) (_:∀(T:Qp) (H':Hp),av H H'->H' T=Z (.tup (#[119].map V.str))->Q #[158] H')
inductive Lx (vs:List V) (H:Hp) (Q:VK) (E:XK):Prop|mk (v:V) (t:At) (_:vs=[v]) (_:eM H v t) (_:HQ t) (_:∀(T:Qp) (zs:List Str) (H':Hp),av H H'->H' T=Z #[94]->Cg zs (dB t)->Q #[158] H')
inductive Lz (vs:List V) (H:Hp) (Q:VK) (E:XK):Prop|mk (v:V) (t:At) (_:vs=[v]) (_:eM H v t) (_:∀(L:Qp) (H':Hp),av H H'->H' L=Z (.lst [v])->Q (.ref L) H')
inductive S7 (vs:List V) (H:Hp) (Q:VK) (E:XK):Prop|mk (v:V) (t:At) (_:vs=[v]) (_:eM H v t) (_:∀(T:Qp) (zs:List Str) (H':Hp),av H H'->H' T=Z #[94]->(∀z∈zs,z∈(iq t).map (·.1))->zs.length<=2->Q #[158] H')
section
def tL:aA ["statement","kind"] ["statement"] (aq pb):=bQ #[0]
def Lr:aA ["statement","kind"] ["statement"] (aq Fg):=bQ #[0]
def Ai:aA ["statement","kind"] ["statement"] (aq rJ):=bQ #[0]
def HE:aA ["statement","names","added","inside"] ["statement"] (aq Pw):=bQ #[0]
def MF:aY ["statement","names","added","inside"] (aq Pw) ["part"] [Y] ⟨.function,[#[41],("part",.local)],false,false,[]⟩:=mH #[0]
def pN:aA ["statement","pieces","waiting","piece"] ["statement"] (aq Be):=bQ #[0]
def CS:aA ["statement","names","piece"] ["statement"] (aq Ff):=bQ #[0]
def aie(F:bu K "statements_in" "statements_in" pb dV f fd)(a:mg "JOINING" = Z (.ref TJ))(u:mg "CHOOSING" = Z (.ref TH))(k:∀H,iu K H TJ Pa)(N:∀H,iu K H TH J1):aR P w K mg base cO 1 f fd ["statement"] aae:=by
 show F.ok tL (λc H Q E h=>?_) (λcq A I s H c Q E S h=>?_)
 ·exists 26;rfl
 let⟨v,t,rfl,M,q⟩:=h;let⟨_,_,_,b⟩:=kf_at t;let⟨x,rest,rfl,J⟩:=Hu M;show⟨_,(ah (aB (i:=1) tL.nd #[12])
   (ah (bV #[92] (ao (aE (cA #[84]))) aV)
   (ah (bV (aG ic (pv 1) (lU (v:=.ref _) rfl a rfl) #[22]) (ao (aE (cA (aa #[12] #[84])))) aV)
   (ah (bV (aG ic (pv 1) (lU (v:=.ref _) rfl u rfl) #[22]) (ao (aE (cA #[84]))) aV)
   (ao (aE (cA af))))))),?_⟩
 exists 0;exists _,rfl,x,_,_,_,rfl,rfl,bg J,at0;show⟨_,U,U,_,U,BC b.n ?_⟩;show⟨_,U,TJ,_,U,.inr (k _),U,U,_,U,BC b.j ?_⟩;show⟨_,U,TH,_,U,.inr (N _),U,U,_,U,BC b.h ?_⟩;show⟨#[15],λT r=>q T _ (ak r _) ae⟩
def aif(F:bu K "sums_in" "sums_in" Fg dV f fd)(b:mg "COMPARING" = Z (.ref TC))(z:∀H,iu K H TC O9):aR P w K mg base cO 1 f fd ["statement"] agp:=by
 show F.ok Lr (λd H Q E h=>?_) (λcq A I s H d Q E S h=>?_)
 ·exists 26;rfl
 let⟨v,t,rfl,M,q⟩:=h;show⟨_,(ah (aB (i:=1) Lr.nd #[12])
   (ah (bV (aG ic (pv 1) (lU (v:=.ref _) rfl b rfl) #[22]) (ao (aE (cA (aa #[12] #[84])))) aV)
   (ah (bV #[92] (ao (aE (cA #[84]))) aV)
   (ah (bV #[92] (ao (aE (cA (aa #[12] #[84])))) aV)
   (ao (aE (cA af))))))),?_⟩
 exists 0;cases t with
 |cm k a c=>
  let⟨x,j,u,rfl,J,W,B⟩:=M;exists _,rfl,x,_,_,_,rfl,rfl,bg J,rfl;show⟨_,U,TC,_,U,.inr (z _),U,U,_,U,RM (Ad k).c ?_⟩;show⟨_,U,x,_,_,_,U,U,bg J,U,_,U,x,_,_,_,U,U,bg J,U,#[14],λT r=>?_⟩;have s1:=ak r (HO.tup [j,u]);show q T [j,u] _ s1 ae (.cons (W.same (rL s1)) (.cons (B.same (rL s1)) .nil))
 |sg l n=>
  let⟨x,j,rfl,J,W⟩:=M;exists _,rfl,x,_,_,_,rfl,rfl,bg J,rfl;show⟨_,U,TC,_,U,.inr (z _),U,U,_,U,BC B6.c ?_⟩;show⟨_,U,U,_,U,RM B6.s ?_⟩;show⟨_,U,x,_,_,_,U,U,bg J,U,#[73],λT r=>?_⟩;have s1:=ak r (HO.tup [j]);show q T [j] _ s1 ae (.cons (W.same (rL s1)) .nil)
 |lk l m=>
  let⟨x,j,u,rfl,J,W,B⟩:=M;exists _,rfl,x,_,_,_,rfl,rfl,bg J,rfl;show⟨_,U,TC,_,U,.inr (z _),U,U,_,U,BC fI.c ?_⟩;show⟨_,U,U,_,U,BC fI.s ?_⟩;show⟨_,U,U,_,U,RM fI.l ?_⟩;show⟨_,U,x,_,_,_,U,U,bg J,U,_,U,x,_,_,_,U,U,bg J,U,#[14],λT r=>?_⟩;have s1:=ak r (HO.tup [j,u]);show q T [j,u] _ s1 ae (.cons (W.same (rL s1)) (.cons (B.same (rL s1)) .nil))
def adg(F:bu K "row_names_in" "row_names_in" rJ dV f fd):aR P w K mg base cO 1 f fd ["statement"] SY:=by
 show F.ok Ai (λb H Q E h=>?_) (λcq A I s H b Q E S h=>?_)
 ·exists 26;rfl
 let⟨v,t,rfl,M,q⟩:=h;show⟨_,(ah (aB (i:=1) Ai.nd #[12])
   (ah (bV #[92] (ao (aE (cA #[84]))) aV)
   (ah (bV #[92] (ao (aE (cA (aa #[12] #[84])))) aV)
   (ao (aE (cA af)))))),?_⟩
 exists 0;cases t with
 |cm k a c=>
  let⟨x,j,u,rfl,J,W,B⟩:=M;exists _,rfl,x,_,_,_,rfl,rfl,bg J,rfl;show⟨_,U,U,_,U,BC (Ad k).s ?_⟩;show⟨_,U,U,_,U,BC (Ad k).l ?_⟩;show⟨#[15],λT r=>q T _ (ak r _) ae⟩
 |sg l n=>
  let⟨x,j,rfl,J,W⟩:=M;exists _,rfl,x,_,_,_,rfl,rfl,bg J,rfl;show⟨_,U,U,_,U,RM B6.s ?_⟩;show⟨_,U,x,_,_,_,U,U,bg J,U,#[73],λT r=>q T _ (ak r _) ae⟩
 |lk l m=>
  let⟨x,j,u,rfl,J,W,B⟩:=M;exists _,rfl,x,_,_,_,rfl,rfl,bg J,rfl;show⟨_,U,U,_,U,BC fI.s ?_⟩;show⟨_,U,U,_,U,RM fI.l ?_⟩;show⟨_,U,x,_,_,_,U,U,bg J,U,_,U,x,_,_,_,U,U,bg J,U,#[14],λT r=>q T _ (ak r _) ae⟩
def ah5(F:bu K "free" "free" Pw dV f fd)(eN:mg "CHOOSING" = Z (.ref TH))(y4:∀H,iu K H TH J1)(dy:bh P w K mg base "statements_in" 1 ["statement"] [] aae)(Ei:bh P w K mg base "sums_in" 1 ["statement"] [] agp)(aF:mg "tuple" = Y)(mi:mg "sorted" = Y)(D5:mg "set" = Y):aR P w K mg base cO 2 f fd ["statement"] Lx:=by
 show F.ok HE #[18] (λcq A d5 s H vs Q E hr h=>?_)
 ·exists 26;rfl
 let⟨v,t,rfl,fR,ok,q⟩:=h;let⟨_,_,_,kf⟩:=kf_at t;have l1:=agu t;show mD (aD (eI.mk (aB (i:=1) HE.nd (bS af)))
   (aD (eI.mk (cf PassesOwn.never rfl (eD (aK Ei hr #[26])) (bj (i:=2) HE.nd) (ao (bC (fZ Ye yN yO K2 (pv 1) (aa (DB rfl MF (eD (pv 2)) (λ_ _ _ _=>(bj (i:=0) MF.nd)) (λ_ _ _ _=>(aG tE #[101] ba (aL _))) (λ_ _ _ _=>#[101])) af))))))
   (aD (eI.mk (cf PassesOwn.never rfl (eD (aK dy hr #[26])) (bj (i:=3) HE.nd) (ao iz)))
   (aD (eI.mk (bV (aG ic #[12] (lU (v:=.ref _) rfl eN rfl) #[22]) (ao iz) aV))
   (dM (eI.mk (aE (aS bq #[31] aF bJ (aa (aH ((sr rfl)) #[31] mi Ew (aa (aS ((Cp rfl)) #[31] D5 T8 #[33]) af)) af))))))))) ?_
 exists 0;show⟨#[15],λu m=>?_⟩;have sn:=ak m #[74];exists 1;show cg (t:=pQ _ _ _) (λO H'=>∃(d:OV),O=[Z v,Z (.ref u),d,Y]/\av H H'/\H' u=Z (.lst ((dB t).map V.str))/\(dB t).length<=16) ?_ (λD' B=>?_);exists 27
 ·show⟨_,U,v,t,U,eM.same (rL sn) fR,λT I H1 s1 r hu=>⟨T,U,⟨_,bg r⟩,?_⟩⟩;have lu:I.length=(lD t).length:=Paired.length hu;have n:=s1 _ _ (ae (H:=H) (a:=u) (o:=HO.lst []));show rR (K:=K) (xs:=I) (λi O H'=>∃(d:OV),O=[Z v,Z (.ref u),d,Y]/\av H H'/\H' u=Z (.lst ((((lD t).take i).flatMap pf).map V.str))/\H' T=Z (.tup I)/\qI (mj H') I (lD t)/\(((lD t).take i).flatMap pf).length<=8*i) ⟨Y,U,sn.trans s1,n,r,hu,jb _⟩ (λi O H' _ ⟨_,_,_,_,h,_,_⟩=>bg h) ?_ ?_
  ·rintro i y O J hi ⟨d,rfl,s2,R,g,L,xl⟩;let⟨ps,hp,N⟩:=K5 L hi;have W:iy ps:=ok.ok _ (tw N);have il:=(lH N).1;have nl:=LG W;have e1:((lD t).take (i+1)).flatMap pf=((lD t).take i).flatMap pf++pf ps:=by rw[jS,N,zy];simp
   let⟨b,as,rfl,hb,hA⟩:=hp;have i5:as.length=ps.length:=Paired.length hA;have o5:=W.1;exists _,rfl,.inl ⟨rfl,_,bM R⟩,_,rfl,b,rfl,⟨_,bg hb⟩;show Bv (K:=K) (xs:=as.map V.ref) (λD j M H'=>av J H'/\M=(pf #[185]).map V.str) #[114] (λD j M H' _ ⟨e,_⟩=>bg (e _ _ hb)) ?_ ?_
   ·rintro D j y M H' Qy Qn hD hj G ⟨hs,rfl⟩ ky kn;let⟨c,p,rfl,hc,j5⟩:=DA hA hj;have EF:H' c=Z #[81]:=hs _ _ hc;have e2:pf (ps.take (j+1))=pf #[185]++(if p.2=("" : Str)then []else [p.2]):=by rw[jS,j5,<-Oe];rfl
    have jl:(pf #[185]).length<=8:=by unfold pf;rw[aW];show jc (JR ..) ?_;rw[jT];lia
    show⟨_,U,c,_,_,_,U,U,bg EF,U,U,_,U,tu #[173] #[173]⟩
    ·have z':¬ p.2=("" : Str):=λy=>z (Mw.mpr y);show⟨_,U,c,_,_,_,U,U,bg EF,U,ky _ _ G (cC #[25]) ⟨au hs hD,?_⟩⟩;rw[e2,if_neg z',jD];rfl
    ·show kn _ G ⟨hs,?_⟩;rw[e2,if_pos (Mw.mp z),jh]
   ·rintro lf M H3 fl G ⟨X,rfl⟩;rw[aW,i5,jV]at G;have C:=X _ _ R;show .inl ⟨u,lf,_,_,U,U,C,G,jc (show _<=1000 by rw[aW,aW];lia) #[9],?_⟩;show⟨_,U,au (s2.trans X) m,by rw[ae,e1,jD],by rw[aj (aO (X _ _ g) C #[3])];show X _ _ g,Paired.EM L λ_ _ e=>e.same (λc zs e=>?_),by rw[e1,jH];lia⟩;rw[aj (aO (X _ _ e) C #[3])];show X _ _ e
  ·rintro O J ⟨d,rfl,s2,R,g,L,xl⟩;rw[lu,jV]at R xl;show B _ _ ⟨d,U,s2,R,by unfold dB;lia⟩
 rintro O H1 ⟨d,rfl,s1,n,fl⟩;show cg (t:=pQ _ _ _) (λO H'=>∃(d k:OV),O=[Z v,Z (.ref u),d,k]/\av H H'/\H' u=Z (.lst ((dB t).map V.str))) ?_ (λD' B=>?_);exists 27
 ·show⟨_,U,v,t,U,eM.same (rL s1) fR,λT J s2 r=>⟨T,U,⟨_,bg r⟩,?_⟩⟩;show rR (K:=K) (xs:=[]) (λi O H'=>∃(k:OV),O=[Z v,Z (.ref u),d,k]/\H'=J) ⟨Y,U,U⟩ (λi O H' _ ⟨_,_,e⟩=>by rw[e];show bg r) (λi y O H' hi=>by simp at hi) ?_;rintro O H' ⟨k,rfl,rfl⟩;show B _ _ ⟨d,k,U,s1.trans s2,s2 _ _ n⟩
 rintro O J ⟨d,k,rfl,s2,R⟩;let⟨x,rest,rfl,hx⟩:=Hu (eM.same (rL s2) fR);show cg (λO H'=>H'=J/\O=[Z #[164],Z (.ref u),d,k]) ?_ (λD' B=>?_);exists 27
 ·show⟨_,U,x,_,_,_,U,U,bg hx,at0,TH,_,U,.inr (y4 _),U,U,_,U,BC kf.h (B _ _ ⟨U,U⟩)⟩
 rintro O H' ⟨rfl,rfl⟩;show⟨_,U,u,dB t,U,R,by lia,λS hS=>?_⟩;have X:=ak hS (Ci P w S (iZ (dB t)));show⟨S,iZ (dB t),U,ae,by have:=EU (dB t);lia,λl ms hl pm so=>?_⟩;have s4:=ak hl (HO.lst (ms.map V.str));show⟨l,_,U,.inl ⟨bM ae,λT r=>?_⟩⟩;show q T ms _ ((s2.trans (X.trans s4)).trans (ak r _)) ae (Cg.ET pm so)
def ade(F:bu K "pieces_of" "pieces_of" Be dV f fd)(x:bh P w K mg base "statements_in" 1 ["statement"] [] aae):aR P w K mg base cO 2 f fd ["statement"] Lz:=by
 show F.ok pN #[11] #[5]
 ·exists 26;rfl
 let⟨v,t,rfl,M,q⟩:=h;show mD (aD (eI.mk (aB (i:=1) pN.nd (bS af)))
   (aD (eI.mk (aB (i:=2) pN.nd (bS #[26])))
   (aD (eI.mk (oC PassesOwn.never (AX (pv 2) (λ_=>rfl)) (ah (aB (i:=3) pN.nd (K6 Ye yi yj Y1 (pv 2)))
   (ah (bC (fZ Ye Yg Yh bX (pv 1) #[49]))
   (ao (bC (fZ Ye yN yO Cz (pv 2) (aa (aK x S #[49]) af))))))))
   (dM (eI.mk (aE (pv 1))))))) ?_
 exists 0;show⟨#[15],λb e=>?_⟩;have sp:=ak e #[74];show⟨_,U,#[73],λa g=>?_⟩;have B:=ak g (HO.lst [v]);have m:b≠a:=ar ae g;have W:H a=Y:=sp.free g;exists 1;show cg (t:=sU _ _) (λO H'=>∃(k:OV),O=[Z v,Z (.ref b),Z #[44],k]/\av H H'/\H' b=Z (.lst [v])) ?_ (λC j=>?_);exists 27
 ·show sd (λy O H'=>∃(k:OV),O=[Z v,Z (.ref b),Z #[44],k]/\av H H'/\((y=1/\H' b=Z #[171]/\H' a=Z (.lst [v]))\/y=0/\H' b=Z (.lst [v])/\H' a=Z #[171])) ⟨1,Y,U,sp.trans B,.inl ⟨U,B _ _ ae,ae⟩⟩ ?_;rintro y O R ⟨k,rfl,N,⟨rfl,o,d⟩|⟨rfl,o,d⟩⟩
  ·show⟨_,U,_,.inl ⟨_,bM d,U⟩,Cu ?_⟩;show⟨λO H'=>∃L,L<1/\∃(k:OV),O=[Z v,Z (.ref b),Z #[44],k]/\av H H'/\((L=1/\H' b=Z #[171]/\H' a=Z (.lst [v]))\/L=0/\H' b=Z (.lst [v])/\H' a=Z #[171]),λ_ _ h=>h,?_⟩;exists _,rfl,.inl ⟨rfl,_,bM d⟩,a,_,v,rfl,rfl,d,rfl;exists 1;have u:(upd R a #[74]) b=Z #[171]:=by rw[aj m];show o
   have l:av H (upd R a #[74]):=au N W;show⟨_,U,.inl ⟨U,_,bM u⟩,_,U,b,_,_,U,U,u,(by change 0<sizeLine;decide),?_⟩;have p:av H (upd (upd R a #[74]) b (HO.lst ([]++[v]))):=au l e;have z:(upd (upd R a #[74]) b (HO.lst ([]++[v]))) a=Z #[171]:=by rw[aj (Ne.symm m),ae]
   show⟨_,U,.inl ⟨U,_,bM z⟩,_,U,v,t,U,eM.same (rL p) M,λT D c r=>?_⟩;show⟨a,T,_,_,U,U,c _ _ z,r,#[15],0,by decide,_,U,au (p.trans c) W,.inr ⟨U,?_,ae⟩⟩;rw[aj m];show c _ _ ae
  ·show⟨_,U,_,.inl ⟨_,bM d,U⟩,ox ?_⟩;show j _ _ ⟨k,U,N,o⟩
 rintro O H' ⟨k,rfl,s1,G⟩;show⟨_,U,q b H' s1 G⟩
def adh(F:bu K "rows_of" "rows_of" Ff dV f fd)(D:bh P w K mg base "pieces_of" 2 ["statement"] [] Lz)(B:bh P w K mg base "row_names_in" 1 ["statement"] [] SY)(C:mg "tuple" = Y)(g:mg "sorted" = Y)(j:mg "set" = Y):aR P w K mg base cO 3 f fd ["statement"] S7:=by
 show F.ok CS (λp H Q E h=>?_) (λcq A I s H p Q E b h=>?_)
 ·exists 26;rfl
 let⟨v,t,rfl,M,q⟩:=h;have l1:=ac0 t;have lm:#[119].length=(iq t).length:=jW _;show mD (aD (eI.mk (aB (i:=1) CS.nd (bS af)))
   (aD (eI.mk (cf PassesOwn.never rfl (cU (aK D b #[26])) (bj (i:=2) CS.nd) (ao (bC (fZ Ye yN yO Cz (pv 1) (aa (aK B b #[75]) af))))))
   (dM (eI.mk (aE (aS bq #[31] C bJ (aa (aH ((sr rfl)) #[31] g Ew (aa (aS ((Cp rfl)) #[31] j T8 #[33]) af)) af))))))) ?_
 exists 0;show⟨#[15],λu m=>?_⟩;have k:=ak m #[74];exists 1;show cg (t:=pQ _ _ _) (λO H'=>∃(d:OV),O=[Z v,Z (.ref u),d]/\av H H'/\H' u=Z (.lst (#[119].map V.str))) ?_ #[27];exists 27
 ·show⟨_,U,v,t,U,eM.same (rL k) M,λc H1 s1 e=>⟨c,U,⟨_,bM e⟩,?_⟩⟩;have n:=s1 _ _ (ae (H:=H) (a:=u) (o:=HO.lst []));have G:=k.trans s1;show fW (K:=K) (xs:=[v]) (λi O H'=>∃(d:OV),O=[Z v,Z (.ref u),d]/\av H H'/\H' c=Z (.lst [v])/\((i=0/\H' u=Z #[171])\/i=1/\H' u=Z (.lst (#[119].map V.str)))) ⟨Y,U,G,e,.inl ⟨U,n⟩⟩ (λi O H' _ ⟨_,_,_,h,_⟩=>bM h) ?_ ?_
  ·rintro i y O J W ⟨d,rfl,s2,L,R⟩;have i0:i=0:=by have:=(lH W).1;simp at this;show this
   subst i0;cases(show v=y by simpa using W);have R:J u=Z #[171]:=by
    rcases R with⟨_,z⟩|⟨z,_⟩
    ·show z
    ·cases z
   show⟨_,U,.inl ⟨U,_,bM R⟩,_,U,v,t,U,eM.same (rL s2) M,λT H3 X r=>?_⟩;show⟨u,T,_,_,U,U,X _ _ R,r,jc (show _<=1000 by simp;lia) #[9],_,U,au (s2.trans X) m,?_,.inr ⟨U,ae⟩⟩;rw[aj (λz=>by rw[z,R]at L;cases L)];show X _ _ L
  ·rintro O J ⟨d,rfl,s2,L,R⟩;rcases R with⟨z,_⟩|⟨_,z⟩
   ·cases z
   ·show cI _ _ ⟨d,U,s2,z⟩
 rintro O J ⟨d,rfl,s2,R⟩;show⟨_,U,u,(iq t).map (·.1),U,R,by lia,λS hS=>?_⟩;have X:=ak hS (Ci P w S (iZ #[119]));show⟨S,iZ #[119],U,ae,by have:=EU #[119];lia,λl ms hl pm so=>?_⟩;have s4:=ak hl (HO.lst (ms.map V.str));show⟨l,_,U,.inl ⟨bM ae,λT r=>?_⟩⟩;have N:=Cg.ET pm so;show q T ms _ ((s2.trans (X.trans s4)).trans (ak r _)) ae (λz hz=>(N.mem z).mp hz) (by have:=wU N.nd λx hx=>(N.mem x).mp hx;lia)
end
def cQ(b:Int):LI->Int
 |[]=>0
 |p::r=>p+b*cQ b r
def rS(m:Int):LI->LI
 |[]=>[]
 |p::r=>p%m::p / m::rS m r
def Cf(b:Int)(ps:LI):Prop:=∀p∈ps,0<=p/\p<b
def Cf.nil{b:Int}:Cf b []:=λp h=>by cases h
def Cf.cons{b p:Int}{r:LI}(X:0<=p)(G:p<b)(h:Cf b r):Cf b (p::r):=λx J=>by
 rcases jL.mp J with z|z
 ·rw[z];show⟨X,G⟩
 ·show h x z
def Cf.tail{b p:Int}(h:Cf b (p::r)):Cf b r:=λx J=>h x (jF _ J)
theorem EE(m:Int):∀ps:LI,(rS m ps).length=2*ps.length
 |[]=>rfl
 |p::r=>by simp only[rS,jX,EE m r];lia
theorem RD(N:0<m):∀{ps:LI},Cf (m*m) ps->Cf m (rS m ps)
 |[],_=>Cf.nil
 |p::r,h=>by have D:=h p jA;have d0:0<=p / m:=zS D.1 (Ja N);have d1:p / m<m:=Int.ediv_lt_of_lt_mul N D.2;show Cf.cons (QS p #[1]) (QA p N) (Cf.cons d0 d1 (RD N h.tail))
theorem MP(m:Int):∀ps:LI,cQ m (rS m ps)=cQ (m*m) ps
 |[]=>rfl
 |p::r=>by have e:=Zj p m;simp only[rS,cQ,MP m r];rw[zK,<-Zp,e,ZK]
theorem Di(m:Int):∀(ps:LI) (x:Int),rS m (ps++[x])=rS m ps++[x%m,x / m]
 |[],x=>rfl
 |p::r,x=>by simp only[ZU,rS,Di m r x]
theorem Bm{b:Int}(B:0<=b):∀{ps:LI},Cf b ps->0<=cQ b ps
 |[],_=>JF 0
 |p::r,h=>ZE (h p jA).1 (Jl B (Bm B h.tail))
theorem Bl(b:Int):∀(ps qs:LI),cQ b (ps++qs)=cQ b ps+b^ps.length*cQ b qs
 |[],qs=>by simp[cQ]
 |p::r,qs=>by simp only[ZU,cQ,Bl b r qs,jX];rw[zK,zA,Zp,<-ZK,QE b (b^r.length)]
def Oh(b:Int)(ps:LI)(x:Int):cQ b (ps++[x])=cQ b ps+x*b^ps.length:=by rw[Bl];simp[cQ,QE]
def pw(w:Int):Nat->Int
 |0=>w
 |i+1=>pw w i*pw w i
theorem Pm{w:Int}(h:2<=w):∀i,2<=pw w i
 |0=>h
 |i+1=>by have q:=Pm h i;have:=Ju q q #[9] #[1];change 2<=pw w i*pw w i;lia
def ajL{w:Int}(h:2<=w)(i:Nat):pw w i<pw w (i+1):=by have q:=Pm h i;have:=Ju q (JF (pw w i)) #[1] #[1];change pw w i<pw w i*pw w i;lia
theorem ajK{w:Int}(h:2<=w):∀i:Nat,(2:Int)^(2^i)<=pw w i
 |0=>by simpa[pw]using h
 |i+1=>by
  have q:=ajK h i;have e:(2:Int)^(2^(i+1))=2^(2^i)*2^(2^i):=by rw[zU,Nat.mul_two,Int.pow_add]
  rw[e];have A:(0:Int)<=2^(2^i):=Ja (QL #[9]);show Ju q q A (zN A q)
def NB:Int:=2^1100
def TF:NB*NB<BIG:=by decide +kernel
def adT:2<NB:=by decide +kernel
def afX{w n:Int}(h:2<=w)(D:pw w t<=n)(L:n<NB):2^t<1100:=by
 have q:=ajK h t;have l:(2:Int)^(2^t)<2^1100:=Jp (zN q D) L;have p:(2:Nat)^(2^t)<2^1100:=by exact_mod_cast l
 show(Nat.pow_lt_pow_iff_right #[9]).mp p
def pws(w:Int)(t:Nat):LI:=(jg t).map (pw w)
def afZ(w:Int)(t:Nat):pws w (t+1)=pws w t++[pw w t]:=by unfold pws;rw[JN,jD];rfl
def HD(w:Int)(t:Nat):(pws w t).length=t:=by simp[pws]
def aiy{w:Int}(h:i<t):(pws w t)[i]?=Z (pw w i):=by simp[pws,h]
structure An(w n:Int)(ds:LI):Prop where
 inb:Cf w ds
 val:cQ w ds=n
 top:∀d,ds.getLast?=Z d->d≠0
def X2(ds:LI):ds=[]\/∃r x,ds=r++[x]:=by
 rcases List.eq_nil_or_concat ds with h|⟨r,x,h⟩
 ·show .inl h
 ·show .inr ⟨r,x,by simpa using h⟩
inductive DX (vs:List V) (H:Hp) (Q:VK) (E:XK):Prop|mk (z:Int) (_:vs=[.int z]) (_:Q (.bl true) H)
inductive agi (vs:List V) (H:Hp) (Q:VK) (E:XK):Prop|mk (z y:Int) (_:vs=[.int z,.int y]) (_:Q (.bl (decide (y<=z))) H)
inductive agj (vs:List V) (H:Hp) (Q:VK) (E:XK):Prop|mk (z y:Int) (x:Str) (_:vs=[.int z,.int y,.str x]) (_:y<=z) (_:Q .non H)
inductive SR (K:Yc) (vs:List V) (H:Hp) (Q:VK) (E:XK):Prop|mk (a:Qp) (m:Int) (ps:LI) (_:vs=[.ref a,.int m]) (_:mC K H a (ps.map V.int)) (_:ps.length<=5000) (_:(0<m/\m<BIG)) (_:∀(l:Qp) (H':Hp),av H H'->H l=Y->H' l=Z (.lst ((rS m ps).map V.int))->Q #[102] H')
inductive N9 (K:Yc) (vs:List V) (H:Hp) (Q:VK) (E:XK):Prop|mk (n w:Int) (_:vs=[.int n,.int w]) (_:(0<=n/\n<NB)) (_:(2<=w/\w<NB)) (_:∀(t:Qp) (H':Hp) (ds:LI),av H H'->H' t=Z (.tup (ds.map V.int))->An w n ds->ds.length<=5000->Q (.ref t) H')
section
def SE:aA ["thing"] ["thing"] (aq CI):=bQ #[0]
def Fl:aA ["thing","least"] ["thing","least"] (aq oY):=bQ #[0]
def Ml:aA ["thing","least","called"] ["thing","least","called"] (aq wL):=bQ #[0]
def iO:aA ["number","wide","powers","power","parts","middle"] ["number","wide"] (aq Fe):=bQ #[0]
def Fj:aA ["parts","middle","halves","part"] ["parts","middle"] (aq Ll):=bQ #[0]
def Se(F:bu K "is_whole" "is_whole" CI dV f fd)(a:mg "isinstance" = Y)(i:mg "int" = Y)(b:mg "bool" = Y):aR P w K mg base cO 1 f fd ["thing"] DX:=by
 show F.ok SE #[11] #[5]
 ·let⟨z,rfl,_⟩:=h;rfl
 let⟨z,rfl,q⟩:=h;show⟨_,(ao (aE (wF (aH fV #[31] a cj (aa (pv 0) (aa (lS (v:=.ty "int") rfl i IA rfl) af))) (wG (afJ (aH fV #[31] a cj (aa (pv 0) (aa (lS (v:=.ty "bool") rfl b aaB rfl) af)))))))),?_⟩;exists 0;show⟨_,U,_,_,_,_,U,mW.int z,FL K,_,U,Cu ?_⟩;show⟨_,U,_,_,_,_,U,mW.int z,Dn K,_,U,q⟩
def ah6(F:bu K "is_whole_from" "is_whole_from" oY dV f fd)(a:bh P w K mg base "is_whole" 1 ["thing"] [] DX):aR P w K mg base cO 2 f fd ["thing","least"] agi:=by
 show F.ok Fl #[11] #[5]
 ·let⟨z,y,rfl,_⟩:=h;rfl
 let⟨z,y,rfl,q⟩:=h;exists _,(ao (aE (wF (aK a S #[26]) (wG (eO afz (pv 0) (pv 1) (aL _))))));exists 0;show⟨_,U,z,U,_,U,Cu ⟨_,U,_,U,_,_,U,U,q⟩⟩
def ah7(F:bu K "need_whole" "need_whole" wL dV f fd)(a:bh P w K mg base "is_whole_from" 2 ["thing","least"] [] agi):aR P w K mg base cO 3 f fd ["thing","least","called"] agj:=by
 show F.ok Ml #[11] #[5]
 ·let⟨z,y,x,rfl,_⟩:=h;rfl
 let⟨z,y,x,rfl,G,q⟩:=h;exists _,(ao (bV (oU (lX (aK a S (aa (pv 0) #[33])))) (ao iz) aV));exists 0;show⟨_,U,_,U,z,y,U,_,U,aoM G ?_⟩;show q
def ac7(F:bu K "halved" "halved" Ll dV f fd):aR P w K mg base cO 1 f fd ["parts","middle"] (SR K):=by
 show F.ok Fj #[11] (λcq A I s H n Q E c h=>?_)
 ·let⟨a,m,ps,rfl,_⟩:=h;rfl
 let⟨a,m,ps,rfl,g,C,⟨m0,m1⟩,k⟩:=h;show⟨_,(ah (aB (i:=2) Fj.nd (bS af))
   (ah (cf PassesOwn.never rfl (cU (pv 0)) (bj (i:=3) Fj.nd) (ah (bC (fZ Ye Yg Yh bX (pv 2) (aa (aC bK (pv 3) (pv 1)) af)))
   (ao (bC (fZ Ye Yg Yh bX (pv 2) (aa (aC afy (pv 3) (pv 1)) af))))))
   (ao (aE (pv 2))))),?_⟩
 exists 0;show⟨#[15],λl b=>?_⟩;show⟨_,U,a,U,⟨_,(ak b _).seq g⟩,fW (K:=K) (xs:=ps.map V.int) (λi O H'=>∃v,O=[Z #[44],Z (.int m),Z #[102],v]/\av H H'/\H' l=Z (.lst ((rS m (ps.take i)).map V.int)))
  ⟨Y,rfl,ak b _,ae⟩ (λi O H' _ ⟨_,_,s,_⟩=>s.seq g) ?_ ?_⟩
 ·rintro i y O H' W ⟨v,rfl,s1,G⟩;let⟨z,rfl,S⟩:=cy W;have o:i<ps.length:=(lH S).1;have u:((rS m (ps.take i)).map V.int).length<=10000:=by rw[aW,EE,jT];lia
  have big:10002<sizeLine:=by decide
  show⟨_,U,.inl ⟨U,_,bM G⟩,_,U,_,U,_,_,U,U,m0,l,_,_,U,U,G,by lia,?_⟩;show⟨_,U,.inl ⟨U,_,bM ae⟩,_,U,_,U,_,_,U,U,⟨m0,m1⟩,l,_,_,U,U,ae,by rw[jH];simp only[je];lia,?_⟩;exists _,rfl,au (au s1 b) b;rw[ae,jS,S];change _=Z (HO.lst ((rS m (ps.take i++[z])).map V.int));rw[Di,jD,jr];rfl
 ·rintro O H' ⟨v,rfl,s1,G⟩;rw[aW,jV]at G;show⟨_,U,k l H' s1 b G⟩
def Y5(F:bu K "figures" "figures" Fe dV f fd)(pD:bh P w K mg base "need_whole" 3 ["thing","least","called"] [] agj)(HX:bh P w K mg base "halved" 1 ["parts","middle"] [] (SR K))(mP:mg "reversed" = Y)(aF:mg "tuple" = Y):aR P w K mg base cO 4 f fd ["number","wide"] (N9 K):=by
 show F.ok iO #[18] (λcq A y4 s H vs Q E S h=>?_)
 ·let⟨n,w,rfl,_⟩:=h;rfl
 let⟨n,o,rfl,⟨n0,n1⟩,⟨C,w1⟩,k⟩:=h;have d5:∀{x y:Int},0<=x->x<NB->0<=y->y<NB->x*y<BIG:=λ{x y} hx R hy O7=>
  Jp (Ju (Ja R) (Ja O7) hy (zN hx (Ja R))) TF
 have j:∀{x:Int},0<=x->x<NB->x<BIG:=λ{x} hx R=>by have:=adT;have:=TF;have q:NB*1<=NB*NB:=Ju (JF _) #[1] #[9] #[1];lia
 show⟨_,(ah (bC (aK pD S (aa (pv 0) (aa ag (aa ba af)))))
   (ah (bC (aK pD S (aa (pv 1) (aa ag (aa ba af)))))
   (ah (aB (i:=2) iO.nd (bS af))
   (ah (aB (i:=3) iO.nd (pv 1))
   (ah (oC PassesOwn.never (aG Sk (pv 3) (pv 0) (aL _)) (ah (bC (fZ Ye Yg Yh bX (pv 2) #[49]))
   (ao (aB (i:=3) iO.nd (aC abk (pv 3) (pv 3))))))
   (ah (aB (i:=4) iO.nd (bS #[26]))
   (ah (cf PassesOwn.never rfl (afQ rfl mP #[75]) (bj (i:=5) iO.nd) (ao (aB (i:=4) iO.nd (aK HX S (aa (pv 4) #[124])))))
   (ah (oC PassesOwn.never (PW.pt (AY (AX (pv 4) (λ_=>rfl)) (BK (aG cK (ax bR (pv 4) (apf ami ag) #[2]) ag (aL _))))) (ao (bC (K6 Ye yi yj Y1 (pv 4)))))
   (ao (aE (aS bq #[31] aF bJ #[125]))))))))))),?_⟩
 exists 0;exists _,rfl,n,0,_,rfl,n0;exists _,rfl,o,2,_,rfl,C;show⟨#[15],λL hL=>?_⟩;exists _,rfl;exists 29;show Bw (t:=sU _ _) (λO H'=>∃t:Nat,O=[Z (.int n),Z (.int o),Z (.ref L),Z #[150],Y,Y]/\av H H'/\H' L=Z (.lst ((pws o t).map V.int))/\n<pw o t/\(t=0\/pw o (t-1)<=n)) ?_ (λu=>?_);exists 27
 ·show sd (λm O H'=>∃t:Nat,m=(n+1-pw o t).toNat/\O=[Z (.int n),Z (.int o),Z (.ref L),Z #[150],Y,Y]/\av H H'/\H' L=Z (.lst ((pws o t).map V.int))/\(t=0\/pw o (t-1)<=n))
   ⟨_,0,rfl,rfl,ak hL _,ae,.inl rfl⟩ ?_
  rintro m O H' ⟨t,rfl,rfl,s1,G,ht⟩;show⟨_,U,_,U,_,_,U,U,_,U,rM #[39] #[39]⟩
  ·have c':pw o t<=n:=c;have p2:=Pm C t;have B1:=afX C c' n1;have i5:t<2^t:=Zs;have j5:=ajL C t;show⟨λO H'=>∃I,I<(n+1-pw o t).toNat/\∃t:Nat,I=(n+1-pw o t).toNat/\O=[Z (.int n),Z (.int o),Z (.ref L),Z #[150],Y,Y]/\av H H'/\H' L=Z (.lst ((pws o t).map V.int))/\(t=0\/pw o (t-1)<=n),λO H' h=>h,?_⟩;show⟨_,U,.inl ⟨U,_,bM G⟩,_,U,L,_,_,U,U,G,?_,?_⟩
   ·rw[aW,HD];have big:(1101:Nat)<sizeLine:=by decide
    lia
   show⟨_,U,_,U,_,_,U,U,⟨⟨by lia,j #[1] #[1]⟩,⟨by lia,j #[1] #[1]⟩⟩,_,?_,t+1,U,U,au s1 hL,?_,.inr c'⟩
   ·change(n+1-pw o (t+1)).toNat<_;lia
   ·rw[ae,afZ,jD];rfl
  ·show u _ _ ⟨t,U,s1,G,by lia,ht⟩
 rintro O H1 ⟨t,rfl,s1,G,hn,ht⟩;have B1:2^t<=2200:=by
  rcases ht with z|z
  ·rw[z];decide
  ·rcases t with _|t
   ·decide
   ·have:=afX C z n1;rw[zU];simp only[QB]at this;lia
 show⟨_,U,#[73],λD0 W=>?_⟩;have s2:=s1.trans (ak W (HO.lst [V.int n]));have nL:L≠D0:=ar G W;exists 29;show Bw (t:=pQ _ _ _) (λO H'=>∃(D:Qp) (v:OV) (ps:LI),O=[Z (.int n),Z (.int o),Z (.ref L),Z #[150],Z #[103],v]/\av H H'/\H D=Y/\H' D=Z (.lst (ps.map V.int))/\Cf o ps/\cQ o ps=n/\ps.length<=2200) ?_ (λu=>?_);exists 27
 ·show⟨_,U,L,_,U,bM (by rw[aj nL];show G),aaQ (K:=K) (xs:=(pws o t).map V.int) (λi O H'=>∃(D:Qp) (v:OV) (ps:LI),O=[Z (.int n),Z (.int o),Z (.ref L),Z #[150],Z #[103],v]/\av H1 H'/\H1 D=Y/\H' D=Z (.lst (ps.map V.int))/\Cf (pw o (t-i)) ps/\cQ (pw o (t-i)) ps=n/\ps.length=2^i)
   ⟨D0,Y,[n],rfl,ak W _,W,ae,Cf.cons n0 hn Cf.nil,by simp[cQ],rfl⟩ (λi O H' _ ⟨_,_,_,_,s,_,_,_,_,_⟩=>bM (s _ _ G)) ?_ ?_⟩
  ·rintro i y O H' hi hy ⟨D,v,ps,rfl,B,fD,J,X,e,M⟩;rw[aW,HD]at hi;rw[aW,HD]at hy;have e1:t-i=(t-1-i)+1:=by lia
   have e2:t-(i+1)=t-1-i:=by lia
   let⟨z,rfl,hz⟩:=cy hy;rw[aiy (show t-1-i<t by lia)]at hz;cases hz;rw[e1]at X e;have hp:=Pm C (t-1-i);have o5:pw o (t-1-i)<=n:=by
    rcases ht with z|z
    ·lia
    ·have mono:∀a b:Nat,pw o a<=pw o (a+b):=λa b=>by
      induction b with
      |zero=>show JF _
      |succ b ih=>show zN ih (Ja (ajL C (a+b)))
     have:=mono (t-1-i) i;rw[show t-1-i+i=t-1 by lia]at this;lia
   have li:2^i<=2^t:=zu #[9] #[1];show⟨_,U,_,U,D,_,ps,U,bM J,by lia,⟨by lia,j #[1] #[1]⟩,λl w5 N fl hl=>?_⟩;show⟨l,_,rS (pw o (t-1-i)) ps,U,B.trans N,B.free fl,hl,?_,?_,?_⟩
   ·rw[e2];show RD #[1] X
   ·rw[e2,MP];show e
   ·rw[EE,M,zU];lia
  ·rintro O H' ⟨D,v,ps,rfl,B,fD,J,X,e,M⟩;rw[aW,HD]at X e M;rw[zO]at X e;show u _ _ ⟨D,v,ps,U,s1.trans B,s1.free fD,J,X,e,by lia⟩
 rintro O H2 ⟨D,v,ps,rfl,B,fD,J,X,e,M⟩;exists 29;show Bw (t:=sU _ _) (λO H'=>∃ps:LI,O=[Z (.int n),Z (.int o),Z (.ref L),Z #[150],Z #[103],v]/\av H H'/\H' D=Z (.lst (ps.map V.int))/\An o n ps/\ps.length<=2200) ?_ (λu=>?_);exists 27
 ·show sd (λm O H'=>∃ps:LI,m=ps.length/\O=[Z (.int n),Z (.int o),Z (.ref L),Z #[150],Z #[103],v]/\av H H'/\H' D=Z (.lst (ps.map V.int))/\Cf o ps/\cQ o ps=n/\ps.length<=2200) ⟨_,ps,U,U,B,J,X,e,M⟩ ?_;rintro m O H' ⟨ps,rfl,rfl,N,g,X,e,M⟩;rcases X2 ps with rfl|⟨r,x,rfl⟩
  ·show⟨_,U,_,.inl ⟨_,bM g,U⟩,ox (ox ?_)⟩;show u _ _ ⟨[],U,N,g,⟨X,e,λd h=>by cases h⟩,M⟩
  ·have ix:wV ((r++[x]).map V.int) (-1)=Z (.int x):=by rw[jD];show ad1 _ _
   exists _,rfl,_,.inl ⟨_,bM g,rfl⟩;have ne:(!((r++[x]).map V.int).isEmpty)=true:=by simp
   rw[ne];show Cu ⟨_,U,_,U,D,_,_,_,U,U,bM g,ix,U,_,U,EG #[39] #[39]⟩
   ·have S:cQ o r=n:=by rw[Oh,c,Qe,ZX]at e;show e
    show⟨λO H'=>∃I,I<(r++[x]).length/\∃ps:LI,I=ps.length/\O=[Z (.int n),Z (.int o),Z (.ref L),Z #[150],Z #[103],v]/\av H H'/\H' D=Z (.lst (ps.map V.int))/\Cf o ps/\cQ o ps=n/\ps.length<=2200,λO H' h=>h,?_⟩;show⟨_,U,.inl ⟨U,_,bM g⟩,D,_,V.int x,U,U,g,by simp,?_⟩
    ·show⟨r.length,by simp,r,U,U,au N fD,?_,λp hp=>X p (JH _ hp),S,?_⟩
     ·rw[ae,jD];change Z (HO.lst ((r.map V.int++[V.int x]).dropLast))=_;rw[Zm]
     ·rw[jH]at M;lia
   ·show u _ _ ⟨r++[x],U,N,g,⟨X,e,λd h=>by rw[List.getLast?_concat]at h;cases h;show c⟩,M⟩
 rintro O H3 ⟨ps,rfl,N,g,FG,M⟩;show⟨_,U,D,_,U,.inl ⟨bM g,λT hT=>?_⟩⟩;show k T _ ps (N.trans (ak hT _)) ae FG #[1]
end
theorem BD{w:Int}(h:1<=w){i:Nat}:∀{j:Nat},i<=j->w^i<=w^j
 |0,O=>by rw[Nat.le_zero.mp O];show JF _
 |j+1,O=>by
  rcases Jb i (j+1)with q|q
  ·have K:=BD h (i:=i) (j:=j) #[1];have A:(0:Int)<w^j:=QL #[1];have:w^j*1<=w^j*w:=zv h #[1];rw[zA];lia
  ·rw[Nat.le_antisymm O q];show JF _
theorem AG{w:Int}(j:2<=w):∀{ds es:LI} {n:Int},An w n ds->An w n es->ds=es
 |[],[],_,_,_=>rfl
 |[],e::es,n,h,O=>by exfalso;have z:cQ w (e::es)=0:=O.val.trans h.val.symm;show no_zero j O z
 |d::ds,[],n,h,O=>by exfalso;have z:cQ w (d::ds)=0:=h.val.trans O.val.symm;show no_zero j h z
 |d::ds,e::es,n,h,O=>by
  have c:=h.inb d jA;have R:=O.inb e jA;have G:d+w*cQ w ds=n:=h.val;have f:e+w*cQ w es=n:=O.val;have T:n%w=d:=by rw[<-G,Jr];show Ji c.1 c.2
  have g:n%w=e:=by rw[<-f,Jr];show Ji R.1 R.2
  have b:d=e:=T.symm.trans g;have i:cQ w ds=cQ w es:=by
   have:w*cQ w ds=w*cQ w es:=by lia
   show Int.eq_of_mul_eq_mul_left #[1] this
  have t1:An w (cQ w ds) ds:=⟨h.inb.tail,rfl,λx J=>by
   cases ds with
   |nil=>cases J
   | cons a r=>show h.top x (by rw[Jj];show J)⟩
  have k:An w (cQ w ds) es:=⟨O.inb.tail,i.symm,λx J=>by
   cases es with
   |nil=>cases J
   | cons a r=>show O.top x (by rw[Jj];show J)⟩
  rw[b,AG j t1 k]
where
 no_zero {w:Int} (j:2<=w):∀{es:LI} {e n:Int},An w n (e::es)->cQ w (e::es)=0->False
 |[],e,n,h,z=>by have:e+w*0=0:=z;show h.top e rfl #[1]
 |a::r,e,n,h,z=>by
  have m:e+w*cQ w (a::r)=0:=z;have R:=h.inb e jA;have N:=Bm (by lia:(0:Int)<=w) h.inb.tail;have:0<=w*cQ w (a::r):=Jl #[1] N;have S:w*cQ w (a::r)=0:=by lia
  have l:cQ w (a::r)=0:=by
   rcases Ze.mp S with q|q
   ·lia
   ·show q
  show no_zero j (es:=r) (e:=a) (n:=cQ w (a::r)) ⟨h.inb.tail,U,λx J=>h.top x (by rw[Jj];show J)⟩ l
theorem BI{f g:Nat->Int}:∀{n:Nat},(∀i,i<n->f i=g i)->preSum f n=preSum g n
 |0,_=>rfl
 |n+1,h=>by change preSum f n+f n=preSum g n+g n;rw[BI (λi W=>h i #[1]),h n #[1]]
def Ho(b:Int):Nat->Int->Int
 |0,g=>g
 |i+1,g=>Ho b i g / b
def Bp(F:LI)(b g:Int)(n:Nat):Int:=preSum (λi=>F.getD i 0*(Ho b i g%b)) n
def oP(b low:Int):LI->Int
 |[]=>0
 |n::r=>oP b low r*b+n / low%b
def ahl{b:Int}(B:0<b):(x*b+y%b) / b=x:=by have h:=cb (a:=y) B;rw[Qf,Int.add_mul_ediv_right _ _ #[1],zL h.1 h.2,Je]
def ahm{b:Int}(B:0<b):(x*b+y%b)%b=y%b:=by have h:=cb (a:=y) B;rw[Qf,Int.add_mul_emod_self_right,Ji h.1 h.2]
theorem aeh{b:Int}(B:0<b)(N:LI):∀i:Nat,Ho b i (oP b low N)=oP b low (N.drop i)
 |0=>rfl
 |i+1=>by
  change Ho b i (oP b low N) / b=_;rw[aeh B N i];by_cases h:i<N.length
  ·rw[JB h];show ahl B
  ·rw[zJ #[1],zJ #[1]];change(0:Int) / b=0;show ZL b
def V1{b:Int}(B:0<b)(h:i<N.length):Ho b i (oP b low N)%b=N.getD i 0 / low%b:=by rw[aeh B,JB h,getD_at h];show ahm B
def wgL(F N:LI)(b low:Int)(n:Nat):Int:=preSum (λi=>F.getD i 0*(N.getD i 0 / low%b)) n
def aap{b:Int}(B:0<b)(C:F.length=N.length):Bp F b (oP b low N) F.length=wgL F N b low F.length:=
 BI λi W=>by rw[V1 B #[1]]
def Fb(F N:LI)(low:Int)(n:Nat):Int:=preSum (λi=>F.getD i 0*(N.getD i 0%low)) n
def ae0{n l b:Int}(u:0<=n)(c:0<l)(M:0<b):n%(l*b)=n%l+l*(n / l%b):=by
 let⟨x,rfl⟩:=fu u;let⟨y,rfl⟩:=fu (Ja c);let⟨z,rfl⟩:=fu (Ja M);have h:=Nat.mod_mul (x:=x) (a:=y) (b:=z)
 exact_mod_cast h
theorem BL{b:Int}(B:0<b)(C:0<low)(T:∀z∈N,0<=z):∀n:Nat,Fb F N (low*b) n=Fb F N low n+low*wgL F N b low n
 |0=>by change(0:Int)=0+low*0;lia
 |n+1=>by
  change Fb F N (low*b) n+F.getD n 0*(N.getD n 0%(low*b))=(Fb F N low n+F.getD n 0*(N.getD n 0%low))+low*(wgL F N b low n+F.getD n 0*(N.getD n 0 / low%b));have X:0<=N.getD n 0:=by
   by_cases h:n<N.length
   ·rw[getD_at h];show T _ (jO h)
   ·rw[jQ,JE #[1]];show JF _
  rw[BL B C T n,ae0 X C B,zK,zK,Int.mul_left_comm (F.getD n 0) low];lia
theorem DL:∀n:Nat,Fb F N 1 n=0
 |0=>rfl
 |n+1=>by change Fb F N 1 n+F.getD n 0*(N.getD n 0%1)=0;rw[DL n,Qg,ZY];rfl
def duO(left low:Int):Option Int:=if left%low=0 then Z (left / low)else Y
def stM(b:Int)(p:Option Int)(wt:Int):Option Int:=match p with
 |some z=>if (z-wt)%b=0 then Z ((z-wt) / b)else Y
 |none=>Y
def stW(b:Int)(p:Option Int)(wt:Int):Option Int:=p.map λz=>(z-wt) / b
def aee{left b wt:Int}(C:0<low)(B:0<b):stM b (duO left low) wt=duO (left-low*wt) (low*b):=by
 have d:0<low*b:=Int.mul_pos C B;by_cases h:left%low=0
 ·let⟨p,rfl⟩:=zW h;have e:low*p-low*wt=low*(p-wt):=(Int.mul_sub low p wt).symm;have T:low*p / low=p:=ZZ p #[1];unfold duO;rw[if_pos h,T,e,Int.mul_emod_mul_of_pos _ _ C,Int.mul_ediv_mul_of_pos _ _ C];change(if (p-wt)%b=0 then Z ((p-wt) / b)else Y)=_;have N:=cb (a:=p-wt) B;by_cases z:(p-wt)%b=0
  ·rw[if_pos z,if_pos (by rw[z,ZY])]
  ·rw[if_neg z,if_neg (λq=>by
    rcases Ze.mp q with q|q
    ·lia
    ·show z q)]
 ·unfold duO;rw[if_neg h,if_neg (λq=>h ?_)]
  ·rfl
  ·have d1:low*b ∣ left-low*wt:=zW q;have d2:low ∣ left-low*wt:=Int.dvd_trans (QJ low b) d1;have c:low ∣ (left-low*wt)+low*wt:=Int.dvd_add d2 (QJ low wt);rw[Int.sub_add_cancel]at c;show Int.emod_eq_zero_of_dvd c
def aeg{left b wt:Int}(C:0<low)(B:0<b):(left / low-wt) / b=(left-low*wt) / (low*b):=by
 have e:left / low-wt=(left-low*wt) / low:=by have:=zk left (-wt) (show low≠0 by lia);rw[Int.mul_neg,<-QF,<-QF]at this;show this.symm
 rw[e,Zb #[1]]
def aef{left:Int}(C:0<low):duO left low=Z 0↔left=0:=by
 unfold duO;constructor
 ·intro h;split at h
  ·rename_i z;let⟨p,rfl⟩:=zW z;have T:low*p / low=p:=ZZ p #[1];rw[T]at h;rw[Option.some.inj h,ZY]
  ·cases h
 ·intro h;subst h;rw[if_pos (Zq low),ZL]
def V0{left:Int}(C:0<low):0<=left / low↔0<=left:=Int.le_ediv_iff_mul_le C |>.trans (by rw[Qe])
structure adS(K:Yc)(C:Qp):Prop where
 cl:Fv K C
 nm:df K C "machine"
 nf:df K C "factors"
 no:df K C "more"
 nb:df K C "base"
structure Ek(H:Hp)(C x m:Qp)(F:LI)(more b:Int):Prop where
 ob:∃dx fa:Qp,H x=Z (.ins C dx [("machine",.ref m),("factors",.ref fa),("more",.int more),("base",.int b)])/\H fa=Z (.tup (F.map V.int))
def Ek.same{x m:Qp}{more b:Int}(h:Ek H C x m F more b)(s:av H H'):Ek H' C x m F more b:=by let⟨O,fa,G,M⟩:=h.ob;show⟨O,fa,s _ _ G,s _ _ M⟩
inductive ags (vs:List V) (H:Hp) (Q:VK) (E:XK):Prop|mk (fa:Qp) (b g:Int) (F:LI) (_:vs=[.ref fa,.int b,.int g]) (_:H fa=Z (.tup (F.map V.int))) (_:(2<=b/\b<=10)) (_:Q (.int (Bp F b g F.length)) H)
inductive agn (K:Yc) (vs:List V) (H:Hp) (Q:VK) (E:XK):Prop|mk (m r g b:Qp) (st:Int) (many wide:Nat) (rows:LL) (signs ns:LI) (_:vs=[.ref m,.ref b,.int st]) (_:bD H m r g wide rows signs) (_:aQ many wide rows) (_:H b=Z (.tup #[47])) (_:(∀z∈ns,0<=z/\z<(wide:Int))) (_:(0<=st/\st<(many:Int))) (_:Q (.int (bp rows ns st)) H)
inductive aby (C:Qp) (vs:List V) (H:Hp) (Q:VK) (E:XK):Prop|mk (x dx m a:Qp) (F:LI) (more b:Int) (_:vs=[.ref x,.ref m,.ref a,.int more,.int b]) (_:H x=Z (.ins C dx [])) (_:H a=Z (.lst (F.map V.int))) (_:∀H':Hp,(∀c u,c≠x->H c=Z u->H' c=Z u)->Ek H' C x m F more b->Q .non H')
inductive mf (C:Qp) (vs:List V) (H:Hp) (Q:VK) (E:XK):Prop|mk (x m:Qp) (F:LI) (more b:Int) (_:vs=[.ref x]) (_:Ek H C x m F more b) (_:∀(t:Qp) (H':Hp),av H H'->H' t=Z (.tup [.int more,.int 0])->Q (.ref t) H')
inductive pP (C:Qp) (vs:List V) (H:Hp) (Q:VK) (E:XK):Prop|mk (x m p r g:Qp) (F:LI) (more c q fg:Int) (many wide:Nat) (rows:LL) (signs:LI) (_:vs=[.ref x,.ref p,.int fg]) (_:Ek H C x m F more wide) (_:H p=Z (.tup [.int c,.int q])) (_:bD H m r g wide rows signs) (_:aQ many wide rows) (_:(2<=wide/\wide<=10)) (_:(0<=q/\q<(many:Int))) (_:∀(t:Qp) (H':Hp),av H H'->H' t=Z (.tup [.int ((c+Bp F wide fg F.length) / wide),.int (stepI rows q ((c+Bp F wide fg F.length)%wide))])->Q (.ref t) H')
inductive pO (C:Qp) (vs:List V) (H:Hp) (Q:VK) (E:XK):Prop|mk (x m p r g:Qp) (F:LI) (more c q:Int) (many wide:Nat) (rows:LL) (signs ds:LI) (_:vs=[.ref x,.ref p]) (_:Ek H C x m F more wide) (_:H p=Z (.tup [.int c,.int q])) (_:bD H m r g wide rows signs) (_:aQ many wide rows) (_:signs.length=many) (_:(2<=wide/\wide<=10)) (_:(0<=q/\q<(many:Int))) (_:(0<=c/\c<NB)) (_:An wide c ds) (_:∀H':Hp,av H H'->Q (.int (signs.getD (bp rows ds q).toNat 0)) H')
section
def DT:aA ["machine","row","start","rows","here","figure"] ["machine","row","start"] (aq Z8):=bQ #[0]
def ij:aA ["factors","base","figure","weight","rest","factor"] ["factors","base","figure"] (aq Bf):=bQ #[0]
def BR:aA ["self","machine","factors","more","base"] ["self","machine","factors","more","base"] (aq iJ):=bQ #[0]
def Fh:aA ["self"] ["self"] (aq oW):=bQ #[0]
def Af:aA ["self","place","figure","total"] ["self","place","figure"] (aq rB):=bQ #[0]
def Hg:aA ["self","place"] ["self","place"] (aq rA):=bQ #[0]
def aic(F:bu K "room" "room" Z8 dV f fd):aR P w K mg base cO 1 f fd ["machine","row","start"] (agn K):=by
 show F.ok DT #[11] (λcq A I s H n Q E d h=>?_)
 ·let⟨m,r,g,b,st,many,wide,rows,signs,ns,rfl,_⟩:=h;rfl
 let⟨m,r,g,b,st,many,wide,rows,signs,ns,rfl,M,R,B,X,⟨k,s1⟩,q⟩:=h;let⟨N,⟨fz,p,J⟩,j⟩:=M;show⟨_,(ah (aB (i:=3) DT.nd #[12])
   (ah (aB (i:=4) DT.nd (pv 2))
   (ah (cf PassesOwn.never rfl (eD (pv 1)) (bj (i:=5) DT.nd) (ao (aB (i:=4) DT.nd (ax ay (ax ay (pv 3) (pv 4) #[2]) (pv 5) #[2]))))
   (ao (aE (pv 4)))))),?_⟩
 exists 0;exists _,rfl,m,_,_,_,rfl,rfl,bg N,rfl;exists _,rfl;show⟨_,U,b,U,⟨_,bg B⟩,rR (K:=K) (xs:=ns.map V.int) (λi O H'=>∃v,O=[Z #[136],Z (.ref b),Z (.int st),Z (.ref r),Z (.int (bp rows (ns.take i) st)),v]/\H'=H) ⟨Y,U,U⟩ (λi O H' _ ⟨_,_,e⟩=>by rw[e];show bg B) ?_ ?_⟩
 ·rintro i y O H' W ⟨v,rfl,rfl⟩;let⟨z,rfl,S⟩:=cy W;have C:=oG R (ns:=ns.take i) (h:=st) (λz S=>X z (Zo S)) k s1;have c:=X z (tw S);let⟨ra,o,T,a,l⟩:=AZ J R C.1 C.2 c.1 c.2;rw[<-aao S]at l;show⟨_,U,_,U,r,_,_,_,U,U,bg p,T,_,U,ra,_,_,_,U,U,bg a,l,_,U,U⟩
 ·rintro O H' ⟨v,rfl,rfl⟩;exists _,rfl;rw[aW,jV];show q
def alp(F:bu K "weight_of" "weight_of" Bf dV f fd):aR P w K mg base cO 1 f fd ["factors","base","figure"] ags:=by
 show F.ok ij #[11] (λcq A I s H n Q E d h=>?_)
 ·let⟨fa,b,g,o,rfl,_⟩:=h;rfl
 let⟨fa,b,g,o,rfl,X,⟨M,r⟩,q⟩:=h;show⟨_,(ah (aB (i:=3) ij.nd ag)
   (ah (aB (i:=4) ij.nd (pv 2))
   (ah (cf PassesOwn.never rfl (eD (pv 0)) (bj (i:=5) ij.nd) (ah (aB (i:=3) ij.nd (aC cJ (pv 3) (aC wD (pv 5) (aC bK (pv 4) (pv 1)))))
   (ao (aB (i:=4) ij.nd (aC cz (pv 4) (pv 1))))))
   (ao (aE (pv 3)))))),?_⟩
 exists 0;exists _,rfl;show⟨_,U,fa,U,⟨_,bg X⟩,rR (K:=K) (xs:=o.map V.int) (λi O H'=>∃v,O=[Z (.ref fa),Z (.int b),Z (.int g),Z (.int (Bp o b g i)),Z (.int (Ho b i g)),v]/\H'=H) ⟨Y,U,U⟩ (λi O H' _ ⟨_,_,e⟩=>by rw[e];show bg X) ?_ ?_⟩
 ·rintro i y O H' W ⟨v,rfl,rfl⟩;let⟨z,rfl,S⟩:=cy W;have N:=cb (a:=Ho b i g) (b:=b) #[1];have c:o.getD i 0=z:=by rw[jQ,S];rfl
  show⟨_,U,_,U,_,U,_,U,_,_,U,U,#[1],_,_,U,U,.inr ⟨by lia,by lia⟩,_,_,U,U,_,U,_,U,_,_,U,U,⟨by lia,by lia⟩,Z (.int z),?_,U⟩;change [_,_,_,Z (V.int (Bp o b g i+z*(Ho b i g%b))),Z (V.int (Ho b i g / b)),_]=[_,_,_,Z (V.int (Bp o b g i+o.getD i 0*(Ho b i g%b))),Z (V.int (Ho b i g / b)),_];rw[c]
 ·rintro O H' ⟨v,rfl,rfl⟩;exists _,rfl;rw[aW];show q
def afa(F:bu K "__init__" "Looking.__init__" iJ dV f fd)(d:adS K C)(l:mg "tuple" = Y):aR P w K mg base cO 1 f fd ["self","machine","factors","more","base"] (aby C):=by
 show F.ok BR #[11] #[5]
 ·let⟨x,O,m,a,o,D,b,rfl,_⟩:=h;rfl
 let⟨x,O,m,a,o,D,b,rfl,J,W,k⟩:=h;show⟨_,(ah (hU (pv 0) (pv 1) rfl)
   (ah (hU (pv 0) (aS bq #[31] l bJ #[75]) rfl)
   (ah (hU (pv 0) (pv 3) rfl)
   (ao (hU (pv 0) (pv 4) rfl))))),?_⟩
 exists 0;show⟨_,U,_,U,x,C,O,[],U,J,d.cl,d.nm,by decide,?_⟩;have g:a≠x:=aO W J #[3];show⟨_,U,a,_,U,.inl ⟨bM (by rw[aj g];show W),λt p=>?_⟩⟩;have j:x≠t:=λz=>by rw[<-z,ae]at p;cases p
 show⟨_,U,x,C,O,_,U,by rw[aj j,ae],d.cl,d.nf,by change 1<1000;decide,?_⟩;show⟨_,U,_,U,x,C,O,_,U,ae,d.cl,d.no,by change 2<1000;decide,?_⟩;show⟨_,U,_,U,x,C,O,_,U,ae,d.cl,d.nb,by change 3<1000;decide,?_⟩;show k _ (λc u L e=>?_) ⟨O,t,ae,?_⟩
 ·have i:c≠t:=λz=>by subst z;rw[aj L]at p;rw[e]at p;cases p
  rw[aj L,aj L,aj L,aj i,aj L];show e
 ·rw[aj (Ne.symm j),aj (Ne.symm j),aj (Ne.symm j),ae]
def ac9(F:bu K "begin" "Looking.begin" oW dV f fd)(d:adS K C):aR P w K mg base cO 1 f fd ["self"] (mf C):=by
 show F.ok Fh #[11] #[5]
 ·let⟨x,m,o,D,b,rfl,_⟩:=h;rfl
 let⟨x,m,o,D,b,rfl,⟨O,fa,J,X⟩,q⟩:=h;exists _,(ao (aE (cA (aa #[17] (aa ag af)))));exists 0;show⟨_,U,x,C,O,_,_,U,J,d.cl,d.no,U,#[14],λt p=>q t _ (ak p _) ae⟩
def afc(F:bu K "step" "Looking.step" rB dV f fd)(d:adS K C)(l:bh P w K mg base "weight_of" 1 ["factors","base","figure"] [] ags):aR P w K mg base cO 2 f fd ["self","place","figure"] (pP C):=by
 show F.ok Af #[11] #[5]
 ·let⟨x,m,p,r,g,o,D,c,q,e,many,wide,rows,signs,rfl,_⟩:=h;rfl
 let⟨x,m,p,r,g,o,D,c,q,e,many,wide,rows,signs,rfl,⟨O,fa,J,X⟩,j,M,R,⟨W,w1⟩,⟨G,u⟩,k⟩:=h;let⟨N,⟨fz,y,z⟩,hg⟩:=M;show⟨_,(ah (aB (i:=3) Af.nd (aC cJ #[30] (aK l S (aa #[17] (aa #[17] #[75])))))
   (ao (aE (cA (aa (aC cz (pv 3) #[17]) (aa (ax ay (ax ay (ax ay #[17] ag #[2]) #[30] #[2]) (aC bK (pv 3) #[17]) #[2]) af)))))),?_⟩
 exists 0;exists _,rfl,p,_,_,_,rfl,rfl,bg j,rfl,_,rfl,x,C,O,_,_,rfl,J,d.cl,d.nf,rfl,_,rfl,x,C,O,_,_,rfl,J,d.cl,d.nb,rfl,_,rfl,fa,_,_,o,rfl,X,⟨by lia,by lia⟩,_,_,rfl,rfl;have v:=cb (a:=c+Bp o wide e o.length) (b:=(wide:Int)) #[1];let⟨ra,rr,T,B,L⟩:=AZ z R G u v.1 v.2;show⟨_,U,_,U,x,C,O,_,_,U,J,d.cl,d.nb,U,_,_,U,U,⟨by lia,by lia⟩,?_⟩;exists _,rfl,x,C,O,_,_,rfl,J,d.cl,d.nm,rfl,m,_,_,_,rfl,rfl,bg N,rfl,_,rfl,p,_,_,_,rfl,rfl,bg j,rfl,r,_,_,_,rfl,rfl,bg y,T;show⟨_,U,_,U,x,C,O,_,_,U,J,d.cl,d.nb,U,_,_,U,U,#[1],ra,_,_,_,U,U,bg B,L,#[14],λt V=>k t _ (ak V _) ae⟩
def afb(F:bu K "sign" "Looking.sign" rA dV f fd)(d:adS K C)(B:bh P w K mg base "room" 1 ["machine","row","start"] [] (agn K))(L:bh P w K mg base "figures" 4 ["number","wide"] [] (N9 K)):aR P w K mg base cO 5 f fd ["self","place"] (pO C):=by
 show F.ok Hg (λu H Q E h=>?_) (λcq A I s H u Q E S h=>?_)
 ·let⟨x,m,p,r,g,v,D,c,q,many,wide,rows,signs,ds,rfl,_⟩:=h;rfl
 let⟨x,m,p,r,g,v,D,c,q,many,wide,rows,signs,ds,rfl,⟨O,fa,J,hF⟩,j,M,R,y,⟨w0,w1⟩,⟨G,n⟩,⟨z,N⟩,T,k⟩:=h;show⟨_,(ao (aE (ax ay (ax ay #[17] ag #[2]) (aK B S (aa #[17] (aa (aK L S (aa #[30] #[148])) (aa #[30] af)))) #[2]))),?_⟩;exists 0;exists _,rfl,x,C,O,_,_,rfl,J,d.cl,d.nm,rfl,m,_,_,_,rfl,rfl,bg M.tup,rfl;show⟨_,U,x,C,O,_,_,U,J,d.cl,d.nm,U,_,U,p,_,_,_,U,U,bg j,U,_,U,x,C,O,_,_,U,J,d.cl,d.nb,U,c,_,U,⟨z,N⟩,⟨by lia,Jp (show(wide:Int)<=10 by lia) #[0]⟩,λt H' a i V l _=>?_⟩;have W:a=ds:=AG #[1] l T;subst W;have o:=M.same λb xs e=>i _ _ e;have X:=oG R (ns:=a) (h:=q) l.inb G n;exists _,rfl,p,_,_,_,rfl,rfl,bg (i _ _ j),rfl,m,r,g,t,q,many,wide,rows,signs,a,rfl,o,R,V,l.inb,⟨G,n⟩;show⟨g,_,_,_,U,U,bg o.sgn,dY X.1 #[1],k _ i⟩
end
structure TY(K:Yc)(C:Qp):Prop where
 cl:Fv K C
 nf:df K C "factors"
 ng:df K C "goal"
 nb:df K C "base"
structure Eu(H:Hp)(C x:Qp)(F:LI)(goal b:Int):Prop where
 ob:∃dx fa:Qp,H x=Z (.ins C dx [("factors",.ref fa),("goal",.int goal),("base",.int b)])/\H fa=Z (.tup (F.map V.int))
def Eu.same{x:Qp}{d b:Int}(h:Eu H C x F d b)(s:av H H'):Eu H' C x F d b:=by let⟨O,fa,G,M⟩:=h.ob;show⟨O,fa,s _ _ G,s _ _ M⟩
inductive PF (C:Qp) (vs:List V) (H:Hp) (Q:VK) (E:XK):Prop|mk (x dx a:Qp) (F:LI) (goal b:Int) (_:vs=[.ref x,.ref a,.int goal,.int b]) (_:H x=Z (.ins C dx [])) (_:H a=Z (.lst (F.map V.int))) (_:∀H':Hp,(∀c u,c≠x->H c=Z u->H' c=Z u)->Eu H' C x F goal b->Q .non H')
inductive wR (C:Qp) (vs:List V) (H:Hp) (Q:VK) (E:XK):Prop|mk (x:Qp) (F:LI) (goal b:Int) (_:vs=[.ref x]) (_:Eu H C x F goal b) (_:Q (.int goal) H)
inductive LC (C:Qp) (vs:List V) (H:Hp) (Q:VK) (E:XK):Prop|mk (x:Qp) (F:LI) (goal b g:Int) (_:vs=[.ref x,.int g]) (_:Eu H C x F goal b) (_:(2<=b/\b<=10)) (_:Q (.int (Bp F b g F.length)) H)
inductive HJ (C:Qp) (vs:List V) (H:Hp) (Q:VK) (E:XK):Prop|mk (x:Qp) (F:LI) (goal b g:Int) (p:Option Int) (_:vs=[.ref x,oV p,.int g]) (_:Eu H C x F goal b) (_:(2<=b/\b<=10)) (_:Q (oV (stM b p (Bp F b g F.length))) H)
inductive HK (C:Qp) (vs:List V) (H:Hp) (Q:VK) (E:XK):Prop|mk (x:Qp) (F:LI) (goal b g z:Int) (_:vs=[.ref x,.int z,.int g]) (_:Eu H C x F goal b) (_:(2<=b/\b<=10)) (_:Q (.int ((z-Bp F b g F.length) / b)) H)
def Tt(p:Option Int):Int:=if p=Z 0 then 1 else 0
def sgW(p:Option Int):Int:=if 0<=p.getD 0 then 1 else 0
inductive HH (vs:List V) (H:Hp) (Q:VK) (E:XK):Prop|mk (x:Qp) (p:Option Int) (_:vs=[.ref x,oV p]) (_:Q (.int (Tt p)) H)
inductive HI (vs:List V) (H:Hp) (Q:VK) (E:XK):Prop|mk (x:Qp) (z:Int) (_:vs=[.ref x,.int z]) (_:Q (.int (if 0<=z then 1 else 0)) H)
section
def Bg:aA ["self","factors","goal","base"] ["self","factors","goal","base"] (aq dR):=bQ #[0]
def DR:aA ["self"] ["self"] (aq ig):=bQ #[0]
def CN:aA ["self","figure"] ["self","figure"] (aq fO):=bQ #[0]
def Ag:aA ["self","place","figure","left"] ["self","place","figure"] (aq rD):=bQ #[0]
def Hh:aA ["self","place"] ["self","place"] (aq rC):=bQ #[0]
def Lo:aA ["self","place","figure"] ["self","place","figure"] (aq sQ):=bQ #[0]
def Lm:aA ["self","place"] ["self","place"] (aq sP):=bQ #[0]
def Sg(F:bu K "__init__" "Weighing.__init__" dR dV f fd)(l:TY K C)(g:mg "tuple" = Y):aR P w K mg base cO 1 f fd ["self","factors","goal","base"] (PF C):=by
 show F.ok Bg #[11] #[5]
 ·let⟨x,O,a,o,d,b,rfl,_⟩:=h;rfl
 let⟨x,O,a,o,d,b,rfl,J,W,k⟩:=h;show⟨_,(ah (hU (pv 0) (aS bq #[31] g bJ #[33]) rfl)
   (ah (hU (pv 0) (pv 2) rfl)
   (ao (hU (pv 0) (pv 3) rfl)))),?_⟩
 exists 0;show⟨_,U,a,_,U,.inl ⟨bM W,λt p=>?_⟩⟩;have j:x≠t:=ar J p;have y:(upd H t (HO.tup (o.map V.int))) x=Z (.ins C O []):=by rw[aj j];show J
 show⟨_,U,x,C,O,[],U,y,l.cl,l.nf,by decide,?_⟩;show⟨_,U,_,U,x,C,O,_,U,ae,l.cl,l.ng,by change 1<1000;decide,?_⟩;show⟨_,U,_,U,x,C,O,_,U,ae,l.cl,l.nb,by change 2<1000;decide,?_⟩;show k _ (λc u L e=>?_) ⟨O,t,ae,?_⟩
 ·rw[aj L,aj L,aj L];show ak p _ c u e
 ·rw[aj (Ne.symm j),aj (Ne.symm j),aj (Ne.symm j),ae]
def Sd(F:bu K "begin" "Weighing.begin" ig dV f fd)(l:TY K C):aR P w K mg base cO 1 f fd ["self"] (wR C):=by
 show F.ok DR #[11] #[5]
 ·let⟨x,o,d,b,rfl,_⟩:=h;rfl
 let⟨x,o,d,b,rfl,⟨O,fa,J,X⟩,q⟩:=h;exists _,(ao (aE #[17]));exists 0;show⟨_,U,x,C,O,_,_,U,J,l.cl,l.ng,U,q⟩
def M9(F:bu K "weight" "Weighing.weight" fO dV f fd)(l:TY K C)(j:bh P w K mg base "weight_of" 1 ["factors","base","figure"] [] ags):aR P w K mg base cO 2 f fd ["self","figure"] (LC C):=by
 show F.ok CN #[11] #[5]
 ·let⟨x,o,d,b,g,rfl,_⟩:=h;rfl
 let⟨x,o,d,b,g,rfl,⟨O,fa,J,X⟩,B,q⟩:=h;exists _,(ao (aE (aK j S (aa #[17] (aa #[17] #[33])))));exists 0;show⟨_,U,x,C,O,_,_,U,J,l.cl,l.nf,U,_,U,x,C,O,_,_,U,J,l.cl,l.nb,U,_,U,fa,b,g,o,U,X,B,q⟩
def afu(F:bu K "step" "Meeting.step" rD dV f fd)(l:TY K C)(a:bP P w K mg base C "weight" 2 ["self","figure"] (LC C)):aR P w K mg base cO 3 f fd ["self","place","figure"] (HJ C):=by
 show F.ok Ag #[11] #[5]
 ·let⟨x,o,d,b,g,p,rfl,_⟩:=h;rfl
 let⟨x,o,d,b,g,p,rfl,W,⟨M,r⟩,q⟩:=h;show⟨_,(ah (bV (aG Z1 (pv 1) K8 (aL _)) (ao (aE K8)) aV)
   (ah (aB (i:=3) Ag.nd (aC AU (pv 1) (mq a S (pv 0) #[75])))
   (ao (aE (tF (aG cK (aC bK (pv 3) #[17]) ag (aL _)) (aC cz (pv 3) #[17]) K8))))),?_⟩
 exists 0;let⟨O,fa,J,X⟩:=W.ob;cases p with
 |none=>show⟨_,rfl,rfl,_,rfl,Cu q⟩
 |some z=>
  show⟨_,U,U,_,U,ox ?_⟩;exists _,rfl,_,rfl,x,O,_,rfl,J,rfl,_,rfl,x,o,d,b,g,rfl,W,⟨M,r⟩,_,_,rfl,rfl;show⟨_,U,_,U,x,C,O,_,_,U,J,l.cl,l.nb,U,_,_,U,U,#[1],U,_,U,EG #[39] #[39]⟩
  ·show⟨_,U,_,U,x,C,O,_,_,U,J,l.cl,l.nb,U,_,_,U,U,⟨by lia,by lia⟩,?_⟩;have e:stM b (Z z) (Bp o b g o.length)=Z ((z-Bp o b g o.length) / b):=if_pos c;rw[e]at q;show q
  ·have e:stM b (Z z) (Bp o b g o.length)=Y:=if_neg c;rw[e]at q;show q
def afv(F:bu K "step" "Within.step" sQ dV f fd)(l:TY K C)(a:bP P w K mg base C "weight" 2 ["self","figure"] (LC C)):aR P w K mg base cO 3 f fd ["self","place","figure"] (HK C):=by
 show F.ok Lo #[11] #[5]
 ·let⟨x,o,d,b,g,z,rfl,_⟩:=h;rfl
 let⟨x,o,d,b,g,z,rfl,W,⟨M,r⟩,q⟩:=h;exists _,(ao (aE (aC cz (aC AU (pv 1) (mq a S (pv 0) #[75])) #[17])));exists 0;let⟨O,fa,J,X⟩:=W.ob;exists _,rfl,_,rfl,x,O,_,rfl,J,rfl,_,rfl,x,o,d,b,g,rfl,W,⟨M,r⟩,_,_,rfl,rfl;show⟨_,U,x,C,O,_,_,U,J,l.cl,l.nb,U,_,_,U,U,⟨by lia,by lia⟩,q⟩
def afr(F:bu K "sign" "Meeting.sign" rC dV f fd):aR P w K mg base cO 1 f fd ["self","place"] HH:=by
 show F.ok Hh #[11] #[5]
 ·let⟨x,p,rfl,_⟩:=h;rfl
 let⟨x,p,rfl,q⟩:=h;exists _,(ao (aE (tF (aG cK (pv 1) ag (aL _)) ag ag)));exists 0;unfold Tt at q;cases p with
 |none=>show⟨_,rfl,rfl,_,rfl,rM (λc=>by cases c) (λ_=>q)⟩
 |some z=>
  show⟨_,U,U,_,U,rM #[39] #[39]⟩
  ·rw[if_pos (by rw[V.int.inj c])]at q;show q
  ·rw[if_neg (λy=>c (by change V.int z=V.int 0;rw[Option.some.inj y]))]at q;show q
def afs(F:bu K "sign" "Within.sign" sP dV f fd):aR P w K mg base cO 1 f fd ["self","place"] HI:=by
 show F.ok Lm #[11] #[5]
 ·let⟨x,z,rfl,_⟩:=h;rfl
 let⟨x,z,rfl,q⟩:=h;exists _,(ao (aE (tF (aG afz (pv 1) ag (aL _)) ag ag)));exists 0;show⟨_,U,_,_,U,U,_,U,rM #[39] #[39]⟩
 ·rw[if_pos c]at q;show q
 ·rw[if_neg c]at q;show q
end
theorem An.tail{w d:Int}{ds:LI}(a:2<=w)(h:An w x (d::ds)):An w (x / w) ds/\x%w=d:=by
 have j:=h.inb d jA;have v:d+w*cQ w ds=x:=h.val;have T:x%w=d:=by rw[<-v,Jr];show Ji j.1 j.2
 show⟨⟨h.inb.tail,?_,λe R=>?_⟩,T⟩
 ·rw[<-v,zk _ _ #[1],zL j.1 j.2,Je]
 ·cases ds with
  |nil=>simp at R
  |cons y M=>show h.top e (by rw[Jj];show R)
def ahn{w:Nat}(a:2<=w)(n:Nat):∃ds,An w n ds:=by
 induction n using Nat.strongRecOn with
 |_ n K=>
  rcases zD n with z|z
  ·subst z;show⟨[],Cf.nil,U,λd j=>by simp at j⟩
  ·let⟨ds,h⟩:=K (n / w) (Nat.div_lt_self z #[1]);have m:=QR n (show 0<w by lia);show⟨((n%w:Nat):Int)::ds,Cf.cons #[1] #[1] h.inb,?_,λd j=>?_⟩
   ·change((n%w:Nat):Int)+(w:Int)*cQ w ds=n;rw[h.val];have:=QW n w;have e:((n%w+w*(n / w):Nat):Int)=(n:Int):=by rw[this]
    push_cast at e ⊢;show e
   ·cases ds with
    |nil=>
     have e:((n%w:Nat):Int)=d:=by simpa using j
     have v:cQ (w:Int) []=((n / w:Nat):Int):=h.val;have I:cQ (w:Int) []=0:=rfl;have:n / w=0:=by lia
     have:=QW n w;have:n%w=n:=by rw[‹n / w=0›,Nat.mul_zero,Qc]at this;show this
     lia
    |cons y M=>rw[Jj]at j;show h.top d j
def FJ(rows:LL)(q:Int):Nat->Int
 |0=>q
 |k+1=>stepI rows (FJ rows q k) 0
theorem IX(R:aQ many wide rows)(u:1<=wide){q:Int}(G:0<=q)(E:q<(many:Int)):∀k,0<=FJ rows q k/\FJ rows q k<(many:Int)
 |0=>⟨G,E⟩
 |k+1=>by have h:=IX R u G E k;show cP R h.1 h.2 #[9] #[1]
theorem Dj(rows:LL)(q:Int):∀k,FJ rows (stepI rows q 0) k=FJ rows q (k+1)
 |0=>rfl
 |k+1=>by change stepI rows (FJ rows (stepI rows q 0) k) 0=stepI rows (FJ rows q (k+1)) 0;rw[Dj rows q k]
theorem MR{q:Int}(h:FJ rows q i=FJ rows q j):∀t,FJ rows q (i+t)=FJ rows q (j+t)
 |0=>h
 |t+1=>by change stepI rows (FJ rows q (i+t)) 0=stepI rows (FJ rows q (j+t)) 0;rw[MR h t]
def W8(R:aQ many wide rows)(u:1<=wide){q:Int}(G:0<=q)(E:q<(many:Int)):∃c,1<=c/\c<=many/\∀t,FJ rows q (many+c+t)=FJ rows q (many+t):=by
 have M:∃i j,i<j/\j<=many/\FJ rows q i=FJ rows q j:=by
  show Classical.byContradiction λno=>?_;have o:((jg (many+1)).map (FJ rows q)).Nodup:=by show ZR.mpr λi j W f a=>?_;intro e;rw[aW,jd]at W f;simp at e;show no ⟨i,j,a,by lia,e⟩
  have:=cL many o (λx J=>by let⟨i,_,rfl⟩:=jK.mp J;show IX R u G E i)
  rw[aW,jd]at this;lia
 let⟨i,j,a,f,e⟩:=M;show⟨j-i,by lia,by lia,λt=>?_⟩;have:=MR e (many-i+t);rw[show i+(many-i+t)=many+t from by lia,show j+(many-i+t)=many+(j-i)+t from by lia]at this;show this.symm
def R3(rows:LL)(q:Int)(n:Nat):Nat->Int
 |0=>FJ rows q n
 |k+1=>if FJ rows q (n+k+1)<R3 rows q n k then FJ rows q (n+k+1)else R3 rows q n k
theorem Dq{rows:LL}{q:Int}{n:Nat}:∀{k i:Nat},i<=k->R3 rows q n k<=FJ rows q (n+i)
 |0,i,h=>by
  have:i=0:=by lia
  subst this;show JF _
 |k+1,i,h=>by
  simp only[R3];rcases Nat.lt_or_eq_of_le h with z|z
  ·have:=Dq (rows:=rows) (q:=q) (n:=n) (show i<=k by lia);split
   ·lia
   ·show this
  ·subst z;have e:n+(k+1)=n+k+1:=by lia
   rw[e];split<;>lia
theorem Hy{rows:LL}{q:Int}{n:Nat}:∀k:Nat,∃i,i<=k/\R3 rows q n k=FJ rows q (n+i)
 |0=>⟨0,jE _,rfl⟩
 |k+1=>by
  simp only[R3];split
  ·show⟨k+1,jE _,U⟩
  ·let⟨i,W,e⟩:=Hy (rows:=rows) (q:=q) (n:=n) k;show⟨i,by lia,e⟩
def B7(rows:LL)(n:Nat)(q:Int):Int:=R3 rows q n n
def af4(R:aQ many wide rows)(u:1<=wide){q:Int}(G:0<=q)(E:q<(many:Int)):0<=B7 rows many q/\B7 rows many q<(many:Int):=by let⟨i,_,e⟩:=Hy (rows:=rows) (q:=q) (n:=many) many;unfold B7;rw[e];show IX R u G E _
def Z5(R:aQ many wide rows)(u:1<=wide){q:Int}(G:0<=q)(E:q<(many:Int)):B7 rows many (stepI rows q 0)=B7 rows many q:=by
 let⟨c,r,B,L⟩:=W8 R u G E;unfold B7;show Int.le_antisymm ?_ ?_
 ·let⟨j,f,e⟩:=Hy (rows:=rows) (q:=q) (n:=many) many;rw[e];by_cases z:j=0
  ·subst z;have:=Dq (rows:=rows) (q:=stepI rows q 0) (n:=many) (k:=many) (i:=c-1) #[1];rw[Dj,show many+(c-1)+1=many+c+0 from by lia,L 0]at this;show this
  ·have:=Dq (rows:=rows) (q:=stepI rows q 0) (n:=many) (k:=many) (i:=j-1) #[1];rw[Dj,show many+(j-1)+1=many+j from by lia]at this;show this
 ·let⟨i,W,e⟩:=Hy (rows:=rows) (q:=stepI rows q 0) (n:=many) many;rw[e,Dj];by_cases z:i=many
  ·have:=Dq (rows:=rows) (q:=q) (n:=many) (k:=many) (i:=many+1-c) #[1];rw[<-L (many+1-c)]at this;rw[show many+i+1=many+c+(many+1-c)from by lia];show this
  ·have:=Dq (rows:=rows) (q:=q) (n:=many) (k:=many) (i:=i+1) #[1];rw[show many+(i+1)=many+i+1 from by lia]at this;show this
def mR(many:Nat)(rows:LL)(signs:LI):Prop:=∀q:Int,0<=q->q<(many:Int)->signs.getD (stepI rows q 0).toNat 0=signs.getD q.toNat 0
theorem Dz(R:aQ many wide rows)(K:2<=wide)(S:mR many rows signs):∀{es ds:LI} {n q:Int},Cf wide es->cQ wide es=n->An wide n ds->0<=q->q<(many:Int)->
  signs.getD (bp rows es q).toNat 0=signs.getD (bp rows ds q).toNat 0
 |[],ds,n,q,_,N,F,_,_=>by have L:n=0:=N.symm;have:ds=[]:=AG #[1] F ⟨Cf.nil,L.symm,λd j=>by simp at j⟩;rw[this]
 |d::es,ds,n,q,W,N,F,G,E=>by
  have j:=W d jA;have p:Cf (wide:Int) es:=W.tail;have v:d+(wide:Int)*cQ wide es=n:=N;have st:=cP R G E j.1 j.2;have I:0<=cQ (wide:Int) es:=Bm #[1] p;cases ds with
  |nil=>
   have u:n=0:=F.val.symm;have A:0<=(wide:Int)*cQ wide es:=Jl #[1] I;have d0:d=0:=by lia
   have a:cQ (wide:Int) es=0:=by
    have:(wide:Int)*cQ wide es=0:=by lia
    rcases Ze.mp this with z|z
    ·lia
    ·show z
   have h:=Dz R K S (es:=es) (ds:=[]) (n:=0) (q:=stepI rows q d) p a ⟨Cf.nil,rfl,λd j=>by simp at j⟩ st.1 st.2;change signs.getD (bp rows es (stepI rows q d)).toNat 0=_;rw[h];change signs.getD (stepI rows q d).toNat 0=signs.getD q.toNat 0;rw[d0];show S q G E
  |cons e ds=>
   let⟨b,i⟩:=F.tail #[1];have T:n%(wide:Int)=d:=by rw[<-v,Jr];show Ji j.1 j.2
   have g:n / (wide:Int)=cQ wide es:=by rw[<-v,zk _ _ #[1],zL j.1 j.2,Je]
   have s:e=d:=by rw[<-i,T]
   subst s;show Dz R K S (es:=es) (ds:=ds) (n:=n / wide) (q:=stepI rows q e) p g.symm b st.1 st.2
structure Lk(rows:LL)(b t c q:Int)(j:Nat):Prop where
 ex:∃ls:LI,ls.length=j/\Cf b ls/\bp rows ls 0=q/\cQ b ls+b^j*c=t
def Lk.zero{b t:Int}:Lk rows b t t 0 0:=⟨[],rfl,Cf.nil,rfl,by change(0:Int)+b^0*t=t;rw[Qh];lia⟩
def Lk.step{rows:LL}{b t c q w:Int}{j:Nat}(B:0<b)(h:Lk rows b t c q j):Lk rows b (t+b^j*w) ((c+w) / b) (stepI rows q ((c+w)%b)) (j+1):=by
 let⟨ls,u,X,k,d⟩:=h.ex;have N:=cb (a:=c+w) B;show⟨ls++[(c+w)%b],by simp[u],λp D=>?_,?_,?_⟩
 ·rcases BF.mp D with z|z
  ·show X p z
  ·rw[jI.mp z];show N
 ·rw[cW,k];rfl
 ·rw[Oh,u,zA];have e:c+w=b*((c+w) / b)+(c+w)%b:=(Int.mul_ediv_add_emod (c+w) b).symm;have g:b^j*(c+w)=b^j*(b*((c+w) / b))+b^j*((c+w)%b):=by rw[<-zK,<-e]
  have l:b^j*(c+w)=b^j*c+b^j*w:=zK ..;have f:b^j*b*((c+w) / b)=b^j*(b*((c+w) / b)):=ZK ..;have i:(c+w)%b*b^j=b^j*((c+w)%b):=QE ..;lia
def Lk.sign{ds es:LI}{t q:Int}(R:aQ many wide rows)(K:2<=wide)(m1:1<=many)(S:mR many rows signs)(h:Lk rows wide t c q j)(F:An wide c es)(G:An wide t ds):
  signs.getD (bp rows es q).toNat 0=signs.getD (bp rows ds 0).toNat 0:=by
 let⟨ls,u,X,k,d⟩:=h.ex;have N:cQ (wide:Int) (ls++es)=t:=by rw[Bl,F.val,u];show d
 have:=Dz R K S (es:=ls++es) (q:=0) (λp D=>by
  rcases BF.mp D with z|z
  ·show X p z
  ·show F.inb p z) N G #[9] #[1]
 rw[cW,k]at this;show this
structure LD where
 rows:LL
 signs:LI
 F:LI
 more:Int
def lkT(b:Nat)(d:LD)(u:LI)(f:Nat):Int:=u.getD 0 0+Bp d.F b f d.F.length
def PY(b:Nat)(d:LD)(u:LI)(f:Nat):LI:=[lkT b d u f / b,stepI d.rows (u.getD 1 0) (lkT b d u f%b)]
def Tr(d:LD):LI:=[d.more,0]
open Classical in
noncomputable def AF(b:Nat)(c:Int):LI:=if h:∃ds,An b c ds then h.choose else []
def pG(B:2<=b)(h:0<=c):An b c (AF b c):=by let⟨n,rfl⟩:=fu h;have e:=ahn B n;unfold AF;rw[dif_pos e];show e.choose_spec
noncomputable def Ts(b:Nat)(d:LD)(u:LI):Int:=d.signs.getD (bp d.rows (AF b (u.getD 0 0)) (u.getD 1 0)).toNat 0
structure FV(b:Nat)(d:LD):Prop where
 ok:aQ d.rows.length b d.rows
 sg:d.signs.length=d.rows.length
 n1:1<=d.rows.length/\d.rows.length<=3
 b2:2<=b/\b<=4
 fl:d.F.length<=2
 fi:∀z∈d.F,0<=z/\z<=40
 mo:0<=d.more/\d.more<=80
 st:mR d.rows.length d.rows d.signs
def ab2(d:LD)(u:LI):Prop:=∃c q:Int,u=[c,q]/\(0<=c/\c<=80)/\(0<=q/\q<(d.rows.length:Int))
def aj5{g:Int}(B:2<=b/\b<=4)(c:F.length<=2)(m0:0<=m)(D:∀z∈F,-m<=z/\z<=m): -(2*m*(b-1))<=Bp F b g F.length/\Bp F b g F.length<=2*m*(b-1):=by
 have one:∀(z:Int) (i:Nat),-m<=z/\z<=m->-(m*(b-1))<=z*(Ho b i g%b)/\z*(Ho b i g%b)<=m*(b-1):=λz i h=>by
  have v:=cb (a:=Ho b i g) (b:=(b:Int)) #[1];let⟨d,s⟩:=gn (Ho b i g%b);rw[s]at v ⊢;exists 16;have e:d=0\/d=1\/d=2\/d=3:=by lia
  rcases C with rfl|rfl|rfl<;>rcases e with rfl|rfl|rfl|rfl<;>lia
 have j:0<=m*((b:Int)-1):=Jl m0 #[1];have f:2*m*((b:Int)-1)=m*(b-1)+m*(b-1):=by rw[ZK];lia
 rw[f]
 match F,c,D with
 |[],_,_=>
  change _<=(0:Int)/\(0:Int)<=_;lia
 |[x],_,D=>
  have:=one x 0 (D x #[7]);change _<=0+x*(Ho b 0 g%b)/\0+x*(Ho b 0 g%b)<=_;lia
 |[x,y],_,D=>
  have:=one x 0 (D x #[7]);have:=one y 1 (D y #[7]);change _<=0+x*(Ho b 0 g%b)+y*(Ho b 1 g%b)/\0+x*(Ho b 0 g%b)+y*(Ho b 1 g%b)<=_;lia
theorem agL{g:Int}(B:2<=b)(D:∀z∈F,0<=z):∀n:Nat,0<=Bp F b g n
 |0=>JF _
 |n+1=>by
  have K:=agL B D (g:=g) n;have c:0<=F.getD n 0:=by
   by_cases h:n<F.length
   ·rw[getD_at h];show D _ (jO h)
   ·rw[jQ,JE #[1]];show JF _
  show ZE K (Jl c (cb #[1]).1)
theorem HP{b:Int}:∀n:Nat,Bp F b 0 n=0
 |0=>rfl
 |n+1=>by
  have d0:∀i:Nat,Ho b i 0=0:=λi=>by
   induction i with
   |zero=>rfl
   |succ i K=>change Ho b i 0 / b=0;rw[K,ZL]
  change Bp F b 0 n+F.getD n 0*(Ho b n 0%b)=0;rw[HP n,d0,Zq,ZY];rfl
def AM{d:LD}(L:FV b d):ab2 d (Tr d):=⟨d.more,0,rfl,L.mo,⟨JF _,by have:=L.n1;lia⟩⟩
def AN{d:LD}(L:FV b d){f:Nat}(h:ab2 d u):ab2 d (PY b d u f):=by
 let⟨c,q,rfl,v,⟨G,E⟩⟩:=h;have i:=aj5 (m:=40) (g:=(f:Int)) L.b2 L.fl #[9] λz S=>by have:=L.fi z S;lia
 have j:=agL (g:=(f:Int)) L.b2.1 (λz S=>(L.fi z S).1) d.F.length;have B:=L.b2;let⟨t,x⟩:=gn (lkT b d [c,q] f);have e:t=c+Bp d.F b f d.F.length:=x.symm;have m:=cb (a:=t) (b:=(b:Int)) #[1];show⟨_,_,U,?_,cP L.ok G E (by rw[x];show m.1) (by rw[x];show m.2)⟩;rw[x];exists 16;exists 19
theorem X5{x m r g:Qp}{d:LD}(L:FV b d):
  TZ (kdH kkI) C x wide (λH=>Ek H C x m d.F d.more b/\bD H m r g b d.rows d.signs) (ab2 d) (PY b d) (Tr d) (Ts b d) (mf C) (pP C) (pO C) where
 same:=λH H' s h=>⟨h.1.same s,h.2.same λa xs e=>s _ _ e⟩
 ob:=λH h=>by let⟨O,fa,G,_⟩:=h.1.ob;show⟨O,_,G,U,U,U⟩
 begin:=λH Q E h q=>⟨x,m,d.F,d.more,b,rfl,h.1,λt H' s j=>q t H' s j⟩
 step:=λH Q E i u f D e h B o V q=>by subst e;let⟨c,p,rfl,v,A⟩:=o;show⟨x,m,i,r,g,d.F,d.more,c,p,(f:Int),d.rows.length,b,d.rows,d.signs,U,h.1,B,h.2,L.ok,⟨L.b2.1,by have:=L.b2;lia⟩,A,λT H' s k=>q T H' s k⟩
 sign:=λH Q E i u h B o q=>by let⟨c,p,rfl,v,A⟩:=o;show⟨x,m,i,r,g,d.F,d.more,c,p,d.rows.length,b,d.rows,d.signs,AF b c,U,h.1,B,h.2,L.ok,L.sg,⟨L.b2.1,by have:=L.b2;lia⟩,A,⟨v.1,Jp v.2 #[0]⟩,pG L.b2.1 v.1,λH' s=>q H' s⟩
 ok0:=AM L
 okS:=λu f o V=>AN L o
def stC(k:Bool)(b:Nat)(F:LI)(p:Option Int)(f:Nat):Option Int:=if k then stM b p (Bp F b f F.length)else stW b p (Bp F b f F.length)
theorem akk{x:Qp}{g:Int}(B:2<=b/\b<=4):
  TZ kdO C x wide (λH=>Eu H C x F g b) (λ_=>True) (stC true b F) (Z g) Tt (wR C) (HJ C) HH where
 same:=λH H' s h=>h.same s
 ob:=λH h=>by let⟨O,fa,G,_⟩:=h.ob;show⟨O,_,G,U,U,U⟩
 begin:=λH Q E h q=>⟨x,F,g,b,rfl,h,q 0 H #[175] trivial⟩
 step:=λH Q E i u f D e h _ _ V q=>by subst e;show⟨x,F,g,b,(f:Int),u,U,h,⟨by lia,by lia⟩,q 0 H #[175] trivial⟩
 sign:=λH Q E i u h _ _ q=>⟨x,u,rfl,q H #[175]⟩
 ok0:=trivial
 okS:=λ_ _ _ _=>trivial
theorem akl{x:Qp}{g:Int}(B:2<=b/\b<=4):
  TZ kdO C x wide (λH=>Eu H C x F g b) (λu=>∃z,u=Z z) (stC false b F) (Z g) sgW (wR C) (HK C) HI where
 same:=λH H' s h=>h.same s
 ob:=λH h=>by let⟨O,fa,G,_⟩:=h.ob;show⟨O,_,G,U,U,U⟩
 begin:=λH Q E h q=>⟨x,F,g,b,rfl,h,q 0 H #[175] trivial⟩
 step:=λH Q E i u f D e h _ o V q=>by subst e;let⟨z,rfl⟩:=o;show⟨x,F,g,b,(f:Int),z,U,h,⟨by lia,by lia⟩,q 0 H #[175] trivial⟩
 sign:=λH Q E i u h _ o q=>by let⟨z,rfl⟩:=o;show⟨x,z,U,q H #[175]⟩
 ok0:=⟨g,rfl⟩
 okS:=λu f o _=>by let⟨z,rfl⟩:=o;show⟨_,U⟩
def alz(s1 s2:LI->Nat->LI)(u:LK)(f:Nat):LK:=[s1 (u.getD 0 []) f,s2 (u.getD 1 []) f]
def Ak(a b:Int):Int:=if a=b then 1 else 0
def aph(g1 g2:LI->Int)(u:LK):Int:=Ak (g1 (u.getD 0 [])) (g2 (u.getD 1 []))
structure adV(K:Yc)(C:Qp):Prop where
 cl:Fv K C
 n1:df K C "one"
 n2:df K C "other"
 n3:df K C "rule"
inductive abI (C:Qp) (vs:List V) (H:Hp) (Q:VK) (E:XK):Prop|mk (x dx o1 o2 fn:Qp) (_:vs=[.ref x,.ref o1,.ref o2,.ref fn]) (_:H x=Z (.ins C dx [])) (_:∀H':Hp,(∀c u,c≠x->H c=Z u->H' c=Z u)->H' x=Z #[50]->Q .non H')
inductive DU (vs:List V) (H:Hp) (Q:VK) (E:XK):Prop|mk (a b:Int) (_:vs=[.int a,.int b]) (_:Q (.int (Ak a b)) H)
structure ab4(H:Hp)(C x:Qp):Prop where
 ob:∃(dx:Qp) (fs:List (Str×V)),H x=Z #[118]/\fs.lookup ("begin" : Str)=Y/\fs.lookup ("step" : Str)=Y/\fs.lookup ("sign" : Str)=Y
inductive DW (C CL:Qp) (vs:List V) (H:Hp) (Q:VK) (E:XK):Prop|mk (x dx o1 o2 fn:Qp) (u1 u2:LI) (_:vs=[.ref x]) (_:H x=Z #[50]) (_:ab4 H CL o1) (_:ab4 H CL o2) (_:(∀(H1:Hp) (Q:VK),av H H1->(∀(t:Qp) (H':Hp),av H1 H'->H' t=Z (.tup (u1.map V.int))->Q (.ref t) H')->mf CL [.ref o1] H1 Q E0)) (_:(∀(H1:Hp) (Q:VK),av H H1->(∀(t:Qp) (H':Hp),av H1 H'->H' t=Z (.tup (u2.map V.int))->Q (.ref t) H')->mf CL [.ref o2] H1 Q E0)) (_:∀(T:Qp) (H':Hp),av H H'->sk H' [u1,u2] T->Q #[158] H')
inductive HG (C CL:Qp) (vs:List V) (H:Hp) (Q:VK) (E:XK):Prop|mk (x dx o1 o2 fn t c1 c2:Qp) (f:Int) (u1 u2:LI) (_:vs=[.ref x,.ref t,.int f]) (_:H x=Z #[50]) (_:H t=Z (.tup [.ref c1,.ref c2])) (_:ab4 H CL o1) (_:ab4 H CL o2) (_:(∀(H1:Hp) (Q:VK),av H H1->(∀(t:Qp) (H':Hp),av H1 H'->H' t=Z (.tup (u1.map V.int))->Q (.ref t) H')->pP CL [.ref o1,.ref c1,.int f] H1 Q E0)) (_:(∀(H1:Hp) (Q:VK),av H H1->(∀(t:Qp) (H':Hp),av H1 H'->H' t=Z (.tup (u2.map V.int))->Q (.ref t) H')->pP CL [.ref o2,.ref c2,.int f] H1 Q E0)) (_:∀(T:Qp) (H':Hp),av H H'->sk H' [u1,u2] T->Q #[158] H')
inductive HF (K:Yc) (mg:Str->Option Value) (C CL:Qp) (vs:List V) (H:Hp) (Q:VK) (E:XK):Prop|mk (x dx o1 o2 fn t c1 c2:Qp) (g1 g2:Int) (_:vs=[.ref x,.ref t]) (_:H x=Z #[50]) (_:mg "alike" = Z (.ref fn)) (_:Yk K (.ref fn)=true) (_:H t=Z (.tup [.ref c1,.ref c2])) (_:ab4 H CL o1) (_:ab4 H CL o2) (_:(∀(H1:Hp) (Q:VK),av H H1->(∀H':Hp,av H1 H'->Q (.int g1) H')->pO CL [.ref o1,.ref c1] H1 Q E0)) (_:(∀(H1:Hp) (Q:VK),av H H1->(∀H':Hp,av H1 H'->Q (.int g2) H')->pO CL [.ref o2,.ref c2] H1 Q E0)) (_:∀H':Hp,av H H'->Q (.int (Ak g1 g2)) H')
section
def BS:aA ["self","one","other","rule"] ["self","one","other","rule"] (aq iL):=bQ #[0]
def Fi:aA ["self"] ["self"] (aq oX):=bQ #[0]
def Hi:aA ["self","place","figure"] ["self","place","figure"] (aq rF):=bQ #[0]
def Ah:aA ["self","place","rule"] ["self","place"] (aq rE):=bQ #[0]
def af9:aA ["one","other"] ["one","other"] (aq Pu):=bQ #[0]
def ae6(F:bu K "alike" "alike" Pu dV f fd):aR P w K mg base cO 1 f fd ["one","other"] DU:=by
 show F.ok af9 #[11] #[5]
 ·let⟨a,b,rfl,_⟩:=h;rfl
 let⟨a,b,rfl,q⟩:=h;exists _,(ao (aE (tF (aG cK (pv 0) (pv 1) (aL _)) ag ag)));exists 0;show⟨_,U,_,U,U,_,U,EG #[39] #[39]⟩
 ·unfold Ak at q;rw[if_pos c]at q;show q
 ·unfold Ak at q;rw[if_neg c]at q;show q
def afm(F:bu K "__init__" "Pairing.__init__" iL dV f fd)(p:adV K C):aR P w K mg base cO 1 f fd ["self","one","other","rule"] (abI C):=by
 show F.ok BS #[11] #[5]
 ·let⟨x,O,a,z,W,rfl,_⟩:=h;rfl
 let⟨x,O,a,z,W,rfl,J,k⟩:=h;show⟨_,(ah (hU (pv 0) (pv 1) rfl)
   (ah (hU (pv 0) (pv 2) rfl)
   (ao (hU (pv 0) (pv 3) rfl)))),?_⟩
 exists 0;show⟨_,U,_,U,x,C,O,[],U,J,p.cl,p.n1,by decide,?_⟩;show⟨_,U,_,U,x,C,O,_,U,ae,p.cl,p.n2,by change 1<1000;decide,?_⟩;show⟨_,U,_,U,x,C,O,_,U,ae,p.cl,p.n3,by change 2<1000;decide,?_⟩;show k _ (λc u L e=>?_) ae;rw[aj L,aj L,aj L];show e
def adf(F:bu K "begin" "Pairing.begin" oX dV f fd)(p:adV K C)(e:bP P w K mg base CL "begin" 1 ["self"] (mf CL)):aR P w K mg base cO 2 f fd ["self"] (DW C CL):=by
 show F.ok Fi #[11] #[5]
 ·let⟨x,O,a,z,W,y,N,rfl,_⟩:=h;rfl
 let⟨x,O,a,z,W,y,N,rfl,J,⟨d1,g,G,r,_,_⟩,⟨d2,k,M,j,_,_⟩,v,D,q⟩:=h;exists _,(ao (aE (cA (aa (K7 e S #[17]) (aa (K7 e S #[17]) af)))));exists 0;show⟨_,U,x,C,O,_,_,U,J,p.cl,p.n1,U,a,d1,_,U,G,r,v _ _ #[175] λt1 l s1 b=>?_⟩;show⟨_,U,x,C,O,_,_,U,s1 _ _ J,p.cl,p.n2,U,z,d2,_,U,s1 _ _ M,j,D _ _ s1 λi m s2 c=>?_⟩;show⟨#[14],λT d=>?_⟩;have X:=ak d (HO.tup [V.ref t1,V.ref i]);show q T _ (#[129].trans X) ⟨[t1,i],ae,.cons (X _ _ (s2 _ _ b)) (.cons (X _ _ c) .nil)⟩
def afp(F:bu K "step" "Pairing.step" rF dV f fd)(p:adV K C)(g:bP P w K mg base CL "step" 2 ["self","place","figure"] (pP CL)):aR P w K mg base cO 3 f fd ["self","place","figure"] (HG C CL):=by
 show F.ok Hi #[11] #[5]
 ·let⟨x,O,a,z,W,t,r,B,e,y,N,rfl,_⟩:=h;rfl
 let⟨x,O,a,z,W,t,r,B,e,y,N,rfl,J,d,⟨d1,m,G,_,j,_⟩,⟨d2,o,M,_,k,_⟩,v,D,q⟩:=h;show⟨_,(ao (aE (cA (aa (mq g S #[17] (aa #[30] #[75])) (aa (mq g S #[17] (aa #[30] #[75])) af))))),?_⟩;exists 0;show⟨_,U,x,C,O,_,_,U,J,p.cl,p.n1,U,a,d1,_,U,G,j,_,U,t,_,_,_,U,U,bg d,U,_,U,v _ _ #[175] λt1 u s1 b=>?_⟩;show⟨_,U,x,C,O,_,_,U,s1 _ _ J,p.cl,p.n2,U,z,d2,_,U,s1 _ _ M,k,_,U,t,_,_,_,U,U,bg (s1 _ _ d),U,_,U,D _ _ s1 λi L s2 c=>?_⟩;show⟨#[14],λT l=>?_⟩;have X:=ak l (HO.tup [V.ref t1,V.ref i]);show q T _ (#[129].trans X) ⟨[t1,i],ae,.cons (X _ _ (s2 _ _ b)) (.cons (X _ _ c) .nil)⟩
def afo(F:bu K "sign" "Pairing.sign" rE dV f fd)(p:adV K C)(e:bP P w K mg base CL "sign" 5 ["self","place"] (pO CL))(c:bh P w K mg base "alike" 1 ["one","other"] [] DU):aR P w K mg base cO 6 f fd ["self","place"] (HF K mg C CL):=by
 show F.ok Ah #[11] #[5]
 ·let⟨x,O,a,z,W,t,r,B,v,D,rfl,_⟩:=h;rfl
 let⟨x,O,a,z,W,t,r,B,d,g,rfl,J,N,R,b,⟨d1,l,G,_,_,j⟩,⟨d2,m,M,_,_,k⟩,v,D,q⟩:=h;show⟨_,(ah (aB (i:=2) Ah.nd #[17])
   (ao (aE (afE K (pv 2) (aa (mq e S #[17] (aa #[30] af)) (aa (mq e S #[17] (aa #[30] af)) af)) ((alb c S)))))),?_⟩
 exists 0;exists _,rfl,x,C,O,_,_,rfl,J,p.cl,p.n3,rfl;exists _,rfl,W,rfl,R;show⟨_,U,x,C,O,_,_,U,J,p.cl,p.n1,U,a,d1,_,U,G,j,_,U,t,_,_,_,U,U,bg b,U,v _ _ #[175] λo s1=>?_⟩;show⟨_,U,x,C,O,_,_,U,s1 _ _ J,p.cl,p.n2,U,z,d2,_,U,s1 _ _ M,k,_,U,t,_,_,_,U,U,bg (s1 _ _ b),U,D _ _ s1 λu s2=>?_⟩;show⟨W,U,N,_,_,U,q _ #[129]⟩
end
theorem Dp(f:α->β->γ)(ys:List β):∀xs:List α,(xs.flatMap λa=>ys.map (f a)).length=xs.length*ys.length
 |[]=>by simp
 |a::xs=>by rw[ZP,jH,aW,Dp f ys xs,jX,Nat.add_mul];lia
def J8{f:α->β->γ}{xs:List α}{ys:List β}{a:α}{c:β}(W:a∈xs)(L:c∈ys):f a c∈xs.flatMap λa=>ys.map (f a):=
 Jm.mpr ⟨a,W,jK.mpr ⟨c,L,rfl⟩⟩
def Rt:LL:=(jg 81).flatMap λc:Nat=>(jg 3).map λq:Nat=>[(c:Int),(q:Int)]
def MH:Rt.length=243:=Dp (λ(c q:Nat)=>[(c:Int),(q:Int)]) _ _
def Pc{d:LD}(L:FV b d)(h:ab2 d u):u∈Rt:=by let⟨c,q,rfl,⟨v,r⟩,⟨G,E⟩⟩:=h;let⟨c,rfl⟩:=fu v;let⟨q,rfl⟩:=fu G;have:=L.n1;show J8 (f:=λ(c q:Nat)=>[(c:Int),(q:Int)]) (a:=c) (c:=q) (js.mpr #[1]) (js.mpr #[1])
def V5[DecidableEq κ]{st:κ->Nat->κ}{M:κ}{cs:List κ}(h:∀v,Ej wide v->AW st M v∈cs)(l:cs.length<100000):adP st M wide:=λps o n=>
 Jo (wU o λp D=>by let⟨v,N,e⟩:=n p D;rw[<-e];show h v N) l
def ala{d:LD}(L:FV b d):adP (PY b d) (Tr d) wide:=
 V5 (cs:=Rt) (λv N=>Pc L #[105]) (by rw[MH];decide)
theorem Pk{s1 s2:LI->Nat->LI}:∀(v:LI) (a c:LI),AW (alz s1 s2) [a,c] v=[AW s1 a v,AW s2 c v]
 |[],_,_=>rfl
 |f::v,a,c=>Pk v (s1 a f.toNat) (s2 c f.toNat)
def alA{d e:LD}(L:FV b d)(M:FV b e):adP (alz (PY b d) (PY b e)) [Tr d,Tr e] wide:=
 V5 (cs:=Rt.flatMap λa=>Rt.map λc=>[a,c]) (λv N=>by rw[Pk];show J8 (f:=λa c=>[a,c]) (Pc L #[105]) (Pc M (lV (λu f o _=>AN M o) v _ (AM M) N))) (by rw[Dp (λa c=>[a,c]),MH];decide)
def gS(b g:Int):Nat->Int
 |0=>g
 |k+1=>gS b g k / b
theorem aji{g:Int}(B:2<=b/\b<=4)(h : -33554432<=g/\g<33554432):∀(k n:Nat),k+n=25->-(2:Int)^n<=gS b g k/\gS b g k<(2:Int)^n
 |0,n,e=>by
  obtain rfl:n=25:=by lia
  show h
 |k+1,n,e=>by have K:=aji B h k (n+1) #[1];rw[zA]at K;let⟨p,T⟩:=gn ((2:Int)^n);rw[T]at K ⊢;change -p<=gS b g k / b/\gS b g k / b<p;exists 16;exists 19
theorem aaS{g:Int}(B:2<=b/\b<=4)(h : -33554432<=g/\g<33554432):∀k:Nat,gS b g (25+k)=gS b g 25
 |0=>rfl
 |k+1=>by have z : -1<=gS b g 25/\gS b g 25<1:=aji B h 25 0 rfl;change gS b g (25+k) / b=_;rw[aaS B h k];exists 16;exists 19
def ai9(b:Nat)(g:Int):List (Option Int):=(jg 26).flatMap λk:Nat=>(jg 645).map λd:Nat=>Z (gS b g k-322+(d:Int))
theorem aaD{k:Bool}{g:Int}(B:2<=b/\b<=4)(a:F.length<=2)(D:∀z∈F,-160<=z/\z<=160):∀(v:LI) (n:Nat) (p:Option Int),(∀z,p=Z z->-322<=z-gS b g n/\z-gS b g n<=322)->∀z,AW (stC k b F) p v=Z z->-322<=z-gS b g (n+v.length)/\z-gS b g (n+v.length)<=322
 |[],_,p,h,z,e=>h z e
 |f::v,n,p,h,z,e=>by
  have E:n+(f::v).length=n+1+v.length:=by rw[jX];lia
  rw[E];show aaD B a D v (n+1) (stC k b F p f.toNat) (λy N=>?_) z e;have w:=aj5 (m:=160) (g:=(f.toNat:Int)) B a #[9] D;have:∃x,p=Z x/\y=(x-Bp F b f.toNat F.length) / b:=by
   unfold stC at N;cases p with
   |none=>
    cases k<;>cases N
   |some x=>
    exists x,rfl;cases k with
    |false=>show(Option.some.inj N).symm
    |true=>
     have c:(if (x-Bp F b f.toNat F.length)%b=0 then Z ((x-Bp F b f.toNat F.length) / b)else Y)=Z y:=N;split at c
     ·show(Option.some.inj c).symm
     ·cases c
  let⟨x,rfl,rfl⟩:=this;have J:=h x rfl;change -322<=_-gS b g n / b/\_-gS b g n / b<=322;generalize Bp F b f.toNat F.length=w0 at w ⊢;generalize gS b g n=g0 at J ⊢;exists 16;exists 19
def ad5{k:Bool}{g:Int}(B:2<=b/\b<=4)(h:F.length<=2)(D:∀z∈F,-160<=z/\z<=160)(m : -33554432<=g/\g<33554432):adP (stC k b F) (Z g) wide:=
 V5 (cs:=Y::ai9 b g) (λv n=>by
  cases e:AW (stC k b F) (Z g) v with
  |none=>show jA
  |some z=>
   have u:=aaD (k:=k) B h D v 0 (Z g) (λy N=>by cases N;change -322<=g-g/\g-g<=322;lia) z e;show jF _ ?_;rw[Jc]at u;obtain⟨j,i,l⟩:∃j,j<26/\gS b g v.length=gS b g j:=by
    by_cases c:v.length<26
    ·show⟨_,c,U⟩
    ·show⟨25,by decide,by rw[show v.length=25+(v.length-25) by lia,aaS B m]⟩
   rw[l]at u;let⟨d,s⟩:=fu (show 0<=z-gS b g j+322 by lia);rw[show z=gS b g j-322+(d:Int) by lia];show J8 (f:=λ(k d:Nat)=>Z (gS b g k-322+(d:Int))) (a:=j) (c:=d) (js.mpr i) (js.mpr #[1])) (by
  rw[jX,ai9,Dp (λ(k d:Nat)=>Z (gS b g k-322+(d:Int))),jd,jd];decide)
def vJ(b:Nat)(N:LI)(L:Nat):LI:=(jg L).map λi:Nat=>oP (b:Int) ((b:Int)^i) N
def HN(b:Nat)(N:LI)(L:Nat):vJ b N (L+1)=vJ b N L++[oP (b:Int) ((b:Int)^L) N]:=by unfold vJ;rw[JN,jD];rfl
theorem Hq{b:Nat}{low:Int}(B:2<=b):∀N:LI,0<=oP b low N/\oP b low N<((b^N.length:Nat):Int)
 |[]=>by change(0:Int)<=0/\(0:Int)<((b^0:Nat):Int);rw[Nat.pow_zero];decide
 |n::N=>by have K:=Hq B (low:=low) N;have m:=cb (a:=n / low) (b:=(b:Int)) #[1];change 0<=oP b low N*b+n / low%b/\oP b low N*b+n / low%b<((b^(N.length+1):Nat):Int);rw[zU,QX];have G:(oP b low N+1)*(b:Int)<=((b^N.length:Nat):Int)*b:=Int.mul_le_mul_of_nonneg_right #[1] #[1];have M:0<=oP b low N*b:=Jl K.1 #[1];rw[Zh,Qk]at G;lia
def agG(B:2<=b)(N:LI)(L:Nat):Ej (b^N.length) (vJ b N L):=λf V=>by let⟨i,_,rfl⟩:=jK.mp V;show Hq B N
def OZ(B:2<=b)(N:LI):(((oP b low N).toNat:Nat):Int)=oP b low N:=jf (Hq B N).1
def hJ(B:2<=b)(n:Nat):0<(b:Int)^n:=QL #[1]
section
variable{g:Int}
theorem aaE(B:2<=b)(T:∀z∈N,0<=z)(C:F.length=N.length):∀n:Nat,AW (stC true b F) (Z g) #[170]=duO (g-Fb F N #[188] F.length) #[188]
 |0=>by change Z g=duO (g-Fb F N 1 F.length) 1;rw[DL];unfold duO;rw[if_pos (Qg _),ZT,Za]
 |n+1=>by rw[HN,lW,aaE B T C n];change stM b (duO _ _) (Bp F b ((oP b #[188] N).toNat:Nat) F.length)=_;rw[OZ B,aap #[1] C,aee (hJ B n) #[1],zA,BL #[1] (hJ B n) T];congr 1;lia
theorem aaH(B:2<=b)(T:∀z∈N,0<=z)(C:F.length=N.length):∀n:Nat,AW (stC false b F) (Z g) #[170]=Z ((g-Fb F N #[188] F.length) / (b:Int)^n)
 |0=>by change Z g=Z ((g-Fb F N 1 F.length) / 1);rw[DL,ZT,Za]
 |n+1=>by rw[HN,lW,aaH B T C n];change Z ((_-Bp F b ((oP b #[188] N).toNat:Nat) F.length) / (b:Int))=_;rw[OZ B,aap #[1] C,aeg (hJ B n) #[1],zA,BL #[1] (hJ B n) T];congr 2;lia
def HM(F N:LI):Int:=preSum (λi=>F.getD i 0*N.getD i 0) F.length
def Lj(T:∀z∈N,0<=z/\z<low)(c:0<low):Fb F N low F.length=HM F N:=BI λi _=>by
 have:N.getD i 0%low=N.getD i 0:=by
  by_cases h:i<N.length
  ·rw[getD_at h];have:=T _ (jO h);show Ji this.1 this.2
  ·rw[jQ,JE #[1]];show Ji (JF _) c
 rw[this]
def ahe(B:2<=b)(T:∀z∈N,0<=z/\z<(b:Int)^n)(C:F.length=N.length):Tt (AW (stC true b F) (Z g) #[170])=if HM F N=g then 1 else 0:=by
 rw[aaE B (λz S=>(T z S).1) C,Lj T (hJ B n)];unfold Tt;have e:duO (g-HM F N) #[188]=Z 0↔HM F N=g:=(aef (hJ B n)).trans #[1];by_cases c:HM F N=g
 ·rw[if_pos c,if_pos (e.mpr c)]
 ·rw[if_neg c,if_neg (λz=>c (e.mp z))]
def aaG(B:2<=b)(T:∀z∈N,0<=z/\z<(b:Int)^n)(C:F.length=N.length):sgW (AW (stC false b F) (Z g) #[170])=if HM F N<=g then 1 else 0:=by
 rw[aaH B (λz S=>(T z S).1) C,Lj T (hJ B n)];have e:0<=(g-HM F N) / (b:Int)^n↔HM F N<=g:=(V0 (hJ B n)).trans #[1];change(if 0<=(g-HM F N) / (b:Int)^n then(1:Int)else 0)=_;by_cases c:HM F N<=g
 ·rw[if_pos c,if_pos (e.mpr c)]
 ·rw[if_neg c,if_neg (λz=>c (e.mp z))]
end
section
variable{d:LD}
theorem abd(L:FV b d)(T:∀z∈N,0<=z)(C:d.F.length=N.length):∀n:Nat,∃c q:Int,AW (PY b d) (Tr d) #[170]=[c,q]/\Lk d.rows b (d.more+Fb d.F N #[188] d.F.length) c q n
 |0=>⟨d.more,0,rfl,by change Lk d.rows b (d.more+Fb d.F N 1 d.F.length) d.more 0 0;rw[DL,ZX];show Lk.zero⟩
 |n+1=>by have B:=L.b2.1;let⟨c,q,e,K⟩:=abd L T C n;have a:=K.step (w:=wgL d.F N b #[188] d.F.length) #[1];rw[Zp,<-BL #[1] (hJ B n) T,<-zA]at a;show⟨_,_,?_,a⟩;rw[HN,lW,e];change [(c+Bp d.F b ((oP b #[188] N).toNat:Nat) d.F.length) / (b:Int),stepI d.rows q ((c+Bp d.F b ((oP b #[188] N).toNat:Nat) d.F.length)%b)]=_;rw[OZ B,aap #[1] C]
noncomputable def Sy(b:Nat)(r:LL×LI)(x:Int):Int:=r.2.getD (bp r.1 (AF b x) 0).toNat 0
theorem Og(X:∀z∈F,0<=z)(T:∀z∈N,0<=z):∀n:Nat,0<=preSum (λi=>F.getD i 0*N.getD i 0) n
 |0=>JF _
 |n+1=>by
  have at0:∀{G:LI},(∀z∈G,0<=z)->0<=G.getD n 0:=λ{G} h=>by
   by_cases c:n<G.length
   ·rw[getD_at c];show h _ (jO c)
   ·rw[jQ,JE #[1]];show JF _
  show ZE (Og X T n) (Jl (at0 X) (at0 T))
def aeX(L:FV b d)(T:∀z∈N,0<=z):0<=d.more+HM d.F N:=ZE L.mo.1 (Og (λz S=>(L.fi z S).1) T _)
def Pd(L:FV b d)(T:∀z∈N,0<=z/\z<(b:Int)^n)(C:d.F.length=N.length):Ts b d (AW (PY b d) (Tr d) #[170])=Sy b (d.rows,d.signs) (d.more+HM d.F N):=by have B:=L.b2.1;let⟨c,q,e,K⟩:=abd L (λz S=>(T z S).1) C n;let⟨P,D,E,a,g⟩:=lV (λu f o _=>AN L o) #[170] _ (AM L) (agG B N n);rw[e]at E;cases E;rw[Lj T (hJ B n)]at K;rw[e];show K.sign L.ok B L.n1.1 L.st (pG B a.1) (pG B (aeX L λz S=>(T z S).1))
def EK(L:FV b d)(h:ab2 d u):Ts b d (PY b d u 0)=Ts b d u:=by
 have B:=L.b2.1;let⟨c,q,rfl,⟨v,r⟩,⟨G,E⟩⟩:=h;have e:PY b d [c,q] 0=[c / b,stepI d.rows q (c%b)]:=by change [(c+Bp d.F b 0 d.F.length) / (b:Int),stepI d.rows q ((c+Bp d.F b 0 d.F.length)%b)]=_;rw[HP,ZX]
 rw[e];have F:=pG (c:=c / b) B (zS v #[1]);have m:=cb (a:=c) (b:=(b:Int)) #[1];show Dz L.ok B L.st (es:=c%b::AF b (c / b)) (q:=q) (Cf.cons m.1 m.2 F.inb) (by change c%b+(b:Int)*cQ b (AF b (c / b))=c;rw[F.val];show Zj c b) (pG B v) G E
end
def acj(B:2<=b/\b<=4)(p:Option Int):Tt (stC true b F p 0)=Tt p:=by
 change Tt (stM b p (Bp F b 0 F.length))=Tt p;rw[HP];cases p with
 |none=>rfl
 |some z=>
  change Tt (if (z-0)%(b:Int)=0 then Z ((z-0) / (b:Int))else Y)=Tt (Z z);rw[Za];unfold Tt;exists 16;by_cases c:z=0
  ·subst c;rw[if_pos (Zq _),ZL]
  ·rw[if_neg (λy=>c (Option.some.inj y))];show if_neg λy=>?_;split at y
   ·rename_i m;have O:=Option.some.inj y;exists 19
   ·cases y
def acq(B:2<=b/\b<=4)(z:Int):sgW (stC false b F (Z z) 0)=sgW (Z z):=by
 change sgW (Z ((z-Bp F b 0 F.length) / (b:Int)))=sgW (Z z);rw[HP,Za];change(if 0<=z / (b:Int)then(1:Int)else 0)=if 0<=z then 1 else 0
 exists 16;have e:0<=z / (b:Int)↔0<=z:=by rcases C with rfl|rfl|rfl<;>lia
 by_cases c:0<=z
 ·rw[if_pos c,if_pos (e.mpr c)]
 ·rw[if_neg c,if_neg (λy=>c (e.mp y))]
def eB(R:Str->LL×LI)(zs:List Str)(l:Look):LD:=⟨(R l.1).1,(R l.1).2,zs.map (lF l.2),lF l.2 ("" : Str)⟩
def FC(zs:List Str)(a c:List oH):LI:=zs.map λz=>lF a z-lF c z
def gC(k:Fin 3)(a c:List oH):Int:=if k=2 then lF c ("" : Str)-lF a ("" : Str)-1 else lF c ("" : Str)-lF a ("" : Str)
noncomputable def sgA(b:Nat)(R:Str->LL×LI)(zs:List Str):At->LI->Int
 |.cm k a c,v=>if k=0 then Tt (AW (stC true b (FC zs a c)) (Z (gC k a c)) v)else sgW (AW (stC false b (FC zs a c)) (Z (gC k a c)) v)
 |.sg l n,v=>Ak (Ts b #[66] (AW (PY b #[66]) (Tr #[66]) v)) n
 |.lk l m,v=>Ak (Ts b #[66] (AW (PY b #[66]) (Tr #[66]) v)) (Ts b (eB R zs m) (AW (PY b (eB R zs m)) (Tr (eB R zs m)) v))
def pk(zs:List Str)(N:LI)(ps:List oH):Int:=lF ps ("" : Str)+HM (zs.map (lF ps)) N
noncomputable def soA(b:Nat)(R:Str->LL×LI)(zs:List Str)(N:LI):At->Bool
 |.cm k a c=>if k=0 then decide (pk zs N a=pk zs N c)else if k=1 then decide (pk zs N a<=pk zs N c)else decide (pk zs N a<pk zs N c)
 |.sg l n=>decide (Sy b (R l.1) #[146]=n)
 |.lk l m=>decide (Sy b (R l.1) #[146]=Sy b (R m.1) (pk zs N m.2))
theorem abq(f g:Nat->Int):∀n:Nat,preSum (λi=>f i-g i) n=preSum f n-preSum g n
 |0=>rfl
 |n+1=>by change preSum (λi=>f i-g i) n+(f n-g n)=preSum f n+f n-(preSum g n+g n);rw[abq f g n];lia
def agv{a c:List oH}:HM (FC zs a c) N=HM (zs.map (lF a)) N-HM (zs.map (lF c)) N:=by
 unfold HM FC;rw[aW,aW,aW,<-abq];show BI λi W=>?_;have e:∀f:Str->Int,(zs.map f).getD i 0=f zs[i]:=λf=>by rw[getD_at (by rw[aW];show W),Jf]
 rw[e,e,e,Int.sub_mul]
structure aax(b:Nat)(R:Str->LL×LI)(zs:List Str)(t:At):Prop where
 ok:∀l∈iq t,FV b #[66]
def Dk{p q:Prop}[Decidable p][Decidable q](e:p↔q):(if p then(1:Int)else 0)=if decide q=true then 1 else 0:=by
 by_cases c:p
 ·rw[if_pos c,if_pos (decide_eq_true (e.mp c))]
 ·rw[if_neg c,if_neg (λy=>c (e.mpr (of_decide_eq_true y)))]
theorem alS{R:Str->LL×LI}(B:2<=b/\b<=4)(T:∀z∈N,0<=z/\z<(b:Int)^n)(C:zs.length=N.length):∀{t:At},aax b R zs t->sgA b R zs t #[170]=if soA b R zs N t=true then 1 else 0
 |.cm k a c,_=>by
  have X:(FC zs a c).length=N.length:=by unfold FC;rw[aW];show C
  have O:k=0\/k=1\/k=2:=by lia
  rcases O with rfl|rfl|rfl
  ·change Tt (AW (stC true b (FC zs a c)) (Z (lF c ("" : Str)-lF a ("" : Str))) #[170])=if decide (lF a ("" : Str)+HM (zs.map (lF a)) N=lF c ("" : Str)+HM (zs.map (lF c)) N)=true then 1 else 0
   rw[ahe B.1 T X,agv];show Dk #[1]
  ·change sgW (AW (stC false b (FC zs a c)) (Z (lF c ("" : Str)-lF a ("" : Str))) #[170])=if decide (lF a ("" : Str)+HM (zs.map (lF a)) N<=lF c ("" : Str)+HM (zs.map (lF c)) N)=true then 1 else 0
   rw[aaG B.1 T X,agv];show Dk #[1]
  ·change sgW (AW (stC false b (FC zs a c)) (Z (lF c ("" : Str)-lF a ("" : Str)-1)) #[170])=if decide (lF a ("" : Str)+HM (zs.map (lF a)) N<lF c ("" : Str)+HM (zs.map (lF c)) N)=true then 1 else 0
   rw[aaG B.1 T X,agv];show Dk #[1]
 |.sg l m,h=>by
  have L:=h.ok l jA;change Ak (Ts b #[66] (AW (PY b #[66]) (Tr #[66]) #[170])) m=if decide (Sy b (R l.1) #[146]=m)=true then 1 else 0
  rw[Pd L T (by change(zs.map _).length=_;rw[aW];show C)];show Dk Iff.rfl
 |.lk l m,h=>by
  have L:=h.ok l jA;have M:=h.ok m #[186];change Ak (Ts b #[66] (AW (PY b #[66]) (Tr #[66]) #[170])) (Ts b (eB R zs m) (AW (PY b (eB R zs m)) (Tr (eB R zs m)) #[170]))=if decide (Sy b (R l.1) #[146]=Sy b (R m.1) (pk zs N m.2))=true then 1 else 0
  rw[Pd L T (by change(zs.map _).length=_;rw[aW];show C),Pd M T (by change(zs.map _).length=_;rw[aW];show C)];show Dk Iff.rfl
theorem aab{R:Str->LL×LI}(B:2<=b/\b<=4)(N:Ej wide v):∀{t:At},aax b R zs t->sgA b R zs t (v++[0])=sgA b R zs t v
 |.cm k a c,_=>by
  simp only[sgA];rw[lW,lW];by_cases e:k=0
  ·rw[if_pos e,if_pos e];show acj B _
  ·rw[if_neg e,if_neg e];let⟨z,W⟩:=lV (OkP:=λu=>∃z,u=Z z) (st:=stC false b (FC zs a c)) (λu f o _=>by let⟨z,rfl⟩:=o;show⟨_,rfl⟩) v (Z (gC k a c)) ⟨_,rfl⟩ N;rw[W];show acq B z
 |.sg l m,h=>by have L:=h.ok l jA;simp only[sgA];rw[lW];change Ak (Ts b _ (PY b _ _ 0)) m=_;rw[EK L #[105]]
 |.lk l m,h=>by have L:=h.ok l jA;have M:=h.ok m #[186];simp only[sgA];rw[lW,lW];change Ak (Ts b _ (PY b _ _ 0)) (Ts b _ (PY b _ _ 0))=_;rw[EK L #[105],EK M (lV (λu f o _=>AN M o) v _ (AM M) N)]
theorem alR{R:Str->LL×LI}:∀{t:At},sgA b R zs t v=0\/sgA b R zs t v=1
 |.cm k a c=>by simp only[sgA,Tt,sgW];split<;>split<;>first|show .inl rfl|show .inr rfl
 |.sg l m=>by simp only[sgA,Ak];split<;>first|show .inl rfl|show .inr rfl
 |.lk l m=>by simp only[sgA,Ak];split<;>first|show .inl rfl|show .inr rfl
theorem alD{x O a z fn:Qp}{j F:Hp->Prop}{g G:LI->Prop}{s1 s2:LI->Nat->LI}{n S:LI}{v D:LI->Int}(I:mg "alike" = Z (.ref fn))(R:Yk K (.ref fn)=true)(b:TZ (kdH kkI) CL a wide j g s1 n v (mf CL) (pP CL) (pO CL))(c:TZ (kdH kkI) CL z wide F G s2 S D (mf CL) (pP CL) (pO CL)):
  TZ (kdH kkL) C x wide (λH=>H x=Z (.ins C O [("one",.ref a),("other",.ref z),("rule",.ref fn)])/\j H/\F H) (λu=>∃y N,u=[y,N]/\g y/\G N) (alz s1 s2) [n,S] (aph v D) (DW C CL) (HG C CL) (HF K mg C CL) where
 same:=λH H' s h=>⟨s _ _ h.1,b.same _ _ s h.2.1,c.same _ _ s h.2.2⟩
 ob:=λH h=>⟨O,_,h.1,rfl,rfl,rfl⟩
 begin:=λH Q E h q=>⟨x,O,a,z,fn,n,S,rfl,h.1,⟨b.ob _ h.2.1⟩,⟨c.ob _ h.2.2⟩,λd l s k=>b.begin d l _ (b.same _ _ s h.2.1) k,λd l s k=>c.begin d l _ (c.same _ _ s h.2.2) k,λt H' s p=>q t H' s p⟩
 step:=λH Q E i u f T e h B o V q=>by
  subst e;let⟨y,N,rfl,P,m⟩:=o;let⟨J,L,A⟩:=B;cases A with
  |cons M r=>
   cases r with
   |cons w r2=>
    cases r2;show⟨x,O,a,z,fn,i,_,_,(f:Int),s1 y f,s2 N f,U,h.1,L,⟨b.ob _ h.2.1⟩,⟨c.ob _ h.2.2⟩,λd l s k=>b.step d l _ _ y f _ rfl (b.same _ _ s h.2.1) (s _ _ M) P V k,λd l s k=>c.step d l _ _ N f _ rfl (c.same _ _ s h.2.2) (s _ _ w) m V k,λt H' s p=>q t H' s p⟩
 sign:=λH Q E i u h B o q=>by
  let⟨y,N,rfl,P,m⟩:=o;let⟨J,L,A⟩:=B;cases A with
  |cons M r=>
   cases r with
   |cons w r2=>
    cases r2;show⟨x,O,a,z,fn,i,_,_,v y,D N,U,h.1,I,R,L,⟨b.ob _ h.2.1⟩,⟨c.ob _ h.2.2⟩,λd l s k=>b.sign d l _ _ y (b.same _ _ s h.2.1) (s _ _ M) P k,λd l s k=>c.sign d l _ _ N (c.same _ _ s h.2.2) (s _ _ w) m k,λH' s=>q H' s⟩
 ok0:=⟨n,S,rfl,b.ok0,c.ok0⟩
 okS:=λu f o V=>by let⟨y,N,rfl,P,m⟩:=o;show⟨_,_,U,b.okS _ _ P V,c.okS _ _ m V⟩
def aoU:Expr->Qr×Expr×Scope
 |.Lambda p b s _=>(p,b,s)
 |e=>(⟨[],[],Y,[],[],Y,[]⟩,e,{kind:=ScopeKind.function,names:=[],isGenerator:=false,isCoroutine:=false,more:=[]})
def ak8:Expr->Pos
 |.Lambda _ _ _ p=>p
 |_=>⟨0,0,0,0⟩
def ak7:Stmt->Expr
 |.If _ (.Return (Z (.Call _ (_::e::_) _ _)) _::_) _ _=>e
 |_=>.Name "" ⟨0,0,0,0⟩
def aoT:Expr:=ak7 ((cT dQ).getD 5 (.Pass ⟨0,0,0,0⟩))
def mh:Qr×Expr×Scope:=aoU aoT
def rZ:Str:="Maker.machine_for" ++ ".<locals>." ++ "<lambda>"
def PK:Pos:=ak8 aoT
def ak9:Ia ["sign"] ["statement"] mh.2.2:=⟨rfl,rfl,rfl,by decide +kernel,by decide +kernel,by decide +kernel,by decide +kernel,by decide +kernel⟩
def Aw.same{P:Qp}{bB:List #[156]}(L:Aw H f P qual params body scope bB Tp)(s:∀a p,H a=Z (.ext p)->H' a=Z (.ext p)):Aw H' f P qual params body scope bB Tp:=
 ⟨s _ _ L.fn,s _ _ L.cd,Paired.EM L.cl λ_ _ ⟨o,u,e,r,r1⟩=>⟨o,u,s _ _ e,r,r1⟩,L.nd⟩
structure Ic(H:Hp)(f:Qp)(n:Int):Prop where
 ex:∃(c' x:Qp) (bB:List #[156]) (k1 k2 k3:V),bB.map (·.1)=(["statement"]:List Str)/\Aw H f c' rZ mh.1 mh.2.1 mh.2.2 bB [.ref x]/\H x=Z (.tup [k1,k2,k3,.int n])
theorem Ic.same{n:Int}(h:Ic H f n)(s:av H H'):Ic H' f n:=by let⟨⟨P,x,bB,M,w,O,G,L,J⟩⟩:=h;show⟨⟨P,x,bB,M,w,O,G,Aw.same L λ_ _ e=>s _ _ e,s _ _ J⟩⟩
def Ic.fnv{n:Int}(h:Ic H f n):FnV #[68] H:=by let⟨⟨P,x,bB,M,w,O,G,L,J⟩⟩:=h;show⟨f,rZ,mh.1,mh.2.1,mh.2.2,bB,P,U,L.fn⟩
inductive auc (v:V) (vs:List V) (H:Hp) (Q:VK):Prop|mk (f:Qp) (n a:Int) (_:v=.ref f) (_:vs=[.int a]) (_:Ic H f n) (_:Q (.int (Ak a n)) H)
def ald{k:Nat}(S:eJ (k+2) X.A)(G:bh X.prog X.w X.K X.mg X.base "alike" 1 ["one","other"] [] DU):LR X auc:=by
 intro g s σ H T F m Q I r ⟨f,n,a,e,h,⟨⟨P,x,bB,M,j,O,c,L,J⟩⟩,q⟩;subst h;show alc (k:=k+1) (ps:=["sign"]) (fr:=["statement"]) (params:=mh.1) (body:=mh.2.1) (scope:=mh.2.2) (te:=agw DU [] E0 (abQ (aiX 0) (abQ (tOp (alF X.K) (aiX 1) (tC (.int 3))) agC))) S ak9 (λm C qual bB P pm N=>?_) (λqual f P bB s H E b=>?_) g s σ H T _ m Q I r ⟨rfl,f,P,rZ,bB,[.ref x],e,c,L,?_⟩
 ·match m,C with
  |[u],_=>rfl
 ·show aK (X:=aaI X.prog X.w X.K X.mg X.base ((["sign"]:List Str)++(["statement"]:List Str)) qual mh.2.2 f (.ref P) bB X.A X.stack s H) G b (aa (Z3 (i:=0) rfl #[90]) (aa (ax (mS X.K) (Z3 (i:=1) rfl (.inr (.inr rfl))) ag #[2]) af)) (hkj:=by lia)
 ·have v:x∉bB.map (·.2):=λz=>by
   let⟨p,D,t⟩:=jK.mp z;let⟨i,W⟩:=JJ.mp D;have B:=L.cl
   match bB,c,B,D with
   |[(y,d)],_,.cons ⟨o,u,l,_,_⟩ .nil,D=>
    cases jI.mp D;subst t;rw[J]at l;cases l
  have R:(less H #[83]) x=Z (.tup [M,j,O,.int n]):=by rw[ck v];show J
  exists _,rfl,_,rfl,x,_,_,_,rfl,rfl,bg R,rfl,a,n,rfl;rw[ace];show q
structure ai1(wide:Nat)(rows:LL)(signs:LI)(ru:Int->Int)(az:LL)(aI:LI):Prop where
 ex:∃(ff:LL) (dJ:LI),dj wide rows ff signs dJ/\dj wide ff az (dJ.map ru) aI
inductive N8 (vs:List V) (H:Hp) (Q:VK) (E:XK):Prop|mk (m r g fn:Qp) (many wide:Nat) (rows:LL) (signs:LI) (n:Int) (_:vs=[.ref m,.ref fn]) (_:bD H m r g wide rows signs) (_:aQ many wide rows) (_:signs.length=many) (_:(1<=many/\many<100000)) (_:wide<=100000) (_:Ic H fn n) (_:∀(m' r' g':Qp) (az:LL) (aI:LI) (H':Hp),av H H'->bD H' m' r' g' wide az aI->ai1 wide rows signs (λa=>Ak a n) az aI->Q (.ref m') H')
section
def Lq:aA ["machine","rule","small"] ["machine","rule"] (aq BM):=bQ #[0]
def Dd:aY ["machine","rule","small"] (aq BM) ["sign","rule"] [Y,Z 1] ⟨.function,[#[41],("sign",.local),("rule",.free)],false,false,[]⟩:=mH #[0]
def Y4(F:bu K "changed" "changed" BM dV f fd)(u:bh P w K mg base "least" 5 ["machine"] [] (DV K))(Bq:bh P w K mg base "alike" 1 ["one","other"] [] DU)(aF:mg "tuple" = Y):aR P w K mg base cO 6 f fd ["machine","rule"] N8:=by
 show F.ok Lq #[18] (λcq A I s H vs Q E S h=>?_)
 ·let⟨m,r,g,W,many,wide,rows,signs,mm,rfl,_⟩:=h;rfl
 let⟨m,r,g,W,many,wide,rows,signs,n,rfl,M,R,ls,⟨x,n2⟩,N,RU,k⟩:=h;show⟨_,(ah (aB (i:=2) Lq.nd (aK u S #[26]))
   (ao (aE (aK u S (aa (cA (aa #[88] (aa #[88] (aa (aS bq #[31] aF bJ (aa (fJ rfl Dd (eD #[88]) (λ_ _ _ _=>(bj (i:=0) Dd.nd)) (λ_ _ _ _=>(afF (pv 1) #[26] ((ald S Bq))))) af)) af)))) af))))),?_⟩
 exists 0;show⟨_,U,m,r,g,many,wide,rows,signs,U,M,R,ls,⟨x,n2⟩,N,λm1 r1 g1 o L H1 s1 M1 c=>?_⟩;have B1:=c.B1 R x;have C:=c.sgn;exists 1;exists _,rfl,m1,_,_,_,rfl,rfl,bg M1.tup,rfl,_,rfl,m1,_,_,_,rfl,rfl,bg M1.tup,rfl,_,rfl,m1,_,_,_,rfl,rfl,bg M1.tup,rfl,g1,rfl,⟨_,bg M1.sgn⟩;show rh (K:=K) (xs:=L.map V.int) (λD i d H'=>av H1 H'/\d=((L.take i).map λa=>Ak a n).map V.int) #[59] (λD i d H' _ ⟨e,_⟩=>bg (e _ _ M1.sgn)) ?_ ?_
 ·rintro D i y d H2 Q' B hi G ⟨s2,rfl⟩ k';let⟨z,rfl,p⟩:=cy hi;have t:=RU.same #[129];have il:=(lH p).1;show⟨_,U,t.fnv,_,U,t.fnv,W,n,z,U,U,t,k' _ _ G (bI #[79]) ⟨au s2 B,?_⟩⟩;rw[jS,p,jD,jD];rfl
 rintro D d H2 B G ⟨s2,rfl⟩;rw[aW,jV]at G;show⟨D,_,U,.inl ⟨bM G,λj l=>?_⟩⟩;have s3:=ak l (HO.tup ((L.map λa=>Ak a n).map V.int));show⟨#[35],λO J=>?_⟩;have s4:=ak J (HO.tup [V.int wide,V.ref r1,V.ref j]);have v:=s2.trans (s3.trans s4);let⟨fz,T,X⟩:=M1.rows;have M2:bD _ O r1 j wide o (L.map λa=>Ak a n):=⟨ae,⟨fz,v _ _ T,X.same λb xs e=>v _ _ e⟩,s4 _ _ ae⟩;show⟨O,r1,j,o.length,wide,o,_,U,M2,c.ok,by rw[aW,C],⟨c.pos,by lia⟩,N,λm3 r3 g3 Ae q H5 s5 M5 L5=>k m3 r3 g3 Ae q H5 (s1.trans (v.trans s5)) M5 ⟨o,L,c,L5⟩⟩
end
structure Ou(H:Hp)(rd:Qp)(b:Nat)(t:At)(R:Str->LL×LI):Prop where
 ex:∃kvs:List #[157],H rd=Z #[58]/\∀l∈iq t,(∃m r g:Qp,cG kvs (.inr l.1)=Z #[136]/\bD H m r g b (R l.1).1 (R l.1).2)/\aQ (R l.1).1.length b (R l.1).1/\(R l.1).2.length=(R l.1).1.length/\(1<=(R l.1).1.length/\(R l.1).1.length<=3)/\mR (R l.1).1.length (R l.1).1 (R l.1).2
theorem Ou.same{t:At}{R:Str->LL×LI}(h:Ou H rd b t R)(s:av H H'):Ou H' rd b t R:=by let⟨kvs,G,c⟩:=h.ex;show⟨kvs,s _ _ G,λl C=>?_⟩;let⟨⟨m,r,g,T,M⟩,d⟩:=c l C;show⟨⟨m,r,g,T,M.same λa xs e=>s _ _ e⟩,d⟩
def lks_ok{t:At}{R:Str->LL×LI}(h:Ou H rd b t R)(ok:HQ t)(B:2<=b/\b<=4)(T:zs.length<=2):aax b R zs t:=⟨λl C=>by
 let⟨kvs,G,M⟩:=h.ex;let⟨_,g,a,c,i⟩:=M l C;have f:=(ok.lo l C).2;have wt:∀x,0<=lF l.2 x/\lF l.2 x<=40:=λx=>aas (m:=20) (n:=2) (λp D _=>f.2 p D) f.1 #[9];show⟨g,a,c,B,?_,λz S=>?_,⟨(wt _).1,zN (wt _).2 #[9]⟩,i⟩
 ·change(zs.map (lF l.2)).length<=2;rw[aW];show T
 ·let⟨x,_,rfl⟩:=jK.mp S;show wt x⟩
def am4{t:At}{k:Fin 3}{a c:List oH}(ok:HQ t)(e:t=.cm k a c)(N:Cg zs (dB t)):∀z∈FC zs a c,-160<=z/\z<=160:=λz S=>by
 let⟨x,J,rfl⟩:=jK.mp S;have u:x≠("" : Str):=by let⟨ps,_,M⟩:=Jm.mp ((N.mem x).mp J);let⟨p,D,rfl⟩:=jK.mp M;show of_decide_eq_true (jv.mp D).2
 subst e;have one:∀ps,iy ps->0<=lF ps x/\lF ps x<=160:=λps f=>aas (m:=20) (n:=8) (λp D e=>⟨(f.2 p D).1.1,(f.2 p D).2.2 (by rw[e];show u)⟩) f.1 #[9];have G:=one a (ok.ok a jA);have M:=one c (ok.ok c #[186]);lia
def anN{k:Fin 3}{a c:List oH}(ok:HQ (.cm k a c)): -33554432<=gC k a c/\gC k a c<33554432:=by have one:∀ps,iy ps->0<=lF ps ("" : Str)/\lF ps ("" : Str)<=8000000:=λps f=>aas (m:=1000000) (n:=8) (λp D e=>(f.2 p D).1) f.1 #[9];have G:=one a (ok.ok a jA);have M:=one c (ok.ok c #[186]);unfold gC;split<;>lia
def BH{k:Nat}(B:2<=b/\b<=4)(R:k<=2):1<=b^k/\b^k<=16:=by have G:b^k<=b^2:=zu #[1] R;have M:b^2<=4^2:=Zt B.2 2;show⟨Zx (Jv (Nat.pow_pos #[1])),by lia⟩
structure Mt(b:Nat)(R:Str->LL×LI)(zs:List Str)(t:At)(az:LL)(aI:LI):Prop where
 ok:aQ az.length #[120] az
 pos:0<az.length
 B1:az.length<100000
 sg:aI.length=az.length
 ord:pF az
 apart:Apart #[120] az aI
 tells:∀v,Ej #[120] v->sgn aI (bp az v 0)=sgA b R zs t v
def aiG{ps:LI}{q:Int}(X:0<=q)(G:q<(ps.length:Int)):sgn (ps.map ru) q=ru (sgn ps q):=by unfold sgn;rw[getD_at #[25],getD_at #[1],Jf]
def LP.tells[DecidableEq α]{st:α->Nat->α}{M:α}{N:Nat}{ps:List α}{sg:α->Int}(G:LP st M N ps rows)(D:rows.length=ps.length)(a:Ej N v):sgn (ps.map sg) (bp rows v 0)=sg (AW st M v):=by let⟨k,T,g⟩:=G.told D a;let⟨J,l⟩:=lH g;unfold sgn;rw[T,jG,getD_at (by rw[aW];show J),Jf,l]
def ahX[DecidableEq α]{R:Str->LL×LI}{t:At}{st:α->Nat->α}{M:α}{ps:List α}{sg:α->Int}(G:LP st M #[120] ps rows)(D:rows.length=ps.length)(lt:ps.length<100000)(a:dj #[120] rows az (ps.map sg) aI)(h:∀v,Ej #[120] v->sg (AW st M v)=sgA b R zs t v):Mt b R zs t az aI:=by have P:=(lH G.hd).1;show⟨a.ok,a.pos,Jo (a.B1 (G.ok D) #[1]) #[1],a.sgn,a.ord,a.apart,λv N=>by rw[<-a.tells v N,G.tells D N,h v N]⟩
def aeY[DecidableEq α]{R:Str->LL×LI}{t:At}{st:α->Nat->α}{M:α}{ps:List α}{sg:α->Int}(G:LP st M #[120] ps rows)(D:rows.length=ps.length)(lt:ps.length<100000)(C:ai1 #[120] rows (ps.map sg) ru az aI)(h:∀v,Ej #[120] v->ru (sg (AW st M v))=sgA b R zs t v):Mt b R zs t az aI:=by let⟨r1,s1,c,a⟩:=C.ex;have P:=(lH G.hd).1;have e:=c.B1 (G.ok D) #[1];have Q:=a.B1 c.ok c.pos;show⟨a.ok,a.pos,by lia,a.sgn,a.ord,a.apart,λv N=>by have d:=oG c.ok N (h:=0) #[9] (by have:=c.pos;lia);rw[<-a.tells v N,aiG d.1 (by rw[c.sgn];show d.2),<-c.tells v N,G.tells D N,h v N]⟩
inductive PD (vs:List V) (H:Hp) (Q:VK) (E:XK):Prop|mk (b t:Nat) (_:vs=[.int b,.int t]) (_:1<=b) (_:(t:Int)<100000) (_:(b:Int)^t<NB) (_:Q (.int ((b^t:Nat):Int)) H)
def adq{w k:Nat}(u:1<=w)(h:i<=k):w^i<=w^k:=zu u h
section
def rY:aA ["base","times","power","turn"] ["base","times"] (aq CJ):=bQ #[0]
def afn(F:bu K "power_of" "power_of" CJ dV f fd)(y:mg "range" = Y):aR P w K mg base cO 1 f fd ["base","times"] PD:=by
 show F.ok rY #[11] #[5]
 ·let⟨b,t,rfl,_⟩:=h;rfl
 let⟨b,t,rfl,r,t1,C,k⟩:=h;have g:∀{x:Int},0<=x->x<NB->x<BIG:=λ{x} J R=>by have:=adT;have:=TF;have q:NB*1<=NB*NB:=Ju (JF _) #[1] #[9] #[1];lia
 have pe:∀i:Nat,(b:Int)^i=((b^i:Nat):Int):=λi=>by push_cast;rfl
 have le:∀i:Nat,i<=t->((b^i:Nat):Int)<NB:=λi W=>by have:=adq r W;rw[pe]at C;lia
 show⟨_,(ah (aB (i:=2) rY.nd ag)
   (ah (cf PassesOwn.never rfl (de rfl y #[33]) (bj (i:=3) rY.nd) (ao (aB (i:=2) rY.nd (aC abk (pv 2) (pv 0)))))
   (ao (aE (pv 2))))),?_⟩
 exists 0;show⟨_,U,(t:Int),U,by lia,by lia,hZ (λi O H'=>∃v,O=[Z (.int b),Z (.int t),Z (.int ((b^i:Nat):Int)),v]/\H'=H) ⟨Y,U,U⟩ ?_ ?_⟩
 ·rintro i O H' W ⟨v,rfl,rfl⟩;rw[jG]at W;have c:=le i #[1];have d:(b:Int)<NB:=by have:=le 1 #[1];rw[Nat.pow_one]at this;show this
  show⟨_,U,_,U,_,_,U,U,⟨⟨by lia,g #[1] c⟩,⟨by lia,g #[1] d⟩⟩,Z (.int (0+(i:Int))),?_,U⟩;rw[zU];push_cast;rfl
 ·rintro O H' ⟨v,rfl,rfl⟩;rw[jG];show⟨_,U,k⟩
end
inductive S8 (vs:List V) (H:Hp) (Q:VK) (E:XK):Prop|mk (z lo hi:Int) (_:vs=[.int z,.int lo,.int hi]) (_:(lo<=z/\z<=hi)) (_:Q (.bl true) H)
inductive abE (vs:List V) (H:Hp) (Q:VK) (E:XK):Prop|mk (b:Int) (_:vs=[.int b]) (_:(2<=b/\b<=10)) (_:Q .non H)
inductive abG (vs:List V) (H:Hp) (Q:VK) (E:XK):Prop|mk (v:V) (rd:Qp) (t:At) (kvs:List #[157]) (_:vs=[v,.ref rd]) (_:eM H v t) (_:H rd=Z #[58]) (_:(∀l∈iq t,∃u,cG kvs (.inr l.1)=Z u)) (_:∀H':Hp,av H H'->Q .non H')
inductive abF (vs:List V) (H:Hp) (Q:VK) (E:XK):Prop|mk (v:V) (b:Nat) (t:At) (_:vs=[v,.int b]) (_:eM H v t) (_:HQ t) (_:(2<=b/\b<=4)) (_:∀H':Hp,av H H'->Q .non H')
inductive agh (vs:List V) (H:Hp) (Q:VK) (E:XK):Prop|mk (v:V) (x:Str) (ps:List oH) (_:vs=[v,.str x]) (_:mj H v ps) (_:iy ps) (_:∀H':Hp,av H H'->Q (.int (lF ps x)) H')
structure TB(K:Yc)(C:Qp):Prop where
 cl:Fv K C
 nb:df K C "base"
 nr:df K C "rows"
 nm:df K C "most"
structure L3(H:Hp)(C x:Qp)(b:Nat)(rd:Qp)(most:Int):Prop where
 ob:∃dx,H x=Z (.ins C dx [("base",.int b),("rows",.ref rd),("most",.int most)])
def L3.same{x:Qp}(h:L3 H C x b rd most)(s:av H H'):L3 H' C x b rd most:=by let⟨O,e⟩:=h.ob;show⟨O,s _ _ e⟩
inductive abz (C:Qp) (vs:List V) (H:Hp) (Q:VK) (E:XK):Prop|mk (x dx rd:Qp) (b:Nat) (most:Int) (_:vs=[.ref x,.int b,.ref rd,.int most]) (_:H x=Z (.ins C dx [])) (_:(2<=b/\b<=10)) (_:∀H':Hp,(∀c u,c≠x->H c=Z u->H' c=Z u)->L3 H' C x b rd most->Q .non H')
inductive Ly (C:Qp) (vs:List V) (H:Hp) (Q:VK) (E:XK):Prop|mk (x rd:Qp) (v:V) (b:Nat) (most:Int) (t:At) (R:Str->LL×LI) (_:vs=[.ref x,v]) (_:L3 H C x b rd most) (_:eM H v t) (_:HQ t) (_:Ou H rd b t R) (_:(2<=b/\b<=4)) (_:∀H':Hp,av H H'->Q .non H')
inductive Fm (C CL:Qp) (vs:List V) (H:Hp) (Q:VK) (E:XK):Prop|mk (x rd m tn:Qp) (row:Str) (va:V) (b:Nat) (most:Int) (kvs:List #[157]) (ps:List oH) (zs:List Str) (_:vs=[.ref x,.str row,va,.ref tn]) (_:L3 H C x b rd most) (_:H rd=Z #[58]) (_:cG kvs (.inr row)=Z #[136]) (_:mj H va ps) (_:iy ps) (_:H tn=Z #[94]) (_:zs.length<=2) (_:∀(o:Qp) (H':Hp),av H H'->Ek H' CL o m (zs.map (lF ps)) (lF ps ("" : Str)) b->Q (.ref o) H')
inductive ag8 (K:Yc) (mg:Str->Option Value) (H:Hp) (CL CP CM CW:Qp) (b:Nat) (R:Str->LL×LI) (zs:List Str) (o:Qp):At->Prop
 |cm (k:Fin 3) (a c:List oH):Eu H (if k=0 then CM else CW) o (FC zs a c) (gC k a c) b->ag8 K mg H CL CP CM CW b R zs o (.cm k a c)
 |sg (l:Look) (n:Int) (m r g:Qp):Ek H CL o m #[66].F #[66].more b->bD H m r g b #[66].rows #[66].signs->ag8 K mg H CL CP CM CW b R zs o (.sg l n)
 |lk (l l2:Look) (dx o1 o2 fn m r g m2 r2 g2:Qp):H o=Z (.ins CP dx [("one",.ref o1),("other",.ref o2),("rule",.ref fn)])->mg "alike" = Z (.ref fn)->Yk K (.ref fn)=true ->
   Ek H CL o1 m #[66].F #[66].more b->bD H m r g b #[66].rows #[66].signs->Ek H CL o2 m2 (eB R zs l2).F (eB R zs l2).more b->bD H m2 r2 g2 b (eB R zs l2).rows (eB R zs l2).signs->ag8 K mg H CL CP CM CW b R zs o (.lk l l2)
inductive Ob (K:Yc) (mg:Str->Option Value) (C CL CP CM CW:Qp) (vs:List V) (H:Hp) (Q:VK) (E:XK):Prop|mk (x rd:Qp) (v:V) (b:Nat) (most:Int) (t:At) (R:Str->LL×LI) (_:vs=[.ref x,v]) (_:L3 H C x b rd most) (_:eM H v t) (_:HQ t) (_:Ou H rd b t R) (_:∀(o:Qp) (zs:List Str) (H':Hp),av H H'->Cg zs (dB t)->ag8 K mg H' CL CP CM CW b R zs o t->Q (.ref o) H')
inductive ajS (C CM CW:Qp) (vs:List V) (H:Hp) (Q:VK) (E:XK):Prop|mk (x rd tn:Qp) (k:Fin 3) (va vb:V) (b:Nat) (most:Int) (ps qs:List oH) (zs:List Str) (_:vs=[.ref x,.str (kC k),va,vb,.ref tn]) (_:L3 H C x b rd most) (_:mj H va ps) (_:mj H vb qs) (_:iy ps) (_:iy qs) (_:H tn=Z #[94]) (_:zs.length<=2) (_:∀(o:Qp) (H':Hp),av H H'->Eu H' (if k=0 then CM else CW) o (FC zs ps qs) (gC k ps qs) b->Q (.ref o) H')
section
variable{CP CM CW fA:Qp}{k1 k2 k3:Tok}
def CQ:aA ["thing","least","most"] ["thing","least","most"] (aq me):=bQ #[0]
def Py:aA ["base"] ["base"] (aq Bb):=bQ #[0]
def DS:aA ["statement","rows","name"] ["statement","rows"] (aq Bc):=bQ #[0]
def Bh:aA ["statement","base","piece"] ["statement","base"] (aq sS):=bQ #[0]
def Px:aA ["added","name"] ["added","name"] (aq rX):=bQ #[0]
def AA:aY ["added","name"] (aq rX) ["part","name"] [Y,Z 1] ⟨.function,[#[41],("part",.local),("name",.free)],false,false,[]⟩:=mH #[0]
def DP:aA ["self","base","rows","most"] ["self","base","rows","most"] (aq mJ):=bQ #[0]
def wN:aA ["self","statement"] ["self","statement"] (aq fH):=bQ #[0]
def tK:aA ["self","row","added","names","factors"] ["self","row","added","names"] (aq iG):=bQ #[0]
def pZ:aY ["self","row","added","names","factors"] (aq iG) ["name","added"] [Y,Z 2] ⟨.function,[#[41],("name",.local),("factor_in",.globalImplicit),("added",.free)],false,false,[]⟩:=mH #[0]
def iM:aA ["self","kind","one","other","names","factors","goal"] ["self","kind","one","other","names"] (aq fM):=bQ #[0]
def mY:aY ["self","kind","one","other","names","factors","goal"] (aq fM) ["name","one","other"] [Y,Z 2,Z 3] ⟨.function,[#[41],("name",.local),("factor_in",.globalImplicit),("one",.free),("other",.free)],false,false,[]⟩:=mH #[0]
def fP:aA ["self","statement","kind","names","one"] ["self","statement"] (aq mK):=bQ #[0]
def adk(F:bu K "is_whole_within" "is_whole_within" me dV f fd)(a:bh P w K mg base "is_whole" 1 ["thing"] [] DX):aR P w K mg base cO 2 f fd ["thing","least","most"] S8:=by
 show F.ok CQ #[11] #[5]
 ·let⟨z,lo,W,rfl,_⟩:=h;rfl
 let⟨z,lo,W,rfl,⟨G,M⟩,q⟩:=h;exists _,(ao (aE (wF (aK a S #[26]) (wG (afG Sk Sk (pv 1) (pv 0) (pv 2))))));exists 0;show⟨_,U,z,U,_,U,Cu ⟨_,U,_,U,_,_,U,U,_,U,rM #[174] (λc=>absurd G c)⟩⟩;exists _,rfl,_,_,rfl,rfl;change Q (.bl (decide (z<=W))) H;rw[decide_eq_true M];show q
def afi(F:bu K "need_base" "need_base" Bb dV f fd)(a:mg "LEAST_BASE" = Z (.int 2 k1))(c:mg "MOST_BASE" = Z (.int 10 k2))(d:bh P w K mg base "is_whole_within" 2 ["thing","least","most"] [] S8):aR P w K mg base cO 3 f fd ["base"] abE:=by
 show F.ok Py #[11] #[5]
 ·let⟨b,rfl,_⟩:=h;rfl
 let⟨b,rfl,B,q⟩:=h;exists _,(ao (bV (oU (lX (aK d S (aa (pv 0) (aa (lU (v:=.int 2) rfl a ⟨_,rfl⟩) (aa (lU (v:=.int 10) rfl c ⟨_,rfl⟩) af)))))) (ao iz) aV));exists 0;show⟨_,U,b,_,_,U,B,_,U,q⟩
def afk(F:bu K "need_rows" "need_rows" Bc dV f fd)(b:bh P w K mg base "rows_of" 3 ["statement"] [] S7):aR P w K mg base cO 4 f fd ["statement","rows"] abG:=by
 show F.ok DS #[11] #[5]
 ·let⟨v,rd,t,kvs,rfl,_⟩:=h;rfl
 let⟨v,rd,t,kvs,rfl,M,j,N,q⟩:=h;have C:=ow S;show⟨_,(ao (cf PassesOwn.never rfl (eD (aK b S #[26])) (bj (i:=2) DS.nd) (ao (bV (Pl (EV C (pv 2) (pv 1)) #[22]) (ao iz) aV)))),?_⟩;exists 0;show⟨_,U,v,t,U,M,λT zs g s1 r m X=>⟨T,U,⟨_,bg r⟩,?_⟩⟩;show rR (K:=K) (xs:=zs.map V.str) (λi O H'=>∃(d:OV),O=[Z v,Z (.ref rd),d]/\H'=g) ⟨Y,U,U⟩ (λi O H' _ ⟨_,_,e⟩=>by rw[e];show bg r) ?_ ?_
 ·rintro i y O H' W ⟨d,rfl,rfl⟩;let⟨z,rfl,c⟩:=BN W;let⟨l,o,e⟩:=jK.mp (m z (tw c));let⟨u,a⟩:=N l o;rw[e]at a;exists _,rfl,_,rfl,rd,_,rfl,lG.k (k:=.inr z) (s1 _ _ j),_,rfl;rw[a];show ox ⟨_,U,U⟩
 ·rintro O H' ⟨d,rfl,rfl⟩;show q _ s1
def afj(F:bu K "need_narrow" "need_narrow" sS dV f fd)(g:mg "MOST_WIDE" = Z (.int 1000 k3))(D:bh P w K mg base "pieces_of" 2 ["statement"] [] Lz)(G:bh P w K mg base "free" 2 ["statement"] [] Lx)(a:bh P w K mg base "power_of" 1 ["base","times"] [] PD)(o:mg "len" = Y):aR P w K mg base cO 3 f fd ["statement","base"] abF:=by
 show F.ok Bh #[11] #[5]
 ·let⟨v,b,t,rfl,_⟩:=h;rfl
 let⟨v,b,t,rfl,M,ok,B,q⟩:=h;show⟨_,(ao (cf PassesOwn.never rfl (cU (aK D S #[26])) (bj (i:=2) Bh.nd) (ao (bV (aG N2 (aK a S (aa (pv 1) (aa (aH aM #[31] o bZ (aa (aK G S #[75]) af)) af))) (lU (v:=.int 1000) rfl g ⟨_,U⟩) (aL _)) (ao iz) aV)))),?_⟩;exists 0;show⟨_,U,v,t,U,M,λL j s1 u=>⟨L,U,⟨_,bM u⟩,?_⟩⟩;show fW (K:=K) (xs:=[v]) (λi O H'=>∃(d:OV),O=[Z v,Z (.int b),d]/\av j H') ⟨Y,U,av.refl _⟩ (λi O H' _ ⟨_,_,e⟩=>bM (e _ _ u)) ?_ ?_
 ·rintro i y O H' W ⟨d,rfl,s2⟩;cases(show v=y by
   cases i with
   |zero=>simpa using W
   | succ i=>simp at W)
  show⟨_,U,_,U,v,t,U,eM.same (rL #[129]) M,ok,λT zs J X r N=>?_⟩;have k:=EO N ok;have pw:=BH B k;show⟨T,_,U,.inr (bg r),b,zs.length,(by rw[aW];rfl),by lia,by lia,?_,_,_,U,U,_,U,rM #[39] (λ_=>⟨_,U,s2.trans X⟩)⟩
  ·show Jp (show(b:Int)^zs.length<=16 by exact_mod_cast pw.2) #[0]
  ·exfalso;lia
 ·rintro O H' ⟨d,rfl,s2⟩;show q _ #[129]
def ali(F:bu K "factor_in" "factor_in" rX dV f fd)(d:mg "sum" = Y):aR P w K mg base cO 1 f fd ["added","name"] agh:=by
 show F.ok Px #[11] #[5]
 ·let⟨v,x,ps,rfl,_⟩:=h;rfl
 let⟨v,x,ps,rfl,⟨a,b,rfl,W,J⟩,ok,q⟩:=h;have o:b.length=ps.length:=Paired.length J;have O:=ok.1;show⟨_,(ao (aE (aH ((MG rfl)) #[31] d ad3 (aa (DB rfl AA (eD (pv 0)) (λ_ _ _ _=>(bj (i:=0) AA.nd)) (λ_ _ _ _=>(aG cK #[101] (pv 1) (aL _))) (λ_ _ _ _=>#[101])) af)))),?_⟩;exists 0;exists _,rfl,a,rfl,⟨_,bg W⟩;show Bv (K:=K) (xs:=b.map V.ref) (λD j M H'=>av H H'/\M=(((#[185].filter λp=>decide (p.2=x)).map (·.1)).map V.int)) #[59] (λD j M H' _ ⟨e,_⟩=>bg (e _ _ W)) ?_ ?_
 ·rintro D j y M H' u m B k G ⟨hs,rfl⟩ N l;let⟨c,p,rfl,L,r⟩:=DA J k;have R:H' c=Z #[81]:=hs _ _ L;have g:((ps.take (j+1)).filter λp=>decide (p.2=x)).map (·.1)=(#[185].filter λp=>decide (p.2=x)).map (·.1)++(if p.2=x then [p.1]else []):=by rw[jS,r,<-Tg];rfl
  have t:((#[185].filter λp=>decide (p.2=x)).map (·.1)).length<=8:=by rw[aW];show jc (JR ..) ?_;rw[jT];lia
  show⟨_,U,c,_,_,_,U,U,bg R,U,_,U,U,_,U,rM #[173] #[173]⟩
  ·show⟨_,U,c,_,_,_,U,U,bg R,U,N _ _ G (cC #[25]) ⟨au hs B,?_⟩⟩;rw[g,if_pos (Mw.mp z),jD];rfl
  ·show l _ G ⟨hs,?_⟩;rw[g,if_neg (λy=>z (Mw.mpr y)),jh]
 ·rintro D M C B G ⟨s1,rfl⟩;rw[aW,o,jV]at G;show⟨D,_,U,bM G,q _ s1⟩
def aff(F:bu K "__init__" "Maker.__init__" mJ dV f fd)(T:TB K C)(a:bh P w K mg base "need_base" 3 ["base"] [] abE):aR P w K mg base cO 4 f fd ["self","base","rows","most"] (abz C):=by
 show F.ok DP #[11] #[5]
 ·let⟨x,O,rd,b,most,rfl,_⟩:=h;rfl
 let⟨x,O,rd,b,most,rfl,J,B,k⟩:=h;show⟨_,(ah (bC (aK a S #[33]))
   (ah (hU (pv 0) (pv 1) rfl)
   (ah (hU (pv 0) (tF (aG Z1 (pv 2) K8 (aL _)) rn (pv 2)) rfl)
   (ao (hU (pv 0) (pv 3) rfl))))),?_⟩
 exists 0;show⟨_,U,_,U,by lia,?_⟩;show⟨_,U,_,U,x,C,O,[],U,J,T.cl,T.nb,by decide,?_⟩;show⟨_,U,U,_,U,ox ⟨_,U,_,U,x,C,O,_,U,ae,T.cl,T.nr,by change 1<1000;decide,?_⟩⟩;show⟨_,U,_,U,x,C,O,_,U,ae,T.cl,T.nm,by change 2<1000;decide,?_⟩;show k _ (λc u L e=>?_) ⟨O,ae⟩;rw[aj L,aj L,aj L];show e
def Sf(F:bu K "need_makeable" "Maker.need_makeable" fH dV f fd)(T:TB K C)(a:bh P w K mg base "need_rows" 4 ["statement","rows"] [] abG)(c:bh P w K mg base "need_narrow" 3 ["statement","base"] [] abF):aR P w K mg base cO 5 f fd ["self","statement"] (Ly C):=by
 show F.ok wN #[11] #[5]
 ·let⟨x,rd,v,b,most,t,R,rfl,_⟩:=h;rfl
 let⟨x,rd,v,b,most,t,R,rfl,⟨O,J⟩,M,ok,i,B,q⟩:=h;let⟨kvs,j,N⟩:=i.ex;show⟨_,(ah (bC (aK a S (aa (pv 1) #[148])))
   (ao (bC (aK c S (aa (pv 1) #[148]))))),?_⟩
 exists 0;show⟨_,U,_,U,x,C,O,_,_,U,J,T.cl,T.nr,U,v,rd,t,kvs,U,M,j,λl d=>?_,λk s1=>?_⟩
 ·let⟨⟨m,r,g,e,_⟩,_⟩:=N l d;show⟨_,e⟩
 show⟨_,U,_,U,x,C,O,_,_,U,s1 _ _ J,T.cl,T.nb,U,v,b,t,U,eM.same (rL s1) M,ok,B,λo s2=>q _ #[129]⟩
def Y6(F:bu K "looking" "Maker.looking" iG dV f fd)(T:TB K C)(R:Fw P w K mg base "Looking" CL 1 ["self","machine","factors","more","base"] (aby CL))(l:bh P w K mg base "factor_in" 1 ["added","name"] [] agh):aR P w K mg base cO 3 f fd ["self","row","added","names"] (Fm C CL):=by
 show F.ok tK (λt H Q E h=>?_) (λcq A c s H t Q E a h=>?_)
 ·let⟨x,rd,m,tn,I,j,b,most,kvs,ps,zs,rfl,_⟩:=h;rfl
 let⟨x,rd,m,tn,I,j,b,most,kvs,ps,zs,rfl,⟨O,J⟩,v,W,n,ok,L,lz,q⟩:=h;have hu:=ow a;show⟨_,(ah (eR (i:=4) rfl tK.nd rfl #[140] pZ (eD (pv 3)) (λ_ _ _ _=>(bj (i:=0) pZ.nd)) (λ_ _ _ _=>(aK l a (aa (pv 1) #[26]))))
   (ao (aE (EW R a (aa (iE hu #[17] (pv 1) #[2]) (aa (pv 4) (aa (aK l a (aa (pv 2) (aa ba af))) #[148]))))))),?_⟩
 exists 0;exists _,rfl,tn,rfl,⟨_,bg L⟩;show rh (K:=K) (xs:=zs.map V.str) (λD i M H'=>av H H'/\M=((zs.take i).map (lF ps)).map V.int) #[59] (λD i M H' _ ⟨e,_⟩=>bg (e _ _ L)) ?_ ?_
 ·rintro D i y M H2 Q' B hi G ⟨s2,rfl⟩ k';let⟨z,rfl,p⟩:=BN hi;have il:=(lH p).1;show⟨_,U,_,U,j,z,ps,U,n.same (rL s2),ok,λg X=>k' _ _ (X _ _ G) (cC #[79]) ⟨au (s2.trans X) B,?_⟩⟩;rw[jS,p,jD,jD];rfl
 rintro D M H2 B G ⟨s2,rfl⟩;rw[aW,jV]at G;exists 1;show⟨_,U,x,C,O,_,_,U,s2 _ _ J,T.cl,T.nr,U,_,U,rd,.ref m,U,?_,_,U,_,U,j,_,ps,U,n.same (rL s2),ok,λg X=>?_⟩
 ·rw[<-W];show lG.k (k:=.inr I) (s2 _ _ v)
 have S:=s2.trans X;exists _,rfl,x,C,O,_,_,rfl,S _ _ J,T.cl,T.nb,rfl;show λo d r PV ne=>?_;have N:av g (upd (upd g d (.own o)) o (.ins CL d [])):=λb u e=>by rw[aj (ar e r),aj (ar e PV)];show e
 show⟨o,d,m,D,_,_,_,U,ae,N _ _ (X _ _ G),λH5 kp LA=>⟨U,q o H5 (λb u e=>kp b u (ar (S _ _ e) r) (N _ _ (S _ _ e))) LA⟩⟩
def alh(F:bu K "comparing" "Maker.comparing" fM dV f fd)(T:TB K C)(Cc:Fw P w K mg base "Meeting" CM 1 ["self","factors","goal","base"] (PF CM))(Ec:Fw P w K mg base "Within" CW 1 ["self","factors","goal","base"] (PF CW))(t:bh P w K mg base "factor_in" 1 ["added","name"] [] agh):aR P w K mg base cO 3 f fd ["self","kind","one","other","names"] (ajS C CM CW):=by
 show F.ok iM #[18] (λcq A J s H vs Q E l h=>?_)
 ·let⟨x,rd,tn,k,va,vb,b,most,ps,qs,zs,rfl,_⟩:=h;rfl
 let⟨x,rd,tn,k,va,vb,b,most,ps,qs,zs,rfl,⟨dx,hx⟩,hS,hT,ok,n,hn,lz,q⟩:=h;show⟨_,(ah (eR (i:=5) rfl iM.nd rfl #[140] mY (eD (pv 4)) (λ_ _ _ _=>(bj (i:=0) mY.nd)) (λ_ _ _ _=>(aC AU (aK t l (aa (pv 1) #[26])) (aK t l (aa (pv 2) #[26])))))
   (ah (aB (i:=6) iM.nd (aC AU (aK t l (aa (pv 3) (aa ba af))) (aK t l (aa (pv 2) (aa ba af)))))
   (ah (bV #[92] (ao (aE (EW Cc l (aa (pv 5) (aa (pv 6) #[148]))))) aV)
   (ao (aE (EW Ec l (aa (pv 5) (aa (tF #[92] (aC AU (pv 6) ag) (pv 6)) #[148])))))))),?_⟩
 exists 0;exists _,rfl,tn,rfl,⟨_,bg hn⟩;show rh (K:=K) (xs:=zs.map V.str) (λD i M H'=>av H H'/\M=((zs.take i).map λz=>lF ps z-lF qs z).map V.int) #[59] (λD i M H' _ ⟨e,_⟩=>bg (e _ _ hn)) ?_ ?_
 ·rintro D i y M H2 Q' B hi G ⟨s2,rfl⟩ k';let⟨z,rfl,p⟩:=BN hi;have il:=(lH p).1;show⟨_,U,_,U,va,z,ps,U,hS.same (rL s2),ok,λH3 X=>?_⟩;have L:=s2.trans X;show⟨_,U,_,U,vb,z,qs,U,hT.same (rL L),n,λR N=>⟨_,_,U,U,k' _ _ (N _ _ (X _ _ G)) (cC #[79]) ⟨au (L.trans N) B,?_⟩⟩⟩;rw[jS,p,jD,jD];rfl
 rintro D M H2 B G ⟨s2,rfl⟩;rw[aW,jV]at G;exists 1;show⟨_,U,vb,_,qs,U,hT.same (rL s2),n,λH3 X=>?_⟩;have L:=s2.trans X;show⟨_,U,va,_,ps,U,hS.same (rL L),ok,λR N=>⟨_,_,U,U,?_⟩⟩;have S:=L.trans N;have j:=N _ _ (X _ _ G);exists 1;have W:∀{I:Qp} (o d:Qp) (g:Int) (r:Hp),R o=Y->R d=Y->(if k=0 then CM else CW)=I->g=gC k ps qs->(∀c u,c≠o->(upd (upd R d (.own o)) o (.ins I d [])) c=Z u->r c=Z u)->Eu r I o (FC zs ps qs) g b->Q (.ref o) r:=λ{I} o d g r O m eC eg a v=>by subst eC eg;show q o r (λb u e=>a b u (ar (S _ _ e) O) (by rw[aj (ar (S _ _ e) O),aj (ar (S _ _ e) m)];show S _ _ e)) v
 have s5:∀{I o d:Qp},R o=Y->R d=Y->av R (upd (upd R d (.own o)) o (.ins I d [])):=λO m b u e=>by rw[aj (ar e O),aj (ar e m)];show e
 have k3:k=0\/k=1\/k=2:=by lia
 rcases k3 with rfl|rfl|rfl
 ·show⟨_,U,U,_,U,RM #[0] ?_⟩;show⟨_,U,_,U,_,U,x,C,dx,_,_,U,S _ _ hx,T.cl,T.nb,U,λo d O m ne=>?_⟩;show⟨o,d,D,_,_,_,U,ae,s5 O m _ _ j,λr a v=>⟨U,W o d _ r O m rfl rfl a v⟩⟩
 ·show⟨_,U,U,_,U,BC #[0] ?_⟩;show⟨_,U,_,U,U,_,U,BC #[0] ?_⟩;show⟨_,U,_,U,x,C,dx,_,_,U,S _ _ hx,T.cl,T.nb,U,λo d O m ne=>?_⟩;show⟨o,d,D,_,_,_,U,ae,s5 O m _ _ j,λr a v=>⟨U,W o d _ r O m rfl rfl a v⟩⟩
 ·show⟨_,U,U,_,U,BC #[0] ?_⟩;show⟨_,U,_,U,U,_,U,RM #[0] ?_⟩;show⟨_,U,_,_,U,U,_,U,x,C,dx,_,_,U,S _ _ hx,T.cl,T.nb,U,λo d O m ne=>?_⟩;show⟨o,d,D,_,_,_,U,ae,s5 O m _ _ j,λr a v=>⟨U,W o d _ r O m rfl rfl a v⟩⟩
def Z0(F:bu K "walk_for" "Maker.walk_for" mK dV f fd)(mc:TB K C)(iY:mg "COMPARING" = Z (.ref TC))(z:∀H,iu K H TC O9)(Hr:mg "alike" = Z (.ref fA))(kA:Yk K (.ref fA)=true)(Cd:Fw P w K mg base "Pairing" CP 1 ["self","one","other","rule"] (abI CP))(tY:bP P w K mg base C "looking" 3 ["self","row","added","names"] (Fm C CL))(tX:bP P w K mg base C "comparing" 3 ["self","kind","one","other","names"] (ajS C CM CW))(oJ:bh P w K mg base "free" 2 ["statement"] [] Lx):aR P w K mg base cO 4 f fd ["self","statement"] (Ob K mg C CL CP CM CW):=by
 show F.ok fP #[18] (λcq A y4 s H vs Q E S h=>?_)
 ·let⟨x,rd,v,b,most,t,R,rfl,_⟩:=h;rfl
 let⟨x,rd,v,b,most,t,R,rfl,MA,fR,ok,EN,q⟩:=h;show⟨_,(ah (aB (i:=2) fP.nd #[30])
   (ah (aB (i:=3) fP.nd (aK oJ S #[33]))
   (ah (bV (aG ic (pv 2) (lU (v:=.ref _) rfl iY rfl) #[22]) (ao (aE (mq tX S (pv 0) (aa (pv 2) (aa #[30] (aa #[30] #[49])))))) aV)
   (ah (aB (i:=4) fP.nd (mq tY S (pv 0) (aa #[30] (aa #[30] #[49]))))
   (ah (bV (aG cK (pv 2) ba (aL _)) (ao (aE (pv 4))) aV)
   (ao (aE (EW Cd S (aa (pv 4) (aa (mq tY S (pv 0) (aa #[30] (aa #[30] #[49]))) (aa (lU (v:=.ref _) rfl Hr rfl) af))))))))))),?_⟩
 exists 0;let⟨dx,hx⟩:=MA.ob;have MX:∀{H':Hp},av H H'->L3 H' C x b rd most:=λs=>MA.same s;let⟨kvs,hd,hv⟩:=EN.ex;have B:∀{H':Hp} {tn:Qp} {zs:List Str} {l:Look} {j:V} {Q':VK} {E':XK},av H H'->H' tn=Z #[94]->zs.length<=2->l∈iq t->mj H' j l.2->iy l.2 ->
   (∀(o m r g:Qp) (J:Hp),av H' J->Ek J CL o m #[66].F #[66].more b->bD J m r g b #[66].rows #[66].signs->Q' (.ref o) J)->Fm C CL [.ref x,.str l.1,j,.ref tn] H' Q' E':=λ{H' tn zs l j Q' E'} s L T hl hS d5 k=>by
  let⟨⟨m,r,g,e1,M⟩,_⟩:=hv l hl;show⟨x,rd,m,tn,l.1,j,b,most,kvs,l.2,zs,U,MX s,s _ _ hd,e1,hS,d5,L,T,λo J s2 I=>k o m r g J s2 I (M.same λa xs e=>s2 _ _ (s _ _ e))⟩
 cases t with
 |cm k pa pc=>
  let⟨y,j,vb,rfl,G,W,O⟩:=fR;exists _,rfl,y,_,_,_,rfl,rfl,bg G,rfl;show⟨_,U,.ref y,.cm k pa pc,U,⟨y,j,vb,U,G,W,O⟩,ok,λtn zs H1 s1 L N=>?_⟩;show⟨_,U,TC,_,U,.inr (z _),U,U,_,U,RM (Ad k).c ?_⟩;exists _,rfl,x,dx,_,rfl,s1 _ _ hx,rfl,_,rfl,_,rfl,y,_,_,_,rfl,rfl,bg (s1 _ _ G),rfl,_,rfl,y,_,_,_,rfl,rfl,bg (s1 _ _ G),rfl,_,rfl;show⟨x,rd,tn,k,j,vb,b,most,pa,pc,zs,U,MX s1,W.same (rL s1),O.same (rL s1),ok.ok _ jA,ok.ok _ #[186],L,EO N ok,λo J s2 WA=>q o zs J #[129] N (.cm k pa pc WA)⟩
 |sg l n=>
  let⟨y,j,rfl,G,W⟩:=fR;exists _,rfl,y,_,_,_,rfl,rfl,bg G,rfl;show⟨_,U,.ref y,.sg l n,U,⟨y,j,U,G,W⟩,ok,λtn zs H1 s1 L N=>?_⟩;have T:=EO N ok;show⟨_,U,TC,_,U,.inr (z _),U,U,_,U,BC B6.c ?_⟩;exists _,rfl,x,dx,_,rfl,s1 _ _ hx,rfl,_,rfl,y,_,_,_,rfl,rfl,bg (s1 _ _ G),rfl,_,rfl,y,_,_,_,rfl,rfl,bg (s1 _ _ G),rfl,_,rfl;show B s1 L T jA (W.same (rL s1)) (ok.ok _ jA) λo m r g J s2 I M=>?_;show⟨_,U,U,_,U,RM B6.s ⟨_,U,q o zs J #[129] N (.sg l n m r g I M)⟩⟩
 |lk l l2=>
  let⟨y,j,vb,rfl,G,W,O⟩:=fR;exists _,rfl,y,_,_,_,rfl,rfl,bg G,rfl;show⟨_,U,.ref y,.lk l l2,U,⟨y,j,vb,U,G,W,O⟩,ok,λtn zs H1 s1 L N=>?_⟩;have T:=EO N ok;show⟨_,U,TC,_,U,.inr (z _),U,U,_,U,BC fI.c ?_⟩;exists _,rfl,x,dx,_,rfl,s1 _ _ hx,rfl,_,rfl,y,_,_,_,rfl,rfl,bg (s1 _ _ G),rfl,_,rfl,y,_,_,_,rfl,rfl,bg (s1 _ _ G),rfl,_,rfl;show B s1 L T jA (W.same (rL s1)) (ok.ok _ jA) λo m r g J s2 I M=>?_;have D:=s1.trans s2;show⟨_,U,U,_,U,BC fI.s ?_⟩;exists _,rfl,_,rfl,x,dx,_,rfl,D _ _ hx,rfl,_,rfl,y,_,_,_,rfl,rfl,bg (D _ _ G),rfl,_,rfl,y,_,_,_,rfl,rfl,bg (D _ _ G),rfl,_,rfl;show B D (s2 _ _ L) T #[186] (O.same (rL D)) (ok.ok _ #[186]) λo2 m2 r2 g2 H3 s3 LB M2=>?_;show λp d hp i5 ne=>?_;have s4:av H3 (upd (upd H3 d (.own p)) p (.ins CP d [])):=λb u e=>by rw[aj (ar e hp),aj (ar e i5)];show e
  show⟨p,d,o,o2,fA,U,ae,λH5 kp j5=>⟨U,?_⟩⟩;have s5:av H3 H5:=λb u e=>kp b u (ar e hp) (s4 _ _ e);have X:=s3.trans s5;show q p zs H5 (D.trans X) N (.lk l l2 d o o2 fA m r g m2 r2 g2 j5 Hr kA (I.same X) (M.same λa xs e=>X _ _ e) (LB.same s5) (M2.same λa xs e=>s5 _ _ e))
end
abbrev ai6(Pt:Qp)(H H':Hp):Prop:=∀b u,b≠Pt->H b=Z u->H' b=Z u
def lQ.same(t:lQ H Pt qual pos)(s:av H H'):lQ H' Pt qual pos:=t.elim (λe=>.inl (s _ _ e)) λ⟨P,T,g⟩=>.inr ⟨P,s _ _ T,s _ _ g⟩
theorem lQ.Fo(t:lQ H Pt qual pos):∃ps,H Pt=Z (.Fo ps):=t.elim (λe=>⟨_,e⟩) λ⟨P,T,_⟩=>⟨_,T⟩
def SQ(K:Yc)(mg:Str->Option Value)(CL CP CM CW:Qp):Sp:=λvs H Q E=>(Bj kdO CM (wR CM) (HJ CM) HH vs H Q E\/Bj kdO CW (wR CW) (HK CW) HI vs H Q E)\/Bj (kdH kkI) CL (mf CL) (pP CL) (pO CL) vs H Q E\/Bj (kdH kkL) CP (DW CP CL) (HG CP CL) (HF K mg CP CL) vs H Q E
structure InA(H:Hp)(rd:Qp)(v:V)(b:Nat)(t:At)(R:Str->LL×LI)(Pt:Qp):Prop where
 st:eM H v t
 ok:HQ t
 en:Ou H rd b t R
 hb:2<=b/\b<=4
 tb:lQ H Pt rZ PK
theorem InA.same{v:V}{t:At}{R:Str->LL×LI}(h:InA H rd v b t R Pt)(s:av H H'):InA H' rd v b t R Pt:=
 ⟨eM.same (rL s) h.st,h.ok,h.en.same s,h.hb,lQ.same h.tb s⟩
inductive abA (C Pt:Qp) (vs:List V) (H:Hp) (Q:VK) (E:XK):Prop|mk (x rd:Qp) (v:V) (b:Nat) (t:At) (R:Str->LL×LI) (_:vs=[.ref x,v]) (_:L3 H C x b rd 100000) (_:InA H rd v b t R Pt) (_:∀(m' r' g':Qp) (az:LL) (aI:LI) (zs:List Str) (H':Hp),ai6 Pt H H'->lQ H' Pt rZ PK->bD H' m' r' g' #[120] az aI->Cg zs (dB t)->Mt b R zs t az aI->Q (.ref m') H')
inductive SV (Pt:Qp) (vs:List V) (H:Hp) (Q:VK) (E:XK):Prop|mk (rd:Qp) (v:V) (b:Nat) (t:At) (R:Str->LL×LI) (_:vs=[v,.int b,.ref rd,.int 100000]) (_:InA H rd v b t R Pt) (_:∀(T tn m' r' g':Qp) (az:LL) (aI:LI) (zs:List Str) (H':Hp),ai6 Pt H H'->lQ H' Pt rZ PK->H' T=Z (.tup [.ref tn,.ref m'])->H' tn=Z #[94]->bD H' m' r' g' #[120] az aI->Cg zs (dB t)->Mt b R zs t az aI->Q #[158] H')
section
variable{c:Qp}{CP CM CW:Qp}
def hV:aA ["self","statement","kind","machine"] ["self","statement"] (aq dQ):=bQ #[0]
def B8:aA ["statement","base","rows","most","maker"] ["statement","base","rows","most"] (aq wK):=bQ #[0]
def ac6(F:bu K "grown" "grown" DM dV f fd)(e:bP P w K mg base CM "begin" 1 ["self"] (wR CM))(g:bP P w K mg base CM "step" 3 ["self","place","figure"] (HJ CM))(i:bP P w K mg base CM "sign" 1 ["self","place"] HH)(j:bP P w K mg base CW "begin" 1 ["self"] (wR CW))(k:bP P w K mg base CW "step" 3 ["self","place","figure"] (HK CW))(l:bP P w K mg base CW "sign" 1 ["self","place"] HI)(b:bP P w K mg base CL "begin" 1 ["self"] (mf CL))(d:bP P w K mg base CL "step" 2 ["self","place","figure"] (pP CL))(t:bP P w K mg base CL "sign" 5 ["self","place"] (pO CL))(p:bP P w K mg base CP "begin" 2 ["self"] (DW CP CL))(q:bP P w K mg base CP "step" 3 ["self","place","figure"] (HG CP CL))(r:bP P w K mg base CP "sign" 6 ["self","place"] (HF K mg CP CL))(y:mg "range" = Y)(o:mg "len" = Y)(C:mg "tuple" = Y):aR P w K mg base cO 7 f fd ["walk","wide","most"] (SQ K mg CL CP CM CW):=by
 have A:=BG (kd:=kdO) F (bP.up e) (bP.up g) (bP.up i) y o C;have B:=BG (kd:=kdO) F (bP.up j) (bP.up k) (bP.up l) y o C;have D:=BG (kd:=kdH kkI) F (bP.up b) (bP.up d) (bP.up t) y o C;have E:=BG (kd:=kdH kkL) F (bP.up p) (bP.up q) r y o C;have or:∀{s1 s2:Sp},aR P w K mg base cO 7 f fd ["walk","wide","most"] s1->aR P w K mg base cO 7 f fd ["walk","wide","most"] s2->aR P w K mg base cO 7 f fd ["walk","wide","most"] (λn H Q E=>s1 n H Q E\/s2 n H Q E):=λ{s1 s2} A B=>
  ⟨λn H Q E h=>h.elim (A.len n H Q E) (B.len n H Q E),λX I s H c m n Q E S R a N hs=>hs.elim (A.run X I s H c m n Q E S R a N) (B.run X I s H c m n Q E S R a N)⟩
 show or (or A B) (or D E)
def afd(F:bu K "machine_for" "Maker.machine_for" dQ dV f fd)(hc:fd.code=.ref c)(kL:aka K mg base c Pt)(mc:TB K C)(pR:mg "JOINING" = Z (.ref TJ))(eN:mg "CHOOSING" = Z (.ref TH))(w5:∀H,iu K H TJ Pa)(z5:∀H,iu K H TH J1)(Oz:bh P w K mg base "grown" 7 ["walk","wide","most"] [] (SQ K mg CL CP CM CW))(Ap:bP P w K mg base C "walk_for" 4 ["self","statement"] (Ob K mg C CL CP CM CW))(my:bh P w K mg base "power_of" 1 ["base","times"] [] PD)(oJ:bh P w K mg base "free" 2 ["statement"] [] Lx)(Ef:bh P w K mg base "changed" 6 ["machine","rule"] [] N8)(mQ:bh P w K mg base "least" 5 ["machine"] [] (DV K))(br:mg "len" = Y):aR P w K mg base cO 8 f fd ["self","statement"] (abA C Pt):=by
 show F.okL hc hV #[18] (λA c6 s H vs Q E hr h=>?_)
 ·let⟨x,rd,v,b,t,R,rfl,_⟩:=h;rfl
 let⟨x,rd,v,b,t,R,rfl,MA,W,y4⟩:=h;let⟨dx,hx⟩:=MA.ob;have hb:=W.hb;let⟨_,_,_,kf⟩:=kf_at t;let⟨y,rest,rfl,hy⟩:=Hu W.st;show⟨_,(ah (aB (i:=2) hV.nd #[30])
   (ah (bV (aG cK (pv 2) ba (aL _)) (ao iz) aV)
   (ah (bV (aG ic (pv 2) (lU (v:=.ref _) rfl pR rfl) #[22]) (ao iz) aV)
   (ah (bV (aG ic (pv 2) (lU (v:=.ref _) rfl eN rfl) #[22]) (ao iz) aV)
   (ah (aB (i:=3) hV.nd (aK Oz hr (aa (mq Ap hr (pv 0) #[33]) (aa (aK my hr (aa #[17] (aa (aH aM #[31] br bZ (aa (aK oJ hr #[33]) af)) af))) #[148]))))
   (ah (bV (aG cK (pv 2) ba (aL _)) (ao (aE (alw (i:=1) (y:="statement") Ef hr (aa (pv 3) (aa (alx kL rfl rfl) af)) rfl rfl rfl))) aV)
   (ao (aE (aK mQ hr #[49]))))))))),?_⟩
 exists 0;exists _,rfl,y,_,_,_,rfl,rfl,bg hy,at0;show⟨_,U,U,_,U,BC kf.n ?_⟩;show⟨_,U,TJ,_,U,.inr (w5 _),U,U,_,U,BC kf.j ?_⟩;show⟨_,U,TH,_,U,.inr (z5 _),U,U,_,U,BC kf.h ?_⟩;show⟨_,U,x,dx,_,U,hx,U,_,U,x,rd,.ref y,b,100000,t,R,U,MA,W.st,W.ok,W.en,λo zs H1 s1 N WA=>?_⟩;show⟨_,U,x,C,dx,_,_,U,s1 _ _ hx,mc.cl,mc.nb,U,_,U,.ref y,t,U,eM.same (rL s1) W.st,W.ok,λtn I H2 s2 hn d6=>?_⟩;obtain rfl:=d6.uniq N;have lz:=EO N W.ok;have pw:=BH hb lz;have DK:=s1.trans s2;show⟨tn,_,U,.inr (bg hn),b,I.length,(by rw[aW];rfl),by lia,by lia,Jp (show(b:Int)^I.length<=16 by exact_mod_cast pw.2) #[0],?_⟩;exists _,rfl,x,C,dx,_,_,rfl,DK _ _ hx,mc.cl,mc.nm,rfl;have LK:=lks_ok (zs:=I) W.en W.ok hb lz;have J:∀{α:Type} [DecidableEq α] {st:α->Nat->α} {b0:α} {sg:α->Int} {t':At} {p r3 g3:Qp} {O:LL} {ps:List α} {q:Hp},t=t'->av H2 q->bD q p r3 g3 (b^I.length) O (ps.map sg)->LP st b0 (b^I.length) ps O->O.length=ps.length->ps.length<100000->(∀v,Ej (b^I.length) v->sg (AW st b0 v)=sgA b R I t' v)->∀E',DV K [.ref p] q Q E':=λ{α _ st b0 sg t' p r3 g3 O ps q} et X T G D le h E'=>by subst et;have p1:=(lH G.hd).1;have S3:=DK.trans X;show⟨p,r3,g3,ps.length,_,O,_,U,T,by rw[<-D];show G.ok D,jW _,⟨by lia,le⟩,by lia,λm' r' g' az aI H6 s6 M6 LO=>?_⟩;have S6:=S3.trans s6;show y4 m' r' g' az aI I H6 (λb v _ e=>S6 _ _ e) (lQ.same W.tb S6) M6 N (ahX G D le LO h)
 cases WA with
 |cm k pa pc WK=>
  have fi:=am4 W.ok rfl N;have fl:(FC I pa pc).length<=2:=by unfold FC;rw[aW];show lz
  have hg:=anN W.ok;have V:=WK.same s2;by_cases k0:k=0
  ·rw[if_pos k0]at V;show .inl (.inl ⟨o,b^I.length,_,_,_,Z (gC k pa pc),Tt,U,V,akk hb,by lia,ad5 hb fl fi hg,λp r3 g3 O ps q X T G D le=>?_⟩);exists 1;show⟨_,U,U,_,U,BC (Ad k).s ⟨_,U,J rfl X T G D le (λv hv=>(if_pos k0).symm) _⟩⟩
  ·rw[if_neg k0]at V;show .inl (.inr ⟨o,b^I.length,_,_,_,Z (gC k pa pc),sgW,U,V,akl hb,by lia,ad5 hb fl fi hg,λp r3 g3 O ps q X T G D le=>?_⟩);exists 1;show⟨_,U,U,_,U,BC (Ad k).s ⟨_,U,J rfl X T G D le (λv hv=>(if_neg k0).symm) _⟩⟩
 |sg l n m r g LA M=>
  have L:=LK.ok l jA;show .inr (.inl ⟨o,b^I.length,_,_,_,Tr (eB R I l),Ts b (eB R I l),U,⟨LA.same s2,M.same λa xs e=>s2 _ _ e⟩,X5 L,by lia,ala L,λp r3 g3 O ps q X T G D le=>?_⟩);have p1:=(lH G.hd).1;have S3:=DK.trans X;let⟨y2,va,ey,h6,ha⟩:=W.st;cases ey;exists 1;show⟨_,U,U,_,U,RM B6.s ?_⟩;show⟨_,U,lQ.same W.tb S3,λfn c' H4 o6 i6 j5 EF keep=>?_⟩;let⟨u6,k6⟩:=lQ.Fo (lQ.same W.tb S3);show⟨_,U,λob u B PV l6=>?_⟩;have S:=ak B (HO.ext (dk #[16] ob));let⟨H5,d5⟩:=gn (upd H4 #[16] (HO.ext (dk #[16] ob)));rw[d5]at S;have i5:H5 #[16]=Z (HO.ext (dk #[16] ob)):=by rw[<-d5];show ae
  rw[d5];have o5:∀b xs,q b=Z #[42]->H5 b=Z #[42]:=λb xs e=>S _ _ (keep b _ (aO e k6 #[3]) e);have LH:Aw H5 fn c' rZ mh.1 mh.2.1 mh.2.2 [("statement",s.heap.objs.size+1)] [.ref y]:=⟨S _ _ i6,S _ _ EF,.cons ⟨ob,u,i5,PV,l6⟩ .nil,by simp⟩;have nb:∀b,b≠s.heap.objs.size+1->b∉[s.heap.objs.size+1]:=λb n z=>n (by simpa using z);show⟨p,r3,g3,fn,ps.length,_,O,_,n,U,T.same o5,by rw[<-D];show G.ok D,jW _,⟨by lia,le⟩,by lia,⟨c',y,_,_,_,_,U,LH,o5 _ _ (S3 _ _ h6)⟩,λm' r' g' az aI H6 s6 M6 CH=>⟨s6 _ _ i5,?_⟩⟩;show y4 m' r' g' az aI I _ (λb v nP e=>?_) (.inr ⟨c',?_,?_⟩) (M6.same λa xs e=>?_) N (aeY G D le CH λv hv=>rfl)
  ·have e3:=keep b v nP (S3 _ _ e);rw[ck (nb b (ar e3 B))];show s6 _ _ (S _ _ e3)
  ·rw[ck (nb _ (ar j5 B))];show s6 _ _ (S _ _ j5)
  ·rw[ck (nb _ (ar EF B))];show s6 _ _ (S _ _ EF)
  ·rw[ck (nb _ (aO e (s6 _ _ i5) #[3]))];show e
 |lk l l2 d o1 o2 fn m r g m2 r2 g2 ho hm hk LA M LB M2=>
  have L1:=LK.ok l jA;have L2:=LK.ok l2 #[186];show .inr (.inr ⟨o,b^I.length,_,_,_,[Tr (eB R I l),Tr (eB R I l2)],aph (Ts b (eB R I l)) (Ts b (eB R I l2)),U,⟨s2 _ _ ho,⟨LA.same s2,M.same λa xs e=>s2 _ _ e⟩,⟨LB.same s2,M2.same λa xs e=>s2 _ _ e⟩⟩,alD hm hk (X5 L1) (X5 L2),by lia,alA L1 L2,λp r3 g3 O ps q X T G D le=>?_⟩);exists 1;show⟨_,U,U,_,U,BC fI.s ⟨_,U,J rfl X T G D le (λv hv=>by rw[Pk];rfl) _⟩⟩
def ada(F:bu K "machine_of" "machine_of" wK dV f fd)(r:Fw P w K mg base "Maker" C 4 ["self","base","rows","most"] (abz C))(B:bP P w K mg base C "need_makeable" 5 ["self","statement"] (Ly C))(G:bP P w K mg base C "machine_for" 8 ["self","statement"] (abA C Pt))(oJ:bh P w K mg base "free" 2 ["statement"] [] Lx):aR P w K mg base cO 9 f fd ["statement","base","rows","most"] (SV Pt):=by
 show F.ok B8 #[18] (λcq A I s H vs Q E S h=>?_)
 ·let⟨rd,v,b,t,R,rfl,_⟩:=h;rfl
 let⟨rd,v,b,t,R,rfl,W,p⟩:=h;have hb:=W.hb;show⟨_,(ah (aB (i:=4) B8.nd (EW r S (aa (pv 1) (aa (pv 2) #[49]))))
   (ah (bC (mq B S (pv 4) #[26]))
   (ao (aE (cA (aa (aK oJ S #[26]) (aa (mq G S (pv 4) #[26]) af))))))),?_⟩
 exists 0;show⟨_,U,_,U,_,U,λx O J M ne=>?_⟩;have s0:av H (upd (upd H O (.own x)) x (.ins C O [])):=λb u e=>by rw[aj (ar e J),aj (ar e M)];show e
 show⟨x,O,rd,b,100000,U,ae,⟨hb.1,by lia⟩,λH1 kp m=>⟨U,?_⟩⟩;have s1:av H H1:=λb u e=>kp b u (ar e J) (s0 _ _ e);have D:=W.same s1;let⟨d1,y⟩:=m.ob;show⟨_,U,x,d1,_,U,y,U,_,U,x,rd,v,b,100000,t,R,U,m,D.st,D.ok,D.en,D.hb,λH2 s2=>?_⟩;have c:=s1.trans s2;show⟨_,U,v,t,U,eM.same (rL c) W.st,W.ok,λtn zs H3 X L N=>?_⟩;have g:=c.trans X;show⟨_,U,x,d1,_,U,X _ _ (s2 _ _ y),U,_,U,x,rd,v,b,t,R,U,m.same (s2.trans X),W.same g,λo r' g' az aI LZ H4 d k M4 q n=>?_⟩;obtain rfl:=N.uniq q;let⟨y4,j⟩:=lQ.Fo (lQ.same W.tb g);show⟨#[14],λT hT=>?_⟩;have l:=ak hT (HO.tup [V.ref tn,V.ref o]);show p T tn o r' g' az aI zs _ (λb u nb e=>l _ _ (d b u nb (g _ _ e))) (lQ.same k l) ae (l _ _ (d _ _ (aO L j #[3]) L)) (M4.same λa xs e=>l _ _ e) q n
end
inductive agm (K:Yc) (vs:List V) (H:Hp) (Q:VK) (E:XK):Prop|mk (r:Qp) (q:Int) (many wide:Nat) (fz:List Qp) (rows:LL) (_:vs=[.ref r,.int q]) (_:H r=Z (.lst #[63])) (_:bF H fz rows) (_:aQ many wide rows) (_:1<=wide) (_:many<=1000) (_:(0<=q/\q<(many:Int))) (_:Q (.int (B7 rows many q)) H)
section
def eX:aA ["_law_rows","_law_here","_law_k","_law_lowest"] ["_law_rows","_law_here"] (aq Ba):=bQ #[0]
def aib(F:bu K "_law_rest" "_law_rest" Ba dV f fd)(o:mg "len" = Y)(b:mg "range" = Y)(m:mg "min" = Y):aR P w K mg base cO 1 f fd ["_law_rows","_law_here"] (agm K):=by
 show F.ok eX #[11] #[5]
 ·let⟨r,q,many,wide,fz,rows,rfl,_⟩:=h;rfl
 let⟨r,q,many,wide,fz,rows,rfl,p,c,R,u,C,⟨G,d⟩,k⟩:=h;have e:#[63].length=many:=by rw[aW,c.length,R.len]
 show⟨_,(ah (cf PassesOwn.never rfl (de rfl b (aa #[126] af)) (bj (i:=2) eX.nd) (ao (aB (i:=1) eX.nd (ax ay (ax bR (pv 0) (pv 1) #[2]) ag #[2]))))
   (ah (aB (i:=3) eX.nd (pv 1))
   (ah (cf PassesOwn.never rfl (de rfl b (aa #[126] af)) (bj (i:=2) eX.nd) (ah (aB (i:=1) eX.nd (ax ay (ax bR (pv 0) (pv 1) #[2]) ag #[2]))
   (ao (aB (i:=3) eX.nd (aH (ach rfl) #[31] m aki (aa (pv 3) #[33]))))))
   (ao (aE (pv 3)))))),?_⟩
 exists 0;have X:∀(x:Int),0<=x->x<(many:Int)->∃(ra:Qp) (y:LI),wV #[63] x=Z (.ref ra)/\H ra=Z (.tup (y.map V.int))/\wV (y.map V.int) 0=Z (.int (stepI rows x 0)):=λx z B=>AZ c R z B #[9] #[1];exists 29;show Bw (t:=pQ _ _ _) (λO H'=>∃v,O=[Z (.ref r),Z (.int (FJ rows q many)),v,Y]/\H'=H) ?_ (λj=>?_);exists 27
 ·exists _,rfl,r,_,rfl,.inl (bM p);rw[e];show⟨(many:Int),U,by lia,by lia,hZ (λi O H'=>∃v,O=[Z (.ref r),Z (.int (FJ rows q i)),v,Y]/\H'=H) ⟨Y,U,U⟩ ?_ ?_⟩
  ·rintro i O H' W ⟨v,rfl,rfl⟩;have J:=IX R u G d i;let⟨ra,y,T,g,l⟩:=X _ J.1 J.2;show⟨_,U,_,U,r,_,_,_,U,U,bM p,T,ra,_,_,_,U,U,bg g,l,_,U,U⟩
  ·rintro O H' ⟨v,rfl,rfl⟩;rw[jG];show j _ _ ⟨v,U,U⟩
 rintro O H' ⟨v,rfl,rfl⟩;exists _,rfl;exists 29;show Bw (t:=pQ _ _ _) (λO a=>∃v x,O=[Z (.ref r),x,v,Z (.int (B7 rows many q))]/\a=H') ?_ (λj=>?_);exists 27
 ·exists _,rfl,r,_,rfl,.inl (bM p);rw[e];show⟨(many:Int),U,by lia,by lia,hZ (λi O a=>∃v,O=[Z (.ref r),Z (.int (FJ rows q (many+i))),v,Z (.int (R3 rows q many i))]/\a=H') ⟨v,U,U⟩ ?_ ?_⟩
  ·rintro i O a W ⟨v,rfl,rfl⟩;have J:=IX R u G d (many+i);let⟨ra,y,T,g,l⟩:=X _ J.1 J.2;exists _,rfl,_,rfl,r,_,_,_,rfl,rfl,bM p,T,ra,_,_,_,rfl,rfl,bg g,l;show⟨_,U,_,U,_,_,U,Z (.int (0+i)),U,U⟩
  ·rintro O a ⟨v,rfl,rfl⟩;rw[jG];show j _ _ ⟨_,_,U,U⟩
 rintro O a ⟨v,x,rfl,rfl⟩;show⟨_,U,k⟩
end
def Ru(xs:LI)(k:Int):Int:=if 0<(xs.length:Int)then xs.getD (k%(xs.length:Int)).toNat 0 else 0
def dD(xs:LI)(k:Int):Int:=(Ru xs k%1000003*(48271+2*k)+k*k*7919+11)%1000003
def abn(xs:LI)(k:Int):0<=dD xs k/\dD xs k<1000003:=cb #[9]
inductive Fn (K:Yc) (vs:List V) (H:Hp) (Q:VK) (E:XK):Prop|mk (a:Qp) (k:Int) (xs:LI) (_:vs=[.ref a,.int k]) (_:mC K H a (xs.map V.int)) (_:(0<=k/\k<=1000)) (_:Q (.int (dD xs k)) H)
structure El(l:List Nat):Prop where
 n1:1<=l.length
 n2:l.length<=50
 lo:∀c∈l,97<=c/\c<=122
abbrev abc:Str:="abcdefghijklmnopqrstuvwxyz"
inductive abD (K:Yc) (vs:List V) (H:Hp) (Q:VK) (E:XK):Prop|mk (a:Qp) (xs:LI) (_:vs=[.ref a,.str abc]) (_:mC K H a (xs.map V.int)) (_:∀(l:Qp) (x y:List Nat) (H':Hp),av H H'->H' l=Z (.lst [.str (bA x),.str (bA y)])->El x->El y->x≠y->Q #[102] H')
def tP{v:V}{u:TS}(h:u D (σ.set i (Z v)) H):aai (tT (tC v) (aJ i)) u D σ H:=h
def aek:List V:=[.str "and",.str "or",.str "not",.str "some",.str "all"]
def cdI(i:Int):Nat:=97+i.toNat
def adY{i:Int}(X:0<=i)(G:i<26):wV abc.cps.toList i=Z (cdI i):=by
 let⟨n,rfl⟩:=fu X;have:∀n:Nat,n<26->wV abc.cps.toList (n:Int)=Z (97+n):=by decide +kernel
 show this n #[1]
def ajb{i:Int}(X:0<=i)(G:i<26):97<=cdI i/\cdI i<=122:=by unfold cdI;lia
def El.q{l:List Nat}(h:El l)(X:l.length<50):El (l++[113]):=⟨by rw[jH];have:=h.n1;lia,by rw[jH];show X,λc L=>by
 rcases BF.mp L with z|z
 ·show h.lo c z
 ·rw[jI.mp z];decide⟩
def DZ(xs:LI)(n:Nat):List Nat:=(jg n).map λk:Nat=>cdI (dD xs (k:Int) / 3%26)
section
def wO:aA ["_law_script","_law_k","_law_cell"] ["_law_script","_law_k"] (aq A0):=bQ #[0]
def cB:aA ["_law_script","_law_letters","_law_size","_law_stem","_law_at","_law_step","_law_other","_law_names_here","_law_word"] ["_law_script","_law_letters"] (aq ma):=bQ #[0]
def wX:aY ["_law_script","_law_letters","_law_size","_law_stem","_law_at","_law_step","_law_other","_law_names_here","_law_word"] (aq ma) ["_law_k","_law_letters","_law_script"] [Y,Z 1,Z 0] ⟨.function,[#[41],("_law_k",.local),("_law_pick",.globalImplicit),("_law_letters",.free),("_law_script",.free)],false,false,[]⟩:=mH #[0]
def wY:aY ["_law_script","_law_letters","_law_size","_law_stem","_law_at","_law_step","_law_other","_law_names_here","_law_word"] (aq ma) ["_law_name"] [Y] ⟨.function,[#[41],("_law_name",.local)],false,false,[]⟩:=mH #[0]
def ah9(F:bu K "_law_pick" "_law_pick" A0 dV f fd)(o:mg "len" = Y):aR P w K mg base cO 1 f fd ["_law_script","_law_k"] (Fn K):=by
 show F.ok wO #[11] #[5]
 ·let⟨a,k,xs,rfl,_⟩:=h;rfl
 let⟨a,k,xs,rfl,W,⟨d,M⟩,q⟩:=h;show⟨_,(ah (aB (i:=2) wO.nd ag)
   (ah (bV (aG N2 #[126] ag (aL _)) (ao (aB (i:=2) wO.nd (ax bR (pv 0) (aC bK (pv 1) #[126]) #[2]))) aV)
   (ao (aE (aC bK (aC cJ (aC cJ (aC wD (aC bK (pv 2) ag) (aC cJ ag (aC wD ag (pv 1)))) (aC wD (aC wD (pv 1) (pv 1)) ag)) ag) ag))))),?_⟩
 exists 0;show tP ?_;exists 29;show cg (t:=ama _ _ _) (λO H'=>O=[Z #[44],Z (.int k),Z (.int (Ru xs k))]/\H'=H) ?_ (λp j=>?_);exists 27
 ·show⟨_,U,a,_,U,.inl W,_,_,U,U,_,U,rM #[39] (λc=>j _ _ ⟨?_,U⟩)⟩;exists 27
  ·rw[aW]at c;unfold Ru;rw[if_neg c];rfl
  rw[aW]at c;have v:=cb (a:=k) (b:=(xs.length:Int)) c;show⟨_,U,_,U,_,U,a,_,U,.inl W,_,_,U,U,by rw[aW];show c,a,_,_,_,U,U,W,by rw[aW];show dY v.1 v.2,j _ _ ⟨?_,U⟩⟩;unfold Ru;rw[if_pos c,getD_at #[1]];rfl
 rintro O H' ⟨rfl,rfl⟩;have v:=cb (a:=Ru xs k) (b:=1000003) #[9];show⟨_,U,_,_,U,U,(by change(0:Int)<1000003;decide),_,U,_,_,U,U,.inl ⟨by decide,by decide⟩,_,_,U,U,_,_,U,U,.inl ⟨by lia,by lia⟩,_,U,_,U,_,_,U,U,.inl ⟨by lia,by lia⟩,_,_,U,U,.inr ⟨by decide,by decide⟩,_,_,U,U,_,_,U,U,_,_,U,U,(by change(0:Int)<1000003;decide),q⟩
def afh(F:bu K "_law_names" "_law_names" ma dV f fd)(X:bh P w K mg base "_law_pick" 1 ["_law_script","_law_k"] [] (Fn K))(bw:mg "range" = Y)(br:mg "len" = Y):aR P w K mg base cO 2 f fd ["_law_script","_law_letters"] (abD K):=by
 show F.ok cB #[18] (λcq A i5 s H vs Q E S h=>?_)
 ·let⟨a,xs,rfl,_⟩:=h;rfl
 let⟨a,xs,rfl,hS,q⟩:=h;have T:abc.length<=sizeLine:=by decide
 show mD (aD (eI.mk (aB (i:=2) cB.nd (aC cJ ag (aC bK (aK X S #[89]) ag))))
   (aD (eI.mk (aB (i:=3) cB.nd (fZ Xc PySem.F.slot_str_join PySem.F.type_str_join ahZ ba (aa (fJ rfl wX (de rfl bw #[75]) (λ_ _ _ _=>(bj (i:=0) wX.nd)) (λ_ _ _ _=>(ax aeS (pv 1) (aC bK (aC cz (aK X S (aa (pv 2) #[26])) ag) ag) #[2]))) af))))
   (aD (eI.mk (aB (i:=4) cB.nd (aC bK (aK X S #[89]) (aH Rn #[31] br bZ #[49]))))
   (aD (eI.mk (aB (i:=5) cB.nd (aC cJ ag (aC bK (aK X S #[89]) ag))))
   (aD (eI.mk (aB (i:=6) cB.nd (ax aeS (pv 1) (aC bK (aC cJ (aC cz (aK X S (aa (pv 0) #[125])) ag) (pv 5)) ag) #[2])))
   (aD (aj4 (i:=7) cB.nd rfl #[140] (aj3 (cV (Em.mk (pv 3)) (cV (Em.mk (aC wC (aC wC (AV abv (pv 3) DD (DE (pv 4))) (pv 6)) (AV abv (pv 3) (DE (aC cJ (pv 4) ag)) DD))) Fq))))
   (aD (ai0 (PTW.mk (PW.pt (AY (aG cK (aC bK (aK X S #[89]) ag) ag (aL _)) (BK (aG Sl (aH Rn #[31] br bZ #[49]) ag (aL _)))))) (dM (aj4 (i:=7) cB.nd rfl #[140] (aj3 (cV (Em.mk (aC wC (pv 3) (pv 6))) (cV (Em.mk (ax bR (pv 7) ag #[2])) Fq))))) aar)
   (aD (agK PassesOwn.never rfl (cU (bS (aa ba (aa ba (aa ba (aa ba (aa ba af))))))) (bj (i:=8) cB.nd) (dM (eI.mk (bV (aG ic (pv 8) (pv 7) #[22]) (ao (eR (i:=7) rfl cB.nd rfl #[140] wY (cU (pv 7)) (λ_ _ _ _=>(bj (i:=0) wY.nd)) (λ_ _ _ _=>(aC wC (pv 0) ba)))) aV))))
   (dM (eI.mk (aE (pv 7)))))))))))) ?_
 exists 0;exists 1;let⟨n,en⟩:=fu (show 0<=1+dD xs 6%6 by lia);have n6:1<=n/\n<=6:=by lia
 exists _,rfl,a,6,xs,rfl,hS,⟨by decide,by decide⟩,_,_,rfl,rfl,(by change(0:Int)<6;decide),_,_,rfl,rfl;rw[en];exists 1;have sl:(DZ xs n).length=n:=by unfold DZ;rw[aW,jd]
 show cg (t:=tT _ _) (λO J=>O=[Z #[44],Z (.str abc),Z (.int n),Z (.str (bA (DZ xs n))),Y,Y,Y,Y,Y]/\av H J) ?_ (λD' j=>?_);exists 27
 ·show⟨U,_,U,(n:Int),U,by lia,by lia,?_⟩;show wu (λD i M J=>av H J/\M=((DZ xs i).map λk=>bA [k]).map V.str) #[59] ?_ ?_
  ·rintro D i M J Q' B hi G ⟨hs,rfl⟩ k';have m:=cb (a:=dD xs (0+(i:Int)) / 3) (b:=26) #[9];show⟨_,U,_,U,_,U,a,_,xs,U,hs.seq hS,⟨by lia,by lia⟩,_,_,U,U,⟨by decide,by decide⟩,_,_,U,U,(by change(0:Int)<26;decide),_,_,_,U,U,T,adY m.1 m.2,k' _ _ G (cC (by unfold DZ;rw[aW,aW,aW,jd];lia)) ⟨au hs B,?_⟩⟩;unfold DZ;rw[Je,JN,jD,jD,jD];rfl
  ·rintro D M J B G ⟨hs,rfl⟩;rw[jG]at G;have e0:(Str.ofString "").length=0:=by decide
   have sm:(((DZ xs n).map λk=>bA [k]).map (·.length)).sum=n:=by rw[JQ,show(Str.length ∘ λk=>bA [k])=λ_:Nat=>1 from rfl,List.map_const',List.sum_replicate_nat,sl,Nat.mul_one]
   show⟨_,D,_,U,U,G,by rw[sm,e0];lia,j _ _ ⟨?_,hs⟩⟩;rw[acV];rfl
 rintro O J ⟨rfl,s2⟩;let⟨z,ez⟩:=gn (DZ xs n);have j5:∀i:Nat,i<n->z[i]?=Z (cdI (dD xs (i:Int) / 3%26)):=λi hi=>by rw[<-ez];unfold DZ;rw[jR,zx hi];rfl
 have g:∀c∈z,97<=c/\c<=122:=λc L=>by rw[<-ez]at L;let⟨i,_,rfl⟩:=jK.mp L;show ajb (cb #[9]).1 (cb #[9]).2
 rw[ez]at sl ⊢;have zl:(bA z).length=n:=sl;have zz:(bA z).length<=sizeLine:=by rw[zl];show jc n6.2 #[9]
 have m:=cb (a:=dD xs 7) (b:=(n:Int)) #[1];let⟨i,ei⟩:=fu m.1;have ii:i<n:=by lia
 show⟨_,U,a,7,xs,U,s2.seq hS,⟨by decide,by decide⟩,_,U,_,_,U,⟨zz,U⟩,_,_,U,U,by rw[zl];lia,?_⟩;rw[zl,ei];exists _,rfl,a,8,xs,rfl,s2.seq hS,⟨by decide,by decide⟩,_,_,rfl,rfl,(by change(0:Int)<25;decide),_,_,rfl,rfl;let⟨k,ek⟩:=gn (1+dD xs 8%25);have kk:1<=k/\k<=25:=by lia
 rw[ek];have zi:=j5 i ii;have m:=cb (a:=dD xs (i:Int) / 3+k) (b:=26) #[9];exists _,rfl,_,rfl,_,rfl,a,_,xs,rfl,s2.seq hS,⟨by lia,by lia⟩,_,_,rfl,rfl,⟨by decide,by decide⟩,_,rfl,_,_,rfl,rfl,_,_,rfl,rfl,(by change(0:Int)<26;decide),_,_,_,rfl,rfl,T,adY m.1 m.2;let⟨d,ed⟩:=gn (cdI ((dD xs (i:Int) / 3+k)%26));have dd:97<=d/\d<=122:=by rw[<-ed];show ajb m.1 m.2
 have dn:z[i]?≠Z d:=λh=>by rw[zi,<-ed]at h;have h':=Option.some.inj h;unfold cdI at h';lia
 rw[ed,show({cps:=#[d]}:Str)=bA [d]from rfl];exists 1;have e1:(bA [d]).length=1:=rfl;have y4:El z:=⟨by lia,by lia,g⟩;let⟨y,ey⟩:=gn (z.take i++[d]++z.drop (i+1));have yl:y.length=n:=by rw[<-ey,jH,jH,jT,Jw,je];lia
 have p:El y:=⟨by lia,by lia,λc L=>by
  rw[<-ey]at L;rcases BF.mp L with h|h
  ·rcases BF.mp h with h|h
   ·show g c (Zo h)
   ·rw[jI.mp h];show dd
  ·show g c (List.mem_of_mem_drop h)⟩
 have yz:z≠y:=λh=>dn (by rw[h,<-ey,jr,JD (by rw[jT];lia),jT,show i-min i z.length=0 by lia];rfl)
 have o5:bA (z.take i)++bA [d]++bA (z.drop (i+1))=bA y:=str_inj (by rw[C9,C9,<-ey];rfl);show cg (t:=tT _ _) (λO H3=>∃l:Qp,O=[Z #[44],Z (.str abc),Z (.int n),Z (.str (bA z)),Z (.int i),Z (.int k),Z (.str (bA [d])),Z #[102],Y]/\av J H3/\H3 l=Z (.lst [.str (bA z),.str (bA y)])) ?_ (λD' j=>?_);exists 27
 ·have tl:(bA (z.take i)).length=i:=by change(z.take i).length=i;rw[jT];lia
  have dl:(bA (z.drop (i+1))).length=n-(i+1):=by change(z.drop (i+1)).length=_;rw[Jw,sl]
  have m6:(6:Nat)<=sizeLine:=by decide
  show⟨_,U,_,U,_,U,_,U,bA z,U,zz,.inl ⟨i,U,U,by lia,?_⟩⟩;show⟨_,U,_,_,U,U,by rw[e1];change(bA (z.take i)).length+1<=_;lia,?_⟩;show⟨_,U,_,U,_,_,U,U,_,U,bA z,U,zz,.inr ⟨i+1,U,U,by lia,?_⟩⟩;have l2:(bA (z.take i)++bA [d]).length=i+1:=by rw[strLen_append,tl,e1]
  show⟨_,_,U,U,by change(bA (z.take i)++bA [d]).length+(bA (z.drop (i+1))).length<=_;lia,?_⟩;show⟨#[14],λl C=>j _ _ ⟨l,U,ak C _,?_⟩⟩;rw[ae];change Z (HO.lst [V.str (bA z),V.str (bA (z.take i)++bA [d]++bA (z.drop (i+1)))])=_;rw[o5]
 rintro O H3 ⟨l,rfl,s3,C⟩;show cg (λO H4=>∃(l:Qp) (x:List Nat),El x/\x.length<=7/\x≠y/\O=[Z #[44],Z (.str abc),Z (.int n),Z (.str (bA z)),Z (.int i),Z (.int k),Z (.str (bA [d])),Z #[102],Y]/\av H3 H4/\H4 l=Z (.lst [.str (bA x),.str (bA y)])) ?_ (λD' j=>?_);exists 27
 ·show⟨_,U,a,9,xs,U,(s2.trans s3).seq hS,⟨by decide,by decide⟩,_,_,U,U,(by change(0:Int)<2;decide),U,_,U,EG #[39] #[39]⟩
  ·show⟨_,U,_,_,U,⟨zz,U⟩,_,_,U,U,_,U,rM (λc2=>?_) (λc2=>?_)⟩
   ·show⟨_,U,_,U,_,_,U,U,by rw[e1,zl];show jc (show n+1<=7 by lia) #[9],_,U,l,_,_,_,U,U,bM C,U,#[14],λl2 w5=>j _ _ ⟨l2,z++[d],⟨by rw[jH];lia,by rw[jH,je];lia,λc L=>?_⟩,by rw[jH,je];lia,λh=>?_,U,ak w5 _,?_⟩⟩
    ·rcases BF.mp L with h|h
     ·show g c h
     ·rw[jI.mp h];show dd
    ·have:=congrArg zI h;rw[jH,je]at this;lia
    ·rw[ae,show bA z++bA [d]=bA (z++[d])from str_inj (by rw[C9];rfl)]
   ·show j _ _ ⟨l,z,y4,by lia,yz,U,av.refl _,C⟩
  ·show j _ _ ⟨l,z,y4,by lia,yz,U,av.refl _,C⟩
 rintro O H4 ⟨l,x,I,xl,W,rfl,s4,C⟩;show cg (t:=pQ _ _ _) (λO r=>∃(l:Qp) (x y:List Nat) (R:OV),El x/\El y/\x≠y/\O=[Z #[44],Z (.str abc),Z (.int n),Z (.str (bA z)),Z (.int i),Z (.int k),Z (.str (bA [d])),Z #[102],R]/\av H4 r/\r l=Z (.lst [.str (bA x),.str (bA y)])) ?_ (λD' j=>?_);exists 27
 ·show⟨(by change 5<=sizeLine;decide),λlw hw=>⟨lw,U,⟨_,bM ae⟩,?_⟩⟩;have o:=ak hw (HO.lst aek);show fW (K:=K) (xs:=aek) (λt O r=>∃(l:Qp) (x y:List Nat) (R:OV),(El x/\x.length<=7+t)/\(El y/\y.length<=7+t)/\x≠y/\O=[Z #[44],Z (.str abc),Z (.int n),Z (.str (bA z)),Z (.int i),Z (.int k),Z (.str (bA [d])),Z #[102],R]/\av H4 r/\r lw=Z (.lst aek)/\r l=Z (.lst [.str (bA x),.str (bA y)])) ⟨l,x,y,Y,⟨I,xl⟩,⟨p,by lia⟩,W,U,o,ae,o _ _ C⟩ (λt O r _ ⟨_,_,_,_,_,_,_,_,_,h,_⟩=>bM h) ?_ ?_
  ·rintro t wd O r ht ⟨l,x,y,R,⟨I,xl⟩,⟨p,yl⟩,W,rfl,o,d5,N⟩;have t5:t<5:=(lH ht).1;obtain⟨ww,rfl⟩:∃ww,wd=V.str ww:=by
    have:∀v∈aek,∃ww,v=V.str ww:=by intro v hv;simp only[aek,jL,JK,or_false]at hv;rcases hv with rfl|rfl|rfl|rfl|rfl<;>show⟨_,rfl⟩
    show this wd (tw ht)
   show⟨_,U,_,U,l,_,U,.inl (bM N),U,U,_,U,O8 #[174] #[174]⟩
   ·exists _,rfl,l,rfl,⟨_,bM N⟩;have q1:(Str.ofString "q").length=1:=by decide
    show iX (K:=K) (xs:=[.str (bA x),.str (bA y)]) (λD u M H6=>av r H6/\M=(([x,y].take u).map λz=>bA (z++[113])).map V.str) #[59] (λD u M H6 _ ⟨e,_⟩=>bM (e _ _ N)) ?_ ?_
    ·rintro D u y' M H6 Q' B hu G ⟨hs,rfl⟩ k';have u2:u<2:=(lH hu).1;let⟨z5,rfl,hz⟩:=BN (ns:=[bA x,bA y]) hu;have c6:∃T,z5=bA T/\[x,y][u]?=Z T/\T.length<=7+t:=by
      match u,u2,hz with
      |0,_,hz=>show⟨x,(Option.some.inj hz).symm,rfl,xl⟩
      |1,_,hz=>show⟨y,(Option.some.inj hz).symm,rfl,yl⟩
     let⟨T,rfl,h2,l7⟩:=c6;show⟨_,U,_,_,U,U,by rw[q1];change T.length+1<=_;show jc (show T.length+1<=100 by lia) #[9],k' _ _ G (cC (by rw[aW,aW,jT];change min u 2<=1000;lia)) ⟨au hs B,?_⟩⟩;rw[jS,h2,jD,jD,show bA T++Str.ofString "q" = bA (T++[113])from str_inj (by rw[C9];rfl)];rfl
    ·rintro D M H6 fD G ⟨hs,rfl⟩;show⟨D,x++[113],y++[113],_,⟨I.q #[1],by rw[jH,je];lia⟩,⟨p.q #[1],by rw[jH,je];lia⟩,λh=>W (List.append_cancel_right h),U,o.trans hs,hs _ _ d5,G⟩
   ·show⟨l,x,y,_,⟨I,by lia⟩,⟨p,by lia⟩,W,U,o,d5,N⟩
  ·rintro O r ⟨l,x,y,R,⟨I,_⟩,⟨p,_⟩,W,rfl,o,_,N⟩;show j _ _ ⟨l,x,y,R,I,p,W,U,o,N⟩
 rintro O r ⟨l,x,y,R,I,p,W,rfl,o,N⟩;show⟨_,U,q l x y r (s2.trans (s3.trans (s4.trans o))) N I p W⟩
end
inductive ajT (K:Yc) (vs:List V) (H:Hp) (Q:VK) (E:XK):Prop|mk (a:Qp) (b mo:Nat) (pB:Int) (xs:LI) (_:vs=[.ref a,.int b,.int mo,.int pB]) (_:mC K H a (xs.map V.int)) (_:(2<=b/\b<=4)) (_:(1<=mo/\mo<=3)) (_:(0<=pB/\pB<=100)) (_:∀(m r g:Qp) (rows:LL) (signs:LI) (H':Hp),av H H'->bD H' m r g b rows signs->aQ rows.length b rows->signs.length=rows.length->(1<=rows.length/\rows.length<=3)->mR rows.length rows signs->Q #[136] H')
inductive ajU (K:Yc) (vs:List V) (H:Hp) (Q:VK) (E:XK):Prop|mk (a l:Qp) (pB kd:Int) (xs:LI) (x y:Str) (_:vs=[.ref a,.int pB,.ref l,.int kd]) (_:mC K H a (xs.map V.int)) (_:(0<=pB/\pB<=100)) (_:(0<=kd/\kd<=2)) (_:H l=Z (.lst [.str x,.str y])) (_:(x.length<=100/\y.length<=100)) (_:∀(v:V) (ps:List oH) (H':Hp),av H H'->mj H' v ps->iy ps->(kd≠0->aay ps)->(∀p∈ps,p.2=("" : Str)\/p.2=x\/p.2=y)->Q v H')
def SN(xs:LI)(pB kn:Int)(rows:LL)(mn n:Nat):LI:=(jg n).map λq:Nat=>dD xs (pB+30+B7 rows mn (q:Int))%kn
def aac{xs:LI}{C l:Int}{M:Nat}(a:aQ M b rows)(r:1<=b):mR M rows (SN xs C l rows M M):=λq G E=>by
 have h:=cP a G E (show(0:Int)<=0 by decide) (show(0:Int)<b by lia);have e:∀x:Int,0<=x->x<(M:Int)->(SN xs C l rows M M).getD x.toNat 0=dD xs (C+30+B7 rows M x)%l:=λx u i=>by unfold SN;rw[getD_at (by rw[aW,jd];lia),Jf,ZH,show((x.toNat:Nat):Int)=x by lia]
 rw[e _ h.1 h.2,e _ G E,Z5 a r G E]
structure adU(kd:Int)(x y:Str)(p:oH):Prop where
 a:0<=p.1/\p.1<=1000000
 b:p.2.length<=100
 c:p.2≠("" : Str)->p.1<=20
 d:kd≠0->0<=p.1/\p.1<=20
 e:p.2=("" : Str)\/p.2=x\/p.2=y
section
def lC:aA ["_law_script","_law_base","_law_most","_law_by","_law_many","_law_rows","_law_q","_law_kinds","_law_signs"] ["_law_script","_law_base","_law_most","_law_by"] (aq rH):=bQ #[0]
def BU:aY ["_law_script","_law_base","_law_most","_law_by","_law_many","_law_rows","_law_q","_law_kinds","_law_signs"] (aq rH) ["_law_f","_law_base","_law_by","_law_many","_law_q","_law_script"] [Y,Z 1,Z 3,Z 4,Z 6,Z 0] ⟨.function,[#[41],("_law_f",.local),("_law_pick",.globalImplicit),("_law_base",.free),("_law_by",.free),("_law_many",.free),("_law_q",.free),("_law_script",.free)],false,false,[]⟩:=mH #[0]
def BV:aY ["_law_script","_law_base","_law_most","_law_by","_law_many","_law_rows","_law_q","_law_kinds","_law_signs"] (aq rH) ["_law_q","_law_by","_law_kinds","_law_rows","_law_script"] [Y,Z 3,Z 7,Z 5,Z 0] ⟨.function,[#[41],("_law_q",.local),("_law_pick",.globalImplicit),("_law_rest",.globalImplicit),("_law_by",.free),("_law_kinds",.free),("_law_rows",.free),("_law_script",.free)],false,false,[]⟩:=mH #[0]
def dI:aA ["_law_script","_law_by","_law_names_here","_law_kind","_law_parts","_law_many","_law_k","_law_number","_law_far","_law_wide_factor","_law_factor"] ["_law_script","_law_by","_law_names_here","_law_kind"] (aq CG):=bQ #[0]
def alk(F:bu K "_law_row" "_law_row" rH dV f fd)(aN:bh P w K mg base "_law_pick" 1 ["_law_script","_law_k"] [] (Fn K))(Ar:bh P w K mg base "_law_rest" 1 ["_law_rows","_law_here"] [] (agm K))(bw:mg "range" = Y)(aF:mg "tuple" = Y):aR P w K mg base cO 2 f fd ["_law_script","_law_base","_law_most","_law_by"] (ajT K):=by
 show F.ok lC #[18] (λcq A i5 s H vs Q E hr h=>?_)
 ·let⟨a,b,y,C,xs,rfl,_⟩:=h;rfl
 let⟨a,b,y,C,xs,rfl,hS,hb,hm,J,k⟩:=h;show⟨_,(ah (aB (i:=4) lC.nd (aC cJ ag (aC bK (aC cz (aK aN hr (aa (pv 0) #[49])) ag) (pv 2))))
   (ah (aB (i:=5) lC.nd (bS af))
   (ah (cf PassesOwn.never rfl (de rfl bw #[125]) (bj (i:=6) lC.nd) (ao (bC (fZ Ye Yg Yh bX (pv 5) (aa (aS bq #[31] aF bJ (aa (fJ rfl BU (de rfl bw #[33]) (λ_ _ _ _=>(bj (i:=0) BU.nd)) (λ_ _ _ _=>(aC bK (aC cz (aK aN hr (aa (pv 5) (aa (aC cJ (aC cJ (aC cJ (pv 2) ag) (aC wD (pv 1) (pv 4))) (pv 0)) af))) ag) (pv 3)))) af)) af)))))
   (ah (aB (i:=7) lC.nd (ax bR (bS (aa ag (aa ag (aa (aC K4 ag ag) af)))) (aC bK (aC cz (aK aN hr (aa (pv 0) (aa (aC cJ (pv 3) ag) af))) ag) ag) #[2]))
   (ah (eR (i:=8) rfl lC.nd rfl #[140] BV (de rfl bw #[125]) (λ_ _ _ _=>(bj (i:=0) BV.nd)) (λ_ _ _ _=>(aC bK (aK aN hr (aa (pv 4) (aa (aC cJ (aC cJ (pv 1) ag) (aK Ar hr (aa (pv 3) #[26]))) af))) (pv 2))))
   (ao (aE (cA (aa (pv 1) (aa (aS bq #[31] aF bJ #[124]) (aa (aS bq #[31] aF bJ (aa (pv 8) af)) af))))))))))),?_⟩
 exists 0;exists 29;show cg (t:=tT _ _) (λO H'=>∃M:Nat,(1<=M/\M<=3)/\O=[Z #[44],Z (.int b),Z (.int y),Z (.int C),Z (.int (M:Int)),Y,Y,Y,Y]/\H=H') ?_ #[27];exists 27
 ·show⟨_,U,_,U,a,C,xs,U,hS,⟨J.1,by lia⟩,?_⟩;have md:=cb (a:=dD xs C / 4) (b:=(y:Int)) #[1];let⟨M,em⟩:=fu (show 0<=1+dD xs C / 4%y by lia);show⟨_,_,U,U,⟨by decide,by decide⟩,_,U,_,_,U,U,#[1],_,_,U,U,cI _ _ ⟨M,⟨by lia,by lia⟩,?_,U⟩⟩;rw[<-em];rfl
 rintro O H' ⟨M,⟨m1,m3⟩,rfl,rfl⟩;show⟨#[15],λR hR=>?_⟩;have sR:=ak hR #[74];exists 29;show cg (t:=pQ _ _ _) (λO d=>∃(fz:List Qp) (rows:LL) (X:OV),O=[Z #[44],Z (.int b),Z (.int y),Z (.int C),Z (.int (M:Int)),Z (.ref R),X,Y,Y]/\av H d/\d R=Z (.lst #[63])/\bF d fz rows/\aQ M b rows) ?_ #[27];exists 27
 ·show⟨_,U,(M:Int),U,by lia,by lia,hZ (λi O d=>∃(fz:List Qp) (rows:LL) (X:OV),O=[Z #[44],Z (.int b),Z (.int y),Z (.int C),Z (.int (M:Int)),Z (.ref R),X,Y,Y]/\av H d/\d R=Z (.lst #[63])/\bF d fz rows/\rows.length=i/\(∀r∈rows,r.length=b)/\∀r∈rows,∀v∈r,0<=v/\v<(M:Int)) ⟨[],[],Y,U,sR,ae,.nil,U,(λr h=>by cases h),λr h=>by cases h⟩ ?_ ?_⟩
  ·rintro i O d hi ⟨fz,rows,X,rfl,s1,p,N,hl,hw,hv⟩;rw[jG]at hi;show⟨_,U,.inl ⟨U,_,bM p⟩,_,U,(b:Int),U,by lia,by lia,?_⟩;show wu (λD2 j zs o=>av d o/\∃I:LI,zs=I.map V.int/\I.length=j/\∀v∈I,0<=v/\v<(M:Int)) (λD2 T=>⟨ak T _,[],U,U,(λv h=>by cases h)⟩) ?_ ?_
   ·rintro D2 j zs o Q2 T hj hz ⟨g,I,rfl,G,S⟩ k2;have mm:=alf (a:=(b:Int)) (b:=0+(i:Int)) (m:=4) (n:=3) #[1] #[1] #[1] #[1];show⟨_,U,_,U,_,_,U,U,_,U,_,U,_,_,U,U,.inl ⟨by lia,by lia⟩,_,_,U,U,_,U,_,_,U,U,a,_,xs,U,(s1.trans g).seq hS,⟨by lia,by lia⟩,?_⟩;have md:=λx=>cb (a:=x) (b:=(M:Int)) #[1];show⟨_,_,U,U,⟨by decide,by decide⟩,_,U,_,_,U,U,#[1],k2 _ _ hz (cC #[25]) ⟨au g T,I++[_],by rw[jD];rfl,by simp[G],?_⟩⟩;intro u hu;rcases BF.mp hu with z|z
    ·show S u z
    ·rw[jI.mp z];show md _
   rintro D2 zs o T hz ⟨g,I,rfl,G,S⟩;rw[jG]at G;show⟨D2,_,U,.inl ⟨bM hz,λt ht=>?_⟩⟩;have s4:=ak ht (HO.tup #[178]);have y4:=g _ _ p;have j5:R≠t:=ar y4 ht;have sT:∀c zs,d c=Z (.tup zs)->(upd (upd o t (HO.tup #[178])) R (HO.lst (fz.map V.ref++[V.ref t]))) c=Z (.tup zs):=λc zs e=>by rw[aj (aO e p #[3])];show s4 _ _ (g _ _ e)
   show⟨R,_,_,U,U,s4 _ _ y4,cC (by rw[aW,N.length];lia),fz++[t],rows++[I],_,U,au ((s1.trans g).trans s4) hR,by rw[ae,jD];rfl,bF.snoc (N.same sT) (by rw[aj (Ne.symm j5),ae]),by simp[hl],?_,?_⟩
   ·intro r AL;rcases BF.mp AL with z|z
    ·show hw r z
    ·rw[jI.mp z];show G
   ·intro r AL;rcases BF.mp AL with z|z
    ·show hv r z
    ·rw[jI.mp z];show S
  ·rintro O d ⟨fz,rows,X,rfl,s1,p,N,hl,hw,hv⟩;rw[jG]at hl;show cI _ _ ⟨fz,rows,X,U,s1,p,N,⟨hl,hw,hv⟩⟩
 rintro O d ⟨fz,rows,X,rfl,s1,p,N,RO⟩;show cg (t:=tT _ _) (λO H'=>∃l:Int,(1<=l/\l<=1000000)/\O=[Z #[44],Z (.int b),Z (.int y),Z (.int C),Z (.int (M:Int)),Z (.ref R),X,Z (.int l),Y]/\av d H') ?_ #[27];exists 27
 ·show⟨_,_,U,U,⟨by decide,by decide,by decide⟩,#[35],λL hL=>?_⟩;have sL:=ak hL (HO.lst [V.int 2,V.int 3,V.int 1000000]);have md:=cb (a:=dD xs (C+20) / 6) (b:=3) #[9];obtain⟨l,ek,k1,k2⟩:∃l:Int,wV [V.int 2,V.int 3,V.int 1000000] (dD xs (C+20) / 6%3)=Z (V.int l)/\1<=l/\l<=1000000:=by
   have h3:dD xs (C+20) / 6%3=0\/dD xs (C+20) / 6%3=1\/dD xs (C+20) / 6%3=2:=by lia
   rcases h3 with e|e|e<;>rw[e]
   ·show⟨2,U,by decide,by decide⟩
   ·show⟨3,U,by decide,by decide⟩
   ·show⟨1000000,U,by decide,by decide⟩
  show⟨_,U,_,U,_,_,U,U,a,_,xs,U,(s1.trans sL).seq hS,⟨by lia,by lia⟩,_,_,U,U,⟨by decide,by decide⟩,_,_,U,U,#[122],L,_,_,_,U,U,bM ae,ek,cI _ _ ⟨l,⟨k1,k2⟩,U,sL⟩⟩
 rintro O H2 ⟨l,⟨k1,k2⟩,rfl,sL⟩;have sK:=s1.trans sL;show⟨_,U,(M:Int),U,by lia,by lia,?_⟩;show wu (λD i ys o=>av H2 o/\ys=(SN xs C l rows M i).map V.int) #[114] ?_ ?_
 ·rintro D i ys o Q' hD hi J ⟨hs,rfl⟩ k';rw[jG]at hi;have z5:=af4 RO #[1] (q:=0+(i:Int)) #[1] #[1];have B:=sL.trans hs;show⟨_,U,_,U,_,_,U,U,_,U,_,U,R,_,M,b,fz,rows,U,B _ _ p,N.same (λc xs e=>B _ _ e),RO,by lia,by lia,⟨by lia,by lia⟩,_,_,U,U,a,_,xs,U,(s1.trans B).seq hS,⟨by lia,by lia⟩,?_⟩;show⟨_,U,_,_,U,U,#[1],k' _ _ J (cC (by unfold SN;rw[aW,aW,jd];lia)) ⟨au hs hD,?_⟩⟩;unfold SN;rw[Je,JN,jD,jD];rfl
 rintro D ys o hD J ⟨hs,rfl⟩;rw[jG]at J;let⟨sg,W⟩:=gn (SN xs C l rows M M);rw[W]at J;have B:=sL.trans hs;show⟨_,U,_,U,R,_,U,.inl ⟨bM (B _ _ p),λrt o5=>?_⟩⟩;have s3:=ak o5 (HO.tup #[63]);show⟨_,U,D,_,U,.inl ⟨bM (s3 _ _ J),λgt w5=>?_⟩⟩;have s4:=ak w5 (HO.tup (sg.map V.int));show⟨#[35],λm hm=>?_⟩;have s5:=ak hm (HO.tup [V.int b,V.ref rt,V.ref gt]);have d5:=B.trans (s3.trans (s4.trans s5));have er:=RO.len;have c6:sg.length=M:=by rw[<-W];unfold SN;rw[aW,jd]
 show k m rt gt rows sg _ (s1.trans d5) ⟨ae,⟨fz,s5 _ _ (s4 _ _ ae),N.same λc xs e=>d5 _ _ e⟩,s5 _ _ ae⟩ (by rw[er];show RO) #[1] ⟨by lia,by lia⟩ ?_;rw[er,<-W];show aac RO #[1]
def alm(F:bu K "_law_sum" "_law_sum" CG dV f fd)(aN:bh P w K mg base "_law_pick" 1 ["_law_script","_law_k"] [] (Fn K))(bw:mg "range" = Y)(aF:mg "tuple" = Y)(tV:mg "int" = Y):aR P w K mg base cO 2 f fd ["_law_script","_law_by","_law_names_here","_law_kind"] (ajU K):=by
 show F.ok dI #[18] (λcq A o5 s H vs Q E hr h=>?_)
 ·let⟨a,l,C,k,xs,x,y,rfl,_⟩:=h;rfl
 let⟨a,l,C,k,xs,x,y,rfl,hS,hy,k2,hl,⟨xl,yl⟩,q⟩:=h;show mD (aD (eI.mk (aB (i:=4) dI.nd (bS af)))
   (aD (eI.mk (aB (i:=5) dI.nd (aC cJ ag (aC bK (aC cz (aK aN hr (aa (pv 0) #[33])) ag) (ax bR (bS (aa ag (aa ag (aa ag af)))) (pv 3) #[2])))))
   (aD (eI.mk (bV (PW.pt (AY (aG cK (pv 3) ag (aL _)) (AY (aG cK (pv 1) ag (aL _)) (BK (aG cK (aC bK (aC cz (aK aN hr (aa (pv 0) #[33])) ag) ag) ag (aL _)))))) (ao (aB (i:=5) dI.nd ag)) aV))
   (aD (agK PassesOwn.never rfl (de rfl bw #[124]) (bj (i:=6) dI.nd) (aD (eI.mk (aB (i:=7) dI.nd (aK aN hr (aa (pv 0) (aa (aC cJ (aC cJ (pv 1) ag) (pv 6)) af)))))
   (dM (ai0 (PTW.mk (aG cK (aC bK (pv 7) ag) ag (aL _))) (aD (eI.mk (aB (i:=8) dI.nd (wF (eO cK (pv 3) ag (aL _)) (wG (eO cK (aC bK (aC cz (pv 7) ag) ag) ag (aL _))))))
   (dM (agJ (Em.mk (fZ Ye Yg Yh bX (pv 4) (aa (cA (aa (aC bK (aC cz (pv 7) ag) (ax bR (bS (aa ag (aa ag (aa ag (aa (aC K4 ag ag) af))))) (ax bR (bS (aa (pv 3) (aa ag af))) (aS Ez #[31] tV IA (aa (pv 8) af)) #[2]) #[2])) (aa ba af))) af)))))) (aD (eI.mk (aB (i:=9) dI.nd (wF (eO cK (pv 3) ag (aL _)) (wF (eO cK (pv 6) ag (aL _)) (wG (eO cK (aC bK (aC cz (pv 7) ag) ag) ag (aL _)))))))
   (aD (eI.mk (aB (i:=10) dI.nd (aC cJ ag (aC bK (aC cz (pv 7) ag) (ax bR (bS (aa ag (aa ag (aa ag (aa ag af))))) (ax bR (bS (aa (pv 3) (aa ag af))) (aS Ez #[31] tV IA (aa (pv 9) af)) #[2]) #[2])))))
   (dM (agJ (Em.mk (fZ Ye Yg Yh bX (pv 4) (aa (cA (aa (pv 10) (aa (ax bR (pv 2) (aC bK (aC cz (pv 7) ag) ag) #[2]) af))) af)))))))))))
   (dM (eI.mk (aE (aS bq #[31] aF bJ #[125])))))))) ?_
 exists 0;show⟨#[15],λR hR=>?_⟩;have sR:=ak hR #[74];exists 1;have e0:(Str.ofString "").length=0:=by decide
 show cg (t:=tT _ _) (λO H1=>∃M:Int,(1<=M/\M<=3/\(k≠0->M<=2))/\O=[Z #[44],Z (.int C),Z #[102],Z (.int k),Z (.ref R),Z (.int M),Y,Y,Y,Y,Y]/\av H H1/\H1 R=Z #[171]) ?_ #[27];exists 27
 ·show⟨_,U,_,U,a,C,xs,U,sR.seq hS,⟨hy.1,by lia⟩,_,_,U,U,⟨by decide,by decide⟩,#[35],λL hL=>?_⟩;have sL:=ak hL (HO.lst [V.int 3,V.int 2,V.int 2]);obtain⟨m,em,m1,m3,m2⟩:∃m:Int,wV [V.int 3,V.int 2,V.int 2] k=Z (V.int m)/\1<=m/\m<=3/\(k≠0->m<=2):=by
   have h3:k=0\/k=1\/k=2:=by lia
   rcases h3 with e|e|e<;>rw[e]
   ·show⟨3,U,by decide,by decide,λz=>absurd rfl z⟩
   ·show⟨2,U,by decide,by decide,λ_=>by decide⟩
   ·show⟨2,U,by decide,by decide,λ_=>by decide⟩
  have md:=cb (a:=dD xs C / 7) (b:=m) #[1];show⟨_,U,L,_,_,_,U,U,bM ae,em,_,_,U,U,by lia,_,_,U,U,cI _ _ ⟨1+dD xs C / 7%m,⟨by lia,by lia,λz=>by have:=m2 z;lia⟩,U,sR.trans sL,sL _ _ ae⟩⟩
 rintro O H1 ⟨M,⟨n1,n3,n2⟩,rfl,s1,w5⟩;show cg (λO J=>∃M:Int,(1<=M/\M<=8/\(k≠0->M<=2))/\O=[Z #[44],Z (.int C),Z #[102],Z (.int k),Z (.ref R),Z (.int M),Y,Y,Y,Y,Y]/\H1=J) ?_ #[27];exists 27
 ·have old:=cI _ _ ⟨M,⟨n1,by lia,n2⟩,rfl,rfl⟩;show⟨_,U,U,_,U,EG #[39] (λc=>O8 #[70] (λ_=>old))⟩;show⟨_,U,U,_,U,EG (λc2=>?_) (λc2=>O8 #[70] (λ_=>old))⟩;show⟨_,U,_,U,a,C,xs,U,s1.seq hS,⟨hy.1,by lia⟩,_,_,U,U,⟨by decide,by decide⟩,_,_,U,U,(by change(0:Int)<8;decide),U,_,U,O8 (λ_=>cI _ _ ⟨8,⟨by decide,by decide,λz=>absurd c z⟩,U,U⟩) (λ_=>old)⟩
 rintro O J ⟨M,⟨n1,n8,n2⟩,rfl,rfl⟩;show cg (t:=pQ _ _ _) (λO J=>∃(I:List Qp) (ps:List oH) (G S B n X:OV),O=[Z #[44],Z (.int C),Z #[102],Z (.int k),Z (.ref R),Z (.int M),G,S,B,n,X]/\av H J/\J R=Z #[182]/\qI (OD J) I ps/\iy ps/\(k≠0->aay ps)/\∀p∈ps,p.2=("" : Str)\/p.2=x\/p.2=y) ?_ #[27];exists 27
 ·show⟨_,U,M,U,by lia,by lia,?_⟩;show hZ (λi O J=>∃(I:List Qp) (ps:List oH) (G S B n X:OV),O=[Z #[44],Z (.int C),Z #[102],Z (.int k),Z (.ref R),Z (.int M),G,S,B,n,X]/\av H J/\J R=Z #[182]/\qI (OD J) I ps/\ps.length=i/\∀p∈ps,adU k x y p) ⟨[],[],Y,Y,Y,Y,Y,U,s1,w5,.nil,U,λp h=>by cases h⟩ ?_ ?_
  ·rintro i O J hi ⟨I,ps,G,S,B,n,X,rfl,s2,g,hA,hn,hp⟩;have i8:i<8:=by lia
   have d6:I.length=ps.length:=Paired.length hA;show⟨_,U,_,U,_,_,U,U,_,U,_,_,U,U,a,_,xs,U,s2.seq hS,⟨by lia,by lia⟩,?_⟩;exists 1;let⟨u,eu⟩:=gn (dD xs (C+1+(0+(i:Int))));have u0:0<=u:=by rw[<-eu];show(abn _ _).1
   rw[eu];have put:∀(o:Hp) (c:Qp) (p:oH),av J o->o c=Y->adU k x y p->∀G S B n X:OV,∃(j5:List Qp) (y4:List oH) (w6 w7 w8 w9 z5:OV),[Z (V.ref a),Z (.int C),Z #[102],Z (.int k),Z (.ref R),Z (.int M),G,S,B,n,X]=[Z (V.ref a),Z (.int C),Z #[102],Z (.int k),Z (.ref R),Z (.int M),w6,w7,w8,w9,z5]/\av H (upd (upd o c #[81]) R (.lst (I.map V.ref++[V.ref c])))/\(upd (upd o c #[81]) R (.lst (I.map V.ref++[V.ref c]))) R=Z (.lst (j5.map V.ref))/\qI (OD (upd (upd o c #[81]) R (.lst (I.map V.ref++[V.ref c])))) j5 y4/\y4.length=i+1/\∀p∈y4,adU k x y p:=λo c p s3 hc ok G S B n X=>by
    have s4:=ak hc (HO.tup [.int p.1,.str p.2]);have c6:R≠c:=ar (s3 _ _ g) hc;show⟨I++[c],ps++[p],G,S,B,n,X,U,au ((s2.trans s3).trans s4) hR,by rw[ae,jD];rfl,?_,by simp[hn],λp' FI=>?_⟩
    ·show Paired.snoc (Paired.EM hA λd p e=>?_) ?_
     ·change _=_;rw[aj (aO (show J d=Z (.tup _)from e) g #[3])];show s4 _ _ (s3 _ _ e)
     ·change _=_;rw[aj (Ne.symm c6),ae]
    ·rcases BF.mp FI with h|h
     ·show hp p' h
     ·rw[jI.mp h];show ok
   have two:∀{W:Bool} {c0 c1 c2 c3:Int},(W=true->k=0)->∃j m:Int,wV [V.int k,V.int 3] (if W=true then 1 else 0)=Z (V.int j)/\wV [V.int c0,V.int c1,V.int c2,V.int c3] j=Z (V.int m)/\((k=0/\(m=c0\/m=c3))\/(k≠0/\(m=c1\/m=c2))):=λ{W c0 c1 c2 c3} h=>by
    cases W with
    |true=>show⟨3,c3,rfl,rfl,.inl ⟨h rfl,.inr rfl⟩⟩
    |false=>
     have h3:k=0\/k=1\/k=2:=by lia
     rcases h3 with e|e|e<;>subst e
     ·show⟨0,c0,U,U,.inl ⟨U,.inl rfl⟩⟩
     ·show⟨1,c1,U,U,.inr ⟨by decide,.inl rfl⟩⟩
     ·show⟨2,c2,U,U,.inr ⟨by decide,.inr rfl⟩⟩
   show⟨_,U,_,_,U,U,#[122],U,_,U,EG #[39] #[39]⟩
   ·show cg (t:=tT _ _) (λO o=>∃W:Bool,(W=true->k=0)/\O=[Z #[44],Z (.int C),Z #[102],Z (.int k),Z (.ref R),Z (.int M),Z (.int (0+(i:Int))),Z (.int u),Z (.bl W),n,X]/\J=o) ?_ (λD2 Mg=>?_);exists 27
    ·show⟨_,U,U,_,U,EG (λD=>?_) (λD=>?_)⟩
     ·show⟨_,U,_,_,U,U,⟨by decide,by decide⟩,_,_,U,U,(by change(0:Int)<5;decide),U,Mg _ _ ⟨_,λ_=>D,U,U⟩⟩
     ·show Mg _ _ ⟨false,#[70],U,U⟩
    rintro O o ⟨W,d5,rfl,rfl⟩;let⟨j,m,ej,em,hm⟩:=two (c0:=1000) (c1:=20) (c2:=4) (c3:=1000000) d5;show⟨_,U,.inl ⟨U,_,bM g⟩,_,U,_,_,U,U,⟨by decide,by decide⟩,_,_,U,U,⟨by decide,by decide,by decide⟩,(by change 4<=sizeLine;decide),λL hL=>?_⟩;have sL:=ak hL (HO.lst [V.int 1000,V.int 20,V.int 4,V.int 1000000]);show⟨_,U,#[14],λL2 V8=>?_⟩;have v:=ak V8 (HO.lst [V.int k,V.int 3]);have mk:=cb (a:=u / 15) (b:=m) #[1];show⟨_,U,.inr ⟨W,U,L2,_,_,_,U,U,bM ae,ej,L,_,_,_,U,U,bM (v _ _ ae),em,_,_,U,U,by lia,#[14],λcc N=>?_⟩⟩;have r:=sL.trans v;show⟨R,_,_,U,U,?_,cC #[25],put _ cc (u / 15%m,("" : Str)) r N ⟨⟨mk.1,by change u / 15%m<=_;lia⟩,by lia,λz=>absurd rfl z,λD=>⟨mk.1,by change u / 15%m<=_;lia⟩,.inl rfl⟩ _ _ _ _ _⟩;rw[aj (ar (r _ _ g) N)];show r _ _ g
   ·show cg (t:=tT _ _) (λO o=>∃W:Bool,(W=true->k=0)/\O=[Z #[44],Z (.int C),Z #[102],Z (.int k),Z (.ref R),Z (.int M),Z (.int (0+(i:Int))),Z (.int u),B,Z (.bl W),X]/\J=o) ?_ (λD2 Mg=>?_);exists 27
    ·show⟨_,U,U,_,U,EG (λD=>?_) (λD=>?_)⟩
     ·show⟨_,U,U,_,U,EG (λi0=>?_) (λi0=>Mg _ _ ⟨false,#[70],U,U⟩)⟩;show⟨_,U,_,_,U,U,⟨by decide,by decide⟩,_,_,U,U,(by change(0:Int)<4;decide),U,Mg _ _ ⟨_,λ_=>D,U,U⟩⟩
     ·show Mg _ _ ⟨false,#[70],U,U⟩
    rintro O o ⟨W,d5,rfl,rfl⟩;let⟨j,m,ej,em,hm⟩:=two (c0:=4) (c1:=3) (c2:=2) (c3:=20) d5;have mk:=cb (a:=u / 24) (b:=m) #[1];show⟨_,U,_,_,U,U,⟨by decide,by decide⟩,(by change 4<=sizeLine;decide),λL hL=>?_⟩;have sL:=ak hL (HO.lst [V.int 4,V.int 3,V.int 2,V.int 20]);show⟨_,U,#[14],λL2 V8=>?_⟩;have v:=ak V8 (HO.lst [V.int k,V.int 3]);have r:=sL.trans v;show⟨_,U,.inr ⟨W,U,L2,_,_,_,U,U,bM ae,ej,L,_,_,_,U,U,bM (v _ _ ae),em,_,_,U,U,by lia,_,_,U,U,?_⟩⟩;exists 1;have m2:=cb (a:=u / 480) (b:=2) #[9];obtain⟨z,ez,hz⟩:∃z:Str,wV [V.str x,V.str y] (u / 480%2)=Z (V.str z)/\(z=x\/z=y):=by
     have h2:u / 480%2=0\/u / 480%2=1:=by lia
     rcases h2 with e|e<;>rw[e]
     ·show⟨x,U,.inl rfl⟩
     ·show⟨y,U,.inr rfl⟩
    have zl:z.length<=100:=by
     rcases hz with e|e<;>rw[e]
     ·show xl
     ·show yl
    have i5:=r _ _ g;show⟨_,U,.inl ⟨U,_,bM i5⟩,_,U,_,U,_,U,_,_,U,U,⟨by decide,by decide⟩,_,_,U,U,(by change(0:Int)<2;decide),l,_,_,_,U,U,bM (r _ _ (s2 _ _ hl)),ez,#[14],λcc N=>?_⟩;show⟨R,_,_,U,U,?_,cC #[25],put _ cc (1+u / 24%m,z) r N ⟨⟨by change 0<=1+u / 24%m;lia,by change 1+u / 24%m<=_;lia⟩,zl,λ_=>by change 1+u / 24%m<=_;lia,λD=>⟨by change 0<=1+u / 24%m;lia,by change 1+u / 24%m<=_;lia⟩,.inr hz⟩ _ _ _ _ _⟩;rw[aj (ar i5 N)];show i5
  ·rintro O J ⟨I,ps,G,S,B,n,X,rfl,s2,g,hA,hn,hp⟩;show cI _ _ ⟨I,ps,G,S,B,n,X,U,s2,g,hA,⟨by lia,λp h=>⟨(hp p h).a,(hp p h).b,(hp p h).c⟩⟩,λD=>⟨by have:=n2 D;lia,λp h=>(hp p h).d D⟩,λp h=>(hp p h).e⟩
 rintro O J ⟨I,ps,G,S,B,n,X,rfl,s2,g,hA,ok,sm,hm⟩;show⟨_,U,R,_,U,.inl ⟨bM g,λT hT=>?_⟩⟩;have s3:=ak hT (HO.tup #[86]);show q _ ps _ (s2.trans s3) ⟨T,I,U,ae,Paired.EM hA λd p e=>s3 _ _ e⟩ ok sm hm
end
def acp(f:Qp->Nat->List V->Hp->Prop)(X:∀D,H D=Y->f D 0 [] #[53])(C:∀D i ys H',i<=xs.length->f D i ys H'->iu K H' a xs)(hs:∀D i x ys H',H D=Y->xs[i]?=Z x->H' D=Z #[72]->f D i ys H'->∃(c:Qp) (u v:V),x=.ref c/\iu K H' c [u,v]/\∀l:VK,#[6]->te ((#[71].set 0 (Z u)).set 1 (Z v)) H' l)(j:∀D ys H',H D=Y->H' D=Z #[72]->f D xs.length ys H'->Qd D H'):CU (Itt K a) ix (akt K 2 (aeo (aJ 0) (aeo (aJ 1) anO))) te σ H Qd:=by
 intro D B;show⟨λi m O H'=>m=xs.length-i/\i<=xs.length/\(O=aU ix σ\/∃t W,O=(#[71].set 0 t).set 1 W)/\∃ys,H' D=Z #[72]/\f D i ys H',⟨xs.length,by simp,jb _,.inl rfl,[],ae,X D B⟩,?_⟩;rintro i m O H' ⟨rfl,b,A,ys,G,p⟩;have q:=C D i ys H' b p;exists 23
 ·exists 10;let⟨T,g⟩:=y;subst T;have M:=g xs q;let⟨c,u,v,P,h,rd⟩:=hs D i x ys _ B M G p;have I:(O.set 0 (Z u)).set 1 (Z v)=(#[71].set 0 (Z u)).set 1 (Z v):=by
   rcases A with z|⟨t,W,z⟩
   ·rw[z]
   ·rw[z,SG]
  exists c,[u,v],P,h,rfl,u,[v],rfl,v,[],rfl,rfl;change te ((O.set 0 (Z u)).set 1 (Z v)) _ _;rw[I];show rd _ (λy R k S n=>⟨ys,k,S,xs.length-(i+1),by lia,U,d,.inr ⟨_,_,U⟩,ys++[y],ae,n⟩)
 ·exists 14;subst e;show .inl ⟨⟨xs,q,jE _⟩,j D ys H' B G p⟩
def LX(zs:List Str)(N:LI)(z:Str):Option Int:=(zs.zip N).lookup z
def iC(x z:Str)(m:Int)(zs:List Str)(N:LI):LX (x::zs) (m::N) z=if z=x then Z m else LX zs N z:=by
 unfold LX;rw[List.zip_cons_cons,ju];by_cases c:z=x
 ·rw[c,beq_self_eq_true,if_pos rfl]
 ·rw[beq_false_of_ne c,if_neg c]
def Bn(zs:List Str)(N:LI)(ps:List oH):Int:=PH (ps.map λp=>p.1*(LX zs N p.2).getD 1)
def Od(l:LI)(a:Int):PH (l++[a])=PH l+a:=by unfold PH;rw[JC];rfl
def tU(ps:List oH)(p:oH)(x:Str):lF (ps++[p]) x=lF ps x+(if p.2=x then p.1 else 0):=by
 unfold lF;rw[Tg];by_cases c:p.2=x
 ·rw[if_pos c,if_pos c,Od]
 ·rw[if_neg c,if_neg c,jh,ZX]
theorem Oj{ps:List oH}(C:zs.length=N.length)(X:zs.length<=2)(o:zs.Nodup)(t:("" : Str)∉zs)(h:∀p∈ps,p.2=("" : Str)\/p.2∈zs):∀n:Nat,n<=ps.length->Bn zs N (ps.take n)=pk zs N (ps.take n)
 |0,_=>by
  have a:∀x,lF [] x=0:=λx=>rfl
  match zs,N,C,X with
  |[],[],_,_=>rfl
  |[x],[m],_,_=>
   change(0:Int)=0+(0+0*m);lia
  |[x,y],[m,n],_,_=>
   change(0:Int)=0+(0+0*m+0*n);lia
 |n+1,L=>by
  have K:=Oj C X o t h n #[1];have D:=h ps[n] (jO #[1]);let⟨p,T⟩:=gn (ps[n]);rw[T]at D;let⟨qs,eq⟩:=gn (ps.take n);rw[jS,jC #[1],T,eq];rw[eq]at K;change Bn zs N (qs++[p])=pk zs N (qs++[p]);have c:Bn zs N (qs++[p])=Bn zs N qs+p.1*(LX zs N p.2).getD 1:=by unfold Bn;rw[jD];show Od _ _
  rw[c,K];unfold pk HM
  match zs,N,C,X,o,t,D with
  |[],[],_,_,_,_,D=>
   have d:p.2=("" : Str):=D.elim id λz=>by cases z
   change lF qs ("" : Str)+0+p.1*1=lF (qs++[p]) ("" : Str)+0;rw[tU,if_pos d];lia
  |[x],[m],_,_,_,t,D=>
   have u:¬ ("" : Str)=x:=λz=>t (by rw[z];show jA);change lF qs ("" : Str)+(0+lF qs x*m)+p.1*(LX [x] [m] p.2).getD 1=lF (qs++[p]) ("" : Str)+(0+lF (qs++[p]) x*m);rw[tU,tU,Zh];rcases D with e|e
   ·rw[e,if_pos rfl,if_neg u,iC,if_neg u];change _+p.1*1=_;lia
   ·have E:=jI.mp e;rw[E,if_neg (Ne.symm u),if_pos rfl,iC,if_pos rfl];change _+p.1*m=_;lia
  |[x,y],[m,n],_,_,o,t,D=>
   have u:¬ ("" : Str)=x:=λz=>t (by rw[z];show jA);have k:¬ ("" : Str)=y:=λz=>t (by rw[z];show jF _ jA);have W:¬ x=y:=λz=>(jm.mp o).1 (by rw[z];show jA);change lF qs ("" : Str)+(0+lF qs x*m+lF qs y*n)+p.1*(LX [x,y] [m,n] p.2).getD 1=lF (qs++[p]) ("" : Str)+(0+lF (qs++[p]) x*m+lF (qs++[p]) y*n);rw[tU,tU,tU,Zh,Zh];rcases D with e|e
   ·rw[e,if_pos rfl,if_neg u,if_neg k,iC,if_neg u,iC,if_neg k];change _+p.1*1=_;lia
   ·rcases jL.mp e with E|E
    ·rw[E,if_neg (Ne.symm u),if_pos rfl,if_neg W,iC,if_pos rfl];change _+p.1*m=_;lia
    ·have g:=jI.mp E;rw[g,if_neg (Ne.symm k),if_neg (Ne.symm W),if_pos rfl,iC,if_neg (Ne.symm W),iC,if_pos rfl];change _+p.1*n=_;lia
def aiZ{ps:List oH}(C:zs.length=N.length)(X:zs.length<=2)(o:zs.Nodup)(t:("" : Str)∉zs)(h:∀p∈ps,p.2=("" : Str)\/p.2∈zs):Bn zs N ps=pk zs N ps:=by have:=Oj C X o t h ps.length (jE _);rw[jV]at this;show this
def oz(zs:List Str)(N:LI):List #[157]:=(zs.zip N).map λp=>(Sum.inr p.1,V.int p.2)
def Pf(zs:List Str)(N:LI)(z:Str):cG (oz zs N) (.inr z)=(LX zs N z).map V.int:=by
 unfold oz LX
 induction zs.zip N with
 |nil=>rfl
 |cons p r K=>
  rw[jt,ju];by_cases c:z=p.1
  ·rw[c,cR rfl,beq_self_eq_true];rfl
  ·rw[cE (λy=>c (Sum.inr.inj y).symm),K,beq_false_of_ne c]
def acv{n:Int}(B:2<=b)(h:0<n):AF b n=n%b::AF b (n / b):=by
 have F:=pG B (Ja h);cases e:AF b n with
 |nil=>
  rw[e]at F;have:(0:Int)=n:=F.val;lia
 |cons d r=>
  rw[e]at F;let⟨a,s⟩:=F.tail #[1];rw[s,AG #[1] a (pG B (zS (Ja h) #[1]))]
def acw(B:2<=b):AF b 0=[]:=AG #[1] (pG B (JF _)) ⟨Cf.nil,rfl,λd j=>by simp at j⟩
inductive agq (vs:List V) (H:Hp) (Q:VK) (E:XK):Prop|mk (v:V) (nd:Qp) (ps:List oH) (zs:List Str) (N:LI) (_:vs=[v,.ref nd]) (_:mj H v ps) (_:iy ps) (_:H nd=Z (.dK (oz zs N))) (_:∀H':Hp,av H H'->Q (.int (Bn zs N ps)) H')
inductive agl (K:Yc) (vs:List V) (H:Hp) (Q:VK) (E:XK):Prop|mk (m r g:Qp) (b:Nat) (rows:LL) (signs:LI) (n:Int) (_:vs=[.ref m,.int n]) (_:bD H m r g b rows signs) (_:aQ rows.length b rows) (_:signs.length=rows.length) (_:1<=rows.length) (_:(2<=b/\b<=4)) (_:0<=n) (_:Q (.int (Sy b (rows,signs) n)) H)
section
def Mi:aA ["_law_parts","_law_numbers_here"] ["_law_parts","_law_numbers_here"] (aq pI):=bQ #[0]
def oM:aY ["_law_parts","_law_numbers_here"] (aq pI) ["_law_number","_law_name","_law_numbers_here"] [Y,Y,Z 1] ⟨.function,[#[41],("_law_number",.local),("_law_name",.local),("_law_numbers_here",.free)],false,false,[]⟩:=mH #[0]
def pM:aA ["_law_machine_here","_law_number","_law_here"] ["_law_machine_here","_law_number"] (aq A2):=bQ #[0]
def alo(F:bu K "_law_value" "_law_value" pI dV f fd)(l:mg "sum" = Y):aR P w K mg base cO 1 f fd ["_law_parts","_law_numbers_here"] agq:=by
 show F.ok Mi (λt H Q E h=>?_) (λcq A I s H t Q E S h=>?_)
 ·let⟨v,b,ps,zs,N,rfl,_⟩:=h;rfl
 let⟨v,b,ps,zs,N,rfl,⟨a,d,rfl,W,g⟩,ok,L,q⟩:=h;have o:d.length=ps.length:=Paired.length g;have O:=ok.1;have C:=ow S;show⟨_,(ao (aE (aH ((MG rfl)) #[31] l ad3 (aa (fJ rfl oM (eD (pv 0)) (λ_ _ _ _=>(abl K (n:=2) rfl (dC (bj (i:=0) oM.nd) (dC (bj (i:=1) oM.nd) wH)))) (λ_ _ _ _=>(aC wD (pv 0) (Sm C (pv 2) (pv 1) ag ⟨U,U,U,U⟩)))) af)))),?_⟩;exists 0;exists _,rfl,a,rfl,⟨_,bg W⟩;show acp (K:=K) (xs:=d.map V.ref) (λD j M J=>av H J/\M=(#[185].map λp=>p.1*(LX zs N p.2).getD 1).map V.int) #[59] (λD j M J _ ⟨e,_⟩=>bg (e _ _ W)) ?_ ?_
 ·rintro D j y M J B u G ⟨hs,rfl⟩;let⟨c,p,rfl,x,r⟩:=DA g u;have R:=(lH r).1;have T:=(ok.2 p (tw r)).1;show⟨c,_,_,U,bg (hs _ _ x),λX z=>?_⟩;exists _,rfl,_,rfl,b,rfl,.inl ⟨_,.inl (hs _ _ L)⟩,_,rfl,_,lG.k (k:=.inr p.2) (hs _ _ L);rw[Pf];let⟨m,em⟩:=gn ((LX zs N p.2).getD 1);have e:((LX zs N p.2).map V.int).getD (V.int 1)=V.int m:=by rw[<-em];cases LX zs N p.2<;>rfl
  rw[e];show⟨_,_,U,U,.inl ⟨by lia,by lia⟩,z _ _ G (cC #[79]) ⟨au hs B,?_⟩⟩;rw[jS,r,jD,jD];change _=_++[V.int (p.1*(LX zs N p.2).getD 1)];rw[em]
 ·rintro D M J B G ⟨hs,rfl⟩;rw[aW,o,jV]at G;show⟨D,_,U,bM G,q _ hs⟩
def aia(F:bu K "_law_read" "_law_read" A2 dV f fd):aR P w K mg base cO 1 f fd ["_law_machine_here","_law_number"] (agl K):=by
 show F.ok pM (λd H Q E h=>?_) (λcq A I s H d Q E S h=>?_)
 ·let⟨m,r,g,b,rows,signs,n,rfl,_⟩:=h;rfl
 let⟨m,r,g,b,rows,signs,n,rfl,M,R,ls,V,B,u,q⟩:=h;let⟨N,⟨fz,p,J⟩,j⟩:=M;show⟨_,(ah (aB (i:=2) pM.nd ag)
   (ah (oC PassesOwn.never (aG N2 (pv 1) ag (aL _)) (ah (aB (i:=2) pM.nd (ax ay (ax ay #[12] (pv 2) #[2]) (aC bK (pv 1) #[12]) #[2]))
   (ao (aB (i:=1) pM.nd (aC cz (pv 1) #[12])))))
   (ao (aE (ax ay #[12] (pv 2) #[2]))))),?_⟩
 exists 0;show tP ?_;exists 29;show cg (t:=sU _ _) (λO H'=>∃(k h:Int),O=[Z #[136],Z (.int k),Z (.int h)]/\H=H'/\h=bp rows (AF b n) 0) ?_ (λW l=>?_);exists 27
 ·show sd (λy O H'=>∃(k h:Int),y=k.toNat/\O=[Z #[136],Z (.int k),Z (.int h)]/\H=H'/\0<=k/\(0<=h/\h<(rows.length:Int))/\bp rows (AF b k) h=bp rows (AF b n) 0) ⟨_,n,0,U,U,U,u,⟨by decide,by lia⟩,U⟩ ?_;rintro y O H' ⟨k,h,rfl,rfl,rfl,o,⟨X,G⟩,e⟩;show⟨_,U,_,_,U,U,_,U,rM #[39] #[39]⟩
  ·have v:=cb (a:=k) (b:=(b:Int)) #[1];let⟨ra,rr,T,x,z⟩:=AZ J R X G v.1 v.2;show⟨λO H'=>∃L,L<k.toNat/\∃(k h:Int),L=k.toNat/\O=[Z #[136],Z (.int k),Z (.int h)]/\H=H'/\0<=k/\(0<=h/\h<(rows.length:Int))/\bp rows (AF b k) h=bp rows (AF b n) 0,λ_ _ h=>h,?_⟩;exists _,rfl,m,_,_,_,rfl,rfl,bg N,rfl,_,rfl,r,_,_,_,rfl,rfl,bg p,T,_,rfl,_,rfl,m,_,_,_,rfl,rfl,bg N,rfl,_,_,rfl,rfl,#[1],ra,_,_,_,rfl,rfl,bg x,z;have dl:k / (b:Int)<k:=by exists 16;exists 19
   have d0:0<=k / (b:Int):=zS o #[1];exists _,rfl,_,rfl,m,_,_,_,rfl,rfl,bg N,rfl,_,_,rfl,rfl,⟨by lia,by lia⟩,(k / (b:Int)).toNat,by lia,_,_,rfl,rfl,rfl,d0,cP R X G v.1 v.2
   rw[<-e,acv B.1 c];rfl
  ·obtain rfl:k=0:=by lia
   rw[acw B.1]at e;show l _ _ ⟨_,_,U,U,e⟩
 rintro O H' ⟨k,h,rfl,rfl,rfl⟩;have D:=oG R (ns:=AF b n) (h:=0) (pG B.1 u).inb #[9] #[1];show⟨_,U,m,_,_,_,U,U,bg N,U,_,U,g,_,_,_,U,U,bg j,dY D.1 #[1],q⟩
end
inductive apF (K:Yc) (vs:List V) (H:Hp) (Q:VK) (E:XK):Prop|mk (v:V) (nd rd:Qp) (b:Nat) (t:At) (R:Str->LL×LI) (zs:List Str) (N:LI) (_:vs=[v,.ref nd,.ref rd]) (_:eM H v t) (_:(∀ps∈lD t,iy ps/\Bn zs N ps=pk zs N ps)) (_:(∀l∈iq t,0<=pk zs N l.2)) (_:Ou H rd b t R) (_:(2<=b/\b<=4)) (_:H nd=Z (.dK (oz zs N))) (_:∀H':Hp,av H H'->Q (.bl (soA b R zs N t)) H')
def adW:At->Prop
 |.cm _ _ _=>True
 |.sg l _=>l.1=("B" : Str)
 |.lk l m=>l.1=("B" : Str)/\m.1=("C" : Str)
structure arn(x y:Str)(t:At):Prop where
 tag:adW t
 ok:∀ps∈lD t,iy ps/\∀p∈ps,p.2=("" : Str)\/p.2=x\/p.2=y
 sm:∀l∈iq t,aay l.2
inductive ago (K:Yc) (vs:List V) (H:Hp) (Q:VK) (E:XK):Prop|mk (a l rd m r g:Qp) (b:Nat) (rows:LL) (signs:LI) (kvs:List #[157]) (xs:LI) (x y:Str) (_:vs=[.ref a,.ref l,.ref rd]) (_:mC K H a (xs.map V.int)) (_:H l=Z (.lst [.str x,.str y])) (_:(x.length<=100/\y.length<=100)) (_:H rd=Z #[58]) (_:cG kvs (.inr ("B" : Str))=Z #[136]) (_:bD H m r g b rows signs) (_:(1<=signs.length/\signs.length<=3)) (_:∀(v:V) (t:At) (H':Hp),av H H'->eM H' v t->arn x y t->Q v H')
def nmT(t0 t1:Str):At->At
 |.cm k a c=>.cm k a c
 |.sg l n=>.sg (t0,l.2) n
 |.lk l m=>.lk (t0,l.2) (t1,m.2)
inductive abC (vs:List V) (H:Hp) (Q:VK) (E:XK):Prop|mk (v:V) (l:Qp) (t:At) (t0 t1:Str) (_:vs=[v,.ref l]) (_:eM H v t) (_:H l=Z (.lst [.str t0,.str t1])) (_:∀(v':V) (H':Hp),av H H'->eM H' v' (nmT t0 t1 t)->Q v' H')
section
def rK:aA ["_law_statement_here","_law_numbers_here","_law_rows","_law_word","_law_one","_law_other"] ["_law_statement_here","_law_numbers_here","_law_rows"] (aq Fc):=bQ #[0]
def fQ:aA ["_law_script","_law_names_here","_law_rows","_law_kind","_law_signs","_law_number"] ["_law_script","_law_names_here","_law_rows"] (aq mN):=bQ #[0]
def Mh:aA ["_law_statement_here","_law_rows"] ["_law_statement_here","_law_rows"] (aq wI):=bQ #[0]
def apa(F:bu K "_law_so" "_law_so" Fc dV f fd)(u:bh P w K mg base "_law_value" 1 ["_law_parts","_law_numbers_here"] [] agq)(O:bh P w K mg base "_law_read" 1 ["_law_machine_here","_law_number"] [] (agl K)):aR P w K mg base cO 2 f fd ["_law_statement_here","_law_numbers_here","_law_rows"] (apF K):=by
 show F.ok rK #[18] (λcq A y4 s H vs Q E S h=>?_)
 ·let⟨v,o,rd,b,t,R,zs,N,rfl,_⟩:=h;rfl
 let⟨v,o,rd,b,t,R,zs,N,rfl,fR,ok,pos,EN,hb,L,q⟩:=h;have hu:=ow S;let⟨kvs,hd,hv⟩:=EN.ex;show⟨_,(ah (aB (i:=3) rK.nd #[12])
   (ah (bV (aG cK (pv 3) ba (aL _)) (ao (aE (eO cK (aK O S (aa (iE hu (pv 2) #[12] #[2]) (aa #[123] af))) #[12] (aL _)))) aV)
   (ah (bV (aG cK (pv 3) ba (aL _)) (ah (aB (i:=4) rK.nd (aK O S (aa (iE hu (pv 2) #[12] #[2]) (aa #[123] af))))
   (ao (aE (eO cK (pv 4) (aK O S (aa (iE hu (pv 2) #[12] #[2]) (aa #[123] af))) (aL _))))) aV)
   (ah (aB (i:=4) rK.nd #[123])
   (ah (aB (i:=5) rK.nd #[123])
   (ao (aE (ape (wF (eO cK (pv 4) (pv 5) (aL _)) (wG (eO tE (pv 3) ba (aL _)))) (wG (wF (eO Sl (pv 4) (pv 5) (aL _)) (wG (eO tE (pv 3) ba (aL _))))))))))))),?_⟩
 exists 0;cases t with
 |cm k D p=>
  let⟨y,j,vb,rfl,G,d,C⟩:=fR;exists _,rfl,y,_,_,_,rfl,rfl,bg G,rfl;show⟨_,U,U,_,U,BC (Ad k).s ?_⟩;show⟨_,U,U,_,U,BC (Ad k).l ?_⟩;let⟨x,T⟩:=ok D jA;let⟨o2,I⟩:=ok p #[186];show⟨_,U,y,_,_,_,U,U,bg G,U,_,U,j,o,D,zs,N,U,d,x,L,λH1 s1=>?_⟩;show⟨_,U,y,_,_,_,U,U,bg (s1 _ _ G),U,_,U,vb,o,p,zs,N,U,C.same (rL s1),o2,s1 _ _ L,λJ s2=>?_⟩;rw[T,I];have W:∀r:Bool,r=soA b R zs N (.cm k D p)->Q (.bl r) J:=λr e=>by rw[e];show q J #[129]
  exists 1;have k3:k=0\/k=1\/k=2:=by lia
  show⟨_,U,_,U,U,_,U,EG #[39] #[39]⟩
  ·exists _,rfl,rfl,_,rfl;rcases k3 with rfl|rfl|rfl
   ·show RM #[0] (W _ (by change _=decide (pk zs N D=pk zs N p);rw[decide_eq_true c]))
   ·show RM #[0] (W _ (by change _=decide (pk zs N D<=pk zs N p);rw[decide_eq_true (show pk zs N D<=pk zs N p by lia)]))
   ·show BC #[0] ⟨_,U,_,U,_,_,U,U,_,U,rM (λB=>?_) (λB=>W _ ?_)⟩
    ·lia
    ·change _=decide (pk zs N D<pk zs N p);rw[decide_eq_false B]
  ·show⟨_,U,BC rfl ⟨_,U,_,U,_,_,U,U,_,U,rM (λB=>?_) (λB=>W _ ?_)⟩⟩
   ·show⟨_,U,U,W _ ?_⟩;rcases k3 with rfl|rfl|rfl
    ·change _=decide (pk zs N D=pk zs N p);rw[decide_eq_false c];decide +kernel
    ·change _=decide (pk zs N D<=pk zs N p);rw[decide_eq_true (show pk zs N D<=pk zs N p by lia)];decide +kernel
    ·change _=decide (pk zs N D<pk zs N p);rw[decide_eq_true B];decide +kernel
   ·rcases k3 with rfl|rfl|rfl
    ·change _=decide (pk zs N D=pk zs N p);rw[decide_eq_false c]
    ·change _=decide (pk zs N D<=pk zs N p);rw[decide_eq_false (show ¬ pk zs N D<=pk zs N p by lia)]
    ·change _=decide (pk zs N D<pk zs N p);rw[decide_eq_false B]
 |sg l n=>
  let⟨y,j,rfl,G,d⟩:=fR;let⟨⟨m,r,g,T,M⟩,R1,ls,n1,S1⟩:=hv l jA;let⟨x,I⟩:=ok l.2 jA;exists _,rfl,y,_,_,_,rfl,rfl,bg G,rfl;show⟨_,U,U,_,U,RM B6.s ?_⟩;show⟨_,U,_,U,y,_,_,_,U,U,bg G,U,rd,.ref m,U,by rw[<-T];show lG.k (k:=.inr l.1) hd,?_⟩;show⟨_,U,y,_,_,_,U,U,bg G,U,_,U,j,o,l.2,zs,N,U,d,x,L,λH1 s1=>?_⟩;rw[I];exists m,r,g,b,_,_,_,rfl,M.same λa xs e=>s1 _ _ e,R1,ls,n1.1,hb,pos l jA;exists _,rfl,y,_,_,_,rfl,rfl,bg (s1 _ _ G),rfl,rfl;have:=q H1 s1;rw[show soA b R zs N (.sg l n)=decide (V.int (Sy b ((R l.1).1,(R l.1).2) #[146])=V.int n)from decide_eq_decide.mpr ⟨λz=>congrArg V.int z,λz=>V.int.inj z⟩]at this;show this
 |lk l X=>
  let⟨y,j,vb,rfl,G,d,C⟩:=fR;let⟨⟨m,r,g,T,M⟩,R1,ls,n1,S1⟩:=hv l jA;let⟨⟨m2,r2,g2,d5,M2⟩,R2,i5,n2,S2⟩:=hv X #[186];let⟨x,I⟩:=ok l.2 jA;let⟨o2,j5⟩:=ok X.2 #[186];exists _,rfl,y,_,_,_,rfl,rfl,bg G,rfl;show⟨_,U,U,_,U,BC fI.s ?_⟩;show⟨_,U,U,_,U,RM fI.l ?_⟩;show⟨_,U,_,U,y,_,_,_,U,U,bg G,U,rd,.ref m,U,by rw[<-T];show lG.k (k:=.inr l.1) hd,?_⟩;show⟨_,U,y,_,_,_,U,U,bg G,U,_,U,j,o,l.2,zs,N,U,d,x,L,λH1 s1=>?_⟩;rw[I];exists m,r,g,b,_,_,_,rfl,M.same λa xs e=>s1 _ _ e,R1,ls,n1.1,hb,pos l jA;exists 1;show⟨_,U,_,U,_,U,y,_,_,_,U,U,bg (s1 _ _ G),U,rd,.ref m2,U,by rw[<-d5];show lG.k (k:=.inr X.1) (s1 _ _ hd),?_⟩;show⟨_,U,y,_,_,_,U,U,bg (s1 _ _ G),U,_,U,vb,o,X.2,zs,N,U,C.same (rL s1),o2,s1 _ _ L,λJ s2=>?_⟩;rw[j5];have DK:=s1.trans s2;exists m2,r2,g2,b,_,_,_,rfl,M2.same λa xs e=>DK _ _ e,R2,i5,n2.1,hb,pos X #[186],rfl;have:=q J DK;rw[show soA b R zs N (.lk l X)=decide (V.int (Sy b ((R l.1).1,(R l.1).2) #[146])=V.int (Sy b ((R X.1).1,(R X.1).2) (pk zs N X.2)))from decide_eq_decide.mpr ⟨λz=>congrArg V.int z,λz=>V.int.inj z⟩]at this;show this
def aid(F:bu K "_law_statement" "_law_statement" mN dV f fd)(aN:bh P w K mg base "_law_pick" 1 ["_law_script","_law_k"] [] (Fn K))(I:bh P w K mg base "_law_sum" 2 ["_law_script","_law_by","_law_names_here","_law_kind"] [] (ajU K))(br:mg "len" = Y):aR P w K mg base cO 3 f fd ["_law_script","_law_names_here","_law_rows"] (ago K):=by
 show F.ok fQ #[18] (λcq A d5 s H vs Q E S h=>?_)
 ·let⟨a,l,rd,m,r,g,b,rows,signs,kvs,xs,x,y,rfl,_⟩:=h;rfl
 let⟨a,l,rd,m,r,g,b,rows,signs,kvs,xs,x,y,rfl,d,C,u,hd,hm,M,s3,q⟩:=h;have hu:=ow S;show mD (aD (eI.mk (aB (i:=3) fQ.nd (aC bK (aC cz (aK aN S #[89]) ag) ag)))
   (aD (ai0 (PTW.mk (aG Sl (pv 3) ag (aL _))) (dM (abV (abW (cV (Em.mk (ax bR (bS (aa ba (aa ba (aa ba af)))) (pv 3) #[2])) (cV #[38] (cV #[38] Fq)))))) aar)
   (aD (ai0 (PTW.mk (aG cK (pv 3) ag (aL _))) (aD (eI.mk (aB (i:=4) fQ.nd (ax ay (iE hu (pv 2) ba #[2]) ag #[2])))
   (aD (eI.mk (aB (i:=5) fQ.nd (ax ay (aC abj (pv 4) (cA (aa ag (aa ag af)))) (aC bK (aC cz (aK aN S #[89]) ag) (aC cJ (aH aM #[31] br bZ #[125]) ag)) #[2])))
   (dM (abV (abW (cV (Em.mk ba) (cV (Em.mk ba) (cV #[38] (cV (Em.mk (pv 5)) Fq))))))))) aar)
   (dM (abV (abW (cV (Em.mk ba) (cV (Em.mk ba) (cV #[38] (cV (Em.mk ba) (cV #[38] Fq))))))))))) ?_
 exists 0;exists 1;show⟨_,U,a,10,xs,U,d,⟨by decide,by decide⟩,_,_,U,U,⟨by decide,by decide⟩,_,_,U,U,(by change(0:Int)<5;decide),?_⟩;have m5:=cb (a:=dD xs 10 / 2) (b:=5) #[9];let⟨k,ek⟩:=gn (dD xs 10 / 2%5);rw[ek]at m5 ⊢;exists 1;show⟨_,U,_,_,U,U,_,U,rM #[39] #[39]⟩
 ·show⟨#[35],λL hL=>?_⟩;have sL:=ak hL (HO.lst [V.str (Str.ofString "="),V.str (Str.ofString "<="),V.str (Str.ofString "<")]);obtain⟨k3,e3⟩:∃k3:Fin 3,wV [V.str (Str.ofString "="),V.str (Str.ofString "<="),V.str (Str.ofString "<")] k=Z (V.str (kC k3)):=by
   have h3:k=0\/k=1\/k=2:=by lia
   rcases h3 with e|e|e<;>rw[e]
   ·show⟨0,U⟩
   ·show⟨1,U⟩
   ·show⟨2,U⟩
  exists _,rfl,L,_,_,_,rfl,rfl,bM ae,e3;show⟨_,U,_,U,a,l,11,0,xs,x,y,U,sL.seq d,⟨by decide,by decide⟩,⟨by decide,by decide⟩,sL _ _ C,u,λG B H1 s1 t J _ v=>?_⟩;have W:=sL.trans s1;show⟨_,U,_,U,a,l,22,0,xs,x,y,U,W.seq d,⟨by decide,by decide⟩,⟨by decide,by decide⟩,W _ _ C,u,λo N H2 s2 S2 n _ O=>?_⟩;show⟨#[35],λT hT=>?_⟩;have R:=ak hT (HO.tup [V.str (kC k3),G,o]);show q _ (.cm k3 B N) _ (W.trans (s2.trans R)) ⟨T,G,o,U,ae,t.same (rL (s2.trans R)),S2.same (rL R)⟩ ⟨trivial,λps D=>?_,λl C=>by cases C⟩;rcases jL.mp D with e|e
  ·rw[e];show⟨J,v⟩
  ·rw[jI.mp e];show⟨n,O⟩
 ·show⟨_,U,U,_,U,EG (λc3=>?_) (λc3=>?_)⟩
  ·exists _,rfl,rd,.ref m,rfl,by rw[<-hm];show lG.k (k:=.inr "B") hd,m,_,_,_,rfl,rfl,bg M.tup,rfl
   exists 1;show⟨_,U,#[14],λT0 i5=>?_⟩;have s0:=ak i5 (HO.tup [V.int 0,V.int 1]);show⟨g,T0,_,_,U,U,bg (s0 _ _ M.sgn),bg ae,jc (show _<=5 by rw[aW];change signs.length+2<=5;lia) #[9],λz=>?_,(λ_ z=>by cases z),λ_ _ p D=>?_⟩
   ·exfalso;have e:=congrArg zI z;rw[aW]at e;have e':signs.length=0:=e;lia
   have s1:=ak D (HO.tup (signs.map V.int++[V.int 0,V.int 1]));have X:=s0.trans s1;have md:=cb (a:=dD xs 33 / 3) (b:=(signs.length:Int)+2) #[1];have y4:=dY (ns:=signs++[0,1]) md.1 (by rw[jH];show md.2);rw[jD]at y4;show⟨_,U,a,33,xs,U,X.seq d,⟨by decide,by decide⟩,_,_,U,U,⟨by decide,by decide⟩,_,U,g,_,U,.inr (bg (X _ _ M.sgn)),_,_,U,U,_,_,U,U,by rw[aW];lia,p,_,_,_,U,U,bg ae,by rw[aW];show y4,?_⟩;exists 1;show⟨_,U,_,U,a,l,11,1,xs,x,y,U,X.seq d,⟨by decide,by decide⟩,⟨by decide,by decide⟩,X _ _ C,u,λG B H1 s2 t J j v=>?_⟩;show⟨_,U,(by change 4<=sizeLine;decide),λT hT=>?_⟩;have s4:=ak hT (HO.tup [V.str (Str.ofString "is"),V.str (Str.ofString "B"),G,V.int ((signs++[0,1]).getD (dD xs 33 / 3%((signs.length:Int)+2)).toNat 0)]);show q _ (.sg ("B",B) _) _ (X.trans (s2.trans s4)) ⟨T,G,rfl,ae,t.same (rL s4)⟩ ⟨rfl,λps D=>?_,λl C=>?_⟩
   ·rw[jI.mp D];show⟨J,v⟩
   ·rw[jI.mp C];show j #[9]
  ·show⟨_,U,_,U,a,l,11,2,xs,x,y,U,d,⟨by decide,by decide⟩,⟨by decide,by decide⟩,C,u,λG B H1 s1 t J j v=>?_⟩;show⟨_,U,_,U,a,l,22,2,xs,x,y,U,s1.seq d,⟨by decide,by decide⟩,⟨by decide,by decide⟩,s1 _ _ C,u,λo N H2 s2 S2 n j5 O=>?_⟩;show⟨(by change 5<=sizeLine;decide),λT hT=>?_⟩;have R:=ak hT (HO.tup [V.str (Str.ofString "like"),V.str (Str.ofString "B"),G,V.str (Str.ofString "C"),o]);show q _ (.lk ("B",B) ("C",N)) _ (s1.trans (s2.trans R)) ⟨T,G,o,rfl,ae,t.same (rL (s2.trans R)),S2.same (rL R)⟩ ⟨⟨rfl,rfl⟩,λps D=>?_,λl C=>?_⟩
   ·rcases jL.mp D with e|e
    ·rw[e];show⟨J,v⟩
    ·rw[jI.mp e];show⟨n,O⟩
   ·rcases jL.mp C with e|e
    ·rw[e];show j #[9]
    ·rw[jI.mp e];show j5 #[9]
def afg(F:bu K "_law_named" "_law_named" wI dV f fd):aR P w K mg base cO 1 f fd ["_law_statement_here","_law_rows"] abC:=by
 show F.ok Mh (λa H Q E h=>?_) (λcq A I s H a Q E S h=>?_)
 ·let⟨v,l,t,t0,t1,rfl,_⟩:=h;rfl
 let⟨v,l,t,t0,t1,rfl,M,C,q⟩:=h;show⟨_,(ah (bV (aG cK #[12] ba (aL _)) (ao (aE (aC abj (cA (aa ba (aa (ax bR (pv 1) ag #[2]) af))) (AV agb (pv 0) (DE ag) DD)))) aV)
   (ah (bV (aG cK #[12] ba (aL _)) (ao (aE (cA (aa ba (aa (ax bR (pv 1) ag #[2]) (aa #[12] (aa (ax bR (pv 1) ag #[2]) #[84]))))))) aV)
   (ao (aE (pv 0))))),?_⟩
 exists 0;exists 1;cases t with
 |cm k d e=>
  let⟨y,j,u,rfl,G,W,B⟩:=M;show⟨_,U,y,_,_,_,U,U,bg G,U,U,_,U,BC (Ad k).s ?_⟩;show⟨_,U,y,_,_,_,U,U,bg G,U,U,_,U,BC (Ad k).l ?_⟩;show⟨_,U,q _ H #[175] ⟨y,j,u,U,G,W,B⟩⟩
 |sg c n=>
  let⟨y,j,rfl,G,W⟩:=M;show⟨_,U,y,_,_,_,U,U,bg G,U,U,_,U,RM B6.s ?_⟩;show⟨_,U,l,_,_,_,U,U,bM C,U,#[14],λT r=>?_⟩;have s1:=ak r (HO.tup [V.str (Str.ofString "is"),V.str t0]);show⟨_,U,_,U,y,_,U,.inr ⟨bg (s1 _ _ G),#[70],λp D=>?_⟩⟩;have s2:=ak D (HO.tup [j,V.int n]);show⟨T,p,_,_,U,U,bg (s2 _ _ ae),bg (xs:=[j,V.int n]) ae,(by change 4<=sizeLine;decide),#[70],(λ_ z=>by cases z),λ_ _ m L=>?_⟩;have X:=ak L (HO.tup ([V.str (Str.ofString "is"),V.str t0]++[j,V.int n]));have b:=s1.trans (s2.trans X);show q _ _ b ⟨m,j,U,ae,W.same (rL b)⟩
 |lk c g=>
  let⟨y,j,u,rfl,G,W,B⟩:=M;show⟨_,U,y,_,_,_,U,U,bg G,U,U,_,U,BC fI.s ?_⟩;show⟨_,U,y,_,_,_,U,U,bg G,U,U,_,U,RM fI.l ?_⟩;show⟨_,U,l,_,_,_,U,U,bM C,U,_,U,y,_,_,_,U,U,bg G,U,_,U,l,_,_,_,U,U,bM C,U,_,U,y,_,_,_,U,U,bg G,U,(by change 5<=sizeLine;decide),λT r=>?_⟩;have s1:=ak r (HO.tup [V.str (Str.ofString "like"),V.str t0,j,V.str t1,u]);show q _ _ s1 ⟨T,j,u,U,ae,W.same (rL s1),B.same (rL s1)⟩
end
def G2:At->List (Option (List oH))
 |.cm _ a c=>[Z a,Z c]
 |.sg l _=>[Y,Z l.2,Y]
 |.lk l m=>[Y,Z l.2,Y,Z m.2]
def abZ(H:Hp)(u:V):Option (List oH)->Prop
 |some ps=>mj H u ps/\iy ps
 |none=>(∃n:Int,u=.int n)\/∃z:Str,u=.str z
def nmE:Option (List oH)->List Str
 |some ps=>pf ps
 |none=>[]
theorem abZ.same(s:Br H H'):∀{e:Option (List oH)} {u:V},abZ H u e->abZ H' u e
 |some _,_,h=>⟨h.1.same s,h.2⟩
 |none,_,h=>h
def aem(t:At):(G2 t).flatMap nmE=dB t:=by cases t<;>simp[G2,dB,lD,nmE]
def ahh(t:At):(G2 t).length<=4:=by cases t<;>(first|show(show 2<=4 by decide)|show(show 3<=4 by decide)|show jE _)
theorem ah0{u:V}:∀{e:Option (List oH)},abZ H u e->(nmE e).length<=8
 |some ps,h=>LG h.2
 |none,_=>jb _
def Mc(K:Yc):yL K (.type "int") #[169]=Z false:=by with_unfolding_all rfl
def Md(K:Yc):yL K (.type "str") #[169]=Z false:=by with_unfolding_all rfl
inductive abx (vs:List V) (H:Hp) (Q:VK) (E:XK):Prop|mk (v:V) (t:At) (_:vs=[v]) (_:eM H v t) (_:(∀ps∈lD t,iy ps)) (_:∀(T:Qp) (zs:List Str) (H':Hp),av H H'->H' T=Z #[94]->Cg zs (dB t)->Q #[158] H')
theorem akp:∀{v:V} {t:At},eM H v t->(∀ps∈lD t,iy ps)->∃(y:Qp) (k:V) (us:List V),v=.ref y/\H y=Z (.tup (k::us))/\qI (abZ H) us (G2 t)
 |_,.cm _ _ _,⟨y,j,u,e,h,G,M⟩,ok=>⟨y,_,[j,u],e,h,.cons ⟨G,ok _ jA⟩ (.cons ⟨M,ok _ #[186]⟩ .nil)⟩
 |_,.sg _ n,⟨y,j,e,h,G⟩,ok=>⟨y,_,[_,j,_],e,h,.cons (.inr ⟨_,rfl⟩) (.cons ⟨G,ok _ jA⟩ (.cons (.inl ⟨n,rfl⟩) .nil))⟩
 |_,.lk _ _,⟨y,j,u,e,h,G,M⟩,ok=>⟨y,_,[_,j,_,u],e,h,.cons (.inr ⟨_,rfl⟩) (.cons ⟨G,ok _ jA⟩ (.cons (.inr ⟨_,rfl⟩) (.cons ⟨M,ok _ #[186]⟩ .nil)))⟩
def anz(k:V)(us:List V):Cq (k::us) (Z 1) Y=us:=by unfold Cq HT.ie;simp
def aej{b:Int}(W:i<N.length):oP b low (N.drop (N.length-(i+1)))=oP b low (N.drop (N.length-i))*b+N.getD (N.length-1-i) 0 / low%b:=by
 have h:N.length-(i+1)<N.length:=by lia
 rw[JB h,show N.length-(i+1)+1=N.length-i from by lia,show N.length-1-i=N.length-(i+1)from by lia,getD_at h];rfl
theorem Sr(B:2<=b):∀N:LI,∃K:Nat,∀z∈N,z<(b:Int)^K
 |[]=>⟨0,λz S=>by cases S⟩
 |n::N=>by
  let⟨K,h⟩:=Sr B N;have G:n<(b:Int)^n.toNat:=by have:n.toNat<b^n.toNat:=jY Zs (Zt B _);have e:((n.toNat:Nat):Int)<((b^n.toNat:Nat):Int):=Int.ofNat_lt.mpr this;rw[Int.natCast_pow]at e;lia
  show⟨n.toNat+K,λz S=>?_⟩;rcases jL.mp S with e|e
  ·rw[e];show QG G (BD #[1] #[1])
  ·show QG (h z e) (BD #[1] #[1])
inductive abJ (vs:List V) (H:Hp) (Q:VK) (E:XK):Prop|mk (m r g l:Qp) (b:Nat) (N:LI) (rows:LL) (signs:LI) (_:vs=[.ref m,.ref l,.int b]) (_:H l=Z (.lst (N.map V.int))) (_:(∀z∈N,0<=z)) (_:N.length<=2) (_:(2<=b/\b<=4)) (_:bD H m r g (b^N.length) rows signs) (_:aQ rows.length (b^N.length) rows) (_:signs.length=rows.length) (_:1<=rows.length) (_:∀(L:Nat) (H':Hp),av H H'->(∀z∈N,0<=z/\z<(b:Int)^L)->Q (.int (sgn signs (bp rows (vJ b N L) 0))) H')
inductive abB (vs:List V) (H:Hp) (Q:VK) (E:XK):Prop|mk (m r g:Qp) (wide:Nat) (rows:LL) (signs:LI) (_:vs=[.ref m,.int wide]) (_:bD H m r g wide rows signs) (_:aQ rows.length wide rows) (_:signs.length=rows.length) (_:(1<=wide/\wide<=16)) (_:(1<=rows.length/\rows.length<100000)) (_:(∀z∈signs,z=0\/z=1)) (_:mR rows.length rows signs) (_:∀H':Hp,av H H'->Q (.bl true) H')
section
def pK:aA ["_law_statement_here","_law_found","_law_sums"] ["_law_statement_here"] (aq rV):=bQ #[0]
def Ay:aY ["_law_statement_here","_law_found","_law_sums"] (aq rV) ["_law_part"] [Y] ⟨.function,[#[41],("_law_part",.local)],false,false,[]⟩:=mH #[0]
def pd:aA ["_law_found","_law_wide","_law_row_here","_law_sign_here"] ["_law_found","_law_wide"] (aq lZ):=bQ #[0]
def rO:aY ["_law_found","_law_wide","_law_row_here","_law_sign_here"] (aq lZ) ["_law_one","_law_found"] [Y,Z 0] ⟨.function,[#[41],("_law_one",.local),("_law_whole",.globalImplicit),("len",.globalImplicit),("_law_found",.free)],false,false,[]⟩:=mH #[0]
def dH:aA ["_law_machine_here","_law_numbers_here","_law_base","_law_left","_law_here","_law_figure","_law_number"] ["_law_machine_here","_law_numbers_here","_law_base"] (aq rW):=bQ #[0]
def Az:aY ["_law_machine_here","_law_numbers_here","_law_base","_law_left","_law_here","_law_figure","_law_number"] (aq rW) ["_law_number","_law_base"] [Y,Z 2] ⟨.function,[#[41],("_law_number",.local),("_law_base",.free)],false,false,[]⟩:=mH #[0]
def Mj:aA ["_law_found"] ["_law_found"] (aq wJ):=bQ #[0]
def ae9(F:bu K "_law_free" "_law_free" rV dV f fd)(aX:mg "isinstance" = Y)(aF:mg "tuple" = Y)(mi:mg "sorted" = Y)(D5:mg "set" = Y):aR P w K mg base cO 1 f fd ["_law_statement_here"] abx:=by
 show F.ok pK #[18] (λcq A I s H vs Q E hr h=>?_)
 ·exists 26;rfl
 let⟨v,t,rfl,fR,ok,q⟩:=h;let⟨y,k,m,rfl,G,hu⟩:=akp fR ok;have l4:=ahh t;have lu:m.length=(G2 t).length:=Paired.length hu;show mD (aD (eI.mk (aB (i:=1) pK.nd (bS af)))
   (aD (eI.mk (cf PassesOwn.never rfl (eD (AV agb (pv 0) (DE ag) DD)) (bj (i:=2) pK.nd) (ao (bV (lX (aH fV #[31] aX cj (aa (pv 2) (aa (lS (v:=.ty "tuple") rfl aF bJ rfl) af)))) (ao (aB (i:=1) pK.nd (aC als (pv 1) (DB rfl Ay (eD (pv 2)) (λ_ _ _ _=>(bj (i:=0) Ay.nd)) (λ_ _ _ _=>(aG tE #[101] ba (aL _))) (λ_ _ _ _=>#[101]))))) aV))))
   (dM (eI.mk (aE (aS bq #[31] aF bJ (aa (aH ((sr rfl)) #[31] mi Ew (aa (aS ((Cp rfl)) #[31] D5 T8 #[33]) af)) af))))))) ?_
 exists 0;show⟨#[15],λLn C=>?_⟩;have sn:=ak C #[74];exists 1;show cg (t:=pQ _ _ _) (λO H'=>∃(a:Qp) (d:OV),O=[Z (.ref y),Z #[44],d]/\av H H'/\H' a=Z (.lst ((dB t).map V.str))/\(dB t).length<=32) ?_ #[27];exists 27
 ·show⟨_,U,_,U,y,_,U,.inr ⟨bg (sn _ _ G),#[173],λp hp=>?_⟩⟩
  ·rw[anz]at z;have:=congrArg zI z;simp at this
  rw[anz];have sp:=sn.trans (ak hp (HO.tup m));exists p,rfl,⟨_,bg ae⟩;show rR (K:=K) (xs:=m) (λi O H'=>∃(a:Qp) (d:OV),O=[Z (.ref y),Z #[44],d]/\av H H'/\H' a=Z (.lst ((((G2 t).take i).flatMap nmE).map V.str))/\H' p=Z (.tup m)/\(((G2 t).take i).flatMap nmE).length<=8*i) ⟨Ln,Y,U,sp,(ak hp _) _ _ ae,ae,jb _⟩ (λi O H' _ ⟨_,_,_,_,_,h,_⟩=>bg h) ?_ ?_
  ·rintro i u O J hi ⟨a,d,rfl,s2,x,L,xl⟩;let⟨e,he,r⟩:=K5 hu hi;have o:=abZ.same (rL s2) he;have il:=(lH r).1;have R:((G2 t).take (i+1)).flatMap nmE=((G2 t).take i).flatMap nmE++nmE e:=by rw[jS,r,zy];simp
   have el:=ah0 he;have g:(((G2 t).take (i+1)).flatMap nmE).length<=8*(i+1):=by rw[R,jH];lia
   cases e with
   |none=>
    have X:J a=Z (.lst ((((G2 t).take (i+1)).flatMap nmE).map V.str)):=by rw[R,show nmE Y=[]from rfl,jh];show x
    rcases o with⟨n,rfl⟩|⟨z,rfl⟩
    ·show⟨_,U,_,_,_,_,U,mW.int n,Mc K,_,U,ox ⟨a,_,U,s2,X,L,g⟩⟩
    ·show⟨_,U,_,_,_,_,U,mW.str z,Md K,_,U,ox ⟨a,_,U,s2,X,L,g⟩⟩
   |some ps=>
    let⟨⟨b,as,rfl,hb,hA⟩,W⟩:=o;have y4:as.length=ps.length:=Paired.length hA;have i5:=W.1;show⟨_,U,_,_,_,_,U,mW.tup hb,cN K,_,U,Cu ?_⟩;exists _,rfl,_,rfl,b,rfl,⟨_,bg hb⟩;show Bv (K:=K) (xs:=as.map V.ref) (λD j M H'=>av J H'/\M=(pf #[185]).map V.str) #[114] (λD j M H' _ ⟨e,_⟩=>bg (e _ _ hb)) ?_ ?_
    ·rintro D j y M H' Qy Qn hD hj G ⟨hs,rfl⟩ ky kn;let⟨c,p,rfl,hc,d5⟩:=DA hA hj;have EF:H' c=Z #[81]:=hs _ _ hc;have e2:pf (ps.take (j+1))=pf #[185]++(if p.2=("" : Str)then []else [p.2]):=by rw[jS,d5,<-Oe];rfl
     have jl:(pf #[185]).length<=8:=by unfold pf;rw[aW];show jc (JR ..) ?_;rw[jT];lia
     show⟨_,U,c,_,_,_,U,U,bg EF,U,U,_,U,tu #[173] #[173]⟩
     ·have z':¬ p.2=("" : Str):=λy=>z (Mw.mpr y);show⟨_,U,c,_,_,_,U,U,bg EF,U,ky _ _ G (cC #[25]) ⟨au hs hD,?_⟩⟩;rw[e2,if_neg z',jD];rfl
     ·show kn _ G ⟨hs,?_⟩;rw[e2,if_pos (Mw.mp z),jh]
    ·rintro lf M H3 fl G ⟨B,rfl⟩;rw[aW,y4,jV]at G;show⟨a,lf,_,_,U,U,B _ _ x,G,jc (show _<=1000 by rw[aW,aW];have:=LG W;lia) #[9],λl3 h3=>?_⟩;have N:=B.trans (ak h3 (HO.lst ((((G2 t).take i).flatMap nmE).map V.str++(pf ps).map V.str)));show⟨l3,_,U,s2.trans N,by rw[ae,R,jD];rfl,N _ _ L,g⟩
  ·rintro O J ⟨a,d,rfl,s2,x,L,xl⟩;rw[lu,jV,aem]at x xl;show cI _ _ ⟨a,d,U,s2,x,by lia⟩
 rintro O J ⟨a,d,rfl,s2,x,fl⟩;show⟨_,U,a,dB t,U,x,by lia,λS hS=>?_⟩;have B:=ak hS (Ci P w S (iZ (dB t)));show⟨S,iZ (dB t),U,ae,by have:=EU (dB t);lia,λl ms hl pm so=>?_⟩;have N:=ak hl (HO.lst (ms.map V.str));show⟨l,_,U,.inl ⟨bM ae,λT hT=>?_⟩⟩;show q T ms _ ((s2.trans (B.trans N)).trans (ak hT _)) ae (Cg.ET pm so)
def afw(F:bu K "_law_whole" "_law_whole" wJ dV f fd)(a:mg "isinstance" = Y)(i:mg "int" = Y)(b:mg "bool" = Y):aR P w K mg base cO 1 f fd ["_law_found"] DX:=by
 show F.ok Mj #[11] #[5]
 ·let⟨z,rfl,_⟩:=h;rfl
 let⟨z,rfl,q⟩:=h;show⟨_,(ao (aE (wF (aH fV #[31] a cj (aa (pv 0) (aa (lS (v:=.ty "int") rfl i IA rfl) af))) (wG (afJ (aH fV #[31] a cj (aa (pv 0) (aa (lS (v:=.ty "bool") rfl b aaB rfl) af)))))))),?_⟩;exists 0;show⟨_,U,_,_,_,_,U,mW.int z,FL K,_,U,Cu ?_⟩;show⟨_,U,_,_,_,_,U,mW.int z,Dn K,_,U,q⟩
def afq(F:bu K "_law_sign" "_law_sign" rW dV f fd)(iP:mg "list" = Y)(Oo:mg "max" = Y)(mP:mg "reversed" = Y):aR P w K mg base cO 1 f fd ["_law_machine_here","_law_numbers_here","_law_base"] abJ:=by
 show F.ok dH #[18] (λcq A I s H vs Q E hr h=>?_)
 ·let⟨m,r,g,l,b,N,rows,signs,rfl,_⟩:=h;rfl
 let⟨m,r,g,l,b,N,rows,signs,rfl,hl,hN,l2,B,M,R,ls,n1,q⟩:=h;show mD (aD (eI.mk (aB (i:=3) dH.nd (aS OS #[31] iP De #[33])))
   (aD (eI.mk (aB (i:=4) dH.nd ag))
   (aD (eI.mk (oC PassesOwn.never (aG N2 (aiq rfl rfl Oo #[49] ag) ag (aL _)) (ah (aB (i:=5) dH.nd ag)
   (ah (cf PassesOwn.never rfl (afQ rfl mP #[49]) (bj (i:=6) dH.nd) (ao (aB (i:=5) dH.nd (aC cJ (aC wD (pv 5) (pv 2)) (aC bK (pv 6) (pv 2))))))
   (ah (aB (i:=4) dH.nd (ax ay (ax ay #[12] (pv 4) #[2]) (pv 5) #[2]))
   (ao (eR (i:=3) rfl dH.nd rfl #[140] Az (cU (pv 3)) (λ_ _ _ _=>(bj (i:=0) Az.nd)) (λ_ _ _ _=>(aC cz (pv 0) (pv 1))))))))))
   (dM (eI.mk (aE (ax ay #[12] (pv 4) #[2]))))))) ?_
 exists 0;exists 1;let⟨hm,⟨fz,AL,hA⟩,hg⟩:=M;show⟨_,U,l,_,U,.inl (bM hl),λL0 C=>?_⟩;have s0:=ak C (HO.lst (N.map V.int));show tP ?_;exists 1;let⟨KK,hK⟩:=Sr B.1 N;have y:∀i,0<=bp rows (vJ b N i) 0/\bp rows (vJ b N i) 0<(rows.length:Int):=λi=>oG R (agG B.1 N i) #[9] #[1];show cg (t:=sU _ _) (λO H'=>∃(i:Nat) (v3 X G:OV),O=[Z #[136],Z #[102],Z (.int b),v3,Z #[110],X,G]/\av H H'/\∀z∈N,0<=z/\z<(b:Int)^i) ?_ #[27];exists 27
 ·show sd (λmm O H'=>∃(i:Nat) (a:Qp) (X G:OV),mm=KK-i/\O=[Z #[136],Z #[102],Z (.int b),Z #[44],Z #[110],X,G]/\av H H'/\H' a=Z (.lst (#[127].map V.int))) ⟨_,0,L0,Y,Y,U,U,s0,?_⟩ ?_
  ·rw[ae];have:N.map (· / (b:Int)^0)=N:=(zB λz _=>by rw[Qh,ZT]).trans (Zz N);rw[this]
  rintro mm O d ⟨i,a,X,G,rfl,rfl,s1,x⟩;have L:=hJ B.1 i;have T:(∀z∈N,z / (b:Int)^i<=0)->∀z∈N,0<=z/\z<(b:Int)^i:=λh z S=>by
   have h0:=hN z S;have h1:=h z S;have h2:=zS h0 (Ja L);have e:z / (b:Int)^i=0:=by lia
   exists h0;have:=Int.lt_ediv_add_one_mul_self z L;rw[e,Je,Qk]at this;show this
  show⟨_,U,a,N.map (· / (b:Int)^i),.int 0,U,U,bM x,λe=>?_,λMx hM le=>?_⟩
  ·show⟨_,_,U,U,_,U,BC #[9] ?_⟩;have N0:N=[]:=List.map_eq_nil_iff.mp e;show cI _ _ ⟨i,_,X,G,U,s1,λz S=>by rw[N0]at S;cases S⟩
  ·show⟨_,_,U,U,_,U,rM #[39] #[39]⟩;exists 27
   ·show cI _ _ ⟨i,_,X,G,U,s1,T λz S=>zN (le _ (jK.mpr ⟨z,S,U⟩)) #[1]⟩
   have iK:i<KK:=by show Nat.lt_of_not_le λh=>?_;let⟨z,S,ez⟩:=jK.mp hM;have z1:=hK z S;have mono:(b:Int)^KK<=(b:Int)^i:=BD #[1] h;have:z / (b:Int)^i=0:=zL (hN z S) #[1];lia
   show⟨λO H'=>∃m',m'<KK-i/\∃(i:Nat) (a:Qp) (X G:OV),m'=KK-i/\O=[Z #[136],Z #[102],Z (.int b),Z #[44],Z #[110],X,G]/\av H H'/\H' a=Z (.lst (#[127].map V.int)),λ_ _ h=>h,?_⟩;show tP ?_;exists 1;have W:#[127].length=N.length:=jW _;show cg (t:=pQ _ _ _) (λO H'=>∃G:OV,O=[Z #[136],Z #[102],Z (.int b),Z #[44],Z #[110],Z (.int (oP b ((b:Int)^i) N)),G]/\d=H') ?_ (λD2 Mg=>?_);exists 27
   ·show⟨_,U,a,_,U,bM x,aaQ (K:=K) (xs:=#[127].map V.int) (λj O H'=>∃G:OV,O=[Z #[136],Z #[102],Z (.int b),Z #[44],Z #[110],Z (.int (oP b ((b:Int)^i) (N.drop (N.length-j)))),G]/\d=H') ⟨G,by rw[QC,ZV];rfl,U⟩ (λj O H' _ ⟨_,_,e⟩=>by rw[<-e];show bM x) ?_ ?_⟩
    ·rintro j u O H' k hu ⟨G,rfl,rfl⟩;let⟨z,rfl,S⟩:=cy hu;rw[aW,W]at k S;rw[jR]at S;let⟨z0,v,ez⟩:=Jd.mp S;have e0:N.getD (N.length-1-j) 0=z0:=by rw[jQ,v];rfl
     show⟨_,U,_,U,_,_,U,U,.inr ⟨by lia,by lia⟩,_,U,_,U,_,_,U,U,#[1],_,_,U,U,Z (.int z),?_,U⟩;rw[aej k,e0,ez];rfl
    ·rintro O H' ⟨G,rfl,rfl⟩;rw[aW,W,zO,QY];show Mg _ _ ⟨G,U,U⟩
   rintro O H' ⟨G,rfl,rfl⟩;have fj:=Hq (low:=(b:Int)^i) B.1 N;have A1:=hA.same (H':=d) λc xs e=>s1 _ _ e;let⟨ra,rr,e1,e2,e3⟩:=AZ A1 R (y i).1 (y i).2 fj.1 fj.2;exists _,rfl,m,_,_,_,rfl,rfl,bg (s1 _ _ hm),rfl,_,rfl,r,_,_,_,rfl,rfl,bg (s1 _ _ AL),e1,_,rfl,ra,_,_,_,rfl,rfl,bg e2,e3;exists 1;have st:stepI rows (bp rows (vJ b N i) 0) (oP b ((b:Int)^i) N)=bp rows (vJ b N (i+1)) 0:=by rw[HN,cW];rfl
   rw[st];exists _,rfl,a,rfl,⟨_,bM x⟩;show iX (K:=K) (xs:=#[127].map V.int) (λD j n J=>av d J/\n=((N.take j).map (· / (b:Int)^(i+1))).map V.int) (λD o=>⟨ak o _,U⟩) (λD j n J _ ⟨e,_⟩=>bM (e _ _ x)) ?_ ?_
   ·rintro D j u n J Q' o k p ⟨hs,rfl⟩ k';let⟨z,rfl,S⟩:=cy k;rw[jR]at S;let⟨z0,v,rfl⟩:=Jd.mp S;have jl:=(lH v).1;show⟨_,U,_,U,_,_,U,U,⟨by lia,by lia⟩,k' _ _ p (cC #[79]) ⟨au hs o,?_⟩⟩;rw[jS,v,jD,jD];change _=_++[V.int (z0 / (b:Int)^(i+1))];rw[zA,Zb (Ja L)]
   ·rintro D n J o p ⟨hs,rfl⟩;rw[aW,W,jV]at p;show⟨KK-(i+1),by lia,i+1,D,_,_,U,U,s1.trans hs,p⟩
 rintro O d ⟨i,v3,X,G,rfl,s1,S⟩;show⟨_,U,m,_,_,_,U,U,bg (s1 _ _ hm),U,_,U,g,_,_,_,U,U,bg (s1 _ _ hg),dY (y i).1 (by rw[ls];show(y i).2),q i d s1 S⟩
def afe(F:bu K "_law_machine" "_law_machine" lZ dV f fd)(lK:bh P w K mg base "_law_whole" 1 ["_law_found"] [] DX)(c:mg "isinstance" = Y)(I:mg "tuple" = Y)(o:mg "len" = Y)(y4:mg "zip" = Y):aR P w K mg base cO 2 f fd ["_law_found","_law_wide"] abB:=by
 show F.ok pd #[18] (λcq A d5 s H vs Q E hr h=>?_)
 ·let⟨m,r,g,wide,rows,signs,rfl,_⟩:=h;rfl
 let⟨m,r,g,wide,rows,signs,rfl,M,R,ls,hw,hn,i5,hS,q⟩:=h;show mD (aD (eI.mk (bV (PW.pt (tJ (oU (lX (aH fV #[31] c cj (aa (pv 0) #[95])))) (tJ (aG tE #[126] ag (aL _)) (tJ (oU (lX (aK lK hr #[84]))) (E1 (aG tE #[12] (pv 1) (aL _))))))) (ao (aE rl)) aV))
   (aD (eI.mk (bV (PW.pt (tJ (oU (lX (aH fV #[31] c cj (aa #[12] #[95])))) (tJ (oU (lX (aH fV #[31] c cj (aa #[12] #[95])))) (E1 (aG tE (aH aM #[31] o bZ #[84]) (aH aM #[31] o bZ #[84]) (aL _)))))) (ao (aE rl)) aV))
   (aD (eI.mk (cf PassesOwn.never rfl (aiv rfl y4 (aa #[12] #[84])) (EX rfl (dC (bj (i:=2) pd.nd) (dC (bj (i:=3) pd.nd) wH))) (ah (bV (PW.pt (tJ (oU (lX (aH fV #[31] c cj (aa (pv 2) #[95])))) (tJ (aG tE (aH aM #[31] o bZ #[75]) (pv 1) (aL _)) (tJ (oU (lX (aK lK hr #[49]))) (E1 (aG Ph (pv 3) (bS (aa ag (aa ag af))) #[22])))))) (ao (aE rl)) aV)
   (ah (bV (aG tE (aH aM #[31] o bZ (aa (DB rfl rO (eD (pv 2)) (λ_ _ _ _=>(bj (i:=0) rO.nd)) (λ_ _ _ _=>(PW.pt (AY (lX (aK lK hr #[26])) (BK (afT Sk Sl ag (pv 0) (aH (L8 K) #[31] o bZ (aa (ax (mS K) (pv 1) ag #[2]) af))))))) (λ_ _ _ _=>(pv 0))) af)) (pv 1) (aL _)) (ao (aE rl)) aV)
   (ao (bV (aG tE (ax ay #[12] #[88] #[2]) (pv 3) (aL _)) (ao (aE rl)) aV))))))
   (dM (eI.mk (aE (eO N2 (aH aM #[31] o bZ #[84]) ag (aL _)))))))) ?_
 exists 0;exists 1;let⟨N,⟨fz,p,hA⟩,a⟩:=M;have b:=hA.length;show⟨_,U,_,_,_,_,U,mW.tup N,cN K,_,U,ox ?_⟩;show⟨_,U,m,_,U,.inr (bg N),U,_,U,tu (λn=>absurd rfl n) #[174]⟩;show⟨_,U,m,_,_,_,U,U,bg N,U,_,U,_,U,ox ?_⟩;show⟨_,U,m,_,_,_,U,U,bg N,U,_,U,U,_,U,tu (λn=>absurd rfl n) #[174]⟩;show⟨_,U,m,_,_,_,U,U,bg N,U,_,_,_,_,U,mW.tup p,cN K,_,U,ox ?_⟩;show⟨_,U,m,_,_,_,U,U,bg N,U,_,_,_,_,U,mW.tup a,cN K,_,U,ox ?_⟩;exists _,rfl,m,_,_,_,rfl,rfl,bg N,rfl,r,_,rfl,.inr (bg p);show⟨_,U,m,_,_,_,U,U,bg N,U,g,_,U,.inr (bg a),U,_,U,tu (λn=>absurd (by rw[aW,aW,b,ls]) n) #[174]⟩;exists 1;show cg (t:=pQ _ _ _) (λO H'=>∃d k:OV,O=[Z #[136],Z #[176],d,k]/\av H H') ?_ #[27];exists 27
 ·exists _,rfl,m,_,_,_,rfl,rfl,bg N,rfl,_,rfl,m,_,_,_,rfl,rfl,bg N,rfl,r,g,rfl,⟨_,bg p⟩,⟨_,bg a⟩;show ael (K:=K) (xs:=fz.map V.ref) (ys:=signs.map V.int) (by rw[aW,aW,b,ls]) (λi O H'=>∃d k:OV,O=[Z #[136],Z #[176],d,k]/\av H H') ⟨Y,Y,U,av.refl _⟩ (λi O H' _ ⟨_,_,_,s⟩=>⟨bg (s _ _ p),bg (s _ _ a)⟩) ?_ (λO H' ⟨d,k,e,s⟩=>cI _ _ ⟨d,k,e,s⟩);rintro i x y O H1 T hx G ⟨d,k,rfl,s1⟩ hT;let⟨sg,rfl,B⟩:=cy G;have X:i<rows.length:=by rw[<-ls];show(lH B).1
  let⟨ra,e1,J⟩:=bF.get hA X;have ex:x=.ref ra:=by rw[jR,e1]at hx;show(Option.some.inj hx).symm
  subst ex;have s2:=s1.trans (ak hT (HO.tup [V.ref ra,V.int sg]));have C:=s2 _ _ J;have l:rows[i].length=wide:=R.row _ (jO X);exists T,_,rfl,bg ae,rfl,_,_,rfl,_,_,rfl,rfl;show⟨_,U,_,_,_,_,U,mW.tup C,cN K,_,U,ox ?_⟩;show⟨_,U,ra,_,U,.inr (bg C),_,U,U,_,U,tu (λn=>absurd (by rw[aW,l]) n) #[174]⟩;show⟨_,U,_,U,_,U,ox ?_⟩;show⟨_,U,#[14],λL hL=>?_⟩;have s3:=s2.trans (ak hL (HO.lst [V.int 0,V.int 1]));show⟨L,_,U,.inl (bM ae),U,U,_,U,BC ?_ ?_⟩
  ·rcases i5 sg (tw B)with e|e<;>rw[e]<;>decide +kernel
  exists 1;have j5:=s3 _ _ J;show cg (λO H'=>O=[Z #[136],Z #[176],Z (.ref ra),Z (.int sg)]/\av H H') ?_ (λD2 Mg=>?_);exists 27
  ·exists _,rfl,ra,rfl,⟨_,bg j5⟩;show Bv (K:=K) (xs:=rows[i].map V.int) (λD j S H'=>av H H'/\S=(rows[i].take j).map V.int) (λD hD=>⟨s3.trans (ak hD _),U⟩) (λD j S H' _ ⟨e,_⟩=>bg (e _ _ J)) ?_ ?_
   ·rintro D j u S H4 Qy Qn hD hj G ⟨hs,rfl⟩ ky kn;let⟨z,rfl,hz⟩:=cy hj;have zr:=R.val _ (jO X) z (tw hz);have jl:=(lH hz).1;show⟨_,U,z,U,_,U,Cu ?_⟩;show⟨_,U,_,_,U,U,_,U,rM #[174] (λn=>absurd zr.1 n)⟩;show⟨_,U,m,_,_,_,U,U,bg (hs _ _ N),U,r,_,U,.inr (bg (hs _ _ p)),_,_,U,U,_,U,rM #[174] (λn=>absurd (by rw[aW,b];show zr.2) n)⟩;show⟨_,U,ky _ _ G (cC (by rw[aW,jT];lia)) ⟨au hs (s3.free hD),?_⟩⟩;rw[jS,hz,jD];rfl
   ·rintro D S H4 hD G ⟨hs,rfl⟩;rw[aW,jV]at G;show⟨D,_,U,.inl (bM G),_,U,U,_,U,tu (λn=>absurd (by rw[aW,l]) n) (λ_=>Mg _ _ ⟨U,hs⟩)⟩
  rintro O H4 ⟨rfl,s4⟩;have z0:(0:Int)<wide:=by lia
  have W:(0:Int)<=(i:Int)/\(i:Int)<(rows.length:Int):=by lia
  have st:=cP R W.1 W.2 (JF 0) z0;have o5:signs.getD i 0=sg:=by rw[jQ,B];rfl
  have eS:=hS (i:Int) W.1 W.2;rw[jG,o5]at eS;have er:rows[i].getD 0 0=stepI rows (i:Int) 0:=by unfold stepI;rw[jG,getD_at X];rfl
  show⟨_,U,m,_,_,_,U,U,bg (s4 _ _ N),U,_,U,ra,_,_,_,U,U,bg (s4 _ _ J),dY (JF 0) (by rw[l];show z0),g,_,_,V.int (signs.getD (stepI rows (i:Int) 0).toNat 0),U,U,bg (s4 _ _ a),?_,?_⟩
  ·rw[show(0:Int).toNat=0 from rfl,er];show dY st.1 (by rw[ls];show st.2)
  ·show⟨_,U,U,_,U,tu (λn=>absurd (by rw[eS]) n) (λ_=>⟨_,_,U,s4⟩)⟩
 rintro O H1 ⟨d,k,rfl,s1⟩;exists _,rfl,m,_,_,_,rfl,rfl,bg (s1 _ _ N),rfl,r,_,rfl,.inr (bg (s1 _ _ p)),_,_,rfl,rfl;rw[aW,b,decide_eq_true (show(0:Int)<(rows.length:Int) by lia)];show q _ s1
end
def Sb(h:zs.length=N.length):(oz zs N).length=zs.length:=by unfold oz;rw[aW,List.length_zip,h,Nat.min_self]
theorem abg:∀{zs:List Str} {N:LI},z∉zs->LX zs N z=Y
 |[],_,_=>by unfold LX;rw[List.zip_nil_left];rfl
 |_::_,[],_=>by unfold LX;rw[List.zip_nil_right];rfl
 |x::zs,n::N,h=>by rw[iC,if_neg (λe=>h (by rw[e];show jA))];show abg λe=>h (jF _ e)
def ac4{n:Int}(C:zs.length=N.length)(h:z∉zs):putK (oz zs N) (.inr z) (.int n)=oz (zs++[z]) (N++[n]):=by rw[Sv _ (by rw[Pf,abg h];rfl)];unfold oz;rw[List.zip_append C,jD];rfl
def Du{n:Int}(h:z∉zs):putK (oz (z::zs) (n::N)) (.inr z) (.int m)=oz (z::zs) (m::N):=by
 have e:((oz (z::zs) (n::N)).any λi=>decide (i.1=.inr z))=true:=by rw[Jz];show⟨_,jA,decide_eq_true rfl⟩
 unfold putK;rw[if_pos e];change(if (Sum.inr z:Key)=.inr z then _ else _)::(oz zs N).map _=(Sum.inr z,V.int m)::oz zs N;rw[if_pos rfl];congr 1;show(zB λi a=>?_).trans (Zz _);let⟨p,D,rfl⟩:=jK.mp a;show if_neg λe=>h (by rw[<-Sum.inr.inj e];show(zQ D).1)
theorem Tb{f g:oH->Int}:∀(ps:List oH),(∀p∈ps,0<=f p-g p/\f p-g p<=M)->∀a c:Int,a-c<=(ps.map f).foldl (·+·) a-(ps.map g).foldl (·+·) c/\(ps.map f).foldl (·+·) a-(ps.map g).foldl (·+·) c<=a-c+M*ps.length
 |[],_,a,c=>by simp
 |p::ps,h,a,c=>by
  have G:=h p jA;have K:=Tb ps (λq l=>h q (jF _ l)) (a+f p) (c+g p);rw[jt,jt,JO,JO,jX];have e:M*((ps.length+1:Nat):Int)=M*(ps.length:Int)+M:=by rw[QV,zK];simp
  lia
def Oi{ps:List oH}(ok:iy ps):0<=Bn (z::zs) (1::N) ps-Bn (z::zs) (0::N) ps/\Bn (z::zs) (1::N) ps-Bn (z::zs) (0::N) ps<=8000000:=by
 have h:=Tb (M:=1000000) (f:=λp=>p.1*(LX (z::zs) (1::N) p.2).getD 1) (g:=λp=>p.1*(LX (z::zs) (0::N) p.2).getD 1) ps (λp D=>by
  have P:=(ok.2 p D).1;change 0<=p.1*(LX (z::zs) (1::N) p.2).getD 1-p.1*(LX (z::zs) (0::N) p.2).getD 1/\_<=_;rw[iC,iC];by_cases c:p.2=z
  ·rw[if_pos c,if_pos c];change 0<=p.1*1-p.1*0/\p.1*1-p.1*0<=_;lia
  ·rw[if_neg c,if_neg c];lia) 0 0
 have a:(ps.length:Int)<=8:=by have:=ok.1;lia
 unfold Bn PH;lia
inductive agk (K:Yc) (vs:List V) (H:Hp) (Q:VK) (E:XK):Prop|mk (cl tn:Qp) (v:V) (at_:Nat) (turn:Int) (ns:LI) (zs:List Str) (t:At) (_:vs=[.ref cl,.int at_,.ref tn,v,.int turn]) (_:H cl=Z (.lst #[47])) (_:(1<=ns.length/\ns.length<=100)) (_:at_<=100) (_:0<=turn) (_:H tn=Z #[94]) (_:zs.length<=2) (_:zs.Nodup) (_:eM H v t) (_:(∀ps∈lD t,iy ps)) (_:∀(nd:Qp) (N:LI) (H':Hp),av H H'->H' nd=Z (.dK (oz zs N))->zs.length=N.length->(∀z∈N,0<=z)->Q (.ref nd) H')
section
def dA:aA ["_law_cells","_law_at","_law_names_here","_law_statement_here","_law_turn","_law_numbers_here","_law_k","_law_cell","_law_lack","_law_scale"] ["_law_cells","_law_at","_law_names_here","_law_statement_here","_law_turn"] (aq rG):=bQ #[0]
def ah8(F:bu K "_law_numbers" "_law_numbers" rG dV f fd)(bW:bh P w K mg base "_law_value" 1 ["_law_parts","_law_numbers_here"] [] agq)(bw:mg "range" = Y)(br:mg "len" = Y)(Oo:mg "max" = Y):aR P w K mg base cO 2 f fd ["_law_cells","_law_at","_law_names_here","_law_statement_here","_law_turn"] (agk K):=by
 show F.ok dA #[18] (λcq A c6 s H vs Q E hr h=>?_)
 ·let⟨j,tn,v,at_,M,ns,zs,t,rfl,_⟩:=h;rfl
 let⟨j,tn,v,at_,M,ns,zs,t,rfl,d6,z6,ha,ht,g,l2,nd,fR,ok,q⟩:=h;have C:=ow hr;show mD (aD (eI.mk (aB (i:=5) dA.nd rn))
   (aD (agK PassesOwn.never rfl (de rfl bw (aa (aH aM #[31] br bZ #[75]) af)) (bj (i:=6) dA.nd) (aD (eI.mk (aB (i:=7) dA.nd (ax bR (pv 0) (aC bK (aC cJ (pv 1) (pv 6)) (aH aM #[31] br bZ #[26])) #[2])))
   (dM (eI.mk (pH C (pv 5) (ax ay (pv 2) (pv 6) #[2]) (ax bR (bS (aa (aC bK (pv 7) ag) (aa (aC bK (pv 7) (aC K4 ag ag)) (aa (aC bK (pv 7) (aC K4 ag ag)) af)))) (aC bK (pv 4) ag) #[2]) rfl)))))
   (aD (eI.mk (bV (PW.pt (AY (aG cK (aC bK (pv 4) ag) ag (aL _)) (AY (aG ic (ax ay (pv 3) ag #[2]) (bS (aa ba (aa ba (aa ba af)))) #[22]) (BK (aG N2 (aH aM #[31] br bZ #[75]) ag (aL _)))))) (ah (pH C (pv 5) #[88] ag rfl)
   (ah (aB (i:=8) dA.nd (aC AU #[67] #[67]))
   (ah (pH C (pv 5) #[88] ag rfl)
   (ah (aB (i:=9) dA.nd (aC cJ (aC AU (pv 8) #[67]) #[67]))
   (ah (pH C (pv 5) #[88] ag rfl)
   (ao (bV (aG tE (pv 9) ag (aL _)) (ao (pH C (pv 5) #[88] (aH (acg rfl) #[31] Oo ad2 (aa ag (aa (aC cJ (aC Sj (pv 8) (pv 9)) (aC bK (aC Sj (pv 4) ag) ag)) af))) rfl)) aV))))))) aV))
   (dM (eI.mk (aE (pv 5))))))) ?_
 exists 0;exists 1;let⟨lc,c7⟩:=gn (ns.length);show λD hD=>?_;have sN:=ak hD (HO.dK []);exists 1;show cg (t:=pQ _ _ _) (λO H'=>∃(N:LI) (G S:OV),O=[Z (.ref j),Z (.int at_),Z (.ref tn),Z v,Z (.int M),Z #[103],G,S,Y,Y]/\av H H'/\H' D=Z (.dK (oz zs N))/\zs.length=N.length/\∀z∈N,0<=z) ?_ #[27];exists 27
 ·show⟨_,U,tn,_,U,.inr (bg (sN _ _ g)),_,U,by rw[aW];lia,by rw[aW];lia,?_⟩;show hZ (λi O H'=>∃(N:LI) (G S:OV),O=[Z (.ref j),Z (.int at_),Z (.ref tn),Z v,Z (.int M),Z #[103],G,S,Y,Y]/\av H H'/\H' D=Z (.dK (oz (zs.take i) N))/\N.length=i/\∀z∈N,0<=z) ⟨[],Y,Y,U,sN,by rw[ae];rfl,U,λz hz=>by cases hz⟩ ?_ ?_
  ·rintro i O H1 hi ⟨N,G,S,rfl,s1,J,T,h0⟩;rw[jG,aW]at hi;have y4:=s1 _ _ d6;have md:=cb (a:=(at_:Int)+(0+(i:Int))) (b:=(#[47].length:Int)) #[25];show⟨_,U,_,U,_,U,_,_,U,U,_,U,j,_,U,.inl (bM y4),_,_,U,U,#[25],j,_,_,_,U,U,bM y4,dY md.1 (by rw[aW]at md;rw[aW];show md.2),?_⟩;exists 1;have h6:=s1 _ _ g;let⟨u,eu⟩:=gn (ns.getD (((at_:Int)+(0+(i:Int)))%(#[47].length:Int)).toNat 0);rw[eu];show⟨_,U,_,_,U,U,(by change(0:Int)<6;decide),_,U,_,_,U,U,⟨by decide,by decide,by decide⟩,_,_,U,U,(by change(0:Int)<10^18;decide),_,U,_,_,U,U,⟨by decide,by decide,by decide⟩,_,_,U,U,(by change(0:Int)<10^9;decide),#[35],λL hL=>?_⟩;have W:=ak hL (HO.lst [V.int (u%6),V.int (u%10^(18:Int).toNat),V.int (u%10^(9:Int).toNat)]);obtain⟨y,ey,y0⟩:∃y:Int,wV [V.int (u%6),V.int (u%10^(18:Int).toNat),V.int (u%10^(9:Int).toNat)] (M%3)=Z (V.int y)/\0<=y:=by
    have h3:M%3=0\/M%3=1\/M%3=2:=by lia
    rcases h3 with e|e|e<;>rw[e]
    ·show⟨_,U,(cb #[9]).1⟩
    ·show⟨_,U,(cb #[9]).1⟩
    ·show⟨_,U,(cb #[9]).1⟩
   have lt:(zs.take i).length=N.length:=by rw[jT,T];lia
   have i6:zs[i]∉zs.take i:=λh=>by
    have e:zs.take i++zs[i]::zs.drop (i+1)=zs:=by rw[<-JB hi];show zj _ _
    have d5:=nd;rw[<-e]at d5;show(JM.mp d5).2.2 _ h _ jA rfl
   exists _,rfl,_,_,rfl,rfl,#[122],L,_,_,_,rfl,rfl,bM ae,ey;show⟨_,U,_,U,_,U,tn,_,_,_,U,U,bg (W _ _ h6),(by rw[Je];show Bt (v:=V.str zs[i]) (by rw[jR,jC hi];rfl)),D,_,U,Ea.k (k:=.inr zs[i]) (W _ _ J) (bI (by rw[Sb lt,lt];lia)),?_⟩;show⟨N++[y],_,_,U,au (s1.trans W) hD,?_,by simp[T],λz hz=>?_⟩
   ·rw[ae,ac4 lt i6,jS,jC hi];rfl
   ·rcases BF.mp hz with h|h
    ·show h0 z h
    ·rw[jI.mp h];show y0
  ·rintro O H1 ⟨N,G,S,rfl,s1,J,T,h0⟩;rw[jG,aW]at J T;rw[jV]at J;show cI _ _ ⟨N,G,S,U,s1,J,T.symm,h0⟩
 rintro O H1 ⟨N,G,S,rfl,s1,J,T,h0⟩;show cg (λO H'=>∃(N:LI) (G S v8 v9:OV),O=[Z (.ref j),Z (.int at_),Z (.ref tn),Z v,Z (.int M),Z #[103],G,S,v8,v9]/\av H H'/\H' D=Z (.dK (oz zs N))/\zs.length=N.length/\∀z∈N,0<=z) ?_ #[27]
 ·rintro O H2 ⟨N,G,S,v8,v9,rfl,s2,k6,RB,l6⟩;show⟨_,U,q D N H2 s2 k6 RB l6⟩
 have old:∀H2,av H1 H2->D'.nx [Z (.ref j),Z (.int at_),Z (.ref tn),Z v,Z (.int M),Z #[103],G,S,Y,Y] H2:=λH2 s2=>cI _ _ ⟨N,G,S,Y,Y,rfl,s1.trans s2,s2 _ _ J,T,h0⟩;let⟨xk,rest,ev,o6⟩:=Hu fR;show⟨_,U,_,_,U,U,#[122],U,_,U,EG #[39] (λc=>O8 #[70] (λ_=>old _ #[175]))⟩;show⟨_,U,xk,_,_,_,ev,U,bg (s1 _ _ o6),at0,#[35],λL hL=>?_⟩;have W:=ak hL (HO.lst [V.str "=",V.str "<=",V.str "<"]);exists L,_,rfl,.inl (bM ae),rfl,rfl,_,rfl;cases t with
 |sg l n=>show BC B6.c (O8 #[70] (λ_=>old _ W))
 |lk l m=>show BC fI.c (O8 #[70] (λ_=>old _ W))
 |cm k pa pc=>
 show RM (Ad k).c ?_;show⟨_,U,tn,_,U,.inr (bg (W _ _ (s1 _ _ g))),_,_,U,U,_,U,rM (λc0=>?_) (λ_=>old _ W)⟩;rw[aW]at c0;exists 1;obtain⟨z,I,rfl⟩:∃z I,zs=z::I:=by
  cases zs with
  |nil=>show absurd c0 #[9]
  |cons z I=>show⟨z,I,rfl⟩
 obtain⟨n,d,rfl⟩:∃n d,N=n::d:=by
  cases N with
  |nil=>cases T
  |cons n d=>show⟨n,d,rfl⟩
 let⟨y,va,vb,rfl,hy,i5,j5⟩:=fR;have nz:=(jm.mp nd).1;have B:∀m:Int,(z::I).length=(m::d).length:=λm=>T;have lk:∀m:Int,(oz (z::I) (m::d)).length<sizeLine:=λm=>bI (by rw[Sb (B m)];lia);have o1:=ok pa jA;have o2:=ok pc #[186];have s2:=s1.trans W;exists _,rfl,_,rfl,tn,_,_,_,rfl,rfl,bg (s2 _ _ g),at0 (x:=.str z) (r:=I.map V.str),D,_,rfl,Ea.k (k:=.inr z) (W _ _ J) (lk n);rw[Du nz];let⟨H3,e3⟩:=gn (upd (upd H1 L (HO.lst [V.str "=",V.str "<=",V.str "<"])) D (HO.dK (oz (z::I) (0::d))));have s3:av H H3:=by rw[<-e3];show au s2 hD
 have LS:H3 D=Z (.dK (oz (z::I) (0::d))):=by rw[<-e3];show ae
 rw[e3];exists 1;show⟨_,U,y,_,_,_,U,U,bg (s3 _ _ hy),U,_,U,vb,D,pc,_,_,U,j5.same (rL s3),o2,LS,λH4 s4=>?_⟩;have X:=s3.trans s4;show⟨_,U,y,_,_,_,U,U,bg (X _ _ hy),U,_,U,va,D,pa,_,_,U,i5.same (rL X),o1,s4 _ _ LS,λH5 s5=>?_⟩;have o5:=X.trans s5;exists _,_,rfl,rfl;exists 1;exists _,rfl,_,rfl,tn,_,_,_,rfl,rfl,bg (o5 _ _ g),at0 (x:=.str z) (r:=I.map V.str),D,_,rfl,Ea.k (k:=.inr z) (s5 _ _ (s4 _ _ LS)) (lk 0);rw[Du nz];let⟨H6,e6⟩:=gn (upd H5 D (HO.dK (oz (z::I) (1::d))));have s6:av H H6:=by rw[<-e6];show au o5 hD
 have o:H6 D=Z (.dK (oz (z::I) (1::d))):=by rw[<-e6];show ae
 rw[e6];exists 1;show⟨_,U,_,U,y,_,_,_,U,U,bg (s6 _ _ hy),U,_,U,vb,D,pc,_,_,U,j5.same (rL s6),o2,o,λH7 s7=>?_⟩;have p:=s6.trans s7;show⟨_,_,U,U,_,U,y,_,_,_,U,U,bg (p _ _ hy),U,_,U,va,D,pa,_,_,U,i5.same (rL p),o1,s7 _ _ o,λH8 s8=>?_⟩;have w5:=p.trans s8;exists _,_,rfl,rfl;have n1:=Oi (zs:=I) (N:=d) (z:=z) o1;have n2:=Oi (zs:=I) (N:=d) (z:=z) o2;let⟨R,el⟩:=gn (Bn (z::I) (0::d) pc-Bn (z::I) (0::d) pa);rw[el];let⟨sc,es⟩:=gn (R-Bn (z::I) (1::d) pc+Bn (z::I) (1::d) pa);rw[es];have u6:sc.natAbs<1073741824:=by lia
 exists 1;exists _,rfl,_,rfl,tn,_,_,_,rfl,rfl,bg (w5 _ _ g),at0 (x:=.str z) (r:=I.map V.str),D,_,rfl,Ea.k (k:=.inr z) (s8 _ _ (s7 _ _ o)) (lk 1);rw[Du nz];let⟨H9,e9⟩:=gn (upd H8 D (HO.dK (oz (z::I) (0::d))));have s9:av H H9:=by rw[<-e9];show au w5 hD
 have z5:H9 D=Z (.dK (oz (z::I) (0::d))):=by rw[<-e9];show ae
 rw[e9];have pos:∀{m:Int},0<=m->∀u∈m::d,0<=u:=λ{m} hm u C=>by
  rcases jL.mp C with e|e
  ·rw[e];show hm
  ·show h0 u (jF _ e)
 exists 1;show⟨_,U,U,_,U,tu (λcs=>?_) (λ_=>cI _ _ ⟨0::d,_,_,_,_,U,s9,z5,B 0,pos (JF 0)⟩)⟩;have y6:sc≠0:=λe=>cs (by rw[e]);exists _,rfl,_,rfl,_,_,rfl,rfl,⟨y6,u6⟩,_,rfl,_,_,rfl,rfl,⟨by decide,by decide⟩,_,_,rfl,rfl,(by change(0:Int)<2;decide),_,_,rfl,rfl,0,_,rfl;exists _,rfl,_,rfl,tn,_,_,_,rfl,rfl,bg (s9 _ _ g),at0 (x:=.str z) (r:=I.map V.str),D,_,rfl,Ea.k (k:=.inr z) z5 (lk 0);rw[Du nz];show cI _ _ ⟨_,_,_,_,_,U,au s9 hD,ae,B _,pos ?_⟩;split
 ·lia
 ·show JF 0
end
inductive SU (K:Yc) (Ps:List Qp) (vs:List V) (H:Hp) (Q:VK) (E:XK):Prop|mk (a:Qp) (ns:LI) (_:vs=[.ref a]) (_:mC K H a #[47]) (_:ns.length<=63) (_:(∀b∈Ps,H b=Z (.Fo #[]))) (_:∀H',Q (.bl true) H')
theorem abP:∀zs:List Str,qI (se K 2 H) (zs.map V.str) (zs.map V.str)
 |[]=>.nil
 |z::zs=>.cons (.inl (.inl ⟨z,rfl,rfl⟩)) (abP zs)
theorem RN:∀r:LI,qI (se K 0 H) #[177] #[177]
 |[]=>.nil
 |i::r=>.cons (.inr ⟨i,rfl,rfl⟩) (RN r)
theorem RP:∀r:LI,qI (se K 1 H) #[177] #[177]
 |[]=>.nil
 |i::r=>.cons (.inl (.inr ⟨i,rfl,rfl⟩)) (RP r)
theorem abt:∀{rows:LL} {I bs:List Qp},bF H I rows->bF H bs rows->qI (se K 1 H) #[86] (bs.map V.ref)
 |[],I,bs,h,O=>by cases h;cases O;show .nil
 |r::rows,I,bs,h,O=>by
  cases h with
  |cons h t=>
   cases O with
   |cons O W=>show .cons (.inr ⟨_,_,_,_,rfl,rfl,bg h,bg O,RN r⟩) (abt t W)
def ahV{m r g L F g':Qp}(M:bD H m r g wide rows signs)(j:bD H L F g' wide rows signs):qI (se K 2 H) [.int wide,.ref r,.ref g] [.int wide,.ref F,.ref g']:=by let⟨fz,G,a⟩:=M.rows;let⟨b,k,D⟩:=j.rows;show .cons (.inl (.inr ⟨_,U,U⟩)) (.cons (.inr ⟨_,_,_,_,U,U,bg G,bg k,abt a D⟩) (.cons (.inr ⟨_,_,_,_,U,U,bg M.sgn,bg j.sgn,RP signs⟩) .nil))
def aeN{k:Nat}(S:eJ k A):A.units+(2+1)<cLine:=by have:=S.un;lia
def di(t0 t1:Str)(m0 m1:Qp):List #[157]:=dw [] [(.inr t0,.ref m0),(.inr t1,.ref m1)]
def rq(t0 t1 x:Str)(m0 m1:Qp):cG (di t0 t1 m0 m1) (.inr x)=if x=t1 then Z (.ref m1)else if x=t0 then Z (.ref m0)else Y:=by change cG (putK (putK ([]:List #[157]) (Sum.inr t0) (.ref m0)) (Sum.inr t1) (.ref m1)) (Sum.inr x)=_;rw[Tf,Tf];simp[agH]
def Z7:∀p∈di t0 t1 m0 m1,∃r,p.2=.ref r/\cG (di t0 t1 m0 m1) p.1=Z (.ref r):=by
 intro p D;by_cases c:t0=t1
 ·subst c;have e:di t0 t0 m0 m1=[(.inr t0,.ref m1)]:=by unfold di dw putK;simp
  have x:=D;rw[e]at x;rw[jI.mp x];show⟨m1,U,by rw[rq,if_pos rfl]⟩
 ·have e:di t0 t1 m0 m1=[(.inr t0,.ref m0),(.inr t1,.ref m1)]:=by unfold di dw putK;simp[c]
  have x:=D;rw[e]at x;rcases jL.mp x with z|z
  ·rw[z];show⟨m0,U,by rw[rq,if_neg c,if_pos rfl]⟩
  ·rw[jI.mp z];show⟨m1,U,by rw[rq,if_pos rfl]⟩
def aiL{ps:List oH}{x y:Str}(h:∀p∈ps,p.2=("" : Str)\/p.2=x\/p.2=y)(hz:z∈pf ps):z=x\/z=y:=by
 unfold pf at hz;let⟨p,D,rfl⟩:=jK.mp hz;let⟨G,M⟩:=jv.mp D;rcases h p G with e|e
 ·show absurd e (of_decide_eq_true M)
 ·show e
theorem aaR(t0 t1:Str):∀t:At,dB (nmT t0 t1 t)=dB t
 |.cm ..=>rfl
 |.sg ..=>rfl
 |.lk ..=>rfl
theorem aiM(t0 t1:Str):∀t:At,lD (nmT t0 t1 t)=lD t
 |.cm ..=>rfl
 |.sg ..=>rfl
 |.lk ..=>rfl
theorem RZ{l:Look}:∀{t:At},l∈iq (nmT t0 t1 t)->(l.1=t0\/l.1=t1)/\∃a∈iq t,a.2=l.2
 |.cm ..,h=>by cases h
 |.sg a n,h=>by rw[jI.mp h];show⟨.inl rfl,a,jA,U⟩
 |.lk a L,h=>by
  rcases jL.mp h with e|e
  ·rw[e];show⟨.inl rfl,a,jA,rfl⟩
  ·rw[jI.mp e];show⟨.inr rfl,L,jF _ jA,rfl⟩
theorem EL{l:Look}:∀{t:At},adW t->l∈iq t->l.1=("B" : Str)\/l.1=("C" : Str)
 |.cm ..,_,h=>by cases h
 |.sg a n,g,h=>by rw[jI.mp h];show .inl g
 |.lk a L,g,h=>by
  rcases jL.mp h with e|e
  ·rw[e];show .inl g.1
  ·rw[jI.mp e];show .inr g.2
theorem apD{R R0:Str->LL×LI}(d:R t0=R0 ("B" : Str))(T:R t1=R0 ("C" : Str)):∀{t:At},adW t->soA b R zs N (nmT t0 t1 t)=soA b R0 zs N t
 |.cm ..,_=>rfl
 |.sg l n,g=>by have q:l.1=("B" : Str):=g;change decide (Sy b (R t0) #[146]=n)=decide (Sy b (R0 l.1) #[146]=n);rw[d,q]
 |.lk l m,g=>by have v:l.1=("B" : Str):=g.1;have D:m.1=("C" : Str):=g.2;change decide (Sy b (R t0) #[146]=Sy b (R t1) (pk zs N m.2))=decide (Sy b (R0 l.1) #[146]=Sy b (R0 m.1) (pk zs N m.2));rw[d,T,v,D]
def ahp(t:At):("" : Str)∉dB t:=λh=>by let⟨ps,_,S⟩:=Jm.mp h;let⟨p,D,e⟩:=jK.mp S;show of_decide_eq_true (jv.mp D).2 e
def aen{t:At}{ps:List oH}{p:oH}(h:ps∈lD t)(D:p∈ps):p.2=("" : Str)\/p.2∈dB t:=by
 by_cases c:p.2=("" : Str)
 ·show .inl c
 ·show .inr (Jm.mpr ⟨ps,h,jK.mpr ⟨p,jv.mpr ⟨D,decide_eq_true c⟩,U⟩⟩)
theorem ajF:∀{zs:List Str} {N:LI} {i:Nat} {z:Str} {n:Int},zs.Nodup->zs[i]?=Z z->N[i]?=Z n->LX zs N z=Z n
 |[],_,_,_,_,_,h,_=>by cases h
 |_::_,[],_,_,_,_,_,h=>by cases h
 |x::zs,m::N,0,z,n,_,h,O=>by cases h;cases O;rw[iC,if_pos rfl]
 |x::zs,m::N,i+1,z,n,o,h,O=>by have M:zs[i]?=Z z:=h;have:=jm.mp o;rw[iC,if_neg (λe=>this.1 (by rw[<-e];show tw M))];show ajF this.2 M O
def ahW{R:Str->LL×LI}{t:At}(M:Mt b R zs t az aI):∀z∈aI,z=0\/z=1:=λz S=>by
 let⟨i,W,e⟩:=ji S;let⟨v,N,O⟩:=M.ord.Pp M.ok i (by rw[<-M.sg];show W);have T:=M.tells v N;have g:sgn aI (i:Int)=z:=by unfold sgn;rw[jG,getD_at W,e]
 rw[O,g]at T;rw[T];show alR
def R4{R:Str->LL×LI}{t:At}(M:Mt b R zs t az aI)(B:2<=b/\b<=4)(C:0<b^zs.length)(L:aax b R zs t):mR az.length az aI:=λq G E=>by
 let⟨v,N,O⟩:=M.ord.Pp M.ok q.toNat #[1];have eq:((q.toNat:Nat):Int)=q:=jf G;rw[eq]at O;have c:Ej #[120] (v++[0]):=λf V=>by
  rcases BF.mp V with h|h
  ·show N f h
  ·rw[jI.mp h];lia
 have T:=M.tells v N;have a:=M.tells _ c;rw[cW,O]at a;rw[O]at T;rw[aab B N L,<-T]at a;show a
def mC.keep(e:∀u,H a=Z u->(∀qs,u≠.Fo qs)->H' a=Z u)(h:mC K H a xs):mC K H' a xs:=by
 rcases h with(h|⟨o,h⟩)|h
 ·show .inl (.inl (e _ h λqs z=>by cases z))
 ·show .inl (.inr ⟨o,e _ h λqs z=>by cases z⟩)
 ·show .inr h
def anA(xs:LI):Cq #[108] Y (Z 63)=((xs++[0]).take 63).map V.int:=by unfold Cq;have e:HT.ie #[108].length #[108].length (Z 63)=min 63 #[108].length:=HT.aiC _ _ 63;rw[e,HT.af8,QY,QC,<-List.take_eq_take_min,List.map_take,jD];rfl
def af5(u1:Str)(p0 p1:LL×LI)(x:Str):LL×LI:=if x=u1 then p1 else p0
def akq{m g0 r1 v:Qp}{t:At}{i y:Str}{d o:LL}{a L:LI}(j:H rd=Z (.dK (di i y m0 m1)))(C:∀l∈iq t,l.1=i\/l.1=y)(k:bD H m0 m g0 b d a)(M1:bD H m1 r1 v b o L)(f:aQ d.length b d/\a.length=d.length/\(1<=d.length/\d.length<=3)/\mR d.length d a)(g:aQ o.length b o/\L.length=o.length/\(1<=o.length/\o.length<=3)/\mR o.length o L):Ou H rd b t (af5 y (d,a) (o,L)):=⟨_,j,λl h=>by
 by_cases c:l.1=y
 ·have e:af5 y (d,a) (o,L) l.1=(o,L):=if_pos c;rw[e,rq,if_pos c];show⟨⟨m1,r1,v,U,M1⟩,g.1,g.2.1,g.2.2.1,g.2.2.2⟩
 ·have e:af5 y (d,a) (o,L) l.1=(d,a):=if_neg c;have n:l.1=i:=(C l h).resolve_right c;rw[e,rq,if_neg c,if_pos n];show⟨⟨m0,m,g0,U,k⟩,f.1,f.2.1,f.2.2.1,f.2.2.2⟩⟩
section
def hX:aA ["_law_script","_law_base","_law_names_here","_law_titles","_law_rooms","_law_rows","_law_named_here","_law_statement_here","_law_due","_law_wide","_law_name","_law_found","_law_cells","_law_at","_law_numbers_here","_law_sign_here"] ["_law_script"] (aq SD):=bQ #[0]
def Ri:aY ["_law_script","_law_base","_law_names_here","_law_titles","_law_rooms","_law_rows","_law_named_here","_law_statement_here","_law_due","_law_wide","_law_name","_law_found","_law_cells","_law_at","_law_numbers_here","_law_sign_here"] (aq SD) ["_law_name"] [Y] ⟨.function,[#[41],("_law_name",.local)],false,false,[]⟩:=mH #[0]
def Rj:aY ["_law_script","_law_base","_law_names_here","_law_titles","_law_rooms","_law_rows","_law_named_here","_law_statement_here","_law_due","_law_wide","_law_name","_law_found","_law_cells","_law_at","_law_numbers_here","_law_sign_here"] (aq SD) ["_law_name","_law_numbers_here"] [Y,Z 14] ⟨.function,[#[41],("_law_name",.local),("_law_numbers_here",.free)],false,false,[]⟩:=mH #[0]
def alj(F:bu K "law" "law" SD dV f fd)(aN:bh P w K mg base "_law_pick" 1 ["_law_script","_law_k"] [] (Fn K))(wb:bh P w K mg base "_law_names" 2 ["_law_script","_law_letters"] [] (abD K))(we:bh P w K mg base "_law_row" 2 ["_law_script","_law_base","_law_most","_law_by"] [] (ajT K))(mw:bh P w K mg base "_law_statement" 3 ["_law_script","_law_names_here","_law_rows"] [] (ago K))(Aq:bh P w K mg base "_law_free" 1 ["_law_statement_here"] [] abx)(wa:bh P w K mg base "_law_named" 1 ["_law_statement_here","_law_rows"] [] abC)(pU:bh P w K mg base "_law_machine" 2 ["_law_found","_law_wide"] [] abB)(pV:bh P w K mg base "_law_numbers" 2 ["_law_cells","_law_at","_law_names_here","_law_statement_here","_law_turn"] [] (agk K))(As:bh P w K mg base "_law_sign" 1 ["_law_machine_here","_law_numbers_here","_law_base"] [] abJ)(Ed:bh P w K mg base "_law_so" 2 ["_law_statement_here","_law_numbers_here","_law_rows"] [] (apF K))(mQ:bh P w K mg base "least" 5 ["machine"] [] (DV K))(wj:bh P w K mg base "machine_of" 9 ["statement","base","rows","most"] [] (SV Pt))(bw:mg "range" = Y)(br:mg "len" = Y)(tV:mg "int" = Y)(aX:mg "isinstance" = Y)(aF:mg "tuple" = Y):aR P w K mg base cO 10 f fd ["_law_script"] (SU K [Pt]):=by
 show F.ok hX #[18] (λcq A k9 s H vs Q E S h=>?_)
 ·let⟨a,ns,rfl,_⟩:=h;rfl
 let⟨a,xs,rfl,hS,h63,l9,q⟩:=h;have m9:=l9 Pt jA;have hu:=ow S;have j7:=aeN S;show mD (aD (eI.mk (aB (i:=1) hX.nd (aC cJ ag (aC bK (aC cz (aK aN S #[89]) ag) ag))))
   (aD (eI.mk (aB (i:=2) hX.nd (aK wb S (aa (pv 0) (aa ba af)))))
   (aD (eI.mk (eR (i:=3) rfl hX.nd rfl #[140] Ri (cU (pv 2)) (λ_ _ _ _=>(bj (i:=0) Ri.nd)) (λ_ _ _ _=>(aim K Xc PySem.F.slot_str_upper PySem.F.type_str_upper ae2 (pv 0)))))
   (aD (eI.mk (aB (i:=4) hX.nd (aC AU ag (aC cz (aC bK (aC cz (aK aN S #[89]) ag) ag) ag))))
   (aD (eI.mk (aB (i:=5) hX.nd (HA (oB ba (aK we S (aa (pv 0) (aa (pv 1) (aa (pv 4) (aa ag af))))) (oB ba (aK we S (aa (pv 0) (aa (pv 1) (aa (pv 4) (aa ag af))))) DF)) rfl rfl #[3] #[9])))
   (aD (eI.mk (aB (i:=6) hX.nd (HA (oB (ax bR (pv 3) ag #[2]) (iE hu (pv 5) ba #[2]) (oB (ax bR (pv 3) ag #[2]) (iE hu (pv 5) ba #[2]) DF)) rfl rfl #[3] #[9])))
   (aD (eI.mk (aB (i:=7) hX.nd (aK mw S (aa (pv 0) (aa (pv 2) #[124])))))
   (aD (eI.mk (aB (i:=8) hX.nd (aK Aq S (aa (pv 7) af))))
   (aD (eI.mk (aB (i:=9) hX.nd ag))
   (aD (eI.mk (cf PassesOwn.never rfl (eD (pv 8)) (bj (i:=10) hX.nd) (ao (aB (i:=9) hX.nd (aC wD (pv 9) (pv 1))))))
   (aD (eI.mk (aB (i:=11) hX.nd (aK wj S (aa (aK wa S (aa (pv 7) #[49])) (aa (pv 1) (aa (pv 6) (aa (aC K4 ag ag) af)))))))
   (aD (eI.mk (bV (PW.pt (tJ (oU (lX (aH fV #[31] aX cj (aa (pv 11) (aa (lS (v:=.ty "tuple") rfl aF bJ rfl) af))))) (tJ (aG tE (aH aM #[31] br bZ (aa (pv 11) af)) ag (aL _)) (tJ (aG ((afB 2 j7)) #[113] (pv 8) (aL _)) (E1 (oU (lX (aH fV #[31] aX cj (aa #[113] (aa (lS (v:=.ty "tuple") rfl aF bJ rfl) af)))))))))) (ao (aE rl)) aV))
   (aD (eI.mk (bV (PW.pt (tJ (oU (lX (aK pU S (aa #[113] (aa (pv 9) af))))) (E1 (aG ((afB 2 j7)) (aK mQ S (aa #[113] af)) #[113] (aL _))))) (ao (aE rl)) aV))
   (aD (eI.mk (aB (i:=12) hX.nd (AV abu (aC aij (pv 0) (bS (aa ag af))) DD (DE ag))))
   (aD (eI.mk (cf PassesOwn.never rfl (de rfl bw (aa (aH aM #[31] br bZ (aa (pv 12) af)) af)) (bj (i:=13) hX.nd) (ah (aB (i:=14) hX.nd (aK pV S (aa (pv 12) (aa (pv 13) (aa (pv 8) (aa (pv 7) (aa (aC cz (aK aN S (aa (pv 0) (aa (pv 13) af))) ag) af)))))))
   (ah (aB (i:=15) hX.nd (aK As S (aa #[113] (aa (fJ rfl Rj (eD (pv 8)) (λ_ _ _ _=>(bj (i:=0) Rj.nd)) (λ_ _ _ _=>(iE hu (pv 1) (pv 0) #[2]))) #[33]))))
   (ao (bV (aG tE (pv 15) (aS Ez #[31] tV IA (aa (aK Ed S (aa (pv 7) (aa (pv 14) #[124]))) af)) (aL _)) (ao (aE rl)) aV))))))
   (dM (eI.mk (aE (eO (ail hu) (pv 6) (HA (oB (ax bR (pv 3) ag #[2]) (iE hu (pv 5) ba #[2]) (oB (ax bR (pv 3) ag #[2]) (iE hu (pv 5) ba #[2]) DF)) rfl rfl #[3] #[9]) (aL _)))))))))))))))))))) ?_
 exists 0;exists 1;let⟨b,eb⟩:=fu (show 0<=2+dD xs 5 / 2%3 by lia);have B:2<=b/\b<=4:=by lia
 exists _,rfl,a,5,xs,rfl,hS,⟨by decide,by decide⟩,_,_,rfl,rfl,⟨by decide,by decide⟩,_,_,rfl,rfl,#[122],_,_,rfl,rfl;rw[eb];show⟨_,U,a,xs,U,hS,λln x y H1 s1 hn hx hy xy=>?_⟩;have lx:∀{l:List Nat},El l->(bA l).length<=50:=λ{l} h=>by have e:(bA l).length=l.length:=rfl;rw[e];show h.n2
 exists 1;show cg (t:=tT _ _) (λO H2=>∃(lt:Qp) (t0 t1:Str),(t0.length<=1000/\t1.length<=1000/\t0≠t1)/\O=[Z #[44],Z (.int b),Z (.ref ln),Z (.ref lt),Y,Y,Y,Y,Y,Y,Y,Y,Y,Y,Y,Y]/\av H1 H2/\H2 lt=Z (.lst [.str t0,.str t1])) ?_ #[27];exists 27
 ·exists _,rfl,ln,rfl,⟨_,bM hn⟩;show iX (K:=K) (xs:=[.str (bA x),.str (bA y)]) (λD i ys H2=>av H1 H2/\ys=(([bA x,bA y].take i).map Txt.upper).map V.str/\∀z∈[bA x,bA y].take i,(Txt.upper z).length<=1000) (λD hD=>⟨ak hD _,U,λz h=>by cases h⟩) (λD i ys H2 _ ⟨e,_,_⟩=>bM (e _ _ hn)) ?_ ?_
  ·rintro D i u ys H2 Q' hD hi O7 ⟨s2,rfl,le⟩ k';have i2:i<2:=(lH hi).1;let⟨z,rfl,hz⟩:=BN (ns:=[bA x,bA y]) hi;have zl:z.length<=50:=by
    rcases jL.mp (tw hz)with e|e
    ·rw[e];show lx hx
    ·rw[jI.mp e];show lx hy
   show⟨_,U,U,z,U,U,by lia,λul=>k' _ _ O7 (bI (by rw[aW,aW,jT];change min i 2<=100000;lia)) ⟨au s2 hD,?_,λz' k7=>?_⟩⟩
   ·rw[jS,hz,jD,jD];rfl
   ·rw[jS,hz]at k7;rcases BF.mp k7 with h|h
    ·show le z' h
    ·rw[show z'=z by simpa using h];lia
  ·rintro D ys H2 hD O7 ⟨s2,rfl,le⟩;show cI _ _ ⟨D,Txt.upper (bA x),Txt.upper (bA y),⟨le _ #[7],le _ #[7],λe=>xy (adD hx.lo hy.lo e)⟩,U,s2,O7⟩
 rintro O H2 ⟨lt,t0,t1,⟨l0,l1,n9⟩,rfl,s2,dZ⟩;have DK:=s1.trans s2;let⟨mo,em⟩:=fu (show 0<=3-dD xs 10 / 2%5 / 4 by lia);have m7:1<=mo/\mo<=3:=by lia
 exists _,rfl,a,10,xs,rfl,DK.seq hS,⟨by decide,by decide⟩,_,_,rfl,rfl,⟨by decide,by decide⟩,_,_,rfl,rfl,(by change(0:Int)<5;decide),_,_,rfl,rfl,⟨by decide,by decide⟩,_,_,rfl,rfl;rw[em];exists 1;show λrd o7=>?_;have s3:=ak o7 (HO.dK []);have u7:=DK.trans s3;show⟨_,U,_,U,_,U,a,b,mo,40,xs,U,u7.seq hS,B,m7,⟨by decide,by decide⟩,λm0 r0 g0 d mO H4 s4 M0 h6 i6 n0 S0=>?_⟩;show⟨_,U,_,U,_,U,a,b,mo,90,xs,U,(u7.trans s4).seq hS,B,m7,⟨by decide,by decide⟩,λm1 r1 g1 ff dJ H5 s5 M1 k6 l6 n1 S1=>?_⟩;have o6:=s4.trans s5;show⟨o6 _ _ ae,[(.inr ("B" : Str),.ref m0),(.inr ("C" : Str),.ref m1)],rfl,(by change 2<=15;decide),?_⟩;let⟨H6,e6⟩:=gn (upd H5 rd (HO.dK (dw [] [(.inr ("B" : Str),.ref m0),(.inr ("C" : Str),.ref m1)])));have L:H6 rd=Z (.dK (di "B" "C" m0 m1)):=by rw[<-e6];show ae
 have s6:av H2 H6:=by rw[<-e6];show au (s3.trans o6) o7
 have y7:Br H5 H6:=λc zs e=>by rw[<-e6,aj (aO e (o6 _ _ ae) #[3])];show e
 have z7:bD H6 m0 r0 g0 b d mO:=M0.same λc zs e=>y7 _ _ (s5 _ _ e);have q9:bD H6 m1 r1 g1 b ff dJ:=M1.same y7;rw[e6];have bc:¬ ("B" : Str)=("C" : Str):=by decide +kernel
 have u6:cG (di "B" "C" m0 m1) (.inr ("B" : Str))=Z (.ref m0):=by rw[rq,if_neg bc,if_pos rfl]
 have b8:cG (di "B" "C" m0 m1) (.inr ("C" : Str))=Z (.ref m1):=by rw[rq,if_pos rfl]
 exists 1;show λkd c8=>?_;have s7:=ak c8 (HO.dK []);show⟨_,U,lt,_,_,_,U,U,bM (s7 _ _ (s6 _ _ dZ)),U,_,U,rd,.ref m0,U,by rw[<-u6];show lG.k (k:=.inr ("B" : Str)) (s7 _ _ L),?_⟩;show⟨_,U,lt,_,_,_,U,U,bM (s7 _ _ (s6 _ _ dZ)),U,_,U,rd,.ref m1,U,by rw[<-b8];show lG.k (k:=.inr ("C" : Str)) (s7 _ _ L),?_⟩;show⟨ae,[(.inr t0,.ref m0),(.inr t1,.ref m1)],U,(by change 2<=15;decide),?_⟩;let⟨H7,e7⟩:=gn (upd (upd H6 kd (HO.dK [])) kd (HO.dK (dw [] [(.inr t0,.ref m0),(.inr t1,.ref m1)])));have d8:H7 kd=Z (.dK (di t0 t1 m0 m1)):=by rw[<-e7];show ae
 have G:av H6 H7:=by rw[<-e7];show au s7 c8
 rw[e7];have e8:=DK.trans (s6.trans G);exists 1;show⟨_,U,_,U,_,U,a,ln,rd,m0,r0,g0,b,d,mO,_,xs,bA x,bA y,U,e8.seq hS,(s2.trans (s6.trans G)) _ _ hn,⟨by have:=lx hx;lia,by have:=lx hy;lia⟩,G _ _ L,u6,z7.same λc zs e=>G _ _ e,by lia,λv t H8 s8 y6 W=>?_⟩;have s18:=e8.trans s8;have r:∀ps∈lD t,iy ps:=λps hp=>(W.ok ps hp).1;have f8:∀z∈dB t,z=bA x\/z=bA y:=λz hz=>by let⟨ps,hp,hz⟩:=Jm.mp hz;show aiL (W.ok ps hp).2 hz
 have g8:HQ t:=⟨r,λl C=>⟨by rcases EL W.tag C with e|e<;>rw[e]<;>decide +kernel,W.sm l C⟩,bA x,bA y,f8⟩;have AO:HQ (nmT t0 t1 t):=⟨by rw[aiM];show r,λl C=>by
  let⟨e,l',r9,e'⟩:=RZ C;show⟨?_,by rw[<-e'];show W.sm l' r9⟩;rcases e with e|e<;>rw[e]
  ·show l0
  ·show l1,bA x,bA y,by rw[aaR];show f8⟩
 exists 1;show⟨_,U,v,t,U,y6,r,λdn zs H9 s9 z6 g=>?_⟩;have lz:=EO g g8;have pw:=BH B lz;have pwi:∀i:Nat,i<=2->1<=b^i/\b^i<=16:=λi hi=>BH B hi;exists 1;show tP ?_;exists 1;show cg (t:=pQ _ _ _) (λO H'=>∃X:OV,O=[Z #[44],Z (.int b),Z (.ref ln),Z (.ref lt),Z (.int mo),Z (.ref rd),Z (.ref kd),Z v,Z (.ref dn),Z (.int ((b^zs.length:Nat):Int)),X,Y,Y,Y,Y,Y]/\H9=H') ?_ #[27];exists 27
 ·show⟨_,U,dn,U,⟨_,bg z6⟩,rR (K:=K) (xs:=zs.map V.str) (λi O H'=>∃X:OV,O=[Z #[44],Z (.int b),Z (.ref ln),Z (.ref lt),Z (.int mo),Z (.ref rd),Z (.ref kd),Z v,Z (.ref dn),Z (.int ((b^i:Nat):Int)),X,Y,Y,Y,Y,Y]/\H9=H') ⟨Y,U,U⟩ (λi O H' _ ⟨_,_,e⟩=>by rw[<-e];show bg z6) ?_ ?_⟩
  ·rintro i u O H' hi ⟨X,rfl,rfl⟩;show⟨_,U,_,U,_,_,U,U,.inr ⟨by lia,by lia⟩,Z u,?_,U⟩;rw[zU,QX];rfl
  ·rintro O H' ⟨X,rfl,rfl⟩;rw[aW];show cI _ _ ⟨X,U,U⟩
 rintro O H' ⟨X,rfl,rfl⟩;have h8:=G.trans (s8.trans s9);show⟨_,U,_,U,v,lt,t,t0,t1,U,eM.same (rL s9) y6,(s6.trans h8) _ _ dZ,λv' J M u9=>?_⟩;have I:=h8.trans M;have j8:=DK.trans (s6.trans I);have c7:lQ J Pt rZ PK:=.inl (j8 _ _ m9);have z5:bD J m0 r0 g0 b d mO:=z7.same λc zs e=>I _ _ e;have c6:bD J m1 r1 g1 b ff dJ:=q9.same λc zs e=>I _ _ e;have EN:=akq (t:=nmT t0 t1 t) ((s8.trans (s9.trans M)) _ _ d8) (λl C=>(RZ C).1) z5 c6 ⟨h6,i6,n0,S0⟩ ⟨k6,l6,n1,S1⟩;have k8:=akq (t:=t) (I _ _ L) (λl C=>EL W.tag C) z5 c6 ⟨h6,i6,n0,S0⟩ ⟨k6,l6,n1,S1⟩;show⟨_,U,_,U,_,_,U,U,⟨by decide,by decide,by decide⟩,kd,v',b,nmT t0 t1 t,_,U,⟨u9,AO,EN,B,c7⟩,λT tn m' r' g' az aI LZ OA y9 azK hT m8 M' o8 m=>?_⟩;rw[aaR]at o8;obtain rfl:=g.uniq o8;have LK:=lks_ok (zs:=zs) EN AO B lz;have z9:=lks_ok (zs:=zs) k8 g8 B lz;let⟨psT,q8⟩:=lQ.Fo c7;have nT:∀{c:Qp} {o:HO},J c=Z o->(∀qs,o≠.Fo qs)->OA c=Z o:=λ{c o} e ne=>y9 c o (λz=>by rw[z,q8]at e;show ne _ (Option.some.inj e).symm) e;have R:Br J OA:=λc zs e=>nT e (by intro qs z;cases z);have u8:mC K OA a (xs.map V.int):=mC.keep (λu e ne=>nT e ne) (j8.seq hS);have y8:=nT ((s6.trans I) _ _ dZ) (by intro qs z;cases z);have d7:=nT (I _ _ L) (by intro qs z;cases z);have asG:=nT ((s8.trans (s9.trans M)) _ _ d8) (by intro qs z;cases z);have f7:=R _ _ (M _ _ z6);have z8:eM OA v t:=eM.same R (eM.same (rL (s9.trans M)) y6);have ard:=z5.same R;have arf:=c6.same R;have aq8:=akq (t:=t) d7 (λl C=>EL W.tag C) ard arf ⟨h6,i6,n0,S0⟩ ⟨k6,l6,n1,S1⟩;clear q8 nT R z5 c6 EN k8 c7;exists 1;show⟨_,U,_,_,_,_,U,mW.tup hT,cN K,_,U,ox ?_⟩;show⟨_,U,T,_,U,.inr (bg hT),U,_,U,tu (λn=>absurd rfl n) #[174]⟩;show⟨_,U,T,_,_,_,U,U,bg hT,U,_,U,tn,dn,_,_,U,U,bg m8,bg f7,abP zs,_,U,ox ?_⟩;show⟨_,U,T,_,_,_,U,U,bg hT,U,_,_,_,_,U,mW.tup m8,cN K,_,U,ox ?_⟩;exists 1;show⟨_,U,T,_,_,_,U,U,bg hT,U,_,U,m',r',g',b^zs.length,az,aI,U,M',m.ok,m.sg,pw,⟨m.pos,m.B1⟩,ahW m,R4 m B pw.1 LK,λH12 g7=>⟨_,U,ox ?_⟩⟩;have M12:=M'.same λa xs e=>g7 _ _ e;show⟨_,U,T,_,_,_,U,U,bg (g7 _ _ hT),U,m',r',g',az.length,b^zs.length,az,aI,U,M12,m.ok,m.sg,⟨m.pos,m.B1⟩,by lia,λm2 r2 g2 awx aur H13 auk M2 LO=>?_⟩;let⟨rfl,rfl⟩:=dj.one (dj.self m.ok m.pos m.sg m.ord m.apart) LO #[2];have y4:=g7.trans auk;show⟨_,U,T,_,_,_,U,U,bg (y4 _ _ hT),U,m2,m',_,_,U,U,bg M2.tup,bg (y4 _ _ M'.tup),ahV M2 (M'.same λa xs e=>y4 _ _ e),_,U,ox ?_⟩;exists 1;show⟨_,U,#[73],λL0 a9=>⟨a,L0,_,_,U,U,(y4.trans (ak a9 _)).seq u8,bM ae,?_,λL1 hL1=>?_⟩⟩
 ·show JS (bI (by rw[aW];change xs.length+1<=100000;lia))
 have sE:=y4.trans ((ak a9 (HO.lst [V.int 0])).trans (ak hL1 (HO.lst #[108])));show⟨_,U,L1,_,U,bM ae,λcl hcl=>?_⟩;rw[anA];let⟨cs,b9⟩:=gn ((xs++[0]).take 63);have lcs:1<=cs.length/\cs.length<=63:=by rw[<-b9,jT,jH];change 1<=min 63 (xs.length+1)/\min 63 (xs.length+1)<=63;lia
 rw[b9];have sF:=sE.trans (ak hcl (HO.lst (cs.map V.int)));let⟨d5,c9⟩:=gn (upd (upd (upd H13 L0 (HO.lst [V.int 0])) L1 (HO.lst #[108])) cl (HO.lst (cs.map V.int)));have d9:d5 cl=Z (.lst (cs.map V.int)):=by rw[<-c9];show ae
 rw[c9]at sF ⊢;exists 1;show cg (t:=pQ _ _ _) (λO H'=>∃i5 j5 o5:OV,O=[Z #[44],Z (.int b),Z (.ref ln),Z (.ref lt),Z (.int mo),Z (.ref rd),Z (.ref kd),Z v,Z (.ref dn),Z (.int ((b^zs.length:Nat):Int)),X,Z #[158],Z (.ref cl),i5,j5,o5]/\av d5 H') ?_ #[27];exists 27
 ·show⟨_,U,cl,_,U,.inl (bM d9),_,U,by rw[aW];lia,by rw[aW];lia,?_⟩;show hZ (λi O H'=>∃i5 j5 o5:OV,O=[Z #[44],Z (.int b),Z (.ref ln),Z (.ref lt),Z (.int mo),Z (.ref rd),Z (.ref kd),Z v,Z (.ref dn),Z (.int ((b^zs.length:Nat):Int)),X,Z #[158],Z (.ref cl),i5,j5,o5]/\av d5 H') ⟨Y,Y,Y,U,av.refl _⟩ ?_ (λO H' h=>cI _ _ h);rintro i O f9 hi ⟨i5,j5,o5,rfl,w5⟩;rw[jG,aW]at hi;have sG:=sF.trans w5;have i63:i<63:=by lia
  exists 1;rw[Je];have p0:=(abn xs (i:Int)).1;show⟨_,U,_,U,_,U,_,U,_,U,_,U,a,_,xs,U,sG.seq u8,⟨by lia,by lia⟩,_,_,U,U,⟨by decide,by decide⟩,cl,dn,v,i,_,cs,zs,t,U,w5 _ _ d9,⟨lcs.1,by lia⟩,by lia,by lia,sG _ _ f7,lz,g.nd,eM.same (rL sG) z8,r,λnd N H16 g9 h9 hN h0=>?_⟩;have sH:=sG.trans g9;have i9:=sH _ _ f7;exists 1;exists _,rfl,T,_,_,_,rfl,rfl,bg (sH _ _ hT),rfl,_,rfl,dn,rfl,⟨_,bg i9⟩;show rh (K:=K) (xs:=zs.map V.str) (λD j ys H'=>av H16 H'/\ys=(N.take j).map V.int) #[114] (λD j ys H' _ ⟨e,_⟩=>bg (e _ _ i9)) ?_ ?_
  ·rintro D j u ys H17 Q' hD hj O7 ⟨hs,rfl⟩ k';let⟨z,rfl,hz⟩:=BN hj;have jl:=(lH hz).1;have jN:N[j]?=Z N[j]:=jC #[1];show⟨_,U,_,U,nd,V.int N[j],U,?_,k' _ _ O7 (bI (by rw[aW,jT];lia)) ⟨au hs hD,?_⟩⟩
   ·have e:cG (oz zs N) (.inr z)=Z (V.int N[j]):=by rw[Pf,ajF g.nd hz jN];rfl
    rw[<-e];show lG.k (k:=.inr z) (hs _ _ h9)
   ·rw[jS,jN,jD];rfl
  ·rintro D ys H17 hD O7 ⟨hs,rfl⟩;rw[aW,hN,jV]at O7;have sI:=sH.trans hs;have M17:=M'.same λa xs e=>sI _ _ e;show⟨_,U,m',r',g',D,b,N,az,aI,U,O7,h0,by lia,B,by rw[<-hN];show M17,by rw[<-hN];show m.ok,m.sg,m.pos,λLL H18 h7 hLL=>?_⟩;have sJ:=sI.trans h7;have j9:sgn aI (bp az (vJ b N LL) 0)=if soA b (af5 "C" (d,mO) (ff,dJ)) zs N t=true then 1 else 0:=by have ni:=agG B.1 N LL;rw[<-hN]at ni;rw[m.tells _ ni,alS B hLL hN LK,apD (R0:=af5 "C" (d,mO) (ff,dJ)) ((if_neg n9).trans (if_neg bc).symm) ((if_pos rfl).trans (if_pos rfl).symm) W.tag]
   have noE:("" : Str)∉zs:=λe=>ahp t ((g.mem _).mp e);exists 1;show⟨_,U,_,U,_,U,_,U,v,nd,rd,b,t,_,zs,N,U,eM.same (rL sJ) z8,λps hp=>⟨r ps hp,aiZ hN lz g.nd noE λp FI=>(aen hp FI).imp id λe=>(g.mem _).mpr e⟩,λl C=>aeX (z9.ok l C) h0,aq8.same sJ,B,(hs.trans h7) _ _ h9,λH19 s19=>?_⟩;show .inr ⟨_,U,U,_,U,tu (λn=>absurd ?_ n) (λ_=>⟨_,_,_,U,(((w5.trans g9).trans hs).trans h7).trans s19⟩)⟩;rw[j9]
 rintro O f9 ⟨i5,j5,o5,rfl,w5⟩;have sG:=sF.trans w5;show⟨_,U,λfd i7=>?_⟩;have d6:=sG.trans (ak i7 (HO.dK []));show⟨_,U,lt,_,_,_,U,U,bM (d6 _ _ y8),U,_,U,rd,.ref m0,U,by rw[<-u6];show lG.k (k:=.inr ("B" : Str)) (d6 _ _ d7),?_⟩;show⟨_,U,lt,_,_,_,U,U,bM (d6 _ _ y8),U,_,U,rd,.ref m1,U,by rw[<-b8];show lG.k (k:=.inr ("C" : Str)) (d6 _ _ d7),?_⟩;show⟨ae,[(.inr t0,.ref m0),(.inr t1,.ref m1)],U,(by change 2<=15;decide),?_⟩;have s21:av OA (upd (upd f9 fd (HO.dK [])) fd (HO.dK (di t0 t1 m0 m1))):=sG.trans (au (ak i7 _) i7);show⟨kd,fd,_,U,U,s21 _ _ asG,ae,Z7,q _⟩
end
structure Here(P:qL)(w:World)(K:Yc)(mg:Str->Option Value)(base:Heap):Prop
structure dq(K:Yc)(mg:Str->Option Value)(x:Str)(st:Stmt):Prop where
 ex:∃(f:Qp) (fd:Qx),mg x=Z #[68]/\bu K x x st .none f fd
structure TopD(K:Yc)(mg:Str->Option Value)(x:Str)(st:Stmt)(d:V):Prop where
 ex:∃(f T:Qp) (fd:Qx) (o:Obj) (n:Nat) (u:Value),mg x=Z #[68]/\bu K x x st #[158] f fd/\K.lookup T=Z o/\o.data=.seq #[u] n/\RelV d u
structure mV(K:Yc)(C:Qp)(m q:Str)(st:Stmt):Prop where
 ex:∃(f:Qp) (fd:Qx),Meth K C m f/\bu K m q st .none f fd
structure OB(K:Yc)(C:Qp)(q:Str)(st:Stmt):Prop where
 ex:∃(f:Qp) (fd:Qx),Mk K C f/\bu K "__init__" q st .none f fd
section
variable{h:Heap}{x q m:Str}{kV u:Value}{ps:List Str}{k:Nat}
def auL(X:K.In h)(G:h.Ns qw mg)(a:xA K qw x=Z (Z #[68]))(l:K.lookup f=Z ⟨oc,od,.func (Ym x x (dP st) (cT st) (aq st) .none kV doc pm an cq ct),PZ⟩)(c:Yy K cq x=true)(k:Yk K #[68]=true):dq K mg x st:=
 ⟨_,_,Xk X G a,Bx l c k⟩
def auK(X:K.In h)(G:h.Ns qw mg)(a:xA K qw x=Z (Z #[68]))(l:K.lookup f=Z ⟨oc,od,.func #[57],PZ⟩)(c:Yy K cq x=true)(k:Yk K #[68]=true)(t:K.lookup T=Z ⟨tc,td,.seq #[u] n,tsl⟩)(r:RelV d u):TopD K mg x st d:=
 ⟨_,_,_,_,_,_,Xk X G a,Bx l c k,t,rfl,r⟩
def aty(a:Yf K #[189] m=Z (Z #[68]))(l:K.lookup f=Z ⟨oc,od,.func (Ym m q (dP st) (cT st) (aq st) .none kV doc pm an cq ct),PZ⟩)(c:Yy K cq q=true)(k:Yk K #[68]=true)(n:yU K #[68]=true):mV K C m q st:=
 ⟨_,_,⟨a,n,k⟩,Bx l c k⟩
def atc(a:Yf K #[189] "__init__" = Z (Z #[68]))(l:K.lookup f=Z ⟨oc,od,.func (Ym "__init__" q (dP st) (cT st) (aq st) .none kV doc pm an cq ct),PZ⟩)(c:Yy K cq q=true)(k:Yk K #[68]=true)(n:yU K #[68]=true)(mk:XZ K C=true)(b:Yk K #[189]=true):OB K C q st:=
 ⟨_,_,⟨mk,a,n,b⟩,Bx l c k⟩
def BdN(p:List Value->Prop):Nat->List Value->Prop
 |0,us=>p us
 |n+1,us=>∀a,BdN p n (us++[a])
theorem BdN.all{p:List Value->Prop}:∀{n:Nat} {vs:List Value} (us:List Value),BdN p n vs->us.length=n->p (vs++us)
 |0,vs,[],h,_=>by rw[jh];show h
 |n+1,vs,u::us,h,e=>by have:=BdN.all us (h u) (Nat.succ.inj e);rw[jr]at this;show this
abbrev Bd(x q:Str)(st:Stmt)(ps:List Str):Prop:=∀(kV doc pm:Value) (an:Option Qp) (cq ct:Value),BdN (λus=>bindArgs (Ym x q (dP st) (cT st) (aq st) .none kV doc pm an cq ct) ⟨us,[]⟩=pure #[152]) ps.length []
abbrev BdD(x:Str)(st:Stmt)(ps:List Str)(m:Nat)(g:Value->List Value):Prop:=∀(T:Qp) (u kV doc pm:Value) (an:Option Qp) (cq ct:Value),BdN (λus=>∃k:Option (Array Value)->qM (List #[139]),
 bindArgs #[57] ⟨us,[]⟩=seqItems? #[158]>>=k/\k (Z #[u])=pure (ps.zip (us++g u))) m []
def dq.g(_:Here P w K mg base)(t:dq K mg x st)(ok:∀f fd,bu K x x st .none f fd->aR P w K mg base cO k f fd ps sp)(b:Bd x x st ps:=by (repeat intro _);rfl):bh P w K mg base x k ps [] sp:=by let⟨f,fd,m,F⟩:=t.ex;show⟨f,fd,[],m,F.kp,.nil,F.binds λk d p a c e h=>(b k d p a c e).all h,ok f fd F⟩
def TopD.g(_:Here P w K mg base)(t:TopD K mg x st d)(ok:∀T f fd,bu K x x st #[158] f fd->aR P w K mg base cO k f fd ps sp)(b:BdD x st ps ps.length λ_=>[]:=by (repeat intro _);show⟨_,rfl,rfl⟩):bh P w K mg base x k ps [] sp:=by let⟨f,T,fd,o,n,u,m,F,O,hs,r⟩:=t.ex;show⟨f,fd,[],m,F.kp,.nil,F.T7 O hs ps.length rfl λk d p a c e h=>(b T u k d p a c e).all h,ok T f fd F⟩
def TopD.gd(_:Here P w K mg base)(t:TopD K mg x st d)(ok:∀T f fd,bu K x x st #[158] f fd->aR P w K mg base cO k f fd ps sp)(b:BdD x st ps (ps.length-1) λu=>[u]:=by (repeat intro _);show⟨_,rfl,rfl⟩)(e:ps.length-1+1=ps.length:=by rfl):bh P w K mg base x k ps [d] sp:=by let⟨f,T,fd,o,n,u,m,F,O,hs,r⟩:=t.ex;show⟨f,fd,[u],m,F.kp,.cons r .nil,F.T7 O hs _ e λk d p a c e g=>(b T u k d p a c e).all g,ok T f fd F⟩
def mV.g(_:Here P w K mg base)(t:mV K C m q st)(j:Fv K C)(ok:∀f fd,bu K m q st .none f fd->aR P w K mg base cO k f fd ps sp)(b:Bd m q st ps:=by (repeat intro _);rfl):bP P w K mg base C m k ps sp:=by let⟨f,fd,M,F⟩:=t.ex;show⟨j,f,fd,M,F.binds λk d p a c e h=>(b k d p a c e).all h,ok f fd F⟩
theorem OB.g(_:Here P w K mg base)(t:OB K C q st)(g:mg x=Z #[189])(j:Fv K C)(ok:∀f fd,bu K "__init__" q st .none f fd->aR P w K mg base cO k f fd ps sp)(b:Bd "__init__" q st ps:=by (repeat intro _);rfl):Fw P w K mg base x C k ps sp:=by let⟨f,fd,M,F⟩:=t.ex;show⟨g,j,f,fd,M,F.binds λk d p a c e m=>(b k d p a c e).all m,ok f fd F⟩
end
section
variable{kV:Value}{k:Nat}
def dq.atl{l:yq}{spl:List Qp->Sp}(t:dq K mg "law" st)(n:mg "law" = Z (.ref fa))(a:∀b∈Ps,∃c,TV K ts c b)(b:∀(kV doc pm:Value) (an:Option Qp) (cq ct v:Value),bindArgs (Ym "law" "law" (dP st) (cT st) (aq st) .none kV doc pm an cq ct) ⟨[v],[]⟩=pure [(("_law_script" : Str),v)])(ok:∀base f fd,HR base mg->bu K "law" "law" st .none f fd->aR l.prog w K mg base cO k f fd ["_law_script"] (spl Ps)):∃(fd:Qx) (Ps:List Qp),(∀b∈Ps,∃c,TV K ts c b)/\(∀(s:qO) (v:Value),Qs s fd ⟨[v],[]⟩ [("_law_script",v)])/\∀base:Heap,K.In base->base.Ns qw mg->HR base mg->aR l.prog w K mg base cO k fa fd ["_law_script"] (spl Ps):=by let⟨f,fd,m,F⟩:=t.ex;cases m.symm.trans n;let⟨oc,od,kV,doc,pm,an,cq,ct,PZ,rfl,M,D⟩:=F.ex;show⟨_,Ps,a,λs v=>.of_eq (b kV doc pm an cq ct v),λbase _ _ B=>ok base _ _ B F⟩
end
def alW{x y:Str}{t0 t1 i:Tok}(h:K.lookup a=Z ⟨.type "tuple",td,.seq #[.str x t0,.str y t1,.str z i] tn,tsl⟩)(H:Hp):iu K H a [.str x,.str y,.str z]:=
 .inr ⟨_,_,_,h,rfl,rfl,#[35],.cons ⟨_,rfl⟩ (.cons ⟨_,rfl⟩ (.cons ⟨_,rfl⟩ .nil))⟩
def alV{x y:Str}{t0 t1:Tok}(h:K.lookup a=Z ⟨.type "tuple",td,.seq #[.str x t0,.str y t1] tn,tsl⟩)(H:Hp):iu K H a [.str x,.str y]:=
 .inr ⟨_,_,_,h,rfl,rfl,#[14],.cons ⟨_,rfl⟩ (.cons ⟨_,rfl⟩ .nil)⟩
structure aaz(K:Yc)(mg:Str->Option Value)(x:Str)(st:Stmt)(d0 d1 d2:V):Prop where
 ex:∃(f T:Qp) (fd:Qx) (o:Obj) (n:Nat) (u0 u1 u2:Value),mg x=Z #[68]/\bu K x x st #[158] f fd/\K.lookup T=Z o/\o.data=.seq #[u0,u1,u2] n
abbrev aq5(x:Str)(st:Stmt)(ps:List Str):Prop:=∀(T:Qp) (u0 u1 u2 kV doc pm:Value) (an:Option Qp) (cq ct:Value),BdN (λus=>∃k:Option (Array Value)->qM (List #[139]),
 bindArgs #[57] ⟨us,[]⟩=seqItems? #[158]>>=k/\k (Z #[u0,u1,u2])=pure (ps.zip (us++[]))) ps.length []
def Tc(K:Yc)(C:Qp)(m:Str):Option (Qp×Qp):=match Yf K #[189] m with
 | some (Z #[68])=>(match K.lookup f with
  | some ⟨_,_,.func fd,_⟩=>(match fd.code with
   | .ref c=>(match K.lookup c with
    | some ⟨_,_,.fields vs,_⟩=>(match (vs[11]?:Option Value)with
     |some (.ref P)=>Z (c,P)
     | _=>Y)
    | _=>Y)
   | _=>Y)
  | _=>Y)
 |_=>Y
def ad6{m:Str}{c:Qp}(a:Yf K #[189] m=Z (Z #[68]))(l:K.lookup f=Z ⟨oc,od,.func fd,sl⟩)(t:Tc K C m=Z (c,Pt)):fd.code=.ref c:=by
 unfold Tc at t;rw[a]at t;simp only[l]at t;split at t
 ·rename_i B e;split at t
  ·split at t
   ·cases t;show e
   ·cases t
  ·cases t
 ·cases t
structure ab3(K:Yc)(ts:List Qp)(C:Qp)(m q:Str)(st:Stmt)(Pt:Qp):Prop where
 ex:∃(f c:Qp) (fd:Qx),Meth K C m f/\bu K m q st .none f fd/\fd.code=.ref c/\TV K ts c Pt
section
variable{h:Heap}{x q m:Str}{kV u0 u1 u2:Value}{k:Nat}
def ap0(X:K.In h)(G:h.Ns qw mg)(a:xA K qw x=Z (Z #[68]))(l:K.lookup f=Z ⟨oc,od,.func #[57],PZ⟩)(c:Yy K cq x=true)(k:Yk K #[68]=true)(t:K.lookup T=Z ⟨tc,td,.seq #[u0,u1,u2] n,tsl⟩)(_:RelV d0 u0)(_:RelV d1 u1)(_:RelV d2 u2):aaz K mg x st d0 d1 d2:=
 ⟨_,_,_,_,_,_,_,_,Xk X G a,Bx l c k,t,rfl⟩
def atz(a:Yf K #[189] m=Z (Z #[68]))(l:K.lookup f=Z ⟨oc,od,.func (Ym m q (dP st) (cT st) (aq st) .none kV doc pm an cq ct),PZ⟩)(c:Yy K cq q=true)(k:Yk K #[68]=true)(n:yU K #[68]=true)(h:(Tc K C m).isSome=true)(b:XQ K #[137].1 #[137].2=true)(d:K.lookup #[137].2=Y)(g:ts.elem #[137].2=true):ab3 K ts C m q st #[137].2:=by let⟨⟨v,i⟩,e⟩:=Jh.mp h;rw[e]at b d g ⊢;show⟨_,v,_,⟨a,n,k⟩,Bx l c k,ad6 a l e,b,d,List.mem_of_elem_eq_true g⟩
def ab3.tab(t:ab3 K ts C m q st Pt):∃c,TV K ts c Pt:=by let⟨f,c,fd,m,F,L,T⟩:=t.ex;show⟨c,T⟩
end
section
variable{x q m:Str}{ps:List Str}{k:Nat}
def ab3.g0(_:Here P w K mg base)(t:ab3 K ts C m q st Pt)(B:HR base mg)(j:Fv K C)(ok:∀f fd c,bu K m q st .none f fd->fd.code=.ref c->aka K mg base c Pt->aR P w K mg base cO k f fd ps sp)(b:Bd m q st ps:=by (repeat intro _);rfl):bP P w K mg base C m k ps sp:=by let⟨f,c,fd,M,F,L,T⟩:=t.ex;show⟨j,f,fd,M,F.binds λk d p a c e g=>(b k d p a c e).all g,ok f fd c F L ⟨T.hd,B⟩⟩
def aaz.g(_:Here P w K mg base)(t:aaz K mg x st d0 d1 d2)(ok:∀T f fd,bu K x x st #[158] f fd->aR P w K mg base cO k f fd ps sp)(b:aq5 x st ps:=by (repeat intro _);show⟨_,rfl,rfl⟩):bh P w K mg base x k ps [] sp:=by let⟨f,T,fd,o,n,i,y,N,m,F,O,hs⟩:=t.ex;show⟨f,fd,[],m,F.kp,.nil,F.T7 O hs ps.length rfl λk d p a c e h=>(b T i y N k d p a c e).all h,ok T f fd F⟩
end
def all_mk{l:yq}(n:mg "law" = Z (.ref fa))(P:mg "Parted" = Z (.ref dX))(Q:mg "Looking" = Z (.ref dU))(R:mg "Pairing" = Z (.ref fh))(S:mg "Maker" = Z (.ref iB))(V:mg "Meeting" = Z (.ref dW))(W:mg "Within" = Z (.ref fT))(iY:mg "COMPARING" = Z (.ref Fu))(pR:mg "JOINING" = Z (.ref Mr))(u:mg "CHOOSING" = Z (.ref HS))(Hr:mg "alike" = Z (.ref aau))(o:mg "len" = Y)(y:mg "range" = Y)(e:mg "list" = Y)(C:mg "tuple" = Y)(h:mg "dict" = Y)(j:mg "enumerate" = Y)(i:mg "int" = Y)(a:mg "isinstance" = Y)(Ft:mg "bool" = Y)(t:mg "set" = Y)(q:mg "sorted" = Y)(Oq:mg "sum" = Y)(m:mg "min" = Y)(Oo:mg "max" = Y)(x:mg "zip" = Y)(mP:mg "reversed" = Y)(wy:mg "LEAST_BASE" = Z (.int 2 LJ))(AJ:mg "MOST_BASE" = Z (.int 10 Mn))(AK:mg "MOST_WIDE" = Z (.int 1000 Mo))(F8:TopD K mg "reached_rooms" oZ (.int 0))(OM:dq K mg "with_rooms" dF)(OJ:dq K mg "columns_of" pJ)(y4:dq K mg "back_of" Fd)(C3:OB K dX "Parted.__init__" cM)(Er:mV K dX "is_done" "Parted.is_done" mL)(C4:mV K dX "wait_for" "Parted.wait_for" lY)(wo:mV K dX "next_splitter" "Parted.next_splitter" eV)(Cn:mV K dX "split_off" "Parted.split_off" eW)(Es:mV K dX "part_by" "Parted.part_by" mM)(C7:dq K mg "unparted_groups" dE)(d5:dq K mg "least" DN)(TR:dq K mg "is_whole" CI)(F7:dq K mg "is_whole_from" oY)(OL:dq K mg "need_whole" wL)(i5:dq K mg "halved" Ll)(j5:TopD K mg "figures" Fe (.int 10))(o5:TopD K mg "room" Z8 (.int 0))(Rb:dq K mg "weight_of" Bf)(Cj:OB K dU "Looking.__init__" iJ)(FX:mV K dU "begin" "Looking.begin" oW)(Ig:mV K dU "step" "Looking.step" rB)(Ie:mV K dU "sign" "Looking.sign" rA)(w5:dq K mg "alike" Pu)(Cm:OB K fh "Pairing.__init__" iL)(F5:mV K fh "begin" "Pairing.begin" oX)(Ik:mV K fh "step" "Pairing.step" rF)(Ij:mV K fh "sign" "Pairing.sign" rE)(Ck:OB K dW "Weighing.__init__" dR)(C5:OB K fT "Weighing.__init__" dR)(FZ:mV K dW "begin" "Weighing.begin" ig)(Il:mV K fT "begin" "Weighing.begin" ig)(Ep:mV K dW "weight" "Weighing.weight" fO)(F6:mV K fT "weight" "Weighing.weight" fO)(Ii:mV K dW "step" "Meeting.step" rD)(L6:mV K fT "step" "Within.step" sQ)(Ih:mV K dW "sign" "Meeting.sign" rC)(L4:mV K fT "sign" "Within.sign" sP)(z5:TopD K mg "grown" DM (.int 200))(TU:dq K mg "power_of" CJ)(c6:dq K mg "changed" BM)(F9:dq K mg "statements_in" pb)(d6:dq K mg "sums_in" Fg)(Ip:dq K mg "row_names_in" rJ)(h6:dq K mg "free" Pw)(Ra:dq K mg "pieces_of" Be)(i6:dq K mg "rows_of" Ff)(C6:dq K mg "is_whole_within" me)(Q8:dq K mg "need_base" Bb)(Q9:dq K mg "need_rows" Bc)(L7:dq K mg "need_narrow" sS)(Q7:dq K mg "factor_in" rX)(En:OB K iB "Maker.__init__" mJ)(Aj:mV K iB "need_makeable" "Maker.need_makeable" fH)(FY:mV K iB "looking" "Maker.looking" iG)(C2:mV K iB "comparing" "Maker.comparing" fM)(Eo:mV K iB "walk_for" "Maker.walk_for" mK)(pA:ab3 K ts iB "machine_for" "Maker.machine_for" dQ pz)(OK:aaz K mg "machine_of" wK (.int 2) (.non) (.int 200))(Q3:dq K mg "_law_pick" A0)(OG:dq K mg "_law_names" ma)(Q5:dq K mg "_law_rest" Ba)(TN:dq K mg "_law_row" rH)(TQ:dq K mg "_law_sum" CG)(Et:dq K mg "_law_statement" mN)(OE:dq K mg "_law_named" wI)(OH:dq K mg "_law_value" pI)(Q4:dq K mg "_law_read" A2)(k6:dq K mg "_law_so" Fc)(Q1:dq K mg "_law_free" rV)(OI:dq K mg "_law_whole" wJ)(Im:dq K mg "_law_machine" lZ)(Q6:dq K mg "_law_sign" rW)(Io:dq K mg "_law_numbers" rG)(z:∀H,iu K H Fu O9)(k:∀H,iu K H Mr Pa)(N:∀H,iu K H HS J1)(kA:Yk K (.ref aau)=true)(r:Fv K dX)(l6:Yf K (.ref dX) "group_of" = Z Y)(o6:Yf K (.ref dX) "members" = Z Y)(u6:Yf K (.ref dX) "waiting" = Z Y)(y6:Yf K (.ref dX) "is_waiting" = Z Y)(E:Fv K dU)(z6:Yf K (.ref dU) "machine" = Z Y)(c7:Yf K (.ref dU) "factors" = Z Y)(d7:Yf K (.ref dU) "more" = Z Y)(f7:Yf K (.ref dU) "base" = Z Y)(J:Fv K fh)(g7:Yf K (.ref fh) "one" = Z Y)(h7:Yf K (.ref fh) "other" = Z Y)(i7:Yf K (.ref fh) "rule" = Z Y)(A:Fv K iB)(j7:Yf K (.ref iB) "base" = Z Y)(k7:Yf K (.ref iB) "rows" = Z Y)(m7:Yf K (.ref iB) "most" = Z Y)(B:Fv K dW)(o7:Yf K (.ref dW) "factors" = Z Y)(u7:Yf K (.ref dW) "goal" = Z Y)(y7:Yf K (.ref dW) "base" = Z Y)(D:Fv K fT)(z7:Yf K (.ref fT) "factors" = Z Y)(b8:Yf K (.ref fT) "goal" = Z Y)(c8:Yf K (.ref fT) "base" = Z Y)(d8:dq K mg "law" SD):
  ∃(fd:Qx) (Ps:List Qp),(∀b∈Ps,∃c,TV K ts c b)/\(∀(s:qO) (v:Value),Qs s fd ⟨[v],[]⟩ [("_law_script",v)])/\∀base:Heap,K.In base->base.Ns qw mg->HR base mg->aR l.prog w K mg base cO 10 fa fd ["_law_script"] (SU K Ps):=by
 show d8.atl (spl:=SU K) (Ps:=[pz]) n (λb hb=>?_) (λ_ _ _ _ _ _ _=>rfl) λbase f fd e8 f8=>?_
 ·simp only[jL,JK,or_false]at hb;rcases hb with rfl
  ·show pA.tab
 have I:Here l.prog w K mg base:=⟨⟩;have p:=(show P7 K dX from⟨r,l6,o6,u6,y6⟩);have d:=(show adS K dU from⟨E,z6,c7,d7,f7⟩);have L:=(show adV K fh from⟨J,g7,h7,i7⟩);have T:=(show TB K iB from⟨A,j7,k7,m7⟩);have M:=(show TY K dW from⟨B,o7,u7,y7⟩);have O:=(show TY K fT from⟨D,z7,b8,c8⟩);have lO:=F8.gd I λ_ _ _ F=>Y8 F e;have pE:=OM.g I λ_ _ F=>afx F C;have wg:=OJ.g I λ_ _ F=>ah4 F y C;have Ee:=y4.g I λ_ _ F=>ae7 F j;have Eb:=C3.g I P r λ_ _ F=>Y7 F p o e y h j;have B9:=Er.g I r λ_ _ F=>ac8 F p o;have rN:=C4.g I r λ_ _ F=>Y9 F p;have mv:=wo.g I r λ_ _ F=>afl F p e;have tZ:=Cn.g I r λ_ _ F=>aft F p rN o h;have Ca:=Es.g I r λ_ _ F=>adb F p tZ o;have lP:=C7.g I λ_ _ F=>aln F p wg Ee Eb B9 mv Ca e h;have mQ:=d5.g I λ_ _ F=>ae8 F lO pE lP j h o;have mx:=TR.g I λ_ _ F=>Se F a i Ft;have oK:=F7.g I λ_ _ F=>ah6 F mx;have pD:=OL.g I λ_ _ F=>ah7 F oK;have HX:=i5.g I λ_ _ F=>ac7 F;have Eg:=j5.g I λ_ _ _ F=>Y5 F pD HX mP C;have Tw:=o5.g I λ_ _ _ F=>aic F;have fU:=Rb.g I λ_ _ F=>alp F;have Cb:=Cj.g I Q E λ_ _ F=>afa F d C;have Ao:=FX.g I E λ_ _ F=>ac9 F d;have CY:=Ig.g I E λ_ _ F=>afc F d fU;have CV:=Ie.g I E λ_ _ F=>afb F d Tw Eg;have CZ:=Ao;have Hm:=CY;have Hl:=CV;have Bq:=w5.g I λ_ _ F=>ae6 F;have Cd:=Cm.g I R J λ_ _ F=>afm F L;have Ao:=F5.g I J λ_ _ F=>adf F L CZ;have CY:=Ik.g I J λ_ _ F=>afp F L Hm;have CV:=Ij.g I J λ_ _ F=>afo F L Hl Bq;have Cc:=Ck.g I V B λ_ _ F=>Sg F M C;have Ec:=C5.g I W D λ_ _ F=>Sg F O C;have HU:=FZ.g I B λ_ _ F=>Sd F M;have HV:=Il.g I D λ_ _ F=>Sd F O;have g8:=Ep.g I B λ_ _ F=>M9 F M fU;have h8:=F6.g I D λ_ _ F=>M9 F O fU;have Ow:=Ii.g I B λ_ _ F=>afu F M g8;have Oy:=L6.g I D λ_ _ F=>afv F O h8;have Ov:=Ih.g I B λ_ _ F=>afr F;have Ox:=L4.g I D λ_ _ F=>afs F;have Oz:=z5.g I λ_ _ _ F=>ac6 F HU Ow Ov HV Oy Ox CZ Hm Hl Ao CY CV y o C;have my:=TU.g I λ_ _ F=>afn F y;have Ef:=c6.g I λ_ _ F=>Y4 F mQ Bq C;have dy:=F9.g I λ_ _ F=>aie F pR u k N;have Ei:=d6.g I λ_ _ F=>aif F iY z;have pW:=Ip.g I λ_ _ F=>adg F;have G:=h6.g I λ_ _ F=>ah5 F u N dy Ei C q t;have iR:=Ra.g I λ_ _ F=>ade F dy;have Eh:=i6.g I λ_ _ F=>adh F iR pW C q t;have lM:=C6.g I λ_ _ F=>adk F mx;have Au:=Q8.g I λ_ _ F=>afi F wy AJ lM;have Av:=Q9.g I λ_ _ F=>afk F Eh;have si:=L7.g I λ_ _ F=>afj F AK iR G my o;have cX:=Q7.g I λ_ _ F=>ali F Oq;have HW:=En.g I S A λ_ _ F=>aff F T Au;have mr:=Aj.g I A λ_ _ F=>Sf F T Av si;have tY:=FY.g I A λ_ _ F=>Y6 F T Cb cX;have tX:=C2.g I A λ_ _ F=>alh F T Cc Ec cX;have Ap:=Eo.g I A λ_ _ F=>Z0 F T iY z Hr kA Cd tY tX G;have pT:=pA.g0 I e8 A λ_ _ _ F hc kL=>afd F hc kL T pR u k N Oz Ap my G Ef mQ o;have wj:=OK.g I λ_ _ _ F=>ada F HW mr pT G;have X:=Q3.g I λ_ _ F=>ah9 F o;have wb:=OG.g I λ_ _ F=>afh F X y o;have Ar:=Q5.g I λ_ _ F=>aib F o y m;have we:=TN.g I λ_ _ F=>alk F X Ar y C;have iH:=TQ.g I λ_ _ F=>alm F X y C i;have mw:=Et.g I λ_ _ F=>aid F X iH o;have wa:=OE.g I λ_ _ F=>afg F;have bW:=OH.g I λ_ _ F=>alo F Oq;have mU:=Q4.g I λ_ _ F=>aia F;have Ed:=k6.g I λ_ _ F=>apa F bW mU;have Aq:=Q1.g I λ_ _ F=>ae9 F a C q t;have lK:=OI.g I λ_ _ F=>afw F a i Ft;have pU:=Im.g I λ_ _ F=>afe F lK a C o x;have As:=Q6.g I λ_ _ F=>afq F e Oo mP;have pV:=Io.g I λ_ _ F=>ah8 F bW y o Oo;show alj f8 X wb we mw Aq wa pU pV As Ed mQ wj y o i a C
def walk{l:yq}{q:qL}{v:(Str->Option Value)->Heap->Prop}{J:World->Heap->Prop}{d:DefRec}{K:Params->Yc}(L:l.most=Z 63)(A:d.params.defaults=[])(m:∀(w:World) (h:Heap),J w h->#[128].In h/\∀P,P∈ts->h.get? P=Z (yb #[]))(F:∀(w:World) (mg:Str->Option Value) (fa:Qp) (h:Heap),#[128].In h->h.Ns qw mg->mg d.name=Z (.ref fa)->
   ∃(fd:Qx) (Ps:List Qp),(∀b∈Ps,∃c,TV #[128] ts c b)/\(∀(s:qO) (u:Value),Qs s fd ⟨[u],[]⟩ [("_law_script",u)])/\∀base:Heap,#[128].In base->base.Ns qw mg->HR base mg->aR l.prog w #[128] mg base cO 10 fa fd ["_law_script"] (SU #[128] Ps)):
  xf q loose v J l.row.toRowW d [] (λf vs=>xQ f vs):=
 L2.adE (n:=63) (k:=10) (x:="_law_script") (CX:=λ_=>cO) (sp:=λw Ps=>SU #[128] Ps) L #[9] A ⟨rfl,by decide,by decide⟩ m F (λ_ _ _ a ns C Q g=>⟨a,ns,rfl,g,C,Q.1,λ_=>rfl⟩) λ_ _ _ _ _ z=>z
end My
def PySem.W.Fast.tw9727398682468674401:=0
def PySem.W.Fast.tw10562295130632164484:=0
def PySem.W.Fast.tw4244032403095776958:=0
def PySem.W.Fast.tw3521619151646303469:=0
def PySem.W.Fast.tw5367028381297996223:=0
def PySem.W.Fast.tw2106824307746804795:=0
def PySem.W.Fast.tw9344375371363021629:=0
def PySem.W.Fast.tw941305992883014616:=0
def PySem.W.Fast.tw8352214573421854574:=0
def PySem.W.Fast.tw15895010973344079374:=0
def PySem.W.Fast.tw15637519591148632873:=0
def PySem.W.Fast.tw8206923289558153643:=0
def PySem.W.Fast.tw11083875774111062497:=0
def PySem.W.Fast.tw9125529523745555358:=0
def PySem.W.Fast.tw7015869671190950773:=0
def PySem.W.Fast.tw8478170312446920537:=0
def PySem.W.Fast.tw14303705809918628382:=0
def PySem.W.Fast.tw7838729062610824833:=0
def PySem.W.Fast.tw161199301502215902:=0
def PySem.W.Fast.tw11462188100411998456:=0
def PySem.W.Fast.tw7137518473436254937:=0
def PySem.W.Fast.tw3077244203399357715:=0
def PySem.W.Fast.tw10566477032662905399:=0
def PySem.W.Fast.tw9041211933008436974:=0
def PySem.W.Fast.tw14587806558731056814:=0
def PySem.W.Fast.tw2733391062265894118:=0
def PySem.W.Fast.tw14953482545624442755:=0
def PySem.W.Fast.tw13664724361952901827:=0
def PySem.W.Fast.tw12065746398511055898:=0
def PySem.W.Fast.tw3631702864489479858:=0
def PySem.W.Fast.tw10906818980247262336:=0
def PySem.W.Fast.tw9367406003051130168:=0
def PySem.W.Fast.tw17337054253239056120:=0
def PySem.W.Fast.tw3845501187144620915:=0
def PySem.W.Fast.tw4871976571538944568:=0
def PySem.W.Fast.tw8238580001650280020:=0
def PySem.W.Fast.tw3669967831601477278:=0
def PySem.W.Fast.tw12912301219556863633:=0
def PySem.W.Fast.tw13374171337288298218:=0
def PySem.W.Fast.tw3206067164247189234:=0
def PySem.W.Fast.tw15355251697914484159:=0
def PySem.W.Fast.tw15978194870925036006:=0
def PySem.W.Fast.tw3524369137138321567:=0
def PySem.W.Fast.tw15849999149013708167:=0
def PySem.W.Fast.tw17912720010903124009:=0
def PySem.W.Fast.tw10290539300107096581:=0
def PySem.W.Fast.tw8160214820735453828:=0
def PySem.W.Fast.tw9519222066908857497:=0
def PySem.W.Fast.tw14285006893706485643:=0
def PySem.W.Fast.tw10988349869103652509:=0
def PySem.W.Fast.tw6615432146079467719:=0
def PySem.W.Fast.tw17171295270840501361:=0
def PySem.W.Fast.tw1610381369075486310:=0
def PySem.W.Fast.tw18053912133132554830:=0
def PySem.W.Fast.tw13404170762188675045:=0
def PySem.W.Fast.tw7404226128550537821:=0
def PySem.W.Fast.tw18089886588879580178:=0
def PySem.W.Fast.tw5683997100704119025:=0
def PySem.W.Fast.tw9548911227208191304:=0
def PySem.W.Fast.tw16386424804953202923:=0
def PySem.W.Fast.tw9787686865478179252:=0
def PySem.W.Fast.tw16758395084038776379:=0
def PySem.W.Fast.tw2299210925197093991:=0
def PySem.W.Fast.tw17419899232371227190:=0
def PySem.W.Fast.tw18058857452212604583:=0
def PySem.W.Fast.tw7147237959177502519:=0
def PySem.W.Fast.tw10085464618929837101:=0
def PySem.W.Fast.tw5521445172816492771:=0
def PySem.W.Fast.tw13503426421692768703:=0
def PySem.W.Fast.tw12949260088293632324:=0
def PySem.W.Fast.tw5075612871822525220:=0
def PySem.W.Fast.tw4262574311280507970:=0
def PySem.W.Fast.tw2985117148729588761:=0
def PySem.W.Fast.tw17468537810745283704:=0
def PySem.W.Fast.tw3420297100113466713:=0
def PySem.W.Fast.tw15078113547796315859:=0
def PySem.W.Fast.tw2773994624215488864:=0
def PySem.W.Fast.tw4162283333672039071:=0
def PySem.W.Fast.tw15462136576526925818:=0
def PySem.W.Fast.tw16511650506949742048:=0
def PySem.W.Fast.tw814649843221410334:=0
def PySem.W.Fast.tw5933064814438353616:=0
def PySem.W.Fast.tw8803058007479082857:=0
def PySem.W.Fast.tw3061568004654810942:=0
def PySem.W.Fast.tw15424899583602103486:=0
def PySem.W.Fast.tw10059072903432929372:=0
def PySem.W.Fast.tw4563420105208740857:=0
def PySem.W.Fast.tw10732052447816688029:=0
def PySem.W.Fast.tw7383615071928922573:=0
def PySem.W.Fast.tw7802718798321767751:=0
def PySem.W.Fast.tw18228545219383231968:=0
def PySem.W.Fast.tw3848585694764163236:=0
def PySem.W.Fast.tw7018722090753113175:=0
def PySem.W.Fast.tw2711041699144197600:=0
def PySem.W.Fast.tw14563773766091066246:=0
def PySem.W.Fast.tw8687088262925585583:=0
def PySem.W.Fast.tw16160197107813747081:=0
def PySem.W.Fast.tw17077196437702125880:=0
def PySem.W.Fast.tw4163970988191158591:=0
def PySem.W.Fast.tw6257686289287148927:=0
def PySem.W.Fast.tw4857658761969293738:=0
def PySem.W.Fast.tw5126765527797355507:=0
def PySem.W.Fast.tw648636510630036470:=0
def PySem.W.Fast.tw15598321837770443335:=0
def PySem.W.Fast.tw3129322540861429819:=0
def PySem.W.Fast.tw8158016654330895745:=0
def PySem.W.Fast.tw10864120925938121287:=0
def PySem.W.Fast.tw9242312685699498331:=0
def PySem.W.Fast.tw2602277095076271663:=0
def PySem.W.Fast.tw9062521069170705315:=0
def PySem.W.Fast.tw17997916245401730639:=0
def PySem.W.Fast.tw414480323753430169:=0
def PySem.W.Fast.tw5118148994492056424:=0
def PySem.W.Fast.tw12101635613419174816:=0
def PySem.W.Fast.tw1922471965793154899:=0
def PySem.W.Fast.tw284912799066630795:=0
def PySem.W.Fast.tw158203542015606440:=0
def PySem.W.Fast.tw9293167508932130436:=0
def PySem.W.Fast.tw2612812747647573982:=0
def PySem.W.Fast.tw4136307285022847018:=0
def PySem.W.Fast.tw5836037248655950760:=0
def PySem.W.Fast.tw14647314331142734272:=0
def PySem.W.Fast.tw12659194022879230628:=0
def PySem.W.Fast.tw11472268507694872199:=0
def PySem.W.Fast.tw18243974698089029743:=0
def PySem.W.Fast.tw3797145596349426933:=0
def PySem.W.Fast.tw17555018121021490376:=0
def PySem.W.Fast.tw792684064304545738:=0
def PySem.W.Fast.tw4819545796153065546:=0
def PySem.W.Fast.tw15546119026399174890:=0
def PySem.W.Fast.tw9748427980702933799:=0
def PySem.W.Fast.tw15638938146715223229:=0
def PySem.W.Fast.tw14911035435083534871:=0
def PySem.W.Fast.tw7882840709246510628:=0
def PySem.W.Fast.tw11414188106541558840:=0
def PySem.W.Fast.tw17724761097394018437:=0
def PySem.W.Fast.tw7327056066520099905:=0
def PySem.W.Fast.tw799215336469521431:=0
def PySem.W.Fast.tw11934857126720590694:=0
def PySem.W.Fast.tw7539105513404909450:=0
def PySem.W.Fast.tw8395758192404096513:=0
def PySem.W.Fast.tw9004402012921696338:=0
def PySem.W.Fast.tw18013243903788585612:=0
def PySem.W.Fast.tw9493441777458935863:=0
def PySem.W.Fast.tw14257071335421730915:=0
def PySem.W.Fast.tw13438717855292308905:=0
def PySem.W.Fast.tw13435140243089208939:=0
def PySem.W.Fast.tw10927418939683204703:=0
def PySem.W.Fast.tw14982830692385976242:=0
def PySem.W.Fast.tw10647621531884847842:=0
def PySem.W.Fast.tw15408181095016631817:=0
def PySem.W.Fast.tw7277363088182108046:=0
def PySem.W.Fast.tw16592662677743897808:=0
def PySem.W.Fast.tw15356440466079122211:=0
def PySem.W.Fast.tw16943741547389762117:=0
def PySem.W.Fast.tw9367327539078945136:=0
def PySem.W.Fast.tw7201592459353168810:=0
def PySem.W.Fast.tw13715080010131442462:=0
def PySem.W.Fast.tw13215105851036473908:=0
def PySem.W.Fast.tw10402096733588177571:=0
def PySem.W.Fast.tw18353267721463838417:=0
def PySem.W.Fast.tw8315785955693836688:=0
def PySem.W.Fast.tw15662990559762322920:=0
def PySem.W.Fast.tw546270965820099536:=0
def PySem.W.Fast.tw4656209256553859551:=0
def PySem.W.Fast.tw9714444666785724156:=0
def PySem.W.Fast.tw3818923637299711488:=0
def PySem.W.Fast.tw11282208396367731011:=0
def PySem.W.Fast.tw14226844513116450607:=0
def PySem.W.Fast.tw4626155815906483961:=0
def PySem.W.Fast.tw10043018851578097009:=0
def PySem.W.Fast.tw10143659173782959069:=0
def PySem.W.Fast.tw12460403808090770163:=0
def PySem.W.Fast.tw3768471087085449480:=0
def PySem.W.Fast.tw6398464940730061681:=0
def PySem.W.Fast.tw6612495680361969177:=0
def PySem.W.Fast.tw2409004465880396742:=0
def PySem.W.Fast.tw17770970776351548566:=0
def PySem.W.Fast.tw14600844092515657398:=0
def PySem.W.Fast.tw12081051115487493897:=0
def PySem.W.Fast.tw2081251367814430941:=0
def PySem.W.Fast.tw13803671985744080480:=0
def PySem.W.Fast.tw5589697855624852612:=0
def PySem.W.Fast.tw17764853051062764220:=0
def PySem.W.Fast.tw8152009452438876261:=0
def PySem.W.Fast.tw4898853182286761441:=0
def PySem.W.Fast.tw15833024873692224171:=0
def PySem.W.Fast.tw14556654515000556637:=0
def PySem.W.Fast.tw10609756002744269252:=0
def PySem.W.Fast.tw18120800235068688685:=0
def PySem.W.Fast.tw13052189002973398214:=0
def PySem.W.Fast.tw18342765572788872735:=0
def PySem.W.Fast.tw6232420828575820193:=0
def PySem.W.Fast.tw12935198674261398050:=0
def PySem.W.Fast.tw8612761706181481800:=0
def PySem.W.Fast.tw15609831829330642693:=0
def PySem.W.Fast.tw12700130498098675256:=0
def PySem.W.Fast.tw7302466843286405566:=0
def PySem.W.Fast.tw17665491143367888970:=0
def PySem.W.Fast.tw11501352858140429308:=0
def PySem.W.Fast.tw4310281528921060884:=0
def PySem.W.Fast.tw664165511196129113:=0
def PySem.W.Fast.tw873156123556136523:=0
def PySem.W.Fast.tw16398304936608574665:=0
def PySem.W.Fast.tw17786645623754936332:=0
def PySem.W.Fast.tw12873428235376853722:=0
def PySem.W.Fast.tw1290855617588573094:=0
def PySem.W.Fast.tw18197973148570671453:=0
def PySem.W.Fast.tw3900774960828980041:=0
def PySem.W.Fast.tw7049698049480406825:=0
def PySem.W.Fast.tw14856534757987947292:=0
def PySem.W.Fast.tw3759771932751247386:=0
def PySem.W.Fast.tw9423417220370301126:=0
def PySem.W.Fast.tw4380506796028033894:=0
def PySem.W.Fast.tw11793393325803122130:=0
def PySem.W.Fast.tw318406548780621817:=0
def PySem.W.Fast.tw4039740530180428669:=0
def PySem.W.Fast.tw10687341684590837284:=0
def PySem.W.Fast.tw1743003752557345849:=0
def PySem.W.Fast.tw17857958614838556008:=0
def PySem.W.Fast.tw10253791351518561547:=0
def PySem.W.Fast.tw1289086148835893689:=0
def PySem.W.Fast.tw5148287573954423413:=0
def PySem.W.Fast.tw14962940452037514004:=0
def PySem.W.Fast.tw5413957455763931316:=0
def PySem.W.Fast.tw11399664847055583818:=0
def PySem.W.Fast.tw7391059893617926093:=0
def PySem.W.Fast.tw7850246190185794107:=0
def PySem.W.Fast.tw5950241818956034823:=0
def PySem.W.Fast.tw14405207427797324421:=0
def PySem.W.Fast.tw15050690621785296135:=0
def PySem.W.Fast.tw17604763551855297545:=0
def PySem.W.Fast.tw8865558549187595473:=0
def PySem.W.Fast.tw6711547207865136063:=0
def PySem.W.Fast.tw2520490581331871547:=0
def PySem.W.Fast.tw8863259870171299260:=0
def PySem.W.Fast.tw12014125033911778379:=0
def PySem.W.Fast.tw1642406655705966074:=0
def PySem.W.Fast.tw3933573286254657211:=0
def PySem.W.Fast.tw8497997370202208274:=0
def PySem.W.Fast.tw7192634093122909722:=0
def PySem.W.Fast.tw2895721437233129500:=0
def PySem.W.Fast.tw13786493080854558339:=0
def PySem.W.Fast.tw17065074112671734491:=0
def PySem.W.Fast.tw12534629815377571735:=0
def PySem.W.Fast.tw7185504709967599263:=0
def PySem.W.Fast.tw12329717887501684650:=0
def PySem.W.Fast.tw18030513832253498260:=0
def PySem.W.Fast.tw17329057673350972516:=0
def PySem.W.Fast.tw4910202205528019886:=0
def PySem.W.Fast.tw15410391758207970452:=0
def PySem.W.Fast.tw15424386157613986938:=0
def PySem.W.Fast.tw12915271439266193607:=0
def PySem.W.Fast.tw516156686686805455:=0
def PySem.W.Fast.tw4394107105880667161:=0
def PySem.W.Fast.tw12086432468514440788:=0
def PySem.W.Fast.tw7974480009503787510:=0
def PySem.W.Fast.tw1692320443020446781:=0
def PySem.W.Fast.tw7871679130756175982:=0
def PySem.W.Fast.tw3027848218732448350:=0
def PySem.W.Fast.tw3830392660752316371:=0
def PySem.W.Fast.tw15013723206059292204:=0
def PySem.W.Fast.tw8940038835316941977:=0
def PySem.W.Fast.tw8749319025861732911:=0
def PySem.W.Fast.tw11359232198328274065:=0
def PySem.W.Fast.tw4118273057175081217:=0
def PySem.W.Fast.tw15926320510474500532:=0
def PySem.W.Fast.tw4621626402604067248:=0
def PySem.W.Fast.tw12094294823266696818:=0
def PySem.W.Fast.tw18075049209905801687:=0
def PySem.W.Fast.tw858553848837499244:=0
def PySem.W.Fast.tw14425959012651283833:=0
def PySem.W.Fast.tw12064347554712276708:=0
def PySem.W.Fast.tw15624152355629070084:=0
def PySem.W.Fast.tw7859913212229733364:=0
def PySem.W.Fast.tw15570124339131696317:=0
def PySem.W.Fast.tw5123465551458921921:=0
def PySem.W.Fast.tw4832178447964042387:=0
open PySem PySem.W PyProof.Rows
set_option maxRecDepth 100000 in
set_option maxHeartbeats 0 in
theorem PySem.Challenge.cw_figuretell_k63_atoms_made_holds : PySem.Challenge.rw_figuretell_k63_atoms_made.Holds := by
 w_on; o_law; k_head; (case hw=>w_witness2)
 k_fill
 refine My.walk (l:=PySem.Challenge.rw_figuretell_k63_atoms_made) rfl rfl (fun w h Y=>Y) ?F
 case F =>
  intro w mg fa h KX G hmg
  apply My.all_mk hmg
  all_goals first
   | exact PySem.W.mg_none_of KX G (by k_is)
   | (refine' PySem.W.mg_of KX G ?qa; (case qa=>k_is))
   | (refine' My.atz ?qa ?ql ?qc ?qk ?qn ?_ ?_ ?_ ?_; (case qa=>k_is); (case ql=>k_is); (case qc=>k_is); (case qk=>k_is); (case qn=>k_is); all_goals first | k_is | k_exc | decide | kernel_rfl)
   | (refine' My.alW ?ql; (case ql=>k_is))
   | (refine' My.alV ?ql; (case ql=>k_is))
   | (refine' My.auL KX G ?qa ?ql ?qc ?qk; (case qa=>k_is); (case ql=>k_is); (case qc=>k_is); (case qk=>k_is))
   | (refine' My.auK KX G ?qa ?ql ?qc ?qk ?qt ?qr; (case qa=>k_is); (case ql=>k_is); (case qc=>k_is); (case qk=>k_is); (case qt=>k_is); (case qr=>first | rfl | exact ⟨_,rfl⟩))
   | (refine' My.ap0 KX G ?qa ?ql ?qc ?qk ?qt ?qr0 ?qr1 ?qr2; (case qa=>k_is); (case ql=>k_is); (case qc=>k_is); (case qk=>k_is); (case qt=>k_is); all_goals first | rfl | exact ⟨_,rfl⟩)
   | (refine' My.aty ?qa ?ql ?qc ?qk ?qn; (case qa=>k_is); (case ql=>k_is); (case qc=>k_is); (case qk=>k_is); (case qn=>k_is))
   | (refine' My.atc ?qa ?ql ?qc ?qk ?_ ?_ ?_; (case qa=>k_is); (case ql=>k_is); (case qc=>k_is); (case qk=>k_is); all_goals first | k_is | k_exc | decide | kernel_rfl)
   | k_is
   | k_exc
   | (refine ⟨?_,?_,?_,?_⟩ <;> first | k_is | k_exc | decide | kernel_rfl)
   | decide
   | kernel_rfl
