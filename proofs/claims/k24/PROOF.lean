import PyProof.Rows.All
import Wide.All
import OpenK.AllK
import Wide.FinOn
import Lean
import PyProof.EqAt
import PyProof.EqKinds
import PyProof.TupleCall
import PyProof.NeKinds
import PyProof.ExcBaseAll.ValueError
import PyProof.ExcClass3
import OpenK.KOwn
import PyProof.Rows.FStr
import KE.KTryMore
import PyProof.ExcAttrAll.ValueError
import KE.KDictList
import PyProof.CompMap
import PyProof.ExcInit
import PyProof.InstStoreFacts
import PyProof.Draws
import PyProof.ListRange
import PyProof.ZipIter
import PyProof.EnumMake
import PyProof.CollectIter
import PyProof.SetRoads
import PyProof.Rows.SortShell
import PyProof.Rows.SortWalk
import PySem.Challenge.RW_figuretell_k24_paired_and_changed
open PySem.W renaming Frag→WC,findIn→WE,keepIn→WL,kitOne→WM,fnOf→WN,kia_one→WO,mroIn→WS,emptyDict→WU,codeIn→WX,subIn→Wa,instObj→Wc,callWith_K→Wi,tabIn→Wk,typeIn→Wo,cellsFrom_some→Wr,hasDictIn→Wt,specialIn→Wu,isFn→Wv,exmOne→Wx,hideAll_get→Wy,tabObj→YD,plainGet→YG,methodCall_KW→YI,hideAll_none→YJ,kla_obj→YM,OpenLaw→YN,plainGet_of→YQ,lookIn→YR,codeRec_of→YV,methodObj→YZ,codeHdIn→Yd,envX→Ye,nsIn→Yf,takerIn→Ym,makesIn→Yn,readsIn→Yo,findCls→Yp,kitCls→Yy,mg_of→yD,codeHd_of_K→yF,of_hideAll→yH,plainOver→yN,kitx_list→yP,kitx_dict→yQ,handedIn→yW,kdl_call→yX,hideAll→ya,takesIn→yb,kla_fn→yk,WalkO→yp
open PySem.Value renaming ref→WD,none→WJ,int→WQ,builtin→WT,type→WW,str→YH,bool→Yz,float→yV,isStrOf→yl,isInt→XX,bytes→XY
open PySem.F renaming plainAttrs_list→WG,slot_list_append→WH,type_list_append→WI,slot_dict_keyiterator_iter→WY,slot_dict_get→Wb,plainAttrs_dict→We,slot_dict_keyiterator_next→Wg,slot_tuple_iterator_next→Wj,entry_dict_get→Ws,slot_enumerate_next→Ww,args_dict_keyiterator_iter_1→YA,entry_dict_keyiterator_iter→YB,slot_dict_itemiterator_iter→YC,args_dict_keyiterator_next_1→YL,entry_dict_keyiterator_next→YO,args_tuple_iterator_next_1→YS,slot_dict_setdefault→YT,entry_tuple_iterator_next→YW,excBase_ValueError→YY,args_dict_get_2→Yg,args_dict_get_3→Yh,args_enumerate_next_1→Yj,slot_dict_items→Yk,entry_enumerate_next→Yq,slot_dict_pop→Ys,type_dict_get→Yt,entry_bexc_ga→Yu,slot_list_pop→Yw,type_list_pop→Yx,args_list_extend_2→yA,args_bexc_ga→yB,kt_typeCall_dict_1→yC,entry_list_extend→yE,slot_list_extend→yJ,args_dict_init_2→yK,entry_dict_init→yS,slot_tuple_hash→yU,kt_called_dict→yY,slot_dict_iter→yZ,plain_set_new→ye,slot_dict_len→yg
open PySem renaming mem_of_lookup→WK,Within→yG,call→yc
open PyProof.Rows renaming callWith_type1→WR,step_dedup→YF,callWith_builtin1→YK
open PySem.Calls renaming spliced_cons→WV,callWith_builtin→WZ,spliced_nil→Wl,evalArgs_plain→Wm,Name_function_global→YX
open PySem.Builtin.List renaming listTooLong→Wd
open PySem.Heap.SameBut renaming update→Wf,refl→Xf
open PySem.Heap renaming SameBut→Wh,ExtBut→XZ,IsList→Xa
open PySem.Builtin.SmallTypes renaming nextOf→Wn
open PySem.Builtin.Dict renaming updateFrom→Wq,addKeywords→Yb,selfAndRest→Yc,pairItems→Yr,showsAll→Yv,dictSlotNone→XD,pendingCount→XE
open PySem.Builtin.Tuple renaming tupleHashOf→Wz,tupleItemsOf→yo
open PyProof.Rows.F renaming plain_set_update_loop→YE,entry_set_update_loop→Yl
open PySem.Builtin.Dict_items renaming ownsTuple→YU
open PySem.SeqAt renaming EqAt→Ya
open PySem.Builtin.ObjectAttr renaming find→Yi,dataDescriptor?→yR,getOf→XU
open PySem.W.Looks renaming here→yI,ld→Xi
open PySem.SeqAt.EqAt renaming int_int→yL,of_refs→yM,same→yf,int_str→Xc,str_int→Xd
open PySem.Heap.Ns1 renaming of_empty→yO
open PySem.SeqAt.RcAt renaming tuples→yT
open PySem.Heap.DictOf renaming new→yd
open PySem.Value.int renaming injEq→yh
open PySem.Value.ref renaming injEq→yi,inj→ym
open PySem.Builtin.Frozenset renaming updateFrom→yj,newClass→yn
open PySem.EqNone renaming eq_none_none→yq,eq_none_bool→yr,eq_bool_none→yt,ne_none_none→yx,ne_none_bool→yz,ne_bool_none→XA,eq_none_int→XF,eq_none_str→XG,eq_int_none→XH,eq_str_none→XJ,ne_none_int→XN,ne_none_str→XO,ne_int_none→XQ,ne_str_none→XS
open PySem.EqMixed renaming eq_bool_str→yu,eq_str_bool→yw,ne_bool_str→XB,ne_str_bool→XC,eq_int_str→XI,eq_str_int→XM,ne_int_str→XR,ne_str_int→XT
open PySem.Builtin.Range renaming rangeSize→XW
open PySem.Heap.Ns renaming of_isNs→Xb
open PySem.Within renaming cons→Xe
open PySem.IsL renaming update→Xg
open PySem.Heap.DictOfH renaming new→Xh
open PySem.Value.type renaming inj→Xj
open PySem renaming Addr→Zg,Arguments→Zi,BindsTo→Zj,CmpOp→Zk,DictEntry→Zl,ElemsOf→Zm,Env→Zn,FuncData→Zo,GenState→Zp,IsTupleKey→Zs,Keyword→Zt,NameKind→Zu,Paired→Zv,PassesOwn→Zw,Program→Zx,Sem→Zy,SetTable→Zz,Shared→QA,Str→QB,assignEach→QC,behindInMarks→QD,bootBuiltins→QE,call_meets→QF,call_meetsIn→QG,codeAny_builtin→QH,codeAny_call_builtin→QI,codeAny_call_function→QJ,codeAny_func→QK,codeAny_mono→QL,codeAny_of_tree→QM,compareOp→QN,fits_of_scanBound→QO,intKind→QP,intKind_is→QQ,isSubtype_stop→QR,kt_code_dict_new→QS,mainGlobals→QU,pastItsLine_dict→QV,plainId_quiet→QW,plainObj_wpAny_Assign_Attribute→QX,seqIndex_of→QY,sizeLine_eq→QZ,starEach→Qa,swapsWith→Qc,sysModules→Qe,tupleKind→Qf,tupleKind_room_in1→Qg,wpAny_Assign_Name→Qh,wpAny_Assign_Subscript→Qi,wpAny_Call_Name_kw→Qj,wpAny_Call_method→Qk,wpAny_Dict_empty→Ql,wpAny_Name→Qm,wpAny_Return_some→Qn,wpAny_assign_Name→Qo,wpAny_attempt→Qp,wpAny_bind→Qq,wpAny_call→Qr,wpAny_callSpecial?_slot→Qs,wpAny_call_entry→Qt,wpAny_comprehension_free→Qu,wpAny_dictEntries→Qv,wpAny_dictEpoch→Qw,wpAny_dictSet_heap→Qx,wpAny_entryPlaceOf→Qy,wpAny_execs_cons→Qz,wpAny_execs_nil→qA,wpAny_field→qB,wpAny_frameOf_fun→qD,wpAny_getItem_heap→qE,wpAny_holding→qF,wpAny_isInstance→qG,wpAny_isOneOf_keyiter→qH,wpAny_isSubtype_exc→qI,wpAny_isTrue_Compare1→qJ,wpAny_letOwnedTupleGo_enum→qK,wpAny_loadPart→qL,wpAny_loadPart_at→qM,wpAny_lookBehind→qN,wpAny_mono→qO,wpAny_newFunctionEnv→qP,wpAny_newFunctionEnv_cells→qQ,wpAny_newObj_type→qR,wpAny_notOrdered_dict→qU,wpAny_of_eq→qV,wpAny_passesOwn→qW,wpAny_pure→qX,wpAny_pyIter_enum→qY,wpAny_pyIter_list→qZ,wpAny_pyIter_slot→qd,wpAny_pyIter_tuple→qf,wpAny_pyNext_enum_itemD→qg,wpAny_ret_mkInt→qh,wpAny_rule→qj,wpAny_seqItems→qp,wpAny_setField→qq,wpAny_setItem_heap→qu,wpAny_specialOf→qv,wpAny_standAt→qw,wpAny_storeSet_of→qx,wpAny_truthy_bool→qy,wpAny_typeNameOfWhole_keyiter→qz,wpAny_typeNameOf_keyiter→WA,wpAny_typeOf→WB
open PyProof.Rows renaming AllBare→Zh,IntsAre→Zq,IsTup→Zr,subscriptTail_builtinR→Qb,wpAny_notIn_heap→qS
open PySem.W renaming looks_mroIn→QT
open List renaming getElem?_eq_getElem→jA,map_append→jD,mem_cons_self→jE,length_append→jG,getElem_mem→jH,mem_singleton→jI,mem_cons_of_mem→jK,mem_map→jM,getD_eq_getElem?_getD→jN,getElem?_map→jP,length_map→jQ,mem_append_right→jR,length_singleton→jS,size_toArray→jT,take_add_one→jU,mem_cons→jW,length_take→jX,take_length→jY,getElem_of_mem→jZ,length_cons→jc,getElem?_eq_some_iff→jf,mem_append_left→jg,nodup_cons→jh,idxOf_lt_length_of_mem→ji,getElem?_append_left→jk,getElem?_append_right→jm,range→jn,lookup_cons→jq,append_nil→jr,mem_range→js,length_range→ju,append_assoc→jv,mem_filter→jy,drop_eq_getElem_cons→jz,nodup_append→JA,mem_iff_getElem?→JD,map_cons→JE,map_map→JF,foldl_append→JG,filter_cons_of_neg→JH,mem_of_getElem?→JI,getElem_inj→JJ,filter_cons_of_pos→JK,nodup_nil→JN,length_pos_of_mem→JO,range_succ→JP,getElem_map→JV,foldl_cons→JX,lookup→JY,filter_append→Ja,length_nil→Jb,getElem?_set_self→Jc,getElem_idxOf→Je,getElem?_eq_none→Jf,getElem?_set_ne→Jg,mem_erase_of_ne→Jh,drop_eq_nil_iff→Ji,length→Jj,length_erase_of_mem→Jp,mem_append→Jq,of_mem_zip→Jr,find?_cons→Js,pairwise_map→Ju,replicate→Jw,set_set→Jx,length_filter_le→Jy,any_eq_true→Jz,filterMap_cons→zB,getElem_take→zF,idxOf_append→zG,drop_length→zH,length_set→zL,dropLast_concat_getLast→zO,take_zero→zP,mem_filterMap→zQ,zipIdx_append→zR,exists_cons_of_ne_nil→zS,take_sublist→zT,filter_congr→zW,flatMap_cons→zX,getElem?_zip_eq_some→zY,pairwise_iff_getElem→zZ,not_mem_nil→ze,ext_getElem→zg,mem_reverse→zh,mem_flatMap→zk,pairwise_singleton→zo,forIn_cons→zp,nil_append→zq,take_of_length_le→zt,pairwise_lt_range→zu,find?_cons_of_neg→zv,drop_eq_nil_of_le→zw,take_append_drop→zz,length_dropLast→ZA,dropLast_concat→ZD,any_cons→ZE,map_congr_left→ZH,filter_eq_self→ZI,getElem?_range→ZJ,flatMap_append→ZK,map_nil→ZM,length_zipIdx→ZR,getElem_range→ZS,map_id→ZU,filter_cons→ZW,flatMap_nil→ZX,filter_nil→ZZ,idxOf_cons→Za,forIn_nil→Zb
open PySem.Heap renaming get?_push_of_some→jB,lt_size→jJ,get?_push_size→jL,get?_update_other→jt,get?_update_self→JC,size_push→JW,get?_none_of_le→zJ,get?_push_cases→zM,get?_update_ne→ZG
open Int renaming toNat_natCast→jC,toNat_of_nonneg→jd,zero_add→Jn,emod_lt_of_pos→ZP,emod_nonneg→ZY,mul_one→Zf
open Nat renaming le_refl→jF,ne_of_lt→jO,lt_of_lt_of_le→jV,zero_le→jb,le_trans→jo,le_succ→JM,lt_or_ge→JT,zero_add→JU,lt_irrefl→JZ,lt_trans→Jd,ne_of_gt→Jk,lt_succ_self→Jl,le_of_not_lt→Jm,sub_self→Jo,le_of_lt→Jv,lt_of_le_of_lt→zD,not_lt_zero→zN,lt_succ_of_lt→zU,succ_le_succ→zj,le_antisymm→zr,eq_zero_or_pos→ZN,add_sub_cancel→ZQ,mul_le_mul→Zc,le_of_eq→Ze
open Bool renaming false_ne_true→je,false_eq_true→JB,eq_iff_iff→zK,false_and→zx,and_false→zy,not_true→ZF,and_eq_true→ZV,and_true→Zd
open Array renaming length_toList→jx,getElem?_eq_some_iff→JL,getElem?_eq_getElem→JQ,getElem?_toList→JR,getElem?_setIfInBounds_self_of_lt→zA,toList→zC,getElem?_setIfInBounds_ne→zI,toArray_toList→ZC,find?_toList→ZL,forIn_toList→ZO
open Option renaming isSome_iff_exists→JS,map_eq_some_iff→Jt,bind_eq_some_iff→zE,isSome_map→zV,getD_some→zb,none→ZT
local macro_rules|`(tactic|exists $es,*)=>`(tactic|refine ⟨$es,*, ?_⟩)
set_option Elab.async false
set_option linter.all false
namespace L2
variable{t0 t1 t2 t3 t4 t5 t6 t7 t8 t9 FO IE N0 PU Tv N1 Tw t17 t18:Type}
inductive E2 (p:t0->t1->Prop):Prop
 | mk (x0:t0) (x1:t1) (h:p x0 x1):E2 p
inductive E3 (p:t0->t1->t2->Prop):Prop
 | mk (x0:t0) (x1:t1) (x2:t2) (h:p x0 x1 x2):E3 p
inductive E4 (p:t0->t1->t2->t3->Prop):Prop
 | mk (x0:t0) (x1:t1) (x2:t2) (x3:t3) (h:p x0 x1 x2 x3):E4 p
inductive E5 (p:t0->t1->t2->t3->t4->Prop):Prop
 | mk (x0:t0) (x1:t1) (x2:t2) (x3:t3) (x4:t4) (h:p x0 x1 x2 x3 x4):E5 p
inductive E6 (p:t0->t1->t2->t3->t4->t5->Prop):Prop
 | mk (x0:t0) (x1:t1) (x2:t2) (x3:t3) (x4:t4) (x5:t5) (h:p x0 x1 x2 x3 x4 x5):E6 p
inductive E7 (p:t0->t1->t2->t3->t4->t5->t6->Prop):Prop
 | mk (x0:t0) (x1:t1) (x2:t2) (x3:t3) (x4:t4) (x5:t5) (x6:t6) (h:p x0 x1 x2 x3 x4 x5 x6):E7 p
inductive E8 (p:t0->t1->t2->t3->t4->t5->t6->t7->Prop):Prop
 | mk (x0:t0) (x1:t1) (x2:t2) (x3:t3) (x4:t4) (x5:t5) (x6:t6) (x7:t7) (h:p x0 x1 x2 x3 x4 x5 x6 x7):E8 p
inductive E9 (p:t0->t1->t2->t3->t4->t5->t6->t7->t8->Prop):Prop
 | mk (x0:t0) (x1:t1) (x2:t2) (x3:t3) (x4:t4) (x5:t5) (x6:t6) (x7:t7) (x8:t8) (h:p x0 x1 x2 x3 x4 x5 x6 x7 x8):E9 p
inductive E10 (p:t0->t1->t2->t3->t4->t5->t6->t7->t8->t9->Prop):Prop
 | mk (x0:t0) (x1:t1) (x2:t2) (x3:t3) (x4:t4) (x5:t5) (x6:t6) (x7:t7) (x8:t8) (x9:t9) (h:p x0 x1 x2 x3 x4 x5 x6 x7 x8 x9):E10 p
inductive E11 (p:t0->t1->t2->t3->t4->t5->t6->t7->t8->t9->FO->Prop):Prop
 | mk (x0:t0) (x1:t1) (x2:t2) (x3:t3) (x4:t4) (x5:t5) (x6:t6) (x7:t7) (x8:t8) (x9:t9) (Ao:FO) (h:p x0 x1 x2 x3 x4 x5 x6 x7 x8 x9 Ao):E11 p
inductive E12 (p:t0->t1->t2->t3->t4->t5->t6->t7->t8->t9->FO->IE->Prop):Prop
 | mk (x0:t0) (x1:t1) (x2:t2) (x3:t3) (x4:t4) (x5:t5) (x6:t6) (x7:t7) (x8:t8) (x9:t9) (Ao:FO) (Dg:IE) (h:p x0 x1 x2 x3 x4 x5 x6 x7 x8 x9 Ao Dg):E12 p
inductive E13 (p:t0->t1->t2->t3->t4->t5->t6->t7->t8->t9->FO->IE->N0->Prop):Prop
 | mk (x0:t0) (x1:t1) (x2:t2) (x3:t3) (x4:t4) (x5:t5) (x6:t6) (x7:t7) (x8:t8) (x9:t9) (Ao:FO) (Dg:IE) (Py:N0) (h:p x0 x1 x2 x3 x4 x5 x6 x7 x8 x9 Ao Dg Py):E13 p
inductive E14 (p:t0->t1->t2->t3->t4->t5->t6->t7->t8->t9->FO->IE->N0->PU->Prop):Prop
 | mk (x0:t0) (x1:t1) (x2:t2) (x3:t3) (x4:t4) (x5:t5) (x6:t6) (x7:t7) (x8:t8) (x9:t9) (Ao:FO) (Dg:IE) (Py:N0) (Tq:PU) (h:p x0 x1 x2 x3 x4 x5 x6 x7 x8 x9 Ao Dg Py Tq):E14 p
inductive E17 (p:t0->t1->t2->t3->t4->t5->t6->t7->t8->t9->FO->IE->N0->PU->Tv->N1->Tw->Prop):Prop
 | mk (x0:t0) (x1:t1) (x2:t2) (x3:t3) (x4:t4) (x5:t5) (x6:t6) (x7:t7) (x8:t8) (x9:t9) (Ao:FO) (Dg:IE) (Py:N0) (Tq:PU) (x14:Tv) (x15:N1) (x16:Tw) (h:p x0 x1 x2 x3 x4 x5 x6 x7 x8 x9 Ao Dg Py Tq x14 x15 x16):E17 p
inductive E18 (p:t0->t1->t2->t3->t4->t5->t6->t7->t8->t9->FO->IE->N0->PU->Tv->N1->Tw->t17->Prop):Prop
 | mk (x0:t0) (x1:t1) (x2:t2) (x3:t3) (x4:t4) (x5:t5) (x6:t6) (x7:t7) (x8:t8) (x9:t9) (Ao:FO) (Dg:IE) (Py:N0) (Tq:PU) (x14:Tv) (x15:N1) (x16:Tw) (x17:t17) (h:p x0 x1 x2 x3 x4 x5 x6 x7 x8 x9 Ao Dg Py Tq x14 x15 x16 x17):E18 p
inductive E19 (p:t0->t1->t2->t3->t4->t5->t6->t7->t8->t9->FO->IE->N0->PU->Tv->N1->Tw->t17->t18->Prop):Prop
 | mk (x0:t0) (x1:t1) (x2:t2) (x3:t3) (x4:t4) (x5:t5) (x6:t6) (x7:t7) (x8:t8) (x9:t9) (Ao:FO) (Dg:IE) (Py:N0) (Tq:PU) (x14:Tv) (x15:N1) (x16:Tw) (x17:t17) (x18:t18) (h:p x0 x1 x2 x3 x4 x5 x6 x7 x8 x9 Ao Dg Py Tq x14 x15 x16 x17 x18):E19 p
inductive E24 {t19 t20 t21 t22 t23:Type} (p:t0->t1->t2->t3->t4->t5->t6->t7->t8->t9->FO->IE->N0->PU->Tv->N1->Tw->t17->t18->t19->t20->t21->t22->t23->Prop):Prop
 | mk (x0:t0) (x1:t1) (x2:t2) (x3:t3) (x4:t4) (x5:t5) (x6:t6) (x7:t7) (x8:t8) (x9:t9) (Ao:FO) (Dg:IE) (Py:N0) (Tq:PU) (x14:Tv) (x15:N1) (x16:Tw) (x17:t17) (x18:t18) (x19:t19) (x20:t20) (x21:t21) (x22:t22) (x23:t23) (h:p x0 x1 x2 x3 x4 x5 x6 x7 x8 x9 Ao Dg Py Tq x14 x15 x16 x17 x18 x19 x20 x21 x22 x23):E24 p
inductive E32 {t19 t20 t21 t22 t23 t24 t25 t26 t27 t28 t29 t30 t31:Type} (p:t0->t1->t2->t3->t4->t5->t6->t7->t8->t9->FO->IE->N0->PU->Tv->N1->Tw->t17->t18->t19->t20->t21->t22->t23->t24->t25->t26->t27->t28->t29->t30->t31->Prop):Prop
 | mk (x0:t0) (x1:t1) (x2:t2) (x3:t3) (x4:t4) (x5:t5) (x6:t6) (x7:t7) (x8:t8) (x9:t9) (Ao:FO) (Dg:IE) (Py:N0) (Tq:PU) (x14:Tv) (x15:N1) (x16:Tw) (x17:t17) (x18:t18) (x19:t19) (x20:t20) (x21:t21) (x22:t22) (x23:t23) (x24:t24) (x25:t25) (x26:t26) (x27:t27) (x28:t28) (x29:t29) (x30:t30) (x31:t31) (h:p x0 x1 x2 x3 x4 x5 x6 x7 x8 x9 Ao Dg Py Tq x14 x15 x16 x17 x18 x19 x20 x21 x22 x23 x24 x25 x26 x27 x28 x29 x30 x31):E32 p
inductive A3 (p0 p1 p2:Prop):Prop
 | mk (_:p0) (_:p1) (_:p2):A3 p0 p1 p2
inductive A4 (p0 p1 p2 p3:Prop):Prop
 | mk (_:p0) (_:p1) (_:p2) (_:p3):A4 p0 p1 p2 p3
inductive A5 (p0 p1 p2 p3 p4:Prop):Prop
 | mk (_:p0) (_:p1) (_:p2) (_:p3) (_:p4):A5 p0 p1 p2 p3 p4
inductive A6 (p0 p1 p2 p3 p4 p5:Prop):Prop
 | mk (_:p0) (_:p1) (_:p2) (_:p3) (_:p4) (_:p5):A6 p0 p1 p2 p3 p4 p5
inductive A7 (p0 p1 p2 p3 p4 p5 p6:Prop):Prop
 | mk (_:p0) (_:p1) (_:p2) (_:p3) (_:p4) (_:p5) (_:p6):A7 p0 p1 p2 p3 p4 p5 p6
inductive A8 (p0 p1 p2 p3 p4 p5 p6 p7:Prop):Prop
 | mk (_:p0) (_:p1) (_:p2) (_:p3) (_:p4) (_:p5) (_:p6) (_:p7):A8 p0 p1 p2 p3 p4 p5 p6 p7
inductive A9 (p0 p1 p2 p3 p4 p5 p6 p7 p8:Prop):Prop
 | mk (_:p0) (_:p1) (_:p2) (_:p3) (_:p4) (_:p5) (_:p6) (_:p7) (_:p8):A9 p0 p1 p2 p3 p4 p5 p6 p7 p8
inductive A10 (p0 p1 p2 p3 p4 p5 p6 p7 p8 p9:Prop):Prop
 | mk (_:p0) (_:p1) (_:p2) (_:p3) (_:p4) (_:p5) (_:p6) (_:p7) (_:p8) (_:p9):A10 p0 p1 p2 p3 p4 p5 p6 p7 p8 p9
inductive A11 (p0 p1 p2 p3 p4 p5 p6 p7 p8 p9 HN:Prop):Prop
 | mk (_:p0) (_:p1) (_:p2) (_:p3) (_:p4) (_:p5) (_:p6) (_:p7) (_:p8) (_:p9) (_:HN):A11 p0 p1 p2 p3 p4 p5 p6 p7 p8 p9 HN
inductive A12 (p0 p1 p2 p3 p4 p5 p6 p7 p8 p9 HN MB:Prop):Prop
 | mk (_:p0) (_:p1) (_:p2) (_:p3) (_:p4) (_:p5) (_:p6) (_:p7) (_:p8) (_:p9) (_:HN) (_:MB):A12 p0 p1 p2 p3 p4 p5 p6 p7 p8 p9 HN MB
inductive A13 (p0 p1 p2 p3 p4 p5 p6 p7 p8 p9 HN MB Si:Prop):Prop
 | mk (_:p0) (_:p1) (_:p2) (_:p3) (_:p4) (_:p5) (_:p6) (_:p7) (_:p8) (_:p9) (_:HN) (_:MB) (_:Si):A13 p0 p1 p2 p3 p4 p5 p6 p7 p8 p9 HN MB Si
inductive A15 (p0 p1 p2 p3 p4 p5 p6 p7 p8 p9 HN MB Si p13 p14:Prop):Prop
 | mk (_:p0) (_:p1) (_:p2) (_:p3) (_:p4) (_:p5) (_:p6) (_:p7) (_:p8) (_:p9) (_:HN) (_:MB) (_:Si) (_:p13) (_:p14):A15 p0 p1 p2 p3 p4 p5 p6 p7 p8 p9 HN MB Si p13 p14
inductive A16 (p0 p1 p2 p3 p4 p5 p6 p7 p8 p9 HN MB Si p13 p14 p15:Prop):Prop
 | mk (_:p0) (_:p1) (_:p2) (_:p3) (_:p4) (_:p5) (_:p6) (_:p7) (_:p8) (_:p9) (_:HN) (_:MB) (_:Si) (_:p13) (_:p14) (_:p15):A16 p0 p1 p2 p3 p4 p5 p6 p7 p8 p9 HN MB Si p13 p14 p15
inductive A18 (p0 p1 p2 p3 p4 p5 p6 p7 p8 p9 HN MB Si p13 p14 p15 p16 p17:Prop):Prop
 | mk (_:p0) (_:p1) (_:p2) (_:p3) (_:p4) (_:p5) (_:p6) (_:p7) (_:p8) (_:p9) (_:HN) (_:MB) (_:Si) (_:p13) (_:p14) (_:p15) (_:p16) (_:p17):A18 p0 p1 p2 p3 p4 p5 p6 p7 p8 p9 HN MB Si p13 p14 p15 p16 p17
end L2
def aar:Nat->Lean.Syntax->List Lean.Syntax
 | 0,b=>[b]
 | n+1,b=>if b.getKind==.mkSimple "term_\u2227_" || b.getKind==.mkSimple "term_/\\_" then b[0] :: aar n b[2]else [b]
def adG(k:Lean.Syntax):List (Lean.Syntax×Lean.Syntax):=
 if k.getKind==`Lean.unbracketedExplicitBinders then k[0].getArgs.toList.map fun i=>(i,k[1][1])
 else k.getArgs.toList.flatMap fun b=>b[1].getArgs.toList.map fun i=>(i,b[3])
open Lean in
local macro_rules
 | `(∃ $xs:explicitBinders,$b) => do
  let bs:=adG xs.raw[0]
  let cs:=aar 99 b
  if bs.length<=1&&cs.length<=2 then Macro.throwUnsupported
  let mut r <- if cs.length<=2 then pure b else do
   let as:Array Term:=cs.toArray.map fun c=>⟨c⟩
   `($(mkIdent (`L2 ++ Name.mkSimple s!"A{cs.length}")) $as*)
  for (i,t) in bs.reverse do
   let i:Term:=⟨i[0]⟩
   let t:Term:=⟨t⟩
   r <- if t.raw.isMissing then `(fun $i => $r)else `(fun($i : $t) => $r)
  if bs.length == 1 then `(Exists $r)else `($(mkIdent (`L2 ++ Name.mkSimple s!"E{bs.length}")) $r)
local macro_rules|`(tactic| omega)=>`(tactic| first|lia|omega (splitNatSub:=true))
set_option maxRecDepth 100000
set_option hygiene false in
local macro_rules
|`(tactic|exists 0)=>`(tactic|refine fP (K:=K) (xs:=qs.map V.int) (fun i σ' H'=>∃ (as:List Zg) (v:OV),σ'=[some (.ref m),some (.ref kl),some (.ref D),some (.ref r),some (.ref g),some (.ref L),v]/\aH H H'/\H' L=some (.lst (as.map V.ref))/\aI H' as (bX rows ρ (qs.take i))) ⟨[],none,rfl,sL,ae,.nil⟩ (fun i σ' H' _ ⟨_,_,_,e,_,_⟩=>cG (e _ _ U6)) ?_ ?_)
|`(tactic|exists 1)=>`(tactic|intro X hP hw hK hc i pins s σ H E I hf st hg)
|`(tactic|exists 2)=>`(tactic|try dsimp only[bC,cj,List.set])
|`(tactic|exists 3)=>`(tactic|obtain⟨f0,f1,f2,f3,f4,f5⟩:=hf it (by simp))
|`(tactic|exists 4)=>`(tactic|intro pins s σ H Q I h)
|`(tactic|exists 5)=>`(tactic|refine .inr ⟨⟨xs,xs[i],q,by simp[fu]⟩,Pv (i+1),fun σ' H' p'=>⟨xs.length-(i+1),by omega,rfl,fu,p'⟩,fun x H' y=>?_⟩)
|`(tactic|exists 6)=>`(tactic|refine cS (t:=AW _ _ _) (fun σ' H'=>∃ (as:List Zg) (v:OV),σ'=[some (.ref m),some (.ref kl),some (.ref D),some (.ref r),some (.ref g),some (.ref L),v]/\aH H H'/\H' L=some (.lst (as.map V.ref))/\aI H' as (bX rows ρ qs)) ?_ (fun D' hZ=>?_))
|`(tactic|exists 7)=>`(tactic|have I1:Inv X pins σ H { s with heap:=h' }:=I.turned (t' := s.toks) (fun b o hb e=>(sb.2 b hb).trans e) f0 f1 f3 f4 f5)
|`(tactic|exists 8)=>`(tactic|refine oK (K:=K) (xs:=(rows.getD z.toNat []).map V.int) (fun D j ys H'=>aH H3 H'/\ys=(((rows.getD z.toNat []).take j).map ρ).map V.int) (fun D hD=>⟨ao hD _,rfl⟩) (fun D j ys H' _ ⟨e,_⟩=>bJ (e _ _ (s3 _ _ e2))) ?_ ?_)
|`(tactic|exists 9)=>`(tactic|refine lY (K:=K) (xs:=qs.map V.int) (fun D j ys H'=>aH (upd H1 rt (HO.tup (as.map V.ref))) H'/\ys=(cb signs (qs.take j)).map V.int) (fun D hD=>⟨ao hD _,rfl⟩) (fun D j ys H' _ ⟨e,_⟩=>cG (e _ _ (Lw _ _ U6))) ?_ ?_)
|`(tactic|exists 10)=>`(tactic|refine⟨fun i m σ' H'=>m=kvs.length-i/\i<=kvs.length/\(σ'=br ix σ\/∃ t,σ'=(br ix σ).set 0 t)/\∃ ys,H' D=some (.lst ys)/\Pv D i ys H',⟨kvs.length,by simp,jb _,.inl rfl,[],ae,h0 D hD⟩,?_⟩)
|`(tactic|exists 11)=>`(tactic|refine⟨fun i m σ' H'=>m=xs.length-i/\i<=xs.length/\(σ'=br ix σ\/∃ t,σ'=(br ix σ).set 0 t)/\∃ ys,H' D=some (.lst ys)/\Pv D i ys H',⟨xs.length,by simp,jb _,.inl rfl,[],ae,h0 D hD⟩,?_⟩)
|`(tactic|exists 12)=>`(tactic|refine I.un (t' := s.toks) ⟨fun b u q _ _ _=>q,fun b u q _ _ _=>⟨u.slots,q⟩,fun b u q n _=>?_,fun b u q _=>⟨u,q⟩,fun b xs q=>?_,fun b u xs q=>?_,fun b ps q=>⟨#[],?_⟩⟩ (fun b u q=>?_))
|`(tactic|exists 13)=>`(tactic|refine⟨_,(au (aW (iy (aG iP (by rfl) aY bN (aa (pv 0) (aa (lU (v:=.ty "int") rfl Es PZ rfl) ag))) (pL (Lr (aG iP (by rfl) aY bN (aa (pv 0) (aa (lU (v:=.ty "bool") rfl AY L7 rfl) ag)))))))),?_⟩)
|`(tactic|exists 14)=>`(tactic|refine⟨fun i m σ H=>m=xs.length-i/\i<=xs.length/\Pv i σ H,⟨xs.length,by simp,jb _,h0⟩,?_⟩)
|`(tactic|exists 15)=>`(tactic|refine callType_codes (Q₁:=fun obj s₁=>obj=.ref s.heap.objs.size/\s₁={ s with heap:=s.heap.push { cls:=.type "dict",data:=.dict #[] } }) yY (yC _) yS (QS _ ⟨rfl,rfl⟩) ?_)
|`(tactic|exists 16)=>`(tactic|have oI:(h1.push { cls:=.type "list_iterator",data:=.fields #[.ref l,.int 0 0] }).get? h1.objs.size=some { cls:=.type "list_iterator",data:=.fields #[.ref l,.int 0 0] }:=jL _ rfl)
|`(tactic|exists 17)=>`(tactic|obtain⟨oc,od,kV,doc,pm,an,ck,ct,Dm,rfl,lk,Dx⟩:=F.ex)
|`(tactic|exists 18)=>`(tactic|generalize etb:({ cls:=.type "traceback",dict:=none,data:=.fields ([head,.ref L,.none,rawInt L,.none]++(if place.isEmpty then Jw 6 WJ else place)).toArray }:Obj)=tb)
|`(tactic|exists 19)=>`(tactic|intro pins s σ H xs us Q I r h)
|`(tactic|exists 20)=>`(tactic|(exact(I.hok b u q).rn (fun c v _ z=>z) (fun c z=>by rw[af (nt c _ z (by intro y;cases y))];exact z) fun c xs z=>by rw[af (nt c _ z (by intro y;cases y))];exact z))
|`(tactic|exists 21)=>`(tactic|have hL':(s.heap.push { cls:=.type "dict",data:=.dict #[] }).get? l=some { cls:=.type "list",dict:=none,data:=.seq (ts.map WD).toArray c,slots := #[] }:=jB _ hL)
|`(tactic|exists 22)=>`(tactic|have Tu:∀ b o,s.heap.get? b=some o->(h1.push { cls:=.type "list_iterator",data:=.fields #[.ref l,.int 0 0] }).get? b=some o:=fun b o q=>jB _ (EW _ _ (jB _ q)))
|`(tactic|exists 23)=>`(tactic|refine cf (hl pins s σ H _ I h) fun v s1 ⟨x,H1,I1,r1,q1⟩=>?_)
|`(tactic|exists 24)=>`(tactic|refine⟨_,rfl,_,rfl,g,_,_,_,rfl,rfl,bJ ((Lw.trans s4) _ _ hg),bK z0 (by omega),k' _ _ hy (aA (by unfold cb;rw[bz,bz,jX];omega)) ⟨av s4 hT,?_⟩⟩)
|`(tactic|exists 25)=>`(tactic|exact k mm rt gt _ (Lw.trans (s4.trans s56)) ⟨ae,⟨as,(s4.trans s56) _ _ ae,A1.same fun b zs e=>(s2.trans (s4.trans s56)) _ _ e⟩,s6 _ _ ae⟩)
|`(tactic|exists 26)=>`(tactic|show wpAny (model P w) (A.deeper (envOfC qual scope s.heap.objs.size f cd)) (leaving (envOfC qual scope s.heap.objs.size f cd) (.ref ea)) _ _ _)
|`(tactic|exists 27)=>`(tactic|(refine⟨as++[t],_,rfl,av (av (s3.trans s4) ((s3.trans s4).free ht)) hL,by rw[ae,jD];rfl,?_⟩))
|`(tactic|exists 28)=>`(tactic|refine cf (hi pins s σ H _ I h) fun iv s1 ⟨y,H1,I1,ry,q1⟩=>cf (ho pins s1 σ H1 _ I1 q1) fun u s2 ⟨x,H2,I2,rx,a,ov,ex,g,q2⟩=>?_)
|`(tactic|exists 29)=>`(tactic|have lim:s.heap.NoLimit:=e0.mod.nolimit.keeps fun b o e=>(e0.bs b o e).1)
|`(tactic|exists 30)=>`(tactic|refine hs D i x ys _ _ hD ex hy p fun y H4 h4 hz p4=>⟨ys,h4,hz,xs.length-(i+1),by omega,rfl,fu,.inr ⟨_,rfl⟩,ys++[y],ae,p4⟩)
|`(tactic|exists 31)=>`(tactic|obtain⟨u,rfl,rx⟩:=vals1 r)
|`(tactic|exists 32)=>`(tactic|have oth:∀ b,b≠T->(s.heap.update T (Obj.mapFields (·.setIfInBounds 3 WJ))).get? b=s.heap.get? b:=fun b y=>jt _ _ (Ne.symm y))
|`(tactic|exists 33)=>`(tactic|have hlen:kvs.length=vs.length:=Paired.length rel)
|`(tactic|exists 34)=>`(tactic|have tbd:tb.data=.fields ([head,.ref L,.none,rawInt L,.none]++(if place.isEmpty then Jw 6 WJ else place)).toArray:=by rw[<- etb])
|`(tactic|exists 35)=>`(tactic|have h':(if t=(m:Int)then aX (m+1) r else if t<(m:Int)then aX m r else none)=some m1:=h)
|`(tactic|exists 36)=>`(tactic|rcases g with⟨kvs,k,e,ey,l⟩|⟨kvs,k,b,e,ey,eb,l⟩)
|`(tactic|exists 37)=>`(tactic|(have abu:(X.env.scope.kind==.class||(X.env.scope.kind==.module&&X.env.locals != X.env.globals))=false:=by rw[I.ok.kind];rfl))
|`(tactic|exists 38)=>`(tactic|refine Wi (h₀:=X.base) I.ok.mod.kin hk (cf (ha pos pins s σ H _ I h) fun us s1 ⟨vs,H1,I1,r,q⟩=>⟨I1.pb,?_⟩) he tw)
|`(tactic|exists 39)=>`(tactic|intro pins s σ H D I h)
set_option hygiene false in
local macro_rules
|`(tactic|exists 40)=>`(tactic|rw[show oX f v ((k,x) :: r)=(if k=f then(k,v) :: r else(k,x) :: oX f v r)from rfl])
|`(tactic|exists 41)=>`(tactic|rcases zM (show(s.heap.push { cls:=.type "tuple",data:=.seq #[.int i tk,y] }).get? b=some o from q)with⟨rfl,rfl⟩|z)
|`(tactic|exists 42)=>`(tactic|(exact⟨o,e,fun v z=>by rw[d]at z;cases z⟩))
|`(tactic|exists 43)=>`(tactic|exact⟨.ref _,_,I.laid (t' := tk) kp (jF _) ob,rfl,q _ (I.hok.fresh (jF _))⟩)
|`(tactic|exists 44)=>`(tactic|exact⟨f,fd,[u],m,F.kp,.cons r .nil,F.IM ho hs _ e fun k d p a c e us=>(b T u k d p a c e).all us,ok T f fd F⟩)
|`(tactic|exists 45)=>`(tactic|(exact⟨_,rfl,_,_,rfl,rfl,.inr ⟨by decide,by decide⟩,_,_,rfl,rfl,(by show(0:Int)<2147483399;decide),fin _⟩))
|`(tactic|exists 46)=>`(tactic|have RA:splitId "BaseException.__getattribute__" = some ("BaseException","__getattribute__"):=by decide +kernel)
|`(tactic|exists 47)=>`(tactic|refine QJ hr.depth (KX _ _ lk) rfl S.co S.gen rfl (YV KX Dx) (hb _ _ _ _ ?_))
|`(tactic|exists 48)=>`(tactic|rintro i m σ' H' ⟨rfl,hi,hσ,ys,hy,p⟩)
|`(tactic|exists 49)=>`(tactic|refine Call_ (rR I hg hm wN (WR (cf (hl pos pins s σ H _ I h) fun us s1 ⟨vs,H1,I1,r1,q1⟩=>?_) hs rfl)))
|`(tactic|exists 50)=>`(tactic|have keep:∀ b o,b≠I->s.heap.get? b=some o->h'.get? b=some o:=fun b o hb q=>hm b o (by simpa using hb) q)
|`(tactic|exists 51)=>`(tactic|exact LX (fun b s₁ Q' q=>gw b s₁ Q' q) ho hex hd aeh hi1 hp1 hb1 lf lt fun h' sb S=>qX (h h' true sb S))
|`(tactic|exists 52)=>`(tactic|refine Qk m.base m.BC m.line We Wb Yt (cf (ho pins s σ H _ I h) fun u s1 ⟨x,H1,I1,rx,a,ex,d,q1⟩=>?_))
|`(tactic|exists 53)=>`(tactic|first|refine Qq (qz ty (qX ?_))|refine Qq (WA ty (qX ?_)))
|`(tactic|exists 54)=>`(tactic|(have Pl:base.StaysIn g1:=fun b o z=>(only.2.1 b fun y=>by rw[(fr.mem y).1]at z;cases z).trans (st b o z)))
|`(tactic|exists 55)=>`(tactic|(refine⟨L,_,_,rfl,rfl,by rw[af nL];exact OE,aA (by rw[bz];omega),?_⟩))
|`(tactic|exists 56)=>`(tactic|(have lq:q.toNat<rows.length:=by have:=R.len;have:=hr.1;have:=hr.2;omega))
|`(tactic|exists 57)=>`(tactic|rintro T j y ys H4 Q' hT hj hy ⟨s4,rfl⟩ k')
|`(tactic|exists 58)=>`(tactic|have e:b=s1.heap.objs.size:=by simpa using hb)
|`(tactic|exists 59)=>`(tactic|intro pins s σ H x vs v us Q I rx rv h)
|`(tactic|exists 60)=>`(tactic|repeat (any_goals (first|assumption|wp_step)))
|`(tactic|exists 61)=>`(tactic|have:(WT "BaseException.__getattribute__" == WT "object.__getattribute__")=false:=by decide +kernel)
|`(tactic|exists 62)=>`(tactic|obtain⟨o',e',hd⟩:=mem ((rT (qual:=qual) (scope:=scope) (s:=s) (f:=f) (cd:=cd) b).mpr (.inr hb)))
|`(tactic|exists 63)=>`(tactic|have W:=Walks.list (prog:=prog) (w:=w) (A:=A.in1.in1) hh h1.objs.size l (jO l1) (ts.map WD).toArray)
|`(tactic|exists 64)=>`(tactic|(refine k' _ _ hyT (aA (by rw[bz];omega)) ⟨av (av hs (hs.free hT)) hD,ts++[T],by rw[jD];rfl,?_⟩))
|`(tactic|exists 65)=>`(tactic|refine YI (pl:=pl) (cf (he pins s σ H _ I h) fun u s1 ⟨x,H1,I1,rx,a,dx,fs,ex,ea,l,q⟩=>?_) ht)
|`(tactic|exists 66)=>`(tactic|refine⟨_,rfl,m,_,_,_,rfl,rfl,bJ (s1 _ _ hm),rfl,_,rfl,L,_,rfl,.inl ⟨cG T8,fun rt V1=>?_⟩⟩)
|`(tactic|exists 67)=>`(tactic|refine⟨G,_,rfl,.inl ⟨cG hy,fun gt Rm=>⟨(by show 3<=sizeLine;decide),fun mm hmm=>?_⟩⟩⟩)
|`(tactic|exists 68)=>`(tactic|obtain⟨z,hd,vs,rel,dd⟩:=wR I.hok e)
|`(tactic|exists 69)=>`(tactic|have q3:=JC (Obj.mapFields (·.setIfInBounds 1 (WD g1.objs.size))) q2 (Obj.isFreed_of_fields d3))
|`(tactic|exists 70)=>`(tactic|exact qX ⟨_,rfl,"dict_keyiterator",_,st.typeIs,PySem.F.slot_dict_keyiterator_next.lookup,h⟩)
|`(tactic|exists 71)=>`(tactic|(have hb:b∉cs:=fun z=>by obtain⟨o,r⟩:=k _ z;rw[e]at r;cases r))
|`(tactic|exists 72)=>`(tactic|refine qg D he ⟨hit,p'⟩ hi ne (by simp[ne,Ne.symm nae]) fun y h1 tk hy ho Pl hT hsz hk=>?_)
|`(tactic|exists 73)=>`(tactic|have e:b=it:=by simpa using hb)
|`(tactic|exists 74)=>`(tactic|intro pins s σ H x y v u Q I rx ry h)
|`(tactic|exists 75)=>`(tactic|refine I1.N5 (t' := tk+1) (h' := h2) (fun b o b1 b2 q=>?_) (f2 e (by simp)) (f2 it (by simp)))
|`(tactic|exists 76)=>`(tactic|have tD:∀ b o,b≠D->h'.get? b=some o->h2.get? b=some o:=fun b o hb q=>sb2.extBut b o hb q)
|`(tactic|exists 77)=>`(tactic|refine⟨len,fun A outer s H args us vs Q E hr e0 hb r FK=>?_⟩)
|`(tactic|exists 78)=>`(tactic|have KX:K.In s.heap:=e0.mod.kin.keeps fun b o e=>(e0.bs b o e).1)
|`(tactic|exists 79)=>`(tactic|exact⟨f,fd,[],m,F.kp,.nil,F.binds fun k d p a c e us=>(b k d p a c e).all us,ok f fd F⟩)
set_option hygiene false in
local macro_rules
|`(tactic|exists 80)=>`(tactic|exact⟨rfl,hQ h3 tk3 (fun b o q=>D5 b o (jO (jJ q)) (jO (Jd (jJ q) d1)) (Tu b o q)) AE⟩)
|`(tactic|exists 81)=>`(tactic|by_cases hc:(k==NameKind.free&&env.scope.kind==.function&&env.kindOf n==some .cell)=true)
|`(tactic|exists 82)=>`(tactic|have Dj:(if q<m then(aX m r').bind fun m'=>bD (q+1) m' rs' else none)=some aw.length:=h2)
|`(tactic|exists 83)=>`(tactic|have Cv:(if q<m then(aX m r).bind fun m'=>bD (q+1) m' rs else none)=some rows.length:=h1)
|`(tactic|exists 84)=>`(tactic|exact I1.Cs (jF _) (I1.hok.fresh (jF _)))
|`(tactic|exists 85)=>`(tactic|exact qX ⟨rfl,I.turned (t' := s.toks) (fun b o hb z=>he' b o hb z) f0 f1 f3 f4 f5⟩)
|`(tactic|exists 86)=>`(tactic|obtain⟨m,r,g,many,wide,rows,signs,rfl,_⟩:=h)
|`(tactic|exists 87)=>`(tactic|obtain⟨t,ht,hq⟩:=rM A outer s H vs Q E (hr.deeper _) FK)
|`(tactic|exists 88)=>`(tactic|obtain⟨f,fd,ds,hm,hk,hd,hb,F⟩:=G.ex)
|`(tactic|exists 89)=>`(tactic|have hk:builtinKind "BaseException.__getattribute__" = some .slot:=by decide +kernel)
|`(tactic|exists 90)=>`(tactic|refine⟨_,rfl,(by show 2<=sizeLine;decide),fun T hT=>?_⟩)
|`(tactic|exists 91)=>`(tactic|show wpAny _ A.in1 (pyNext (.ref I)>>=_) _ _ s)
|`(tactic|exists 92)=>`(tactic|(rw[af (nt b _ q (by intro z;cases z))];exact q))
|`(tactic|exists 93)=>`(tactic|have q':Dh (ds.map V.ref) ((g.toNat:Nat):Int)=some (.ref da):=wL (by rw[jP,rb];rfl))
|`(tactic|exists 94)=>`(tactic|refine⟨_,Sn kL rfl rfl,.inl TS,fun fn c' H' adS hfn hPt FI keep BM out RL=>?_⟩)
|`(tactic|exists 95)=>`(tactic|obtain⟨z,hd,xs,rel,dd⟩:=A2 I.hok e)
|`(tactic|exists 96)=>`(tactic|obtain⟨t,rfl⟩:=rx)
|`(tactic|exists 97)=>`(tactic|refine Qq (Qp (Qs (name:=Str.ofString "__next__") ty Wg (Qt Wg ty YO ?_ (YL _)))))
|`(tactic|exists 98)=>`(tactic|exact Fd F (hr.mono Hn) hg hm hk hb hd (fun _ _ _ _ _ _ _ h=>h.elim) ha AF he tw)
|`(tactic|exists 99)=>`(tactic|refine hR h3 tk3 (fun b o hb Tt q=>D5 b o hb Tt (tD b o hb (keep b o Tt q))) ?_)
|`(tactic|exists 100)=>`(tactic|have eb:ba φ (b+1)=if φ (b:Int)=(ba φ b:Int)then ba φ b+1 else ba φ b:=rfl)
|`(tactic|exists 101)=>`(tactic|refine⟨.non,_,I.W9 (its' := bp++EU) hH e (by simp) (r.append r2) ?_,rfl,q⟩)
|`(tactic|exists 102)=>`(tactic|refine qO (ht [] s1 (start N vs) H _ I hq) (fun fl s' hs=>?_) fun e s' hs=>hs)
|`(tactic|exists 103)=>`(tactic|exact aI.snoc (A3.same sT) (by rw[af (Ne.symm nL),ae]))
|`(tactic|exists 104)=>`(tactic|(have e2:(op==CmpOp.NotIn)=false:=by cases op<;>first|rfl|exact absurd rfl h2))
|`(tactic|exists 105)=>`(tactic|have hy:scope.names.lookup y=some .cell\/scope.names.lookup y=some .free:=hy)
|`(tactic|exists 106)=>`(tactic|(have hl:(us++ds).length=ps.length:=by rw[<- r2.length];exact F.len _ _ _ _ q))
|`(tactic|exists 107)=>`(tactic|show wpAny _ _ (Wq "dict.__init__" s.heap.objs.size (.ref l) [] .none) _ _ _)
|`(tactic|exists 108)=>`(tactic|have z:=fZ.t (k:=ir (st us[i] row.length)) hD8 (b:=Th) (by rw[rO];exact hTh))
|`(tactic|exists 109)=>`(tactic|exact .inl ⟨⟨xs,q,jF _⟩,hd σ H p⟩)
|`(tactic|exists 110)=>`(tactic|obtain rfl:u=WD a:=rx)
|`(tactic|exists 111)=>`(tactic|refine⟨(by show 0<=sizeLine;decide),fun L hL=>?_⟩)
|`(tactic|exists 112)=>`(tactic|refine⟨_,rfl,(many:Int),rfl,by omega,by omega,?_⟩)
|`(tactic|exists 113)=>`(tactic|have q:b=e\/b=it:=by simpa using hb)
|`(tactic|exists 114)=>`(tactic|refine⟨_,rfl,_,rfl,_,_,rfl,rfl,_,rfl,sS (fun z=>by omega) (fun _=>?_)⟩)
|`(tactic|exists 115)=>`(tactic|rw[af (aF e4 OE (by intro z;cases z)),af (ah e4 ht)])
|`(tactic|exists 116)=>`(tactic|obtain⟨vs,rel,dat,lo,ho⟩:=oY I.hok Ri)
|`(tactic|exists 117)=>`(tactic|exact Paired.snoc (ie.same pv fun b xs e=>up b xs (sT _ _ e)) (up _ _ ae))
|`(tactic|exists 118)=>`(tactic|(have e1:(op==CmpOp.In)=false:=by cases op<;>first|rfl|exact absurd rfl h))
|`(tactic|exists 119)=>`(tactic|rintro i m σ H ⟨rfl,hi,p⟩)
set_option hygiene false in
local macro_rules
|`(tactic|exists 120)=>`(tactic|have fr:H s.heap.objs.size=none:=I.hok.fresh (jF _))
|`(tactic|exists 121)=>`(tactic|refine F.ok bW (fun vs H Q E h=>?_) (fun ck A outer s H vs Q E hr h=>?_))
|`(tactic|exists 122)=>`(tactic|obtain⟨o',e1⟩:=I.base.there b o e hx)
|`(tactic|exists 123)=>`(tactic|(have hsz:bp.toArray.size+EU.toArray.size<=sizeLine:=by rw[jT,jT];omega))
|`(tactic|exists 124)=>`(tactic|refine qX (hR h' tk (fun b o _ hb q=>hm b o (by simpa using hb) q) ?_))
|`(tactic|exists 125)=>`(tactic|have d3:=Obj.data_mapFields xd (·.setIfInBounds 1 (WD g1.objs.size)))
|`(tactic|exists 126)=>`(tactic|exact fun b o z=>rest b o (fun y=>by rw[y,ne]at z;cases z) (Pl b o z))
|`(tactic|exists 127)=>`(tactic|(have ri:rawInt ((i:Int)+1)=rawInt (((i+1:Nat)):Int):=by push_cast;rfl))
|`(tactic|exists 128)=>`(tactic|try dsimp only[bC,cj])
|`(tactic|exists 129)=>`(tactic|refine⟨T,_,rfl,.inl ⟨cG hy,fun t ht=>?_⟩⟩)
|`(tactic|exists 130)=>`(tactic|(have lq:q.toNat<rows.length:=by have:=R.len;have:=h.1;have:=h.2;omega))
|`(tactic|exists 131)=>`(tactic|(have lrs:(cM.map V.ref).length=rows.length:=by rw[bz];exact hA.length))
|`(tactic|exists 132)=>`(tactic|have hlen:kvs.length=xs.length:=Paired.length kt)
|`(tactic|exists 133)=>`(tactic|have e:i=xs.length:=by omega)
|`(tactic|exists 134)=>`(tactic|intro pins s σ H R I h)
|`(tactic|exists 135)=>`(tactic|(rw[af (aF e hyT (by intro z;cases z))];exact e))
|`(tactic|exists 136)=>`(tactic|have z':Data.fields _=Data.cell v:=z)
|`(tactic|exists 137)=>`(tactic|exact absurd c' (by decide))
|`(tactic|exists 138)=>`(tactic|obtain⟨sl,e1⟩:=I.base.slot b o e n hb hx)
|`(tactic|exists 139)=>`(tactic|obtain⟨e,n,ne,nf,d⟩:=I.pin p hp)
|`(tactic|exists 140)=>`(tactic|obtain⟨hm,⟨cM,pC,hA⟩,hg⟩:=M)
|`(tactic|exists 141)=>`(tactic|cases(show u=WD a from rx))
|`(tactic|exists 142)=>`(tactic|have r2:Vals (vs++fY) (us++ds):=r.append hd)
|`(tactic|exists 143)=>`(tactic|refine⟨lim.keeps x.toInCall.keep,QK ?_⟩)
|`(tactic|exists 144)=>`(tactic|cases(show u=WD b from ry))
|`(tactic|exists 145)=>`(tactic|obtain⟨bp,rv,p,hz⟩:=I.tuple hq)
|`(tactic|exists 146)=>`(tactic|obtain⟨z,bp,n,r,hl,e⟩:=I.HB hH)
|`(tactic|exists 147)=>`(tactic|intro i s acc hk hi wX hD wW hP hR)
|`(tactic|exists 148)=>`(tactic|rw[if_pos (show(WD T != WJ)=true by simp)])
|`(tactic|exists 149)=>`(tactic|rcases Classical.em (grp x=b/\L x)with q|q)
|`(tactic|exists 150)=>`(tactic|obtain⟨f,T,fd,o,n,u,m,F,ho,hs,r⟩:=t.ex)
|`(tactic|exists 151)=>`(tactic|obtain⟨bp,rv,p,hz⟩:=I.list hq)
|`(tactic|exists 152)=>`(tactic|obtain⟨a,e,⟨xs,hq⟩,q⟩:=q1)
|`(tactic|exists 153)=>`(tactic|refine Qj (mS I hg hm ?_ AF))
|`(tactic|exists 154)=>`(tactic|obtain⟨t',xs',rfl,h'⟩:=h)
|`(tactic|exists 155)=>`(tactic|exact I2.Cs (jF _) (I2.hok.fresh (jF _)))
|`(tactic|exists 156)=>`(tactic|obtain⟨sl,y⟩:=only.2.2 b o z)
|`(tactic|exists 157)=>`(tactic|obtain⟨⟨old,he⟩,hit⟩:=st)
|`(tactic|exists 158)=>`(tactic|rcases hσ with z|⟨t,z⟩)
|`(tactic|exists 159)=>`(tactic|obtain⟨u,hu,ru⟩:=rv.get hx)
set_option hygiene false in
local macro_rules
|`(tactic|exists 160)=>`(tactic|by_cases fu:i<xs.length)
|`(tactic|exists 161)=>`(tactic|subst hP hw hK)
set_option hygiene false in
local macro_rules
|`(#[0])=>`(by intro z;cases z)
|`(#[1])=>`(fun ck A outer s H vs Q E hr h=>?_)
|`(#[2])=>`(by omega)
|`(#[3])=>`(fun _ _=>rfl)
|`(#[4])=>`(by decide +kernel)
|`(#[5])=>`(model X.prog X.w)
|`(#[6])=>`(fun vs H Q E h=>?_)
|`(#[7])=>`((∀ y H4,H4 D=some (.lst ys)->ys.length<sizeLine->Pv D (i+1) (ys++[y]) (upd H4 D (.lst (ys++[y])))->Q' y H4))
|`(#[8])=>`(model prog w)
|`(#[9])=>`(qs.map fun q=>(rows.getD q.toNat []).map (oy qs))
|`(#[10])=>`(envOfC qual (aj st) s.heap.objs.size f (.ref c))
|`(#[11])=>`(by simp)
|`(#[12])=>`(aC ax (pv 0) aq #[3])
|`(#[13])=>`(k==NameKind.free&&env.scope.kind==.function&&env.kindOf n==some .cell)
|`(#[14])=>`(bg cA (bF aS hr (aa (pv 0) (aa aq ag))) aq)
|`(#[15])=>`(s.heap.objs.size+1)
|`(#[16])=>`(x==("__debug__" : QB))
|`(#[17])=>`((false,eval e X.env))
|`(#[18])=>`(by decide)
|`(#[19])=>`(.Call (.Name x p) (e :: es) [] pos)
|`(#[20])=>`(backTo pos (Qa es X.env))
|`(#[21])=>`(s.heap.push { cls:=.type "tuple_iterator",data:=.fields #[.ref l,.int 0 0] })
|`(#[22])=>`((∀ σ' H',N σ' H'->∃ m',m'<m/\W (i+1) m' σ' H'))
|`(#[23])=>`(.ref C)
|`(#[24])=>`(.builtin "object.__class__")
|`(#[25])=>`(.ref s.heap.objs.size)
|`(#[26])=>`((·.setIfInBounds 3 ((none:Option Zg).elim WJ fun f=>rawInt f)))
|`(#[27])=>`(.builtin "getset_descriptor.__get__")
|`(#[28])=>`(by show 0<=sizeLine;decide)
|`(#[29])=>`(.tup xs)
|`(#[30])=>`(aG aM (by rfl) bj bH (aa (pv 0) ag))
|`(#[31])=>`(cB (pv 0) rfl)
|`(#[32])=>`(envOfC qual scope s.heap.objs.size f cd)
|`(#[33])=>`(au (aW (eI (aa #[12] (aa (aQ aZ (by rfl) aR bO (aa (pv 5) ag)) (aa (aQ aZ (by rfl) aR bO (aa (di rfl eO (dj (pv 1)) (fun _ _ _ _=>(bB (i:=0) eO.nd)) (fun _ _ _ _=>(aC (EV K) (pv 1) (pv 0) #[3]))) ag)) ag))))))
|`(#[34])=>`(.ListComp elt [⟨tg,iter,[],0⟩] scope pos)
|`(#[35])=>`(by rw[bz];omega)
|`(#[36])=>`(aC ax (pv 1) aq #[3])
|`(#[37])=>`(YM "<lambda>" (X.env.qual ++ "<lambda>") params body scope bc ((X.mg "__name__").getD .none) c' FG)
|`(#[38])=>`(bQ I q #[11])
|`(#[39])=>`(upd H s.heap.objs.size (.tup [.int i,x]))
set_option hygiene false in
local macro_rules
|`(#[40])=>`(s1.heap.push { cls:=.type "range",data:=.fields #[.int 0 s1.toks,.int n t,.int 1 (s1.toks+1)] })
|`(#[41])=>`(s.heap.push { cls:=.type "dict",data:=.dict #[] })
|`(#[42])=>`(by rfl)
|`(#[43])=>`((∀ b o,s.heap.get? b=some o->h'.get? b=some o))
|`(#[44])=>`(Zg×Obj)
|`(#[45])=>`(ns.map V.int)
|`(#[46])=>`(.ref f)
|`(#[47])=>`(fun D' hZ=>?_)
|`(#[48])=>`(fun z=>nomatch z)
|`(#[49])=>`(fun r s'=>r=.ok (.ret (.bool true))/\OldK s₁.heap s'.heap/\s'.os=s₁.os/\Zh s'.gens)
|`(#[50])=>`((·.setIfInBounds 1 (WD g1.objs.size)))
|`(#[51])=>`(cM.map V.ref)
|`(#[52])=>`(List Key×Zg×Value)
|`(#[53])=>`(A.under (.builtin "type.__call__" ⟨.ref C :: us,kw⟩))
|`(#[54])=>`(.dK kvs)
|`(#[55])=>`(s.heap.push { cls:=.type "range",data:=.fields #[.int lo t,.int hi u,.int 1 v] })
|`(#[56])=>`(rows.getD q.toNat [])
|`(#[57])=>`(g∈ks\/ins.length<=(outF mem ins).length)
|`(#[58])=>`(List Key×V)
|`(#[59])=>`(WN name qual params body scope dV kV doc pm an ck ct)
|`(#[60])=>`(.type "BaseException")
|`(#[61])=>`(.type "object")
|`(#[62])=>`(.inl rfl)
|`(#[63])=>`(.ext (oC h'.objs.size (X.env.qual ++ "<lambda>") params body scope bc c'))
|`(#[64])=>`(by show 2<=sizeLine;decide)
|`(#[65])=>`((".0",.local))
|`(#[66])=>`(aa (pv 2) ag)
|`(#[67])=>`(some (.builtin "object.__setattr__"))
|`(#[68])=>`(by rw[e];exact True.intro)
|`(#[69])=>`(fun D hD=>⟨ao hD _,[],rfl,.nil⟩)
|`(#[70])=>`(fr.of_keeps fun b o z nf=>⟨o,(oth b (pl b o z nf)).trans z,rfl⟩)
|`(#[71])=>`(backToKw pos (keywordEach [] X.env))
|`(#[72])=>`(fun b o z=>(oth b fun y=>by rw[y,x7]at z;cases z).trans (st b o z))
|`(#[73])=>`(.Call (.Attribute o m apos) (e :: es) [] pos)
|`(#[74])=>`(EP X pins σ Q)
|`(#[75])=>`(.ref a)
|`(#[76])=>`(.lst ((eJ signs).map V.int))
|`(#[77])=>`(ha pins s σ H _ I h)
|`(#[78])=>`(cf (hi pins s σ H _ I h) fun v s1 h1=>cf h1 fun itv s2 h2=>?_)
|`(#[79])=>`((∀ x c,X.env.cells.lookup x=some c->c≠b))
set_option hygiene false in
local macro_rules
|`(#[80])=>`(ij X N scope fp s H H2.objs.size)
|`(#[81])=>`(aA (by rw[bz,bz,jX];omega))
|`(#[82])=>`(aa (lU (v:=.ty "tuple") rfl aR bO rfl) ag)
|`(#[83])=>`(SetTable.grown AA.size)
|`(#[84])=>`(upd H D (.lst []))
|`(#[85])=>`(.ext (oC f qual params body scope bc c'))
|`(#[86])=>`(names.map fun(n,k)=>if #[13]then(n,NameKind.cell)else(n,k))
|`(#[87])=>`(fun b o hb e=>eb b o hb e)
|`(#[88])=>`(bc.map (·.2))
|`(#[89])=>`(ij X N scope fp s H C)
|`(#[90])=>`(fun c=>?_)
|`(#[91])=>`(aa (pv 3) ag)
|`(#[92])=>`(aG sq #[42] bj bH (aa (aQ (sr rfl) #[42] Et EH #[66]) ag))
|`(#[93])=>`(Ay (LU P w) P w K mg base N qual scope f cd A outer s H E)
|`(#[94])=>`(.ref x)
|`(#[95])=>`(I.hok.fresh (jF _))
|`(#[96])=>`(rI (fun _ j=>0<j) fun i j=>.int (i%j))
|`(#[97])=>`(model P w)
|`(#[98])=>`(ho pins s σ H _ I h)
|`(#[99])=>`(he pins s σ H _ I h)
|`(#[100])=>`(bS (ox gs) gs.length)
|`(#[101])=>`(aC ax (pv 2) aq #[3])
|`(#[102])=>`(HO.tup [V.int wide,V.ref rt,V.ref gt])
|`(#[103])=>`(.ref D)
|`(#[104])=>`(.Call (.Attribute o m apos) [] [] pos)
|`(#[105])=>`(upd H2 ea (.ext (fz ea C d)))
|`(#[106])=>`(fun x y=>ar many x/\ar many y/\fx rows wide signs x y)
|`(#[107])=>`(br ix σ)
|`(#[108])=>`(upd (upd H4 t (.tup (((rows.getD z.toNat []).map ρ).map V.int))) L (.lst (as.map V.ref++[V.ref t])))
|`(#[109])=>`(A.deeper (envOfC qual (aj st) s.heap.objs.size f ck))
|`(#[110])=>`(G1 CX P w K mg base N qual scope f ck A outer s H E)
|`(#[111])=>`(Ay CX P w K mg base N qual scope f ck A outer s H E)
|`(#[112])=>`(cf (h pos pins s σ H _ I hq) fun us s1 ⟨xs,H1,I1,r,z,q⟩=>⟨by rw[<- r.length];exact z,?_⟩)
|`(#[113])=>`(setG gs ins (ds.length:Int))
|`(#[114])=>`(cf (ha pos pins s σ H _ I h) fun us s1 ⟨vs,H1,I1,r1,q1⟩=>hc pins s1 σ H1 vs us Q I1 r1 q1)
|`(#[115])=>`(List K×Zg×Value)
|`(#[116])=>`(qs.map fun q=>signs.getD q.toNat 0)
|`(#[117])=>`(b∈X.ex\/X.s₀.heap.objs.size<=b)
|`(#[118])=>`((∀ ws,o.data≠.fields ws))
|`(#[119])=>`(scope.names.lookup y.1=some .cell/\((cellsFrom #[15] scope.names []).lookup y.1).isSome=true)
set_option hygiene false in
local macro_rules
|`(#[120])=>`(as.map V.ref)
|`(#[121])=>`(aa (pv 1) ag)
|`(#[122])=>`(aa (pv 0) ag)
|`(#[123])=>`(.type "type")
|`(#[124])=>`(#[41].update x fun o=>{ cls:=o.cls,dict:=some s.heap.objs.size,data:=o.data,slots:=o.slots })
|`(#[125])=>`(by with_unfolding_all rfl)
|`(#[126])=>`(P8 P w K mg base (ps++bc.map (·.1)) qual scope f (.ref c') bc A outer s (less H #[88]))
|`(#[127])=>`(hs.2 b (jO (jV (jJ e) (I.ok.cab x c hfn hc))))
|`(#[128])=>`((bS φ rows.length).map fun q=>signs.getD q 0)
|`(#[129])=>`(onTheHeap (WD C)&&WT "BaseException.__getattribute__" == WT "object.__getattribute__")
|`(#[130])=>`(oV (pv 4) (aa (aC ax #[36] (pv 7) #[3]) (aa (aC ax #[101] (pv 8) #[3]) ag)) ((E1 hr)))
|`(#[131])=>`(kvs.any fun kv=>decide (kv.1=k))
|`(#[132])=>`(fun D' hZ=>hZ _ _ ⟨rfl,rfl⟩)
|`(#[133])=>`(aG aM #[42] bj bH (aa #[12] ag))
|`(#[134])=>`(if #[13]=true then(n,NameKind.cell)else(n,k))
|`(#[135])=>`(fun _=>?_)
|`(#[136])=>`(by simp only[jT]<;>omega)
|`(#[137])=>`(I.ok.hd hc)
|`(#[138])=>`(.lst (ts.map V.ref++[V.ref T]))
|`(#[139])=>`(.builtin "ValueError.__init__")
|`(#[140])=>`((g1.push tb).update e (Obj.mapFields #[50]))
|`(#[141])=>`(abb ha hb I h fun v u s2 x y H2 I2 rx ry q=>ho pins s2 σ H2 x y v u Q I2 rx ry q)
|`(#[142])=>`(.oN o #[54])
|`(#[143])=>`((∀ o,h1.get? ea=some o->h2.get? ea=some o))
|`(#[144])=>`(upd H s.heap.objs.size (.tup [kV p.1,p.2]))
|`(#[145])=>`(ps.zip us)
|`(#[146])=>`(dQ X.env.cells scope.names [])
|`(#[147])=>`(HO.lst [])
|`(#[148])=>`(.lst (lv.map V.ref))
|`(#[149])=>`(aC ax (aC ax (pv 5) aq #[3]) (pv 10) #[3])
|`(#[150])=>`(start N vs)
|`(#[151])=>`(ks.map (·.1))
|`(#[152])=>`(fun z=>hc (by simp[z]))
|`(#[153])=>`(fun _ _ _ _=>(eI (aa (pv 0) (aa dN ag))))
|`(#[154])=>`(bt X.prog X.w)
|`(#[155])=>`(aC ax (aC ax (pv 3) aq #[3]) (pv 9) #[3])
|`(#[156])=>`(PQ fun i j=>.int (i+j))
|`(#[157])=>`(K w.params)
|`(#[158])=>`(.ins C dx fs)
|`(#[159])=>`(.Assign [.Name x pos'] e pos)
set_option hygiene false in
local macro_rules
|`(#[160])=>`((∀ b u,b≠Pt->H b=some u->H' b=some u))
|`(#[161])=>`(some (.builtin "type.__getattribute__"))
|`(#[162])=>`(s.heap.push (dR w))
|`(#[163])=>`(upd (upd H7 t (.tup (row.map V.int))) RR (.lst (wj.map V.ref++[V.ref t])))
|`(#[164])=>`(HO.tup [V.ref ca,V.bl true])
|`(#[165])=>`(.builtin "dict.update.loop" ⟨[.ref D,.ref I,rawInt (i:Int),.none],[]⟩)
|`(#[166])=>`(fun q ls=>ls=cP col q)
|`(#[167])=>`(by rw[<- sz];exact hj)
|`(#[168])=>`(bF lO hr (aa (bg cJ aq #[14]) (aa (bF aS hr (aa (pv 0) (aa aq ag))) ag)))
|`(#[169])=>`((∀ c u,c≠go->c≠ms->c≠wt->c≠iw->c∉ds->H c=some u->H' c=some u))
|`(#[170])=>`(upd H' T (HO.tup [V.int q,V.bl true]))
|`(#[171])=>`(upd H' T (HO.tup [V.int i,V.bl true]))
|`(#[172])=>`(some #[46])
|`(#[173])=>`(if ([]:List Zt).isEmpty then 0 else 1)
|`(#[174])=>`(es.map Prod.fst)
|`(#[175])=>`(by show 3<=sizeLine;decide)
|`(#[176])=>`(by show 1<=sizeLine;decide)
|`(#[177])=>`(au (aW dN))
|`(#[178])=>`(.tup [.int i,x])
|`(#[179])=>`(.dT kvs)
|`(#[180])=>`(ts.map WD)
|`(#[181])=>`(dk φ rows 0 rows)
|`(#[182])=>`(.tup (p.1.map kV))
|`(#[183])=>`(.int wide)
|`(#[184])=>`((∀ b∈fp,H' b=none))
|`(#[185])=>`(.lst (mem.map V.int))
|`(#[186])=>`(.lst ((jn n).map fun i:Nat=>V.int i))
|`(#[187])=>`(rI N8 fun i j=>.int (i*j))
|`(#[188])=>`(cols.map mw)
|`(#[189])=>`(.ref it)
|`(#[190])=>`((∀ b o,b<s.heap.objs.size->s.heap.get? b=some o->h'.get? b=some o))
|`(#[191])=>`(hs.2 b (jO (jV (jJ e) I1.ok.above)))
|`(#[192])=>`((∃ m,W 0 m σ H))
|`(#[193])=>`(stepI rows x f)
|`(#[194])=>`(hs.2 b (jO (jV (jJ e) I.ok.above)))
|`(#[195])=>`(he pins s1 σ H1 _ I1 q1)
|`(#[196])=>`(fun e h=>by cases h)
|`(#[197])=>`(fun b z=>by cases z)
|`(#[198])=>`(eJ signs)
|`(#[199])=>`(backToKw df (keywordEach [] X.env))
set_option hygiene false in
local macro_rules
|`(#[200])=>`(WN "__init__" q (dh st) (cu st) (aj st) .none kV doc pm an ck ct)
|`(#[201])=>`(HO.tup [V.int i,V.int t])
|`(#[202])=>`(HO.tup [V.int (stepI aB p1 (i:Int)),V.int (stepI az p2 (i:Int))])
|`(#[203])=>`(.lst ys)
|`(#[204])=>`(.lst (ts.map V.ref))
|`(#[205])=>`(.lst (gs.map V.int))
|`(#[206])=>`(.builtin "len")
|`(#[207])=>`((Wk K x).getD (0,0))
|`(#[208])=>`(.Call (.Attribute (.Name y p) "__init__" apos) (e :: es) [] pos)
|`(#[209])=>`(.ins C dx [("one",.ref o1),("other",.ref o2),("rule",.ref fn)])
|`(#[210])=>`(.call (.ref fa) ⟨[.ref a],[]⟩)
|`(#[211])=>`(.Call (.Name x p) (e :: es) [] df)
|`(#[212])=>`((∀ (s:QA) (v:Value),Zj s fd ⟨[v],[]⟩ [("_law_script",v)]))
|`(#[213])=>`(by show(0:Int)<5;decide)
|`(#[214])=>`(backTo df (Qa es X.env))
|`(#[215])=>`((∀ b o,b≠D->b≠I->s.heap.get? b=some o->h'.get? b=some o))
|`(#[216])=>`(by rw[<- jI.mp hb,<- e];exact ha)
|`(#[217])=>`(aa (pv 4) ag)
|`(#[218])=>`(Option.some.inj hi)
|`(#[219])=>`(My.sgn signs)
|`(#[220])=>`(HV aB az)
|`(#[221])=>`(.type "ValueError")
|`(#[222])=>`(.oN { cls:=.type "list",data:=.seq vs.toArray } (.lst #[45]))
|`(#[223])=>`(("group_of",.ref go))
|`(#[224])=>`(gs.take m)
|`(#[225])=>`(Ay eA P w K mg base N qual (aj st) f (.ref c) A outer s H E)
|`(#[226])=>`(.tup (k.map kV))
|`(#[227])=>`(by rw[decide_eq_false c];decide)
|`(#[228])=>`(backTo pos (Qa (e :: es) X.env))
|`(#[229])=>`(aG aM #[42] bj bH (aa #[31] ag))
|`(#[230])=>`(WN x x (dh st) (cu st) (aj st) (.ref T) kV doc pm an ck ct)
|`(#[231])=>`(Or.inl rfl)
|`(#[232])=>`(.lst xs)
|`(#[233])=>`((qs.take k).foldl (eC rows) [0])
|`(#[234])=>`(!bp.toArray.isEmpty&&Wd (bp.toArray.size+EU.toArray.size))
|`(#[235])=>`(eD C none #[.ref tp,.none,.none,.none,.bool false,.none])
|`(#[236])=>`(by simpa using h2)
|`(#[237])=>`(by simpa using h1)
|`(#[238])=>`(("members",.ref ms))
|`(#[239])=>`(yk "<lambda>" qual params body scope bc pm (.ref c') FG)
set_option hygiene false in
local macro_rules
|`(#[240])=>`(s.heap.IsListIter I l i/\s.heap.IsList l #[180].toArray)
|`(#[241])=>`(qG (T := "StopIteration") (b:=true) ⟨o,ho,Rf⟩ QR ?_)
|`(#[242])=>`(jR _ (jR _ (pK hb e)))
|`(#[243])=>`(fun f hf=>by cases hf)
|`(#[244])=>`(apos.endLine==df.line)
|`(#[245])=>`(Wc C s.heap.objs.size)
|`(#[246])=>`(WN x x (dh st) (cu st) (aj st) .none kV doc pm an ck ct)
|`(#[247])=>`(WN x qual (dh st) (cu st) (aj st) dV kV doc pm an ck ct)
|`(#[248])=>`((Sum.inl e.1,V.ref e.2))
|`(#[249])=>`(Obj.mapFields (·.setIfInBounds 1 (rawInt ((i:Int)+1))))
|`(#[250])=>`(Jh (show q≠p from fun z=>DD.1 (by rw[<- z];exact hq)))
|`(#[251])=>`(.lst ((L.filter fun h=>decide (bw gs h=e.1)).map V.int))
|`(#[252])=>`(.builtin "isinstance")
|`(#[253])=>`((∀ z∈signs,0<=z/\z<1000000))
|`(#[254])=>`(stepI rows y f)
|`(#[255])=>`(s.heap.push WU)
|`(#[256])=>`(q≠(many:Int))
|`(#[257])=>`(h.update a (Obj.putSet tX t'))
|`(#[258])=>`(fun i h=>h.IsListIter I l i/\h.IsList l #[180].toArray)
|`(#[259])=>`(fun D hD=>⟨ao hD _,[],rfl,rfl,fun z h=>by cases h⟩)
|`(#[260])=>`(QB×Value)
|`(#[261])=>`(Dy s₁.heap H)
|`(#[262])=>`((∀ b o,b≠x->s.heap.get? b=some o->h'.get? b=some o))
|`(#[263])=>`(r.map V.int)
|`(#[264])=>`(oV (pv 6) (aa (aC ax #[36] (pv 7) #[3]) ag) ((EZ hr)))
|`(#[265])=>`(.type "int")
|`(#[266])=>`(.Name x pos)
|`(#[267])=>`(ws.map V.int)
|`(#[268])=>`(putK kvs k v)
|`(#[269])=>`(outF mem ins)
|`(#[270])=>`(hv pins s σ H _ I h)
|`(#[271])=>`(Ne.symm (X2 _ (fa a (rj h))))
|`(#[272])=>`(.type "dict")
|`(#[273])=>`(.type "list")
|`(#[274])=>`(.lst (kvs.map fun q=>kV q.1))
|`(#[275])=>`(.dK (cT (cP #[198] (j:Int))))
|`(#[276])=>`(.BZ (#[]++#[rawInt pos.line,rawInt pos.col,.ref c']))
|`(#[277])=>`(#[107].set 0 (some (.int i)))
|`(#[278])=>`(fun _ s'=>∃ σ' H',Inv X pins σ' H' s'/\Q σ' H')
|`(#[279])=>`(Ay CX P w K mg base N qual scope f cd A outer s H E)
set_option hygiene false in
local macro_rules
|`(#[280])=>`(fun {A x y u v} h1 h2 h3 h4=>PB.at I n h1 h2 h3 h4)
|`(#[281])=>`(fun D hD=>⟨ao hD _,rfl⟩)
|`(#[282])=>`(QB×Zg)
|`(#[283])=>`(DU.map fun c=>((c.map Sum.inl:List Key),V.bl true))
|`(#[284])=>`(A.deeper (envOfC qual scope s.heap.objs.size f ck))
|`(#[285])=>`(.lst ((ws++[nw]).map V.int))
|`(#[286])=>`((σ'.set 0 (some (V.int i))).set 1 (some (item i)))
|`(#[287])=>`(xs.map fun q=>q.2.1)
|`(#[288])=>`(upd H8 Ro (.lst (row.map V.int++[V.int (n:Int)])))
|`(#[289])=>`(some (.Name x pos'))
|`(#[290])=>`(qs.take i)
|`(#[291])=>`(WB (s:={ s with heap:=h',toks:=tk }) PN.typeIs ?_)
|`(#[292])=>`((Sum.inl k,V.bl true))
|`(#[293])=>`(SetTable.below xs j)
|`(#[294])=>`(Int×Zg)
|`(#[295])=>`(HO.tup [V.int (a.getD ((i:Int)).toNat 0),V.ref c])
|`(#[296])=>`(.lst (wj.map V.ref))
|`(#[297])=>`(.lst (lv.map V.int))
|`(#[298])=>`(.lst (fr.map V.ref))
|`(#[299])=>`(.lst (ds.map V.ref))
|`(#[300])=>`(.Pass ⟨0,0,0,0⟩)
|`(#[301])=>`((ws++[g]).map V.int)
|`(#[302])=>`((∀ c u,c≠Nn->c≠Fa->H4 c=some u->H' c=some u))
|`(#[303])=>`((x,NameKind.free))
|`(#[304])=>`(some (.builtin "BaseException.__getattribute__"))
|`(#[305])=>`(signs.map V.int)
|`(#[306])=>`(ds++more)
|`(#[307])=>`(cf #[98] fun u s1 ⟨x,H1,I1,rx,a,ex,d,q1⟩=>?_)
|`(#[308])=>`(by rw[dB (nb b n)];exact n)
|`(#[309])=>`(Key×V)
|`(#[310])=>`(.ref m)
|`(#[311])=>`(.inr (.inr rfl))
|`(#[312])=>`(.ListComp elt [⟨target,iter,[],0⟩] scope pos)
|`(#[313])=>`((QP P w).hash k)
|`(#[314])=>`(qp (s:={ s with heap:=h',toks:=tk }) hot hdt ?_)
|`(#[315])=>`(HO.tup ((rows[i].map fun t=>sgn a t).map V.int))
|`(#[316])=>`(mh X.prog X.w d ks)
|`(#[317])=>`(iY (putK acc p.1 p.2) kvs)
|`(#[318])=>`(fun i=>ns.getD i 0)
|`(#[319])=>`(cb signs qs)
set_option hygiene false in
local macro_rules
|`(#[320])=>`(by exact decide_eq_true c)
|`(#[321])=>`(bX rows (oy qs) qs)
|`(#[322])=>`(assign (.Name y py) X.env)
|`(#[323])=>`(aa #[12] ag)
|`(#[324])=>`(I.base.keep b o e n hb hx)
|`(#[325])=>`(HO.ext (tK ea C d))
|`(#[326])=>`(.ref m1)
|`(#[327])=>`(.ref ea)
|`(#[328])=>`(.builtin id)
|`(#[329])=>`(.Subscript o i pos)
|`(#[330])=>`(upd (upd Hb dx (HO.own x)) x (HO.ins C dx []))
|`(#[331])=>`(kvs.map fun kv=>if kv.1=k then(kv.1,y)else kv)
|`(#[332])=>`(fun i h=>h.IsKeyIter it a i kvs.length (lS o))
|`(#[333])=>`(W.item i s _ _ fu wX fun v h' tk hv J3 hm=>?_)
|`(#[334])=>`(QI PySem.F.attrBase_ValueError.ga.plain Yu ?_)
|`(#[335])=>`(.BZ #[rawInt pos.line,rawInt pos.col,.ref c'])
set_option maxRecDepth 100000
namespace L2
open PySem PySem.Spec PyProof.Rows
variable{us bp ds:List Value}{x f name m qual:QB}{u cd:Value}{κ α:Type}{a b it dx C:Zg}{P prog:Zx}{w:World}{h h' base:Heap}{e c tg l iter:Expr}{ob:Obj}{pins aaO pl:List (Zg×Obj)}{s s':QA}{t' i j n:Nat}{ch fp:List Zg}{N ns ps:List QB}{A:Around}{E Q:Value→QA→Prop}{pos pos' p apos:Pos}{K:WC}{st body:List Stmt}{es:List Expr}{lo:Int}{mA mg:QB→Option Value}{expr:Bool}{R:Result→QA→Prop}{env:Zn}{outer:List Zn}{fd:Zo}{sc scope:Scope}{params:Zi}{an od:Option Zg}{Dm:Array (Option Value)}
abbrev Key:=Sum Int QB
def Be:Key->Value->Bool
 | .inl k,v=>XX k v
 | .inr x,v=>yl x v
def ais(w:World):Key->Int
 | .inl k=>hashInt k
 | .inr x=>hashStr w x
theorem cw:∀ {k:Key} {v:Value},Be k v=true->(∃ i t,k=Sum.inl i/\v=WQ i t)\/(∃ x t,k=Sum.inr x/\v=YH x t)
 | .inl i,v,h=>by
  obtain⟨t,e⟩:=Value.isInt_shape (k:=i) (v:=v) h
  exact .inl ⟨i,t,rfl,e⟩
 | .inr x,v,h=>by
  obtain⟨t,e⟩:=Value.isStrOf_shape (x:=x) (v:=v) h
  exact .inr ⟨x,t,rfl,e⟩
theorem OO(i:Int)(t:Tok):Be (.inl i) (.int i t)=true:=by simp[Be,XX]
theorem OP(x:QB)(t:Tok):Be (.inr x) (.str x t)=true:=by simp[Be,yl]
theorem abN(a b:Int):decide ((Sum.inl a:Key)=Sum.inl b)=(a==b):=by
 by_cases e:a=b
 ·subst e;simp
 ·have h:¬ (Sum.inl a:Key)=Sum.inl b:=fun q=>e (Sum.inl.inj q)
  rw[decide_eq_false h]
  exact(beq_eq_false_iff_ne.mpr e).symm
theorem abQ(a b:QB):decide ((Sum.inr a:Key)=Sum.inr b)=decide (a=b):=by
 by_cases e:a=b
 ·subst e;simp
 ·have h:¬ (Sum.inr a:Key)=Sum.inr b:=fun q=>e (Sum.inr.inj q)
  rw[decide_eq_false h,decide_eq_false e]
theorem abO(a:Int)(b:QB):decide ((Sum.inl a:Key)=Sum.inr b)=false:=decide_eq_false (fun q=>nomatch q)
theorem abP(a:QB)(b:Int):decide ((Sum.inr a:Key)=Sum.inl b)=false:=decide_eq_false (fun q=>nomatch q)
def bt(prog:Zx)(w:World):PySem.KeyKind prog w Key where
 is:=Be
 hash:=ais w
 inj:=fun v a b ha hb=>by
  rcases cw ha with⟨i,t,rfl,rfl⟩|⟨x,t,rfl,rfl⟩
  ·rcases cw hb with⟨j,u,rfl,e⟩|⟨y,u,rfl,e⟩
   ·injection e with e1 _;rw[e1]
   ·exact nomatch e
  ·rcases cw hb with⟨j,u,rfl,e⟩|⟨y,u,rfl,e⟩
   ·exact nomatch e
   ·injection e with e1 _;rw[e1]
 byValue:=fun k v h=>by
  rcases cw h with⟨i,t,rfl,rfl⟩|⟨x,t,rfl,rfl⟩<;>rfl
 pyHash:=fun hv h=>by
  rcases cw hv with⟨i,t,rfl,rfl⟩|⟨x,t,rfl,rfl⟩
  ·exact wpAny_pyHash_int h
  ·exact wpAny_pyHash_str h
 eqBool:=fun hu hv h=>by
  rcases cw hu with⟨i,t,rfl,rfl⟩|⟨x,t,rfl,rfl⟩
  ·rcases cw hv with⟨j,u,rfl,rfl⟩|⟨y,u,rfl,rfl⟩
   ·rw[abN]at h;exact wpAny_eqBool_int h
   ·rw[abO]at h;exact Xc i t y u _ _ _ _ h
  ·rcases cw hv with⟨j,u,rfl,rfl⟩|⟨y,u,rfl,rfl⟩
   ·rw[abP]at h;exact Xd x t j u _ _ _ _ h
   ·rw[abQ]at h;exact wpAny_eqBool_str h
 «strs» := fun k x t v h=>by
  rcases cw h with⟨i,u,rfl,e⟩|⟨y,u,rfl,e⟩
  ·exact nomatch e
  ·injection e with e1 _
   subst e1
   cases v<;>rfl
theorem HE(prog:Zx)(w:World)(i:Int)(t:Tok):(bt prog w).is (.inl i) (.int i t)=true:=OO i t
theorem HF(prog:Zx)(w:World)(x:QB)(t:Tok):(bt prog w).is (.inr x) (.str x t)=true:=OP x t
inductive V where
 | non|bl (b:Bool)|int (i:Int)|str (x:QB)|L9 (b:Array UInt8)|flt (b:UInt64)|ref (a:Zg)|ty (n:String)
 deriving DecidableEq
def RelV:V->Value->Prop
 | .non,u=>u=WJ
 | .bl b,u=>u=Yz b
 | .int i,u=>∃ t,u=WQ i t
 | .str x,u=>∃ t,u=YH x t
 | .L9 b,u=>∃ t,u=XY b t
 | .flt b,u=>∃ t,u=yV b t
 | .ref a,u=>u=WD a
 | .ty n,u=>u=WW n
abbrev Vals:List V->List Value->Prop:=Zv RelV
theorem Vals.length{xs:List V}(r:Vals xs us):xs.length=us.length:=Paired.length r
theorem Vals.get:∀ {xs:List V} {us:List Value} {i:Nat} {x:V},Vals xs us->xs[i]?=some x->∃ u,us[i]?=some u/\RelV x u
 | _,_,_,_,.nil,e=>by simp at e
 | _,_,0,_,.cons r _,e=>by simp at e;subst e;exact⟨_,rfl,r⟩
 | _,_,i+1,x,.cons _ t,e=>by
  obtain⟨u,h1,h2⟩:=Vals.get (i:=i) (x:=x) t (by simpa using e)
  exact⟨u,by simpa using h1,h2⟩
theorem Vals.set{x:V}(r:RelV x u):∀ {xs:List V} {us:List Value} (i:Nat),Vals xs us->Vals (xs.set i x) (us.set i u)
 | _,_,_,.nil=>.nil
 | _,_,0,.cons _ t=>.cons r t
 | _,_,i+1,.cons q t=>.cons q (Vals.set r i t)
theorem Vals.append:∀ {xs ys:List V} {us ws:List Value},Vals xs us->Vals ys ws->Vals (xs++ys) (us++ws)
 | _,_,_,_,.nil,s=>s
 | _,_,_,_,.cons r t,s=>.cons r (Vals.append t s)
def oa:Option V->Option Value->Prop
 | some v,some u=>RelV v u
 | none,none=>True
 | _,_=>False
def KV:List (κ×V)->List (κ×Value)->Prop:=Zv fun(p:κ×V) (q:κ×Value)=>p.1=q.1/\RelV p.2 q.2
def kV:Key->V
 | .inl i=>.int i
 | .inr x=>.str x
inductive HO where
  | lst (xs:List V)
  | tup (xs:List V)
  | dK (kvs:List #[309])|dT (kvs:List #[58])
  | set (S:Int->Bool) (n:Nat)
  | ins (C dx:Zg) (fs:List (QB×V))
  | own (x:Zg)
  | xd (fs:List (QB×V))
  | met (f x:Zg)
  | rng (lo hi:Int)
  | oN (o:Obj) (u:HO)
  | BZ (ps:Array Value)
  | ext (φ:Heap->Prop)
abbrev Hp:=Zg->Option HO
def upd(H:Hp)(a:Zg)(o:HO):Hp:=fun b=>if b=a then some o else H b
theorem ae{H:Hp}{o:HO}:upd H a o a=some o:=by unfold upd;rw[if_pos rfl]
theorem af{H:Hp}{o:HO}(h:b≠a):upd H a o b=H b:=by unfold upd;rw[if_neg h]
theorem N6{H:Hp}{o u:HO}:upd (upd H a o) a u=upd H a u:=by
 funext b;unfold upd;split<;>rfl
theorem aF{H:Hp}{o u:HO}(h:H a=some o)(h':H b=some u)(d:o≠u):a≠b:=by
 intro e;subst e;rw[h]at h';exact d (Option.some.inj h')
theorem ah{H:Hp}{o:HO}(h:H a=some o)(h':H b=none):a≠b:=by
 intro e;subst e;rw[h]at h';cases h'
section
variable(P:Zx)(w:World)
def bq(H:Hp)(h:Heap)(a:Zg):HO->Prop
 | .lst xs=>xs.length<=sizeLine/\∃ (bp:List Value) (n:Nat),Vals xs bp/\h.get? a=some { cls:=.type "list",data:=.seq bp.toArray n }
 | .tup xs=>xs.length<=sizeLine/\∃ bp:List Value,Vals xs bp/\Zr h a bp.toArray
 | .dK kvs=>kvs.length<=sizeLine/\(a==Qe)=false/\∃ vs,KV kvs vs/\h.DictOf (bt P w) a vs
 | .dT kvs=>kvs.length<=sizeLine/\(a==Qe)=false/\∃ xs:List #[52],
   Zv (fun(p:List Key×V) (q:List Key×Zg×Value)=>p.1=q.1/\H q.2.1=some #[182]/\RelV p.2 q.2.2) kvs xs /\
   ∃ o es ep,h.get? a=some o/\o.ExactDict/\o.data=.dict es ep/\es.toList=xs.map (entryOfKey (Qf (bt P w)))/\(xs.map (·.1)).Nodup
 | .set S n=>h.SetOf (QP P w) a S n
 | .ins C dx fs=>H dx=some (.own a)/\fs.length<=1000/\dx≠a/\h.get? a=some (Wc C dx) /\
   ∃ mA,h.Ns1 dx mA/\(∀ f,oa (fs.lookup f) (mA f))/\yG mA (fs.map (·.1))
 | .own _=>∃ o,h.get? a=some o
 | .xd fs=>∃ mA,h.Ns1 a mA/\∀ f,oa (fs.lookup f) (mA f)
 | .rng lo hi=>∃ t u v,h.get? a=some { cls:=.type "range",data:=.fields #[.int lo t,.int hi u,.int 1 v] }
 | .oN o u=>h.get? a=some o/\bq H h a u
 | .BZ ps=>h.get? a=some { cls:=.none,data:=.fields ps }
 | .met f x=>h.get? a=some (YZ #[46] #[94])
 | .ext φ=>φ h/\(∃ o,h.get? a=some o)/\∀ h1 h2:Heap,φ h1->(∀ o,h1.get? a=some o->h2.get? a=some o)->φ h2
def eV(H:Hp)(h:Heap):Prop := ∀ a o,H a=some o->bq P w H h a o
end
section
variable{H H':Hp}{o:HO}
theorem bq.lt(x:bq P w H h a o):a<h.objs.size:=by
 cases o with
 | lst xs=>obtain⟨_,_,_,_,e⟩:=x;exact jJ e
 | tup xs=>obtain⟨_,_,_,p⟩:=x;exact p.lt
 | dK kvs=>obtain⟨_,_,_,_,o,_,_,e,_⟩:=x;exact jJ e
 | dT kvs=>obtain⟨_,_,_,_,o,_,_,e,_⟩:=x;exact jJ e
 | set S n=>obtain⟨o,_,_,_,e,_⟩:=x;exact jJ e
 | ins C dx fs=>obtain⟨_,_,_,e,_⟩:=x;exact jJ e
 | own y=>obtain⟨_,e⟩:=x;exact jJ e
 | xd fs=>obtain⟨_,⟨_,_,_,e,_⟩,_⟩:=x;exact jJ e
 | rng lo hi=>obtain⟨_,_,_,e⟩:=x;exact jJ e
 | oN ob u=>obtain⟨e,_⟩:=x;exact jJ e
 | BZ ps=>exact jJ (show h.get? a=some _ from x)
 | met f y=>exact jJ (show h.get? a=some _ from x)
 | ext φ=>obtain⟨_,⟨_,e⟩,_⟩:=x;exact jJ e
theorem Paired.Fb{β:Type}{F G:α->β->Prop}:∀ {l₁:List α} {l₂:List β},Zv F l₁ l₂->(∀ a b,F a b->G a b)->Zv G l₁ l₂
 | _,_,.nil,_=>.nil
 | _,_,.cons r t,f=>.cons (f _ _ r) (Paired.Fb t f)
theorem bq.rn(x:bq P w H h a o)(k:∀ b u,(b=a\/H b=some (.own a))->h.get? b=some u->h'.get? b=some u)(ho:∀ b,H b=some (.own a)->H' b=some (.own a))(ht:∀ b xs,H b=some #[29]->H' b=some #[29]):bq P w H' h' a o:=by
 induction o with
 | lst xs=>obtain⟨z,bp,n,r,e⟩:=x;exact⟨z,bp,n,r,k _ _ #[62] e⟩
 | tup xs=>obtain⟨z,bp,r,ob,e,c⟩:=x;exact⟨z,bp,r,ob,k _ _ #[62] e,c⟩
 | dK kvs=>obtain⟨z,y,vs,r,ob,es,ep,e,c⟩:=x;exact⟨z,y,vs,r,ob,es,ep,k _ _ #[62] e,c⟩
 | dT kvs =>
  obtain⟨z,y,xs,r,ob,es,ep,e,c,c1,c2,c3⟩:=x
  exact⟨z,y,xs,Paired.Fb r fun p q z=>⟨z.1,ht _ _ z.2.1,z.2.2⟩,ob,es,ep,k _ _ #[62] e,c,c1,c2,c3⟩
 | set S n=>obtain⟨ob,es,ep,t,e,c⟩:=x;exact⟨ob,es,ep,t,k _ _ #[62] e,c⟩
 | ins C dx fs =>
  obtain⟨d,z,ne,e,mA,⟨od,es,ep,e2,c⟩,r,r1⟩:=x
  exact⟨ho _ d,z,ne,k _ _ #[62] e,mA,⟨od,es,ep,k _ _ (.inr d) e2,c⟩,r,r1⟩
 | own y=>obtain⟨ob,e⟩:=x;exact⟨ob,k _ _ #[62] e⟩
 | xd fs=>obtain⟨mA,⟨od,es,ep,e,c⟩,r⟩:=x;exact⟨mA,⟨od,es,ep,k _ _ #[62] e,c⟩,r⟩
 | rng lo hi=>obtain⟨t,u,v,e⟩:=x;exact⟨t,u,v,k _ _ #[62] e⟩
 | oN ob u ih=>obtain⟨e,q⟩:=x;exact⟨k _ _ #[62] e,ih q⟩
 | BZ ps =>
  have e:h.get? a=some { cls:=.none,data:=.fields ps }:=x
  show h'.get? a=some { cls:=.none,data:=.fields ps }
  exact k a _ #[62] e
 | met f y =>
  have e:h.get? a=some (YZ #[46] (.ref y)):=x
  show h'.get? a=some (YZ #[46] (.ref y))
  exact k a _ #[62] e
 | ext φ=>obtain⟨p,⟨o,e⟩,st⟩:=x;exact⟨st _ _ p fun o q=>k _ _ #[62] q,⟨o,k _ _ #[62] e⟩,st⟩
theorem eV.lt(x:eV P w H h)(e:H a=some o):a<h.objs.size:=(x a o e).lt
theorem eV.fresh(x:eV P w H h)(e:h.objs.size<=a):H a=none:=by
 cases q:H a with
 | none=>rfl
 | some u=>exact absurd (jV (x.lt q) e) (JZ _)
theorem eV.kept(x:eV P w H h)(k:∀ b u,h.get? b=some u->h'.get? b=some u):eV P w H h' := fun a o e =>
 (x a o e).rn (fun b u _ q=>k b u q) (fun _ q=>q) fun _ _ q=>q
theorem eV.laid(x:eV P w H h)(k:∀ b u,h.get? b=some u->h'.get? b=some u)(hp:h.objs.size<=a)(new:bq P w (upd H a o) h' a o):eV P w (upd H a o) h' := fun b u e=>by
 have hn:=x.fresh hp
 by_cases hb:b=a
 ·subst hb;rw[ae]at e;cases e;exact new
 ·rw[af hb]at e
  exact(x b u e).rn (fun c v _ q=>k c v q) (fun c q=>by rw[af (ah q hn)];exact q) fun c xs q=>by rw[af (ah q hn)];exact q
end
def Rd(H:Hp)(a:Zg)(u:HO):Prop:=H a=some u\/∃ o,H a=some (.oN o u)
theorem Rd.ok{H:Hp}{u:HO}(r:Rd H a u)(x:eV P w H h):bq P w H h a u:=by
 rcases r with r|⟨o,r⟩
 ·exact x a u r
 ·obtain⟨_,q⟩:=x a _ r
  exact q
def Mut:Option HO->Prop
 | some (.lst _)=>True
 | some (.dK _)=>True
 | some (.dT _)=>True
 | some (.set _ _)=>True
 | some (.ins _ _ _)=>True
 | some (.ext _)=>True
 | _=>False
section
variable{H:Hp}{x e:Zg}{o':HO}
theorem eV.write(ok:eV P w H h)(mu:Mut (H x))(he:e=x\/H e=some (.own x))(k:∀ b u,b≠e->h.get? b=some u->h'.get? b=some u)(heo:∃ u,h'.get? e=some u)(new:bq P w (upd H x o') h' x o'):eV P w (upd H x o') h' := fun b u q=>by
 have aeW:∀ c y,H c=some (.own y)->c≠x:=fun c y r z=>by subst z;rw[r]at mu;exact mu
 have aiS:∀ c xs,H c=some #[29]->c≠x:=fun c xs r z=>by subst z;rw[r]at mu;exact mu
 by_cases hb:b=x
 ·subst hb;rw[ae]at q;cases q;exact new
 ·rw[af hb]at q
  by_cases hbe:b=e
  ·have q':H b=some (.own x):=by
    rcases he with z|z
    ·exact absurd (hbe.trans z) hb
    ·rw[hbe];exact z
   rw[q]at q';cases q'
   obtain⟨v,hv⟩:=heo
   exact⟨v,by rw[hbe];exact hv⟩
  ·refine(ok b u q).rn (fun c v hc r=>k c v ?_ r) (fun c r=>by rw[af (aeW c b r)];exact r) fun c xs r=>by rw[af (aiS c xs r)];exact r
   rcases hc with rfl|hc
   ·exact hbe
   ·rintro rfl
    rcases he with z|z
    ·exact aeW c b hc z
    ·rw[hc]at z;cases z;exact hb rfl
end
structure Un(fs ex:List Zg)(H H':Hp)(h h':Heap):Prop where
 keep:∀ b o,h.get? b=some o->H b=none->b∉fs->b∉ex->h'.get? b=some o
 slot:∀ b o,h.get? b=some o->H b=none->b∈fs->b∉ex->∃ sl,h'.get? b=some { o with slots:=sl }
 free:∀ b o,h.get? b=some o->H b=none->b∉ex->H' b=none
 there:∀ b o,h.get? b=some o->b∉ex->∃ o',h'.get? b=some o'
 tups:∀ b xs,H b=some #[29]->H' b=some #[29]
 frzs:∀ b o u,H b=some (.oN o u)->H' b=some (.oN o u)
 tbls:∀ b ps,H b=some (.BZ ps)->∃ more,H' b=some (.BZ (ps++more))
section
variable{fs ex:List Zg}{H H1:Hp}{h1:Heap}{x e:Zg}{o:HO}
theorem Un.any(u:Un fs ex H H1 h h1)(q:h.get? b=some ob)(n:H b=none)(hx:b∉ex):∃ sl,h1.get? b=some { ob with slots:=sl }:=by
 by_cases hb:b∈fs
 ·exact u.slot b ob q n hb hx
 ·exact⟨ob.slots,u.keep b ob q n hb hx⟩
theorem Un.kept(k:∀ b u,h.get? b=some u->h'.get? b=some u):Un fs ex H H h h' :=
 ⟨fun b ob q _ _ _=>k b ob q,fun b ob q _ _ _=>⟨ob.slots,k b ob q⟩,fun _ _ _ n _=>n,fun b ob q _=>⟨ob,k b ob q⟩,fun _ _ q=>q,fun _ _ _ q=>q,fun _ ps q=>⟨#[],by rw[q];simp⟩⟩
theorem Un.refl:Un fs ex H H h h:=Un.kept fun _ _ q=>q
theorem Un.laid(k:∀ b u,h.get? b=some u->h'.get? b=some u)(hp:h.objs.size<=a)(hn:H a=none):Un fs ex H (upd H a o) h h' where
 keep:=fun b u q _ _ _=>k b u q
 slot:=fun b u q _ _ _=>⟨u.slots,k b u q⟩
 free:=fun b u q n _=>by rw[af (jO (jV (jJ q) hp))];exact n
 there:=fun b u q _=>⟨u,k b u q⟩
 tups:=fun b xs q=>by rw[af (ah q hn)];exact q
 frzs:=fun b u xs q=>by rw[af (ah q hn)];exact q
 tbls:=fun b ps q=>⟨#[],by rw[af (ah q hn),q];simp⟩
theorem Un.write(mu:Mut (H x))(he:e=x\/H e=some (.own x))(k:∀ b u,b≠e->h.get? b=some u->h'.get? b=some u)(heo:∃ u,h'.get? e=some u):Un fs ex H (upd H x o) h h' := by
 have hx:∀ b,H b=none->b≠x:=fun b n z=>by subst z;rw[n]at mu;exact mu
 have hb:∀ b,H b=none->b≠e:=fun b n z=>by
  subst z
  rcases he with r|r
  ·exact hx b n r
  ·rw[n]at r;cases r
 have hm:∀ b u,H b=some u->¬ Mut (some u)->b≠x:=fun b u q nm z=>by subst z;rw[q]at mu;exact nm mu
 refine⟨fun b u q n _ _=>k b u (hb b n) q,fun b u q n _ _=>⟨u.slots,k b u (hb b n) q⟩,fun b u q n _=>by rw[af (hx b n)];exact n,fun b u q _=>?_,
  fun b xs q=>by rw[af (hm b _ q fun z=>z)];exact q,fun b u xs q=>by rw[af (hm b _ q fun z=>z)];exact q,fun b ps q=>⟨#[],by rw[af (hm b _ q fun z=>z),q];simp⟩⟩
 by_cases hbe:b=e
 ·subst hbe;exact heo
 ·exact⟨u,k b u hbe q⟩
end
def trk(h:Heap)(H:Hp):List Zg:=(jn h.objs.size).filter fun a=>(H a).isSome
def Dy(h:Heap)(H:Hp):Heap:=ya h (trk h H)
theorem OJ(h:Heap)(H:Hp):(Dy h H).objs.size=h.objs.size:=PySem.W.hideAll_size _ _
theorem Rn{H:Hp}{o:Obj}(e:h.get? b=some o)(n:H b=none):(Dy h H).get? b=some o:=
 Wy _ e fun hm=>by
  have q:(H b).isSome=true:=(jy.mp hm).2
  rw[n]at q;simp at q
theorem X3{H:Hp}{o:Obj}(e:(Dy h H).get? b=some o):h.get? b=some o/\H b=none:=by
 have e':h.get? b=some o:=yH (trk h H) e
 exists e'
 cases q:H b with
 | none=>rfl
 | some x =>
  have hm:b∈trk h H:=jy.mpr ⟨js.mpr (jJ e'),by simp[q]⟩
  have z:(Dy h H).get? b=none:=YJ (trk h H) hm
  rw[z]at e;cases e
def TM(g h:Heap)(L:Zg):List #[44]:=(jn h.objs.size).filterMap fun a=>if a=L\/(g.get? a).isSome=true then none else(h.get? a).map fun o=>(a,o)
def rest(g h:Heap)(L d:Zg):List #[44]:=(TM g h L).filter fun p=>decide (p.1≠d)
variable{xs vs fY:List V}{H H':Hp}{o o':HO}{v y:V}
structure Mod(K:WC)(mg:QB->Option Value)(base:Heap):Prop where
 kin:K.In base
 glob:base.Ns QU mg
 blt:∃ mb,base.Ns builtinsNs mb/\∀ x:QB,x ≠ "__name__" -> mb x=QE x
 nolimit:base.NoLimit
structure Cx where
 prog:Zx
 w:World
 K:WC
 mg:QB->Option Value
 base:Heap
 A:Around
 N:List QB
 s₀:QA
 H₀:Hp
 env:Zn
 outer:List Zn
 stack:List Zn
 ex:List Zg
 fn:QB->Bool
 calm:Bool
 pn:List #[44]
 xe:Value->QA->Prop
def Bb(l:List Zn):List Zg:=l.filterMap (·.frame)
abbrev Cx.fs(X:Cx):List Zg:=Bb X.outer
def Vis(sc:Scope)(x:QB):Prop:=sc.names.lookup x=some .local\/sc.names.lookup x=some .cell\/sc.names.lookup x=some .free
def Loc(sc:Scope)(x:QB):Prop:=sc.names.lookup x=some .local\/sc.names.lookup x=some .cell
def Look(env:Zn)(h:Heap)(m:QB->Option Value)(x:QB)(u:Value):Prop:=
 (env.kindOf x=some .local/\m x=some u)\/((env.kindOf x=some .cell\/env.kindOf x=some .free)/\∃ c,env.cells.lookup x=some c/\h.IsCell c (some u))
structure Cx.Ok(X:Cx):Prop where
 mod:Mod X.K X.mg X.base
 kind:X.env.scope.kind=.function
 glob:X.env.globals=QU
 blt:X.env.builtins=builtinsNs
 above:X.s₀.heap.objs.size<=X.env.locals
 inj:∀ x y c,X.env.cells.lookup x=some c->X.env.cells.lookup y=some c->x=y
 has:∀ x,(X.env.kindOf x=some .cell\/X.env.kindOf x=some .free)->∃ c,X.env.cells.lookup x=some c
 cab:∀ x c,X.fn x=true->X.env.cells.lookup x=some c->X.s₀.heap.objs.size<=c
 hd:X.calm=true->X.A.handled=none
 frames:X.A.frames=some X.stack
 stk:X.stack=X.outer\/(X.stack=X.env :: X.outer/\X.env.frame=some X.env.locals)
 exf:∀ b∈X.ex,b≠X.env.locals/\∀ x c,X.env.cells.lookup x=some c->c≠b
 bs:∀ b o,X.base.get? b=some o->X.s₀.heap.get? b=some o/\X.H₀ b=none
 bsz:X.base.objs.size<=X.s₀.heap.objs.size
 noex:∀ b o,X.base.get? b=some o->b∉X.ex
 exfs:∀ b∈X.ex,b∉X.fs
 sQ:X.s₀.heap.FunFrames X.base X.outer
 frf:∀ b∈X.fs,X.H₀ b=none
structure Inv(X:Cx)(pins:List (Zg×Obj))(σ:List (Option V))(H:Hp)(s:QA):Prop where
 ok:X.Ok
 os:s.os=X.s₀.os
 bare:Zh s.gens
 base:Un X.fs X.ex X.H₀ H X.s₀.heap s.heap
 loc:∃ m,s.heap.Ns X.env.locals m/\∀ (i:Nat) (x:QB) (v:V),X.N[i]?=some x->σ[i]?=some (some v)->Vis X.env.scope x->∃ u,RelV v u/\Look X.env s.heap m x u
 cell:∀ x c,X.env.cells.lookup x=some c->∃ v,s.heap.IsCell c v
 free:H X.env.locals=none
 freeC:∀ x c,X.env.cells.lookup x=some c->H c=none
 pin:∀ p∈X.pn++pins,s.heap.get? p.1=some p.2/\H p.1=none/\p.1≠X.env.locals/\p.1∉X.fs/\∀ v,p.2.data≠.cell v
 hok:eV X.prog X.w H s.heap
 len:σ.length=X.N.length
section
variable{X:Cx}{σ:List (Option V)}
theorem Cx.Ok.aiP(ok:X.Ok){o:Obj}(e:X.base.get? b=some o):b∉X.fs:=fun hb=>by
 have:=(ok.sQ.mem hb).1
 rw[e]at this;cases this
theorem Inv.bs(I:Inv X pins σ H s):∀ b o,X.base.get? b=some o->s.heap.get? b=some o/\H b=none:=fun b o e =>
 ⟨I.base.keep b o (I.ok.bs b o e).1 (I.ok.bs b o e).2 (I.ok.aiP e) (I.ok.noex b o e),I.base.free b o (I.ok.bs b o e).1 (I.ok.bs b o e).2 (I.ok.noex b o e)⟩
theorem Inv.bk(I:Inv X pins σ H s):∀ b o,X.base.get? b=some o->s.heap.get? b=some o:=fun b o e=>(I.bs b o e).1
theorem Inv.mod(I:Inv X pins σ H s):Mod X.K X.mg X.base:=I.ok.mod
theorem Inv.pb(I:Inv X pins σ H s):X.K.In s.heap:=I.ok.mod.kin.keeps I.bk
theorem Inv.lt(I:Inv X pins σ H s):X.env.locals<s.heap.objs.size:=let ⟨_,hn,_⟩:=I.loc;hn.lt
theorem Inv.sz(I:Inv X pins σ H s):X.s₀.heap.objs.size<=s.heap.objs.size:=jo I.ok.above (Jv I.lt)
theorem Inv.aiQ(I:Inv X pins σ H s)(h:s.heap.objs.size<=a):a∉X.fs:=fun hb=>by
 obtain⟨_,o,ho,_⟩:=I.ok.sQ.mem hb
 exact absurd (jV (jJ ho) (jo I.sz h)) (JZ _)
theorem Inv.P6(I:Inv X pins σ H s):∀ x c,X.env.cells.lookup x=some c->c≠X.env.locals:=fun x c e z=>by
 obtain⟨v,o,ho,hd⟩:=I.cell x c e
 obtain⟨m,⟨o',es,ep,PM,U0,_⟩,_⟩:=I.loc
 rw[z,PM]at ho;cases ho;rw[U0]at hd;cases hd
theorem Inv.sQ(I:Inv X pins σ H s):s.heap.FunFrames X.base X.outer:=by
 have all:∀ (l:List Zn),(∀ b∈Bb l,b∈X.fs)->X.s₀.heap.FunFrames X.base l->s.heap.FunFrames X.base l:=by
  intro l
  induction l with
  | nil=>intro _ _;trivial
  | cons env r ih =>
   intro hs hl
   obtain⟨hk,⟨L,o,hf,hn,ho,hd⟩,hr⟩:=hl
   have hL:L∈X.fs:=hs L (by unfold Bb;rw[zB,hf];exact jE)
   obtain⟨sl,e⟩:=I.base.slot L o ho (I.ok.frf L hL) hL fun z=>I.ok.exfs L z hL
   exact⟨hk,⟨L,_,hf,hn,e,hd⟩,ih (fun b hb=>hs b (by unfold Bb;rw[zB,hf];exact jK _ hb)) hr⟩
 exact all X.outer (fun _ hb=>hb) I.ok.sQ
theorem Inv.stack(I:Inv X pins σ H s):s.heap.FunFrames X.base X.stack:=by
 rcases I.ok.stk with e|⟨e,hf⟩
 ·rw[e];exact I.sQ
 ·rw[e]
  obtain⟨m,hn,_⟩:=I.loc
  refine .cons (by rw[I.ok.kind];decide) hf hn ?_ I.sQ
  exact zJ (jo I.ok.bsz I.ok.above)
theorem Inv.Fw(I:Inv X pins σ H s):∀ b∈Bb X.stack,b∈X.env.locals :: X.fs:=fun b hb=>by
 rcases I.ok.stk with e|⟨e,hf⟩
 ·rw[e]at hb;exact jK _ hb
 ·rw[e]at hb
  unfold Bb at hb
  rw[zB,hf]at hb
  exact hb
theorem Inv.Fv(I:Inv X pins σ H s):∀ b∈Bb X.stack,H b=none:=fun b hb=>by
 rcases jW.mp (I.Fw b hb)with e|hb
 ·rw[e];exact I.free
 ·obtain⟨_,o,ho,_⟩:=I.ok.sQ.mem hb
  exact I.base.free b o ho (I.ok.frf b hb) fun z=>I.ok.exfs b z hb
theorem Inv.step{g':Array Zp}{t':Nat}{d':Drawn}{ch:List Zg}(I:Inv X pins σ H s)(hch:∀ b∈ch,#[117]/\b≠X.env.locals/\#[79]/\∀ p∈X.pn++pins,p.1≠b)(keep:∀ b o,b≠X.env.locals->b∉X.fs->b∉ch->s.heap.get? b=some o->H b=none->h'.get? b=some o)(slot:∀ b o,b≠X.env.locals->b∈X.fs->b∉ch->s.heap.get? b=some o->H b=none->∃ sl,h'.get? b=some { o with slots:=sl })(free:∀ b o,b∉ch->s.heap.get? b=some o->H b=none->H' b=none)(there:∀ b o,b∉ch->s.heap.get? b=some o->∃ o',h'.get? b=some o')(tups:∀ b xs,H b=some #[29]->H' b=some #[29])(frzs:∀ b o u,H b=some (.oN o u)->H' b=some (.oN o u))(tbls:∀ b ps,H b=some (.BZ ps)->∃ more,H' b=some (.BZ (ps++more)))(ns:∀ m,s.heap.Ns X.env.locals m->h'.Ns X.env.locals m)(hok:eV X.prog X.w H' h')(hg:Zh g'):
  Inv X pins σ H' { s with heap:=h',gens:=g',drawn:=d',toks:=t' }:=by
 have neL:∀ b o,X.s₀.heap.get? b=some o->b≠X.env.locals:=fun b o e=>jO (jV (jJ e) I.ok.above)
 have neC:∀ b o,X.s₀.heap.get? b=some o->b∉X.ex->b∉ch:=fun b o e hx hb=>by
  rcases(hch b hb).1 with z|z
  ·exact hx z
  ·exact absurd (jV (jJ e) z) (JZ _)
 have cellK:∀ x c,X.env.cells.lookup x=some c->∀ v,s.heap.IsCell c v->h'.IsCell c v:=fun x c e v ⟨o,ho,hd⟩=>by
  have nch:c∉ch:=fun z=>(hch c z).2.2.1 x c e rfl
  by_cases hc:c∈X.fs
  ·obtain⟨sl,q⟩:=slot c o (I.P6 x c e) hc nch ho (I.freeC x c e)
   exact⟨_,q,hd⟩
  ·exact⟨o,keep c o (I.P6 x c e) hc nch ho (I.freeC x c e),hd⟩
 refine⟨I.ok,I.os,hg,⟨fun b o e n hb hx=>?_,fun b o e n hb hx=>?_,fun b o e n hx=>?_,fun b o e hx=>?_,fun b xs e=>tups b xs (I.base.tups b xs e),fun b o xs e=>frzs b o xs (I.base.frzs b o xs e),fun b ps e=>?_⟩,?_,fun x c e=>?_,?_,fun x c e=>?_,fun p hp=>?_,hok,I.len⟩
 ·exact keep b o (neL b o e) hb (neC b o e hx) #[324] (I.base.free b o e n hx)
 ·exists 138
  obtain⟨sl',e2⟩:=slot b _ (neL b o e) hb (neC b o e hx) e1 (I.base.free b o e n hx)
  exact⟨sl',e2⟩
 ·exists 122
  exact free b o' (neC b o e hx) e1 (I.base.free b o e n hx)
 ·exists 122
  exact there b o' (neC b o e hx) e1
 ·obtain⟨m1,e1⟩:=I.base.tbls b ps e
  obtain⟨m2,e2⟩:=tbls b _ e1
  exact⟨m1++m2,by rw[e2,Array.append_assoc]⟩
 ·obtain⟨m,hn,hl⟩:=I.loc
  refine⟨m,ns m hn,fun i x v e1 e2 e3=>?_⟩
  obtain⟨u,r,l⟩:=hl i x v e1 e2 e3
  exists u,r
  rcases l with l|⟨k,c,e,z⟩
  ·exact .inl l
  ·exact .inr ⟨k,c,e,cellK x c e _ z⟩
 ·obtain⟨v,z⟩:=I.cell x c e
  exact⟨v,cellK x c e v z⟩
 ·obtain⟨m,⟨o,_,_,ho,_⟩,_⟩:=I.loc
  exact free _ o (fun z=>(hch _ z).2.1 rfl) ho I.free
 ·obtain⟨v,o,ho,hd⟩:=I.cell x c e
  exact free c o (fun z=>(hch c z).2.2.1 x c e rfl) ho (I.freeC x c e)
 ·exists 139
  have nch:p.1∉ch:=fun z=>(hch p.1 z).2.2.2 p hp rfl
  exact⟨keep p.1 p.2 ne nf nch e n,free p.1 p.2 nch e n,ne,nf,d⟩
theorem Inv.un{t':Nat}(I:Inv X pins σ H s)(u:Un X.fs [] H H' s.heap h')(hok:eV X.prog X.w H' h'):Inv X pins σ H' { s with heap:=h',toks:=t' }:=by
 obtain⟨m,⟨o,es,ep,ho,r⟩,_⟩:=id I.loc
 obtain⟨sl,hL⟩:=u.any ho I.free #[11]
 exact I.step (g' := s.gens) (d' := s.drawn) (ch:=[]) (fun _ z=>nomatch z) (fun b o _ hb _ e n=>u.keep b o e n hb #[11]) (fun b o _ hb _ e n=>u.slot b o e n hb #[11]) (fun b o _ e n=>u.free b o e n #[11]) (fun b o _ e=>u.there b o e #[11]) u.tups u.frzs u.tbls (fun m' hm=>by
  obtain⟨o',tX,ep',PM,r'⟩:=hm
  rw[ho]at PM;cases PM
  exact⟨_,tX,ep',hL,r'⟩) hok I.bare
theorem Inv.call{g':Array Zp}{t':Nat}{d':Drawn}(I:Inv X pins σ H s)(u:Un (Bb X.stack) ch H H' s.heap h')(hok:eV X.prog X.w H' h')(hg:Zh g')(hch:∀ b∈ch,#[117]/\b≠X.env.locals/\#[79]/\∀ p∈X.pn++pins,p.1≠b):
  Inv X pins σ H' { s with heap:=h',gens:=g',drawn:=d',toks:=t' }:=by
 obtain⟨m,⟨o,es,ep,ho,r⟩,_⟩:=id I.loc
 obtain⟨sl,hL⟩:=u.any ho I.free fun z=>(hch _ z).2.1 rfl
 exact I.step (ch:=ch) hch (fun b o hL hb hc e n=>u.keep b o e n (fun z=>(jW.mp (I.Fw b z)).elim hL hb) hc) (fun b o _ _ hc e n=>u.any e n hc) (fun b o hc e n=>u.free b o e n hc) (fun b o hc e=>u.there b o e hc) u.tups u.frzs u.tbls (fun m' hm=>by
  obtain⟨o',tX,ep',PM,r'⟩:=hm
  rw[ho]at PM;cases PM
  exact⟨_,tX,ep',hL,r'⟩) hok hg
theorem Inv.turned{t':Nat}(I:Inv X pins σ H s)(k:∀ b o,b≠it->s.heap.get? b=some o->h'.get? b=some o)(hn:H it=none)(hL:it≠X.env.locals)(h1:it∈X.ex\/X.s₀.heap.objs.size<=it)(h2:∀ x c,X.env.cells.lookup x=some c->c≠it)(h3:∀ p∈X.pn++pins,p.1≠it):Inv X pins σ H { s with heap:=h',toks:=t' }:=by
 have nit:∀ b u,H b=some u->b≠it:=fun b u e z=>by rw[z,hn]at e;cases e
 refine I.step (g' := s.gens) (d' := s.drawn) (ch:=[it]) (fun b hb=>?_) (fun b o _ _ hc e _=>k b o #[152] e) (fun b o _ _ hc e _=>⟨o.slots,k b o #[152] e⟩) (fun _ _ _ _ n=>n)
  (fun b o hc e=>⟨o,k b o #[152] e⟩) (fun _ _ e=>e) (fun _ _ _ e=>e) (fun b ps e=>⟨#[],by rw[e];simp⟩) (fun m hm=>?_) (fun b u e=>?_) I.bare
 ·exists 73
  subst e
  exact⟨h1,hL,h2,h3⟩
 ·obtain⟨o,es,ep,ho,r⟩:=hm
  exact⟨o,es,ep,k _ o (Ne.symm hL) ho,r⟩
 ·refine(I.hok b u e).rn (fun c v hc q=>k c v ?_ q) (fun _ q=>q) fun _ _ q=>q
  rcases hc with z|z
  ·rw[z];exact nit b u e
  ·exact nit c _ z
theorem Inv.tok(I:Inv X pins σ H s)(t:Nat):Inv X pins σ H { s with toks:=t }:=I.un (h' := s.heap) (t' := t) Un.refl I.hok
theorem Inv.kept{t':Nat}(I:Inv X pins σ H s)(k:∀ b u,s.heap.get? b=some u->h'.get? b=some u):Inv X pins σ H { s with heap:=h',toks:=t' }:=I.un (Un.kept k) (I.hok.kept k)
theorem Inv.laid{t':Nat}(I:Inv X pins σ H s)(k:∀ b u,s.heap.get? b=some u->h'.get? b=some u)(hp:s.heap.objs.size<=a)(new:bq X.prog X.w (upd H a o) h' a o):
  Inv X pins σ (upd H a o) { s with heap:=h',toks:=t' }:=I.un (Un.laid k hp (I.hok.fresh hp)) (I.hok.laid k hp new)
theorem Inv.write{x e:Zg}{t':Nat}(I:Inv X pins σ H s)(mu:Mut (H x))(he:e=x\/H e=some (.own x))(k:∀ b u,b≠e->s.heap.get? b=some u->h'.get? b=some u)(heo:∃ u,h'.get? e=some u)(new:bq X.prog X.w (upd H x o) h' x o):Inv X pins σ (upd H x o) { s with heap:=h',toks:=t' }:=I.un (Un.write mu he k heo) (I.hok.write mu he k heo new)
theorem Inv.ME(I:Inv X pins σ H s)(h:∀ p∈aaO,s.heap.get? p.1=some p.2/\H p.1=none/\p.1≠X.env.locals/\p.1∉X.fs/\∀ v,p.2.data≠.cell v):Inv X aaO σ H s:=
 ⟨I.ok,I.os,I.bare,I.base,I.loc,I.cell,I.free,I.freeC,fun p hp=>(Jq.mp hp).elim (fun z=>I.pin p (jg _ z)) (h p),I.hok,I.len⟩
theorem CM(hN:N.Nodup)(a:N[i]?=some x)(b:N[j]?=some x):i=j:=by
 obtain⟨h1,e1⟩:=jf.mp a
 obtain⟨h2,e2⟩:=jf.mp b
 exact(JJ hN).mp (e1.trans e2.symm)
theorem Eo{M:Model}{Q:Unit->QA->Prop}(I:Inv X pins σ H s)(hN:X.N.Nodup)(hi:X.N[i]?=some x)(hx:Loc X.env.scope x)(r:RelV v u)(h:∀ s',Inv X pins (σ.set i (some v)) H s'->(∃ a,Wh a s.heap s'.heap/\(a=X.env.locals\/X.env.cells.lookup x=some a))->Q () s')(hf:X.fn x=true\/X.env.scope.names.lookup x=some .local:=by first|exact .inl rfl|exact .inr rfl|assumption):wpAny M A (storeName X.env x u) Q E s:=by
 obtain⟨m,hn,hl⟩:=id I.loc
 exists 37
 have Rp:i<σ.length:=by rw[I.len];exact(jf.mp hi).1
 have P6:=I.P6
 have tracked:∀ {a:Zg} {h':Heap},(∃ o,s.heap.get? a=some o/\H a=none)->Wh a s.heap h'->eV X.prog X.w H h' := fun {a h'} ha hs b ob e=>by
  obtain⟨_,_,aaC⟩:=ha
  refine(I.hok b ob e).rn (fun c w' hc q=>(hs.2 c ?_).trans q) (fun _ q=>q) fun _ _ q=>q
  rintro rfl
  rcases hc with rfl|hc
  ·rw[aaC]at e;cases e
  ·rw[aaC]at hc;cases hc
 rcases hx with hk|hk
 ·refine wpAny_storeName_local hk hn (fun h' hn' hs=>?_) abu
  obtain⟨oL,_,_,hoL,_⟩:=id hn
  refine h _ ⟨I.ok,I.os,I.bare,⟨fun b o e n hb hx=>?_,fun b o e n hb hx=>?_,I.base.free,fun b o e hx=>?_,I.base.tups,I.base.frzs,I.base.tbls⟩,⟨_,hn',fun j y v' e1 e2 e3=>?_⟩,fun y c e=>?_,I.free,I.freeC,fun p hp=>?_,tracked ⟨oL,hoL,I.free⟩ hs,by simpa using I.len⟩ ⟨_,hs,.inl rfl⟩
  ·exact#[194].trans #[324]
  ·exists 138
   exact⟨sl,#[194].trans e1⟩
  ·exists 122
   exact⟨o',#[194].trans e1⟩
  ·by_cases hj:j=i
   ·subst hj
    rw[hi]at e1;cases e1
    rw[Jc Rp]at e2
    cases e2
    exact⟨u,r,.inl ⟨hk,by simp⟩⟩
   ·rw[Jg (Ne.symm hj)]at e2
    obtain⟨u',r',q⟩:=hl j y v' e1 e2 e3
    exists u',r'
    rcases q with⟨k,e⟩|⟨k,c,e,z⟩
    ·refine .inl ⟨k,?_⟩
     have:y≠x:=fun e=>hj (CM hN e1 (e ▸ hi))
     simp[this,e]
    ·exact .inr ⟨k,c,e,z.sameBut hs (P6 y c e)⟩
  ·obtain⟨w',z⟩:=I.cell y c e
   exact⟨w',z.sameBut hs (P6 y c e)⟩
  ·exists 139
   exact⟨(hs.2 p.1 ne).trans e,n,ne,nf,d⟩
 ·have hfn:X.fn x=true:=by
   rcases hf with z|z
   ·exact z
   ·rw[z]at hk;cases hk
  obtain⟨c,hc⟩:=I.ok.has x (.inl hk)
  obtain⟨w',z⟩:=I.cell x c hc
  refine wpAny_storeName_cell I.ok.kind hk hc z (fun h' FI hs=>?_)
  obtain⟨oc,hoc,abA⟩:=id z
  refine h { s with heap:=h' } ⟨I.ok,I.os,I.bare,⟨fun b o e n hb hx=>?_,fun b o e n hb hx=>?_,I.base.free,fun b o e hx=>?_,I.base.tups,I.base.frzs,I.base.tbls⟩,⟨m,hn.sameBut hs (Ne.symm (P6 x c hc)),fun j y v' e1 e2 e3=>?_⟩,fun y c' e=>?_,I.free,I.freeC,fun p hp=>?_,tracked ⟨oc,hoc,I.freeC x c hc⟩ hs,by simpa using I.len⟩ ⟨c,hs,.inr hc⟩
  ·exact#[127].trans #[324]
  ·exists 138
   exact⟨sl,#[127].trans e1⟩
  ·exists 122
   exact⟨o',#[127].trans e1⟩
  ·by_cases hj:j=i
   ·subst hj
    rw[hi]at e1;cases e1
    rw[Jc Rp]at e2
    cases e2
    exact⟨u,r,.inr ⟨.inl hk,c,hc,FI⟩⟩
   ·rw[Jg (Ne.symm hj)]at e2
    obtain⟨u',r',q⟩:=hl j y v' e1 e2 e3
    exists u',r'
    rcases q with q|⟨k,c',e,z'⟩
    ·exact .inl q
    ·refine .inr ⟨k,c',e,z'.sameBut hs ?_⟩
     rintro rfl
     exact hj (CM hN e1 (I.ok.inj _ _ _ e hc ▸ hi))
  ·by_cases hcc:c'=c
   ·subst hcc;exact⟨_,FI⟩
   ·obtain⟨w2,z2⟩:=I.cell y c' e
    exact⟨w2,z2.sameBut hs hcc⟩
  ·exists 139
   refine⟨(hs.2 p.1 ?_).trans e,n,ne,nf,d⟩
   intro q
   rw[q,hoc]at e
   have q':oc=p.2:=Option.some.inj e
   exact d w' (by rw[<- q'];exact abA)
theorem sh{M:Model}{Q:Unit->QA->Prop}(I:Inv X pins σ H s)(hN:X.N.Nodup)(hi:X.N[i]?=some x)(hx:Loc X.env.scope x)(r:RelV v u)(h:∀ s',Inv X pins (σ.set i (some v)) H s'->Q () s')(hf:X.fn x=true\/X.env.scope.names.lookup x=some .local:=by first|exact .inl rfl|exact .inr rfl|assumption):wpAny M A (storeName X.env x u) Q E s:=
 Eo I hN hi hx r (fun s' I' _=>h s' I') hf
theorem Inv.DP(I:Inv X pins σ H s)(ho:s'.os=s.os)(u:Un (Bb X.stack) ch H H' s.heap s'.heap)(hok:eV X.prog X.w H' s'.heap)(hg:Zh s'.gens)(hch:∀ b∈ch,#[117]/\b≠X.env.locals/\#[79]/\∀ p∈X.pn++pins,p.1≠b):Inv X pins σ H' s' := by
 obtain⟨h',g',d',t',o'⟩:=s'
 have e:o'=s.os:=ho
 subst e
 exact I.call (g' := g') (t' := t') (d' := d') u hok hg hch
end
abbrev XK:=Value->Option Zg->Hp->Prop
abbrev St:=List (Option V)
abbrev VK:=V->Hp->Prop
abbrev TE:=St->Hp->VK->Prop
abbrev TT:=St->Hp->(Bool->Hp->Prop)->Prop
abbrev TA:=St->Hp->(List V->Hp->Prop)->Prop
structure Ends where
 nx:St->Hp->Prop
 rt:VK
 bk:St->Hp->Prop:=fun _ _=>False
 ct:St->Hp->Prop:=fun _ _=>False
abbrev TS:=Ends->St->Hp->Prop
def EP(X:Cx)(pins:List #[44])(σ:St)(Q:VK)(u:Value)(s':QA):Prop := ∃ v H',Inv X pins σ H' s'/\RelV v u/\Q v H'
def TP(X:Cx)(pins:List #[44])(σ:St)(Q:Bool->Hp->Prop)(b:Bool)(s':QA):Prop := ∃ H',Inv X pins σ H' s'/\Q b H'
def AP(X:Cx)(pins:List #[44])(σ:St)(Q:List V->Hp->Prop)(us:List Value)(s':QA):Prop := ∃ vs H',Inv X pins σ H' s'/\Vals vs us/\Q vs H'
def SP(X:Cx)(pins:List #[44])(D:Ends)(f:Flow)(s':QA):Prop:=
 match f with
 | .next=>∃ σ' H',Inv X pins σ' H' s'/\D.nx σ' H'
 | .brk=>∃ σ' H',Inv X pins σ' H' s'/\D.bk σ' H'
 | .cont=>∃ σ' H',Inv X pins σ' H' s'/\D.ct σ' H'
 | .ret u=>∃ v σ' H',Inv X pins σ' H' s'/\RelV v u/\D.rt v H'
def PE(X:Cx)(e:Expr)(t:TE):Prop:=
 ∀ (pins:List #[44]) (s:QA) (σ:St) (H:Hp) (Q:VK),Inv X pins σ H s->t σ H Q->wpAny #[5] X.A (eval e X.env) #[74] X.xe s
def PT(X:Cx)(e:Expr)(t:TT):Prop:=
 ∀ (pins:List #[44]) (s:QA) (σ:St) (H:Hp) (Q:Bool->Hp->Prop),Inv X pins σ H s->t σ H Q->wpAny #[5] X.A (isTrue e X.env (eval e X.env)) (TP X pins σ Q) X.xe s
def PW(X:Cx)(e:Expr)(t:TT):Prop:=
 ∀ (whole:Zy Value) (pins:List #[44]) (s:QA) (σ:St) (H:Hp) (Q:Bool->Hp->Prop),Inv X pins σ H s->t σ H Q->wpAny #[5] X.A (isTrue e X.env whole) (TP X pins σ Q) X.xe s
theorem PW.pt{X:Cx}{t:TT}(h:PW X e t):PT X e t:=h _
def PA(X:Cx)(es:List Expr)(t:TA):Prop:=
 ∀ (pos:Pos) (pins:List #[44]) (s:QA) (σ:St) (H:Hp) (Q:List V->Hp->Prop),Inv X pins σ H s->t σ H Q->wpAny #[5] X.A (spliced #[20]) (AP X pins σ Q) X.xe s
def PS(X:Cx)(st:Stmt)(t:TS):Prop:=
 ∀ (pins:List #[44]) (s:QA) (σ:St) (H:Hp) (D:Ends),Inv X pins σ H s->t D σ H->wpAny #[5] X.A (exec st X.env) (SP X pins D) X.xe s
def Ey(X:Cx)(st:List Stmt)(t:TS):Prop:=
 ∀ (pins:List #[44]) (s:QA) (σ:St) (H:Hp) (D:Ends),Inv X pins σ H s->t D σ H->wpAny #[5] X.A (execs st X.env) (SP X pins D) X.xe s
theorem cf{t:Zy α}{Q Q':α->QA->Prop}{M:Model}(h:wpAny M A t Q E s)(hQ:∀ a s,Q a s->Q' a s):wpAny M A t Q' E s:=qO h hQ fun _ _ x=>x
variable{X:Cx}{σ:St}{ta te tl:TE}{tb:TS}{D:Ends}{tc:TT}
section
def Dd(i:Nat):TE:=fun σ H Q=>∃ v,σ[i]?=some (some v)/\Q v H
def tC(v:V):TE:=fun _ H Q=>Q v H
theorem ow(hN:X.N[i]?=some x)(hv:Vis X.env.scope x)(hd:#[16]=false:=by decide)(Dx:(x==("__classdict__" : QB))=false:=by decide):PE X #[266] (Dd i):=by
 exists 4
 obtain⟨v,e,h⟩:=h
 obtain⟨m,hn,hl⟩:=I.loc
 obtain⟨u,r,l⟩:=hl i x v hN e hv
 have fin:EP X pins σ Q u s:=⟨v,H,I,r,h⟩
 rcases l with⟨hk,hm⟩|⟨hk,c,hc,aaz⟩
 ·exact Qm (wpAny_loadName_local I.ok.kind hk hn hm fin) hd
 ·rcases hk with hk|hk
  ·exact Qm (wpAny_loadName_cell I.ok.kind hk hc aaz fin) hd
  ·exact Qm (wpAny_loadName_free I.ok.kind hk hc aaz fin Dx) hd
theorem aq{i j pos}:PE X (.Constant (.int i) j pos) (tC (.int i)):=fun _ _ _ H _ I h=>wpAny_Constant_int ⟨.int i,H,I.tok _,⟨_,rfl⟩,h⟩
theorem dN{b j pos}:PE X (.Constant (.bool b) j pos) (tC (.bl b)):=fun _ _ _ H _ I h=>Constant_bool ⟨.bl b,H,I,rfl,h⟩
theorem Sq{j pos}:PE X (.Constant .none j pos) (tC .non):=fun _ _ _ H _ I h=>Constant_none ⟨.non,H,I,rfl,h⟩
def Gl(X:Cx)(x:QB):Prop:=X.env.kindOf x=some .globalImplicit
theorem mS(I:Inv X pins σ H s)(hg:Gl X x)(hm:X.mg x=some u)(h:Q u s)(hd:#[16]=false:=by decide):wpAny #[5] X.A (eval #[266] X.env) Q E s:=
 YX I.ok.kind hg (Calls.loadGlobal_global (by rw[I.ok.glob];exact I.mod.glob.keeps I.bk) hm h) hd
theorem rR(I:Inv X pins σ H s)(hg:Gl X x)(hm:X.mg x=none)(hv:QE x=some u)(h:Q u s)(hn:x ≠ "__name__" := by decide)(hd:#[16]=false:=by decide):wpAny #[5] X.A (eval #[266] X.env) Q E s:=by
 obtain⟨mb,h1,h2⟩:=I.mod.blt
 exact YX I.ok.kind hg (Calls.loadGlobal_builtin (by rw[I.ok.glob];exact I.mod.glob.keeps I.bk) hm (by rw[I.ok.blt];exact h1.keeps I.bk) ((h2 x hn).trans hv) h) hd
theorem MD(hg:Gl X x)(hm:X.mg x=some u)(r:RelV v u)(hd:#[16]=false:=by decide):PE X #[266] (tC v):=
 fun _ _ _ H _ I h=>mS I hg hm ⟨v,H,I,r,h⟩ hd
theorem lU(hg:Gl X x)(hm:X.mg x=none)(hv:QE x=some u)(r:RelV v u)(hn:x ≠ "__name__" := by decide)(hd:#[16]=false:=by decide):PE X #[266] (tC v):=
 fun _ _ _ H _ I h=>rR I hg hm hv ⟨v,H,I,r,h⟩ hn hd
variable{a b:Expr}{tb:TE}
def PC(X:Cx)(op:Zk)(a b:Expr)(t:TE):Prop:=
 ∀ (pins:List #[44]) (s:QA) (σ:St) (H:Hp) (Q:VK),Inv X pins σ H s->t σ H Q ->
  wpAny #[5] X.A (eval a X.env) (fun v s₁=>wpAny #[5] X.A (eval b X.env) (fun u s₂=>wpAny #[5] X.A (QN op v u) #[74] X.xe s₂) X.xe s₁) X.xe s
theorem RW(b:Expr){op:Zk}(h:op≠.In)(h2:op≠.NotIn):QD op b=false:=by
 exists 118
 exists 104
 cases b<;>simp[QD,e1,e2]
def tB(t:TE):TT:=fun σ H Q=>t σ H fun x H1=>∃ c,x=.bl c/\Q c H1
theorem CY{op:Zk}{t:TE}(h:PC X op a b t)(h1:QD op b=false:=by first|exact RW _ #[18] #[18]|rfl):PT X (.Compare a [op] [b] pos) (tB t):=by
 intro pins s σ H Q I hw
 refine qJ (cf (h pins s σ H _ I hw) fun v s1 h1=>cf h1 fun u s2 h2=>cf h2 fun c s3 ⟨x,H1,I1,r1,q1⟩=>?_) h1
 obtain⟨d,rfl,q⟩:=q1
 cases r1
 exact qy ⟨H1,I1,q⟩
theorem lA{t:TE}(h:PE X e t)(he:∀ whole,isTrue e X.env whole=(do let v <- whole;standAt e.pos;holding [v] (truthy v)):=by intro _;rfl):PT X e (tB t):=by
 intro pins s σ H Q I hw
 refine isTrue_plain (cf (h pins s σ H _ I hw) fun v s1 ⟨x,H1,I1,r1,q1⟩=>?_) (he _)
 obtain⟨d,rfl,q⟩:=q1
 cases r1
 exact qy ⟨H1,I1,q⟩
variable{tA tB':TT}{rest:List Expr}
def ajn(t u:TT):TT:=fun σ H Q=>t σ H fun c H1=>if c=true then u σ H1 Q else Q false H1
def tOr(t u:TT):TT:=fun σ H Q=>t σ H fun c H1=>if c=true then Q true H1 else u σ H1 Q
def ajt(t:TT):TT:=fun σ H Q=>t σ H fun c H1=>Q (!c) H1
theorem MI(ha:PT X a tA):PW X (.BoolOp .And [a] pos) tA:=by
 intro wh pins s σ H Q I h
 refine isTrue_and (cf (ha pins s σ H Q I h) fun c s1 e=>?_)
 cases c with
 | true=>exact isTrue_and_nil e
 | false=>exact e
theorem rW(ha:PT X a tA):PW X (.BoolOp .Or [a] pos) tA:=by
 intro wh pins s σ H Q I h
 refine isTrue_or (cf (ha pins s σ H Q I h) fun c s1 e=>?_)
 cases c with
 | false=>exact isTrue_or_nil e
 | true=>exact e
theorem SH(ha:PT X a tA)(hb:PW X (.BoolOp .And (b :: rest) pos) tB'):PW X (.BoolOp .And (a :: b :: rest) pos) (ajn tA tB'):=by
 intro wh pins s σ H Q I h
 refine isTrue_and (cf #[77] fun c s1 ⟨H1,I1,q1⟩=>?_)
 cases c with
 | true=>exact hb wh pins s1 σ H1 Q I1 q1
 | false=>exact⟨H1,I1,q1⟩
theorem rV(ha:PT X a tA)(hb:PW X (.BoolOp .Or (b :: rest) pos) tB'):PW X (.BoolOp .Or (a :: b :: rest) pos) (tOr tA tB'):=by
 intro wh pins s σ H Q I h
 refine isTrue_or (cf #[77] fun c s1 ⟨H1,I1,q1⟩=>?_)
 cases c with
 | true=>exact⟨H1,I1,q1⟩
 | false=>exact hb wh pins s1 σ H1 Q I1 q1
theorem lh(ha:PT X a tA):PT X (.UnaryOp .Not a pos) (ajt tA):=by
 exists 4
 exact isTrue_not (ha pins s σ H (fun c H1=>Q (!c) H1) I h)
def afn(ta tb:TE):TE:=fun σ H Q=>ta σ H fun x H1=>∃ c,x=.bl c/\if c=true then tb σ H1 Q else Q (.bl false) H1
def afx(ta:TE):TE:=fun σ H Q=>ta σ H fun x H1=>∃ c,x=.bl c/\Q (.bl (!c)) H1
theorem pL{op}{t:TE}(h:PE X a t):PE X (.BoolOp op [a] pos) t:=fun pins s σ H Q I hw=>BoolOp_one (h pins s σ H Q I hw)
theorem iy(ha:PE X a ta)(hb:PE X (.BoolOp .And (b :: rest) pos) tb):PE X (.BoolOp .And (a :: b :: rest) pos) (afn ta tb):=by
 exists 4
 refine BoolOp_and (cf #[77] fun v s1 ⟨x,H1,I1,r1,q1⟩=>?_)
 obtain⟨c,rfl,q1⟩:=q1
 cases r1
 refine qy ?_
 cases c with
 | true=>exact hb pins s1 σ H1 Q I1 q1
 | false=>exact⟨.bl false,H1,I1,rfl,q1⟩
theorem Lr(ha:PE X a ta):PE X (.UnaryOp .Not a pos) (afx ta):=by
 exists 4
 refine UnaryOp_ (cf #[77] fun v s1 ⟨x,H1,I1,r1,q1⟩=>?_)
 obtain⟨c,rfl,q1⟩:=q1
 cases r1
 exact not_of (qy ⟨.bl (!c),H1,I1,rfl,q1⟩)
end
def pZ(K:WC)(H:Hp)(a:Zg)(xs:List V):Prop:=
 Rd H a #[232] \/
  ∃ (o:Obj) (bp:Array Value) (n:Nat),K.lookup a=some o/\o.cls=.type "list" /\ o.dict=none/\o.data=.seq bp n/\bp.size<=sizeLine/\Vals xs bp.toList
def sZ(K:WC)(H:Hp)(a:Zg)(xs:List V):Prop:=
 Rd H a #[29] \/
  ∃ (o:Obj) (bp:Array Value) (n:Nat),K.lookup a=some o/\o.cls=.type "tuple" /\ o.data=.seq bp n/\bp.size<=sizeLine/\Vals xs bp.toList
def agL:Value->Option V
 | .none=>some .non
 | .bool b=>some (.bl b)
 | .int i _=>some (.int i)
 | .str x _=>some (.str x)
 | .bytes b _=>some (.L9 b)
 | .float b _=>some (.flt b)
 | .ref a=>some #[75]
 | .type n=>some (.ty n)
 | _=>none
theorem RelV.abs{x:V}(r:RelV x u):agL u=some x:=by
 cases x with
 | non=>cases r;rfl
 | bl _=>cases r;rfl
 | int _=>obtain⟨t,rfl⟩:=r;rfl
 | str _=>obtain⟨t,rfl⟩:=r;rfl
 | L9 _=>obtain⟨t,rfl⟩:=r;rfl
 | flt _=>obtain⟨t,rfl⟩:=r;rfl
 | ref _=>cases r;rfl
 | ty _=>cases r;rfl
theorem RelV.inj{x:V}(r:RelV x u)(q:RelV y u):x=y:=Option.some.inj (r.abs.symm.trans q.abs)
theorem Vals.inj:∀ {xs ys:List V} {us:List Value},Vals xs us->Vals ys us->xs=ys
 | _,_,_,.nil,.nil=>rfl
 | _,_,_,.cons r t,.cons r' t'=>by rw[r.inj r',Vals.inj t t']
section
variable{ys:List V}
theorem pZ.of(h:H a=some #[232]):pZ K H a xs:=.inl (.inl h)
theorem sZ.of(h:H a=some #[29]):sZ K H a xs:=.inl (.inl h)
theorem Inv.list(I:Inv X pins σ H s)(h:pZ X.K H a xs):∃ bp:List Value,Vals xs bp/\PlainL s.heap a bp.toArray/\xs.length<=sizeLine:=by
 rcases h with h|⟨o,bp,n,hk,hc,hd,hs,hz,r⟩
 ·obtain⟨z,bp,n,r,e⟩:=h.ok I.hok
  exact⟨bp,r,⟨_,n,e,rfl,rfl,rfl⟩,z⟩
 ·refine⟨bp.toList,r,⟨o,n,I.pb a o hk,hc,hd,by simpa using hs⟩,?_⟩
  have e:=r.length
  simp only[jx]at e
  omega
theorem Inv.tuple(I:Inv X pins σ H s)(h:sZ X.K H a xs):∃ bp:List Value,Vals xs bp/\Zr s.heap a bp.toArray/\xs.length<=sizeLine:=by
 rcases h with h|⟨o,bp,n,hk,hc,hs,hz,r⟩
 ·obtain⟨z,bp,r,p⟩:=h.ok I.hok
  exact⟨bp,r,p,z⟩
 ·refine⟨bp.toList,r,⟨o,I.pb a o hk,hc,n,by simpa using hs⟩,?_⟩
  have e:=r.length
  simp only[jx]at e
  omega
theorem Inv.HA(I:Inv X pins σ H s)(h:pZ X.K H a xs)(h':pZ X.K H a ys):xs=ys:=by
 obtain⟨bp,r,⟨o,n,e,_,_,d⟩,_⟩:=I.list h
 obtain⟨its',r',⟨o',n',e',_,_,d'⟩,_⟩:=I.list h'
 rw[e]at e';cases e'
 rw[d]at d'
 injection d' with d1 _
 have:bp=its' := by simpa using congrArg zC d1
 subst this
 exact r.inj r'
theorem Inv.Ep(I:Inv X pins σ H s)(h:sZ X.K H a xs)(h':sZ X.K H a ys):xs=ys:=by
 obtain⟨bp,r,⟨o,e,_,n,d⟩,_⟩:=I.tuple h
 obtain⟨its',r',⟨o',e',_,n',d'⟩,_⟩:=I.tuple h'
 rw[e]at e';cases e'
 rw[d]at d'
 injection d' with d1 _
 have:bp=its' := by simpa using congrArg zC d1
 subst this
 exact r.inj r'
end
abbrev Cx.DE(X:Cx)(E:Value->QA->Prop):Cx:={ X with xe:=E }
abbrev Cx.nox(X:Cx):Cx:=X.DE fun _ _=>False
theorem Cx.Ok.DE(ok:X.Ok)(E:Value->QA->Prop):(X.DE E).Ok:=
 ⟨ok.mod,ok.kind,ok.glob,ok.blt,ok.above,ok.inj,ok.has,ok.cab,ok.hd,ok.frames,ok.stk,ok.exf,ok.bs,ok.bsz,ok.noex,ok.exfs,ok.sQ,ok.frf⟩
theorem Cx.Ok.si(ok:(X.DE E).Ok):X.Ok:=
 ⟨ok.mod,ok.kind,ok.glob,ok.blt,ok.above,ok.inj,ok.has,ok.cab,ok.hd,ok.frames,ok.stk,ok.exf,ok.bs,ok.bsz,ok.noex,ok.exfs,ok.sQ,ok.frf⟩
section
theorem Inv.DE(I:Inv X pins σ H s)(E:Value->QA->Prop):Inv (X.DE E) pins σ H s:=⟨I.ok.DE E,I.os,I.bare,I.base,I.loc,I.cell,I.free,I.freeC,I.pin,I.hok,I.len⟩
theorem Inv.si(I:Inv (X.DE E) pins σ H s):Inv X pins σ H s:=⟨I.ok.si,I.os,I.bare,I.base,I.loc,I.cell,I.free,I.freeC,I.pin,I.hok,I.len⟩
theorem SP.si{f:Flow}(h:SP (X.DE E) pins D f s'):SP X pins D f s' := by
 cases f with
 | next=>obtain⟨σ',H',I,q⟩:=h;exact⟨σ',H',I.si,q⟩
 | brk=>obtain⟨σ',H',I,q⟩:=h;exact⟨σ',H',I.si,q⟩
 | cont=>obtain⟨σ',H',I,q⟩:=h;exact⟨σ',H',I.si,q⟩
 | ret u=>obtain⟨v,σ',H',I,r,q⟩:=h;exact⟨v,σ',H',I.si,r,q⟩
theorem Ey.nox{t:TS}(h:Ey X.nox st t):Ey X st t:=fun pins s σ H D I hw =>
 qO (h pins s σ H D (I.DE _) hw) (fun _ _ q=>q.si) fun _ _ z=>False.elim z
end
section
variable{st:Stmt}{rest:List Stmt}{t u:TS}
def cj:TS:=fun D σ H=>D.nx σ H
def Po(t u:TS):TS:=fun D σ H=>t { D with nx:=u D } σ H
theorem bM:Ey X [] cj:=fun _ _ σ H _ I h=>qA ⟨σ,H,I,h⟩
theorem ak(h1:PS X st t)(h2:Ey X rest u):Ey X (st :: rest) (Po t u):=by
 exists 39
 refine Qz (cf (h1 pins s σ H { D with nx:=u D } I h) fun f s1 q=>?_)
 cases f with
 | next =>
  obtain⟨σ',H',I',q⟩:=q
  exact h2 pins s1 σ' H' D I' q
 | ret v=>exact q
 | brk=>exact q
 | cont=>exact q
theorem au(h1:PS X st t):Ey X [st] t:=by
 exists 39
 refine Qz (cf (h1 pins s σ H D I h) fun f s1 q=>?_)
 cases f with
 | next=>exact qA q
 | ret v=>exact q
 | brk=>exact q
 | cont=>exact q
theorem Inv.quiet(I:Inv X pins σ H s):interactive X.env=false:=by simp[interactive,I.ok.kind]
def afr(te:TE):TS:=fun D σ H=>te σ H fun _ H1=>D.nx σ H1
theorem bZ(he:PE X e te)(hs:Qc e none pos.line X.env=pure false:=by rfl):PS X (.Expr e pos) (afr te):=by
 exists 39
 exact wpAny_Expr_any (cf #[99] fun v s1 ⟨x,H1,I1,r1,q1⟩=>⟨σ,H1,I1,q1⟩) I.quiet hs
def afy(te:TE):TS:=fun D σ H=>te σ H D.rt
theorem aW(he:PE X e te):PS X (.Return (some e) pos) (afy te):=by
 exists 39
 exact Qn (cf #[99] fun v s1 ⟨x,H1,I1,r1,q1⟩=>⟨x,σ,H1,I1,r1,q1⟩)
def Td(c:TT)(t u:TS):TS:=fun D σ H=>c σ H fun b H1=>if b=true then t D σ H1 else u D σ H1
theorem cV{a b:List Stmt}(hc:PT X c tc)(ha:Ey X a t)(hb:Ey X b u):PS X (.If c a b pos) (Td tc t u):=by
 exists 39
 refine wpAny_If (cf (hc pins s σ H _ I h) fun d s1 ⟨H1,I1,q1⟩=>?_)
 cases d with
 | true=>exact ha pins s1 σ H1 D I1 q1
 | false=>exact hb pins s1 σ H1 D I1 q1
end
abbrev TG:=V->St->Hp->(St->Hp->Prop)->Prop
abbrev TGs:=List V->St->Hp->(St->Hp->Prop)->Prop
def PG(X:Cx)(target:Expr)(t:TG):Prop:=
 ∀ (pins:List #[44]) (s:QA) (σ:St) (H:Hp) (v:V) (u:Value) (Q:St->Hp->Prop),Inv X pins σ H s->RelV v u->t v σ H Q ->
  wpAny #[5] X.A (assign target X.env u) #[278] X.xe s
def PGs(X:Cx)(ts:List Expr)(t:TGs):Prop:=
 ∀ (pins:List #[44]) (s:QA) (σ:St) (H:Hp) (vs:List V) (us:List Value) (Q:St->Hp->Prop),Inv X pins σ H s->Vals vs us->t vs σ H Q ->
  wpAny #[5] X.A (assignInOrder ((QC ts X.env).map (·.2)) us) #[278] X.xe s
abbrev aa8:=V->V->V->Hp->(Hp->Prop)->Prop
def adB(X:Cx)(t:aa8):Prop:=
 ∀ (pins:List #[44]) (s:QA) (σ:St) (H:Hp) (o i v:V) (ov iv u:Value) (Q:Hp->Prop),Inv X pins σ H s->RelV o ov->RelV i iv->RelV v u->t o i v H Q ->
  wpAny #[5] X.A (setItem ov iv u) (fun _ s'=>∃ H',Inv X pins σ H' s'/\Q H') X.xe s
section
def bC(i:Nat):TG:=fun v σ H Q=>Q (σ.set i (some v)) H
theorem Z1(hN:X.N.Nodup)(hi:X.N[i]?=some x)(hx:Loc X.env.scope x)(hf:X.fn x=true\/X.env.scope.names.lookup x=some .local:=by first|exact .inl rfl|exact .inr rfl|assumption):PG X #[266] (bC i):=by
 intro pins s σ H v u Q I r h
 exact Qo (sh I hN hi hx r (fun s' I'=>⟨_,H,I',h⟩) hf)
def ag8:TGs:=fun vs σ H Q=>vs=[]/\Q σ H
def adU(t:TG)(u:TGs):TGs:=fun vs σ H Q=>∃ v r,vs=v :: r/\t v σ H fun σ' H'=>u r σ' H' Q
theorem Ad:PGs X [] ag8:=by
 intro pins s σ H vs us Q I r h
 obtain⟨e,h⟩:=h
 subst e
 cases r
 exact assignInOrder_nil ⟨σ,H,I,h⟩
theorem eL{t:TG}{u:TGs}(h1:PG X e t)(h2:PGs X es u)(hs:(QC (e :: es) X.env).map (·.2)=assign e X.env :: (QC es X.env).map (·.2):=by rfl):PGs X (e :: es) (adU t u):=by
 intro pins s σ H vs us Q I r h
 obtain⟨v,vr,e1,h⟩:=h
 subst e1
 cases r with
 | cons r rr =>
  rw[hs]
  refine assignInOrder_cons (cf (h1 pins s σ H _ _ _ I r h) fun _ s1 ⟨σ1,H1,I1,q1⟩=>?_)
  exact h2 pins s1 σ1 H1 _ _ Q I1 rr q1
def adV(K:WC)(n:Nat)(t:TGs):TG:=fun v σ H Q=>∃ a xs,v=.ref a/\sZ K H a xs/\xs.length=n/\t xs σ H Q
theorem CS{k:Nat}{t:TGs}(hc:X.calm=true)(h:PGs X es t)(hn:(QC es X.env).length=n:=by rfl)(wX:(QC es X.env).findIdx? (·.1)=none:=by rfl):PG X (.Tuple es k pos) (adV X.K n t):=by
 intro pins s σ H v u Q I r hw
 obtain⟨a,xs,e1,hq,hl,hw⟩:=hw
 subst e1
 cases r
 obtain⟨bp,rv,ht,hz⟩:=I.tuple hq
 refine assign_Tuple_tuple #[137] ht (by simp[hn,<- hl,rv.length]) wX fun h' hx=>?_
 have I1:Inv X pins σ H { s with heap:=h' }:=I.kept (t' := s.toks) fun b o e=>hx b o (jO (jJ e)) e
 exact h pins _ σ H xs _ Q I1 (by simpa using rv) hw
def ag9(to ti:TE)(t:aa8):TG:=fun v σ H Q=>to σ H fun o H1=>ti σ H1 fun i H2=>t o i v H2 fun H3=>Q σ H3
theorem ab9{o i:Expr}{to ti:TE}{t:aa8}(ho:PE X o to)(hi:PE X i ti)(hs:adB X t)(ha:∀ v,assign #[329] X.env v=(do
   let ov <- holding [v] (eval o X.env)
   let iv <- holding [v,ov] (eval i X.env)
   standAt pos
   holding [v,ov,iv] (setItem ov iv v)
   release [v,ov,iv] []):=by intro _;rfl):PG X #[329] (ag9 to ti t):=by
 intro pins s σ H v u Q I r h
 rw[ha]
 refine Qq (qF (cf #[98] fun ov s1 ⟨x,H1,I1,r1,q1⟩=>?_))
 refine Qq (qF (cf (hi pins s1 σ H1 _ I1 q1) fun iv s2 ⟨y,H2,I2,r2,q2⟩=>?_))
 refine Qq (qw (Qq (qF (cf (hs pins s2 σ H2 x y v ov iv u _ I2 r1 r2 r q2) fun _ s3 ⟨H3,I3,q3⟩=>?_))))
 exact wpAny_release ⟨σ,H3,I3,q3⟩
def Am(te:TE)(g:TG):TS:=fun D σ H=>te σ H fun x H1=>g x σ H1 D.nx
theorem aca{g:TG}(he:PE X e te)(hg:PG X tg g)(hs:swapsWithSole [tg] e pos.line X.env=pure false:=by rfl)(hw:swappedStores [tg] e X.env=pure none:=by rfl)(h1:(QC [tg] X.env).map (·.2)=[assign tg X.env]:=by rfl):PS X (.Assign [tg] e pos) (Am te g):=by
 exists 39
 refine wpAny_Assign_stores (cf #[99] fun v s1 ⟨x,H1,I1,r1,q1⟩=>?_) hs hw
 rw[h1]
 exact cf (hg pins s1 σ H1 x v _ I1 r1 q1) fun _ s2 q=>q
theorem SA(hN:X.N.Nodup)(hi:X.N[i]?=some x)(hx:Loc X.env.scope x)(he:PE X e te)(hs:Qc e #[289] pos.line X.env=pure false:=by rfl)(hf:X.fn x=true\/X.env.scope.names.lookup x=some .local:=by first|exact .inl rfl|exact .inr rfl|assumption):
  PS X #[159] (Am te (bC i)):=by
 exists 39
 refine Qh (cf #[99] fun v s1 ⟨y,H1,I1,r1,q1⟩=>?_) hs
 exact sh I1 hN hi hx r1 (fun s2 I2=>⟨_,H1,I2,q1⟩) hf
end
section
def wo(c:TT)(tb:TS):TS:=fun D σ H=>∃ W:Nat->St->Hp->Prop,(∃ m,W m σ H)/\∀ m σ H,W m σ H ->
 c σ H fun b H1=>if b=true then ∃ N:St->Hp->Prop,(∀ σ' H',N σ' H'->∃ m',m'<m/\W m' σ' H')/\tb { D with nx:=N,ct:=N,bk:=D.nx } σ H1 else D.nx σ H1
theorem Af(hp:Zw #[5] X.A X.env X.xe)(hc:PT X c tc)(hb:Ey X body tb):PS X (.While c body [] pos) (wo tc tb):=by
 exists 39
 obtain⟨W,⟨m0,w0⟩,turn⟩:=h
 refine wpAny_While (codeAny_whileLoop (fun n s'=>∃ σ' H',Inv X pins σ' H' s'/\W n σ' H') ?_ m0 ⟨σ,H,I,w0⟩)
 rintro n s1 ⟨σ1,H1,I1,w1⟩
 refine qW hp (cf (hc pins s1 σ1 H1 _ I1 (turn n σ1 H1 w1)) fun b s2 ⟨H2,I2,q2⟩=>?_)
 cases b with
 | true =>
  obtain⟨N,hN,q2⟩:=q2
  rw[if_pos rfl]
  refine qW hp (cf (hb pins s2 σ1 H2 _ I2 q2) fun f s3 q3=>?_)
  cases f with
  | next =>
   obtain⟨σ3,H3,I3,n3⟩:=q3
   obtain⟨m',hm,w3⟩:=hN σ3 H3 n3
   exact⟨m',hm,σ3,H3,I3,w3⟩
  | cont =>
   obtain⟨σ3,H3,I3,n3⟩:=q3
   obtain⟨m',hm,w3⟩:=hN σ3 H3 n3
   exact⟨m',hm,σ3,H3,I3,w3⟩
  | brk=>exact q3
  | ret v=>exact q3
 | false =>
  rw[if_neg je]
  exact qA ⟨σ1,H2,I2,q2⟩
end
structure It where
 go:Nat->Hp->Prop
 yld:Nat->Hp->V->Hp->Prop
 stop:Nat->Hp->Prop
def tL(X:Cx)(pins:List #[44])(H:Hp)(b:Zg):Prop:=
 H b=none/\b≠X.env.locals/\b∉X.fs/\#[117]/\#[79]/\∀ p∈X.pn++pins,p.1≠b
theorem Inv.Cs(I:Inv X pins σ H s)(hb:s.heap.objs.size<=b)(hn:H' b=none):tL X pins H' b:=by
 refine⟨hn,Jk (jV I.lt hb),I.aiQ hb,.inr (jo I.sz hb),fun x c e z=>?_,fun p hp z=>?_⟩
 ·obtain⟨v,q⟩:=I.cell x c e
  exact absurd (jV q.lt (by rw[z];exact hb)) (JZ _)
 ·exact absurd (jV (jJ (I.pin p hp).1) (by rw[z];exact hb)) (JZ _)
structure Turn(P:Zx)(w:World)(K:WC)(tg:Expr)(J:It)(fp:List Zg)(it:Zg)(tn:Nat->Heap->Prop):Prop where
 mem:it∈fp
 obj:∀ i h,tn i h->∀ b∈fp,∃ o,h.get? b=some o/\∀ v,o.data≠.cell v
 keep:∀ i h h',tn i h->(∀ b∈fp,∀ o,h.get? b=some o->h'.get? b=some o)->tn i h'
 item:∀ (X:Cx),X.prog=P->X.w=w->X.K=K->X.calm=true->∀ (i:Nat) (pins:List #[44]) (s:QA) (σ:St) (H:Hp) (E:Value->QA->Prop),Inv X pins σ H s->(∀ b∈fp,tL X pins H b)->tn i s.heap->J.go i H ->
  wpAny #[97] X.A (pyNext #[189]) (fun r s1=>∃ u,r=some u /\
   wpAny #[97] X.A (letOwnedTupleGo tg #[189] u) (fun _ s2=>∃ x H',Inv X pins σ H' s2/\RelV x u/\J.yld i H x H'/\tn (i+1) s2.heap/\∀ b∈fp,H' b=none) E s1) E s
 done:∀ (X:Cx),X.prog=P->X.w=w->X.K=K->X.calm=true->∀ (i:Nat) (pins:List #[44]) (s:QA) (σ:St) (H:Hp) (E:Value->QA->Prop),Inv X pins σ H s->(∀ b∈fp,tL X pins H b)->tn i s.heap->J.stop i H ->
  wpAny #[97] X.A (pyNext #[189]) (fun r s1=>r=none/\Inv X pins σ H s1) E s
 self:∀ (A:Around) (i:Nat) (s:QA) (Q:Value->QA->Prop) (E:Value->QA->Prop),tn i s.heap->Q #[189] s->wpAny #[97] A (pyIter #[189]) Q E s
abbrev TI:=St->Hp->(It->Hp->Prop)->Prop
def PIE(X:Cx)(pins:List #[44])(σ:St)(tg:Expr)(R:It->Hp->Prop)(itv:Value)(s2:QA):Prop:=
 ∃ (it:Zg) (fp:List Zg) (tn:Nat->Heap->Prop) (J:It) (H':Hp),itv=.ref it/\Inv X pins σ H' s2/\Turn X.prog X.w X.K tg J fp it tn/\tn 0 s2.heap/\(∀ b∈fp,tL X pins H' b)/\R J H'
def PI(X:Cx)(tg iter:Expr)(wi:TI):Prop:=
 ∀ (pins:List #[44]) (s:QA) (σ:St) (H:Hp) (R:It->Hp->Prop),Inv X pins σ H s->wi σ H R ->
  wpAny #[5] X.A (eval iter X.env) (fun v s1=>wpAny #[5] X.A (pyIter v) (PIE X pins σ tg R) X.xe s1) X.xe s
theorem Hi{M:Model}{o:Obj}{n:String}{vs:Array Value}{Q:Unit->QA->Prop}(ho:s.heap.get? it=some o)(hc:o.cls=.type n)(hd:o.data=.fields vs)(hn:["enumerate","zip","dict_itemiterator","dict_reverseitemiterator","odict_iterator","itertools.zip_longest","itertools.pairwise"].contains n=false)(hQ:Q () s):wpAny M A (letOwnedTupleGo tg #[189] u) Q E s:=by
 unfold letOwnedTupleGo
 cases tg<;>first
  | exact qX hQ
  | (cases u<;>first
    | exact qX hQ
    | (refine Qq (wpAny_load ho ?_)
       rw[hc,hd]
       show wpAny M A (if (["enumerate","zip","dict_itemiterator","dict_reverseitemiterator","odict_iterator","itertools.zip_longest","itertools.pairwise"].contains n&&vs[0]?==some (rawInt _))=true then _ else _) Q E s
       rw[if_neg (by intro h;rw[hn,zx]at h;cases h)]
       exact qX hQ))
def Itl(K:WC)(a:Zg):It:=
 ⟨fun i H=>∃ xs x,pZ K H a xs/\xs[i]?=some x,fun i H x H'=>H'=H/\∀ xs,pZ K H a xs->xs[i]?=some x,fun i H=>∃ xs,pZ K H a xs/\xs.length<=i⟩
def Itt(K:WC)(a:Zg):It:=
 ⟨fun i H=>∃ xs x,sZ K H a xs/\xs[i]?=some x,fun i H x H'=>H'=H/\∀ xs,sZ K H a xs->xs[i]?=some x,fun i H=>∃ xs,sZ K H a xs/\xs.length<=i⟩
def Itr(lo:Int)(n:Nat):It:=⟨fun i _=>i<n,fun i H x H'=>H'=H/\x=.int (lo+i),fun i _=>n<=i⟩
theorem Pr(a it:Zg):Turn P w K tg (Itl K a) [it] it (fun i h=>h.IsListIter it a i) where
 mem:=by simp
 obj:=fun i h st b hb=>by
  exists 73
  subst e
  obtain⟨o,e,c,d⟩:=st
  exists 42
 keep:=fun i h h' st k=>st.at fun o e=>k it #[11] o e
 item:=by
  exists 1
  exists 161
  obtain⟨xs,x,hq,hx⟩:=hg
  exists 151
  exists 159
  exists 3
  refine wpAny_pyNext_list_item st p.isList (x:=u) (by simpa using hu) fun h' FN sb=>?_
  exists 7
  obtain⟨o,e,c,d⟩:=id FN
  exact⟨u,rfl,Hi (s:={ s with heap:=h' }) e c d #[18] ⟨x,H,I1,ru,⟨rfl,fun ys hy=>by rw[I.HA hy hq];exact hx⟩,FN,fun b hb=>(hf b hb).1⟩⟩
 done:=by
  exists 1
  exists 161
  obtain⟨xs,hq,hx⟩:=hg
  exists 151
  exists 3
  have hl:=rv.length
  exact wpAny_pyNext_list_end #[137] st p.isList (by simp;omega) fun h' eb=>⟨rfl,I.turned (t' := s.toks) #[87] f0 f1 f3 f4 f5⟩
 self:=fun _ _ _ _ _ st h=>wpAny_pyIter_listiter st h
theorem LQ(a it:Zg):Turn P w K tg (Itt K a) [it] it (fun i h=>h.IsTupleIter it a i) where
 mem:=by simp
 obj:=fun i h st b hb=>by
  exists 73
  subst e
  obtain⟨o,e,c,d⟩:=st
  exists 42
 keep:=fun i h h' st k=>st.at fun o e=>k it #[11] o e
 item:=by
  exists 1
  exists 161
  obtain⟨xs,x,hq,hx⟩:=hg
  exists 145
  exists 159
  exists 3
  refine wpAny_pyNext_tuple_item st (show s.heap.IsTuple a bp.toArray from p) (x:=u) (by simpa using hu) fun h' FN sb=>?_
  exists 7
  obtain⟨o,e,c,d⟩:=id FN
  exact⟨u,rfl,Hi (s:={ s with heap:=h' }) e c d #[18] ⟨x,H,I1,ru,⟨rfl,fun ys hy=>by rw[I.Ep hy hq];exact hx⟩,FN,fun b hb=>(hf b hb).1⟩⟩
 done:=by
  exists 1
  exists 161
  obtain⟨xs,hq,hx⟩:=hg
  exists 145
  exists 3
  have hl:=rv.length
  exact wpAny_pyNext_tuple_end #[137] st (show s.heap.IsTuple a bp.toArray from p) (by simp;omega) fun h' eb=>⟨rfl,I.turned (t' := s.toks) #[87] f0 f1 f3 f4 f5⟩
 self:=fun _ _ _ _ _ st h=>wpAny_pyIter_tupleiter st h
theorem LP(it:Zg)(lo:Int)(n:Nat):Turn P w K tg (Itr lo n) [it] it (fun i h=>IsRangeIter h it (lo+(i:Nat)*1) ((n:Int)-(i:Nat)) 1) where
 mem:=by simp
 obj:=fun i h st b hb=>by
  exists 73
  subst e
  exact⟨_,st,fun v z=>by
   exists 136
   cases z'⟩
 keep:=fun i h h' st k=>k it #[11] _ st
 item:=by
  exists 1
  exists 161
  exists 3
  have W:=Walks.range (prog:=X.prog) (w:=X.w) #[137] it lo 1 n
  refine W.item i s _ _ hg st fun v h' tk hv FN kk=>?_
  obtain⟨t,rfl⟩:=hv
  have I1:Inv X pins σ H { s with heap:=h',toks:=tk }:=I.turned (fun b o hb e=>kk b o (by simpa using hb) e) f0 f1 f3 f4 f5
  refine⟨_,rfl,Hi (s:={ s with heap:=h',toks:=tk }) (n := "range_iterator") FN rfl rfl #[18] ⟨.int (lo+i),H,I1,⟨t,?_⟩,⟨rfl,rfl⟩,FN,fun b hb=>(hf b hb).1⟩⟩
  rw[Zf]
 done:=by
  exists 1
  exists 161
  exists 3
  exact wpAny_pyNext_range_end #[137] st (by have:n<=i:=hg;omega) fun h' eb=>⟨rfl,I.turned (t' := s.toks) #[87] f0 f1 f3 f4 f5⟩
 self:=fun _ _ _ _ _ st h=>wpAny_pyIter_rangeiter st h
variable{wi:TI}
section
def aeE(K:WC)(tl:TE):TI:=fun σ H R=>tl σ H fun x H1=>∃ a,x=.ref a/\(∃ xs,pZ K H1 a xs)/\R (Itl K a) H1
def ain(K:WC)(tl:TE):TI:=fun σ H R=>tl σ H fun x H1=>∃ a,x=.ref a/\(∃ xs,sZ K H1 a xs)/\R (Itt K a) H1
theorem dj(hl:PE X l tl):PI X tg l (aeE X.K tl):=by
 exists 134
 exists 23
 exists 152
 subst e
 cases r1
 obtain⟨bp,rv,p,hz⟩:=I1.list hq
 refine qZ p.isList ?_
 refine⟨s1.heap.objs.size,[s1.heap.objs.size],_,_,H1,rfl,I1.kept (t' := s1.toks) fun b o e=>jB _ e,Pr a _,⟨_,jL _ rfl,rfl,rfl⟩,fun b hb=>?_,q⟩
 exists 58
 subst e
 exists 84
theorem mB(hl:PE X l tl):PI X tg l (ain X.K tl):=by
 exists 134
 exists 23
 exists 152
 subst e
 cases r1
 obtain⟨bp,rv,p,hz⟩:=I1.tuple hq
 refine qf (show s1.heap.IsTuple a bp.toArray from p) ?_
 refine⟨s1.heap.objs.size,[s1.heap.objs.size],_,_,H1,rfl,I1.kept (t' := s1.toks) fun b o e=>jB _ e,LQ a _,⟨_,jL _ rfl,rfl,rfl⟩,fun b hb=>?_,q⟩
 exists 58
 subst e
 exists 84
theorem SN{R:It->Hp->Prop}{hi:Int}{t u v:Tok}{tk:Nat}(I:Inv X pins σ H s)(h1 : -(2^62)<=lo)(h2:lo<2^62)(h3 : -(2^62)<=hi)(h4:hi<2^62)(q:R (Itr lo (hi-lo).toNat) H):wpAny #[5] X.A (pyIter #[25]) (PIE X pins σ tg R) E { s with heap:=s.heap.push { cls:=.type "range",data:=.fields #[.int lo t,.int hi u,.int 1 v] },toks:=tk }:=by
 refine wpAny_pyIter_range (IsRange.new ..) (small_one h1 h2 h3 h4) ?_
 have I1:Inv X pins σ H { s with heap:=s.heap.push { cls:=.type "range",data:=.fields #[.int lo t,.int hi u,.int 1 v] },toks:=tk }:=I.kept fun b o e=>jB _ e
 refine⟨#[55].objs.size,[#[55].objs.size],_,_,H,rfl,
  I1.kept (t' := tk) fun b o e=>jB _ e,LP _ lo (hi-lo).toNat,?_,fun b hb=>?_,q⟩
 ·have e1:lo+((0:Nat):Int)*1=lo:=by simp
  have e2:(((hi-lo).toNat:Nat):Int)-((0:Nat):Int)=XW lo hi 1:=by rw[rangeSize_one];split<;>omega
  show IsRangeIter _ _ (lo+((0:Nat):Int)*1) ((((hi-lo).toNat:Nat):Int)-((0:Nat):Int)) 1
  rw[e1,e2]
  exact jL _ rfl
 ·have e:b=#[55].objs.size:=by simpa using hb
  subst e
  exists 84
def aeF(ta:TA):TI:=fun σ H R=>ta σ H fun vs H1=>∃ j:Int,vs=[.int j]/\-(2^62)<=j/\j<2^62/\R (Itr 0 j.toNat) H1
theorem cK{a:Expr}{ta:TA}(hg:Gl X "range")(hm:X.mg "range" = none)(ha:PA X [a] ta)(hs:Qa [a] X.env=[(false,eval a X.env)]:=by rfl):PI X tg (.Call (.Name "range" p) [a] [] pos) (aeF ta):=by
 exists 134
 refine Call_ (rR I hg hm boot_range (WR (cf (ha pos pins s σ H _ I h) fun us s1 ⟨vs,H1,I1,r1,q1⟩=>?_) hs rfl))
 obtain⟨j,e,q1,q2,q⟩:=q1
 subst e
 cases r1 with
 | cons r rr =>
  cases rr
  obtain⟨t,rfl⟩:=r
  exact call_range_1 (SN I1 #[2] #[2] q1 q2 (by simpa using q))
def AW(wi:TI)(g:TG)(tb:TS):TS:=fun D σ H=>wi σ H fun J H1=>∃ W:Nat->Nat->St->Hp->Prop,(∃ m,W 0 m σ H1)/\∀ i m σ H,W i m σ H ->
 (J.stop i H/\D.nx σ H)\/(J.go i H/\∃ N:St->Hp->Prop,#[22]/\∀ x H',J.yld i H x H'->g x σ H' fun σ2 H2=>tb { D with nx:=N,ct:=N,bk:=D.nx } σ2 H2)
def Fh(fp:List Zg)(h:Heap):List #[44]:=fp.filterMap fun b=>(h.get? b).map fun o=>(b,o)
theorem pK{o:Obj}(hb:b∈fp)(e:h.get? b=some o):(b,o)∈Fh fp h:=zQ.mpr ⟨b,hb,by rw[e];rfl⟩
theorem OT{p:Zg×Obj}(hp:p∈Fh fp h):p.1∈fp/\h.get? p.1=some p.2:=by
 obtain⟨b,hb,e⟩:=zQ.mp hp
 cases q:h.get? b with
 | none=>rw[q]at e;cases e
 | some o =>
  rw[q]at e
  have e':(b,o)=p:=Option.some.inj e
  subst e'
  exact⟨hb,q⟩
theorem Inv.pinned(I:Inv X pins σ H s)(hf:∀ b∈fp,tL X pins H b)(ho:∀ b∈fp,∃ o,s.heap.get? b=some o/\∀ v,o.data≠.cell v):Inv X (pins++Fh fp s.heap) σ H s:=
 I.ME fun p hp=>(Jq.mp hp).elim (fun z=>I.pin p (jR _ z)) fun z=>by
  obtain⟨hb,e⟩:=OT z
  obtain⟨f0,f1,f2,_⟩:=hf p.1 hb
  obtain⟨o,e',d⟩:=ho p.1 hb
  rw[e]at e';cases e'
  exact⟨e,f0,f1,f2,d⟩
theorem Inv.An(I:Inv X (pins++pl) σ H s):Inv X pins σ H s:=I.ME fun p hp=>I.pin p (jR _ (jg _ hp))
theorem cD{g:TG}(hp:Zw #[5] X.A X.env X.xe)(hc:X.calm=true)(hi:PI X tg iter wi)(hg:PG X tg g)(hb:Ey X body tb)(hs:∀ x,foldedSetIterable iter X.env x=pure x:=by intro _;rfl):PS X (.For tg iter body [] pos) (AW wi g tb):=by
 exists 39
 refine wpAny_For #[78] hs
 obtain⟨it,fp,tn,J,H2,e,I2,T,st2,f2,W,⟨m0,w0⟩,turn⟩:=h2
 subst e
 have LC:∀ {H':Hp},#[184]->∀ b∈fp,tL X pins H' b:=fun hn b hb=>⟨hn b hb,(f2 b hb).2⟩
 refine codeAny_forLoop_any (fun n s'=>∃ i σ' H',Inv X pins σ' H' s'/\tn i s'.heap/\#[184]/\W i n σ' H') ?_ m0 ⟨0,σ,H2,I2,st2,fun b hb=>(f2 b hb).1,w0⟩
 rintro n s3 ⟨i,σ3,H3,I3,st3,fr3,w3⟩
 rcases turn i n σ3 H3 w3 with⟨stop,qn⟩|⟨go,N,hN,step⟩
 ·refine qW hp (cf (T.done X rfl rfl rfl hc i pins s3 σ3 H3 X.xe I3 (LC fr3) st3 stop) fun r s4 ⟨hr,I4⟩=>?_)
  subst hr
  exact qA ⟨σ3,H3,I4,qn⟩
 ·refine qW hp (cf (T.item X rfl rfl rfl hc i pins s3 σ3 H3 X.xe I3 (LC fr3) st3 go) fun r s4 ⟨u,hr,h4⟩=>?_)
  subst hr
  refine qW hp (cf h4 fun _ s5 ⟨x,H5,I5,r5,y5,Iv,fr5⟩=>?_)
  have I5' := I5.pinned (LC fr5) (T.obj _ _ Iv)
  refine qW hp (cf (hg _ s5 σ3 H5 x u _ I5' r5 (step x H5 y5)) fun _ s6 ⟨σ6,H6,I6,q6⟩=>?_)
  refine qW hp (cf (hb _ s6 σ6 H6 _ I6 q6) fun f s7 q7=>?_)
  have again:∀ {σ7:St} {H7:Hp},Inv X (pins++Fh fp s5.heap) σ7 H7 s7->N σ7 H7->∃ m,m<n/\∃ i σ' H',Inv X pins σ' H' s7/\tn i s7.heap/\#[184]/\W i m σ' H' := fun {σ7 H7} I7 n7=>by
   obtain⟨m',hm,w7⟩:=hN σ7 H7 n7
   refine⟨m',hm,i+1,σ7,H7,I7.An,T.keep _ _ _ Iv fun b hb o e=>(I7.pin (b,o) #[242]).1,fun b hb=>?_,w7⟩
   obtain⟨o,e,d⟩:=T.obj _ _ Iv b hb
   exact(I7.pin (b,o) #[242]).2.1
  cases f with
  | next=>obtain⟨σ7,H7,I7,n7⟩:=q7;exact again I7 n7
  | cont=>obtain⟨σ7,H7,I7,n7⟩:=q7;exact again I7 n7
  | brk=>obtain⟨σ7,H7,I7,q7⟩:=q7;exact⟨σ7,H7,I7.An,q7⟩
  | ret v=>obtain⟨x7,σ7,H7,I7,r7,q7⟩:=q7;exact⟨x7,σ7,H7,I7.An,r7,q7⟩
end
theorem fP{g:TG}(Pv:Nat->St->Hp->Prop)(h0:Pv 0 σ H)(hl:∀ i σ H,i<=xs.length->Pv i σ H->pZ K H a xs)(hs:∀ i x σ H,xs[i]?=some x->Pv i σ H->g x σ H fun σ2 H2=>tb { D with nx:=Pv (i+1),ct:=Pv (i+1),bk:=D.nx } σ2 H2)(hd:∀ σ H,Pv xs.length σ H->D.nx σ H):
  ∃ W:Nat->Nat->St->Hp->Prop,#[192]/\∀ i m σ H,W i m σ H ->
   ((Itl K a).stop i H/\D.nx σ H)\/((Itl K a).go i H/\∃ N:St->Hp->Prop,#[22]/\∀ x H',(Itl K a).yld i H x H'->g x σ H' fun σ2 H2=>tb { D with nx:=N,ct:=N,bk:=D.nx } σ2 H2):=by
 exists 14
 exists 119
 have q:=hl i σ H hi p
 exists 160
 ·exists 5
  obtain⟨e,y⟩:=y
  subst e
  exact hs i x σ _ (y xs q) p
 ·exists 133
  subst e
  exists 109
theorem wU{g:TG}(Pv:Nat->St->Hp->Prop)(h0:Pv 0 σ H)(hl:∀ i σ H,i<=xs.length->Pv i σ H->sZ K H a xs)(hs:∀ i x σ H,xs[i]?=some x->Pv i σ H->g x σ H fun σ2 H2=>tb { D with nx:=Pv (i+1),ct:=Pv (i+1),bk:=D.nx } σ2 H2)(hd:∀ σ H,Pv xs.length σ H->D.nx σ H):
  ∃ W:Nat->Nat->St->Hp->Prop,#[192]/\∀ i m σ H,W i m σ H ->
   ((Itt K a).stop i H/\D.nx σ H)\/((Itt K a).go i H/\∃ N:St->Hp->Prop,#[22]/\∀ x H',(Itt K a).yld i H x H'->g x σ H' fun σ2 H2=>tb { D with nx:=N,ct:=N,bk:=D.nx } σ2 H2):=by
 exists 14
 exists 119
 have q:=hl i σ H hi p
 exists 160
 ·exists 5
  obtain⟨e,y⟩:=y
  subst e
  exact hs i x σ _ (y xs q) p
 ·exists 133
  subst e
  exists 109
theorem iq{g:TG}(Pv:Nat->St->Hp->Prop)(h0:Pv 0 σ H)(hs:∀ i σ H,i<n->Pv i σ H->g (.int (lo+i)) σ H fun σ2 H2=>tb { D with nx:=Pv (i+1),ct:=Pv (i+1),bk:=D.nx } σ2 H2)(hd:∀ σ H,Pv n σ H->D.nx σ H):
  ∃ W:Nat->Nat->St->Hp->Prop,#[192]/\∀ i m σ H,W i m σ H ->
   ((Itr lo n).stop i H/\D.nx σ H)\/((Itr lo n).go i H/\∃ N:St->Hp->Prop,#[22]/\∀ x H',(Itr lo n).yld i H x H'->g x σ H' fun σ2 H2=>tb { D with nx:=N,ct:=N,bk:=D.nx } σ2 H2):=by
 refine⟨fun i m σ H=>m=n-i/\i<=n/\Pv i σ H,⟨n,by simp,jb _,h0⟩,?_⟩
 exists 119
 by_cases fu:i<n
 ·refine .inr ⟨fu,Pv (i+1),fun σ' H' p'=>⟨n-(i+1),by omega,rfl,fu,p'⟩,fun x H' y=>?_⟩
  obtain⟨e,y⟩:=y
  subst e y
  exact hs i σ _ fu p
 ·have e:i=n:=by omega
  subst e
  exact .inl ⟨jF _,hd σ H p⟩
abbrev R2:=V->V->Hp->VK->Prop
def Ew(X:Cx)(f:Value->Value->Zy Value)(r:R2):Prop:=
 ∀ (pins:List #[44]) (s:QA) (σ:St) (H:Hp) (x y:V) (v u:Value) (Q:VK),Inv X pins σ H s->RelV x v->RelV y u->r x y H Q ->
  wpAny #[5] X.A (f v u) #[74] X.xe s
def lK(X:Cx)(f:Value)(r:List V->Hp->VK->Prop):Prop:=
 ∀ (pins:List #[44]) (s:QA) (σ:St) (H:Hp) (xs:List V) (us:List Value) (Q:VK),Inv X pins σ H s->Vals xs us->r xs H Q ->
  wpAny #[5] X.A (call f us) #[74] X.xe s
def agI(X:Cx)(r:V->Hp->(Bool->Hp->Prop)->Prop):Prop:=
 ∀ (pins:List #[44]) (s:QA) (σ:St) (H:Hp) (x:V) (v:Value) (Q:Bool->Hp->Prop),Inv X pins σ H s->RelV x v->r x H Q ->
  wpAny #[5] X.A (truthy v) (TP X pins σ Q) X.xe s
def LD(r:R2)(ta tb:TE):TE:=fun σ H Q=>ta σ H fun x H1=>tb σ H1 fun y H2=>r x y H2 Q
def rI(C:Int->Int->Prop)(g:Int->Int->V):R2:=fun x y H Q=>∃ i j,x=.int i/\y=.int j/\C i j/\Q (g i j) H
def PQ(g:Int->Int->V):R2:=fun x y H Q=>∃ i j,x=.int i/\y=.int j/\Q (g i j) H
section
variable{a b:Expr}{tb:TE}
theorem abb(ha:PE X a ta)(hb:PE X b tb){R:V->V->Hp->Prop}(I:Inv X pins σ H s)(h:ta σ H fun x H1=>tb σ H1 fun y H2=>R x y H2){f:Value->Value->Zy Value}(hf:∀ v u s2 x y H2,Inv X pins σ H2 s2->RelV x v->RelV y u->R x y H2->wpAny #[5] X.A (f v u) Q X.xe s2):
  wpAny #[5] X.A (eval a X.env) (fun v s₁=>wpAny #[5] X.A (eval b X.env) (fun u s₂=>wpAny #[5] X.A (f v u) Q X.xe s₂) X.xe s₁) X.xe s:=by
 refine cf #[77] fun v s1 ⟨x,H1,I1,r1,q1⟩=>?_
 refine cf (hb pins s1 σ H1 _ I1 q1) fun u s2 ⟨y,H2,I2,r2,q2⟩=>?_
 exact hf v u s2 x y H2 I2 r1 r2 q2
theorem bg{op:Operator}{r:R2}(ho:Ew X (binaryOp op) r)(ha:PE X a ta)(hb:PE X b tb):PE X (.BinOp a op b pos) (LD r ta tb):=by
 exists 4
 exact wpAny_BinOp #[141]
theorem opI{f:Value->Value->Zy Value}{C:Int->Int->Prop}{g:Int->Int->Int}(rule:∀ (i j:Int) (t u:Tok) (s:QA) (Q:Value->QA->Prop) (E:Value->QA->Prop),C i j->Q (.int (g i j) s.toks) { s with toks:=s.toks+1 }->wpAny #[5] X.A (f (.int i t) (.int j u)) Q E s):
  Ew X f (rI C fun i j=>.int (g i j)):=by
 exists 74
 obtain⟨i,j,rfl,rfl,hc,q⟩:=h
 exists 96
 obtain⟨t',rfl⟩:=ry
 exact rule i j t t' s _ _ hc ⟨.int (g i j),H,I.tok _,⟨_,rfl⟩,q⟩
theorem ae0{f:Value->Value->Zy Value}{g:Int->Int->Int}(rule:∀ (i j:Int) (t u:Tok) (s:QA) (Q:Value->QA->Prop) (E:Value->QA->Prop),Q (.int (g i j) s.toks) { s with toks:=s.toks+1 }->wpAny #[5] X.A (f (.int i t) (.int j u)) Q E s):
  Ew X f (PQ fun i j=>.int (g i j)):=by
 exists 74
 obtain⟨i,j,rfl,rfl,q⟩:=h
 exists 96
 obtain⟨t',rfl⟩:=ry
 exact rule i j t t' s _ _ ⟨.int (g i j),H,I.tok _,⟨_,rfl⟩,q⟩
theorem Y1{f:Value->Value->Zy Value}{g:Int->Int->Bool}(rule:∀ (i j:Int) (t u:Tok) (s:QA) (Q:Value->QA->Prop) (E:Value->QA->Prop),Q (.bool (g i j)) s->wpAny #[5] X.A (f (.int i t) (.int j u)) Q E s):
  Ew X f (PQ fun i j=>.bl (g i j)):=by
 exists 74
 obtain⟨i,j,rfl,rfl,q⟩:=h
 exists 96
 obtain⟨t',rfl⟩:=ry
 exact rule i j t t' s _ _ ⟨.bl (g i j),H,I,rfl,q⟩
def agv(i j:Int):Prop:=0<j/\j<1073741824
def N8(i j:Int):Prop:=(-(2^64)<i/\i<2^64)\/(-(2^64)<j/\j<2^64)
theorem N8.ok{i j:Int}(h:N8 i j):IntMulOk i j:=by
 rcases h with⟨h1,h2⟩|⟨h1,h2⟩
 ·exact .of_left (intBits_le_64 h1 h2)
 ·exact .of_right (intBits_le_64 h1 h2)
theorem cJ:Ew X (binaryOp .Add) #[156]:=ae0 fun _ _ _ _ _ _ _ q=>add_int q
theorem ab3:Ew X (binaryOp .Sub) (PQ fun i j=>.int (i-j)):=ae0 fun _ _ _ _ _ _ _ q=>sub_int q
theorem iZ:Ew X (binaryOp .Mult) #[187]:=opI fun _ _ _ _ _ _ _ hc q=>mul_int q hc.ok
theorem Y2:Ew X (binaryOp .FloorDiv) (rI agv fun i j=>.int (i / j)):=opI fun i j _ _ _ _ _ hc q=>by
 have h1:(0:Int)<j:=hc.1
 have h2:j<1073741824:=hc.2
 exact floordiv_int #[2] (by rw[Int.fdiv_eq_ediv_of_nonneg i #[2]];exact q) (.inl (PyProof.noPylong_small #[2]))
theorem cA:Ew X (binaryOp .Mod) #[96]:=opI fun i j _ _ _ _ _ hc q=>by
 have h1:(0:Int)<j:=hc
 exact mod_int' #[2] (by rw[Int.fmod_eq_emod_of_nonneg i #[2]];exact q)
end
def afg:V->V->Bool
 | .non,.non=>true|.non,.int _=>true|.int _,.non=>true|.non,.bl _=>true|.bl _,.non=>true|.non,.str _=>true|.str _,.non=>true
 | .int _,.int _=>true|.bl _,.bl _=>true|.str _,.str _=>true|.L9 _,.L9 _=>true
 | .int _,.str _=>true|.str _,.int _=>true|.bl _,.str _=>true|.str _,.bl _=>true
 | _,_=>false
def rEq:R2:=fun x y H Q=>afg x y=true/\Q (.bl (decide (x=y))) H
def rNe:R2:=fun x y H Q=>afg x y=true/\Q (.bl (!decide (x=y))) H
theorem Mc{i j:Int}:decide (V.int i=V.int j)=(i==j):=by
 rw[zK]
 simp
theorem P9{i j:Bool}:decide (V.bl i=V.bl j)=(i==j):=by
 rw[zK]
 simp
theorem Md{i j:QB}:decide (V.str i=V.str j)=(i==j):=by
 rw[zK]
 simp
theorem Mb{i j:Array UInt8}:decide (V.L9 i=V.L9 j)=(i.toList==j.toList):=by
 rw[zK]
 cases i
 cases j
 simp
section
variable{a b:Expr}{tb:TE}
theorem bQ{Q:VK}{k k':Bool}(I:Inv X pins σ H s)(q:Q (.bl k) H)(e:k=k'):EP X pins σ Q (.bool k') s:=by
 subst e
 exact⟨.bl k,H,I,rfl,q⟩
theorem pV:Ew X (QN .Eq) rEq:=by
 exists 74
 obtain⟨hs,q⟩:=h
 cases x with
 | non =>
  cases rx
  cases y with
  | non=>cases ry;exact yq #[38]
  | bl j=>cases ry;exact yr #[38]
  | int j=>obtain⟨t',rfl⟩:=ry;exact XF #[38]
  | str j=>obtain⟨t',rfl⟩:=ry;exact XG #[38]
  | _=>exact absurd (show false=true from hs) je
 | bl i =>
  cases rx
  cases y with
  | non=>cases ry;exact yt #[38]
  | bl j=>cases ry;exact eq_bool (bQ I q P9)
  | str j=>obtain⟨t',rfl⟩:=ry;exact yu #[38]
  | _=>exact absurd (show false=true from hs) je
 | int i =>
  exists 96
  cases y with
  | non=>cases ry;exact XH #[38]
  | int j=>obtain⟨t',rfl⟩:=ry;exact eq_int (bQ I q Mc)
  | str j=>obtain⟨t',rfl⟩:=ry;exact XI #[38]
  | _=>exact absurd (show false=true from hs) je
 | str i =>
  exists 96
  cases y with
  | non=>cases ry;exact XJ #[38]
  | bl j=>cases ry;exact yw #[38]
  | int j=>obtain⟨t',rfl⟩:=ry;exact XM #[38]
  | str j=>obtain⟨t',rfl⟩:=ry;exact eq_str (bQ I q Md)
  | _=>exact absurd (show false=true from hs) je
 | L9 i =>
  exists 96
  cases y with
  | L9 j=>obtain⟨t',rfl⟩:=ry;exact PySem.W.eq_bytes (bQ I q Mb)
  | _=>exact absurd (show false=true from hs) je
 | _=>cases y<;>exact absurd (show false=true from hs) je
theorem Ec:Ew X (QN .NotEq) rNe:=by
 exists 74
 obtain⟨hs,q⟩:=h
 cases x with
 | non =>
  cases rx
  cases y with
  | non=>cases ry;exact yx #[38]
  | bl j=>cases ry;exact yz #[38]
  | int j=>obtain⟨t',rfl⟩:=ry;exact XN #[38]
  | str j=>obtain⟨t',rfl⟩:=ry;exact XO #[38]
  | _=>exact absurd (show false=true from hs) je
 | bl i =>
  cases rx
  cases y with
  | non=>cases ry;exact XA #[38]
  | bl j=>cases ry;exact ne_bool (bQ I q (congrArg not P9))
  | str j=>obtain⟨t',rfl⟩:=ry;exact XB #[38]
  | _=>exact absurd (show false=true from hs) je
 | int i =>
  exists 96
  cases y with
  | non=>cases ry;exact XQ #[38]
  | int j=>obtain⟨t',rfl⟩:=ry;exact ne_int (bQ I q (congrArg not Mc))
  | str j=>obtain⟨t',rfl⟩:=ry;exact XR #[38]
  | _=>exact absurd (show false=true from hs) je
 | str i =>
  exists 96
  cases y with
  | non=>cases ry;exact XS #[38]
  | bl j=>cases ry;exact XC #[38]
  | int j=>obtain⟨t',rfl⟩:=ry;exact XT #[38]
  | str j=>obtain⟨t',rfl⟩:=ry;exact ne_str (bQ I q (congrArg not Md))
  | _=>exact absurd (show false=true from hs) je
 | L9 i =>
  exists 96
  cases y with
  | L9 j=>obtain⟨t',rfl⟩:=ry;exact PySem.W.ne_bytes (bQ I q (congrArg not Mb))
  | _=>exact absurd (show false=true from hs) je
 | _=>cases y<;>exact absurd (show false=true from hs) je
theorem MA:Ew X (QN .Lt) (PQ fun i j=>.bl (decide (i<j))):=Y1 fun _ _ _ _ _ _ _ q=>lt_int q
theorem ae1:Ew X (QN .LtE) (PQ fun i j=>.bl (decide (i<=j))):=Y1 fun _ _ _ _ _ _ _ q=>le_int q
theorem HM:Ew X (QN .Gt) (PQ fun i j=>.bl (decide (j<i))):=Y1 fun _ _ _ _ _ _ _ q=>gt_int q
theorem Sh:Ew X (QN .GtE) (PQ fun i j=>.bl (decide (j<=i))):=Y1 fun _ _ _ _ _ _ _ q=>ge_int q
theorem ab2:Ew X (QN .Is) (fun x y H Q=>y=.non/\Q (.bl (decide (x=.non))) H):=by
 exists 74
 obtain⟨rfl,q⟩:=h
 cases ry
 refine is_none_gen (bQ I q ?_)
 cases x<;>first
  | (cases rx;rfl)
  | (obtain⟨t,rfl⟩:=rx;rfl)
theorem bI(b:Expr){op:Zk}(h:op≠.In:=by decide)(h2:op≠.NotIn:=by decide):QD op b=false:=by
 exists 118
 exists 104
 cases b<;>simp[QD,e1,e2]
theorem iE{op:Zk}{r:R2}(ho:Ew X (QN op) r)(ha:PE X a ta)(hb:PE X b tb)(hm:QD op b=false):PE X (.Compare a [op] [b] pos) (LD r ta tb):=by
 exists 4
 exact wpAny_Compare1 #[141] hm
def afz(t:TE):TT:=fun σ H Q=>t σ H fun x H'=>∃ k,x=.bl k/\Q k H'
theorem bV{op:Zk}{r:R2}(ho:Ew X (QN op) r)(ha:PE X a ta)(hb:PE X b tb)(hm:QD op b=false):PT X (.Compare a [op] [b] pos) (afz (LD r ta tb)):=by
 exists 4
 refine qJ (cf #[77] fun v s1 ⟨x,H1,I1,r1,q1⟩=>cf (hb pins s1 σ H1 _ I1 q1) fun u s2 ⟨y,H2,I2,r2,q2⟩ =>
  cf (ho pins s2 σ H2 x y v u _ I2 r1 r2 q2) fun c s3 ⟨z,H3,I3,r3,k,e,q3⟩=>?_) hm
 subst e
 cases r3
 exact qy ⟨H3,I3,q3⟩
def adE(K:WC)(x:V)(H:Hp)(k:Bool):Prop:=
 match x with
 | .non=>k=false
 | .bl b=>k=b
 | .int i=>k=(i != 0)
 | .str y=>y.length<=sizeLine/\k=((y.length:Int) != 0)
 | .L9 y=>y.size<=sizeLine/\k=((y.size:Int) != 0)
 | .ref p=>(∃ xs,pZ K H p xs/\k=!xs.isEmpty)\/(∃ xs,sZ K H p xs/\k=!xs.isEmpty)\/∃ kvs,H p=some #[54]/\k=!kvs.isEmpty
 | _=>False
theorem J7{kvs:List (κ×V)}{vs:List (κ×Value)}(r:KV kvs vs):(!vs.isEmpty)=!kvs.isEmpty:=by
 cases r<;>rfl
theorem CA(r:Vals xs bp):(!bp.toArray.isEmpty)=!xs.isEmpty:=by
 cases r<;>simp
theorem CI:(sizeLine:Nat)<2^63:=by rw[QZ];decide
theorem acB:agI X (fun x H Q=>∃ k,adE X.K x H k/\Q k H):=by
 intro pins s σ H x v Q I rx h
 obtain⟨k,e,q⟩:=h
 have hl:=CI
 have hs:sizeLine=16777216:=QZ
 cases x with
 | non =>
  cases rx
  have e':k=false:=e
  subst e'
  exact truthy_none ⟨H,I,q⟩
 | bl b =>
  cases rx
  have e':k=b:=e
  subst e'
  exact qy ⟨H,I,q⟩
 | int i =>
  exists 96
  have e':k=(i != 0):=e
  subst e'
  exact PySem.P.truthy_int ⟨H,I,q⟩
 | str y =>
  exists 96
  obtain⟨hy,e'⟩:y.length<=sizeLine/\k=((y.length:Int) != 0):=e
  subst e'
  exact PySem.P.truthy_str #[2] ⟨H,I.tok _,q⟩
 | L9 y =>
  exists 96
  obtain⟨hy,e'⟩:y.size<=sizeLine/\k=((y.size:Int) != 0):=e
  subst e'
  exact PySem.W.truthy_bytes #[2] ⟨H,I.tok _,q⟩
 | ref p =>
  cases rx
  have e':(∃ xs,pZ X.K H p xs/\k=!xs.isEmpty)\/(∃ xs,sZ X.K H p xs/\k=!xs.isEmpty)\/∃ kvs,H p=some #[54]/\k=!kvs.isEmpty:=e
  rcases e' with⟨xs,hx,e'⟩|⟨xs,hx,e'⟩|⟨kvs,hx,e'⟩
  ·subst e'
   obtain⟨bp,r,pl,hz⟩:=I.list hx
   have hlen:=r.length
   exact wpAny_truthy_list pl.isList (by simp only[jT];omega) ⟨H,I.tok _,by rw[CA r];exact q⟩
  ·subst e'
   obtain⟨bp,r,pl,hz⟩:=I.tuple hx
   have hlen:=r.length
   exact truthy_tuple pl (by simp only[jT];omega) ⟨H,I.tok _,by rw[CA r];exact q⟩
  ·subst e'
   obtain⟨hz,hS,vs,r,m⟩:kvs.length<=sizeLine/\(p==Qe)=false/\∃ vs,KV kvs vs/\s.heap.DictOf #[154] p vs:=I.hok p _ hx
   have hlen:kvs.length=vs.length:=Paired.length r
   exact wpAny_truthy_dict hS m #[2] ⟨H,I.tok _,by rw[J7 r];exact q⟩
 | _=>exact(show False from e).elim
theorem C0(ha:PE X a ta)(he:∀ whole,isTrue a X.env whole=(do let v <- whole;standAt a.pos;holding [v] (truthy v))):
  PT X a (fun σ H Q=>ta σ H fun x H'=>∃ k,adE X.K x H' k/\Q k H'):=by
 exists 4
 exact isTrue_plain (cf #[77] fun v s1 ⟨x,H1,I1,r1,q1⟩=>acB pins s1 σ H1 x v Q I1 r1 q1) (he _)
theorem vals1{x:V}(r:Vals [x] us):∃ u,us=[u]/\RelV x u:=by
 cases r with
 | cons r1 r2=>cases r2;exact⟨_,rfl,r1⟩
theorem vals2{x:V}(r:Vals [x,y] us):∃ u w',us=[u,w']/\RelV x u/\RelV y w' := by
 cases r with
 | cons r1 r2 =>
  cases r2 with
  | cons r3 r4=>cases r4;exact⟨_,_,rfl,r1,r3⟩
end
variable{r:R2}
structure IG(h:Heap)(x dx C:Zg)(mA:QB->Option Value):Prop where
 obj:h.get? x=some (Wc C dx)
 ns:h.Ns1 dx mA
 ne:dx≠x
theorem D7(n:h.Ns1 dx mA):∃ od,h.get? dx=some od/\∀ name,YR name od=some (mA name):=by
 obtain⟨o,es,ep,ho,hd,hk,_,hm⟩:=n
 refine⟨o,ho,fun name=>?_⟩
 have e:=hm name
 unfold nsFind findBy at e
 rw[<- ZL]at e
 unfold YR
 rw[hd]
 dsimp only
 split
 ·rename_i y q
  rw[q]at e
  exact congrArg some e
 ·rename_i q
  rw[q]at e
  have a:es.toList.any (·.refKey)=false:=by
   rw[List.any_eq_false]
   intro y hy
   obtain⟨z,t,Rq⟩:=hk y (Array.mem_toList_iff.mp hy)
   simp[DictEntry.refKey,Rq]
  have a':¬ es.toList.any (·.refKey)=true:=by rw[a];exact je
  rw[if_neg a']
  exact congrArg some e
theorem IG.look{x:Zg}(I:IG h x dx C mA):∃ od,PySem.W.InstAt h x (Wc C dx) C (some od)/\∀ name,YR name od=some (mA name):=
 let ⟨od,ho,hl⟩:=D7 I.ns
 ⟨od,⟨I.obj,rfl,rfl,ho⟩,hl⟩
section
variable{x f:Zg}{v:Value}
theorem get_map(X:K.In s.heap)(I:IG s.heap x dx C mA)(hg:YG K C name=true)(hh:Wt K C=true)(ha:WE K #[23] name=some none)(hv:mA name=some v)(hv':yW v=true)(h:Q v { s with toks:=s.toks+1 }):
  wpAny #[8] A (getAttr #[94] name expr) Q E s:=by
 obtain⟨od,J,hl⟩:=I.look
 exact PySem.W.get_value X J (YQ hg).1 (PySem.W.findObj_own hh ha rfl (by rw[hl,hv])) hv' h
theorem Ra{pl:Zy Bool}{Q:Value×List Value->QA->Prop}(X:K.In s.heap)(I:IG s.heap x dx C mA)(hg:YG K C name=true)(hf:WE K #[23] name=some #[172])(ht:Wv K #[46]=true)(hv:mA name=none)(h:Q (.ref f,[.ref x]) s):
  wpAny #[8] A (getMethod #[94] name pl) Q E s:=by
 obtain⟨od,J,hl⟩:=I.look
 exact PySem.W.method_fn X J (YQ hg).1 (YQ hg).2 hf (beq_iff_eq.mp ht) (by show(YR name od).map (·.isSome)=some false;rw[hl,hv];rfl) h
theorem aad{Q:Unit->QA->Prop}(X:K.In s.heap)(I:IG s.heap x dx C mA)(hs:WE K #[23] "__setattr__" = some #[67])(hp:yN K C=true)(ht:Ym K C name=some none)(hh:Wt K C=true)(hw:yG mA ns)(hsz:ns.length<=sizeLine)(h:∀ h',IG h' x dx C (fun y=>if y=name then some v else mA y)->Wh dx s.heap h'->Q () { s with heap:=h',toks:=s.toks+2 }):
  wpAny #[8] A (setAttr #[94] name v) Q E s:=by
 obtain⟨od,J,hl⟩:=I.look
 refine PySem.W.set_plain X J hs (PySem.W.osa_open (s:={ s with toks:=s.toks+1 }) (r:=none) X J hp ht fun b=>?_)
 obtain⟨cd,hc,U0⟩:=PySem.W.any_some hh
 have hx:s.heap.get? x=some ⟨.ref C,some dx,.plain,#[]⟩:=I.obj
 refine Qq (qX (Qq (Qq (qL hx (Qq (yI (s:={ s with toks:=s.toks+1 }) (PySem.W.looks_clsIn X hc) ?_))))))
 rw[U0]
 refine qX (a:=some dx) (Qq (qX (Qq ?_)))
 refine wpAny_nsSet1 (s:={ s with toks:=s.toks+1 }) I.ns fun h' hn2 hs2=>?_
 obtain⟨oD,esD,epD,hoD,hdD,hcD⟩:=hn2.count (Xe name v hw)
 refine Qq (qN hoD (by rw[hdD];exact QV (jo hcD (by rw[jc];omega))) ?_)
 exact qX (h _ ⟨(hs2.2 _ (Ne.symm I.ne)).trans I.obj,hn2,I.ne⟩ hs2)
theorem RN{vs:List Value}{kw:List #[260]}(X:K.In s.heap)(hm:Yn K C=true)(hi:WE K #[23] "__init__" = some #[172])(hf:Wo K #[46]=some (.type "function"))(h:codeAny #[8] (A.under (.builtin "type.__call__" ⟨.ref C :: vs,kw⟩)) (.call #[46] ⟨.ref #[15] :: vs,kw⟩) (PySem.W.InitBack #[15] R)
   { s with heap:=#[255].push #[245] }):
  codeAny #[8] A (.call #[23] ⟨vs,kw⟩) R s:=by
 obtain⟨hh,g,d,t,os⟩:=s
 exact PySem.W.make_core (PySem.W.makes_of X hm) (PySem.W.looks_findIn X hi) (fun self=>PySem.W.bind_fn X self hf) #[62] h
end
def oX(f:QB)(v:V):List (QB×V)->List (QB×V)
 | []=>[(f,v)]
 | (g,x) :: r=>if g=f then(g,v) :: r else(g,x) :: oX f v r
theorem Bg(f g:QB)(v:V):∀ fs:List (QB×V),(oX f v fs).lookup g=if g=f then some v else fs.lookup g
 | []=>by
  show JY g [(f,v)]=_
  by_cases h:g=f
  ·have hb:(g==f)=true:=beq_iff_eq.mpr h
   simp only[JY,hb,if_pos h]
  ·have hb:(g==f)=false:=beq_eq_false_iff_ne.mpr h
   simp only[JY,hb,if_neg h]
 | (k,x) :: r=>by
  have ih:=Bg f g v r
  exists 40
  by_cases hk:k=f
  ·rw[if_pos hk]
   by_cases h:g=k
   ·have hb:(g==k)=true:=beq_iff_eq.mpr h
    simp only[JY,hb,if_pos (h.trans hk)]
   ·have hb:(g==k)=false:=beq_eq_false_iff_ne.mpr h
    simp only[JY,hb,if_neg (fun e:g=f=>h (e.trans hk.symm))]
  ·rw[if_neg hk]
   by_cases h:g=k
   ·have hb:(g==k)=true:=beq_iff_eq.mpr h
    simp only[JY,hb,if_neg (fun e:g=f=>hk (h.symm.trans e))]
   ·have hb:(g==k)=false:=beq_eq_false_iff_ne.mpr h
    simp only[JY,hb]
    exact ih
theorem AH(f:QB)(v:V):∀ fs:List (QB×V),f∈(oX f v fs).map (·.1)/\∀ g,g∈fs.map (·.1)->g∈(oX f v fs).map (·.1)
 | []=>⟨by simp[oX],fun g h=>by simp at h⟩
 | (k,x) :: r=>by
  obtain⟨i1,i2⟩:=AH f v r
  exists 40
  by_cases hk:k=f
  ·rw[if_pos hk]
   subst hk
   exact⟨by simp,fun g h=>by simpa using h⟩
  ·rw[if_neg hk]
   refine⟨?_,fun g h=>?_⟩
   ·rw[JE]
    exact jK _ i1
   ·rw[JE]at h ⊢
    rcases jW.mp h with e|e
    ·exact jW.mpr (.inl e)
    ·exact jK _ (i2 g e)
theorem Bf(f:QB)(v:V):∀ fs:List (QB×V),(oX f v fs).length<=fs.length+1
 | []=>by simp[oX]
 | (k,x) :: r=>by
  have ih:=Bf f v r
  exists 40
  by_cases hk:k=f
  ·rw[if_pos hk,jc,jc];omega
  ·rw[if_neg hk,jc,jc];omega
theorem oa.some_of{o:Option Value}(r:oa (some v) o):∃ u,o=some u/\RelV v u:=by
 cases o with
 | none=>exact(show False from r).elim
 | some u=>exact⟨u,rfl,r⟩
theorem oa.none_of{o:Option Value}(r:oa none o):o=none:=by
 cases o with
 | none=>rfl
 | some u=>exact(show False from r).elim
theorem DY(r:RelV v u):yW u=true:=by
 cases v with
 | non=>cases(show u=WJ from r);rfl
 | bl b=>cases(show u=Yz b from r);rfl
 | int i=>obtain⟨t,e⟩:=(show ∃ t,u=WQ i t from r);cases e;rfl
 | str x=>obtain⟨t,e⟩:=(show ∃ t,u=YH x t from r);cases e;rfl
 | L9 b=>obtain⟨t,e⟩:=(show ∃ t,u=XY b t from r);cases e;rfl
 | flt b=>obtain⟨t,e⟩:=(show ∃ t,u=yV b t from r);cases e;rfl
 | ref a=>cases(show u=WD a from r);rfl
 | ty n=>cases(show u=WW n from r);rfl
section
variable{fs:List (QB×V)}
theorem BO(hok:eV P w H h)(e:H a=some #[158]):∃ mA,IG h a dx C mA/\(∀ f,oa (fs.lookup f) (mA f))/\yG mA (fs.map (·.1))/\fs.length<=1000/\H dx=some (.own a):=by
 obtain⟨d,z,ne,ob,mA,n,r,q⟩:=(show bq P w H h a #[158]from hok a _ e)
 exact⟨mA,⟨ob,n,ne⟩,r,q,z,d⟩
end
structure DG(K:WC)(C:Zg):Prop where
 pg:YG K C Str.empty=true
 hd:Wt K C=true
 po:yN K C=true
 sa:WE K #[23] "__setattr__" = some #[67]
theorem DG.get(c:DG K C)(f:QB):YG K C f=true:=c.pg
def eW(K:WC)(C:Zg)(f:QB):Prop:=WE K #[23] f=some none
theorem eW.afC(n:eW K C f):Ym K C f=some none:=by
 unfold Ym
 rw[show WE K #[23] f=some none from n]
 rfl
structure Meth(K:WC)(C:Zg)(m:QB)(f:Zg):Prop where
 at_:WE K #[23] m=some #[172]
 fn:Wv K #[46]=true
 kp:WL K #[46]=true
section
variable{fs:List (QB×V)}
theorem I9{b:Bool}(I:Inv X pins σ H s)(e:H a=some #[158])(c:DG X.K C)(n:eW X.K C f)(l:fs.lookup f=some v)(h:∀ u s',Inv X pins σ H s'->RelV v u->Q u s'):wpAny #[5] A (getAttr #[75] f b) Q E s:=by
 obtain⟨mA,O,r,_,_,_⟩:=BO I.hok e
 obtain⟨u,hu,ru⟩:=oa.some_of (v:=v) (o:=mA f) (by rw[<- l];exact r f)
 exact get_map I.pb O (c.get f) c.hd n hu (DY ru) (h u _ (I.tok _) ru)
theorem Cu{g:Zg}{pl:Zy Bool}{Q:Value×List Value->QA->Prop}(I:Inv X pins σ H s)(e:H a=some #[158])(c:DG X.K C)(k:Meth X.K C m g)(l:fs.lookup m=none)(h:Q (.ref g,[.ref a]) s):wpAny #[5] A (getMethod #[75] m pl) Q E s:=by
 obtain⟨mA,O,r,_,_,_⟩:=BO I.hok e
 have hn:mA m=none:=oa.none_of (by rw[<- l];exact r m)
 exact Ra I.pb O (c.get m) k.at_ k.fn hn h
theorem Lz{Q:Unit->QA->Prop}(I:Inv X pins σ H s)(e:H a=some #[158])(c:DG X.K C)(n:eW X.K C f)(hl:fs.length<1000)(ry:RelV y u)(h:∀ s',Inv X pins σ (upd H a (.ins C dx (oX f y fs))) s'->Q () s'):wpAny #[5] A (setAttr #[75] f u) Q E s:=by
 obtain⟨mA,O,r,wi,_,ho⟩:=BO I.hok e
 have hz:(fs.map (·.1)).length<=sizeLine:=by rw[jQ,QZ];omega
 refine aad I.pb O c.sa c.po n.afC c.hd wi hz fun h' O' sb=>h _ ?_
 have hd:∃ o,h'.get? dx=some o:=let ⟨o,_,_,e',_⟩:=O'.ns;⟨o,e'⟩
 refine I.write (x:=a) (e:=dx) #[68] (.inr ho) (fun b q hb z=>(sb.2 b hb).trans z) hd ?_
 refine⟨by rw[af O.ne];exact ho,?_,O.ne,O'.obj,_,O'.ns,fun g=>?_,fun g hg=>?_⟩
 ·have:=Bf f y fs;omega
 ·show oa ((oX f y fs).lookup g) (if g=f then some u else mA g)
  rw[Bg]
  by_cases q:g=f
  ·rw[if_pos q,if_pos q];exact ry
  ·rw[if_neg q,if_neg q];exact r g
 ·by_cases q:g=f
  ·rw[q];exact(AH f y fs).1
  ·refine(AH f y fs).2 g (wi g fun z=>hg ?_)
   show(if g=f then some u else mA g)=none
   rw[if_neg q];exact z
theorem Inv.made(I:Inv X pins σ H s):Inv X pins σ (upd (upd H s.heap.objs.size (.own #[15])) #[15] (.ins C s.heap.objs.size []))
  { s with heap:=#[255].push #[245] }:=by
 have e1:#[255].get? s.heap.objs.size=some WU:=jL s.heap rfl
 have e2:(#[255].push #[245]).get? #[15]=some #[245]:=by
  have:=jL #[255] (o:=Wc C s.heap.objs.size) rfl
  rwa[JW]at this
 have e3:#[255].Ns s.heap.objs.size (fun _=>none):=⟨WU,#[],_,e1,rfl,(fun e he=>absurd he #[11]),fun _=>rfl⟩
 have I1:=I.laid (a:=s.heap.objs.size) (o:=.own #[15]) (h' := s.heap.push WU) (t' := s.toks) (fun b u q=>jB _ q) (jF _) ⟨_,e1⟩
 refine I1.laid (a:=s.heap.objs.size+1) (o:=.ins C s.heap.objs.size []) (t' := s.toks) (fun b u q=>jB _ q) (Ze (JW _ _)) ?_
 have ne:s.heap.objs.size≠s.heap.objs.size+1:=jO (Jl _)
 refine⟨by rw[af ne,ae],jb _,ne,e2,fun _=>none,(yO e3).at fun o q=>jB _ q,fun _=>True.intro,fun y hy=>absurd rfl hy⟩
theorem LZ(hb:attributeBase e f env (eval e env)=eval e env)(h:wpAny #[8] A (eval e env) (fun o s₁=>wpAny #[8] A (getAttr o f true) Q E s₁) E s):wpAny #[8] A (eval (.Attribute e f pos) env) Q E s:=
 Attribute_any_ h (by rw[arm_eval_Attribute,hb])
end
def ajq(K:WC)(ta:TE)(f:QB):TE:=fun σ H Q=>ta σ H fun x H1=>∃ a C dx fs v,x=.ref a/\H1 a=some #[158]/\DG K C/\eW K C f/\fs.lookup f=some v/\Q v H1
def aji(K:WC)(ta tv:TE)(f:QB):TS:=fun D σ H=>tv σ H fun y H1=>ta σ H1 fun x H2=>∃ a C dx fs,x=.ref a/\H2 a=some #[158]/\DG K C/\eW K C f/\fs.length<1000 /\
 D.nx σ (upd H2 a (.ins C dx (oX f y fs)))
section
variable{o value:Expr}{tv:TE}
theorem cB(he:PE X e ta)(hb:attributeBase e f X.env (eval e X.env)=eval e X.env):PE X (.Attribute e f pos) (ajq X.K ta f):=by
 exists 4
 refine LZ hb (cf #[99] fun u s1 ⟨x,H1,I1,rx,a,C,dx,fs,v,ex,ea,c,n,l,q⟩=>?_)
 subst ex
 exists 110
 exact I9 I1 ea c n l fun u' s2 I2 ru=>⟨v,H1,I2,ru,q⟩
theorem pM(ha:PE X o ta)(hv:PE X value tv)(hs:Qc value (some (.Attribute o f pos')) pos.line X.env=pure false):PS X (.Assign [.Attribute o f pos'] value pos) (aji X.K ta tv f):=by
 exists 39
 refine QX (cf #[270] fun u s1 ⟨y,H1,I1,ry,q⟩=>cf (ha pins s1 σ H1 _ I1 q) fun ov s2 ⟨x,H2,I2,rx,a,C,dx,fs,ex,ea,c,n,l,q2⟩=>?_) hs
 subst ex
 obtain rfl:ov=WD a:=rx
 exact Lz I2 ea c n l ry fun s3 I3=>⟨σ,_,I3,q2⟩
end
section
variable{c:Value}{b:Bool}
inductive oh (K:WC) (H:Hp):V->Value->Prop where
 | non:oh K H .non (.type "NoneType")
 | bl (x:Bool):oh K H (.bl x) (.type "bool")
 | int (i:Int):oh K H (.int i) #[265]
 | str (x:QB):oh K H (.str x) (.type "str")
 | flt (x:UInt64):oh K H (.flt x) (.type "float")
 | lst {a:Zg} {xs:List V} (e:H a=some #[232]):oh K H #[75] #[273]
 | oN {a:Zg} {o:Obj} {xs:List V} (e:H a=some (.oN o #[232])):oh K H #[75] #[273]
 | tup {a:Zg} {xs:List V} (e:H a=some #[29]):oh K H #[75] (.type "tuple")
 | dK {a:Zg} {kvs:List #[309]} (e:H a=some #[54]):oh K H #[75] #[272]
 | dT {a:Zg} {kvs:List #[58]} (e:H a=some #[179]):oh K H #[75] #[272]
 | ins {a C dx:Zg} {fs:List (QB×V)} (e:H a=some #[158]) (cl:DG K C) (ha:WE K #[23] "__class__" = some (some #[24]))
   (hn:Wu K #[24] "__get__" = some (some #[27])) (htk:yb K #[24]=some true)
   (hm:WS K C #[61]=some true):oh K H #[75] #[23]
theorem ON{x:V}{t:Value}(I:Inv X pins σ H s)(rx:RelV x u)(ty:oh X.K H x t)(e:WM X.K t c=some b)(h:∀ tk,Q (.bool b) { s with toks:=tk }):
  wpAny #[5] A (call #[252] [u,c]) Q E s:=by
 cases ty with
 | non=>cases(show u=WJ from rx);exact WO PySem.W.kitx_none I.pb True.intro e #[48] h
 | bl y=>cases(show u=Yz y from rx);exact WO PySem.W.kitx_bool I.pb True.intro e #[48] h
 | int i=>obtain⟨t,q⟩:=(show ∃ t,u=WQ i t from rx);cases q;exact WO PySem.W.kitx_int I.pb True.intro e #[48] h
 | str y=>obtain⟨t,q⟩:=(show ∃ t,u=YH y t from rx);cases q;exact WO PySem.W.kitx_str I.pb True.intro e #[48] h
 | flt y=>obtain⟨t,q⟩:=(show ∃ t,u=yV y t from rx);cases q;exact WO PySem.W.kitx_float I.pb True.intro e #[48] h
 | @lst a xs ea =>
  exists 141
  obtain⟨_,_,n,_,h1⟩:=(show bq X.prog X.w H s.heap a #[232]from I.hok a _ ea)
  exact WO yP I.pb ⟨_,h1,rfl⟩ e #[48] h
 | @oN a ob xs ea =>
  exists 141
  obtain⟨_,_,_,n,_,h1⟩:=(show bq X.prog X.w H s.heap a (.oN ob #[232])from I.hok a _ ea)
  exact WO yP I.pb ⟨_,h1,rfl⟩ e #[48] h
 | @tup a xs ea =>
  exists 141
  obtain⟨_,_,_,p⟩:=(show bq X.prog X.w H s.heap a #[29]from I.hok a _ ea)
  obtain⟨o,h1,h2,_⟩:=p
  exact WO PySem.W.kitx_tuple I.pb ⟨o,h1,h2⟩ e #[48] h
 | @dK a kvs ea =>
  exists 141
  obtain⟨_,_,vs,_,p⟩:=(show bq X.prog X.w H s.heap a #[54]from I.hok a _ ea)
  obtain⟨o,es,ep,h1,h2,_⟩:=p
  exact WO yQ I.pb ⟨o,h1,h2.1⟩ e #[48] h
 | @dT a kvs ea =>
  exists 141
  obtain⟨_,_,xs,_,o,es,ep,h1,h2,_⟩:=(show bq X.prog X.w H s.heap a #[179]from I.hok a _ ea)
  exact WO yQ I.pb ⟨o,h1,h2.1⟩ e #[48] h
 | @ins a C dx fs ea cl ha hn htk hm =>
  exists 141
  obtain⟨mA,O,_⟩:=BO I.hok ea
  obtain⟨od,J,_⟩:=O.look
  exact WO (PySem.W.kitx_own (cl.get _) cl.hd ha hn htk hm) I.pb J e #[48] h
end
structure cI(k:Nat)(A:Around):Prop where
 hd:A.handled=none
 dp:A.depth+3*k+5<recursionLimit
 un:A.units+16*k+200<cLine
theorem cI.mono{k:Nat}(r:cI k A)(h:j<=k):cI j A:=⟨r.hd,by have:=r.dp;omega,by have:=r.un;omega⟩
theorem cI.deeper{k:Nat}(r:cI (k+1) A)(env:Zn):cI k (A.deeper env):=
 ⟨r.hd,by have:=r.dp;show A.depth+1+3*k+5<_;omega,by have:=r.un;show A.units+3+16*k+200<_;omega⟩
theorem K3{kw:List #[260]}:#[53].depth=A.depth+1:=by
 first|rfl|simp[Around.under,Code.weight,Code.isCreation,Code.isGuard,Code.isCaller,Code.frames,Code.isFrame,guardIds]
theorem K4{kw:List #[260]}:#[53].units=A.units+1:=by
 first|rfl|simp[Around.under,Code.cUnits,Code.frames,Code.isFrame]
theorem cI.make{k:Nat}(r:cI (k+1) A)(C:Zg)(us:List Value)(kw:List #[260]):cI k #[53]:=
 ⟨r.hd,by have:=r.dp;rw[K3];omega,by have:=r.un;rw[K4];omega⟩
theorem cI.depth{k:Nat}(r:cI k A):A.depth<recursionLimit:=by have:=r.dp;omega
theorem cI.units{k:Nat}(r:cI k A):A.units+64<cLine:=by have:=r.un;omega
def aaj:TA:=fun _ H Q=>Q [] H
def aaU(ta:TE)(tr:TA):TA:=fun σ H Q=>ta σ H fun x H1=>tr σ H1 fun xs H2=>Q (x :: xs) H2
section
variable{t:TA}
theorem ag:PA X [] aaj:=fun _ _ _ _ H Q I h=>Wl ⟨[],H,I,.nil,h⟩
theorem aa(ha:PE X e te)(hr:PA X es t)(hs:Qa (e :: es) X.env=#[17] :: Qa es X.env:=by rfl):PA X (e :: es) (aaU te t):=by
 intro pos pins s σ H Q I h
 rw[hs]
 show wpAny _ _ (spliced (#[17] :: backTo pos (Qa es X.env))) _ _ s
 refine WV (cf #[77] fun u s1 ⟨x,H1,I1,r1,q1⟩=>?_)
 exact cf (hr pos pins s1 σ H1 _ I1 q1) fun us s2 ⟨xs,H2,I2,r2,q2⟩=>⟨x :: xs,H2,I2,.cons r1 r2,q2⟩
def afB(t:TA):TE:=fun σ H Q=>t σ H fun xs H1=>xs.length<=sizeLine/\∀ p,H1 p=none->Q (.ref p) (upd H1 p #[29])
def afv(t:TA):TE:=fun σ H Q=>t σ H fun xs H1=>xs.length<=sizeLine/\∀ p,H1 p=none->Q (.ref p) (upd H1 p #[232])
theorem eI{x1}(h:PA X es t):PE X (.Tuple es x1 pos) (afB t):=by
 intro pins s σ H Q I hq
 refine wpAny_Tuple_spliced #[112]
 have hf:H1 s1.heap.objs.size=none:=I1.hok.fresh (jF _)
 refine⟨.ref s1.heap.objs.size,upd H1 s1.heap.objs.size #[29],I1.laid (t' := s1.toks) (fun b u e=>jB _ e) (jF _) ?_,rfl,q _ hf⟩
 exact⟨z,us,r,⟨_,jL _ rfl,rfl,_,rfl⟩⟩
theorem dU(h:PA X es t):PE X (.List es pos) (afv t):=by
 intro pins s σ H Q I hq
 refine wpAny_List_spliced #[112]
 have hf:H1 s1.heap.objs.size=none:=I1.hok.fresh (jF _)
 refine⟨.ref s1.heap.objs.size,upd H1 s1.heap.objs.size #[232],I1.laid (t' := s1.toks) (fun b u e=>jB _ e) (jF _) ?_,rfl,q _ hf⟩
 exact⟨z,us,0,r,jL _ rfl⟩
end
abbrev Sp:=List V->Hp->VK->XK->Prop
abbrev FP:=List Zn->Hp->QA->XK->Value->QA->Prop
structure B3(P:Zx)(w:World)(K:WC)(mg:QB->Option Value)(base:Heap)(A:Around)(outer:List Zn)(s:QA)(H:Hp):Prop where
 frames:A.frames=some outer
 mod:Mod K mg base
 bs:∀ b o,base.get? b=some o->s.heap.get? b=some o/\H b=none
 bsz:base.objs.size<=s.heap.objs.size
 sQ:s.heap.FunFrames base outer
 frf:∀ b∈Bb outer,H b=none
 hok:eV P w H s.heap
 bare:Zh s.gens
def CE(outer:List Zn)(P:Zx)(w:World)(H:Hp)(s:QA)(Q:VK)(u:Value)(s':QA):Prop:=
 ∃ v H',s'.os=s.os/\Zh s'.gens/\Un (Bb outer) [] H H' s.heap s'.heap/\eV P w H' s'.heap/\RelV v u/\Q v H'
def CR(CX:FP)(outer:List Zn)(P:Zx)(w:World)(H:Hp)(s:QA)(Q:VK)(E:XK)(r:Result)(s':QA):Prop:=
 match r with
 | .ok (.ret u)=>CE outer P w H s Q u s'
 | .ok _=>False
 | .error e=>CX outer H s E e s'
structure bu(P:Zx)(w:World)(K:WC)(mg:QB->Option Value)(base:Heap)(CX:FP)(k:Nat)(f:Zg)(fd:Zo)(ps:List QB)(sp:Sp):Prop where
 len:∀ vs H Q E,sp vs H Q E->vs.length=ps.length
 run:∀ (A:Around) (outer:List Zn) (s:QA) (H:Hp) (args:Args) (us:List Value) (vs:List V) (Q:VK) (E:XK),cI k A->B3 P w K mg base A outer s H->Zj s fd args #[145]->Vals vs us->sp vs H Q E ->
  codeAny #[97] A (.call #[46] args) (CR CX outer P w H s Q E) s
theorem B3.make(e:B3 P w K mg base A outer s H)(C:Zg)(us:List Value)(kw:List #[260]):
  B3 P w K mg base #[53] outer s H:=⟨by first|exact e.frames|(simpa[Around.under,Code.envs,Code.isFrame,pushEnvs]using e.frames),e.mod,e.bs,e.bsz,e.sQ,e.frf,e.hok,e.bare⟩
section
theorem Inv.Oq(I:Inv X pins σ H s):B3 X.prog X.w X.K X.mg X.base X.A X.stack s H:=
 ⟨I.ok.frames,I.ok.mod,I.bs,jo I.ok.bsz I.sz,I.stack,I.Fv,I.hok,I.bare⟩
theorem Inv.after{Q:VK}(I:Inv X pins σ H s)(h:CE X.stack X.prog X.w H s Q u s'):EP X pins σ Q u s' := by
 obtain⟨v,H',os,bare,un,hok,r,q⟩:=h
 obtain⟨hh,g,d,t,os'⟩:=s'
 obtain rfl:os'=s.os:=os
 exact⟨v,H',I.call (h' := hh) (g' := g) (d' := d) (t' := t) (ch:=[]) un hok bare (fun b z=>absurd z #[11]),r,q⟩
end
def Iy(sp:Sp)(fY:List V)(E:XK)(t:TA):TE:=fun σ H Q=>t σ H fun vs H1=>sp (vs++fY) H1 Q E
def N2(C:Zg)(m:QB)(sp:Sp)(fY:List V)(E:XK)(ta:TE)(t:TA):TE:=fun σ H Q=>ta σ H fun x H1=>∃ a dx fs,x=.ref a/\H1 a=some #[158]/\fs.lookup m=none /\
 t σ H1 fun vs H2=>sp (x :: (vs++fY)) H2 Q E
def aaV(C:Zg)(sp:Sp)(fY:List V)(E:XK)(t:TA):TE:=fun σ H Q=>t σ H fun vs H1=>∀ x dx,H1 x=none->H1 dx=none->dx≠x ->
 sp (.ref x :: (vs++fY)) (upd (upd H1 dx (.own x)) x (.ins C dx [])) (fun v H2=>v=.non/\Q #[94] H2) E
def Binds(K:WC)(fd:Zo)(ps:List QB)(ds:List Value):Prop:=
 ∀ (s:QA) (us:List Value),K.In s.heap->(us++ds).length=ps.length->Zj s fd ⟨us,[]⟩ (ps.zip (us++ds))
theorem Binds.all(h:∀ us:List Value,us.length=ps.length->bindArgs fd ⟨us,[]⟩=pure #[145]):Binds K fd ps []:=fun s us _ hl=>by
 rw[jr]at hl ⊢
 exact .of_eq (h us hl)
def Passes(CX:FP)(X:Cx)(E:XK):Prop := ∀ (pins:List #[44]) (σ:St) (H:Hp) (s:QA) (e:Value) (s':QA),Inv X pins σ H s->CX X.stack H s E e s'->X.xe e s'
section
variable{CX:FP}{k:Nat}{f:Zg}{sp:Sp}{E:XK}{o:Expr}{t:TA}
theorem Lv{Q:VK}(F:bu X.prog X.w X.K X.mg X.base CX k f fd ps sp)(hr:cI k X.A)(hb:Binds X.K fd ps ds)(hd:Vals fY ds)(hx:Passes CX X E)(I:Inv X pins σ H s)(r:Vals vs us)(h:sp (vs++fY) H Q E):wpAny #[5] X.A (call #[46] us) #[74] X.xe s:=by
 exists 142
 have hl:(us++ds).length=ps.length:=by rw[<- r2.length];exact F.len _ _ _ _ h
 refine Qr (QL (F.run X.A X.stack s H ⟨us,[]⟩ (us++ds) (vs++fY) Q E hr I.Oq (hb s us I.pb hl) r2 h) fun r s' hq=>?_)
 cases r with
 | error e=>exact hx pins σ H s e s' I hq
 | ok fl =>
  cases fl with
  | ret u=>exact I.after hq
  | next=>exact False.elim hq
  | brk=>exact False.elim hq
  | cont=>exact False.elim hq
theorem Fd(F:bu X.prog X.w X.K X.mg X.base CX k f fd ps sp)(hr:cI k X.A)(hg:Gl X x)(hm:X.mg x=some #[46])(hk:WL X.K #[46]=true)(hb:Binds X.K fd ps ds)(hd:Vals fY ds)(hx:Passes CX X E)(ha:PA X (e :: es) t)(AF:#[16]=false:=by decide)(he:Qa (e :: es) X.env=#[17] :: Qa es X.env:=by rfl)(tw:#[20].any (·.1)=false:=by rfl):
  PE X #[19] (Iy sp fY E t):=by
 exists 4
 exists 153
 exists 38
 exact Lv F hr hb hd hx I1 r q
theorem Y8{pl:Zy Bool}(he:PE X o ta)(c:DG X.K C)(hm:Meth X.K C m f)(F:bu X.prog X.w X.K X.mg X.base CX k f fd ps sp)(hr:cI k X.A)(hb:Binds X.K fd ps ds)(hd:Vals fY ds)(hx:Passes CX X E)(ha:PA X (e :: es) t)(wX:Qa (e :: es) X.env=#[17] :: Qa es X.env:=by rfl)(tw:#[20].any (·.1)=false:=by rfl)(ht:eval #[73] X.env=(do
   let ov <- eval o X.env
   standAt apos.atName
   let (f,first) <- holding [ov] (getMethod ov m pl)
   callWith pos f first #[228] #[71]):=by rfl):
  PE X #[73] (N2 C m sp fY E ta t):=by
 exists 4
 exists 65
 subst ex
 exists 110
 refine Cu I1 ea c hm l ?_
 refine Wi (first:=[.ref a]) (h₀:=X.base) I.ok.mod.kin hm.kp (cf (ha pos pins s1 σ H1 _ I1 q) fun us s2 ⟨vs,H2,I2,r,q2⟩=>⟨I2.pb,?_⟩) wX tw
 exact Lv (us:=.ref a :: us) (vs:=.ref a :: vs) F hr hb hd hx I2 (.cons rfl r) q2
theorem So{pl:Zy Bool}(he:PE X o ta)(c:DG X.K C)(hm:Meth X.K C m f)(F:bu X.prog X.w X.K X.mg X.base CX k f fd ps sp)(hr:cI k X.A)(hb:Binds X.K fd ps ds)(hd:Vals fY ds)(hx:Passes CX X E)(ht:eval #[104] X.env=(do
   let ov <- eval o X.env
   standAt apos.atName
   let (f,first) <- holding [ov] (getMethod ov m pl)
   callWith pos f first (backTo pos (Qa [] X.env)) #[71]):=by rfl):
  PE X #[104] (N2 C m sp fY E ta aaj):=by
 exists 4
 exists 65
 subst ex
 exists 110
 refine Cu I1 ea c hm l ?_
 exact PySem.W.callWith_K0 (first:=[.ref a]) I1.pb hm.kp (Lv (us:=[.ref a]) (vs:=[.ref a]) F hr hb hd hx I1 (.cons rfl .nil) q)
structure Mk(K:WC)(C f:Zg):Prop where
 makes:Yn K C=true
 init:WE K #[23] "__init__" = some #[172]
 fn:Wv K #[46]=true
 kp:WL K #[23]=true
theorem SR{Q:VK}(M:Mk X.K C f)(F:bu X.prog X.w X.K X.mg X.base CX k f fd ps sp)(hr:cI (k+1) X.A)(hb:Binds X.K fd ps ds)(hd:Vals fY ds)(hx:Passes CX X E)(I:Inv X pins σ H s)(r:Vals vs us)(h:∀ x dx,H x=none->H dx=none->dx≠x->sp (.ref x :: (vs++fY)) (upd (upd H dx (.own x)) x (.ins C dx [])) (fun v H2=>v=.non/\Q #[94] H2) E):
  wpAny #[5] X.A (call #[23] us) #[74] X.xe s:=by
 have hq:=h #[15] s.heap.objs.size (I.hok.fresh (JM _)) #[95] (jO (Jl _))
 have I2:=Inv.made (C:=C) I
 have r2:Vals (V.ref #[15] :: (vs++fY)) (WD #[15] :: (us++ds)):=.cons rfl (r.append hd)
 have hl:(WD #[15] :: us++ds).length=ps.length:=by
  have e:=r2.length
  rw[F.len _ _ _ _ hq]at e
  exact e.symm
 refine Qr (RN (f:=f) I.pb M.makes M.init (beq_iff_eq.mp M.fn) (QL (F.run _ X.stack _ _ ⟨WD #[15] :: us,[]⟩ (WD #[15] :: (us++ds)) _ _ E (hr.make C us [])
  (I2.Oq.make C us []) (hb _ (WD #[15] :: us) I2.pb hl) r2 hq) fun r s' Mp=>?_))
 cases r with
 | error e=>exact hx pins σ _ _ e s' I2 Mp
 | ok fl =>
  cases fl with
  | ret u =>
   obtain⟨v,H',I3,rv,ev,q3⟩:=I2.after Mp
   subst ev
   exact⟨rv,⟨V.ref #[15],H',I3,rfl,q3⟩⟩
  | next=>exact False.elim Mp
  | brk=>exact False.elim Mp
  | cont=>exact False.elim Mp
theorem Y7(M:Mk X.K C f)(F:bu X.prog X.w X.K X.mg X.base CX k f fd ps sp)(hr:cI (k+1) X.A)(hg:Gl X x)(hm:X.mg x=some #[23])(hb:Binds X.K fd ps ds)(hd:Vals fY ds)(hx:Passes CX X E)(ha:PA X (e :: es) t)(AF:#[16]=false:=by decide)(he:Qa (e :: es) X.env=#[17] :: Qa es X.env:=by rfl)(tw:#[20].any (·.1)=false:=by rfl):
  PE X #[19] (aaV C sp fY E t):=by
 exists 4
 exists 153
 refine Wi (h₀:=X.base) I.ok.mod.kin M.kp (cf (ha pos pins s σ H _ I h) fun us s1 ⟨vs,H1,I1,r,q⟩=>⟨I1.pb,?_⟩) he tw
 exact SR M F hr hb hd hx I1 r q
end
structure aJ(N P:List QB)(sc:Scope):Prop where
 kind:sc.kind=.function
 co:sc.isCoroutine=false
 gen:sc.isGenerator=false
 nd:N.Nodup
 pre:N.take P.length=P
 par:∀ x∈P,sc.names.lookup x=some .local\/sc.names.lookup x=some .cell
 nofree:∀ y∈sc.names,y.2≠.free
theorem DN{kindOf:QB->Option Zu}:∀ {binds:List #[260]} {m:QB->Option Value},(∀ v,(x,v)∉binds)->bindL kindOf binds m x=m x
 | [],_,_=>rfl
 | (n,v) :: r,m,h=>by
  unfold bindL
  rw[DN fun w hw=>h w (jK _ hw)]
  split
  ·have:x≠n:=by rintro rfl;exact h v jE
   simp[this]
  ·rfl
theorem DL{kindOf:QB->Option Zu}:∀ {binds:List #[260]} {m:QB->Option Value},(∀ v,(x,v)∉binds)->bindC kindOf binds m x=m x
 | [],_,_=>rfl
 | (n,v) :: r,m,h=>by
  unfold bindC
  rw[DL fun w hw=>h w (jK _ hw)]
  split
  ·rfl
  ·have:x≠n:=by rintro rfl;exact h v jE
   simp[this]
theorem DM{kindOf:QB->Option Zu}{v:Value}:∀ {P:List QB} {vs:List Value} {i:Nat} {m:QB->Option Value},P.Nodup->P[i]?=some x->vs[i]?=some v->kindOf x=some .local ->
  bindL kindOf (P.zip vs) m x=some v
 | [],_,_,_,_,h,_,_=>by simp at h
 | _ :: _,[],_,_,_,_,h,_=>by simp at h
 | p :: P,w :: vs,0,m,nd,h1,h2,hk=>by
  simp at h1 h2;subst h1;subst h2
  show bindL kindOf ((p,w) :: P.zip vs) m p=_
  unfold bindL
  rw[DN fun v hv=>(jh.mp nd).1 (Jr hv).1,if_pos hk]
  simp
 | p :: P,w :: vs,i+1,m,nd,h1,h2,hk=>by
  show bindL kindOf ((p,w) :: P.zip vs) m x=_
  unfold bindL
  exact DM (i:=i) (jh.mp nd).2 #[237] #[236] hk
theorem DK{kindOf:QB->Option Zu}{v:Value}:∀ {P:List QB} {vs:List Value} {i:Nat} {m:QB->Option Value},P.Nodup->P[i]?=some x->vs[i]?=some v->kindOf x≠some .local ->
  bindC kindOf (P.zip vs) m x=some v
 | [],_,_,_,_,h,_,_=>by simp at h
 | _ :: _,[],_,_,_,_,h,_=>by simp at h
 | p :: P,w :: vs,0,m,nd,h1,h2,hk=>by
  simp at h1 h2;subst h1;subst h2
  show bindC kindOf ((p,w) :: P.zip vs) m p=_
  unfold bindC
  rw[DL fun v hv=>(jh.mp nd).1 (Jr hv).1,if_neg hk]
  simp
 | p :: P,w :: vs,i+1,m,nd,h1,h2,hk=>by
  show bindC kindOf ((p,w) :: P.zip vs) m x=_
  unfold bindC
  exact DK (i:=i) (jh.mp nd).2 #[237] #[236] hk
def start(N:List QB)(vs:List V):St:=vs.map some++Jw (N.length-vs.length) none
def Ay(CX:FP)(P:Zx)(w:World)(K:WC)(mg:QB->Option Value)(base:Heap)(N:List QB)(qual:QB)(scope:Scope)(f:Zg)(cd:Value)(A:Around)(outer:List Zn)(s:QA)(H:Hp)(E:XK):Cx where
 prog:=P
 w:=w
 K:=K
 mg:=mg
 base:=base
 A:=A.deeper #[32]
 N:=N
 s₀:=s
 H₀:=H
 env:=envOfC qual scope s.heap.objs.size f cd
 outer:=outer
 stack:=envOfC qual scope s.heap.objs.size f cd :: outer
 ex:=[]
 calm:=true
 fn:=fun _=>true
 pn:=[]
 xe:=fun e s'=>wpAny #[97] (A.deeper #[32]) (leaving #[32] e) (fun _ s''=>CX outer H s E e s'') (fun e' s''=>CX outer H s E e' s'') s'
theorem F8(h:sc.names.lookup x=some .cell):∃ c,(cellsFrom n sc.names []).lookup x=some c:=by
 have q:=Wr sc.names n [] (.inl h)
 exact JS.mp q
theorem AG{CX:FP}{f:Zg}{s1:QA}{E:XK}(S:aJ N ps scope)(hd:A.handled=none)(e0:B3 P w K mg base A outer s H)(hl:vs.length=ps.length)(r:Vals vs us)(x:InCallC s s.heap.objs.size (bindL #[32].kindOf #[145] fun _=>none) (cellsFrom #[15] scope.names []) (bindC #[32].kindOf #[145] fun _=>none) s1):
  Inv #[279] [] #[150] H s1:=by
 have tw:ps.length<=N.length:=by have:=congrArg Jj S.pre;rw[jX]at this;omega
 obtain⟨h1,tk,rfl,hk⟩:=x.done
 have X1:∀ b:Zg,b∉#[279].ex:=fun b z=>absurd (show b∈([]:List Zg)from z) #[11]
 refine⟨⟨e0.mod,S.kind,rfl,rfl,jF _,fun y z c h1 h2=>?_,fun y hy=>?_,fun y c _ h=>?_,fun _=>hd,Around.frames_deeper e0.frames,.inr ⟨rfl,rfl⟩,fun b z=>absurd z (X1 b),e0.bs,e0.bsz,fun b _ _=>X1 b,fun b z=>absurd z (X1 b),e0.sQ,e0.frf⟩,
  rfl,e0.bare,Un.kept hk,⟨_,x.toInCall.ns,fun i y v h1 h2 h3=>?_⟩,fun y c h=>⟨_,x.cell y c h⟩,e0.hok.fresh (jF _),fun y c h=>?_,fun p hp=>absurd (show p∈([]:List #[44])from hp) #[11],e0.hok.kept hk,?_⟩
 ·exact name_of_addr x.apart (WK h1) (WK h2)
 ·exists 105
  rcases hy with hy|hy
  ·exact F8 hy
  ·exact absurd rfl (S.nofree _ (WK hy))
 ·exact Jv (x.above y c (WK h))
 ·have hi:i<vs.length:=by
   unfold start at h2
   by_cases hi:i<vs.length
   ·exact hi
   ·rw[jm (by simpa using hi)]at h2
    rw[List.getElem?_replicate]at h2
    split at h2<;>cases h2
  have ha:vs[i]?=some v:=by
   unfold start at h2
   rw[jk (by simpa using hi),jP]at h2
   cases e:vs[i]? with
   | none=>rw[e]at h2;cases h2
   | some a=>rw[e]at h2;cases h2;rfl
  obtain⟨u,hu,rv⟩:=r.get ha
  have hp:ps[i]?=some y:=by
   rw[<- S.pre,List.getElem?_take_of_lt #[2]];exact h1
  have ndP:ps.Nodup:=by rw[<- S.pre];exact S.nd.sublist (zT _ _)
  exists u,rv
  rcases S.par y (JI hp)with k|k
  ·exact .inl ⟨k,DM ndP hp hu k⟩
  ·obtain⟨c,e⟩:=F8 (n:=s.heap.objs.size+1) k
   refine .inr ⟨.inl k,c,e,?_⟩
   have q:=x.cell y c e
   rw[DK ndP hp hu (by show scope.names.lookup y≠_;rw[k];decide)]at q
   exact q
 ·exact e0.hok.fresh (Jv (x.above y c (WK h)))
 ·unfold start
  show _=N.length
  rw[jG,jQ,List.length_replicate]
  omega
theorem aat{CX:FP}{k:Nat}{f:Zg}{dV kV doc pm ck ct oc:Value}{sp:Sp}(lk:K.lookup f=some ⟨oc,od,.func #[59],Dm⟩)(Dx:WX K ck qual=true)(S:aJ N ps scope)(len:∀ vs H Q E,sp vs H Q E->vs.length=ps.length)(rM:∀ (A:Around) (outer:List Zn) (s:QA) (H:Hp) (vs:List V) (Q:VK) (E:XK),cI k #[284]->sp vs H Q E ->
   ∃ t,Ey #[111] body t/\t { nx:=fun _ H'=>Q .non H',rt:=Q } #[150] H):
  bu P w K mg base CX (k+1) f #[59] ps sp:=by
 exists 77
 have hl:=len _ _ _ _ FK
 exists 78
 exists 29
 have Hm:∀ y∈ps.zip us,scope.names.lookup y.1=some .local\/#[119]:=fun⟨n,v⟩ hy=>by
  rcases S.par n (Jr hy).1 with q|q
  ·exact .inl q
  ·exact .inr ⟨q,Wr _ _ _ (.inl q)⟩
 exists 47
 refine qQ S.kind Hm fun env he s1 x=>?_
 subst he
 exists 143
 exists 87
 have I:Inv #[111] [] #[150] H s1:=AG S hr.hd e0 hl r x
 exists 102
 have fin:∀ {σ':St} {H':Hp} {v:V} {u:Value},Inv #[111] [] σ' H' s'->RelV v u->Q v H'->CE outer P w H s Q u s' :=
  fun {σ' H' v u} J rv q=>⟨v,H',J.os,J.bare,J.base,J.hok,rv,q⟩
 cases fl with
 | ret u =>
  obtain⟨v,σ',H',J,rv,q⟩:=hs
  exact fin J rv q
 | next =>
  obtain⟨σ',H',J,q⟩:=hs
  exact fin (v:=V.non) (u:=WJ) J rfl q
 | brk =>
  obtain⟨_,_,_,q⟩:=hs
  exact False.elim q
 | cont =>
  obtain⟨_,_,_,q⟩:=hs
  exact False.elim q
section
variable{t:TA}{id T:String}{r:List V->Hp->VK->Prop}
def tCB(r:List V->Hp->VK->Prop)(t:TA):TE:=fun σ H Q=>t σ H fun vs H1=>r vs H1 Q
theorem aG(hc:lK X #[328] r)(hg:Gl X x)(hm:X.mg x=none)(hv:QE x=some #[328])(ha:PA X (e :: es) t)(hn:x ≠ "__name__" := by decide)(AF:#[16]=false:=by decide)(he:Qa (e :: es) X.env=#[17] :: Qa es X.env:=by rfl)(tw:#[20].any (·.1)=false:=by rfl):PE X #[19] (tCB r t):=by
 exists 4
 refine Qj (rR I hg hm hv ?_ hn AF)
 exact YK #[114] he tw
theorem aQ(hc:lK X (.type T) r)(hg:Gl X x)(hm:X.mg x=none)(hv:QE x=some (.type T))(ha:PA X (e :: es) t)(hn:x ≠ "__name__" := by decide)(AF:#[16]=false:=by decide)(he:Qa (e :: es) X.env=#[17] :: Qa es X.env:=by rfl)(tw:#[20].any (·.1)=false:=by rfl):PE X #[19] (tCB r t):=by
 exists 4
 refine Qj (rR I hg hm hv ?_ hn AF)
 exact WR #[114] he tw
end
end L2
namespace HT
open PySem PyProof.Rows
section
open PySem.SeqAt
open PySem.AutoSeq1 (wpAny_loadPart')
open PySem.MeetsSeq PySem.MeetsSeq2 PySem.MeetsSeq3
end
end HT
namespace L2
open PySem PySem.Spec PyProof.Rows
variable{X:Cx}{e:Expr}{pos:Pos}{α:Type}{n j t':Nat}{i:Int}{r:R2}{pins:List (Zg×Obj)}{σ:St}{H:Hp}{s:QA}{p:Zg}{xs ys:List V}{bp its' us:List Value}{x:V}{v:Value}{es:List Expr}{name:QB}{prog:Zx}{w:World}{A:Around}
abbrev TO:=St->Hp->(Option Int->Hp->Prop)->Prop
def PO(X:Cx)(e:Option Expr)(t:TO):Prop:=
 ∀ (pins:List #[44]) (s:QA) (σ:St) (H:Hp) (Q:Option Int->Hp->Prop),Inv X pins σ H s->t σ H Q ->
  wpAny #[5] X.A (evalPart e X.env) (fun u s'=>∃ o H',Inv X pins σ H' s'/\IsPart u o/\Q o H') X.xe s
def V7(n:Nat)(i:Int):Option Nat:=if 0<=i then(if i<n then some i.toNat else none)else if -(n:Int)<=i then some (i+n).toNat else none
def Dh(xs:List α)(i:Int):Option α:=(V7 xs.length i).bind fun j=>xs[j]?
theorem Ms(h:V7 n i=some j):seqIndex? i n=some j/\j<n/\-(n:Int)<=i/\i<n:=by
 unfold V7 at h
 by_cases h0:0<=i
 ·rw[if_pos h0]at h
  by_cases h1:i<n
  ·rw[if_pos h1]at h
   have e:i.toNat=j:=Option.some.inj h
   exact⟨by rw[QY h0 h1,e],by omega,by omega,h1⟩
  ·rw[if_neg h1]at h;cases h
 ·rw[if_neg h0]at h
  by_cases h1 : -(n:Int)<=i
  ·rw[if_pos h1]at h
   have e:(i+n).toNat=j:=Option.some.inj h
   exact⟨by rw[seqIndex_neg #[2] h1,e],by omega,h1,by omega⟩
  ·rw[if_neg h1]at h;cases h
theorem LY{xs:List α}{v:α}(h:Dh xs i=some v):∃ j,seqIndex? i xs.length=some j/\xs[j]?=some v/\j<xs.length/\-(xs.length:Int)<=i/\i<xs.length:=by
 unfold Dh at h
 cases e:V7 xs.length i with
 | none=>rw[e]at h;cases h
 | some j =>
  rw[e]at h
  obtain⟨h1,h2,h3,h4⟩:=Ms e
  exact⟨j,h1,h,h2,h3,h4⟩
theorem wL{xs:List α}{v:α}(h:xs[j]?=some v):Dh xs (j:Int)=some v:=by
 have hj:j<xs.length:=(jf.mp h).1
 have e:V7 xs.length (j:Int)=some j:=by
  unfold V7
  rw[if_pos #[2],if_pos #[2]];simp
 unfold Dh;rw[e];exact h
def LW(b:Expr):Prop := ∀ o i,subscripted b false o i=operate [o,i] (getItem o i)
def IxR(X:Cx)(r:R2):Prop:=
 ∀ (value slice:Expr) (pins:List #[44]) (s:QA) (σ:St) (H:Hp) (x y:V) (v u:Value) (Q:VK),Inv X pins σ H s->RelV x v->RelV y u->r x y H Q ->
  subscripted slice false v u=operate [v,u] (getItem v u)->wpAny #[5] X.A (subscriptTail value slice v u) #[74] X.xe s
def MtR(X:Cx)(id:String)(r:V->List V->Hp->VK->Prop):Prop:=
 ∀ (pins:List #[44]) (s:QA) (σ:St) (H:Hp) (x:V) (xs:List V) (v:Value) (us:List Value) (Q:VK),Inv X pins σ H s->RelV x v->Vals xs us->r x xs H Q ->
  wpAny #[5] X.A (call #[328] (v :: us)) #[74] X.xe s
section
variable{a b:Expr}{ta tb:TE}
theorem aC(hr:IxR X r)(ha:PE X a ta)(hb:PE X b tb)(hs:LW b):PE X (.Subscript a b pos) (LD r ta tb):=by
 exists 4
 exact Subscript_ (abb ha hb I h fun v u s2 x y H2 I2 rx ry q=>hr a b pins s2 σ H2 x y v u Q I2 rx ry q (hs _ _))
def ae5(K:WC):R2:=fun x y H Q=>∃ p xs i v,x=.ref p/\y=.int i/\pZ K H p xs/\Dh xs i=some v/\Q v H
def ae6(K:WC):R2:=fun x y H Q=>∃ p xs i v,x=.ref p/\y=.int i/\sZ K H p xs/\Dh xs i=some v/\Q v H
theorem iC:IxR X (ae5 X.K):=by
 intro value slice pins s σ H x y v u Q I rx ry h hs
 obtain⟨p,xs,i,z,rfl,rfl,hq,he,q⟩:=h
 cases rx
 obtain⟨t,rfl⟩:=ry
 obtain⟨bp,r,pl,hz⟩:=I.list hq
 obtain⟨j,h1,h2,h3,h4,h5⟩:=LY he
 obtain⟨w,ew,Ie⟩:=r.get h2
 have hl:=r.length
 have hn:=CI
 have fin:EP X pins σ Q w s:=⟨z,H,I,Ie,q⟩
 by_cases h0:0<=i
 ·have hj:i.toNat=j:=by
   rw[QY h0 h5]at h1
   exact Option.some.inj h1
  exact item_listR pl.isList h0 #[2] (by rw[hj];simpa using ew) fin hs
 ·have hj:(i+(bp.toArray.size:Int)).toNat=j:=by
   rw[seqIndex_neg #[2] h4]at h1
   rw[jT,<- hl]
   exact Option.some.inj h1
  exact Qb (x:=w) pl.isList.typeIs slot_list_getitem.lookup
   (wpAny_getItem_list_neg (Q:=fun r s'=>r=w/\EP X pins σ Q r s') pl.isList #[2] (by rw[jT]<;>omega) #[2] (by rw[hj];simpa using ew) ⟨rfl,fin⟩) hs
theorem ax:IxR X (ae6 X.K):=by
 intro value slice pins s σ H x y v u Q I rx ry h hs
 obtain⟨p,xs,i,z,rfl,rfl,hq,he,q⟩:=h
 cases rx
 obtain⟨t,rfl⟩:=ry
 obtain⟨bp,r,pl,hz⟩:=I.tuple hq
 obtain⟨j,h1,h2,h3,h4,h5⟩:=LY he
 obtain⟨w,ew,Ie⟩:=r.get h2
 have hl:=r.length
 have hn:=CI
 have fin:EP X pins σ Q w s:=⟨z,H,I,Ie,q⟩
 exact Qb (x:=w) pl.typeIs slot_tuple_getitem.lookup
  (getItem_tuple (j:=j) (Q:=fun r s'=>r=w/\EP X pins σ Q r s') pl #[2] #[2] (by rw[jT,<- hl];exact h1) (by simpa using ew) ⟨rfl,fin⟩) hs
theorem K7(bp:List Value)(n j:Nat)(u:Value):Obj.mapSeq (·.setIfInBounds j u) { cls:=.type "list",data:=.seq bp.toArray n }={ cls:=.type "list",data:=.seq (bp.set j u).toArray n }:=by
 simp[Obj.mapSeq]
theorem Inv.lst{pins:List #[44]}{σ:St}{H:Hp}{s:QA}{p:Zg}{xs:List V}(I:Inv X pins σ H s)(h:H p=some #[232]):
  ∃ (bp:List Value) (n:Nat),Vals xs bp/\s.heap.get? p=some { cls:=.type "list",data:=.seq bp.toArray n }/\xs.length<=sizeLine:=by
 obtain⟨z,bp,n,r,e⟩:=I.hok p _ h
 exact⟨bp,n,r,e,z⟩
theorem Inv.abW{n':Nat}{f:Obj->Obj}(I:Inv X pins σ H s)(h:H p=some #[232])(ho:s.heap.get? p=some { cls:=.type "list",data:=.seq bp.toArray n })(hf:f { cls:=.type "list",data:=.seq bp.toArray n }={ cls:=.type "list",data:=.seq its'.toArray n' })(r:Vals ys its')(hz:ys.length<=sizeLine)(t:Nat):
  Inv X pins σ (upd H p #[203]) { s with heap:=s.heap.update p f,toks:=t }:=by
 have e:(s.heap.update p f).get? p=some { cls:=.type "list",data:=.seq its'.toArray n' }:=by
  rw[JC f ho (by rw[hf]<;>rfl),hf]
 refine I.write (x:=p) (e:=p) (by rw[h];trivial) #[62] (fun b u hb q=>(jt _ _ (Ne.symm hb)).trans q) ⟨_,e⟩ ?_
 exact⟨hz,its',n',r,e⟩
def ae9:V->V->V->Hp->(Hp->Prop)->Prop:=fun o i v H Q=>∃ p xs k j,o=.ref p/\i=.int k/\H p=some #[232]/\V7 xs.length k=some j/\Q (upd H p (.lst (xs.set j v)))
theorem set_list:adB X ae9:=by
 intro pins s σ H o i v ov iv u Q I ro ri rv h
 obtain⟨p,xs,k,j,rfl,rfl,hp,hj,q⟩:=h
 cases ro
 obtain⟨t,rfl⟩:=ri
 obtain⟨bp,n,r,ho,hz⟩:=I.lst hp
 obtain⟨h1,h2,h3,h4⟩:=Ms hj
 have hl:=r.length
 have hn:=CI
 have I':Inv X pins σ (upd H p (.lst (xs.set j v))) { s with heap:=s.heap.update p (Obj.mapSeq (·.setIfInBounds j u)) }:=
  I.abW hp ho (K7 bp n j u) (r.set rv j) (by rw[zL];exact hz) s.toks
 by_cases h0:0<=k
 ·have hk:k.toNat=j:=by
   rw[QY h0 h4]at h1
   exact Option.some.inj h1
  exact PySem.W.ki_setAt ho h0 #[2] (by rw[jT,<- hl];exact h4) (by rw[hk];exact⟨_,I',q⟩)
 ·have hk:(k+(bp.toArray.size:Int)).toNat=j:=by
   rw[seqIndex_neg #[2] h3]at h1
   rw[jT,<- hl]
   exact Option.some.inj h1
  exact PySem.W.ki_setBack ho #[2] (by rw[jT,<- hl];exact h3) #[2] (by rw[hk];exact⟨_,I',q⟩)
theorem aM:lK X #[206] (fun xs H Q=>∃ p ys,xs=[.ref p]/\(pZ X.K H p ys\/sZ X.K H p ys)/\Q (.int ys.length) H):=by
 exists 19
 obtain⟨p,ys,rfl,hq,q⟩:=h
 exists 31
 cases rx
 have hn:=CI
 rcases hq with hq|hq
 ·obtain⟨bp,r',pl,hz⟩:=I.list hq
  have hlen:=r'.length
  exact Calls.call_len_list pl.isList #[136] ⟨.int ys.length,H,I.tok _,⟨s.toks+1,by rw[jT,hlen]⟩,q⟩
 ·obtain⟨bp,r',pl,hz⟩:=I.tuple hq
  have hlen:=r'.length
  exact len_tuple pl #[136] ⟨.int ys.length,H,I.tok _,⟨s.toks+1,by rw[jT,hlen]⟩,q⟩
theorem EJ:lK X #[273] (fun xs H Q=>∃ p ys,xs=[.ref p]/\(pZ X.K H p ys\/sZ X.K H p ys)/\∀ l,H l=none->Q (.ref l) (upd H l #[203])):=by
 exists 19
 obtain⟨p,ys,rfl,hq,q⟩:=h
 exists 31
 cases rx
 have fin:∀ (bp:List Value),Vals ys bp->ys.length<=sizeLine->∀ (h':Heap) (c':Nat),(∀ b o',s.heap.get? b=some o'->h'.get? b=some o') ->
   h'.get? s.heap.objs.size=some { cls:=.type "list",dict:=none,data:=.seq bp.toArray c',slots := #[] }->EP X pins σ Q #[25] { s with heap:=h' }:=fun bp r' hz h' c' kp e =>
  ⟨.ref s.heap.objs.size,_,I.laid (t' := s.toks) kp (jF _) (show bq X.prog X.w _ h' _ #[203]from⟨hz,bp,c',r',e⟩),rfl,q _ #[95]⟩
 rcases hq with hq|hq
 ·obtain⟨bp,r',pl,hz⟩:=I.list hq
  have hlen:=r'.length
  obtain⟨o,ho,hc,n,hd⟩:=pl.isList
  exact call_list_seq p #[62] ho hc hd (fun h' c' kp e=>fin bp r' hz h' c' kp e) #[136]
 ·obtain⟨bp,r',pl,hz⟩:=I.tuple hq
  have hlen:=r'.length
  obtain⟨o,ho,hc,n,hd⟩:=pl
  exact call_list_seq p (.inr rfl) ho hc hd (fun h' c' kp e=>fin bp r' hz h' c' kp e) #[136]
theorem aZ:lK X (.type "tuple") (fun xs H Q=>∃ p ys,xs=[.ref p]/\((pZ X.K H p ys/\∀ l,H l=none->Q (.ref l) (upd H l (.tup ys)))\/(sZ X.K H p ys/\Q (.ref p) H))):=by
 exists 19
 obtain⟨p,ys,rfl,h⟩:=h
 exists 31
 cases rx
 rcases h with⟨hq,q⟩|⟨hq,q⟩
 ·obtain⟨bp,r',pl,hz⟩:=I.list hq
  have hlen:=r'.length
  refine call_tuple_list pl.isList (fun h' kp=>?_) #[136]
  have I1:Inv X pins σ H { s with heap:=h' }:=I.kept (t' := s.toks) kp
  have I2:Inv X pins σ (upd H h'.objs.size (.tup ys)) { s with heap:=h'.push { cls:=.type "tuple",data:=.seq bp.toArray } }:=
   I1.laid (t' := s.toks) (fun b o e=>jB _ e) (jF _) (show bq X.prog X.w _ _ _ (.tup ys)from⟨hz,bp,r',IsTup.new _ _⟩)
  exact⟨.ref h'.objs.size,_,I2,rfl,q _ (I1.hok.fresh (jF _))⟩
 ·obtain⟨bp,r',pl,hz⟩:=I.tuple hq
  exact call_tuple_same pl ⟨.ref p,H,I,rfl,q⟩
def tyV(K:WC)(T:String)(x:V)(H:Hp):Prop:=match x with
 | .str _=>T = "str"
 | .int _=>T = "int"
 | .ref p=>(T = "list" /\ ∃ xs,pZ K H p xs)\/(T = "tuple" /\ ∃ o,K.lookup p=some o/\o.cls=.type "tuple" /\ o.dict=none) \/
   (T = "dict" /\ ((∃ kvs,H p=some #[54])\/∃ kvs,H p=some #[179]))\/(T = "set" /\ ∃ S n,H p=some (.set S n))
 | _=>False
theorem Ti{T:String}(I:Inv X pins σ H s)(r:RelV x v)(ty:tyV X.K T x H):
  s.TypeIs v T/\∀ a,v=.ref a->∃ ob,s.heap.get? a=some ob/\ob.dict=none:=by
 cases x with
 | str z =>
  obtain⟨t,rfl⟩:=r
  cases(show T = "str" from ty)
  exact⟨typeIs_str s z t,fun _ e=>nomatch e⟩
 | int i =>
  obtain⟨t,rfl⟩:=r
  cases(show T = "int" from ty)
  exact⟨typeIs_int s i t,fun _ e=>nomatch e⟩
 | ref p =>
  cases r
  rcases ty with⟨rfl,xs,hq⟩|⟨rfl,o,hk,hc,hd⟩|⟨rfl,hk⟩|⟨rfl,S,n,hk⟩
  ·obtain⟨bp,_,pl,_⟩:=I.list hq
   refine⟨pl.isList.typeIs,fun a e=>?_⟩
   cases e
   obtain⟨o,n,e,c,hd,_⟩:=pl
   exact⟨o,e,hd⟩
  ·refine⟨⟨o,I.pb p o hk,hc⟩,fun a e=>?_⟩
   cases e
   exact⟨o,I.pb _ o hk,hd⟩
  ·have z:∃ o,s.heap.get? p=some o/\o.ExactDict:=by
    rcases hk with⟨kvs,hk⟩|⟨kvs,hk⟩
    ·obtain⟨_,_,_,_,o,_,_,e,ex,_⟩:=I.hok p _ hk
     exact⟨o,e,ex⟩
    ·obtain⟨_,_,_,_,o,_,_,e,ex,_⟩:=I.hok p _ hk
     exact⟨o,e,ex⟩
   obtain⟨o,e,ex⟩:=z
   refine⟨⟨o,e,ex.1⟩,fun a e2=>?_⟩
   cases e2
   exact⟨o,e,ex.2.1⟩
  ·obtain⟨o,_,_,_,e,ex,_⟩:=I.hok p _ hk
   refine⟨⟨o,e,ex.1⟩,fun a e2=>?_⟩
   cases e2
   exact⟨o,e,ex.2.1⟩
 | _=>exact False.elim ty
def ajo(K:WC)(T:String)(r:V->List V->Hp->VK->Prop)(to:TE):TE:=fun σ H Q=>to σ H fun x H1=>tyV K T x H1/\r x [] H1 Q
def tBM(K:WC)(T:String)(r:V->List V->Hp->VK->Prop)(to:TE)(t:TA):TE:=fun σ H Q=>to σ H fun x H1=>tyV K T x H1/\t σ H1 fun xs H2=>r x xs H2 Q
variable{o:Expr}{to:TE}{t:TA}{apos df:Pos}{T id:String}{r:V->List V->Hp->VK->Prop}
theorem Lp(pa:PlainAttrs T)(slot:Slot T name id)(hty:typeOf #[328]=pure (.type "method_descriptor"))(hm:MtR X id r)(ho:PE X o to)(Hj:attributeBase o name X.env (eval o X.env)=eval o X.env:=by rfl)(Rt:#[244]=true:=by rfl):PE X (.Call (.Attribute o name apos) [] [] df) (ajo X.K T r to):=by
 exists 4
 refine wpAny_Call_method0_late Hj Rt (cf #[98] fun v s1 ⟨x,H1,I1,r1,ty,q1⟩=>?_)
 obtain⟨h1,h2⟩:=Ti I1 r1 ty
 exact⟨T,id,pa,slot,hty,h1,h2,WZ rfl (PySem.evalArgs_none (hm pins s1 σ H1 x [] v [] Q I1 r1 .nil q1))⟩
theorem lN(pa:PlainAttrs T)(slot:Slot T name id)(hty:typeOf #[328]=pure (.type "method_descriptor"))(hm:MtR X id r)(ho:PE X o to)(ha:PA X (e :: es) t)(Hj:attributeBase o name X.env (eval o X.env)=eval o X.env:=by rfl)(ahO:((backTo df (Qa (e :: es) X.env)).all (fun x=>!x.1)&&#[199].all (fun x=>x.1.isSome)
   && decide ((e :: es).length+([]:List Zt).length+#[173]<30))=true:=by rfl)(Rt:#[244]=true:=by rfl)(hs:Qa (e :: es) X.env=#[17] :: Qa es X.env:=by rfl)(abB:#[214].any (·.1)=false:=by rfl):
  PE X (.Call (.Attribute o name apos) (e :: es) [] df) (tBM X.K T r to t):=by
 exists 4
 refine wpAny_Call_method_late Hj ahO Rt rfl (cf #[98] fun v s1 ⟨x,H1,I1,r1,ty,q1⟩=>?_)
 obtain⟨h1,h2⟩:=Ti I1 r1 ty
 exists T,id,pa,slot,hty,h1,h2
 have hA:=ha df pins s1 σ H1 _ I1 q1
 rw[hs]at hA ⊢
 refine WZ (by show(false||#[214].any (·.1))=false;rw[abB]<;>rfl) (Wm ?_)
 exact cf hA fun us s2 ⟨vs,H2,I2,r2,q2⟩=>hm pins s2 σ H2 x vs v us Q I2 r1 r2 q2
/- xs.append(e),list.index on a aeP tuple .. are MtR facts of 06m -/
end
def MtM(X:Cx)(id:String)(r:V->List V->Hp->VK->Prop):Prop:=
 ∀ (pins:List #[44]) (s:QA) (σ:St) (H:Hp) (x:V) (xs:List V) (v:Value) (us:List Value) (Q:VK),Inv X pins σ H s->RelV x v->Vals xs us->r x xs H Q ->
  wpAny #[5] X.A (call #[328] (v :: us)) #[74] X.xe s
theorem Vals.one:∀ {x:V} {us:List Value},Vals [x] us->∃ u,us=[u]/\RelV x u
 | _,_,.cons r .nil=>⟨_,rfl,r⟩
theorem Vals.two:∀ {x y:V} {us:List Value},Vals [x,y] us->∃ u v,us=[u,v]/\RelV x u/\RelV y v
 | _,_,_,.cons r (.cons q .nil)=>⟨_,_,rfl,r,q⟩
theorem Vals.zero:∀ {us:List Value},Vals [] us->us=[]
 | _,.nil=>rfl
theorem Vals.dropLast(h:Vals xs us):Vals xs.dropLast us.dropLast:=by
 induction h with
 | nil=>exact .nil
 | cons r t ih =>
  cases t with
  | nil=>exact .nil
  | cons q t'=>exact .cons r ih
theorem IZ(l:List α):l.eraseIdx (l.length-1)=l.dropLast:=by
 induction l with
 | nil=>rfl
 | cons a r ih =>
  cases r with
  | nil=>rfl
  | cons b r =>
   have e:(a :: b :: r).length-1=((b :: r).length-1)+1:=by
    have h1:(a :: b :: r).length=r.length+2:=rfl
    have h2:(b :: r).length=r.length+1:=rfl
    omega
   rw[e,List.eraseIdx_cons_succ,ih]
   all_goals rfl
section
variable{l:Zg}
theorem Inv.W9{f:Array Value->Array Value}{t':Nat}(I:Inv X pins σ H s)(hH:H l=some #[232])(e:s.heap.get? l=some { cls:=.type "list",data:=.seq bp.toArray n })(hf:f bp.toArray=its'.toArray)(hv:Vals ys its')(hz:ys.length<=sizeLine):
  Inv X pins σ (upd H l #[203]) { s with heap:=s.heap.update l (Obj.mapSeq f),toks:=t' }:=by
 have q:=Xg e f
 rw[hf]at q
 refine I.write (x:=l) (e:=l) (by rw[hH];exact trivial) #[62] (fun b' u hb hu=>(jt s.heap (Obj.mapSeq f) (Ne.symm hb)).trans hu) ⟨_,q⟩ ?_
 exact⟨hz,its',_,hv,q⟩
theorem Inv.HB(I:Inv X pins σ H s)(hH:H l=some #[232]):xs.length<=sizeLine/\∃ (bp:List Value) (n:Nat),Vals xs bp/\xs.length=bp.length/\s.heap.get? l=some { cls:=.type "list",data:=.seq bp.toArray n }:=by
 obtain⟨z,bp,n,r,e⟩:=I.hok l _ hH
 exact⟨z,bp,n,r,r.length,e⟩
theorem HI(h:n<=sizeLine):Wd n=false:=by
 unfold Wd
 exact decide_eq_false #[2]
end
section
def Z7:V->List V->Hp->VK->Prop:=fun x vs H Q=>∃ l xs y,x=.ref l/\vs=[y]/\H l=some #[232]/\xs.length<sizeLine/\Q .non (upd H l (.lst (xs++[y])))
theorem cc:MtM X "list.append" Z7:=by
 exists 59
 obtain⟨l,xs,y,rfl,rfl,hH,hz,q⟩:=h
 cases rx
 obtain⟨u,rfl,ru⟩:=rv.one
 exists 146
 refine QF F.slot_list_append ⟨_,e,rfl⟩ F.entry_list_append (F.args_list_append_2 _ _) (PySem.list_append l bp.toArray n u (by rw[jT];omega)) ⟨e,?_⟩
 refine⟨.non,_,I.W9 (its' := bp++[u]) hH e #[11] (r.append (.cons ru .nil)) ?_,rfl,q⟩
 rw[jG,jS]
 omega
def MK:V->List V->Hp->VK->Prop:=fun x vs H Q=>∃ l b xs zs,x=.ref l/\vs=[.ref b]/\H l=some #[232]/\H b=some (.lst zs)/\xs.length+zs.length<=sizeLine/\Q .non (upd H l (.lst (xs++zs)))
theorem OQ:MtM X "list.extend" MK:=by
 exists 59
 obtain⟨l,b,xs,zs,rfl,rfl,hH,hB,hz,q⟩:=h
 cases rx
 obtain⟨u,rfl,ru⟩:=rv.one
 cases ru
 exists 146
 obtain⟨z2,EU,n2,r2,hl2,e2⟩:=I.HB hB
 exists 123
 have Ru:¬ #[234]=true:=by
  rw[HI hsz,zy]
  exact je
 refine QF yJ ⟨_,e,rfl⟩ yE (yA _ _)
  (AutoSeq1.list_extend_list_list_0 l bp.toArray n b EU.toArray n2 Ru (by rw[jT];omega) #[2]) ⟨e,e2,?_⟩
 exists 101
 rw[jG]
 omega
def ai6:V->List V->Hp->VK->Prop:=fun x vs H Q=>∃ l xs y,x=.ref l/\vs=[]/\H l=some #[232]/\xs[xs.length-1]?=some y/\Q y (upd H l (.lst xs.dropLast))
theorem RS:MtM X "list.pop" ai6:=by
 exists 59
 obtain⟨l,xs,y,rfl,rfl,hH,hy,q⟩:=h
 cases rx
 have hus:=rv.zero
 subst hus
 exists 146
 obtain⟨u,hu,ru⟩:=r.get hy
 have hy':bp.toArray[bp.toArray.size-1]?=some u:=by
  show bp.toArray[bp.length-1]?=some u
  rw[<- JR,<- hl]
  exact hu
 refine QF F.slot_list_pop ⟨_,e,rfl⟩ F.entry_list_pop (F.args_list_pop_1 _) (MeetsSeq.list_pop_last l bp.toArray n u hy' (by rw[jT];omega)) ⟨e,?_⟩
 refine⟨y,_,I.W9 (its' := bp.dropLast) hH e ?_ r.dropLast ?_,ru,q⟩
 ·show bp.toArray.eraseIdxIfInBounds (bp.toArray.size-1)=bp.dropLast.toArray
  rw[jT,List.eraseIdxIfInBounds_toArray,IZ]
 ·rw[ZA]
  omega
end
end L2
namespace Att
open PySem PySem.W PySem.Calls PyProof.Rows
variable{h:Heap}{n:Nat}{vals:List Value}{q prog:Zx}{loose:List QB}{w:World}
theorem BD{P:Params}:∀ (ns:List Int) (vs:List Value),WellAll P h vs (ns.map WData.int)->Zq vs ns:=by
 intro ns
 induction ns with
 | nil =>
  intro vs w
  rw[ZM]at w
  cases w
  exact .nil
 | cons n ns ih =>
  intro vs w
  rw[JE]at w
  cases w with
  | cons a b =>
   cases a
   exact .cons _ _ (ih _ b)
theorem Pj{l:OpenLaw}(hn:l.most=some n){P:Params}{args:List WData}(V0:l.row.toRowW.claim.pre args=true)(hwl:WellAll P h vals args):
  ∃ a vs ns,vals=[WD a]/\args=[WData.list (ns.map WData.int)]/\h.get? a=some { cls:=.type "list",data:=.seq vs.toArray }/\Zq vs ns/\ns.length<=n:=by
 have hsh:WShape.hasAll [] args [.list .int]=true:=(pre_splitW V0).1
 have hc:l.pre.holds [] { args:=args }=true:=(pre_splitW V0).2
 obtain⟨d,r,rfl,h1,h2⟩:=hasAllW_cons hsh
 obtain rfl:=hasAllW_nil h2
 obtain⟨xs,rfl,h3⟩:=hasW_list h1
 obtain⟨ns,rfl⟩:=items_int h3
 have hlen:ns.length<=n:=by
  unfold OpenLaw.pre at hc
  have h4:(WTm.not (.lt (.lit (.int (n:Int))) (.len (.arg 0)))).holds [] { args:=[.list (ns.map .int)] }=true:=by
   have h4:=(holds_andW hc).1
   rw[hn]at h4
   exact h4
  have h5:=condW_of h4 (w_not (w_lt w_lit (w_len_list (w_arg rfl))))
  rw[jQ]at h5
  refine Jm fun q=>?_
  have q':(n:Int)<((ns.length:Nat):Int):=by omega
  first
   | (rw[decide_eq_true q']at h5;exact absurd h5 #[18])
   | (simp at h5;omega)
 cases hwl with
 | cons w1 w2 =>
  cases w2
  cases w1 with
  | list ho OG=>exact⟨_,_,ns,rfl,rfl,ho,BD ns _ OG,hlen⟩
theorem Pe(l:OpenLaw)(args:List WData):l.row.toRowW.claim.post args (.bool true) args=true:=
 postW_of (r:=l.row.toRowW) (X:=(true==true))
  (show WShape.has [] (.bool true) .bool=true by first|rfl|decide|simp[WShape.has,WShape.arms,WShape.armsAll])
  (show(WTm.eq .res (.lit (.bool true))).value [] { args:=args,res:=some (.bool true),after:=args }=some (.bool (true==true))from w_eq_bool (w_res rfl) w_lit) rfl
theorem F7{l:OpenLaw}{XP:(QB->Option Value)->Heap->Prop}{YP:World->Heap->Prop}{d:DefRec}(hn:l.most=some n)(hdf:d.params.defaults=[])(call:∀ (w:World) (s₀ s₁:QA) (mg mb:QB->Option Value) (fa:Zg) (o:Obj) (pm cd doc:Value) (a:Zg) (vs:List Value) (ns:List Int),
   Ground q loose [] XP w s₀ mg mb s₁.heap->YP w s₁.heap ->
   s₁.heap.get? fa=some o->o.data=.func (docDef d.name d.params d.body d.scope pm cd doc)->s₁.heap.CodeRec cd d.name->mg d.name=some (.ref fa) ->
   s₁.heap.get? a=some { cls:=.type "list",data:=.seq vs.toArray }->Zq vs ns->ns.length<=n->s₁.gens=#[] ->
   codeAny (model l.prog w) callerA #[210] #[49] s₁):
  WalkO q loose XP YP l.row.toRowW d [] (fun f vs=>yc f vs):=by
 intro w s₀ s₁ mg mb G Y fa o pm cd doc dV kV ho hd Dx hD hmg hg args vals as V0 amX hrd hwl hlo
 obtain rfl:dV=.none:=Dflts.none hD hdf
 obtain rfl:kV=.none:=Dflts.noKw hD
 obtain⟨a,vs,ns,rfl,rfl,abz,hints,hlen⟩:=Pj hn V0 hwl
 refine enter_call (QL (call w s₀ s₁ mg mb fa o pm cd doc a vs ns G Y ho (fd_plain hd) Dx hmg abz hints hlen hg) fun r s' hq=>?_)
 obtain⟨rfl,h2,h3,h4⟩:=hq
 exact⟨.inl ⟨.bool true,.bool true,[],rfl,fun _=>rfl,.bool true,Pe l _,fun _=>⟨List.Pairwise.nil,fun _ hm=>(nomatch hm)⟩⟩,h2,h3,h4⟩
section
def ledger(h:Heap)(L d:Zg):List #[44]:=(jn h.objs.size).filterMap fun a=>if a=L\/a=d then none else(h.get? a).map fun o=>(a,o)
end
end Att
namespace L2
open PySem PySem.Spec PyProof.Rows
variable{X:Cx}{prog:Zx}{w:World}{K:WC}{mg m:QB→Option Value}{base h':Heap}{A:Around}{n i:Nat}{x y:QB}{pos py:Pos}{H H':Hp}{l a c it:Zg}{xs:List V}{scope:Scope}{env:Zn}{pins:List (Zg×Obj)}{σ:St}{s:QA}{N:List QB}{ix:List (Option Nat)}{fp:List Zg}{R:Result→QA→Prop}{elt iter:Expr}{te:TE}{wi:TI}{Qd:Zg→Hp→Prop}{E:Value→QA→Prop}{lo:Int}
theorem Er:∀ {vs:List Value} {ns:List Int},Zq vs ns->Vals #[45] vs
 | _,_,.nil=>.nil
 | _,_,.cons n t h=>.cons ⟨t,rfl⟩ (Er h)
def inClass(s:Stmt)(j:Nat):Stmt:=match s with
 | .ClassDef _ _ _ body _ _ _ _ _ _ _=>body.getD j #[300]
 | _=>.Pass ⟨0,0,0,0⟩
def dh(s:Stmt):Zi:=match s with
 | .FunctionDef _ a _ _ _ _ _ _ _ _=>a
 | _=>{ posonlyargs:=[],args:=[],vararg:=none,kwonlyargs:=[],kw_defaults:=[],kwarg:=none,defaults:=[] }
def cu(s:Stmt):List Stmt:=match s with
 | .FunctionDef _ _ b _ _ _ _ _ _ _=>b
 | _=>[]
def aj(s:Stmt):Scope:=match s with
 | .FunctionDef _ _ _ _ _ _ sc _ _ _=>sc
 | _=>{ kind:=.function,names:=[],isGenerator:=false,isCoroutine:=false }
abbrev eA:FP:=fun _ _ _ _ _ _=>False
abbrev E0:XK:=fun _ _ _=>False
theorem Sj:Passes eA X E0:=fun _ _ _ _ _ _ _ h=>h.elim
theorem oP{k:Nat}(hr:cI k A):A.units+1<cLine:=zD (Nat.add_le_add_left (by decide:1<=64) _) hr.units
theorem aA(h:n<=1000):n<sizeLine:=zD h #[18]
section
theorem pv(i:Nat)(hN:X.N[i]?=some x:=by rfl)(hv:Vis X.env.scope x:=by first|exact Or.inl rfl|exact Or.inr #[231]|exact Or.inr (Or.inr rfl))(hd:#[16]=false:=by decide)(Dx:(x==("__classdict__" : QB))=false:=by decide):PE X #[266] (Dd i):=ow hN hv hd Dx
end
theorem pD{A B:Prop}(h:B):if false=true then A else B:=by
 rw[if_neg je]
 exact h
theorem oj{A B:Prop}(h:A):if true=true then A else B:=by
 rw[if_pos rfl]
 exact h
theorem abM{c A B:Prop}[Decidable c](h1:c->A)(h2:¬ c->B):if c then A else B:=by
 by_cases h:c
 ·rw[if_pos h]
  exact h1 h
 ·rw[if_neg h]
  exact h2 h
def aH(H H':Hp):Prop := ∀ b o,H b=some o->H' b=some o
theorem aH.trans{H1 H2:Hp}(a:aH H H1)(b:aH H1 H2):aH H H2:=fun c o h=>b c o (a c o h)
theorem aH.free(e:aH H H')(h:H' l=ZT):H l=ZT:=by
 cases q:H l with
 | none=>rfl
 | some o =>
  rw[e l o q]at h
  cases h
theorem aH.seq(e:aH H H')(h:pZ K H a xs):pZ K H' a xs:=by
 rcases h with(h|⟨o,h⟩)|h
 ·exact .inl (.inl (e _ _ h))
 ·exact .inl (.inr ⟨o,e _ _ h⟩)
 ·exact .inr h
def dQ(cells:List #[282]):List (QB×Zu)->List #[282]->List #[282]
 | [],cs=>cs
 | (n,k) :: r,cs=>dQ cells r (if k==.free then(n,(cells.lookup n).getD 0) :: cs else cs)
theorem tu(h:∀ y∈scope.names,y.2=.free->∃ c,env.cells.lookup y.1=some c):
  closureFor scope env=pure (dQ env.cells scope.names []):=by
 have all:∀ (ns:List (QB×Zu)) (cs:List #[282]),(∀ y∈ns,y.2=.free->∃ c,env.cells.lookup y.1=some c) ->
   (forIn ns cs (fun(x:QB×Zu) (r:List #[282])=>(match x with
    | (name,kind)=>if (kind==NameKind.free)=true then(do let c <- cellOf env name;pure (ForInStep.yield ((name,c) :: r)))else pure (ForInStep.yield r):Zy (ForInStep (List #[282])))):Zy (List #[282]))
   = pure (dQ env.cells ns cs):=by
  intro ns
  induction ns with
  | nil=>intro cs _;rfl
  | cons y r ih =>
   intro cs hy
   obtain⟨n,k⟩:=y
   rw[zp]
   by_cases hk:k=.free
   ·subst hk
    obtain⟨c,e⟩:=hy (n,.free) jE rfl
    have e':env.cells.lookup n=some c:=e
    have e1:cellOf env n=pure c:=by unfold cellOf;rw[e']
    simp only[beq_self_eq_true,if_true,e1,pure_bind]
    rw[ih _ fun z hz=>hy z (jK _ hz)]
    simp only[dQ,beq_self_eq_true,if_true,e',zb]
   ·have hb:(k==NameKind.free)=false:=by simpa using hk
    simp only[hb,JB,if_false,pure_bind]
    rw[ih _ fun z hz=>hy z (jK _ hz)]
    simp only[dQ,hb,JB,if_false]
 unfold closureFor
 have q:=all scope.names [] h
 simp only[bind_pure]
 exact q
theorem tj(cells:List #[282]):∀ (ns:List (QB×Zu)) (cs:List #[282]),(dQ cells ns cs).lookup x=some c ->
  (#[303]∈ns/\(cells.lookup x).getD 0=c)\/cs.lookup x=some c
 | [],_,h=>.inr h
 | (n,k) :: r,cs,h=>by
  rcases tj cells r _ h with⟨h1,h2⟩|h1
  ·exact .inl ⟨jK _ h1,h2⟩
  ·by_cases hk:k=.free
   ·subst hk
    simp only[beq_self_eq_true,if_true]at h1
    by_cases hx:x=n
    ·subst hx
     simp only[jq,beq_self_eq_true]at h1
     exact .inl ⟨jE,Option.some.inj h1⟩
    ·have hb:(x==n)=false:=by simpa using hx
     simp only[jq,hb]at h1
     exact .inr h1
   ·have hb:(k==NameKind.free)=false:=by simpa using hk
    simp only[hb,JB,if_false]at h1
    exact .inr h1
theorem pA(cells:List #[282])(e:cells.lookup x=some c):∀ (ns:List (QB×Zu)) (cs:List #[282]),(#[303]∈ns\/cs.lookup x=some c) ->
  (dQ cells ns cs).lookup x=some c
 | [],_,h=>by
  rcases h with h|h
  ·cases h
  ·exact h
 | (n,k) :: r,cs,h=>by
  refine pA cells e r _ ?_
  rcases h with h|h
  ·rcases jW.mp h with z|z
   ·cases z
    right
    simp only[beq_self_eq_true,if_true,jq,e,zb]
   ·exact .inl z
  ·right
   by_cases hk:(k==NameKind.free)=true
   ·rw[if_pos hk]
    by_cases hx:x=n
    ·subst hx
     simp only[jq,beq_self_eq_true,e,zb]
    ·have hb:(x==n)=false:=by simpa using hx
     simp only[jq,hb]
     exact h
   ·rw[if_neg hk]
    exact h
theorem Ah{env:Zn}:∀ {names:List (QB×Zu)} {x:QB},names.lookup x=some .free ->
  #[86].lookup x=some .cell \/
  #[86].lookup x=some .free
 | [],_,h=>by simp at h
 | (n,k) :: r,x,h=>by
  have ih:=@Ah env r x
  show JY x (#[134] :: _)=_ \/
   JY x (#[134] :: _)=_
  cases hx:x==n with
  | true =>
   simp only[jq,hx]at h
   cases h
   by_cases hc:(NameKind.free==NameKind.free&&env.scope.kind==.function&&env.kindOf n==some .cell)=true
   ·rw[if_pos hc];simp only[jq,hx];first|exact .inl trivial|exact .inl rfl
   ·rw[if_neg hc];simp only[jq,hx];first|exact .inr trivial|exact .inr rfl
  | false =>
   simp only[jq,hx]at h
   exists 81
   ·rw[if_pos hc];simp only[jq,hx];exact ih h
   ·rw[if_neg hc];simp only[jq,hx];exact ih h
theorem pN{env:Zn}:∀ {names:List (QB×Zu)} {x:QB} {k':Zu},k'=.cell\/k'=.free->(∀ y∈names,y.2≠.cell) ->
  #[86].lookup x=some k'->#[303]∈names
 | [],_,_,_,_,h=>by simp at h
 | (n,k) :: r,x,k',J1,hn,h=>by
  have ih:=@pN env r x k' J1 (fun y hy=>hn y (jK _ hy))
  have h':JY x (#[134] :: (r.map fun(n,k)=>if #[13]then(n,NameKind.cell)else(n,k)))=some k' := h
  have hkc:k≠.cell:=hn (n,k) jE
  cases hx:x==n with
  | true =>
   have hxn:x=n:=by simpa using hx
   subst hxn
   by_cases hc:(k==NameKind.free&&env.scope.kind==.function&&env.kindOf x==some .cell)=true
   ·have hk:k=.free:=by
     simp only[ZV,beq_iff_eq]at hc
     exact hc.1.1
    subst hk
    exact jE
   ·rw[if_neg hc]at h'
    simp only[jq,beq_self_eq_true]at h'
    have hk:k=k' := Option.some.inj h'
    rcases J1 with z|z
    ·exact absurd (hk.trans z) hkc
    ·rw[hk,z];exact jE
  | false =>
   refine jK _ (ih ?_)
   exists 81
   ·rw[if_pos hc]at h'
    simpa only[jq,hx]using h'
   ·rw[if_neg hc]at h'
    simpa only[jq,hx]using h'
def br(ix:List (Option Nat))(σ:St):St:=ix.map fun o=>match o with
 | none=>none
 | some i=>(σ[i]?).join
structure bA(NX:List QB)(scX:Scope)(N:List QB)(ix:List (Option Nat))(sc:Scope):Prop where
 kind:sc.kind=.function
 nd:N.Nodup
 nocell:∀ y∈sc.names,y.2≠.cell
 locs:∀ y∈sc.names,y.2=.local->sc.names.lookup y.1=some .local
 free:∀ y∈sc.names,y.2=.free->scX.names.lookup y.1=some .cell\/scX.names.lookup y.1=some .free
 len:ix.length=N.length
 at_:∀ p∈N.zip ix,∀ i,p.2=some i->NX[i]?=some p.1/\sc.names.lookup p.1=some .free
def ij(X:Cx)(N:List QB)(scope:Scope)(fp:List Zg)(s:QA)(H:Hp)(C:Zg):Cx:=
 { prog:=X.prog,w:=X.w,K:=X.K,mg:=X.mg,base:=X.base,A:=X.A,N:=N,s₀:=s,H₀:=H,env:=compEnvC scope #[146] C X.env,outer:=X.stack,stack:=X.stack,ex:=fp,fn:=fun _=>false,calm:=X.calm,pn:=X.pn,xe:=fun _ _=>False }
theorem BF{names:List (QB×Zu)}(h:names.lookup x=some .free):#[303]∈names:=WK h
section
theorem bA.bc(S:bA X.N X.env.scope N ix scope)(ok:X.Ok):∀ y∈scope.names,y.2=.free->∃ c,X.env.cells.lookup y.1=some c:=fun y hy hf=>ok.has y.1 (S.free y hy hf)
theorem OM{D C:Zg}{tk:Nat}(I:Inv X pins σ H s)(S:bA X.N X.env.scope N ix scope)(hf:∀ b∈fp,tL X pins H b)(hfo:∀ b∈fp,∃ o,s.heap.get? b=some o/\∀ v,o.data≠.cell v)(hD:s.heap.objs.size<=D)(hC:s.heap.objs.size<=C)(hDC:D≠C)(hk:∀ b o,s.heap.get? b=some o->h'.get? b=some o)(hns:h'.Ns C m)(hl:∃ n,h'.get? D=some { cls:=.type "list",data:=.seq ([]:List Value).toArray n }):
  Inv #[89] pins #[107] #[84] { s with heap:=h',toks:=tk }:=by
 have fresh:∀ {a:Zg},s.heap.objs.size<=a->H a=none:=fun h=>I.hok.fresh h
 have DS:∀ x c,#[146].lookup x=some c->X.env.cells.lookup x=some c:=fun x c e=>by
  rcases tj _ _ _ e with⟨h1,h2⟩|h1
  ·obtain⟨c',e'⟩:=S.bc I.ok _ h1 rfl
   have e'':X.env.cells.lookup x=some c' := e'
   rw[e'']at h2
   rw[e'']
   exact congrArg some h2
  ·simp at h1
 have ltO:∀ {b:Zg} {o:Obj},s.heap.get? b=some o->b<s.heap.objs.size:=fun e=>jJ e
 have neC:∀ {b:Zg} {o:Obj},s.heap.get? b=some o->b≠C:=fun e=>jO (jV (ltO e) hC)
 have neD:∀ {b:Zg} {o:Obj},s.heap.get? b=some o->b≠D:=fun e=>jO (jV (ltO e) hD)
 have adI:∀ x c,X.env.cells.lookup x=some c->∃ o,s.heap.get? c=some o:=fun x c e=>by
  obtain⟨v,o,ho,_⟩:=I.cell x c e
  exact⟨o,ho⟩
 refine⟨⟨I.ok.mod,?_,I.ok.glob,I.ok.blt,hC,fun x y c e1 e2=>I.ok.inj x y c (DS x c e1) (DS y c e2),fun x hx=>?_,fun x c h _=>?_,I.ok.hd,I.ok.frames,.inl rfl,fun b hb=>?_,I.bs,jo I.ok.bsz I.sz,fun b o e hb=>?_,fun b hb Tt=>?_,I.stack,I.Fv⟩,
  rfl,I.bare,Un.laid hk hD (fresh hD),⟨m,hns,fun j x v e1 e2 e3=>?_⟩,fun x c e=>?_,?_,fun x c e=>?_,fun p hp=>?_,I.hok.laid hk hD ?_,?_⟩
 ·exact S.kind
 ·have Mq:#[303]∈scope.names:=by
   rcases hx with hx|hx
   ·exact pN #[62] S.nocell hx
   ·exact pN (.inr rfl) S.nocell hx
  obtain⟨c,e⟩:=S.bc I.ok _ Mq rfl
  exact⟨c,pA _ e _ _ (.inl Mq)⟩
 ·exact absurd (show false=true from h) je
 ·obtain⟨f0,f1,f2,f3,f4,f5⟩:=hf b hb
  obtain⟨o,e,_⟩:=hfo b hb
  exact⟨neC e,fun x c ec=>f4 x c (DS x c ec)⟩
 ·obtain⟨f0,f1,f2,f3,f4,f5⟩:=hf b hb
  rcases f3 with z|z
  ·exact I.ok.noex b o e z
  ·exact absurd (jV (jJ (I.ok.bs b o e).1) z) (JZ _)
 ·obtain⟨f0,f1,f2,f3,f4,f5⟩:=hf b hb
  rcases jW.mp (I.Fw b Tt)with z|z
  ·exact f1 z
  ·exact f2 z
 ·-- a aiM value
  obtain⟨mX,hnX,hlX⟩:=id I.loc
  have hj:#[107][j]?=some (some v):=e2
  unfold br at hj
  rw[jP]at hj
  cases ej:ix[j]? with
  | none=>rw[ej]at hj;cases hj
  | some o =>
   rw[ej]at hj
   cases o with
   | none=>cases hj
   | some i =>
    have hj':(σ[i]?).join=some v:=Option.some.inj hj
    have hz:(x,some i)∈N.zip ix:=JD.mpr ⟨j,by rw[zY];exact⟨e1,ej⟩⟩
    obtain⟨hNi,FJ⟩:=S.at_ _ hz i rfl
    have aep:=BF FJ
    have hσ:σ[i]?=some (some v):=by
     cases q:σ[i]? with
     | none=>rw[q]at hj';cases hj'
     | some w' =>
      rw[q]at hj'
      have q':w'=some v:=hj'
      rw[q']
    have hvx:X.env.scope.names.lookup x=some .cell\/X.env.scope.names.lookup x=some .free:=S.free _ aep rfl
    obtain⟨u,r,lk⟩:=hlX i x v hNi hσ (.inr hvx)
    refine⟨u,r,.inr ⟨?_,?_⟩⟩
    ·exact Ah FJ
    ·rcases lk with⟨k,_⟩|⟨k,c,ec,ci⟩
     ·have k':X.env.scope.names.lookup x=some .local:=k
      rcases hvx with z|z
      ·rw[z]at k';cases k'
      ·rw[z]at k';cases k'
     ·obtain⟨oc,hoc,abA⟩:=ci
      exact⟨c,pA _ ec _ _ (.inl aep),oc,hk c oc hoc,abA⟩
 ·obtain⟨v,o,ho,hd⟩:=I.cell x c (DS x c e)
  exact⟨v,o,hk c o ho,hd⟩
 ·show upd H D (.lst []) C=none
  rw[af (Ne.symm hDC)]
  exact fresh hC
 ·obtain⟨o,ho⟩:=adI x c (DS x c e)
  rw[af (neD ho)]
  exact I.freeC x c (DS x c e)
 ·exists 139
  refine⟨hk _ _ e,by rw[af (neD e)];exact n,neC e,fun z=>?_,d⟩
  rcases jW.mp (I.Fw p.1 z)with q|q
  ·exact ne q
  ·exact nf q
 ·obtain⟨n,hl⟩:=hl
  exact⟨jb _,[],n,.nil,hl⟩
 ·show#[107].length=N.length
  unfold br
  rw[jQ]
  exact S.len
end
theorem F9{target:Expr}{it acc:Value}(I:Nat->QA->Prop)(turn:∀ n s,I n s->wpAny #[8] A (pyNext it) (fun r s₁=>match r with
   | none=>R (.ok .next) s₁
   | some v=>wpAny #[8] A (letOwnedTupleGo target it v) (fun _ aaR=>wpAny #[8] A (assign target env v) (fun _ s₂=>wpAny #[8] A (eval elt env) (fun x s₃ =>
     wpAny #[8] A (call (.builtin "list.append") [acc,x]) (fun _ s₄=>∃ m,m<n/\I m s₄) (fun _ _=>False) s₃)
     (fun _ _=>False) s₂) (fun _ _=>False) aaR) (fun _ _=>False) s₁) (fun _ _=>False) s)(n:Nat)(h:I n s):
  codeAny #[8] A (.compLoop #[312] 0 it acc env) R s:=by
 refine codeAny_loop rfl I (fun n s hI=>?_) n h
 show wpAny _ _ ((compTurn #[312] 0 it acc env).onRaise (fun x=>do noteFrame x env;theTreesLotGoes x)) _ _ s
 refine wpAny_noted ?_
 rw[compTurn_list1]
 refine Qq (qw (Qq (qO (turn n s hI) (fun r s₁ h₁=>?_) fun _ _ h'=>h'.elim)))
 cases r with
 | none=>exact qX h₁
 | some v =>
  refine Qq (qO h₁ (fun _ aaR aeC=>?_) fun _ _ h'=>h'.elim)
  exact Qq (qO aeC (fun _ s₂ h₂=>Qq (Qq (qO h₂ (fun x s₃ h₃=>Qq (qO h₃
   (fun _ s₄ h₄=>qX (qX ⟨rfl,h₄⟩)) fun _ _ h'=>h'.elim)) fun _ _ h'=>h'.elim))) fun _ _ h'=>h'.elim)
def wq(J:It)(ix:List (Option Nat))(g:TG)(te:TE)(σ:St)(H:Hp)(Qd:Zg->Hp->Prop):Prop:=
 ∀ D,H D=none->∃ W:Nat->Nat->St->Hp->Prop,(∃ m,W 0 m #[107] #[84])/\∀ i m σ' H',W i m σ' H' ->
  (J.stop i H'/\Qd D H')\/(J.go i H'/\∀ x H2,J.yld i H' x H2->g x σ' H2 fun σ3 H3=>te σ3 H3 fun y H4=>∃ ys,H4 D=some #[203]/\ys.length<sizeLine/\∃ m',m'<m/\W (i+1) m' σ3 (upd H4 D (.lst (ys++[y]))))
section
variable{tg:Expr}{aaf:Pos}{J:It}{tn:Nat->Heap->Prop}{g:TG}
theorem G0{RR:Value->Zg->Result->QA->Prop}{E:Value->QA->Prop}(I:Inv X pins σ H s)(hc:X.calm=true)(S:bA X.N X.env.scope N ix scope)(T:Turn X.prog X.w X.K tg J fp it tn)(st:tn 0 s.heap)(f2:∀ b∈fp,tL X pins H b)(hg:∀ C,PG #[89] tg g)(he:∀ C,PE #[89] elt te)(hW:wq J ix g te σ H Qd)(hR:∀ D C s' H' m,Inv X pins σ H' s'->s'.heap.Ns C m->tL X pins H' C->Qd D H'->RR #[103] C (.ok .next) s'):
  wpAny #[5] X.A (newList []) (fun acc s₃=>wpAny #[5] X.A (newFunctionEnv scope X.env.globals #[146] [] X.env.qual none .none (some X.env)) (fun adJ s₄ =>
   codeAny #[5] X.A (.compStart #[34] 0 #[189] acc { adJ with scope:=relabel scope X.env }) (RR acc adJ.locals) s₄) E s₃) E s:=by
 refine qR (qP S.nocell (by intro y hy;simp at hy) (fun h₁ J2 ES=>?_) S.kind)
 dsimp only at J2 ES ⊢
 generalize hH2:s.heap.push { cls:=.type "list",dict:=none,data:=.seq ([]:List Value).toArray }=H2 at J2 ES ⊢
 have hC:H2.objs.size=s.heap.objs.size+1:=by rw[<- hH2,JW]
 have hDC:s.heap.objs.size≠H2.objs.size:=by rw[hC];exact jO (Jl _)
 have adX:s.heap.objs.size<=H2.objs.size:=by rw[hC];exact JM _
 have below:∀ b,b<s.heap.objs.size->b≠H2.objs.size:=fun b hb=>by rw[hC];exact jO (zU hb)
 have old:∀ b o,s.heap.get? b=some o->h₁.get? b=some o:=fun b o e=>ES.extBut b o (below b (jJ e)) (jB _ (hH2 ▸ jB _ e))
 have wW:∃ n,h₁.get? s.heap.objs.size=some { cls:=.type "list",data:=.seq ([]:List Value).toArray n }:=⟨_,ES.extBut _ _ hDC (jB _ (hH2 ▸ jL _ rfl))⟩
 have Pl:tn 0 h₁:=T.keep _ _ _ st fun b _ o e=>old b o e
 have fo:∀ b∈fp,∃ o,s.heap.get? b=some o/\∀ v,o.data≠.cell v:=T.obj _ _ st
 have I0:Inv #[80] pins #[107] (upd H s.heap.objs.size (.lst [])) { s with heap:=h₁,toks:=s.toks+([]:List #[260]).length }:=
  OM I S f2 fo (jF _) adX hDC old J2 wW
 have freshD:H s.heap.objs.size=none:=I.hok.fresh (jF _)
 obtain⟨W,⟨m0,w0⟩,turn⟩:=hW s.heap.objs.size freshD
 have adK:∀ b∈fp,b≠H2.objs.size:=fun b hb=>by
  obtain⟨o,e,_⟩:=fo b hb
  exact below b (jJ e)
 have LC:∀ {H':Hp},#[184]->∀ b∈fp,tL #[80] pins H' b:=fun hn b hb=>by
  obtain⟨f0,f1,f3,f4,f5,f6⟩:=f2 b hb
  exact⟨hn b hb,adK b hb,I0.ok.exfs b hb,.inl hb,(I0.ok.exf b hb).2,f6⟩
 have fr0:∀ b∈fp,(upd H s.heap.objs.size (.lst [])) b=none:=fun b hb=>by
  obtain⟨o,e,_⟩:=fo b hb
  rw[af (jO (jJ e))]
  exact(f2 b hb).1
 have loop:codeAny #[5] X.A (.compLoop #[34] 0 #[189] #[25] (compEnvC scope #[146] H2.objs.size X.env))
   (RR #[25] H2.objs.size) { s with heap:=h₁,toks:=s.toks+([]:List #[260]).length }:=by
  refine F9 (fun n s'=>∃ i σ' H',Inv #[80] pins σ' H' s'/\tn i s'.heap/\#[184]/\W i n σ' H') ?_ m0 ⟨0,_,_,I0,Pl,fr0,w0⟩
  rintro n s3 ⟨i,σ3,H3,I3,st3,fr3,w3⟩
  rcases turn i n σ3 H3 w3 with⟨stop,qn⟩|⟨go,step⟩
  ·refine cf (T.done #[80] rfl rfl rfl hc i pins s3 σ3 H3 _ I3 (LC fr3) st3 stop) fun r s4 ⟨hr,I4⟩=>?_
   subst hr
   obtain⟨m4,hn4,_⟩:=id I4.loc
   refine hR _ _ s4 H3 m4 ?_ hn4 (I.Cs adX I4.free) qn
   exact I.DP (ch:=fp) I4.os I4.base I4.hok I4.bare fun b hb=>by
    obtain⟨f0,f1,f3,f4,f5,f6⟩:=f2 b hb
    exact⟨f4,f1,f5,f6⟩
  ·refine cf (T.item #[80] rfl rfl rfl hc i pins s3 σ3 H3 _ I3 (LC fr3) st3 go) fun r s4 ⟨u,hr,h4⟩=>?_
   subst hr
   refine cf h4 fun _ s5 ⟨x,H5,I5,r5,y5,Iv,fr5⟩=>?_
   have I5' := I5.pinned (LC fr5) (T.obj _ _ Iv)
   refine cf (hg _ _ s5 σ3 H5 x u _ I5' r5 (step x H5 y5)) fun _ s6 ⟨σ6,H6,I6,q6⟩=>?_
   refine cf (he _ _ s6 σ6 H6 _ I6 q6) fun yv s7 ⟨y,H7,I7,r7,ys,T7,hz7,m',hm,w7⟩=>?_
   refine cf (cc (X:=ij X N scope fp s H H2.objs.size) _ s7 σ6 H7 #[25] [y] #[25] [yv] (fun _ H8=>W (i+1) m' σ6 H8) I7 rfl (.cons r7 .nil) ⟨_,ys,y,rfl,rfl,T7,hz7,w7⟩) fun _ s8 ⟨_,H8,I8,_,w8⟩=>?_
   refine⟨m',hm,i+1,σ6,H8,I8.An,T.keep _ _ _ Iv fun b hb o e=>(I8.pin (b,o) #[242]).1,fun b hb=>?_,w8⟩
   obtain⟨o,e,d⟩:=T.obj _ _ Iv b hb
   exact(I8.pin (b,o) #[242]).2.1
 exact codeAny_compStart_list loop (T.self _ _ _ _ _ Pl loop)
def aaT(ix:List (Option Nat))(wi:TI)(g:TG)(te:TE):TE:=fun σ H Q=>wi σ H fun J H1=>wq J ix g te σ H1 fun D H'=>Q #[103] H'
theorem di(hc:X.calm=true)(S:bA X.N X.env.scope N ix scope)(hi:PI X tg iter wi)(hg:∀ fp s H C,PG #[89] tg g)(he:∀ fp s H C,PE #[89] elt te)(hs:∀ x,foldedSetIterable iter X.env x=pure x:=by intro _;rfl):PE X #[34] (aaT ix wi g te):=by
 exists 4
 rw[eval_ListComp]
 refine Qu (use:=none) rfl hs (tu (S.bc I.ok)) S.kind S.locs #[78]
 obtain⟨it,fp,tn,J,H2,e,I2,T,st2,f2,hW⟩:=h2
 subst e
 refine G0 (RR:=fun acc C=>compPost #[5] X.A X.xe none #[74] acc C) I2 hc S T st2 f2 (hg _ _ _) (he _ _ _) hW ?_
 intro D C s' H' m I' hn fC q
 exact⟨m,hn,fun h' sb=>⟨.ref D,H',I'.turned (t' := s'.toks) (fun b o hb e=>(sb.2 b hb).trans e) fC.1 fC.2.1 fC.2.2.2.1 fC.2.2.2.2.1 fC.2.2.2.2.2,rfl,q⟩⟩
theorem mC(hc:X.calm=true)(hN:X.N.Nodup)(hyi:X.N[i]?=some y)(hy:Loc X.env.scope y)(S:bA X.N X.env.scope N ix scope)(hi:PI X tg iter wi)(hg:∀ fp s H C,PG #[89] tg g)(he:∀ fp s H C,PE #[89] elt te)(hsw:Qc #[34] (some (.Name y py)) aaf.line X.env=pure true:=by rfl)(hf:X.fn y=true\/X.env.scope.names.lookup y=some .local:=by first|exact .inl rfl|exact .inr rfl|assumption)(hs:∀ x,foldedSetIterable iter X.env x=pure x:=by intro _;rfl):PS X (.Assign [.Name y py] #[34] aaf) (Am (aaT ix wi g te) (bC i)):=by
 exists 39
 rw[exec_Assign_Name_used _ _ _ _ hsw]
 refine Qq (qw (Qq ?_))
 show wpAny _ X.A (do let _ <- comprehension #[34] scope X.env _ (newList []) false (eval iter X.env) (some #[322])) _ _ s
 refine Qq (qO (Qu (use:=some #[322]) (Q:=fun _ s'=>SP X pins D .next s') rfl hs (tu (S.bc I.ok)) S.kind S.locs
  #[78]) (fun _ s' hq=>qX (qX hq)) fun _ _ e=>e)
 obtain⟨it,fp,tn,J,H2,e,I2,T,st2,f2,hW⟩:=h2
 subst e
 refine G0 (RR:=fun acc C=>compPost #[5] X.A X.xe (some #[322]) (fun _ s'=>SP X pins D .next s') acc C) I2 hc S T st2 f2 (hg _ _ _) (he _ _ _) hW ?_
 intro Dl C s' H' m I' hn fC q
 show wpAny _ X.A (assign (.Name y py) X.env (.ref Dl)) _ _ s'
 refine Qo (Eo I' hN hyi hy (v:=.ref Dl) rfl (fun s2 I2' hsb=>?_) hf)
 obtain⟨a,sb,ha⟩:=hsb
 refine⟨m,hn.sameBut sb ?_,fun h3 sb3=>⟨_,H',I2'.turned (t' := s2.toks) (fun b o hb e=>(sb3.2 b hb).trans e) fC.1 fC.2.1 fC.2.2.2.1 fC.2.2.2.2.1 fC.2.2.2.2.2,q⟩⟩
 rcases ha with z|z
 ·rw[z];exact fC.2.1
 ·exact Ne.symm (fC.2.2.2.2.1 _ _ z)
end
theorem mx(Pv:Zg->Nat->List V->Hp->Prop)(h0:∀ D,H D=none->Pv D 0 [] #[84])(hs:∀ D i ys H' (Q':VK),H D=none->i<n->H' D=some #[203]->Pv D i ys H'->#[7] ->
   te (#[107].set 0 (some (.int (lo+i)))) H' Q')(hd:∀ D ys H',H D=none->H' D=some #[203]->Pv D n ys H'->Qd D H'):wq (Itr lo n) ix (bC 0) te σ H Qd:=by
 intro D hD
 refine⟨fun i m σ' H'=>m=n-i/\i<=n/\(σ'=br ix σ\/∃ t,σ'=#[107].set 0 t)/\∃ ys,H' D=some #[203]/\Pv D i ys H',⟨n,by simp,jb _,.inl rfl,[],ae,h0 D hD⟩,?_⟩
 exists 48
 by_cases fu:i<n
 ·refine .inr ⟨fu,fun x H2 y=>?_⟩
  obtain⟨e1,e2⟩:=y
  subst e1
  subst e2
  have es:σ'.set 0 (some (V.int (lo+i)))=#[107].set 0 (some (V.int (lo+i))):=by
   exists 158
   ·rw[z]
   ·rw[z,Jx]
  show te (σ'.set 0 (some (V.int (lo+i)))) _ _
  rw[es]
  refine hs D i ys _ _ hD fu hy p fun y H4 h4 hz p4=>⟨ys,h4,hz,n-(i+1),by omega,rfl,fu,.inr ⟨_,rfl⟩,ys++[y],ae,p4⟩
 ·have e:i=n:=by omega
  subst e
  exact .inl ⟨jF _,hd D ys H' hD hy p⟩
theorem lY(Pv:Zg->Nat->List V->Hp->Prop)(h0:∀ D,H D=none->Pv D 0 [] #[84])(hl:∀ D i ys H',i<=xs.length->Pv D i ys H'->pZ K H' a xs)(hs:∀ D i x ys H' (Q':VK),H D=none->xs[i]?=some x->H' D=some #[203]->Pv D i ys H'->#[7] ->
   te (#[107].set 0 (some x)) H' Q')(hd:∀ D ys H',H D=none->H' D=some #[203]->Pv D xs.length ys H'->Qd D H'):wq (Itl K a) ix (bC 0) te σ H Qd:=by
 intro D hD
 exists 11
 exists 48
 have q:=hl D i ys H' hi p
 exists 160
 ·refine .inr ⟨⟨xs,xs[i],q,by simp[fu]⟩,fun x H2 y=>?_⟩
  obtain⟨e1,e2⟩:=y
  subst e1
  have ex:=e2 xs q
  have es:σ'.set 0 (some x)=#[107].set 0 (some x):=by
   exists 158
   ·rw[z]
   ·rw[z,Jx]
  show te (σ'.set 0 (some x)) _ _
  rw[es]
  exists 30
 ·exists 133
  subst e
  exact .inl ⟨⟨xs,q,jF _⟩,hd D ys H' hD hy p⟩
section
def ai5(K:WC):List V->Hp->VK->Prop:=fun xs H Q=>∃ x n t b,xs=[x,.ty n]/\oh K H x t/\WM K t (.type n)=some b/\Q (.bl b) H
theorem iP:lK X #[252] (ai5 X.K):=by
 exists 19
 obtain⟨x,n,t,b,rfl,ty,e,q⟩:=h
 obtain⟨u,v,rfl,ru,rv⟩:=r.two
 cases(show v=WW n from rv)
 exact ON I ru ty e fun tk=>⟨.bl b,H,I.tok tk,rfl,q⟩
end
end L2
namespace HT
open PySem PySem.Spec PyProof.Rows
end HT
namespace L2
open PySem PySem.Spec PyProof.Rows
variable{X:Cx}{P:Zx}{w:World}{K:WC}{mg:QB→Option Value}{base:Heap}{x qual:QB}{st:Stmt}{dV oc:Value}{f p:Zg}{fd:Zo}{ps:List QB}{sp:Sp}{ds:List Value}{o:Obj}{items:Array Value}{n:Nat}{od an:Option Zg}{Dm:Array (Option Value)}{fY:List V}{e:Expr}{es:List Expr}{H:Hp}{c:TT}{tb:TS}{D:Ends}{σ:St}{s:QA}
structure bE(K:WC)(x qual:QB)(st:Stmt)(dV:Value)(f:Zg)(fd:Zo):Prop where
 ex:∃ (oc:Value) (od:Option Zg) (kV doc pm:Value) (an:Option Zg) (ck ct:Value) (Dm:Array (Option Value)),
  fd=WN x qual (dh st) (cu st) (aj st) dV kV doc pm an ck ct/\K.lookup f=some ⟨oc,od,.func fd,Dm⟩/\WX K ck qual=true
 kp:WL K #[46]=true
section
theorem bE.ok{N:List QB}{k:Nat}(F:bE K x qual st dV f fd)(S:aJ N ps (aj st))(len:∀ vs H Q E,sp vs H Q E->vs.length=ps.length)(rM:∀ (ck:Value) (A:Around) (outer:List Zn) (s:QA) (H:Hp) (vs:List V) (Q:VK) (E:XK),cI k #[109]->sp vs H Q E ->
   ∃ t,Ey (Ay eA P w K mg base N qual (aj st) f ck A outer s H E).nox (cu st) t/\t { nx:=fun _ H'=>Q .non H',rt:=Q } #[150] H):bu P w K mg base eA (k+1) f fd ps sp:=by
 exists 17
 refine aat lk Dx S len fun A outer s H vs Q E hr FK=>?_
 obtain⟨t,h,q⟩:=rM ck A outer s H vs Q E hr FK
 exact⟨t,h.nox,q⟩
theorem bE.binds(F:bE K x qual st .none f fd)(h:∀ (kV doc pm:Value) (an:Option Zg) (ck ct:Value) (us:List Value),us.length=ps.length->bindArgs (WN x qual (dh st) (cu st) (aj st) .none kV doc pm an ck ct) ⟨us,[]⟩=pure #[145]):Binds K fd ps []:=by
 exists 17
 exact .all (h kV doc pm an ck ct)
theorem bE.IM{T:Zg}(F:bE K x qual st (.ref T) f fd)(ho:K.lookup T=some o)(hs:o.data=.seq items n)(m:Nat)(hm:m+ds.length=ps.length)(h:∀ (kV doc pm:Value) (an:Option Zg) (ck ct:Value) (us:List Value),us.length=m->∃ k:Option (Array Value)->Zy (List #[260]),
   bindArgs (WN x qual (dh st) (cu st) (aj st) (.ref T) kV doc pm an ck ct) ⟨us,[]⟩=seqItems? (.ref T)>>=k/\k (some items)=pure (ps.zip (us++ds))):Binds K fd ps ds:=by
 exists 17
 intro s us X hl
 obtain⟨k,h1,h2⟩:=h kV doc pm an ck ct us (by rw[jG]at hl;omega)
 exact BindsTo.of_defaults (fd:=WN x qual (dh st) (cu st) (aj st) (.ref T) kV doc pm an ck ct) rfl (X _ _ ho) hs h1 h2
theorem sA{kV doc pm ck ct:Value}(l:K.lookup f=some ⟨oc,od,.func #[247],Dm⟩)(c:WX K ck qual=true)(k:WL K #[46]=true):bE K x qual st dV f #[247]:=⟨⟨oc,od,kV,doc,pm,an,ck,ct,Dm,rfl,l,c⟩,k⟩
structure cx(P:Zx)(w:World)(K:WC)(mg:QB->Option Value)(base:Heap)(x:QB)(k:Nat)(ps:List QB)(fY:List V)(sp:Sp):Prop where
 ex:∃ (f:Zg) (fd:Zo) (ds:List Value),mg x=some #[46]/\WL K #[46]=true/\Vals fY ds/\Binds K fd ps ds/\bu P w K mg base eA k f fd ps sp
end
section
variable{j k:Nat}{p pos:Pos}{t:TA}
theorem bF(G:cx X.prog X.w X.K X.mg X.base x k ps fY sp)(hr:cI j X.A)(ha:PA X (e :: es) t)(hx:∀ e s,X.xe e s=False:=by intro _ _;rfl)(Hn:k<=j:=by decide)(hg:Gl X x:=by rfl)(AF:#[16]=false:=by decide)(he:Qa (e :: es) X.env=#[17] :: Qa es X.env:=by rfl)(tw:#[20].any (·.1)=false:=by rfl):
  PE X #[19] (Iy sp fY E0 t):=by
 exists 88
 exists 98
end
theorem rQ(K:WC):WM K #[265] #[265]=some true:=by with_unfolding_all rfl
theorem pG(K:WC):WM K #[265] (.type "bool")=some false:=by with_unfolding_all rfl
theorem ao(h:H p=none)(o:HO):aH H (upd H p o):=fun b u q=>by rw[af (ah q h)];exact q
theorem small(h:n<=1000):n<=sizeLine:=Jv (aA h)
theorem bH:QE "len" = some #[206]:=by decide +kernel
theorem bN:QE "isinstance" = some #[252]:=by decide +kernel
theorem PZ:QE "int" = some #[265]:=by decide +kernel
theorem L7:QE "bool" = some (.type "bool"):=by decide +kernel
theorem bO:QE "tuple" = some (.type "tuple"):=by decide +kernel
theorem wO:QE "list" = some #[273]:=by decide +kernel
theorem BN:QE "dict" = some #[272]:=by decide +kernel
theorem EH:QE "set" = some (.type "set"):=by decide +kernel
theorem B0(Pv:Nat->St->Hp->Prop)(h0:∃ m,Pv m σ H)(hs:∀ m σ H,Pv m σ H->c σ H fun b H1=>if b=true then ∃ N:St->Hp->Prop,(∀ σ' H',N σ' H'->∃ m',m'<m/\Pv m' σ' H')/\tb { D with nx:=N,ct:=N,bk:=D.nx } σ H1 else D.nx σ H1):wo c tb D σ H:=⟨Pv,h0,hs⟩
end L2
namespace PySem
end PySem
namespace L2
open PySem PySem.Spec PyProof.Rows
variable{X:Cx}{pos:Pos}{e value:Expr}{d y v:V}{td te tv:TE}{prog P:Zx}{w:World}{A:Around}{E Q:Value→QA→Prop}{s:QA}{K:WC}{a b:Zg}{xs:List V}{ix:List (Option Nat)}{σ:St}{H H':Hp}{Qd:Zg→Hp→Prop}{κ:Type}{o:Option V}{d' u r:Value}{kvs:List (List Key×V)}{h h':Heap}{ks:List Key}{pins:List (Zg×Obj)}{t':Nat}{ob:HO}{env:Zn}{vs values:List Expr}
theorem oK(Pv:Zg->Nat->List V->Hp->Prop)(h0:∀ D,H D=none->Pv D 0 [] #[84])(hl:∀ D i ys H',i<=xs.length->Pv D i ys H'->sZ K H' a xs)(hs:∀ D i x ys H' (Q':VK),H D=none->xs[i]?=some x->H' D=some #[203]->Pv D i ys H'->#[7] ->
   te (#[107].set 0 (some x)) H' Q')(hd:∀ D ys H',H D=none->H' D=some #[203]->Pv D xs.length ys H'->Qd D H'):wq (Itt K a) ix (bC 0) te σ H Qd:=by
 intro D hD
 exists 11
 exists 48
 have q:=hl D i ys H' hi p
 exists 160
 ·refine .inr ⟨⟨xs,xs[i],q,by simp[fu]⟩,fun x H2 y=>?_⟩
  obtain⟨e1,e2⟩:=y
  subst e1
  have ex:=e2 xs q
  have es:σ'.set 0 (some x)=#[107].set 0 (some x):=by
   exists 158
   ·rw[z]
   ·rw[z,Jx]
  show te (σ'.set 0 (some x)) _ _
  rw[es]
  exists 30
 ·exists 133
  subst e
  exact .inl ⟨⟨xs,q,jF _⟩,hd D ys H' hD hy p⟩
section
theorem Hu(K:WC)(h:X.K=K:=by rfl):IxR X (ae5 K):=by subst h;exact iC
theorem EV(K:WC)(h:X.K=K:=by rfl):IxR X (ae6 K):=by subst h;exact ax
end
section
variable[DecidableEq κ]
def dZ(kvs:List (κ×V))(k:κ):Option V:=(kvs.find? fun kv=>decide (kv.1=k)).map (·.2)
def putK(kvs:List (κ×V))(k:κ)(v:V):List (κ×V):=
 if #[131]=true then kvs.map (fun kv=>if kv.1=k then(kv.1,v)else kv)else kvs++[(k,v)]
def Cq(kvs:List (κ×V))(k:κ):List (κ×V):=kvs.filter fun kv=>decide (kv.1≠k)
theorem iW{p:κ×V}{r:List (κ×V)}{k:κ}(e:p.1=k):dZ (p :: r) k=some p.2:=by simp[dZ,Js,e]
theorem eh{p:κ×V}{r:List (κ×V)}{k:κ}(e:¬ p.1=k):dZ (p :: r) k=dZ r k:=by simp[dZ,Js,e]
theorem De(k:κ):∀ kvs:List (κ×V),#[131]=(dZ kvs k).isSome
 | []=>rfl
 | p :: r=>by
  rw[ZE]
  by_cases e:p.1=k
  ·simp only[iW e,decide_eq_true e,Bool.true_or,Option.isSome_some]
  ·rw[eh e,decide_eq_false e,Bool.false_or];exact De k r
theorem iT(kvs:List (κ×V))(k:κ)(v:V):#[268].length<=kvs.length+1:=by
 unfold putK
 split
 ·rw[jQ];omega
 ·rw[jG,jc,Jb];omega
theorem HZ{kvs:List (κ×V)}{k:κ}(v:V)(h:dZ kvs k=none):putK kvs k v=kvs++[(k,v)]:=by
 unfold putK
 rw[De,h]
 exact if_neg #[18]
theorem oa.oQ{u:Option Value}(r:oa o u):o.isSome=u.isSome:=by
 cases o with
 | none=>cases u with
  | none=>rfl
  | some _=>exact(show False from r).elim
 | some _=>cases u with
  | none=>exact(show False from r).elim
  | some _=>rfl
theorem oa.getD{u:Option Value}(r:oa o u)(rd:RelV d d'):RelV (o.getD d) (u.getD d'):=by
 cases o with
 | none=>cases u with
  | none=>exact rd
  | some _=>exact(show False from r).elim
 | some _=>cases u with
  | none=>exact(show False from r).elim
  | some _=>exact r
theorem KV.val{kvs:List (κ×V)}{vs:List (κ×Value)}(r:KV kvs vs)(k:κ):oa (dZ kvs k) (valueAt vs k):=by
 unfold KV at r
 induction r with
 | nil=>exact True.intro
 | @cons p q ps qs h t ih =>
  obtain⟨h1,h2⟩:=h
  by_cases e:p.1=k
  ·have e':q.1=k:=h1.symm.trans e
   have b:valueAt (q :: qs) k=some q.2:=by simp[valueAt,Js,e']
   rw[iW e,b];exact h2
  ·have e':¬ q.1=k:=fun z=>e (h1.trans z)
   have b:valueAt (q :: qs) k=valueAt qs k:=by simp[valueAt,Js,e']
   rw[eh e,b];exact ih
theorem KV.any{kvs:List (κ×V)}{vs:List (κ×Value)}(r:KV kvs vs)(k:κ):#[131]=vs.any fun kv=>decide (kv.1=k):=by
 unfold KV at r
 induction r with
 | nil=>rfl
 | cons h t ih=>rw[ZE,ZE,ih,h.1]
theorem KV.acf{kvs:List (κ×V)}{vs:List (κ×Value)}(r:KV kvs vs)(k:κ)(ry:RelV y u):
  KV #[331] (vs.map fun kv=>if kv.1=k then(kv.1,u)else kv):=by
 unfold KV at r ⊢
 induction r with
 | nil=>exact .nil
 | @cons p q ps qs h t ih =>
  rw[JE,JE]
  refine .cons ?_ ih
  obtain⟨h1,h2⟩:=h
  by_cases e:p.1=k
  ·rw[if_pos e,if_pos (h1.symm.trans e)];exact⟨h1,ry⟩
  ·rw[if_neg e,if_neg (fun z=>e (h1.trans z))];exact⟨h1,h2⟩
theorem KV.put{kvs:List (κ×V)}{vs:List (κ×Value)}(r:KV kvs vs)(k:κ)(ry:RelV y u):KV (putK kvs k y) (stored vs k u):=by
 unfold putK stored
 rw[r.any k]
 by_cases e:(vs.any fun kv=>decide (kv.1=k))=true
 ·rw[if_pos e,if_pos e];exact r.acf k ry
 ·rw[if_neg e,if_neg e];exact Paired.snoc r ⟨rfl,ry⟩
theorem KV.drop{kvs:List (κ×V)}{vs:List (κ×Value)}(r:KV kvs vs)(k:κ):KV (Cq kvs k) (without vs k):=by
 unfold KV at r ⊢
 unfold Cq without
 induction r with
 | nil=>exact .nil
 | @cons p q ps qs h t ih =>
  obtain⟨h1,h2⟩:=h
  rw[ZW,ZW]
  by_cases e:p.1=k
  ·have a:¬ decide (p.1≠k)=true:=by simp[e]
   have b:¬ decide (q.1≠k)=true:=by simp[h1.symm.trans e]
   rw[if_neg a,if_neg b];exact ih
  ·have e':¬ q.1=k:=fun z=>e (h1.trans z)
   have a:decide (p.1≠k)=true:=by simp[e]
   have b:decide (q.1≠k)=true:=by simp[e']
   rw[if_pos a,if_pos b];exact .cons ⟨h1,h2⟩ ih
theorem KV.length{kvs:List (κ×V)}{vs:List (κ×Value)}(r:KV kvs vs):kvs.length=vs.length:=Paired.length r
theorem Q0(kvs:List (κ×V))(k:κ):(Cq kvs k).length<=kvs.length:=Jy _ _
end
theorem rN{k:Key}(r:RelV (kV k) u):(bt P w).is k u=true:=by
 cases k with
 | inl i=>obtain⟨t,e⟩:=(show ∃ t,u=WQ i t from r);subst e;exact HE P w i t
 | inr x=>obtain⟨t,e⟩:=(show ∃ t,u=YH x t from r);subst e;exact HF P w x t
theorem D2:∀ {ks:List Key} {us:List Value},Vals (ks.map kV) us->ItemsAre (bt P w) ks us
 | [],_,r=>by rw[ZM]at r;cases r;exact .nil
 | k :: ks,_,r=>by
  rw[JE]at r
  cases r with
  | cons h t=>exact .cons (rN h) (D2 t)
abbrev KT(H:Hp):List #[58]->List #[52]->Prop:=Zv fun p q=>p.1=q.1/\H q.2.1=some #[182]/\RelV p.2 q.2.2
theorem KT.val{xs:List #[52]}(r:KT H kvs xs)(k:List Key):oa (dZ kvs k) ((atKey xs k).map (·.2)):=by
 induction r with
 | nil=>exact True.intro
 | @cons p q ps qs h t ih =>
  obtain⟨h1,_,h2⟩:=h
  by_cases e:p.1=k
  ·have e':q.1=k:=h1.symm.trans e
   have b:atKey (q :: qs) k=some q.2:=by simp[atKey,Js,e']
   rw[iW e,b];exact h2
  ·have e':¬ q.1=k:=fun z=>e (h1.trans z)
   have b:atKey (q :: qs) k=atKey qs k:=by simp[atKey,Js,e']
   rw[eh e,b];exact ih
theorem KT.acf{xs:List #[52]}(r:KT H kvs xs)(k:List Key)(ry:RelV y u):
  KT H #[331] (xs.map (putAt k u)):=by
 induction r with
 | nil=>exact .nil
 | @cons p q ps qs h t ih =>
  rw[JE,JE]
  refine .cons ?_ ih
  obtain⟨h1,h2,h3⟩:=h
  unfold putAt
  by_cases e:p.1=k
  ·rw[if_pos e,if_pos (h1.symm.trans e)];exact⟨h1,h2,ry⟩
  ·rw[if_neg e,if_neg (fun z=>e (h1.trans z))];exact⟨h1,h2,h3⟩
theorem KT.put{xs:List #[52]}(r:KT H kvs xs)(k:List Key)(hb:H b=some #[226])(ry:RelV y u):
  KT H (putK kvs k y) (storedH xs k b u):=by
 have e:#[131]=(atKey xs k).isSome:=by
  rw[De,(r.val k).oQ,zV]
 unfold putK storedH
 rw[e]
 by_cases q:(atKey xs k).isSome=true
 ·rw[if_pos q,if_pos q];exact r.acf k ry
 ·rw[if_neg q,if_neg q];exact Paired.snoc r ⟨rfl,hb,ry⟩
theorem KT.keeps{xs:List #[52]}(r:KT H kvs xs)(ht:∀ b ys,H b=some (.tup ys)->H' b=some (.tup ys)):KT H' kvs xs:=
 Paired.Fb r fun _ _ z=>⟨z.1,ht _ _ z.2.1,z.2.2⟩
section
theorem aaP{u:HO}(ok:eV P w H h)(e:Rd H a u):bq P w H h a u:=e.ok ok
theorem wR{kvs:List #[309]}(ok:eV P w H h)(e:Rd H a #[54]):kvs.length<=sizeLine/\(a==Qe)=false/\∃ vs,KV kvs vs/\h.DictOf (bt P w) a vs:=
 show bq P w H h a #[54]from aaP ok e
theorem Me{kvs:List #[309]}(ok:eV P w H h)(e:H a=some #[54]):kvs.length<=sizeLine/\(a==Qe)=false/\∃ vs,KV kvs vs/\h.DictOf (bt P w) a vs:=wR ok (.inl e)
theorem pF(ok:eV P w H h)(e:H a=some (.tup (ks.map kV))):(Qf (bt P w)).is h ks a:=by
 obtain⟨_,bp,r,o,h1,h2,n,h3⟩:=(show bq P w H h a (.tup (ks.map kV))from ok a _ e)
 exact⟨o,bp.toArray,n,h1,h2,h3,by simpa using D2 r⟩
theorem A2(ok:eV P w H h)(e:Rd H a #[179]):kvs.length<=sizeLine/\(a==Qe)=false /\
  ∃ xs,KT H kvs xs/\h.DictOfH (Qf (bt P w)) a xs:=by
 obtain⟨z,y,xs,r,o,es,ep,h1,h2,h3,h4,h5⟩:=(show bq P w H h a #[179]from aaP ok e)
 refine⟨z,y,xs,r,o,es,ep,h1,h2,h3,h4,fun x hx=>?_,h5⟩
 have all:∀ {l:List #[58]} {m:List #[52]},KT H l m->∀ x∈m,(Qf (bt P w)).is h x.1 x.2.1:=by
  intro l m q
  induction q with
  | nil=>intro x hx;exact nomatch hx
  | @cons p q ps qs hq t ih =>
   intro x hx
   rcases jW.mp hx with e|hx
   ·subst e
    exact pF ok (by rw[<- hq.1];exact hq.2.1)
   ·exact ih x hx
 exact all r x hx
theorem Q2(ok:eV P w H h)(e:H a=some #[179]):kvs.length<=sizeLine/\(a==Qe)=false /\
  ∃ xs,KT H kvs xs/\h.DictOfH (Qf (bt P w)) a xs:=A2 ok (.inl e)
end
def fZ(H:Hp)(a:Zg)(y:V)(r:Option V):Prop:=
 (∃ kvs k,Rd H a #[54]/\y=kV k/\r=dZ kvs k)\/∃ kvs k b,Rd H a #[179]/\y=.ref b/\H b=some #[226]/\r=dZ kvs k
def Bo(H:Hp)(a:Zg)(y v:V)(H':Hp):Prop:=
 (∃ kvs k,H a=some #[54]/\y=kV k/\kvs.length<sizeLine/\H'=upd H a (.dK #[268])) \/
 ∃ kvs k b,H a=some #[179]/\y=.ref b/\H b=some #[226]/\kvs.length<sizeLine/\H'=upd H a (.dT #[268])
theorem fZ.k{kvs:List #[309]}{k:Key}(e:H a=some #[54]):fZ H a (kV k) (dZ kvs k):=.inl ⟨kvs,k,.inl e,rfl,rfl⟩
theorem fZ.t{k:List Key}(e:H a=some #[179])(eb:H b=some #[226]):fZ H a (.ref b) (dZ kvs k):=.inr ⟨kvs,k,b,.inl e,rfl,eb,rfl⟩
theorem Bo.k{kvs:List #[309]}{k:Key}(e:H a=some #[54])(hl:kvs.length<sizeLine):Bo H a (kV k) v (upd H a (.dK #[268])):=.inl ⟨kvs,k,e,rfl,hl,rfl⟩
theorem Bo.t{k:List Key}(e:H a=some #[179])(eb:H b=some #[226])(hl:kvs.length<sizeLine):
  Bo H a (.ref b) v (upd H a (.dT #[268])):=.inr ⟨kvs,k,b,e,rfl,eb,hl,rfl⟩
section
theorem Inv.big(I:Inv X pins σ H s):Qe<s.heap.objs.size:=by
 have h:QU<s.heap.objs.size:=(I.mod.glob.keeps I.bk).lt
 exact Jd #[18] h
theorem Ol(hu:A.units+1<cLine)(I:Inv X pins σ H s)(g:fZ H a y (some v))(ry:RelV y u)(h:∀ w' s',Inv X pins σ H s'->RelV v w'->Q w' s'):
  wpAny #[5] A (getItem #[75] u) Q E s:=by
 exists 36
 ·subst ey
  exists 68
  obtain⟨w',hw,Ie⟩:=oa.some_of (v:=v) (o:=valueAt vs k) (by rw[l];exact rel.val k)
  exact wpAny_getItem_of (rN ry) dd.mapOf hw (h w' _ (I.tok _) Ie)
 ·subst ey
  exists 144
  exists 95
  obtain⟨w',hw,Ie⟩:=oa.some_of (v:=v) (o:=(atKey xs k).map (·.2)) (by rw[l];exact rel.val k)
  obtain⟨p,hp,hp2⟩:=Jt.mp hw
  refine qE (Qg hu) (pF I.hok eb) dd hp ?_
  rw[hp2]
  exact h w' _ (I.tok _) Ie
theorem agO(hu:A.units+1<cLine)(I:Inv X pins σ H s)(g:fZ H a y o)(ry:RelV y u)(h:∀ s',Inv X pins σ H s'->Q (.bool o.isSome) s'):
  wpAny #[5] A (QN .In u #[75]) Q E s:=by
 exists 36
 ·subst ey
  exists 68
  refine wpAny_in_of (rN ry) hd dd.mapOf ?_
  rw[<- (rel.val k).oQ,<- l]
  exact h _ (I.tok _)
 ·subst ey
  exists 144
  exists 95
  refine wpAny_in_heap (Qg hu) (pF I.hok eb) hd dd ?_
  have q:=(rel.val k).oQ
  rw[zV]at q
  rw[<- q,<- l]
  exact h _ (I.tok _)
theorem TU(hu:A.units+1<cLine)(I:Inv X pins σ H s)(g:fZ H a y o)(ry:RelV y u)(h:∀ s',Inv X pins σ H s'->Q (.bool (!o.isSome)) s'):
  wpAny #[5] A (QN .NotIn u #[75]) Q E s:=by
 exists 36
 ·subst ey
  exists 68
  refine wpAny_notIn_of (rN ry) hd dd.mapOf ?_
  rw[<- (rel.val k).oQ,<- l]
  exact h _ (I.tok _)
 ·subst ey
  exists 144
  exists 95
  refine qS (Qg hu) (pF I.hok eb) hd dd ?_
  have q:=(rel.val k).oQ
  rw[zV]at q
  rw[<- q,<- l]
  exact h _ (I.tok _)
theorem pB{t':Nat}(I:Inv X pins σ H s)(mu:Mut (H a))(hs:Wh a s.heap h')(he:∃ q,h'.get? a=some q)(new:bq X.prog X.w (upd H a ob) h' a ob):
  Inv X pins σ (upd H a ob) { s with heap:=h',toks:=t' }:=
 I.write (x:=a) (e:=a) mu #[62] (fun b q hb z=>(hs.2 b hb).trans z) he new
theorem Cp{kvs:List #[309]}{vs:List (Key×Value)}(z:kvs.length<=sizeLine)(hd:(a==Qe)=false)(rel:KV kvs vs)(dd:h'.DictOf (bt P w) a vs):
  bq P w H' h' a #[54]:=⟨z,hd,vs,rel,dd⟩
theorem Om{Q:Unit->QA->Prop}(hu:A.units+1<cLine)(I:Inv X pins σ H s)(g:Bo H a y v H')(ry:RelV y u)(rv:RelV v r)(h:∀ s',Inv X pins σ H' s'->Q () s'):
  wpAny #[5] A (setItem #[75] u r) Q E s:=by
 rcases g with⟨kvs,k,e,ey,l,eH⟩|⟨kvs,k,b,e,ey,eb,l,eH⟩
 ·subst ey eH
  obtain⟨z,hd,vs,rel,dd⟩:=Me I.hok e
  have hz:vs.length<=sizeLine:=by rw[<- rel.length];exact z
  have hl:#[268].length<=sizeLine:=by have:=iT kvs k v;omega
  refine wpAny_setItem_pairs (hsz:=hz) (rN ry) dd fun h' FH hs=>h _ ?_
  have he:∃ q,h'.get? a=some q:=let ⟨q,_,_,hq,_⟩:=FH;⟨q,hq⟩
  exact pB I #[68] hs he (Cp hl hd (rel.put k rv) FH)
 ·subst ey eH
  exists 144
  obtain⟨z,hd,xs,rel,dd⟩:=Q2 I.hok e
  have hz:xs.length<=sizeLine:=by rw[<- Paired.length rel];exact z
  have hl:#[268].length<=sizeLine:=by have:=iT kvs k v;omega
  refine qu (hsz:=hz) (Qg hu) (pF I.hok eb) dd fun h' FH hs=>h _ ?_
  obtain⟨q,es,ep,hq,h2,h3,h4,_,h5⟩:=FH
  refine pB I #[68] hs ⟨q,hq⟩ ⟨hl,hd,_,(rel.put k eb rv).keeps fun c ys ec=>?_,q,es,ep,hq,h2,h3,h4,h5⟩
  rw[af (aF ec e #[48])]
  exact ec
end
section
variable{kvs:List (Key×V)}{k:Key}
theorem adN{more:List Value}(I:Inv X pins σ H s)(e:H a=some #[54])(ry:RelV (kV k) u)(l:dZ kvs k=some v)(hm:more=[]\/∃ x,more=[x])(h:∀ w' s',Inv X pins σ (upd H a (.dK (Cq kvs k))) s'->RelV v w'->Q w' s'):wpAny #[5] A (call (.builtin "dict.pop") (.ref a :: u :: more)) Q E s:=by
 obtain⟨z,hd,vs,rel,dd⟩:=Me I.hok e
 obtain⟨w',hw,Ie⟩:=oa.some_of (v:=v) (o:=valueAt vs k) (by rw[<- l];exact rel.val k)
 have hp:(keyPart u).isSome=true:=by
  cases k with
  | inl i=>obtain⟨t,q⟩:=(show ∃ t,u=WQ i t from ry);subst q;rfl
  | inr x=>obtain⟨t,q⟩:=(show ∃ t,u=YH x t from ry);subst q;rfl
 have ha:argsOk "dict.pop" ⟨.ref a :: u :: more,[]⟩:=by
  rcases hm with q|⟨x,q⟩
  ·subst q;exact PySem.F.args_dict_pop_2 _ _
  ·subst q;exact PySem.F.args_dict_pop_3 _ _ _
 refine QG Ys dd.typeIs PySem.F.entry_dict_pop ha (meets_dict_pop_there #[154] a (rN ry) more hm hp)
  ⟨vs,w',dd,by rw[<- rel.length];exact z,hw,fun h' FH hs=>h w' _ ?_ Ie⟩
 have he:∃ q,h'.get? a=some q:=let ⟨q,_,_,hq,_⟩:=FH;⟨q,hq⟩
 exact pB I #[68] hs he (Cp (jo (Q0 kvs k) z) hd (rel.drop k) FH)
theorem adM(I:Inv X pins σ H s)(e:Rd H a #[54])(h:∀ t s',Inv X pins σ H s'->Q (.int kvs.length t) s'):wpAny #[5] A (call #[206] [.ref a]) Q E s:=by
 exists 68
 refine call_len_dict hd dd (by rw[<- rel.length];rw[QZ]at z;omega) ?_
 rw[<- rel.length]
 exact h _ _ (I.tok _)
end
def aa3(i:Expr):Prop := ∀ ov iv,subscripted i false ov iv=operate [ov,iv] (getItem ov iv)
theorem M0{slice:Expr}{T id:String}(hl:typeLookup (.type T) "__getitem__" = pure (some #[328]))(hs:aa3 slice)(h:wpAny #[8] A (eval value env) (fun o s₁=>wpAny #[8] A (eval slice env) (fun i s₂=>s₂.TypeIs o T/\wpAny #[8] A (getItem o i) Q E s₂) E s₁) E s):
  wpAny #[8] A (eval (.Subscript value slice pos) env) Q E s:=by
 refine Subscript_ (qO h (fun o s₁ h₁=>qO h₁ (fun i s₂ h₂=>?_) fun _ _ x=>x) fun _ _ x=>x)
 obtain⟨hT,h₂⟩:=h₂
 unfold subscriptTail
 refine Qq ?_
 rw[getitemInPython_of_ne hT.not_modules]
 refine Qq (qv hT hl ?_)
 have fin:wpAny #[8] A (subscripted slice false o i) (fun r s₃=>wpAny #[8] A (letTemporaryGo value o r>>=fun _=>pure r) Q E s₃) E s₂:=by
  rw[hs o i]
  exact wpAny_operating (qO h₂ (fun r s₃ h₃=>Qq (wpAny_letTemporaryGo (qX h₃))) fun _ _ x=>x)
 first
  | exact qX (Qq fin)
  | exact Qq (qX (Qq fin))
  | exact Qq fin
theorem G6(I:Inv X pins σ H s)(g:fZ H a y o):s.TypeIs #[75] "dict" := by
 rcases g with⟨kvs,k,e,_,_⟩|⟨kvs,k,b,e,_,_,_⟩
 ·obtain⟨_,_,vs,_,dd⟩:=wR I.hok e
  exact dd.typeIs
 ·obtain⟨_,_,xs,_,dd⟩:=A2 I.hok e
  exact dd.typeIs
def afo(td ty:TE):TE:=fun σ H Q=>td σ H fun x H1=>ty σ H1 fun y H2=>∃ a v,x=.ref a/\fZ H2 a y (some v)/\Q v H2
def ajp(ty td:TE):TE:=fun σ H Q=>ty σ H fun y H1=>td σ H1 fun x H2=>∃ a o,x=.ref a/\fZ H2 a y o/\Q (.bl o.isSome) H2
def aah(ty td:TE):TE:=fun σ H Q=>ty σ H fun y H1=>td σ H1 fun x H2=>∃ a o,x=.ref a/\fZ H2 a y o/\Q (.bl (!o.isSome)) H2
def afd(td ty tv:TE):TS:=fun D σ H=>tv σ H fun v H1=>td σ H1 fun x H2=>ty σ H2 fun y H3=>∃ a H4,x=.ref a/\Bo H3 a y v H4/\D.nx σ H4
section
variable{o i:Expr}{pos':Pos}{ty:TE}
theorem MC(hu:X.A.units+1<cLine)(ho:PE X o td)(hi:PE X i ty)(hs:aa3 i):PE X #[329] (afo td ty):=by
 exists 4
 refine M0 PySem.F.slot_dict_getitem.lookup hs (cf #[98] fun u s1 ⟨x,H1,I1,rx,q1⟩=>cf (hi pins s1 σ H1 _ I1 q1) fun iv s2 ⟨y,H2,I2,ry,a,v,ex,g,q2⟩=>?_)
 subst ex
 exists 110
 exact⟨G6 I2 g,Ol hu I2 g ry fun w' s3 I3 Ie=>⟨v,H2,I3,Ie,q2⟩⟩
theorem ab5(hu:X.A.units+1<cLine)(hi:PE X i ty)(ho:PE X o td):PC X .In i o (ajp ty td):=by
 exists 4
 exists 28
 subst ex
 exists 110
 exact agO hu I2 g ry fun s3 I3=>⟨.bl ov.isSome,H2,I3,rfl,q2⟩
theorem AL(hu:X.A.units+1<cLine)(hi:PE X i ty)(ho:PE X o td):PC X .NotIn i o (aah ty td):=by
 exists 4
 exists 28
 subst ex
 exists 110
 exact TU hu I2 g ry fun s3 I3=>⟨.bl (!ov.isSome),H2,I3,rfl,q2⟩
theorem sH(hu:X.A.units+1<cLine)(ho:PE X o td)(hi:PE X i ty)(hv:PE X value tv)(hs:Qc value (some (.Subscript o i pos')) pos.line X.env=pure false):
  PS X (.Assign [.Subscript o i pos'] value pos) (afd td ty tv):=by
 exists 39
 refine Qi (cf #[270] fun r s1 ⟨v,H1,I1,rv,q1⟩=>cf (ho pins s1 σ H1 _ I1 q1) fun u s2 ⟨x,H2,I2,rx,q2⟩=>cf (hi pins s2 σ H2 _ I2 q2) fun iv s3 ⟨y,H3,I3,ry,a,H4,ex,g,q3⟩=>?_) hs
 subst ex
 exists 110
 exact Om hu I3 g ry rv fun s4 I4=>⟨σ,H4,I4,q3⟩
end
theorem G9(h:Heap)(hb:Qe<h.objs.size):bq P w H (h.push { cls:=.type "dict",data:=.dict #[] }) h.objs.size (.dK []):=
 ⟨jb _,beq_eq_false_iff_ne.mpr (Ne.symm (jO hb)),[],.nil,yd h⟩
theorem Q1(h:Heap)(hb:Qe<h.objs.size):bq P w H (h.push { cls:=.type "dict",data:=.dict #[] }) h.objs.size (.dT []):=
 ⟨jb _,beq_eq_false_iff_ne.mpr (Ne.symm (jO hb)),[],.nil,_,#[],0,jL _ rfl,⟨rfl,rfl,rfl⟩,rfl,rfl,JN⟩
def acu:TE:=fun _ H Q=>∀ p,H p=none->Q (.ref p) (upd H p (.dK []))
section
theorem rU:PE X (.Dict [] [] pos) acu:=fun pins s σ H Q I h =>
 Ql ⟨.ref s.heap.objs.size,_,I.laid (a:=s.heap.objs.size) (o:=.dK []) (t' := s.toks) (fun _ _ q=>jB _ q) (jF _) (G9 s.heap I.big),rfl,h _ #[95]⟩
end
def Fx:List (TE×TE)->St->Hp->(List (V×V)->Hp->Prop)->Prop
 | [],_,H,Q=>Q [] H
 | (tk,tv) :: r,σ,H,Q=>tk σ H fun x H1=>tv σ H1 fun y H2=>Fx r σ H2 fun ps H3=>Q ((x,y) :: ps) H3
abbrev VV:List (V×V)->List (Value×Value)->Prop:=Zv fun p q=>RelV p.1 q.1/\RelV p.2 q.2
def PPs(X:Cx)(pos:Pos)(keys:List (Option Expr))(values:List Expr)(N4:List (TE×TE)):Prop:=
 ∀ (pins:List #[44]) (s:QA) (σ:St) (H:Hp) (Q:List (V×V)->Hp->Prop),Inv X pins σ H s->Fx N4 σ H Q ->
  wpAny #[5] X.A (evalPairs (pairTrees keys values X.env pos)) (fun vs s'=>∃ ps H',Inv X pins σ H' s'/\VV ps vs/\Q ps H') X.xe s
theorem Fi:PPs X pos [] [] []:=fun pins s σ H Q I h=>pairTrees_nil_walk ⟨[],H,I,.nil,h⟩
theorem CV{k v:Expr}{ks:List (Option Expr)}{tk:TE}{N4:List (TE×TE)}(hk:PE X k tk)(hv:PE X v tv)(hr:PPs X pos ks vs N4):
  PPs X pos (some k :: ks) (v :: vs) ((tk,tv) :: N4):=fun pins s σ H Q I h =>
 pairTrees_cons_walk (cf (hk pins s σ H _ I h) fun u s1 ⟨x,H1,I1,rx,q1⟩=>cf (hv pins s1 σ H1 _ I1 q1) fun w2 s2 ⟨y,H2,I2,ry,q2⟩ =>
  cf (hr pins s2 σ H2 _ I2 q2) fun ws s3 ⟨ps,H3,I3,rel,q3⟩=>⟨(x,y) :: ps,H3,I3,.cons ⟨rx,ry⟩ rel,q3⟩)
def dS(kvs more:List #[309]):List #[309]:=more.foldl (fun acc kv=>putK acc kv.1 kv.2) kvs
theorem KV.merge:∀ {more:List #[309]} {rs:List (Key×Value)} {kvs:List #[309]} {vs:List (Key×Value)},KV more rs->KV kvs vs->KV (dS kvs more) (merged vs rs):=by
 intro more rs kvs vs r
 unfold KV at r
 induction r generalizing kvs vs with
 | nil=>intro q;exact q
 | @cons p q ps qs h t ih =>
  intro r0
  have e:KV (putK kvs p.1 p.2) (stored vs q.1 q.2):=by
   have:=r0.put p.1 h.2
   rw[<- h.1];exact this
  exact ih e
theorem oo:∀ (more kvs:List #[309]),(dS kvs more).length<=kvs.length+more.length
 | [],kvs=>by show kvs.length<=kvs.length+0;omega
 | p :: r,kvs=>by
  have h1:=oo r (putK kvs p.1 p.2)
  have h2:=iT kvs p.1 p.2
  show(dS (putK kvs p.1 p.2) r).length<=_
  rw[jc];omega
theorem Cn{P:Zx}{w:World}:∀ {kvs:List #[309]} {ws:List (Value×Value)},VV (kvs.map fun kv=>(kV kv.1,kv.2)) ws->∃ rs,Carries (bt P w) ws rs/\KV kvs rs
 | [],_,r=>by rw[ZM]at r;cases r;exact⟨[],True.intro,.nil⟩
 | p :: kvs,_,r=>by
  rw[JE]at r
  cases r with
  | @cons a b as bs h t =>
   obtain⟨rs,c,q⟩:=Cn (P:=P) (w:=w) t
   obtain⟨b1,b2⟩:=b
   exact⟨(p.1,b2) :: rs,⟨rN h.1,rfl,c⟩,.cons ⟨rfl,h.2⟩ q⟩
def afq(N4:List (TE×TE)):TE:=fun σ H Q=>∀ p,H p=none->Fx N4 σ (upd H p (.dK [])) fun ps H2=>H2 p=some (.dK [])/\∃ kvs:List #[309],ps=kvs.map (fun kv=>(kV kv.1,kv.2))/\kvs.length<=15/\Q (.ref p) (upd H2 p (.dK (dS [] kvs)))
theorem Y5{keys:List (Option Expr)}{N4:List (TE×TE)}(h:PPs X pos keys values N4)(OG:keys.all (·.isSome)=true)(hl:keys.length=values.length)(h0:keys≠[])(h15:keys.length<=15):PE X (.Dict keys values pos) (afq N4):=by
 intro pins s σ H Q I q
 have hn:=I.hok.fresh (jF s.heap.objs.size)
 have I1:=I.laid (a:=s.heap.objs.size) (o:=.dK []) (h' := s.heap.push { cls:=.type "dict",data:=.dict #[] }) (t' := s.toks) (fun _ _ q=>jB _ q) (jF _) (G9 s.heap I.big)
 refine wpAny_Dict_walk (knd:=bt X.prog X.w) OG hl h0 h15 (cf (h pins _ σ _ _ I1 (q _ hn)) fun ws s2 ⟨ps,H2,I2,rel,e,kvs,ep,lk,q2⟩=>?_)
 subst ep
 obtain⟨rs,c,rk⟩:=Cn (P:=X.prog) (w:=X.w) rel
 obtain⟨z,hd,vs0,r0,dd⟩:=Me I2.hok e
 cases r0
 refine⟨rs,c,dd,fun h' FH hs=>⟨.ref s.heap.objs.size,_,?_,rfl,q2⟩⟩
 have hz:(dS [] kvs).length<=sizeLine:=by
  have h1:=oo kvs []
  rw[Jb]at h1
  rw[QZ];omega
 have he:∃ q,h'.get? s.heap.objs.size=some q:=let ⟨q,_,_,hq,_⟩:=FH;⟨q,hq⟩
 exact pB I2 #[68] hs he (Cp hz hd (rk.merge .nil) FH)
structure M1(X:Cx)(o:Expr)(m:QB)(apos:Pos)(e:Expr)(df:Pos):Prop where
 base:attributeBase o m X.env (eval o X.env)=eval o X.env
 BC:((backTo df (Qa [e] X.env)).all (fun x=>!x.1)&&#[199].all (fun x=>x.1.isSome)
  && decide (([e]:List Expr).length+([]:List Zt).length+#[173]<30))=true
 line:#[244]=true
 trees:backTo df (Qa [e] X.env)=[#[17]]
structure M2(X:Cx)(o:Expr)(m:QB)(apos:Pos)(e f:Expr)(df:Pos):Prop where
 base:attributeBase o m X.env (eval o X.env)=eval o X.env
 BC:((backTo df (Qa [e,f] X.env)).all (fun x=>!x.1)&&#[199].all (fun x=>x.1.isSome)
  && decide (([e,f]:List Expr).length+([]:List Zt).length+#[173]<30))=true
 line:#[244]=true
 trees:backTo df (Qa [e,f] X.env)=[#[17],(false,eval f X.env)]
def IsD(H:Hp)(a:Zg):Prop:=(∃ kvs,Rd H a #[54])\/∃ kvs,Rd H a #[179]
theorem ET(I:Inv X pins σ H s)(d:IsD H a):
  s.TypeIs #[75] "dict" /\ (∀ b,WD a=.ref b->∃ ob,s.heap.get? b=some ob/\ob.dict=none)/\(a==Qe)=false:=by
 rcases d with⟨kvs,e⟩|⟨kvs,e⟩
 ·obtain⟨_,hd,vs,_,dd⟩:=wR I.hok e
  refine⟨dd.typeIs,fun b q=>?_,hd⟩
  cases q
  obtain⟨ob,_,_,h1,h2,_⟩:=dd
  exact⟨ob,h1,h2.2.1⟩
 ·obtain⟨_,hd,xs,_,dd⟩:=A2 I.hok e
  refine⟨dd.typeIs,fun b q=>?_,hd⟩
  cases q
  obtain⟨ob,_,_,h1,h2,_⟩:=dd
  exact⟨ob,h1,h2.2.1⟩
section
theorem abc(hu:A.units+1<cLine)(I:Inv X pins σ H s)(g:fZ H a y o)(ry:RelV y u)(h:∀ w' s',Inv X pins σ H s'->RelV (o.getD .non) w'->Q w' s'):
  wpAny #[5] A (call (.builtin "dict.get") [.ref a,u]) Q E s:=by
 exists 36
 ·subst ey
  exists 68
  refine QG Wb dd.typeIs Ws (Yg _ _) (meets_dict_get #[154] a (rN ry) hd) ⟨_,dd.mapOf,h _ _ (I.tok _) ?_⟩
  rw[l]
  exact(rel.val k).getD rfl
 ·subst ey
  exists 144
  exists 95
  refine QG Wb dd.typeIs Ws (Yg _ _) (meetsH_dict_get (Qf #[154]) a b hd) ⟨Qg hu,k,xs,pF I.hok eb,dd,h _ _ (I.tok _) ?_⟩
  rw[l]
  exact(rel.val k).getD rfl
theorem abd(hu:A.units+1<cLine)(I:Inv X pins σ H s)(g:fZ H a y o)(ry:RelV y u)(rd:RelV d r)(h:∀ w' s',Inv X pins σ H s'->RelV (o.getD d) w'->Q w' s'):
  wpAny #[5] A (call (.builtin "dict.get") [.ref a,u,r]) Q E s:=by
 exists 36
 ·subst ey
  exists 68
  refine QG Wb dd.typeIs Ws (Yh _ _ _) (meets_dict_get_default #[154] a (rN ry) hd r) ⟨_,dd.mapOf,h _ _ (I.tok _) ?_⟩
  rw[l]
  exact(rel.val k).getD rd
 ·subst ey
  exists 144
  exists 95
  refine QG Wb dd.typeIs Ws (Yh _ _ _) (meetsH_dict_get_default (Qf #[154]) a b hd r) ⟨Qg hu,k,xs,pF I.hok eb,dd,h _ _ (I.tok _) ?_⟩
  rw[l]
  exact(rel.val k).getD rd
end
def acr(td ty:TE):TE:=fun σ H Q=>td σ H fun x H1=>∃ a,x=.ref a/\IsD H1 a/\ty σ H1 fun y H2=>∃ o,fZ H2 a y o/\Q (o.getD .non) H2
def acs(td ty tx:TE):TE:=fun σ H Q=>td σ H fun x H1=>∃ a,x=.ref a/\IsD H1 a/\ty σ H1 fun y H2=>tx σ H2 fun z H3=>∃ o,fZ H3 a y o/\Q (o.getD z) H3
def acw(td ty:TE):TE:=fun σ H Q=>td σ H fun x H1=>∃ a,x=.ref a/\IsD H1 a/\ty σ H1 fun y H2=>∃ kvs k v,H2 a=some #[54]/\y=kV k/\dZ kvs k=some v/\Q v (upd H2 a (.dK (Cq kvs k)))
section
variable{o f:Expr}{apos df:Pos}{ty tx:TE}
theorem Sk(hu:X.A.units+1<cLine)(ho:PE X o td)(he:PE X e ty)(m:M1 X o "get" apos e df):PE X (.Call (.Attribute o "get" apos) [e] [] df) (acr td ty):=by
 exists 4
 exists 52
 subst ex
 exists 110
 obtain⟨t1,t2,_⟩:=ET I1 d
 exists t1,t2
 rw[m.trees]
 refine WZ rfl (Wm (WV (cf #[195] fun iv s2 ⟨y,H2,I2,ry,ov,g,q2⟩=>Wl ?_)))
 exact abc hu I2 g ry fun w' s3 I3 Ie=>⟨_,H2,I3,Ie,q2⟩
theorem Sl(hu:X.A.units+1<cLine)(ho:PE X o td)(he:PE X e ty)(hf:PE X f tx)(m:M2 X o "get" apos e f df):PE X (.Call (.Attribute o "get" apos) [e,f] [] df) (acs td ty tx):=by
 exists 4
 exists 52
 subst ex
 exists 110
 obtain⟨t1,t2,_⟩:=ET I1 d
 exists t1,t2
 rw[m.trees]
 refine WZ rfl (Wm (WV (cf #[195] fun iv s2 ⟨y,H2,I2,ry,q2⟩ =>
  WV (cf (hf pins s2 σ H2 _ I2 q2) fun fv s3 ⟨z,H3,I3,rz,ov,g,q3⟩=>Wl ?_))))
 exact abd hu I3 g ry rz fun w' s4 I4 Ie=>⟨_,H3,I4,Ie,q3⟩
theorem HR(ho:PE X o td)(he:PE X e ty)(m:M1 X o "pop" apos e df):PE X (.Call (.Attribute o "pop" apos) [e] [] df) (acw td ty):=by
 exists 4
 refine Qk m.base m.BC m.line We Ys PySem.F.type_dict_pop #[307]
 subst ex
 exists 110
 obtain⟨t1,t2,_⟩:=ET I1 d
 exists t1,t2
 rw[m.trees]
 refine WZ rfl (Wm (WV (cf #[195] fun iv s2 ⟨y,H2,I2,ry,kvs,k,v,ea,ey,l,q2⟩=>Wl ?_)))
 subst ey
 exact adN I2 ea ry l #[62] fun w' s3 I3 Ie=>⟨v,_,I3,Ie,q2⟩
end
section
variable[DecidableEq κ]
theorem Aa:∀ {l:List κ} {k:κ},l.Nodup->¬ k∈l->(l++[k]).Nodup
 | [],k,_,_=>by simp
 | a :: r,k,h,hk=>by
  obtain⟨h1,h2⟩:=jh.mp h
  show(a :: (r++[k])).Nodup
  refine jh.mpr ⟨fun m=>?_,Aa h2 fun m=>hk (jW.mpr (Or.inr m))⟩
  rcases Jq.mp m with q|q
  ·exact h1 q
  ·exact hk (jW.mpr (Or.inl (jI.mp q).symm))
end
end L2
namespace PySem
open Sem (wp)
open Builtin
end PySem
namespace L2
open PySem PySem.Spec PyProof.Rows
variable{X:Cx}{a f:Zg}{b body:List Stmt}{e c:Expr}{es:List Expr}{tb u:TS}{te:TE}{pos pos' p:Pos}{r:R2}{st:Stmt}{i j n:Nat}{x qual:QB}{tc:TT}{wi:TI}{P:Zx}{w:World}{H:Hp}{h B base:Heap}{K:WC}{mg:QB→Option Value}{N ps:List QB}{scope:Scope}{cd:Value}{A:Around}{outer:List Zn}{s:QA}{fY:List V}{sp:Sp}
structure Dn(X:Cx)(e:Expr)(t:TE):Prop where
 out:PE X e t
structure PAW(X:Cx)(es:List Expr)(t:TA):Prop where
 out:PA X es t
structure PTW(X:Cx)(e:Expr)(t:TT):Prop where
 out:PT X e t
structure hJ(X:Cx)(s:Stmt)(t:TS):Prop where
 out:PS X s t
structure Ez(X:Cx)(s:List Stmt)(t:TS):Prop where
 out:Ey X s t
section
variable{a b:Expr}{ta tb:TE}{t:TA}
theorem FC:PAW X [] aaj:=⟨ag⟩
theorem eS(ha:Dn X e te)(hr:PAW X es t)(hs:Qa (e :: es) X.env=#[17] :: Qa es X.env:=by rfl):PAW X (e :: es) (aaU te t):=⟨aa ha.out hr.out hs⟩
theorem afH(h:PAW X es t):Dn X (.List es pos) (afv t):=⟨dU h.out⟩
theorem Tp{x1}(h:PAW X es t):Dn X (.Tuple es x1 pos) (afB t):=⟨eI h.out⟩
theorem ajE(hr:IxR X r)(ha:Dn X a ta)(hb:Dn X b tb)(hs:LW b):Dn X (.Subscript a b pos) (LD r ta tb):=⟨aC hr ha.out hb.out hs⟩
variable{rest:List Stmt}{ts us:TS}
theorem acE:Ez X [] cj:=⟨bM⟩
theorem aO(h1:hJ X st ts)(h2:Ez X rest us):Ez X (st :: rest) (Po ts us):=⟨ak h1.out h2.out⟩
theorem lI(h1:hJ X st ts):Ez X [st] ts:=⟨au h1.out⟩
theorem afI(he:Dn X e te):hJ X (.Return (some e) pos) (afy te):=⟨aW he.out⟩
theorem Tn(hN:X.N.Nodup)(hi:X.N[i]?=some x)(hx:Loc X.env.scope x)(he:Dn X e te)(hs:Qc e #[289] pos.line X.env=pure false:=by rfl)(hf:X.fn x=true\/X.env.scope.names.lookup x=some .local:=by first|exact .inl rfl|exact .inr rfl|assumption):
  hJ X #[159] (Am te (bC i)):=⟨SA hN hi hx he.out hs hf⟩
theorem ajD{a b:List Stmt}(hc:PTW X c tc)(ha:Ez X a ts)(hb:Ez X b u):hJ X (.If c a b pos) (Td tc ts u):=⟨cV hc.out ha.out hb.out⟩
theorem aak{tb:TS}(hp:Zw #[5] X.A X.env X.xe)(hc:PTW X c tc)(hb:Ez X body tb):hJ X (.While c body [] pos) (wo tc tb):=⟨Af hp hc.out hb.out⟩
theorem aaW{tg iter:Expr}{g:TG}{tb:TS}(hp:Zw #[5] X.A X.env X.xe)(hc:X.calm=true)(hi:PI X tg iter wi)(hg:PG X tg g)(hb:Ez X body tb)(hs:∀ x,foldedSetIterable iter X.env x=pure x:=by intro _;rfl):hJ X (.For tg iter body [] pos) (AW wi g tb):=⟨cD hp hc hi hg hb.out hs⟩
theorem rH{b:List Stmt}{R:TS->Prop}(h:Ez X b ts)(r:R ts):∃ t,Ey X b t/\R t:=⟨ts,h.out,r⟩
end
theorem bq.ex:∀ {o:HO},bq P w H h a o->∃ ob,h.get? a=some ob
 | .lst _,⟨_,_,_,_,e⟩=>⟨_,e⟩
 | .tup _,⟨_,_,_,o,e,_⟩=>⟨o,e⟩
 | .dK _,⟨_,_,_,_,o,_,_,e,_⟩=>⟨o,e⟩
 | .dT _,⟨_,_,_,_,o,_,_,e,_,_,_,_⟩=>⟨o,e⟩
 | .set _ _,⟨o,_,_,_,e,_⟩=>⟨o,e⟩
 | .ins _ _ _,⟨_,_,_,e,_⟩=>⟨_,e⟩
 | .own _,⟨o,e⟩=>⟨o,e⟩
 | .xd _,⟨_,⟨o,_,_,e,_⟩,_⟩=>⟨o,e⟩
 | .rng _ _,⟨_,_,_,e⟩=>⟨_,e⟩
 | .oN _ _,⟨e,_⟩=>⟨_,e⟩
 | .BZ _,e=>⟨_,e⟩
 | .met _ _,e=>⟨_,e⟩
 | .ext _,⟨_,⟨o,e⟩,_⟩=>⟨o,e⟩
theorem eV.none(x:eV P w H h)(e:h.get? a=none):H a=none:=by
 cases q:H a with
 | none=>rfl
 | some o =>
  obtain⟨ob,e'⟩:=(x a o q).ex
  rw[e]at e'
  cases e'
theorem eV.less(x:eV P w H h)(k:∀ b u,(∃ o,H b=some o)->h.get? b=some u->B.get? b=some u):eV P w H B:=fun a o e =>
 (x a o e).rn (fun b u hb q=>k b u (by
  rcases hb with z|z
  ·rw[z];exact⟨o,e⟩
  ·exact⟨_,z⟩) q) (fun _ z=>z) fun _ _ z=>z
theorem Un.fly{fs:List Zg}{H1:Hp}{h1 h2:Heap}(u:Un fs [] H H1 h h1)(stays:B.StaysIn h2)(inB:∀ b o o1,h.get? b=some o->h1.get? b=some o1->b∉fs->B.get? b=some o1)(frame:∀ b o,b∈fs->h1.get? b=some o->∃ sl,h2.get? b=some { o with slots:=sl }):Un fs [] H H1 h h2 where
 keep:=fun b o q n hb hx=>stays b o (inB b o o q (u.keep b o q n hb hx) hb)
 slot:=fun b o q n hb hx=>by
  obtain⟨sl,e⟩:=u.slot b o q n hb hx
  obtain⟨sl',e'⟩:=frame b _ hb e
  exact⟨sl',e'⟩
 free:=u.free
 there:=fun b o q hx=>by
  obtain⟨o',e⟩:=u.there b o q hx
  by_cases hb:b∈fs
  ·obtain⟨sl,e'⟩:=frame b _ hb e
   exact⟨_,e'⟩
  ·exact⟨o',stays b o' (inB b o o' q e hb)⟩
 tups:=u.tups
 frzs:=u.frzs
 tbls:=u.tbls
section
theorem rT(b:Zg):b∈Bb (envOfC qual scope s.heap.objs.size f cd :: outer)↔b=s.heap.objs.size\/b∈Bb outer:=by
 unfold Bb
 rw[zB]
 show b∈(s.heap.objs.size :: _)↔_
 rw[jW]
end
abbrev VEm:List Value:=[.type "ValueError",.type "Exception",.type "BaseException",.type "object"]
section
variable{k:Nat}{t:TA}
theorem ae3(G:cx X.prog X.w X.K X.mg X.base x k ps fY sp)(hr:cI j X.A)(ha:PA X (e :: es) t)(Hn:k<=j:=by decide)(hg:Gl X x:=by rfl)(AF:#[16]=false:=by decide)(he:Qa (e :: es) X.env=#[17] :: Qa es X.env:=by rfl)(tw:#[20].any (·.1)=false:=by rfl):
  PE X #[19] (Iy sp fY E0 t):=by
 exists 88
 exists 98
end
section
variable{v1 v2:Expr}{rest:List Expr}
abbrev TF:=St->Hp->(QB->Hp->Prop)->Prop
def PF(X:Cx)(e:Expr)(t:TF):Prop := ∀ (pins:List #[44]) (s:QA) (σ:St) (H:Hp) (Q:QB->Hp->Prop),Inv X pins σ H s->t σ H Q ->
 wpAny #[5] X.A (eval e X.env) (fun u s'=>∃ x tk H',u=.str x tk/\Inv X pins σ H' s'/\x.length<=1000/\Q x H') X.xe s
theorem ab8{k:Nat}(hx:x.length<=1000:=by decide):PF X (.Constant (.str x) k pos) (fun _ H Q=>Q x H):=fun pins s σ H Q I q =>
 Calls.Constant_str (show _ from⟨x,_,H,rfl,I.tok _,hx,q⟩)
def ajr(te:TE):TF:=fun σ H Q=>te σ H fun v H1=>(∃ x,v=.str x/\x.length<=1000/\Q x H1)\/∃ i:Int,v=.int i/\i.natAbs.log2<1920/\(Str.ofString (toString i)).length<=1000/\Q (Str.ofString (toString i)) H1
theorem ab7(he:PE X e te):PF X (.FormattedValue e (-1) none pos) (ajr te):=by
 exists 4
 refine FormattedValue_plain (cf #[99] fun u s1 ⟨v,H1,I1,r,q⟩=>?_)
 rcases q with⟨x,rfl,hx,q⟩|⟨i,rfl,hd,hx,q⟩
 ·obtain⟨tk,rfl⟩:=(show ∃ t,u=YH x t from r)
  exact formatField_str (fun t' tk'=>⟨x,t',H1,rfl,I1.tok _,hx,q⟩) (jo hx #[18])
 ·obtain⟨tk,rfl⟩:=(show ∃ t,u=WQ i t from r)
  exact formatField_int_small hd ⟨_,_,H1,rfl,I1.tok _,hx,q⟩
def PFs(X:Cx)(n:Nat)(es:List Expr)(t:TF):Prop := ∀ (pins:List #[44]) (s:QA) (σ:St) (H:Hp) (Q:QB->Hp->Prop) (out:QB),out.length<=n->Inv X pins σ H s->t σ H Q ->
 wpAny #[5] X.A (joinParts out (evalEach es X.env)) (fun u s'=>∃ x tk H',u=.str x tk/\Inv X pins σ H' s'/\Q x H') X.xe s
def aft:TF:=fun _ H Q=>∀ x,Q x H
def acy(t1 t2:TF):TF:=fun σ H Q=>t1 σ H fun _ H1=>t2 σ H1 Q
theorem Z0(hn:n<=sizeLine:=by decide):PFs X n [] aft:=fun pins s σ H Q out ho I h=>joinParts_nil ⟨out,_,H,rfl,I.tok _,h out⟩ (jo ho hn)
theorem HS{t1 t2:TF}(h1:PF X e t1)(h2:PFs X (n+1000) es t2)(hn:n+1000<=sizeLine:=by decide):PFs X n (e :: es) (acy t1 t2):=by
 intro pins s σ H Q out ho I h
 refine joinParts_cons (cf (h1 pins s σ H _ I h) fun u s1 ⟨x,tk,H1,hu,I1,hx,q⟩=>?_)
 subst hu
 have hl:(out++x).length<=n+1000:=by rw[strLen_append];omega
 exact⟨jo hl hn,h2 pins s1 σ H1 Q (out++x) hl I1 q⟩
def afu(t:TF):TE:=fun σ H Q=>t σ H fun x H1=>Q (.str x) H1
theorem Y6{t:TF}(h:PFs X 0 (v1 :: v2 :: rest) t):PE X (.JoinedStr (v1 :: v2 :: rest) pos) (afu t):=by
 intro pins s σ H Q I q
 exact JoinedStr_many (cf (h pins s σ H _ Str.empty #[18] I q) fun u s1 ⟨x,tk,H1,hu,I1,q1⟩=>⟨.str x,H1,I1,⟨tk,hu⟩,q1⟩)
end
end L2
namespace L2
open PySem PySem.Spec PySem.W PySem.Builtin PySem.Builtin.Getset_descriptor
variable{prog:Zx}{w:World}{A:Around}{E:Value→QA→Prop}{s:QA}{K:WC}{ob:Obj}{h hh:Heap}{tp aaK:Value}{R:Result→QA→Prop}{Q:Option Value→QA→Prop}
structure Ds(K:WC)(C:Zg):Prop where
 ga:findIn K #[23] "__getattribute__" = some #[304]
 gt:findIn K #[23] "__getattr__" = some none
 cl:findIn K #[23] "__class__" = some (some #[24])
 gg:specialIn K #[24] "__get__" = some (some #[27])
 tk:takesIn K #[24]=some true
 ob:mroIn K C #[61]=some true
 be:mroIn K C #[60]=some true
 ci:(clsIn K C).isSome=true
section
variable{ea C:Zg}
theorem Q4{M:Model}(c:Ds K C)(X:K.In h):Looks M h (Yi #[327] #[23] "__class__") (.bind #[27] #[24]):=by
 have l1:=looks_findIn (M:=M) X c.cl
 have l2:Looks M h (XU (some #[24])) (some #[27]):=looks_specialIn (M:=M) X c.gg
 have l3:=looks_takesIn (M:=M) X c.tk
 have l4:Looks M h (yR (some #[24]) (some #[27])) (some (.builtin "getset_descriptor.__get__",.builtin "object.__class__")):=l3.andThen .now
 unfold Yi
 exact l1.andThen (l2.andThen (l4.andThen (Looks.tag .now)))
theorem T2(X:K.In s.heap)(LT:Looks #[8] s.heap (typeOf #[327]) #[23])(hm:mroIn K C #[61]=some true)(q:R (.ok (.ret #[23])) s):
  codeAny #[8] A (.call #[27] ⟨[.builtin "object.__class__",.ref ea,tp],[]⟩) R s:=by
 have LM:=QT (M:=model prog w) X hm
 obtain⟨hp,gs,dr,tk,os⟩:=s
 dsimp only at LT LM
 refine QI KF.slot_gs.plain KF.entry_gs (KF.slot_gs.check _ _ _ _ _ _ _ _ KF.type_class (KF.args_gs _ _ _) ?_)
 unfold Builtin.«getset_descriptor.__get__» descrGet;rw[dga_obj]
 refine Qq (qX ?_);unfold descrGetter descrCheckInstance descrNameAndClass isInstance
 simp only[KF.owner_class];repeat lk
 refine⟨Code.quiet_builtin _ #[4],QH KF.entry_class ?_⟩;unfold Builtin.«object.__class__» shownTypeOf
 repeat lk
 exact q
theorem DV{M:Model}{g:Array Zp}{d:Drawn}{t:Nat}{os:OsState}{Q:Unit->QA->Prop}(LB:Looks M hh (isInstance #[327] #[60]) true)(hq:Q () ⟨hh,g,d,t,os⟩):
  wpAny M A (checkBuiltinCall "BaseException.__getattribute__" ⟨[.ref ea,aaK],[]⟩) Q E ⟨hh,g,d,t,os⟩:=by
 exists 89
 exists 46
 have ha:=yB #[327] aaK
 simp only[checkBuiltinCall,hk,RA]
 refine Qq (LB.at ?_)
 simp only[ZF,JB,if_false]
 exists 60
theorem Ot(c:Ds K C)(X:K.In s.heap)(LT:∀ M:Model,Looks M s.heap (typeOf #[327]) #[23])(h:Q (some #[23]) { s with toks:=s.toks+1 }):
  wpAny #[8] A (getAttr? #[327] "__class__") Q E s:=by
 obtain⟨hh,g,d,t,os⟩:=s
 have L0:=LT #[8]
 have L1:=looks_findIn (M:=model prog w) X c.ga
 have L2:=looks_findIn (M:=model prog w) X c.gt
 have LF:=Q4 (M:=model prog w) (ea:=ea) c X
 have LB:Looks #[8] hh (isInstance #[327] #[60]) true:=L0.andThen (QT (M:=model prog w) X c.be)
 unfold getAttr? getAttrBy? getAttrBy
 refine Qq (wpAny_mkText (Qq (Qp (qF (Qq (L0.at (Qq (L1.at ?_))))))))
 have ne:#[129]=false:=by
  exists 61
  rw[this];rfl
 dsimp only
 rw[ne]
 simp only[JB,if_false]
 unfold getAttrByItsOwn hookBefore
 rw[if_pos (show onTheHeap (WD C)=true from rfl)]
 refine Qq (L2.at ?_)
 refine Qq (Qp (qF ?_))
 unfold callGetattribute
 simp only[zx,JB,if_false]
 unfold boundAndCalled
 rw[PySem.F.attrBase_ValueError.ga.bind #[327]]
 refine Qq (qX ?_)
 exists 89
 exists 46
 have ha:=yB #[327] (.str "__class__" t)
 refine Qr #[334]
 refine DV LB ?_
 unfold Builtin.«object.__getattribute__»
 refine Qq (qX ?_)
 dsimp only
 refine Qq ?_
 refine(show wpAny _ _ (pure _) _ _ _ from qX ?_)
 refine Qq (L0.at ?_)
 refine Qq (LF.at ?_)
 dsimp only
 show wpAny _ _ (holding [WT "object.__class__"] (call #[27] [.builtin "object.__class__",.ref ea,.ref C])>>=ret) _ _ _
 refine Qq (qF (Qr (T2 (s:=⟨hh,g,d,t+1,os⟩) X L0 c.ob ?_)))
 refine qX ?_
 exact handed_on rfl (qX h)
def Tz(ea C:Zg)(h:Heap):Prop := ∃ ob vs,h.get? ea=some ob/\ob.cls=.ref C/\ob.data=.fields vs
theorem Tz.ty{M:Model}(p:Tz ea C h):Looks M h (typeOf #[327]) #[23]:=by
 obtain⟨ob,vs,e,c,_⟩:=p
 exact c ▸ (Looks.ld e).andThen .now
theorem RG(c:Ds K C):KitX K #[327] #[23] (Tz ea C) where
 ty:=fun M h _ p=>p.ty
 it:=fun M h X _=>by
  obtain⟨cd,e⟩:=JS.mp c.ci
  unfold clsIn at e
  split at e
  ·rename_i ho
   intro A' Q' E' s' k q
   unfold isType loadHead;exact Qq (qL (k _ _ (X _ _ ho)) (qX q))
  ·cases e
 ne:=fun h tp dd bp n sl X htp=>by
  obtain⟨cd,e⟩:=JS.mp c.ci
  refine Bool.eq_false_iff.mpr fun q=>?_
  cases(show C=tp from ym (beq_iff_eq.mp q))
  unfold clsIn at e
  split at e
  ·rename_i ho;cases(X _ _ ho).symm.trans htp
  ·cases e
 ca:=fun X p k=>Ot c X (fun M=>p.ty) k
end
end L2
namespace L2
open PySem PySem.Spec PyProof.Rows
variable{X:Cx}{pins:List (Zg×Obj)}{σ:St}{H H':Hp}{s:QA}{E:XK}{ea f:Zg}{A:Around}{x qual:QB}{j i:Nat}{ps N:List QB}{fY vs:List V}{sp:Sp}{p pos:Pos}{e a:Expr}{es:List Expr}{P prog:Zx}{w:World}{o:HO}{EE:Value→QA→Prop}{v c:V}{Q:Unit→QA→Prop}{body:List Stmt}{st:Stmt}{h5 B base:Heap}{CX:FP}{K:WC}{mg:QB→Option Value}{scope:Scope}{cd dV:Value}{outer:List Zn}{us:List Value}{params:Zi}{an od:Option Zg}{Dm:Array (Option Value)}{fd:Zo}{te:TE}
abbrev Cx.held(X:Cx)(ea:Zg):Cx:={ X with A:=X.A.mark (some #[327]),calm:=false,xe:=fun _ _=>False }
section
theorem HC{v:Option Value}:(A.mark v).frames=A.frames:=by first|rfl|simp[Around.mark]
theorem Cx.Ok.held(ok:X.Ok):(X.held ea).Ok:=
 ⟨ok.mod,ok.kind,ok.glob,ok.blt,ok.above,ok.inj,ok.has,ok.cab,(fun z=>by cases z),HC.trans ok.frames,ok.stk,ok.exf,ok.bs,ok.bsz,ok.noex,ok.exfs,ok.sQ,ok.frf⟩
theorem Inv.held(I:Inv X pins σ H s):Inv (X.held ea) pins σ H s:=⟨I.ok.held,I.os,I.bare,I.base,I.loc,I.cell,I.free,I.freeC,I.pin,I.hok,I.len⟩
theorem Inv.acD(ok:X.Ok)(I:Inv (X.held ea) pins σ H s):Inv X pins σ H s:=⟨ok,I.os,I.bare,I.base,I.loc,I.cell,I.free,I.freeC,I.pin,I.hok,I.len⟩
abbrev TXE:=St->Hp->VK->XK->Prop
abbrev TX:=Ends->XK->St->Hp->Prop
end
section
variable{t:TA}
def acz(sp:Sp)(fY:List V)(t:TA):TXE:=fun σ H Q E=>t σ H fun vs H1=>sp (vs++fY) H1 Q E
def acC(t:TXE):TX:=fun D E σ H=>t σ H (fun _ H1=>D.nx σ H1) E
def afG(i:Nat)(t:TXE):TX:=fun D E σ H=>t σ H (fun v H1=>D.nx (σ.set i (some v)) H1) E
end
section
variable{fs:List Zg}{H1:Hp}{h h1:Heap}
theorem Un.more(u:Un fs [] H H1 h h1)(n:h.get? ea=none)(z:H ea=none):Un fs [] H (upd H1 ea o) h h1 where
 keep:=u.keep
 slot:=u.slot
 free:=fun b ob q e hx=>by
  rw[af (fun c=>by rw[c,n]at q;cases q)]
  exact u.free b ob q e hx
 there:=u.there
 tups:=fun b xs q=>by rw[af (ah q z)];exact u.tups b xs q
 frzs:=fun b ob v q=>by rw[af (ah q z)];exact u.frzs b ob v q
 tbls:=fun b ps q=>by rw[af (ah q z)];exact u.tbls b ps q
end
section
theorem Pu{M:Model}{v:V}(I:Inv X pins σ H s)(hN:X.N.Nodup)(hi:X.N[i]?=some x)(hx:X.env.scope.names.lookup x=some .local)(h:∀ s',Inv X pins (σ.set i none) H s'->Q () s'):wpAny M A (do bindName X.env x .none;unbindBehindTheSuite X.env x pos) Q EE s:=by
 exists 37
 have Rp:i<σ.length:=by rw[I.len];exact(jf.mp hi).1
 refine Qq (wpAny_bindName (sh I hN hi (.inl hx) (v:=.non) rfl (fun s1 I1=>?_) (.inr hx)))
 unfold unbindBehindTheSuite
 refine wpAny_onRaise ?_
 obtain⟨m,hn,hl⟩:=id I1.loc
 have hv:m x=some .none:=by
  obtain⟨u,ru,lk⟩:=hl i x .non hi (Jc Rp) (.inl hx)
  cases(show u=WJ from ru)
  rcases lk with⟨_,e⟩|⟨k,_⟩
  ·exact e
  ·have k0:X.env.kindOf x=some .local:=hx
   rw[k0]at k
   rcases k with k|k<;>cases k
 refine wpAny_unbindName_local hx hn hv abu fun h' u hn' hs=>h _ ?_
 have P6:=I1.P6
 obtain⟨oL,_,_,hoL,_⟩:=id hn
 refine⟨I1.ok,I1.os,I1.bare,⟨fun b o e n hb hz=>?_,fun b o e n hb hz=>?_,I1.base.free,fun b o e hz=>?_,I1.base.tups,I1.base.frzs,I1.base.tbls⟩,⟨_,hn',fun j y v' e1 e2 e3=>?_⟩,fun y c e=>?_,I1.free,I1.freeC,fun p hp=>?_,fun b ob e=>?_,?_⟩
 ·exact#[191].trans (I1.base.keep b o e n hb hz)
 ·obtain⟨sl,f⟩:=I1.base.slot b o e n hb hz
  exact⟨sl,#[191].trans f⟩
 ·obtain⟨o',f⟩:=I1.base.there b o e hz
  exact⟨o',#[191].trans f⟩
 ·by_cases hj:j=i
  ·subst hj
   rw[Jc Rp]at e2
   cases e2
  ·rw[Jg (Ne.symm hj)]at e2
   obtain⟨u',r',q⟩:=hl j y v' e1 (by rw[Jg (Ne.symm hj)];exact e2) e3
   exists u',r'
   rcases q with⟨k,e⟩|⟨k,c,e,z⟩
   ·refine .inl ⟨k,?_⟩
    have:y≠x:=fun e=>hj (CM hN e1 (e ▸ hi))
    simp[this,e]
   ·exact .inr ⟨k,c,e,z.sameBut hs (P6 y c e)⟩
 ·obtain⟨w',z⟩:=I1.cell y c e
  exact⟨w',z.sameBut hs (P6 y c e)⟩
 ·obtain⟨e,n,ne,nf,d⟩:=I1.pin p hp
  exact⟨(hs.2 p.1 ne).trans e,n,ne,nf,d⟩
 ·refine(I1.hok b ob e).rn (fun c w' hc q=>(hs.2 c ?_).trans q) (fun _ q=>q) fun _ _ q=>q
  rintro rfl
  rcases hc with rfl|hc
  ·rw[I1.free]at e;cases e
  ·rw[I1.free]at hc;cases hc
 ·rw[zL];exact I.len
end
section
variable{s':QA}
theorem land(I:Inv X pins σ H s)(os:s'.os=s.os)(bare:Zh s'.gens)(un:Un (Bb X.stack) [] H H' s.heap s'.heap)(hok:eV X.prog X.w H' B)(there:∀ b o,s.heap.get? b=some o->b∉Bb X.stack->∃ o',B.get? b=some o')(f0:B.StaysIn s'.heap)(f5:B.StaysIn h5)(sm:s'.heap.UpToSlots h5):Un (Bb X.stack) [] H H' s.heap h5/\eV X.prog X.w H' h5:=by
 have Rx:eV X.prog X.w H' s'.heap:=hok.kept fun b u q=>f0 b u q
 have J:Inv X pins σ H' s' := I.DP (ch:=[]) os un Rx bare #[197]
 refine⟨Un.fly un f5 (fun b o o1 q q1 hb=>?_) fun b o hb q=>?_,hok.kept fun b u q=>f5 b u q⟩
 ·obtain⟨o',e'⟩:=there b o q hb
  have:=f0 b o' e'
  rw[q1]at this
  cases this
  exact e'
 ·obtain⟨_,o',e',hd⟩:=J.stack.mem hb
  rw[q]at e'
  cases e'
  exact sm b o q hd
end
structure oG(k:Nat)(A:Around):Prop where
 dp:A.depth+3*k+5<recursionLimit
 un:A.units+16*k+200<cLine
theorem oG.mono{k:Nat}(r:oG k A)(h:j<=k):oG j A:=⟨by have:=r.dp;omega,by have:=r.un;omega⟩
theorem oG.deeper{k:Nat}(r:oG (k+1) A)(env:Zn):oG k (A.deeper env):=
 ⟨by have:=r.dp;show A.depth+1+3*k+5<_;omega,by have:=r.un;show A.units+3+16*k+200<_;omega⟩
theorem oG.depth{k:Nat}(r:oG k A):A.depth<recursionLimit:=by have:=r.dp;omega
theorem cI.held{k:Nat}{v:Option Value}(r:cI k A):oG k (A.mark v):=
 ⟨by have:=r.dp;first|exact this|(simp only[Around.mark];exact this),by have:=r.un;first|exact this|(simp only[Around.mark];exact this)⟩
structure FR(P:Zx)(w:World)(K:WC)(mg:QB->Option Value)(base:Heap)(CX:FP)(k:Nat)(f:Zg)(fd:Zo)(ps:List QB)(sp:Sp):Prop where
 len:∀ vs H Q E,sp vs H Q E->vs.length=ps.length
 run:∀ (A:Around) (outer:List Zn) (s:QA) (H:Hp) (args:Args) (us:List Value) (vs:List V) (Q:VK) (E:XK),oG k A->B3 P w K mg base A outer s H->Zj s fd args #[145]->Vals vs us->sp vs H Q E ->
  codeAny #[97] A (.call #[46] args) (CR CX outer P w H s Q E) s
abbrev G1(CX:FP)(P:Zx)(w:World)(K:WC)(mg:QB->Option Value)(base:Heap)(N:List QB)(qual:QB)(scope:Scope)(f:Zg)(cd:Value)(A:Around)(outer:List Zn)(s:QA)(H:Hp)(E:XK):Cx:=
 { Ay CX P w K mg base N qual scope f cd A outer s H E with calm:=false }
theorem J6{s1:QA}(S:aJ N ps scope)(e0:B3 P w K mg base A outer s H)(hl:vs.length=ps.length)(r:Vals vs us)(x:InCallC s s.heap.objs.size (bindL #[32].kindOf #[145] fun _=>none) (cellsFrom #[15] scope.names []) (bindC #[32].kindOf #[145] fun _=>none) s1):
  Inv (G1 CX P w K mg base N qual scope f cd A outer s H E) [] #[150] H s1:=by
 have e1:B3 P w K mg base { A with handled:=none } outer s H:=⟨e0.frames,e0.mod,e0.bs,e0.bsz,e0.sQ,e0.frf,e0.hok,e0.bare⟩
 have I:=AG (CX:=CX) (E:=E) (qual:=qual) (f:=f) (cd:=cd) S rfl e1 hl r x
 have ok:=I.ok
 exact⟨⟨ok.mod,ok.kind,ok.glob,ok.blt,ok.above,ok.inj,ok.has,ok.cab,(fun z=>by cases z),Around.frames_deeper e0.frames,ok.stk,ok.exf,ok.bs,ok.bsz,ok.noex,ok.exfs,ok.sQ,ok.frf⟩,I.os,I.bare,I.base,I.loc,I.cell,I.free,I.freeC,I.pin,I.hok,I.len⟩
theorem abk{k:Nat}{name:QB}{kV doc pm ck ct oc:Value}(lk:K.lookup f=some ⟨oc,od,.func #[59],Dm⟩)(Dx:WX K ck qual=true)(S:aJ N ps scope)(len:∀ vs H Q E,sp vs H Q E->vs.length=ps.length)(rM:∀ (A:Around) (outer:List Zn) (s:QA) (H:Hp) (vs:List V) (Q:VK) (E:XK),oG k #[284]->sp vs H Q E ->
   ∃ t,Ey #[110] body t/\t { nx:=fun _ H'=>Q .non H',rt:=Q } #[150] H):
  FR P w K mg base CX (k+1) f #[59] ps sp:=by
 exists 77
 have hl:=len _ _ _ _ FK
 exists 78
 exists 29
 have Hm:∀ y∈ps.zip us,scope.names.lookup y.1=some .local\/#[119]:=fun⟨n,v⟩ hy=>by
  rcases S.par n (Jr hy).1 with q|q
  ·exact .inl q
  ·exact .inr ⟨q,Wr _ _ _ (.inl q)⟩
 exists 47
 refine qQ S.kind Hm fun env he s1 x=>?_
 subst he
 exists 143
 exists 87
 have I:Inv #[110] [] #[150] H s1:=J6 S e0 hl r x
 exists 102
 have fin:∀ {σ':St} {H':Hp} {v:V} {u:Value},Inv #[110] [] σ' H' s'->RelV v u->Q v H'->CE outer P w H s Q u s' :=
  fun {σ' H' v u} J rv q=>⟨v,H',J.os,J.bare,J.base,J.hok,rv,q⟩
 cases fl with
 | ret u =>
  obtain⟨v,σ',H',J,rv,q⟩:=hs
  exact fin J rv q
 | next =>
  obtain⟨σ',H',J,q⟩:=hs
  exact fin (v:=V.non) (u:=WJ) J rfl q
 | brk =>
  obtain⟨_,_,_,q⟩:=hs
  exact False.elim q
 | cont =>
  obtain⟨_,_,_,q⟩:=hs
  exact False.elim q
structure aaZ(P:Zx)(w:World)(K:WC)(mg:QB->Option Value)(base:Heap)(x:QB)(k:Nat)(ps:List QB)(fY:List V)(sp:Sp):Prop where
 ex:∃ (f:Zg) (fd:Zo) (ds:List Value),mg x=some #[46]/\WL K #[46]=true/\Vals fY ds/\Binds K fd ps ds/\FR P w K mg base eA k f fd ps sp
section
theorem bE.okH{k:Nat}(F:bE K x qual st dV f fd)(S:aJ N ps (aj st))(len:∀ vs H Q E,sp vs H Q E->vs.length=ps.length)(rM:∀ (ck:Value) (A:Around) (outer:List Zn) (s:QA) (H:Hp) (vs:List V) (Q:VK) (E:XK),oG k #[109]->sp vs H Q E ->
   ∃ t,Ey (G1 eA P w K mg base N qual (aj st) f ck A outer s H E).nox (cu st) t/\t { nx:=fun _ H'=>Q .non H',rt:=Q } #[150] H):FR P w K mg base eA (k+1) f fd ps sp:=by
 exists 17
 refine abk lk Dx S len fun A outer s H vs Q E hr FK=>?_
 obtain⟨t,h,q⟩:=rM ck A outer s H vs Q E hr FK
 exact⟨t,h.nox,q⟩
end
section
variable{k:Nat}{t:TA}
theorem ae4(G:aaZ X.prog X.w X.K X.mg X.base x k ps fY sp)(hr:oG j X.A)(ha:PA X (e :: es) t)(Hn:k<=j:=by decide)(hg:Gl X x:=by rfl)(AF:#[16]=false:=by decide)(he:Qa (e :: es) X.env=#[17] :: Qa es X.env:=by rfl)(tw:#[20].any (·.1)=false:=by rfl):
  PE X #[19] (Iy sp fY E0 t):=by
 exists 88
 exists 4
 exists 153
 exists 38
 exists 142
 exists 106
 refine Qr (QL (F.run X.A X.stack s1 H1 ⟨us,[]⟩ (us++ds) (vs++fY) Q E0 (hr.mono Hn) I1.Oq (hb s1 us I1.pb hl) r2 q) fun r' s' hq=>?_)
 cases r' with
 | error e'=>exact False.elim hq
 | ok fl =>
  cases fl with
  | ret u=>exact I1.after hq
  | next=>exact False.elim hq
  | brk=>exact False.elim hq
  | cont=>exact False.elim hq
end
section
def adL:V->Option Value
 | .ref a=>some #[75]
 | .ty n=>some (.type n)
 | _=>none
theorem P5{cv u:Value}(e:adL c=some cv)(r:RelV c u):u=cv:=by
 cases c<;>first|cases e
 ·exact r
 ·exact r
end
theorem iU{α β:Type}{F:α->β->Prop}:∀ {l₁:List α} {l₂:List β} {j:Nat} {q:β},Zv F l₁ l₂->l₂[j]?=some q->∃ p,l₁[j]?=some p/\F p q
 | _,_,_,_,.nil,e=>by simp at e
 | _,_,0,_,.cons r _,e=>by simp at e;subst e;exact⟨_,rfl,r⟩
 | _,_,j+1,_,.cons _ t,e=>by
  obtain⟨p,h1,h2⟩:=iU (j:=j) t (by simpa using e)
  exact⟨p,by simpa using h1,h2⟩
section
theorem D4:∀ {ks:List Key} {us:List Value},us.length=ks.length->(∀ (j:Nat) (v:Value),us[j]?=some v->∃ k,ks[j]?=some k/\Be k v=true)->Vals (ks.map kV) us
 | [],[],_,_=>.nil
 | [],_ :: _,h,_=>by simp at h
 | _ :: _,[],h,_=>by simp at h
 | k :: ks,u :: us,h,q=>by
  obtain⟨k',e,i⟩:=q 0 u rfl
  cases(show k=k' from by simpa using e)
  refine .cons ?_ (D4 (by simpa using h) fun j v e=>by simpa using q (j+1) v (by simpa using e))
  rcases cw i with⟨n,t,rfl,rfl⟩|⟨x,t,rfl,rfl⟩
  ·exact⟨t,rfl⟩
  ·exact⟨t,rfl⟩
def acd:List V->Hp->VK->Prop:=fun xs H Q=>∃ p kvs,xs=[.ref p]/\H p=some #[54]/\∀ l,H l=none->Q (.ref l) (upd H l #[274])
theorem Cm(hc:X.calm=true):lK X #[273] acd:=by
 exists 19
 obtain⟨p,kvs,rfl,hp,q⟩:=h
 exists 31
 cases rx
 obtain⟨hz,lo,vs,kv,dof⟩:=(show bq X.prog X.w H s.heap p #[54]from I.hok p _ hp)
 obtain⟨ep,hat⟩:=dof.dictAt
 have hlen:kvs.length=vs.length:=Paired.length kv
 refine yX (PySem.W.kdl_dict (knd:=bt X.prog X.w) (kvs:=vs) (ep:=ep) lo) #[137] hat (by rw[<- hlen];exact hz) fun h' tk acc c' kp e wW=>?_
 have rv:Vals ((kvs.map (·.1)).map kV) acc.toList:=D4 (by rw[jx,wW.1,jQ,hlen]) fun j v ej=>by
  obtain⟨k,x,e1,e2⟩:=wW.2 j v (by rw[<- JR];exact ej)
  refine⟨k,?_,e2⟩
  obtain⟨pv,f1,f2⟩:=iU kv e1
  rw[jP,f1]
  exact congrArg some f2.1
 rw[JF]at rv
 have ob:bq X.prog X.w (upd H s.heap.objs.size #[274]) h' s.heap.objs.size #[274]:=by
  exists by rw[jQ];exact hz,acc.toList,c',rv
  rw[ZC]
  exact e
 exists 43
end
end L2
namespace L2
open PySem PySem.Spec PySem.W PySem.Builtin PySem.Builtin.ObjectAttr PyProof.Rows
variable{prog:Zx}{w:World}{A:Around}{E Q:Value→QA→Prop}{s:QA}{K:WC}{x C N f fI tp:Zg}{vs:Array Value}{name:QB}{v u:Value}{as:List Zg}{h:Heap}{R:Result→QA→Prop}{hdct ab:Bool}{sn:List QB}{sub:List Value}{mN:QB→Option Value}{oI:Obj}
abbrev eD(C:Zg)(dx:Option Zg)(vs:Array Value):Obj:={ cls:=.ref C,dict:=dx,data:=.fields vs }
def mroIs(K:WC)(C:Zg)(as:List Zg):Bool:=(clsIn K C).any fun cd=>cd.mro==as.map WD++VEm
theorem Bk(self:Value):∀ as:List Zg,refuseLoop self "__setattr__" (as.map WD++VEm)=pure ()
 | []=>PySem.F.store_ValueError.passes self
 | a :: r=>by
  rw[JE,List.cons_append,refuseLoop_ref]
  exact Bk self r
section
theorem Hr(hx:h.get? x=some (eD C none vs)):InstAt h x (eD C none vs) C none:=⟨hx,rfl,rfl,trivial⟩
theorem Y3{tk:Tok}(X:K.In s.heap)(hx:s.heap.get? x=some (eD C none vs))(hm:mroIs K C as=true)(ob:mroIn K C #[61]=some true)(na:findIn K #[23] name=some none)(h:wpAny #[8] A.in1 (storeInOwnDict #[94] #[23] (.str name tk) name v false)
   (fun fin s'=>match fin with|.done f=>R (.ok f) s'|.again c'=>c'.quiet=true/\codeAny #[8] A c' R s') (fun e s'=>R (.error e) s') s):
  codeAny #[8] A (.call (.builtin "object.__setattr__") ⟨[.ref x,.str name tk,v],[]⟩) R s:=by
 have SF:=PySem.F.store_object
 have I:=Hr hx
 obtain⟨cd,hc,ho⟩:=any_some hm
 have em:cd.mro=as.map WD++VEm:=by simpa using ho
 have sub:Looks #[8] s.heap (isInstance #[94] #[61]) true:=I.type.andThen (QT X ob)
 refine QI SF.slot.plain SF.entry (@check_slot #[8] _ _ s "object.__setattr__" "object" "__setattr__" #[94] [.str name tk,v] [] _ SF.kind SF.split sub (SF.args #[94] (.str name tk) v) ?_)
 have lm:Looks #[8] s.heap (mroOf #[23]) cd.mro:=(looks_clsIn X hc).andThen .now
 rw[osa_eq,refuse_eq]
 refine Qq (Qq (I.type.here (Qq (lm.here ?_))))
 rw[em,Bk]
 refine qX (Qq (I.type.here (Qq ((looks_findIn X na).here (Qq (qX ?_))))))
 exact h
theorem aac{Q:Unit->QA->Prop}(X:K.In s.heap)(hx:s.heap.get? x=some (eD C none vs))(hs:findIn K #[23] "__setattr__" = some #[67])(hm:mroIs K C as=true)(ob:mroIn K C #[61]=some true)(na:findIn K #[23] name=some none)(hh:hasDictIn K C=true)(h:∀ h' d,h'.get? x=some (eD C (some d) vs)->h'.Ns1 d (fun y=>if y=name then some v else none)->s.heap.objs.size<=d->#[262]->Q () { s with heap:=h',toks:=s.toks+2 }):
  wpAny #[8] A (setAttr #[94] name v) Q E s:=by
 have J:=Hr hx
 refine set_plain X J hs (Y3 (s:={ s with toks:=s.toks+1 }) X hx hm ob na ?_)
 obtain⟨cd,hc,U0⟩:=any_some hh
 refine Qq (qX (Qq (Qq (qL hx (Qq (yI (s:={ s with toks:=s.toks+1 }) (looks_clsIn X hc) ?_))))))
 rw[U0]
 rw[if_neg #[18],if_neg (by simp[typeHasDict])]
 have J4:#[41].get? x=some (eD C none vs):=jB _ hx
 have hxs:x≠s.heap.objs.size:=jO (jJ hx)
 refine Qq (wpAny_alloc' (Qq (wpAny_update' J4 (qX ?_))))
 have hgd:#[124].get? s.heap.objs.size=some { cls:=.type "dict",data:=.dict #[] }:=
  (ZG _ _ _ _ hxs.symm).trans (Heap.get?_push_at rfl rfl)
 have hnd:#[124].Ns s.heap.objs.size (fun _=>none):=
  ⟨_,#[],_,hgd,rfl,fun e he=>absurd he #[11],fun _=>rfl⟩
 dsimp only
 unfold storeInDict newKeyGuard
 refine Qq (qX (Qq (wpAny_nsSet1 (yO hnd) fun h' hn' hs'=>?_)))
 obtain⟨oD,esD,epD,hoD,hdD,hcD⟩:=hn'.count (Within.cons name v Within.nil)
 refine Qq (qN hoD (by rw[hdD];exact QV (jo hcD (by rw[jc,Jb,QZ];omega))) ?_)
 refine qX (h h' s.heap.objs.size ?_ ?_ (jF _) fun b o hb q=>?_)
 ·exact(hs'.2 x hxs).trans (JC _ J4 rfl)
 ·obtain⟨o',es,ep,e1,e2,e3,eu,e4⟩:=hn'
  exact⟨o',es,ep,e1,e2,e3,eu,fun y=>by rw[e4 y]⟩
 ·exact(hs'.2 b (jO (jJ q))).trans ((ZG _ _ _ _ hb).trans (jB _ q))
end
def tY(K:WC)(C:Zg)(f:Zg):Bool:=match K.lookup C with
 | some ⟨.type "type",_,.cls cd,sl⟩=>(match cd.mro,sl.toList with
  | .ref C' :: tl,[_,_,_,_,some (.builtin n),_]=>C'==C&&n == "ValueError.__new__" && !cd.hasDel&&tailIn K VEm tl&&nsOkIn K cd.ns&&nsIn K cd.ns "__init__" == some #[172]
  | _,_=>false)
 | _=>false
theorem HJ{x:QB}(X:K.In h)(e:nsOkIn K N=true)(q:nsIn K N x=some (some v)):h.nsMap N x=some v:=by
 have G:=Xb (isNs_of_in X e)
 obtain⟨o,es,ep,ho,hd,_,hf⟩:=id G
 unfold nsIn at q
 split at q
 ·rename_i c d tX n' sl z
  have y:=X _ _ z
  rw[ho]at y
  cases y
  cases hd
  split at q
  ·rename_i en he
   cases q
   rw[<- hf]
   unfold nsFind findBy
   rw[<- ZL,he]
   rfl
  ·split at q<;>cases q
 ·cases q
theorem EN(X:K.In h)(q:tY K C f=true):
  ∃ tl N nm qn bs hd sn sub ab col dd k0 k1 k2 k3 k5 mN,h.get? C=some (excClassObj nm qn C N bs tl hd sn sub ab col dd k0 k1 k2 k3 k5 "ValueError.__new__")/\h.Ns N mN/\mN "__init__" = some #[46]/\OwnTail h VEm tl:=by
 unfold tY at q
 cases e:K.lookup C with
 | none=>rw[e]at q;cases q
 | some ob =>
  rw[e]at q
  obtain⟨oc,od,dt,sl⟩:=ob
  split at q
  ·rename_i dd cd sl' he
   cases he
   split at q
   ·rename_i C' tl k0 k1 k2 k3 n k5 m1 m2
    simp only[ZV,beq_iff_eq,Bool.not_eq_true']at q
    obtain⟨⟨⟨⟨⟨rfl,rfl⟩,d1⟩,t1⟩,o1⟩,i1⟩:=q
    obtain⟨nm,bs,mro,ns,qn,hd,sn,sub,ab,col,del⟩:=cd
    dsimp only at m1 d1 o1 i1
    subst m1 d1
    have es:sl=#[k0,k1,k2,k3,some (.builtin "ValueError.__new__"),k5]:=by
     cases sl with
     | mk l=>exact congrArg Array.mk m2
    subst es
    exact⟨tl,ns,nm,qn,bs,hd,sn,sub,ab,col,_,k0,k1,k2,k3,k5,_,X _ _ e,.of_isNs (isNs_of_in X o1),HJ X o1 i1,tail_of_in X t1⟩
   ·cases q
  ·cases q
section
variable{g:Array Zp}{d:Drawn}{t:Nat}{os:OsState}
variable{nm q:QB}{bs bm:List Value}{col:Option Bool}{dd:Option Zg}{k0 k1 k2 k3 k5:Option Value}
theorem BJ(T:OwnTail h VEm bm){rest:List Value}{Q:Fin->QA->Prop}(hC:h.get? C=some (excClassObj nm q C N bs bm hdct sn sub ab col dd k0 k1 k2 k3 k5 "ValueError.__new__"))(hn:h.Ns N mN)(hi:mN "__init__" = some (.ref fI))(hfI:h.get? fI=some oI)(hfc:oI.cls=.type "function")(hq:∀ h' e tp,h'.get? e=some #[235]->h.get? e=none->h.objs.size<=e->(∀ b o,h.get? b=some o->h'.get? b=some o) ->
   wpAny #[8] A (call (.ref fI) (.ref e :: rest)) (fun r s'=>r=.none/\Q (.done (.ret (.ref e))) s') E ⟨h',g,d,t,os⟩)(Rz:rest.length<=sizeLine):
  wpAny #[8] A (Builtin.«type.__call__» ⟨.ref C :: rest,[]⟩) Q E ⟨h,g,d,t,os⟩:=by
 have Fn:=YY
 repeat (first|with_reducible refine qM hC ?_|with_reducible refine wpAny_madeBy_exc hC ?_|wp_step)
 refine codeAny_call_builtin_code (Code.quiet_builtin _ Fn.quiet) (wpAny_check_new_subU Fn #[18] T hC ?_)
 refine codeAny_exc_new_subU Fn #[18] Fn T hC ?_ Rz
 show wpAny _ _ _ _ _ _
 generalize hE:({ cls:=.ref C,data:=.fields #[.ref h.objs.size,.none,.none,.none,.bool false,.none] }:Obj)=oE
 generalize hT:({ cls:=.type "tuple",data:=.seq rest.toArray }:Obj)=oT
 have keep:∀ b o,h.get? b=some o->((h.push oT).push oE).get? b=some o:=fun b o e=>jB _ (jB _ e)
 have hC1:=keep _ _ hC
 have hn1:((h.push oT).push oE).Ns N mN:=let ⟨o,es,ep,e,r⟩:=hn;⟨o,es,ep,keep _ _ e,r⟩
 have aej:((h.push oT).push oE).get? (h.objs.size+1)=some (eD C none #[.ref h.objs.size,.none,.none,.none,.bool false,.none]):=by
  have q:=jL (h.push oT) (o:=oE) (by rw[<- hE];rfl)
  rw[JW]at q
  rw[q,<- hE]
 have hcC:(WD C :: bm).contains #[23]=true:=by simp
 have T1:=T.keeps (h' := (h.push oT).push oE) keep
 unfold isInstance
 repeat (first|with_reducible refine qM aej ?_|(with_reducible refine qI hC1 ?_;rw[hcC])|wp_step)
 show wpAny _ _ (typeLookup #[23] _) _ _ _
 refine wpAny_typeLookup_tail hC1 hn1 T1 Fn.mroIs Fn.init.lookup ?_
 rw[hi]
 refine qF (Qq ?_)
 unfold bindSpecial
 refine Qq (WB (T := "function") ⟨_,keep _ _ hfI,hfc⟩ ?_)
 rw[if_pos #[18]]
 refine qX (Qq (qO (hq _ (h.objs.size+1) h.objs.size aej (zJ (JM _)) (JM _) keep) (fun r s' hr=>?_) fun _ _ x=>x))
 obtain⟨rfl,hQ⟩:=hr
 wp_walk
 exact hQ
end
section
theorem IP{rest:List Value}(X:K.In s.heap)(hx:tY K C f=true)(hf:isFn K #[46]=true)(hq:∀ h' e tp,h'.get? e=some #[235]->s.heap.get? e=none->s.heap.objs.size<=e->#[43] ->
   wpAny #[8] (A.under (.builtin "type.__call__" ⟨.ref C :: rest,[]⟩)) (call #[46] (.ref e :: rest)) (fun r s'=>r=.none/\Q (.ref e) s') E { s with heap:=h' })(Rz:rest.length<=sizeLine):
  wpAny #[8] A (call #[23] rest) Q E s:=by
 obtain⟨tl,N,nm,qn,bs,hd,sn,sub,ab,col,dd,k0,k1,k2,k3,k5,mN,hC,hN,hi,T⟩:=EN X hx
 obtain⟨oI,hfI,hfc⟩:∃ oI,s.heap.get? f=some oI/\oI.cls=.type "function" := by
  have q:(K.lookup f).map (·.cls)=some (.type "function"):=beq_iff_eq.mp hf
  obtain⟨o,ho,e⟩:=Jt.mp q
  exact⟨o,X _ _ ho,e⟩
 obtain⟨hp,g,d,t,os⟩:=s
 have f1:=tc_lookup
 have f2:=tc_bind #[23]
 have hT:(⟨hp,g,d,t,os⟩:QA).TypeIs #[23] "type" := ⟨_,hC,rfl⟩
 refine Qr (QM ?_)
 show wpAny _ _ (callAny #[23] _) _ _ _
 repeat (any_goals (first|assumption|with_reducible refine qM hC ?_|wp_step))
 exists rfl
 refine codeAny_call_builtin_at (Code.quiet_builtin _ #[4]) entry_typeCall (wpAny_check_type_call_sub hC (BJ T hC hN hi hfI hfc (fun h' e tp a1 a2 a3 a4=>?_) Rz))
 exact hq h' e tp a1 a2 a3 a4
abbrev Ls(tp:Zg):Array Value := #[.ref tp,.none,.none,.none,.bool false,.none]
theorem Du(X:K.In s.heap)(hxc:tY K C f=true)(hx:s.heap.get? x=some (eD C none (Ls tp)))(h:∀ h' tp',h'.get? x=some (eD C none (Ls tp'))->#[262]->Q .none { s with heap:=h' }):
  wpAny #[8] A (call #[139] [.ref x,u]) Q E s:=by
 obtain⟨tl,N,nm,qn,bs,hd,sn,sub,ab,col,dd,k0,k1,k2,k3,k5,mN,hC,hN,hi,T⟩:=EN X hxc
 have Fn:=YY
 obtain⟨hp,g,d,t,os⟩:=s
 refine Qr (QI Fn.init.plain Fn.initEntry (wpAny_check_init_subU Fn T hC hx rfl ?_))
 unfold Builtin.«BaseException.__init__»
 dsimp only
 rw[if_neg #[18]]
 refine Qq (wpAny_newTuple ?_)
 have J4:(hp.push (seqObj "tuple" [u].toArray 0)).get? x=some (eD C none (Ls tp)):=jB _ hx
 refine Qq (m:=BaseException.bexcPut #[94] 0 _) ?_
 unfold BaseException.bexcPut
 refine Qq (qB J4 rfl (x:=.ref tp) rfl ?_)
 refine Qq (qq J4 rfl #[11] ?_)
 refine wpAny_letGo (qX ?_)
 have Rh:=Obj.data_mapFields (o:=eD C none (Ls tp)) rfl (·.setIfInBounds 0 (WD hp.objs.size))
 refine h _ hp.objs.size (JC _ J4 (Obj.isFreed_of_fields Rh)) fun b o hb q=>?_
 exact(jt _ _ (Ne.symm hb)).trans (jB _ q)
end
end L2
namespace L2
open PySem PySem.Spec PyProof.Rows
variable{X:Cx}{fd:Zo}{ps:List QB}{sp:Sp}{es:List Expr}{pos':Pos}
def lL(x C:Zg)(h:Heap):Prop := ∃ tp,h.get? x=some (eD C none (Ls tp))
def fz(x C d:Zg)(h:Heap):Prop := ∃ tp,h.get? x=some (eD C (some d) (Ls tp))
structure wK(K:WC)(C f:Zg):Prop where
 ex:tY K C f=true
 fn:Wv K #[46]=true
 kp:WL K #[23]=true
 sa:WE K #[23] "__setattr__" = some #[67]
 hd:Wt K C=true
 mr:∃ as,mroIs K C as=true
 xc:Ds K C
section
variable{f C B:Zg}{x y fl:QB}{p pos apos:Pos}{e o value:Expr}{t:TA}{ta tv:TE}
def Pn(K:WC)(t:TA):TE:=fun σ H Q=>t σ H fun vs H1=>∃ (x C f:Zg) (v:V),vs=[.ref x,v]/\H1 x=some (.ext (lL x C))/\tY K C f=true/\Q .non H1
theorem HP(hg:Gl X y)(hm:X.mg y=some (.ref B))(hga:Wu X.K (.ref B) "__getattribute__" = some #[161])(hrd:Yo X.K B #[123]=true)(hfc:Yp X.K (.ref B) #[123] "__init__" = some (.val #[139]))(ha:PA X (e :: es) t){pl:Zy Bool}(ht:eval #[208] X.env=(do
   let ov <- eval (.Name y p) X.env
   standAt apos.atName
   let (f,first) <- holding [ov] (getMethod ov "__init__" pl)
   callWith pos f first #[228] #[71]):=by rfl)(AF:(y==("__debug__" : QB))=false:=by decide)(he:Qa (e :: es) X.env=#[17] :: Qa es X.env:=by rfl)(tw:#[20].any (·.1)=false:=by rfl):
  PE X #[208] (Pn X.K t):=by
 exists 4
 refine YI (pl:=pl) (mS I hg hm ?_ AF) ht
 refine PySem.W.method_cls I.pb hga (PySem.W.cls_value I.pb hrd hfc rfl ?_)
 refine YK (cf (ha pos pins _ σ H _ (I.tok _) h) fun us s1 ⟨vs,H1,I1,r,ea,C,f,v,ev,hx,hxc,q⟩=>?_) he tw
 subst ev
 obtain⟨u1,u2,rfl,r1,r2⟩:=vals2 r
 cases r1
 obtain⟨⟨tp,z⟩,_,_⟩:=(show bq X.prog X.w H1 s1.heap ea (.ext (lL ea C))from I1.hok ea _ hx)
 refine Du I1.pb hxc z fun h' tp' z' keep=>?_
 have I2:Inv X pins σ (upd H1 ea (.ext (lL ea C))) { s1 with heap:=h' }:=I1.write (x:=ea) (e:=ea) (t' := s1.toks) (by rw[hx];exact trivial) #[62] keep ⟨_,z'⟩
  (show lL ea C h'/\(∃ o,h'.get? ea=some o)/\∀ h1 h2:Heap,lL ea C h1->#[143]->lL ea C h2 from⟨⟨tp',z'⟩,⟨_,z'⟩,fun h1 h2 ⟨tp,z⟩ kk=>⟨tp,kk _ z⟩⟩)
 have eH:upd H1 ea (.ext (lL ea C))=H1:=by
  funext b
  by_cases c:b=ea
  ·rw[c,ae,hx]
  ·rw[af c]
 rw[eH]at I2
 exact⟨.non,H1,I2,rfl,q⟩
def afe(K:WC)(ta tv:TE)(fl:QB):TS:=fun D σ H=>tv σ H fun y H1=>ta σ H1 fun v H2=>∃ x C f:Zg,v=.ref x/\H2 x=some (.ext (lL x C))/\wK K C f/\WE K #[23] fl=some none /\
 ∀ d,H2 d=none->d≠x->D.nx σ (upd (upd H2 x (.ext (fz x C d))) d (.xd [(fl,y)]))
theorem Z4(ha:PE X o ta)(hv:PE X value tv)(hs:Qc value (some (.Attribute o fl pos')) pos.line X.env=pure false:=by rfl):PS X (.Assign [.Attribute o fl pos'] value pos) (afe X.K ta tv fl):=by
 exists 39
 refine QX (cf #[270] fun u s1 ⟨yv,H1,I1,ry,q⟩=>cf (ha pins s1 σ H1 _ I1 q) fun ov s2 ⟨xv,H2,I2,rx,ea,C,f,ex,hx,M,na,q2⟩=>?_) hs
 subst ex
 obtain rfl:ov=WD ea:=rx
 obtain⟨⟨tp,z⟩,_,_⟩:=(show bq X.prog X.w H2 s2.heap ea (.ext (lL ea C))from I2.hok ea _ hx)
 obtain⟨as,mr⟩:=M.mr
 refine aac I2.pb z M.sa mr M.xc.ob na M.hd fun h' d Mq hn hle keep=>?_
 have hd0:H2 d=none:=I2.hok.fresh hle
 have hdx:d≠ea:=fun c=>by rw[c,hx]at hd0;cases hd0
 have ahZ:eV X.prog X.w #[105] h' := I2.hok.write (x:=ea) (e:=ea) (by rw[hx];exact trivial) #[62] keep ⟨_,Mq⟩
  (show fz ea C d h'/\(∃ o,h'.get? ea=some o)/\∀ h1 h2:Heap,fz ea C d h1->#[143]->fz ea C d h2 from⟨⟨tp,Mq⟩,⟨_,Mq⟩,fun h1 h2 ⟨tp,z⟩ kk=>⟨tp,kk _ z⟩⟩)
 have z1:#[105] d=none:=by rw[af hdx];exact hd0
 have ah0:eV X.prog X.w (upd #[105] d (.xd [(fl,yv)])) h' := by
  intro a uo qa
  by_cases c:a=d
  ·subst c
   rw[ae]at qa
   cases qa
   refine⟨_,hn,fun g=>?_⟩
   show oa ([(fl,yv)].lookup g) (if g=fl then some u else none)
   by_cases cg:g=fl
   ·subst cg
    rw[if_pos rfl]
    simp[JY]
    exact ry
   ·rw[if_neg cg]
    have:(g==fl)=false:=beq_eq_false_iff_ne.mpr cg
    simp[JY,this]
    exact trivial
  ·rw[af c]at qa
   exact(ahZ a uo qa).rn (fun b v _ f=>f) (fun b f=>by rw[af (ah f z1)];exact f) fun b xs f=>by rw[af (ah f z1)];exact f
 have u1:Un X.fs [] H2 #[105] s2.heap h' := Un.write (by rw[hx];exact trivial) #[62] keep ⟨_,Mq⟩
 have u2:Un X.fs [] H2 (upd #[105] d (.xd [(fl,yv)])) s2.heap h' := u1.more (zJ hle) hd0
 exact⟨σ,_,I2.un (t' := s2.toks+2) u2 ah0,q2 d hd0 hdx⟩
end
structure aa0(P:Zx)(w:World)(K:WC)(mg:QB->Option Value)(base:Heap)(x:QB)(C f:Zg)(k:Nat)(ps:List QB)(sp:Sp):Prop where
 m:mg x=some #[23]
 M:wK K C f
 F:∃ fd,Binds K fd ps []/\bu P w K mg base eA k f fd ps sp
end L2
set_option maxHeartbeats 4000000
namespace L2
open PySem PySem.Spec PyProof.Rows
variable{A:Around}{E:Value→QA→Prop}{s:QA}{base h:Heap}{env:Zn}{outer l:List Zn}{L a C f:Zg}{e:Expr}{a0 head cls cd:Value}{Q:Unit→QA→Prop}{oe:Obj}{vs:Array Value}{hn hdct ab:Bool}{d:Option Zg}{H:Hp}{N sn ps:List QB}{sub ds:List Value}{P:Zx}{w:World}{K:WC}{mg:QB→Option Value}{qual x:QB}{scope:Scope}{X:Cx}{fd:Zo}{sp:Sp}{fY:List V}{p pos:Pos}{es:List Expr}
structure sY(h base:Heap)(e:Zg)(cls a0 fl:Value)(d:Option Zg):Prop where
 ex:∃ (oe:Obj) (vs:Array Value) (T:Zg) (oT:Obj) (ts:Array Value),h.get? e=some oe/\oe.cls=cls/\oe.dict=d/\oe.data=.fields vs/\vs[0]?=some a0/\vs[1]?=some (.ref T)/\base.get? T=none/\T≠e/\h.get? T=some oT/\oT.data=.fields ts/\ts[3]?=some fl
theorem G4(g:Array Value->Array Value)(o:Obj):(Obj.mapFields g o).dict=o.dict:=by
 unfold Obj.mapFields
 split<;>rfl
section
variable{M:Model}{e:Zg}
theorem Q3(FJ:A.frames=some (env :: outer))(fr:s.heap.FunFrames base (env :: outer))(hf:env.frame=some L)(xe:s.heap.get? e=some oe)(st:base.StaysIn s.heap)(ne:base.get? e=none)(xd:oe.data=.fields vs)(two:1<vs.size)(x0:vs[0]?=some a0)(hQ:∀ h',base.StaysIn h'->h'.FunFrames base (env :: outer)->sY h' base e oe.cls a0 .none oe.dict->s.heap.UpToSlots h'->Q () { s with heap:=h' }):
  wpAny M A (do let fv <- frameOf env;let place <- entryPlaceOf L hn;let tb <- EntryCells.newEntry head fv .none (rawInt L) .none place;setField (.ref e) 1 tb) (fun _ s'=>wpAny M A (setFlight (.ref e) none) Q E s') E s:=by
 have eNo:e∉(env :: outer).filterMap (·.frame):=fun z=>by
  obtain⟨_,o,q,nf⟩:=fr.mem z
  rw[xe]at q
  cases q
  exact nf vs xd
 refine Qq (qD FJ fr hf fun g1 only=>?_)
 refine Qq (Qy fun place okp=>?_)
 unfold EntryCells.newEntry newFields
 refine Qq (qR ?_ (okp.sizeOk5 _ _ _ _ _))
 exists 18
 exists 34
 have tbf:tb.isFreed=false:=by rw[<- etb];rfl
 have q1:g1.get? e=some oe:=(only.2.1 e eNo).trans xe
 exists 54
 have q2:(g1.push tb).get? e=some oe:=jB tb q1
 refine qq q2 xd two ?_
 have apart:g1.objs.size≠e:=Jk (jJ q1)
 exists 125
 exists 69
 have qT:#[140].get? g1.objs.size=some tb:=by
  rw[jt _ _ (Ne.symm apart)]
  exact jL g1 tbf
 unfold setFlight
 refine Qq (qB q3 d3 (x:=.ref g1.objs.size) (by simp[two]) ?_)
 rw[if_pos (show(WD g1.objs.size != WJ)=true by simp)]
 have three:3<([head,.ref L,.none,rawInt L,.none]++(if place.isEmpty then Jw 6 WJ else place)).toArray.size:=by simp only[jT,jG,jc,Jb];omega
 obtain⟨g3,TY⟩:∃ g3,#[140].update g1.objs.size (Obj.mapFields #[26])=g3:=⟨_,rfl⟩
 have rest:∀ b o,b≠e->g1.get? b=some o->g3.get? b=some o:=fun b o be z=>by
  have bT:g1.objs.size≠b:=Jk (jJ z)
  rw[<- TY,jt _ _ bT,jt _ _ (Ne.symm be)]
  exact jB _ z
 have plain:∀ b o,s.heap.get? b=some o->#[118]->b≠e:=fun b o z nf y=>by
  rw[y,xe]at z
  cases z
  exact nf vs xd
 refine qq qT tbd three ?_
 dsimp only
 rw[TY]
 refine hQ g3 ?_ ?_ ?_ ?_
 ·exists 126
 ·refine fr.of_keeps fun b o z nf=>?_
  exists 156
  exact⟨_,rest b _ (plain b o z nf) y,rfl⟩
 ·have fe:g3.get? e=some (Obj.mapFields #[50] oe):=by
   rw[<- TY,jt _ _ apart]
   exact q3
  have dT:=Obj.data_mapFields tbd #[26]
  have fT:g3.get? g1.objs.size=some (Obj.mapFields #[26] tb):=by
   rw[<- TY]
   exact JC _ qT (Obj.isFreed_of_fields dT)
  refine⟨_,_,g1.objs.size,_,_,fe,Obj.cls_mapFields _ _,G4 _ _,d3,by rw[zI #[18]];exact x0,by simp[two],Pl.fresh,apart,fT,dT,?_⟩
  rw[zA three]
  rfl
 ·intro b o z nf
  exists 156
  exact⟨sl,rest b _ (plain b o z nf) y⟩
theorem DA(FJ:A.frames=some (env :: outer))(fr:s.heap.FunFrames base (env :: outer))(hf:env.frame=some L)(xe:s.heap.get? e=some oe)(st:base.StaysIn s.heap)(ne:base.get? e=none)(xd:oe.data=.fields vs)(x1:vs[1]?=some .none)(x0:vs[0]?=some a0)(hQ:∀ h',base.StaysIn h'->h'.FunFrames base outer->sY h' base e oe.cls a0 .none oe.dict->s.heap.UpToSlots h'->Q () { s with heap:=h' }):wpAny M A (leaving env (.ref e)) Q E s:=by
 unfold leaving noteFrame
 simp only[hf]
 refine Qq (Qq (qB xe xd x1 ?_))
 rw[if_neg #[18]]
 exact Q3 FJ fr hf xe st ne xd (JL.mp x1).1 x0 fun h' k1 ⟨_,_,k2⟩ k3 k4=>hQ h' k1 k2 k3 k4
theorem EY(FJ:A.frames=some (env :: outer))(fr:s.heap.FunFrames base (env :: outer))(hf:env.frame=some L)(w:sY s.heap base e cls a0 .none d)(st:base.StaysIn s.heap)(ne:base.get? e=none)(hQ:∀ h',base.StaysIn h'->h'.FunFrames base outer->sY h' base e cls a0 .none d->s.heap.UpToSlots h'->Q () { s with heap:=h' }):wpAny M A (leaving env (.ref e)) Q E s:=by
 obtain⟨oe,vs,T,oT,ts,x1,rfl,rfl,x4,x5,x6,x7,x8,x9,Ao,Dg⟩:=w.ex
 unfold leaving noteFrame
 simp only[hf]
 refine Qq (Qq (qB x1 x4 x6 ?_))
 exists 148
 refine Qq (qB x9 Ao Dg ?_)
 rw[if_neg (show ¬ ((WJ==rawInt L)=true) by simp[rawInt])]
 refine Qq (qq x9 Ao (JL.mp Dg).1 ?_)
 exists 32
 have pl:∀ b o,s.heap.get? b=some o->#[118]->b≠T:=fun b o z nf y=>by
  rw[y,x9]at z
  cases z
  exact nf ts Ao
 refine Q3 FJ #[70] hf ((oth e (Ne.symm x8)).trans x1) #[72] ne x4 (JL.mp x6).1 x5
  fun h' k1 ⟨_,_,k2⟩ k3 k4=>hQ h' k1 k2 k3 fun b o z nf=>k4 b o ((oth b (pl b o z nf)).trans z) nf
end
def but(H:Hp)(a:Zg):Hp:=fun b=>if b=a then none else H b
theorem Cj:but H a a=none:=if_pos rfl
theorem lR{b:Zg}(h:b≠a):but H a b=H b:=if_neg h
def LU(P:Zx)(w:World):FP:=fun outer H s E e s'=>∃ (ea t C d:Zg) (B:Heap) (H':Hp),e=.ref ea/\s'.os=s.os/\Zh s'.gens/\Un (Bb outer) [] H H' s.heap s'.heap/\eV P w H' B /\
 (B.StaysIn s'.heap/\B.get? ea=none/\s'.heap.FunFrames B outer/\sY s'.heap B ea #[23] (.ref t) .none (some d))/\(∀ b o,s.heap.get? b=some o->b∉Bb outer->∃ o',B.get? b=some o')/\H' ea=none/\E #[23] (some d) H'
theorem Z9{M:Model}{nm q:QB}{N:Zg}{bs bm:List Value}{col:Option Bool}{dd:Option Zg}{k0 k1 k2 k3 k5:Option Value}{newId:String}{x:Zy Value}{Q:Flow->QA->Prop}(Hj:bm.contains #[60]=true)(hh:A.handled=none)(h:wpAny M A x (fun v s₁=>∃ e t d,v=.ref e/\s₁.heap.get? C=some (excClassObj nm q C N bs bm hdct sn sub ab col dd k0 k1 k2 k3 k5 newId)/\s₁.heap.get? e=some (eD C d (Ls t))/\E (.ref e) s₁) E s):
  wpAny M A (raiseStmt env (some x) none) Q E s:=by
 have inB:(WD C :: bm).contains #[60]=true:=by rw[List.contains_cons,Hj,Bool.or_true]
 unfold raiseStmt
 refine Qq (qO h (fun v s₁ h₁=>?_) fun _ _ y=>y)
 obtain⟨e,t,d,rfl,qC,qe,hE⟩:=h₁
 obtain⟨hp,g,dr,tk,os⟩:=s₁
 repeat (first|with_reducible refine qM qe ?_|with_reducible refine qM qC ?_|(with_reducible refine qI qC ?_;rw[inB])|wp_step)
 exact wpAny_raiseNew_none hh hE
def aba(X:Cx)(E:XK):Prop := ∀ (pins:List #[44]) (σ:St) (H:Hp) (s:QA) (ea C d:Zg),Inv X pins σ H s->H ea=some (.ext (fz ea C d))->X.s₀.heap.get? ea=none->E #[23] (some d) (but H ea)->X.xe #[327] s
theorem eV.but{T:Heap->Prop}(x:eV P w H h)(e:H a=some (.ext T)):eV P w (L2.but H a) h:=fun b u q=>by
 have hb:b≠a:=fun z=>by rw[z,Cj]at q;cases q
 rw[lR hb]at q
 refine(x b u q).rn (fun _ _ _ y=>y) (fun c y=>?_) fun c xs y=>?_<;>rw[lR]<;>first|exact y|(intro z;rw[z,e]at y;cases y)
theorem Un.but{fs:List Zg}{H1:Hp}{h1:Heap}{T:Heap->Prop}(u:Un fs [] H H1 h h1)(e:H1 a=some (.ext T)):Un fs [] H (L2.but H1 a) h h1 where
 keep:=u.keep
 slot:=u.slot
 free:=fun b o q n hx=>by
  by_cases z:b=a
  ·rw[z];exact Cj
  ·rw[lR z];exact u.free b o q n hx
 there:=u.there
 tups:=fun b xs q=>by
  have y:=u.tups b xs q
  rw[lR fun z=>by rw[z,e]at y;cases y]
  exact y
 frzs:=fun b o v q=>by
  have y:=u.frzs b o v q
  rw[lR fun z=>by rw[z,e]at y;cases y]
  exact y
 tbls:=fun b ps q=>by
  obtain⟨more,y⟩:=u.tbls b ps q
  exact⟨more,by rw[lR fun z=>by rw[z,e]at y;cases y];exact y⟩
section
variable{E:XK}
theorem Tg:aba #[93] E:=by
 intro pins σ H1 s1 ea C d I U1 hold hE
 have hold:s.heap.get? ea=none:=hold
 obtain⟨⟨tp,z⟩,_,_⟩:=(show bq P w H1 s1.heap ea (.ext (fz ea C d))from I.hok ea _ U1)
 exists 26
 have OK:∀ env∈(envOfC qual scope s.heap.objs.size f cd :: outer),∀ b,env.frame=some b->b∈ea :: Bb (envOfC qual scope s.heap.objs.size f cd :: outer):=fun env he b hb=>jK _ (zQ.mpr ⟨env,he,hb⟩)
 have fst:=I.stack
 have mem:∀ {b},b∈Bb (envOfC qual scope s.heap.objs.size f cd :: outer)->∃ o,s1.heap.get? b=some o/\∀ vs,o.data≠.fields vs:=fun {b} hb=>(fst.mem hb).2
 have old:∀ b o,s.heap.get? b=some o->b≠ea:=fun b o q y=>by rw[y,hold]at q;cases q
 refine DA (base:=ya s1.heap (ea :: Bb (envOfC qual scope s.heap.objs.size f cd :: outer))) I.ok.frames (PySem.W.funFrames_hide fst OK) rfl z (fun b o q=>yH _ q) (YJ _ jE) rfl rfl rfl fun h'' k1 k2 k3 k4=>?_
 refine⟨ea,tp,C,d,_,L2.but H1 ea,rfl,I.os,I.bare,?_,?_,⟨k1,YJ _ jE,k2,k3⟩,fun b o q hb=>?_,Cj,hE⟩
 ·refine Un.fly (h1:=s1.heap) (I.base.but U1) k1 (fun b o o1 q q1 hb=>Wy _ q1 fun y=>?_) fun b o hb q=>?_
  ·rcases jW.mp y with y|y
   ·exact old b o q y
   ·rcases(rT b).mp y with e|e
    ·exact JZ _ (e ▸ jJ q)
    ·exact hb e
  ·exists 62
   rw[q]at e'
   cases e'
   exact k4 b o q hd
 ·exact(eV.but I.hok U1).less fun b u ⟨o,e⟩ q=>Wy _ q fun y=>by
   rcases jW.mp y with y|y
   ·rw[y,Cj]at e;cases e
   ·have n:=I.Fv b y
    have n':L2.but H1 ea b=none:=by
     by_cases yy:b=ea
     ·rw[yy];exact Cj
     ·rw[lR yy];exact n
    rw[e]at n'
    cases n'
 ·obtain⟨o',e'⟩:=I.base.there b o q #[0]
  exact⟨o',Wy _ e' fun y=>by
   rcases jW.mp y with y|y
   ·exact old b o q y
   ·rcases(rT b).mp y with e|e
    ·exact JZ _ (e ▸ jJ q)
    ·exact hb e⟩
theorem Pb:Passes (LU P w) #[93] E:=by
 intro pins σ H1 s1 e s' I hc
 obtain⟨ea,t,C,d,B,H',rfl,os,bare,un,hok,⟨f1,f2,f3,f4⟩,there,hn,hE⟩:=hc
 have Rx:eV P w H' s'.heap:=hok.kept fun b u q=>f1 b u q
 have J:Inv #[93] pins σ H' s' := I.DP (ch:=[]) os un Rx bare #[197]
 have fst:=J.stack
 have mem:∀ {b},b∈Bb (envOfC qual scope s.heap.objs.size f cd :: outer)->∃ o,s'.heap.get? b=some o/\∀ vs,o.data≠.fields vs:=fun {b} hb=>(fst.mem hb).2
 exists 26
 have Tf:∀ b o,s.heap.get? b=some o->b∉Bb outer->∃ o',B.get? b=some o' := fun b o q hb=>by
  obtain⟨o1,e1⟩:=I.base.there b o q #[0]
  exact there b o1 e1 fun z=>by
   rcases(rT b).mp z with e|e
   ·exact JZ _ (e ▸ jJ q)
   ·exact hb e
 refine EY I.ok.frames f3 rfl f4 f1 f2 fun h'' k1 k2 k3 k4=>?_
 refine⟨ea,t,C,d,B,H',rfl,J.os,J.bare,?_,hok,⟨k1,f2,k2,k3⟩,Tf,hn,hE⟩
 refine Un.fly (h1:=s'.heap) J.base k1 (fun b o o1 q q1 hb=>?_) fun b o hb q=>?_
 ·obtain⟨o',e'⟩:=Tf b o q hb
  have y:=f1 b o' e'
  rw[q1]at y
  cases y
  exact e'
 ·exists 62
  rw[q]at e'
  cases e'
  exact k4 b o q hd
end
section
variable{k:Nat}{y fl:QB}{df:Pos}{t:TA}{E:XK}
def N3(C:Zg)(sp:Sp)(fY:List V)(E:XK)(t:TA):TS:=fun _ σ H=>t σ H fun vs H1=>vs.length<=8/\∀ x,H1 x=none->sp (.ref x :: (vs++fY)) (upd H1 x (.ext (lL x C))) (fun v H2=>v=.non/\∃ d,H2 x=some (.ext (fz x C d))/\E #[23] (some d) (L2.but H2 x)) E0
theorem Pg(M:wK X.K C f)(F:bu X.prog X.w X.K X.mg X.base eA k f fd ps sp)(hr:cI (k+1) X.A)(hc:X.calm=true)(hm:X.mg x=some #[23])(hb:Binds X.K fd ps ds)(hd:Vals fY ds)(ht:aba X E)(ha:PA X (e :: es) t)(hex:X.ex=[]:=by rfl)(hg:Gl X x:=by rfl)(AF:#[16]=false:=by decide)(he:Qa (e :: es) X.env=#[17] :: Qa es X.env:=by rfl)(tw:#[214].any (·.1)=false:=by rfl):
  PS X (.Raise (some #[211]) none pos) (N3 C sp fY E t):=by
 exists 39
 obtain⟨tl,N,nm,qn,bs,hdd,sn,sub,ab,col,dd,k0,k1,k2,k3,k5,mN,hC,hN,hni,T⟩:=EN I.ok.mod.kin M.ex
 show wpAny _ X.A (do standAt pos;raiseStmt X.env (some (do let v <- eval #[211] X.env;standAt pos;pure v)) none) _ _ s
 refine Qq (qw (Z9 (C:=C) (nm:=nm) (q:=qn) (N:=N) (bs:=bs) (bm:=tl) (hdct:=hdd) (sn:=sn) (sub:=sub) (ab:=ab) (col:=col) (dd:=dd) (k0:=k0) (k1:=k1) (k2:=k2) (k3:=k3) (k5:=k5) (newId := "ValueError.__new__") (T.hasType #[18]) #[137] (Qq ?_)))
 exists 153
 refine Wi (h₀:=X.base) I.ok.mod.kin M.kp (cf (ha df pins s σ H _ I h) fun us s1 ⟨vs,H1,I1,r,l8,q⟩=>⟨I1.pb,?_⟩) he tw
 refine IP I1.pb M.ex M.fn (fun h' ea tp a1 a2 a3 a4=>?_) (by show us.length<=sizeLine;rw[<- r.length];exact jo l8 #[18])
 have hq:=q ea (I1.hok.fresh a3)
 have I2:Inv X pins σ (upd H1 ea (.ext (lL ea C))) { s1 with heap:=h' }:=I1.laid (o:=.ext (lL ea C)) (t' := s1.toks) a4 a3
  (show lL ea C h'/\(∃ o,h'.get? ea=some o)/\∀ h1 h2:Heap,lL ea C h1->#[143]->lL ea C h2 from⟨⟨tp,a1⟩,⟨_,a1⟩,fun h1 h2 ⟨tp,z⟩ kk=>⟨tp,kk _ z⟩⟩)
 have r2:Vals (V.ref ea :: (vs++fY)) (WD ea :: (us++ds)):=.cons rfl (r.append hd)
 have hl:(WD ea :: us++ds).length=ps.length:=by
  have z:=r2.length
  rw[F.len _ _ _ _ hq]at z
  exact z.symm
 have abl:X.s₀.heap.get? ea=none:=by
  cases z:X.s₀.heap.get? ea with
  | none=>rfl
  | some o =>
   obtain⟨o',z'⟩:=I1.base.there ea o z (by rw[hex];intro y;cases y)
   rw[a2]at z'
   cases z'
 refine Qr (QL (F.run _ X.stack _ _ ⟨WD ea :: us,[]⟩ (WD ea :: (us++ds)) _ _ E0 (hr.make C us []) (I2.Oq.make C us []) (hb _ (WD ea :: us) I2.pb hl) r2 hq) fun r s' Mp=>?_)
 cases r with
 | error e=>exact Mp.elim
 | ok fl =>
  cases fl with
  | ret u =>
   obtain⟨v,H',I3,rv,ev,d,hx,hE⟩:=I2.after Mp
   subst ev
   refine⟨rv,Qq (qw (qX ?_))⟩
   obtain⟨⟨tp',z⟩,_,_⟩:=(show bq X.prog X.w H' s'.heap ea (.ext (fz ea C d))from I3.hok ea _ hx)
   exact⟨ea,tp',some d,rfl,I3.bk _ _ hC,z,ht pins σ H' s' ea C d I3 hx abl hE⟩
  | next=>exact False.elim Mp
  | brk=>exact False.elim Mp
  | cont=>exact False.elim Mp
end
structure sX(P:Zx)(w:World)(K:WC)(mg:QB->Option Value)(base:Heap)(x:QB)(k:Nat)(ps:List QB)(fY:List V)(sp:Sp):Prop where
 ex:∃ (f:Zg) (fd:Zo) (ds:List Value),mg x=some #[46]/\WL K #[46]=true/\Vals fY ds/\Binds K fd ps ds/\bu P w K mg base (LU P w) k f fd ps sp
section
variable{j k:Nat}{t:TA}{E:XK}
theorem ab6(G:sX X.prog X.w X.K X.mg X.base x k ps fY sp)(hr:cI j X.A)(hx:Passes (LU X.prog X.w) X E)(ha:PA X (e :: es) t)(Hn:k<=j:=by decide)(hg:Gl X x:=by rfl)(AF:#[16]=false:=by decide)(he:Qa (e :: es) X.env=#[17] :: Qa es X.env:=by rfl)(tw:#[20].any (·.1)=false:=by rfl):
  PE X #[19] (Iy sp fY E t):=by
 exists 88
 exact Fd F (hr.mono Hn) hg hm hk hb hd hx ha AF he tw
end
section
variable{M:Model}{e:Zg}
theorem abh(FJ:A.frames=some (env :: outer))(fr:s.heap.FunFrames base (env :: outer))(hf:env.frame=some L)(xe:s.heap.get? e=some oe)(st:base.StaysIn s.heap)(ne:base.get? e=none)(xd:oe.data=.fields vs)(two:1<vs.size)(x0:vs[0]?=some a0)(hQ:∀ h',base.StaysIn h'->h'.FunFrames base (env :: outer)->sY h' base e oe.cls a0 (rawInt L) oe.dict->s.heap.UpToSlots h'->Q () { s with heap:=h' }):
  wpAny M A (do let fv <- frameOf env;let place <- entryPlaceOf L hn;let tb <- EntryCells.newEntry head fv .none (rawInt L) .none place;setField (.ref e) 1 tb) Q E s:=by
 have eNo:e∉(env :: outer).filterMap (·.frame):=fun z=>by
  obtain⟨_,o,q,nf⟩:=fr.mem z
  rw[xe]at q
  cases q
  exact nf vs xd
 refine Qq (qD FJ fr hf fun g1 only=>?_)
 refine Qq (Qy fun place okp=>?_)
 unfold EntryCells.newEntry newFields
 refine Qq (qR ?_ (okp.sizeOk5 _ _ _ _ _))
 exists 18
 exists 34
 have tbf:tb.isFreed=false:=by rw[<- etb];rfl
 have q1:g1.get? e=some oe:=(only.2.1 e eNo).trans xe
 exists 54
 have q2:(g1.push tb).get? e=some oe:=jB tb q1
 have apart:g1.objs.size≠e:=Jk (jJ q1)
 exists 125
 exists 69
 have qT:#[140].get? g1.objs.size=some tb:=by
  rw[jt _ _ (Ne.symm apart)]
  exact jL g1 tbf
 obtain⟨g3,TY⟩:∃ g3,(g1.push tb).update e (Obj.mapFields #[50])=g3:=⟨_,rfl⟩
 have rest:∀ b o,b≠e->g1.get? b=some o->g3.get? b=some o:=fun b o be z=>by
  rw[<- TY,jt _ _ (Ne.symm be)]
  exact jB _ z
 have plain:∀ b o,s.heap.get? b=some o->#[118]->b≠e:=fun b o z nf y=>by
  rw[y,xe]at z
  cases z
  exact nf vs xd
 refine qq q2 xd two ?_
 dsimp only
 rw[TY]
 refine hQ g3 ?_ ?_ ?_ ?_
 ·exists 126
 ·refine fr.of_keeps fun b o z nf=>?_
  exists 156
  exact⟨_,rest b _ (plain b o z nf) y,rfl⟩
 ·have fe:g3.get? e=some (Obj.mapFields #[50] oe):=by
   rw[<- TY]
   exact q3
  have fT:g3.get? g1.objs.size=some tb:=by
   rw[<- TY]
   exact qT
  refine⟨_,_,g1.objs.size,_,_,fe,Obj.cls_mapFields _ _,G4 _ _,d3,by rw[zI #[18]];exact x0,by simp[two],Pl.fresh,apart,fT,tbd,?_⟩
  simp
 ·intro b o z nf
  exists 156
  exact⟨sl,rest b _ (plain b o z nf) y⟩
theorem abU(FJ:A.frames=some (env :: outer))(fr:s.heap.FunFrames base (env :: outer))(hf:env.frame=some L)(w:sY s.heap base e cls a0 .none d)(st:base.StaysIn s.heap)(ne:base.get? e=none)(hQ:∀ h',base.StaysIn h'->h'.FunFrames base (env :: outer)->sY h' base e cls a0 (rawInt L) d->s.heap.UpToSlots h'->Q () { s with heap:=h' }):wpAny M A (noteFrame (.ref e) env) Q E s:=by
 obtain⟨oe,vs,T,oT,ts,x1,rfl,rfl,x4,x5,x6,x7,x8,x9,Ao,Dg⟩:=w.ex
 unfold noteFrame
 simp only[hf]
 refine Qq (qB x1 x4 x6 ?_)
 exists 148
 refine Qq (qB x9 Ao Dg ?_)
 rw[if_neg (show ¬ ((WJ==rawInt L)=true) by simp[rawInt])]
 refine Qq (qq x9 Ao (JL.mp Dg).1 ?_)
 exists 32
 have pl:∀ b o,s.heap.get? b=some o->#[118]->b≠T:=fun b o z nf y=>by
  rw[y,x9]at z
  cases z
  exact nf ts Ao
 refine abh FJ #[70] hf ((oth e (Ne.symm x8)).trans x1) #[72] ne x4 (JL.mp x6).1 x5
  fun h' k1 k2 k3 k4=>hQ h' k1 k2 k3 fun b o z nf=>k4 b o ((oth b (pl b o z nf)).trans z) nf
theorem RJ{fl:Value}(st:base.StaysIn s.heap)(fr:s.heap.FunFrames base l)(w:sY s.heap base e cls a0 fl d)(hQ:∀ h',base.StaysIn h'->h'.FunFrames base l->sY h' base e cls a0 .none d->s.heap.UpToSlots h'->Q () { s with heap:=h' }):wpAny M A (setFlight (.ref e) none) Q E s:=by
 obtain⟨oe,vs,T,oT,ts,x1,x2,x3,x4,x5,x6,x7,x8,x9,Ao,Dg⟩:=w.ex
 have three:3<ts.size:=(JL.mp Dg).1
 have oth:∀ b,b≠T->(s.heap.update T (Obj.mapFields #[26])).get? b=s.heap.get? b:=fun b y=>jt _ _ (Ne.symm y)
 have pl:∀ b o,s.heap.get? b=some o->#[118]->b≠T:=fun b o z nf y=>by
  rw[y,x9]at z
  cases z
  exact nf ts Ao
 unfold setFlight
 refine Qq (qB x1 x4 x6 ?_)
 exists 148
 have dT:=Obj.data_mapFields Ao #[26]
 refine qq x9 Ao three (hQ _ #[72] #[70] ?_ fun b o z nf=>⟨o.slots,(oth b (pl b o z nf)).trans z⟩)
 refine⟨oe,vs,T,_,_,(oth e (Ne.symm x8)).trans x1,x2,x3,x4,x5,x6,x7,x8,JC _ x9 (Obj.isFreed_of_fields dT),dT,?_⟩
 rw[zA three]
 rfl
end
open AutoSeq1 (wpAny_loadPart')
variable{prog:Zx}{w:World}{A:Around}{E Q:Value→QA→Prop}{s:QA}{it l:Zg}{i:Nat}{items:Array Value}{x:Value}
section
theorem Ab{t:Zg}(hit:s.heap.IsTupleIter it t i)(ht:s.heap.IsTuple t items)(hx:items[i]?=some x)(hQ:∀ h',h'.IsTupleIter it t (i+1)->Wh it s.heap h'->Q x { s with heap:=h' }):wpAny #[8] A (Wn #[189]) Q E s:=by
 obtain⟨o,ho,hc,hd⟩:=id hit
 obtain⟨ol,hol,_,nl,hdl⟩:=ht
 unfold Wn
 refine Qq (Qs (name:=Str.ofString "__next__") hit.typeIs Wj
  (Qt Wj hit.typeIs YW ?_ (YS _)))
 show wpAny _ _ (field #[189] 0>>=_) _ _ s
 refine Qq (qB ho hd (x:=.ref t) rfl ?_)
 show wpAny _ _ (if (WD t==WJ)=true then _ else _) _ _ s
 rw[if_neg (show ¬ ((WD t==WJ)=true)from je)]
 show wpAny _ _ (field #[189] 1>>=_) _ _ s
 refine Qq (qB ho hd (x:=.int i 0) rfl ?_)
 show wpAny _ _ (seqItems? (.ref t)>>=_) _ _ s
 refine Qq (qp hol hdl ?_)
 simp only[jC,hx]
 refine Qq (qq ho hd #[11] (qX ⟨x,rfl,qX (hQ _ ?_ (Wf ..))⟩))
 exact⟨_,JC _ ho (Obj.isFreed_of_fields (Obj.data_mapFields hd _)),(Obj.cls_mapFields ..).trans hc,by
  rw[Obj.data_mapFields hd];simp[rawInt]⟩
theorem oS{t:Zg}(hh:A.handled=none)(hit:s.heap.IsTupleIter it t i)(ht:s.heap.IsTuple t items)(hx:items[i]?=none)(hE:∀ h' e,XZ it s.heap h'->(∃ o,h'.get? e=some o/\o.cls=.type "StopIteration")->E (.ref e) { s with heap:=h' }):wpAny #[8] A (Wn #[189]) Q E s:=by
 obtain⟨o,ho,hc,hd⟩:=id hit
 obtain⟨ol,hol,_,nl,hdl⟩:=ht
 unfold Wn
 refine Qq (Qs (name:=Str.ofString "__next__") hit.typeIs Wj
  (Qt Wj hit.typeIs YW ?_ (YS _)))
 show wpAny _ _ (field #[189] 0>>=_) _ _ s
 refine Qq (qB ho hd (x:=.ref t) rfl ?_)
 show wpAny _ _ (if (WD t==WJ)=true then _ else _) _ _ s
 rw[if_neg (show ¬ ((WD t==WJ)=true)from je)]
 show wpAny _ _ (field #[189] 1>>=_) _ _ s
 refine Qq (qB ho hd (x:=.int i 0) rfl ?_)
 show wpAny _ _ (seqItems? (.ref t)>>=_) _ _ s
 refine Qq (qp hol hdl ?_)
 simp only[jC,hx]
 refine Qq (qj (Qq (qq ho hd #[11] ?_)))
 show wpAny _ _ (newExc (.type "StopIteration") []>>=_) _ _ _
 refine Qq ?_
 simp only[newExc,newTuple]
 refine Qq (qR ?_ (by size_fits))
 refine Qq (m:=firstArgMember _ _) (qV (a:=WJ) (by first|rfl|(simp only[firstArgMember];rfl)) ?_)
 refine qR ?_ (by size_fits)
 simp only[raiseNew]
 refine Qq (wpAny_handled ?_)
 first|rw[show A.in1.handled=none from hh]|rw[hh]
 refine Qq (qX (wpAny_throw ?_))
 exact hE _ _ (((Wf ..).extBut.push _).push _) ⟨_,jL _ rfl,rfl⟩
end
theorem IY(hh:A.handled=none)(it t:Zg)(hne:t≠it)(items:Array Value):
  Draws prog w A it [it,t] items.size (fun i v=>items[i]?=some v) (fun i h=>h.IsTupleIter it t i/\h.IsTuple t items) where
 live:=fun _ _ st=>let ⟨o,ho,_⟩:=st.1;⟨o,ho⟩
 frame:=fun _ _ _ st hk=>⟨st.1.at fun o e=>hk it #[11] o e,st.2.at fun o e=>hk t #[11] o e⟩
 item:=fun i s Q E hi st hQ=>by
  refine Ab st.1 st.2 (x:=items[i]) (by simp[hi]) fun h' ahQ hs'=>?_
  exact hQ _ h' s.toks (by simp[hi]) ⟨ahQ,st.2.at fun o e=>(hs'.2 t hne).trans e⟩ hs'
 done:=fun s Q E st hE=>oS hh st.1 st.2 #[11] hE
theorem rS(l:Zg)(items:Array Value)(n:Nat)(dct:Option Zg)(sl:Array (Option Value)):
  Meets (Builtin.«enumerate.__new__» ⟨[.type "enumerate",.ref l],[]⟩) (fun _ R s=>s.heap.get? l=some { cls:=.type "tuple",dict:=dct,data:=.seq items n,slots:=sl } /\
   R (.ok (.ret (.ref #[21].objs.size)))
    { s with heap:=#[21].push { cls:=.type "enumerate",data:=.fields #[.none,.bool false,.ref s.heap.objs.size,rawInt 0,.none,.none] } }):=
 .of_wp fun prog w A R s h=>by
  obtain⟨hp,g,d,tk,os⟩:=s;obtain⟨hl,h⟩:=h
  have aey:=sub_enumerate
  have hL:Heap.IsTuple (Shared.heap ⟨hp,g,d,tk,os⟩) l items:=⟨_,hl,rfl,n,rfl⟩
  wp_walk using wpAny_loadPart' hl
  refine wpAny_stack_any fun st=>qX ?_
  split
  ·rename_i c _ _ _ _ _
   cases(c==WW "enumerate")
   ·wp_walk using wpAny_loadPart' hl,qf hL
    exact⟨_,rfl,h⟩
   ·wp_walk using wpAny_loadPart' hl,qf hL
    exact⟨_,rfl,h⟩
  ·wp_walk using wpAny_loadPart' hl,qf hL
   exact⟨_,rfl,h⟩
theorem rK(hL:s.heap.IsTuple l items)(h:∀ h',IsEnum h' #[15] s.heap.objs.size 0 .none->h'.IsTupleIter s.heap.objs.size l 0->h'.objs.size=s.heap.objs.size+2 ->
   #[43]->Q (.ref #[15]) { s with heap:=h' }):
  wpAny #[8] A (call (.type "enumerate") [.ref l]) Q E s:=by
 obtain⟨⟨c,dct,dt,sl⟩,hl,hc,n,hd⟩:=hL
 replace hc:c=.type "tuple" := hc
 replace hd:dt=.seq items n:=hd
 subst hc hd
 refine callType_new F.called_enumerate #[18] (F.typeCall_enumerate_1 _) (F.newCall_enumerate_1 _) (fun obj=>F.args_object_init_2 obj _) F.entry_enumerate_new
  (rS l items n dct sl) ⟨hl,?_⟩
 have hz:#[21].objs.size=s.heap.objs.size+1:=JW ..
 show _/\_
 rw[hz]
 have he:IsEnum (#[21].push
   { cls:=.type "enumerate",data:=.fields #[.none,.bool false,.ref s.heap.objs.size,rawInt 0,.none,.none] }) #[15] s.heap.objs.size 0 .none:=by
  have:=jL #[21]
   (o:={ cls:=.type "enumerate",data:=.fields #[.none,.bool false,.ref s.heap.objs.size,rawInt 0,.none,.none] }) rfl
  rw[hz]at this;exact this
 refine⟨⟨_,he,rfl⟩,h _ he ⟨_,jB _ (jL _ rfl),rfl,rfl⟩ (by rw[JW,hz]) fun b o x=>jB _ (jB _ x)⟩
variable{X:Cx}{pins:List (Zg×Obj)}{σ B:St}{H:Hp}{s:QA}{h':Heap}{t' n j:Nat}{e l:Expr}{P prog:Zx}{w:World}{K:WC}{elts es:List Expr}{pos Pp p:Pos}{tl ta:TA}{a C:Zg}{xs:List V}{tb:TS}{D:Ends}{acc:Array Value}{x m:QB}{ps:List QB}{sp:Sp}{A:Around}{E:Value→QA→Prop}{ix:List (Option Nat)}{te:TE}{Qd:Zg→Hp→Prop}{v:Value}
section
theorem Inv.N5{t':Nat}{e it:Zg}(I:Inv X pins σ H s)(k:∀ b o,b≠e->b≠it->s.heap.get? b=some o->h'.get? b=some o)(fe:tL X pins H e)(fi:tL X pins H it):Inv X pins σ H { s with heap:=h',toks:=t' }:=by
 have nn:∀ b u,H b=some u->b≠e/\b≠it:=fun b u q=>⟨fun z=>(by rw[z,fe.1]at q;cases q),fun z=>(by rw[z,fi.1]at q;cases q)⟩
 have kk:∀ b o,b∉[e,it]->s.heap.get? b=some o->h'.get? b=some o:=fun b o hc q=>k b o #[152] #[152] q
 refine I.step (g' := s.gens) (d' := s.drawn) (ch:=[e,it]) (fun b hb=>?_) (fun b o _ _ hc q _=>kk b o hc q) (fun b o _ _ hc q _=>⟨o.slots,kk b o hc q⟩) (fun _ _ _ _ n=>n)
  (fun b o hc q=>⟨o,kk b o hc q⟩) (fun _ _ q=>q) (fun _ _ _ q=>q) (fun b ps q=>⟨#[],by rw[q];simp⟩) (fun m hm=>?_) (fun b u q=>?_) I.bare
 ·exists 113
  rcases q with rfl|rfl
  ·exact⟨fe.2.2.2.1,fe.2.1,fe.2.2.2.2.1,fe.2.2.2.2.2⟩
  ·exact⟨fi.2.2.2.1,fi.2.1,fi.2.2.2.2.1,fi.2.2.2.2.2⟩
 ·obtain⟨o,es,ep,ho,r⟩:=hm
  exact⟨o,es,ep,k _ o (Ne.symm fe.2.1) (Ne.symm fi.2.1) ho,r⟩
 ·refine(I.hok b u q).rn (fun c v hc z=>k c v ?_ ?_ z) (fun _ z=>z) fun _ _ z=>z
  ·rcases hc with z|z
   ·rw[z];exact(nn b u q).1
   ·exact(nn c _ z).1
  ·rcases hc with z|z
   ·rw[z];exact(nn b u q).2
   ·exact(nn c _ z).2
end
def Ite(K:WC)(a:Zg):It:=
 ⟨fun i H=>∃ xs x,sZ K H a xs/\xs[i]?=some x,fun i H v H'=>∃ T x,v=.ref T/\H T=none/\H'=upd H T #[178]/\∀ xs,sZ K H a xs->xs[i]?=some x,fun i H=>∃ xs,sZ K H a xs/\xs.length<=i⟩
theorem LK{x1:_}(a e it:Zg):Turn P w K (.Tuple elts x1 pos) (Ite K a) [e,it] e (fun i h=>(∃ old,IsEnum h e it i old)/\h.IsTupleIter it a i) where
 mem:=by simp
 obj:=fun i h st b hb=>by
  exists 113
  rcases q with rfl|rfl
  ·obtain⟨⟨old,st⟩,_⟩:=st
   exact⟨_,st,fun v z=>by
    exists 136
    cases z'⟩
  ·obtain⟨_,o,e,c,d⟩:=st
   exists 42
 keep:=fun i h h' st k=>⟨let ⟨old,z⟩:=st.1;⟨old,k e #[11] _ z⟩,st.2.at fun o z=>k it #[11] o z⟩
 item:=by
  exists 1
  exists 161
  obtain⟨xs,x,hq,hx⟩:=hg
  exists 145
  exists 159
  exists 157
  have p':s.heap.IsTuple a bp.toArray:=p
  have fe:=hf e #[11]
  have fi:=hf it #[11]
  have ne:e≠it:=fun z=>by
   subst z
   obtain⟨o,e1,c,d⟩:=hit
   rw[he]at e1
   cases e1
   have c':WW "enumerate" = WW "tuple_iterator" := c
   injection c' with c'
   exists 137
  have nae:a≠e:=fun z=>by
   subst z
   obtain⟨o,e1,c,d⟩:=p'
   rw[he]at e1
   cases e1
   have c':WW "enumerate" = WW "tuple" := c
   injection c' with c'
   exists 137
  have nai:a≠it:=fun z=>by
   subst z
   obtain⟨o,e1,c,d⟩:=p'
   obtain⟨o2,e2,c2,d2⟩:=hit
   rw[e1]at e2
   cases e2
   rw[c]at c2
   injection c2 with c'
   exists 137
  have hi:i<bp.toArray.size:=by
   have:i<bp.length:=(jf.mp hu).1
   simpa using this
  have D:=IY (prog:=X.prog) (w:=X.w) (A:=X.A.in1) (show X.A.in1.handled=none from I.ok.hd hc) it a nai bp.toArray
  exists 72
  have ey:y=u:=by
   have:bp.toArray[i]?=some u:=by simpa using hu
   rw[this]at hy
   exact(Option.some.inj hy).symm
  subst ey
  refine⟨_,rfl,qK ho fun h2 he2 hs2=>?_⟩
  exists 120
  have I1:Inv X pins σ #[39] { s with heap:=s.heap.push { cls:=.type "tuple",data:=.seq #[.int i tk,y] },toks:=tk+1 }:=
   I.laid (o:=.tup [.int i,x]) (fun b ob q=>jB _ q) (jF _) ⟨by show 2<=sizeLine;decide,[.int i tk,y],.cons ⟨tk,rfl⟩ (.cons ru .nil),⟨_,jL _ rfl,rfl,_,rfl⟩⟩
  have lt:∀ b∈[e,it],b<s.heap.objs.size:=fun b hb=>by
   exists 113
   rcases q with rfl|rfl
   ·exact jJ he
   ·obtain⟨o,e1,_⟩:=hit
    exact jJ e1
  have f2:∀ b∈[e,it],tL X pins #[39] b:=fun b hb=>by
   refine⟨?_,(hf b hb).2⟩
   rw[af (jO (lt b hb))]
   exact(hf b hb).1
  have I2:Inv X pins σ #[39] { s with heap:=h2,toks:=tk+1 }:=by
   exists 75
   refine(hs2.2 b b1).trans ?_
   exists 41
   ·exact hT
   ·exact hk b o b1 b2 z
  refine⟨.ref s.heap.objs.size,_,I2,rfl,⟨s.heap.objs.size,x,rfl,fr,rfl,fun ys hy=>by rw[I.Ep hy hq];exact hx⟩,⟨⟨y,?_⟩,?_⟩,fun b hb=>(f2 b hb).1⟩
  ·have:((i+1:Nat):Int)=(i:Int)+1:=by push_cast;rfl
   rw[this]
   exact he2
  ·exact Pl.1.at fun o z=>(hs2.2 it (Ne.symm ne)).trans z
 done:=by
  exists 1
  exists 161
  obtain⟨xs,hq,hx⟩:=hg
  exists 145
  exists 157
  exists 3
  have p':s.heap.IsTuple a bp.toArray:=p
  have hl:=rv.length
  have hT:s.TypeIs (.ref e) "enumerate" := ⟨_,he,rfl⟩
  unfold pyNext
  refine Qq (Qp (Qs (name:=Str.ofString "__next__") hT Ww
   (Qt Ww hT Yq ?_ (Yj _))))
  show wpAny _ _ (field (.ref e) 2>>=_) _ _ _
  refine Qq (qB he rfl (x:=.ref it) rfl ?_)
  refine Qq (oS (show X.A.in1.handled=none from I.ok.hd hc) hit p' (by simp;omega) fun h' x he' Mq=>?_)
  obtain⟨o,ho,Rf⟩:=Mq
  refine Qq #[241]
  exists 85
 self:=fun _ _ _ _ _ st h=>let ⟨_,z⟩:=st.1;qY z h
section
def abI(K:WC)(tl:TA):TI:=fun σ H R=>tl σ H fun vs H1=>∃ a,vs=[.ref a]/\(∃ xs,sZ K H1 a xs)/\R (Ite K a) H1
theorem wN:QE "enumerate" = some (.type "enumerate"):=by decide +kernel
theorem Sw{x1:_}(hg:Gl X "enumerate")(hm:X.mg "enumerate" = none)(hl:PA X [l] tl)(hs:Qa [l] X.env=[(false,eval l X.env)]:=by rfl):
  PI X (.Tuple elts x1 Pp) (.Call (.Name "enumerate" p) [l] [] pos) (abI X.K tl):=by
 exists 134
 exists 49
 exists 152
 subst e
 cases r1 with
 | cons r rr =>
  cases rr
  cases r
  obtain⟨bp,rv,p,hz⟩:=I1.tuple hq
  refine rK (show s1.heap.IsTuple a bp.toArray from p) fun h' he hit hsz hk=>?_
  refine qY he ?_
  refine⟨s1.heap.objs.size+1,[s1.heap.objs.size+1,s1.heap.objs.size],_,_,H1,rfl,I1.kept (t' := s1.toks) hk,LK a _ s1.heap.objs.size,⟨⟨_,he⟩,hit⟩,fun b hb=>?_,q⟩
  have e:b=s1.heap.objs.size+1\/b=s1.heap.objs.size:=by simpa using hb
  rcases e with rfl|rfl
  ·exact I1.Cs (JM _) (I1.hok.fresh (JM _))
  ·exists 84
end
theorem Ox{g:TG}(Pv:Nat->St->Hp->Prop)(h0:Pv 0 σ H)(hl:∀ i σ H,i<=xs.length->Pv i σ H->sZ K H a xs)(hs:∀ i x σ H T,xs[i]?=some x->Pv i σ H->H T=none->g (.ref T) σ (upd H T #[178]) fun σ2 H2=>tb { D with nx:=Pv (i+1),ct:=Pv (i+1),bk:=D.nx } σ2 H2)(hd:∀ σ H,Pv xs.length σ H->D.nx σ H):
  ∃ W:Nat->Nat->St->Hp->Prop,#[192]/\∀ i m σ H,W i m σ H ->
   ((Ite K a).stop i H/\D.nx σ H)\/((Ite K a).go i H/\∃ N:St->Hp->Prop,#[22]/\∀ x H',(Ite K a).yld i H x H'->g x σ H' fun σ2 H2=>tb { D with nx:=N,ct:=N,bk:=D.nx } σ2 H2):=by
 exists 14
 exists 119
 have q:=hl i σ H hi p
 exists 160
 ·exists 5
  obtain⟨T,x0,rfl,hT,rfl,y⟩:=y
  exact hs i x0 σ _ T (y xs q) p hT
 ·exists 133
  subst e
  exists 109
theorem J8(h:ItemsOf (fun i v=>∃ t,v=.int (0+(i:Int)*1) t) acc n):Vals ((jn n).map fun i:Nat=>V.int i) acc.toList:=by
 have go:∀ (n:Nat) (us:List Value),us.length=n->(∀ (j:Nat) (v:Value),us[j]?=some v->∃ t,v=WQ (0+(j:Int)*1) t)->Vals ((jn n).map fun i:Nat=>V.int i) us:=by
  intro n
  induction n with
  | zero =>
   intro us hl _
   cases us with
   | nil=>exact .nil
   | cons a r=>cases hl
  | succ n ih =>
   intro us hl hv
   have ne:us≠[]:=fun z=>by rw[z]at hl;cases hl
   have e:=zO ne
   rw[<- e,JP,jD]
   have hd:us.dropLast.length=n:=by rw[ZA,hl];rfl
   refine(ih us.dropLast hd fun j v hj=>?_).append (.cons ?_ .nil)
   ·refine hv j v ?_
    have lt:=(jf.mp hj).1
    rw[<- e,jk lt]
    exact hj
   ·obtain⟨t,ht⟩:=hv n (us.getLast ne) (by rw[List.getLast_eq_getElem,jA #[2]];simp[hl])
    rw[ht]
    exact⟨t,by rw[Jn,Zf]⟩
 exact go n acc.toList (by rw[jx,h.1]) fun j v hj=>h.2 j v (by rw[<- JR];exact hj)
section
variable{a:Expr}{p2 Pd:Pos}
def Te(ta:TA):TE:=fun σ H Q=>ta σ H fun vs H1=>∃ n:Nat,vs=[.int n]/\n<=sizeLine/\∀ l,H1 l=none->Q (.ref l) (upd H1 l #[186])
theorem Lq(hc:X.calm=true)(hgl:Gl X "list")(hml:X.mg "list" = none)(hg:Gl X "range")(hm:X.mg "range" = none)(ha:PA X [a] ta)(hs:Qa [a] X.env=[(false,eval a X.env)]:=by rfl)(hs2:Qa [.Call (.Name "range" p2) [a] [] Pd] X.env=[(false,eval (.Call (.Name "range" p2) [a] [] Pd) X.env)]:=by rfl):
  PE X (.Call (.Name "list" p) [.Call (.Name "range" p2) [a] [] Pd] [] pos) (Te ta):=by
 exists 4
 refine Qj (rR I hgl hml wO ?_)
 refine WR ?_ hs2 rfl
 rw[hs2]
 refine WV ?_
 refine Call_ (rR I hg hm boot_range (WR (cf (ha Pd pins s σ H _ I h) fun us s1 ⟨vs,H1,I1,r1,q1⟩=>?_) hs rfl))
 obtain⟨n,e,hn,q⟩:=q1
 subst e
 cases r1 with
 | cons r rr =>
  cases rr
  obtain⟨t,rfl⟩:=r
  have big:sizeLine<=2^24:=by decide
  have alL:((sizeLine:Nat):Int)<2^62:=by decide
  have ahW:(n:Int)<2^62:=by omega
  refine call_range_1 ?_
  refine Wl ?_
  have sz:#[40].objs.size=s1.heap.objs.size+1:=JW _ _
  refine PySem.call_list_range (s:={ s1 with heap:=s1.heap.push { cls:=.type "range",data:=.fields #[.int 0 s1.toks,.int n t,.int 1 (s1.toks+1)] },toks:=s1.toks+1+1 }) (n:=n) (I1.ok.hd hc) (IsRange.new ..) (small_one #[2] #[2] #[2] ahW)
   (by rw[rangeSize_one];split<;>omega) #[2] fun h' tk agM c' kp e wW=>?_
  have EW:∀ b o,s1.heap.get? b=some o->h'.get? b=some o:=fun b o f=>kp b o (jB _ f)
  have ob:bq X.prog X.w (upd H1 #[40].objs.size #[186]) h' #[40].objs.size #[186]:=by
   exists by rw[jQ,ju];exact hn,agM.toList,c',J8 wW
   exact e
  exact⟨.ref _,_,I1.laid (t' := tk) EW (by rw[sz];exact JM _) ob,rfl,q _ (I1.hok.fresh (by rw[sz];exact JM _))⟩
end
structure FQ(P:Zx)(w:World)(K:WC)(mg:QB->Option Value)(base:Heap)(x:QB)(C:Zg)(k:Nat)(ps:List QB)(sp:Sp):Prop where
 m:mg x=some #[23]
 cl:DG K C
 ex:∃ (f:Zg) (fd:Zo),Mk K C f/\Binds K fd ps []/\bu P w K mg base eA k f fd ps sp
theorem Fg{k:Nat}{t:TA}(G:FQ X.prog X.w X.K X.mg X.base x C k ps sp)(hr:cI j X.A)(ha:PA X (e :: es) t)(Hn:k+1<=j:=by decide)(hg:Gl X x:=by rfl)(AF:#[16]=false:=by decide)(he:Qa (e :: es) X.env=#[17] :: Qa es X.env:=by rfl)(tw:#[20].any (·.1)=false:=by rfl):PE X #[19] (aaV C sp [] E0 t):=by
 obtain⟨f,fd,M,hb,F⟩:=G.ex
 exact Y7 M F (hr.mono Hn) hg G.m hb .nil Sj ha AF he tw
structure mM(P:Zx)(w:World)(K:WC)(mg:QB->Option Value)(base:Heap)(C:Zg)(m:QB)(k:Nat)(ps:List QB)(sp:Sp):Prop where
 cl:DG K C
 ex:∃ (f:Zg) (fd:Zo),Meth K C m f/\Binds K fd ps []/\bu P w K mg base eA k f fd ps sp
theorem tF{k:Nat}{apos:Pos}{o:Expr}{ta:TE}{t:TA}{pl:Zy Bool}(G:mM X.prog X.w X.K X.mg X.base C m k ps sp)(hr:cI j X.A)(ho:PE X o ta)(ha:PA X (e :: es) t)(Hn:k<=j:=by decide)(wX:Qa (e :: es) X.env=#[17] :: Qa es X.env:=by rfl)(tw:#[20].any (·.1)=false:=by rfl)(ht:eval #[73] X.env=(do
   let ov <- eval o X.env
   standAt apos.atName
   let (f,first) <- holding [ov] (getMethod ov m pl)
   callWith pos f first #[228] #[71]):=by rfl):
  PE X #[73] (N2 C m sp [] E0 ta t):=by
 obtain⟨f,fd,hm,hb,F⟩:=G.ex
 exact Y8 ho G.cl hm F (hr.mono Hn) hb .nil Sj ha wX tw ht
def Oa(K:WC)(a:Zg):It:=
 ⟨fun i H=>∃ xs x,pZ K H a xs/\xs[i]?=some x,fun i H v H'=>∃ T x,v=.ref T/\H T=none/\H'=upd H T #[178]/\∀ xs,pZ K H a xs->xs[i]?=some x,fun i H=>∃ xs,pZ K H a xs/\xs.length<=i⟩
theorem LJ{x1:_}(a e it:Zg):Turn P w K (.Tuple elts x1 pos) (Oa K a) [e,it] e (fun i h=>(∃ old,IsEnum h e it i old)/\h.IsListIter it a i) where
 mem:=by simp
 obj:=fun i h st b hb=>by
  exists 113
  rcases q with rfl|rfl
  ·obtain⟨⟨old,st⟩,_⟩:=st
   exact⟨_,st,fun v z=>by
    exists 136
    cases z'⟩
  ·obtain⟨_,o,e,c,d⟩:=st
   exists 42
 keep:=fun i h h' st k=>⟨let ⟨old,z⟩:=st.1;⟨old,k e #[11] _ z⟩,st.2.at fun o z=>k it #[11] o z⟩
 item:=by
  exists 1
  exists 161
  obtain⟨xs,x,hq,hx⟩:=hg
  exists 151
  exists 159
  exists 157
  have p':s.heap.IsList a bp.toArray:=p.isList
  have fe:=hf e #[11]
  have fi:=hf it #[11]
  have ne:e≠it:=fun z=>by
   subst z
   obtain⟨o,e1,c,d⟩:=hit
   rw[he]at e1
   cases e1
   have c':WW "enumerate" = WW "list_iterator" := c
   injection c' with c'
   exists 137
  have nae:a≠e:=fun z=>by
   subst z
   obtain⟨o,e1,c,d⟩:=p'
   rw[he]at e1
   cases e1
   have c':WW "enumerate" = WW "list" := c
   injection c' with c'
   exists 137
  have nai:a≠it:=fun z=>by
   subst z
   obtain⟨o,e1,c,d⟩:=p'
   obtain⟨o2,e2,c2,d2⟩:=hit
   rw[e1]at e2
   cases e2
   rw[c]at c2
   injection c2 with c'
   exists 137
  have hi:i<bp.toArray.size:=by
   have:i<bp.length:=(jf.mp hu).1
   simpa using this
  have D:=Draws.list (prog:=X.prog) (w:=X.w) (A:=X.A.in1) (show X.A.in1.handled=none from I.ok.hd hc) it a nai bp.toArray
  exists 72
  have ey:y=u:=by
   have:bp.toArray[i]?=some u:=by simpa using hu
   rw[this]at hy
   exact(Option.some.inj hy).symm
  subst ey
  refine⟨_,rfl,qK ho fun h2 he2 hs2=>?_⟩
  exists 120
  have I1:Inv X pins σ #[39] { s with heap:=s.heap.push { cls:=.type "tuple",data:=.seq #[.int i tk,y] },toks:=tk+1 }:=
   I.laid (o:=.tup [.int i,x]) (fun b ob q=>jB _ q) (jF _) ⟨by show 2<=sizeLine;decide,[.int i tk,y],.cons ⟨tk,rfl⟩ (.cons ru .nil),⟨_,jL _ rfl,rfl,_,rfl⟩⟩
  have lt:∀ b∈[e,it],b<s.heap.objs.size:=fun b hb=>by
   exists 113
   rcases q with rfl|rfl
   ·exact jJ he
   ·obtain⟨o,e1,_⟩:=hit
    exact jJ e1
  have f2:∀ b∈[e,it],tL X pins #[39] b:=fun b hb=>by
   refine⟨?_,(hf b hb).2⟩
   rw[af (jO (lt b hb))]
   exact(hf b hb).1
  have I2:Inv X pins σ #[39] { s with heap:=h2,toks:=tk+1 }:=by
   exists 75
   refine(hs2.2 b b1).trans ?_
   exists 41
   ·exact hT
   ·exact hk b o b1 b2 z
  refine⟨.ref s.heap.objs.size,_,I2,rfl,⟨s.heap.objs.size,x,rfl,fr,rfl,fun ys hy=>by rw[I.HA hy hq];exact hx⟩,⟨⟨y,?_⟩,?_⟩,fun b hb=>(f2 b hb).1⟩
  ·have:((i+1:Nat):Int)=(i:Int)+1:=by push_cast;rfl
   rw[this]
   exact he2
  ·exact Pl.1.at fun o z=>(hs2.2 it (Ne.symm ne)).trans z
 done:=by
  exists 1
  exists 161
  obtain⟨xs,hq,hx⟩:=hg
  exists 151
  exists 157
  exists 3
  have p':s.heap.IsList a bp.toArray:=p.isList
  have hl:=rv.length
  have hT:s.TypeIs (.ref e) "enumerate" := ⟨_,he,rfl⟩
  unfold pyNext
  refine Qq (Qp (Qs (name:=Str.ofString "__next__") hT Ww
   (Qt Ww hT Yq ?_ (Yj _))))
  show wpAny _ _ (field (.ref e) 2>>=_) _ _ _
  refine Qq (qB he rfl (x:=.ref it) rfl ?_)
  refine Qq (wpAny_nextOf_list_end (show X.A.in1.handled=none from I.ok.hd hc) hit p' (by simp;omega) fun h' x he' Mq=>?_)
  obtain⟨o,ho,Rf⟩:=Mq
  refine Qq #[241]
  exists 85
 self:=fun _ _ _ _ _ st h=>let ⟨_,z⟩:=st.1;qY z h
section
def abH(K:WC)(tl:TA):TI:=fun σ H R=>tl σ H fun vs H1=>∃ a,vs=[.ref a]/\(∃ xs,pZ K H1 a xs)/\R (Oa K a) H1
theorem CU{x1:_}(hg:Gl X "enumerate")(hm:X.mg "enumerate" = none)(hl:PA X [l] tl)(hs:Qa [l] X.env=[(false,eval l X.env)]:=by rfl):
  PI X (.Tuple elts x1 Pp) (.Call (.Name "enumerate" p) [l] [] pos) (abH X.K tl):=by
 exists 134
 exists 49
 exists 152
 subst e
 cases r1 with
 | cons r rr =>
  cases rr
  cases r
  obtain⟨bp,rv,p,hz⟩:=I1.list hq
  refine call_enumerate_list (show s1.heap.IsList a bp.toArray from p.isList) fun h' he hit hsz hk=>?_
  refine qY he ?_
  refine⟨s1.heap.objs.size+1,[s1.heap.objs.size+1,s1.heap.objs.size],_,_,H1,rfl,I1.kept (t' := s1.toks) hk,LJ a _ s1.heap.objs.size,⟨⟨_,he⟩,hit⟩,fun b hb=>?_,q⟩
  have e:b=s1.heap.objs.size+1\/b=s1.heap.objs.size:=by simpa using hb
  rcases e with rfl|rfl
  ·exact I1.Cs (JM _) (I1.hok.fresh (JM _))
  ·exists 84
end
theorem DW{g:TG}(Pv:Nat->St->Hp->Prop)(h0:Pv 0 σ H)(hl:∀ i σ H,i<=xs.length->Pv i σ H->pZ K H a xs)(hs:∀ i x σ H T,xs[i]?=some x->Pv i σ H->H T=none->g (.ref T) σ (upd H T #[178]) fun σ2 H2=>tb { D with nx:=Pv (i+1),ct:=Pv (i+1),bk:=D.nx } σ2 H2)(hd:∀ σ H,Pv xs.length σ H->D.nx σ H):
  ∃ W:Nat->Nat->St->Hp->Prop,#[192]/\∀ i m σ H,W i m σ H ->
   ((Oa K a).stop i H/\D.nx σ H)\/((Oa K a).go i H/\∃ N:St->Hp->Prop,#[22]/\∀ x H',(Oa K a).yld i H x H'->g x σ H' fun σ2 H2=>tb { D with nx:=N,ct:=N,bk:=D.nx } σ2 H2):=by
 exists 14
 exists 119
 have q:=hl i σ H hi p
 exists 160
 ·exists 5
  obtain⟨T,x0,rfl,hT,rfl,y⟩:=y
  exact hs i x0 σ _ T (y xs q) p hT
 ·exists 133
  subst e
  exists 109
theorem SU{t u a b:Option V}:((((B.set 0 t).set 1 u).set 0 a).set 1 b)=(B.set 0 a).set 1 b:=by
 rw[List.set_comm u a (l:=B.set 0 t) (by decide:(1:Nat)≠0),Jx,Jx]
theorem IW{J:It}{item:Nat->V}{g:TG}(Pv:Zg->Nat->List V->Hp->Prop)(hg:∀ (T:Zg) (σ:St) (H:Hp) (Q:St->Hp->Prop) (i:Int) (x:V),H T=some #[178]->Q ((σ.set 0 (some (.int i))).set 1 (some x)) H->g (.ref T) σ H Q)(h0:∀ D,H D=none->Pv D 0 [] #[84])(Hl:∀ D i ys H',i<n->Pv D i ys H'->J.go i H'/\∀ x H2,J.yld i H' x H2->∃ T,x=.ref T/\H' T=none/\H2=upd H' T (.tup [.int i,item i]))(wX:∀ D ys H',Pv D n ys H'->J.stop n H')(hs:∀ D i ys H' T (Q':VK),H D=none->i<n->H' D=some #[203]->Pv D i ys H'->H' T=none->#[7] ->
   te (#[277].set 1 (some (item i))) (upd H' T (.tup [.int i,item i])) Q')(hd:∀ D ys H',H D=none->H' D=some #[203]->Pv D n ys H'->Qd D H'):wq J ix g te σ H Qd:=by
 intro D hD
 refine⟨fun i m σ' H'=>m=n-i/\i<=n/\(σ'=br ix σ\/∃ t u,σ'=(#[107].set 0 t).set 1 u)/\∃ ys,H' D=some #[203]/\Pv D i ys H',⟨n,by simp,jb _,.inl rfl,[],ae,h0 D hD⟩,?_⟩
 exists 48
 by_cases fu:i<n
 ·obtain⟨g1,g2⟩:=Hl D i ys H' fu p
  refine .inr ⟨g1,fun x H2 y=>?_⟩
  obtain⟨T,rfl,hT,rfl⟩:=g2 x H2 y
  refine hg T σ' _ _ i (item i) ae ?_
  have es:#[286]=(#[107].set 0 (some (V.int i))).set 1 (some (item i)):=by
   rcases hσ with z|⟨t,u,z⟩
   ·rw[z]
   ·rw[z,SU]
  show te #[286] _ _
  rw[es]
  refine hs D i ys _ T _ hD fu hy p hT fun y H4 h4 hz p4=>⟨ys,h4,hz,n-(i+1),by omega,rfl,fu,.inr ⟨_,_,rfl⟩,ys++[y],ae,p4⟩
 ·have e:i=n:=by omega
  subst e
  exact .inl ⟨wX D ys H' p,hd D ys H' hD hy p⟩
theorem Mu{k:Key}(h:Be k v=true):RelV (kV k) v:=by
 rcases cw h with⟨n,t,rfl,rfl⟩|⟨x,t,rfl,rfl⟩
 ·exact⟨t,rfl⟩
 ·exact⟨t,rfl⟩
section
abbrev wz(v d:Zg):HO:=.ext fun h=>h.IsItemsView v d
def acb:V->List V->Hp->VK->Prop:=fun x vs H Q=>∃ d kvs,x=.ref d/\vs=[]/\H d=some #[54]/\∀ v,H v=none->Q (.ref v) (upd H v (wz v d))
theorem RQ:MtM X "dict.items" acb:=by
 exists 59
 obtain⟨d,kvs,rfl,rfl,hd,q⟩:=h
 cases rx
 have hus:=rv.zero
 subst hus
 obtain⟨z,lo,vs,kv,dof⟩:=(show bq X.prog X.w H s.heap d #[54]from I.hok d _ hd)
 refine QG Yk dof.typeIs PySem.F.entry_dict_items (PySem.F.args_dict_items_1 _) (meets_dict_items #[154] d lo) ⟨⟨vs,dof⟩,?_⟩
 refine⟨.ref _,_,I.laid (o:=wz s.heap.objs.size d) (t' := s.toks) (fun b o e=>jB _ e) (jF _) ?_,rfl,q _ #[95]⟩
 exact⟨⟨_,jL _ rfl,rfl,rfl⟩,⟨_,jL _ rfl⟩,fun h1 h2 ⟨o,ho,x⟩ kp=>⟨o,kp o ho,x⟩⟩
end
end L2
namespace PySem
open PyProof.Rows
namespace F
end F
end PySem
namespace L2
open PySem PySem.Spec PyProof.Rows
variable{X:Cx}{o:Expr}{es:List Expr}{pos:Pos}{n:Nat}{m:QB}{C:Zg}{ps:List QB}{sp:Sp}{ta:TE}{prog:Zx}{w:World}{A:Around}{s:QA}{D:Ends}{σ:St}{H:Hp}
section
theorem Z2(K:WC){k:Nat}{t:TGs}(hc:X.calm=true)(h:PGs X es t)(hK:X.K=K:=by rfl)(hn:(QC es X.env).length=n:=by rfl)(wX:(QC es X.env).findIdx? (·.1)=none:=by rfl):PG X (.Tuple es k pos) (adV K n t):=by
 subst hK
 exact CS hc h hn wX
theorem CQ{j k:Nat}{apos:Pos}{pl:Zy Bool}(G:mM X.prog X.w X.K X.mg X.base C m k ps sp)(hr:cI j X.A)(ho:PE X o ta)(Hn:k<=j:=by decide)(ht:eval #[104] X.env=(do
   let ov <- eval o X.env
   standAt apos.atName
   let (f,first) <- holding [ov] (getMethod ov m pl)
   callWith pos f first (backTo pos (Qa [] X.env)) #[71]):=by rfl):
  PE X #[104] (N2 C m sp [] E0 ta aaj):=by
 obtain⟨f,fd,hm,hb,F⟩:=G.ex
 exact So ho G.cl hm F (hr.mono Hn) hb .nil Sj ht
end
theorem cS{t u:TS}(R:St->Hp->Prop)(h1:∀ σ' H',R σ' H'->u D σ' H')(h2:∀ D':Ends,(∀ σ' H',R σ' H'->D'.nx σ' H')->t D' σ H):Po t u D σ H:=
 h2 { D with nx:=u D } h1
theorem so:lK X #[206] (fun xs H Q=>∃ a kvs,xs=[.ref a]/\H a=some #[54]/\Q (.int kvs.length) H):=by
 exists 19
 obtain⟨a,kvs,rfl,ha,q⟩:=h
 exists 31
 cases rx
 exact adM I (.inl ha) fun t s' I'=>⟨.int kvs.length,H,I',⟨t,rfl⟩,q⟩
theorem DB(l b:Zg)(items CB:Array Value)(n n2:Nat)(dc:Option Zg)(sl:Array (Option Value))(h0:¬(!items.isEmpty&&Wd (items.size+CB.size))=true)(h1:items.size<=sizeLine)(h2:items.size+CB.size<=sizeLine+1):
  Meets (Builtin.«list.extend» ⟨[.ref l,.ref b],[]⟩) (fun _ R s=>s.heap.get? l=some { cls:=.type "list",dict:=none,data:=.seq items n,slots := #[] }/\s.heap.get? b=some { cls:=.type "tuple",dict:=dc,data:=.seq CB n2,slots:=sl }/\R (.ok (.ret WJ)) { s with heap:=s.heap.update l (Obj.mapSeq (·++CB)) }):=
 .of_wp fun prog w A R s h=>by
  obtain⟨hp,g,d,tk,os⟩:=s
  obtain⟨hl,hb,h⟩:=h
  have f1:=AutoSeq1.idx_int
  have f2:=AutoSeq1.sub_tuple_tuple
  have f3:=AutoSeq1.sub_list_list
  have f4:=AutoSeq1.sub_tuple_list
  have f5:=AutoSeq1.sub_list_tuple
  have hz':(items++CB).size<=sizeLine+1:=by rw[Array.size_append];exact h2
  wp_walk using (wpAny_updateSeq hl rfl (hz:=h1) (_hz' := hz')),wpAny_loadPart' hl,wpAny_loadPart' hb
  exact⟨_,rfl,h⟩
section
def Ib:V->List V->Hp->VK->Prop:=fun x vs H Q=>∃ l b xs zs,x=.ref l/\vs=[.ref b]/\H l=some #[232]/\H b=some (.tup zs)/\xs.length+zs.length<=sizeLine/\Q .non (upd H l (.lst (xs++zs)))
theorem Lc:MtM X "list.extend" Ib:=by
 exists 59
 obtain⟨l,b,xs,zs,rfl,rfl,hH,hB,hz,q⟩:=h
 cases rx
 obtain⟨u,rfl,ru⟩:=rv.one
 cases ru
 exists 146
 obtain⟨EU,r2,ht,hz2⟩:=I.tuple (sZ.of (K:=X.K) hB)
 have hl2:=r2.length
 obtain⟨⟨c,dc,da,sl⟩,e2,c2,n2,d2⟩:=ht
 cases c2
 cases d2
 exists 123
 have Ru:¬ #[234]=true:=by
  rw[HI hsz,zy]
  exact je
 refine QF yJ ⟨_,e,rfl⟩ yE (yA _ _)
  (DB l b bp.toArray EU.toArray n n2 dc sl Ru (by rw[jT];omega) #[2]) ⟨e,e2,?_⟩
 exists 101
 rw[jG]
 omega
def SM:V->List V->Hp->VK->Prop:=fun x vs H Q=>MK x vs H Q\/Ib x vs H Q
theorem Lb:MtM X "list.extend" SM:=by
 exists 59
 rcases h with h|h
 ·exact OQ pins s σ H x vs v us Q I rx rv h
 ·exact Lc pins s σ H x vs v us Q I rx rv h
end
end L2
namespace PySem
open PyProof.Rows
variable{prog:Zx}{w:World}{A:Around}{E:Value→QA→Prop}{s:QA}{a l:Zg}{xs:Array Value}{sl:Array (Option Value)}{Q:Option Value→QA→Prop}{K:Type}{R:Result→QA→Prop}{ts:List Zg}{c:Nat}
theorem CC:typeLookup #[273] "keys" = pure none:=by rw[typeLookup_type,builtinLookup_eq_fast];kernel_rfl
theorem rP{k:Nat}(hx:s.heap.get? a=some { cls:=.type "list",dict:=none,data:=.seq xs k,slots:=sl })(hA:A.handled=none)(h:∀ h' tk,#[43]->Q none { s with heap:=h',toks:=tk }):wpAny #[8] A (getAttr? #[75] "keys") Q E s:=by
 obtain⟨hp,g,d,tk,os⟩:=s
 have hT:∀ tk',(⟨hp,g,d,tk',os⟩:QA).TypeIs #[75] "list" := fun _=>⟨_,hx,rfl⟩
 have f1:=sub_AttributeError
 have f3:=F.slot_list_getattribute.lookup
 have f4:=F.slot_list_getattribute.bind #[75]
 have f5:=am_list_getattr_none
 have aer:=CC
 have aet:(["__module__","__name__","__qualname__","__doc__","__annotations__"]:List QB).contains (Str.ofString "keys")=false:=by decide +kernel
 unfold getAttr? getAttrBy? getAttrBy
 repeat (any_goals (first|assumption|exact hT _|((with_reducible show wpAny _ _ (call (WT "list.__getattribute__") _ _) _ _ _);refine QF F.slot_list_getattribute (hT _) am_entry_list_getattribute (F.args_list_getattribute_2 _ _) (meets_getattribute_miss_list a xs k sl (Str.ofString "keys") _ aer aet #[18]) ⟨hx,hA,fun h' tk' e Mq=>?_⟩)|wp_step))
 obtain⟨t',u',he⟩:=Mq.there
 show wpAny _ _ (getattributeRaised _ _ _ _ _ _ _) _ _ _
 unfold getattributeRaised
 exists 60
 exact h h' tk' Mq.keeps
section
variable[DecidableEq K]{knd:KeyKind prog w K}
theorem dM:entryFor table "dict.update.loop" = some Builtin.«dict.update.loop» := entryFor_of_tree (by kernel_rfl)
theorem bL:plainId "dict.update.loop" = true:=by decide +kernel
def B6(knd:KeyKind prog w K)(h:Heap)(ts:List Zg)(ps:List (K×Value)):Prop := ∀ (j:Nat) (t:Zg) (p:K×Value),ts[j]?=some t->ps[j]?=some p->∃ key,knd.is p.1 key=true/\Zr h t #[key,p.2]
theorem Iz{D I:Zg}{ps:List (K×Value)}(W:Walks prog w A.in1 I [I,l] [I] ts.length (fun i v=>#[180].toArray[i]?=some v) #[258])(hl:ts.length=ps.length)(hDI:D≠I)(hDl:D≠l)(hDt:∀ t∈ts,t≠D/\t≠I)(hz:ps.length<=sizeLine):
  ∀ (k i:Nat) (s:QA) (acc:List (K×Value)),ts.length-i=k->i<=ts.length->#[240]->s.heap.DictOf knd D acc->acc.length<=i->B6 knd s.heap ts ps ->
  (∀ h' tk,#[215]->h'.DictOf knd D (merged acc (ps.drop i))->R (.ok (.ret .none)) { s with heap:=h',toks:=tk }) ->
  codeAny #[8] A #[165] R s:=by
 intro k
 induction k with
 | zero =>
  exists 147
  have OK:i=ts.length:=by omega
  subst OK
  refine QH dM ?_
  rw[Around.under_plainId bL _]
  exists 91
  refine Qq (W.done s _ _ wX fun h' tk hm=>?_)
  show wpAny _ _ (Yb D []>>=_) _ _ _
  refine Qq (qV (a:=()) rfl ?_)
  have e:ps.drop ts.length=[]:=by rw[hl,zH]
  exists 124
  rw[e]
  exact hD.extBut (b:=I) (fun b o hb q=>hm b o (by simpa using hb) q) hDI
 | succ k ih =>
  exists 147
  have fu:i<ts.length:=by omega
  have Rv:i<ps.length:=by omega
  refine QH dM ?_
  rw[Around.under_plainId bL _]
  exists 91
  refine Qq #[333]
  have ev:v=.ref ts[i]:=by
   have:#[180].toArray[i]?=some (.ref ts[i]):=by simp[fu]
   rw[this]at hv
   exact(Option.some.inj hv).symm
  subst ev
  exists 50
  obtain⟨key,Rq,ht⟩:=hP i ts[i] ps[i] (jA fu) (jA Rv)
  have tn:=hDt ts[i] (jH fu)
  have PN:Zr h' ts[i] #[key,(ps[i]).2]:=ht.extBut (b:=I) keep tn.2
  have hD':h'.DictOf knd D acc:=hD.extBut (b:=I) keep hDI
  obtain⟨ot,hot,hct,nt,hdt⟩:=id PN
  try dsimp only
  refine Qq (qF ?_)
  refine Qq (wpAny_tryCatch ?_)
  unfold Yr
  refine Qq #[291]
  rw[if_pos #[18]]
  refine Qq #[314]
  refine qX ?_
  show wpAny _ _ (holding [key,(ps[i]).2] (dictSet D key (ps[i]).2)) _ _ _
  refine qF (wpAny_dictSet_pairs (knd:=knd) (s:={ s with heap:=h',toks:=tk }) Rq hD' (fun h2 PJ sb2=>?_) #[2])
  exists 76
  refine qX ⟨QW bL _,?_⟩
  exists 127
  rw[ri]
  refine ih (i+1) { s with heap:=h2,toks:=tk+1 } (stored acc (ps[i]).1 (ps[i]).2) #[2] fu ⟨J3.1.at fun o q=>tD I o (Ne.symm hDI) q,J3.2.at fun o q=>tD l o (Ne.symm hDl) q⟩ PJ (by
   have:=stored_length_le acc (ps[i]).1 (ps[i]).2
   omega) (fun j t p h1 Dj=>?_) (fun h3 tk3 D5 AE=>?_)
  ·obtain⟨aiq,J1,abE⟩:=hP j t p h1 Dj
   have tn' := hDt t (JI h1)
   exact⟨aiq,J1,(abE.extBut (b:=I) keep tn'.2).extBut (b:=D) tD tn'.1⟩
  ·exists 99
   rw[jz Rv]
   exact AE
theorem Bz{ps:List (K×Value)}{Q:Value->QA->Prop}(hh:A.handled=none)(hL:s.heap.get? l=some { cls:=.type "list",dict:=none,data:=.seq #[180].toArray c,slots := #[] })(hl:ts.length=ps.length)(hP:B6 knd s.heap ts ps)(hz:ps.length<=sizeLine)(hQ:∀ h' tk,#[43]->h'.DictOf knd s.heap.objs.size (merged [] ps)->Q #[25] { s with heap:=h',toks:=tk }):
  wpAny #[8] A (call #[272] [.ref l]) Q E s:=by
 exists 15
 rintro obj s₁ ⟨rfl,rfl⟩
 have Rw:#[41].DictOf knd s.heap.objs.size []:=yd s.heap
 have fu:l<s.heap.objs.size:=jJ hL
 exists 21
 exists Rw.typeIs,yK _ _
 unfold Builtin.«dict.__init__»
 refine Qq ?_
 unfold Yc
 refine Qq (qU Rw.typeIs ?_)
 show wpAny _ _ (pure (s.heap.objs.size,[WD l])) _ _ _
 refine qX ?_
 exists 107
 unfold Wq
 refine Qq (WB (T := "list") ⟨_,hL',rfl⟩ ?_)
 rw[if_pos #[18]]
 refine Qq (rP hL' hh fun h1 tk1 EW=>?_)
 rw[if_pos #[42]]
 refine Qq (qj ?_)
 have T8:=EW _ _ hL'
 have il1:Xa h1 l #[180].toArray:=⟨_,T8,rfl,c,rfl⟩
 refine Qq (qZ (s:={ s with heap:=h1,toks:=tk1 }) il1 ?_)
 refine qX ⟨QW bL _,?_⟩
 exists 16
 have l1:l<h1.objs.size:=jJ T8
 have d1:s.heap.objs.size<h1.objs.size:=jJ (EW _ _ (jL s.heap rfl))
 exists 63
 have sz:#[180].toArray.size=ts.length:=by simp
 rw[sz]at W
 exists 22
 refine Iz (A:=A.in1) (knd:=knd) (D:=s.heap.objs.size) (ps:=ps) W hl (jO d1) (Jk fu) (fun t ht=>?_) hz ts.length 0 { s with heap:=h1.push { cls:=.type "list_iterator",data:=.fields #[.ref l,.int 0 0] },toks:=tk1 } [] rfl (jb _) ⟨⟨_,oI,rfl,rfl⟩,il1.at fun o q=>jB _ q⟩ ?_ (jb _) (fun j t p a1 a2=>?_) (fun h3 tk3 D5 AE=>?_)
 ·obtain⟨j,hj⟩:=JD.mp ht
  have jl:j<ps.length:=by
   rw[<- hl]
   exact(jf.mp hj).1
  obtain⟨key,_,o,ho,_⟩:=hP j t ps[j] hj (jA jl)
  have tl:=jJ ho
  exact⟨jO tl,jO (Jd tl d1)⟩
 ·exact Rw.extBut (b:=h1.objs.size) (fun b o _ q=>jB _ (EW _ _ q)) (jO d1)
 ·obtain⟨key,hk,ht⟩:=hP j t p a1 a2
  exact⟨key,hk,ht.keeps Tu⟩
 ·exists 80
end
end PySem
namespace L2
open PySem PySem.Spec PyProof.Rows
variable{X:Cx}{P:Zx}{w:World}{pins:List (Zg×Obj)}{σ:St}{H:Hp}{s:QA}{a I:Zg}{z:V}{u:Tok}{A:Around}{E Q Q₁:Value→QA→Prop}{kvs:List (Key×V)}{o:Obj}{h:Heap}{K:WC}{tg l:Expr}{tl:TE}{elts:List Expr}{pos Pp:Pos}{tb:TS}{D:Ends}{j n ep:Nat}{α:Type}{b wd:Bool}{ns:List Int}{R:Result→QA→Prop}{items:Array Value}
section
def ie(H:Hp):List Zg->List #[309]->Prop:=Zv fun a p=>H a=some (.tup [kV p.1,p.2])
theorem CL:∀ {kvs:List #[309]} {ts:List Zg} {H:Hp} {h:Heap},ie H ts kvs->eV P w H h->∃ ps:List (Key×Value),KV kvs ps/\ps.length=ts.length/\B6 (bt P w) h ts ps
 | [],[],_,_,.nil,_=>⟨[],.nil,rfl,fun j t p h=>by simp at h⟩
 | _,_,_,_,.cons (a:=a) (b:=p) (l₁:=ts) (l₂:=kvs) q t,ok=>by
  obtain⟨ps,r1,r2,r3⟩:=CL t ok
  obtain⟨z,bp,rv,ht⟩:=ok a _ q
  obtain⟨u,v,rfl,ru,rv'⟩:=Vals.two rv
  refine⟨(p.1,v) :: ps,.cons ⟨rfl,rv'⟩ r1,by simp[r2],fun j t' p' h1 h2=>?_⟩
  cases j with
  | zero =>
   simp at h1 h2
   subst h1 h2
   exact⟨u,rN ru,by simpa using ht⟩
  | succ j=>exact r3 j t' p' #[237] #[236]
def Z8:List V->Hp->VK->Prop:=fun xs H Q=>∃ l ts kvs,xs=[.ref l]/\H l=some #[204]/\ie H ts kvs/\∀ D,H D=none->Q #[103] (upd H D (.dK (dS [] kvs)))
theorem AX:∀ {ts:List Zg} {us:List Value},Vals (ts.map V.ref) us->us=ts.map WD
 | [],_,.nil=>rfl
 | t :: ts,_,.cons r q=>by
  cases r
  rw[JE,AX q]
theorem rJ(hc:X.calm=true):lK X #[272] Z8:=by
 exists 19
 obtain⟨l,ts,kvs,rfl,hl,hp,q⟩:=h
 exists 31
 cases rx
 obtain⟨z,bp,n,rv,hln,e⟩:=I.HB hl
 have ei:=AX rv
 subst ei
 obtain⟨ps,r1,r2,r3⟩:=CL hp I.hok
 have hlen:kvs.length=ps.length:=Paired.length r1
 have zl:ps.length<=sizeLine:=by
  rw[r2]
  rw[jQ]at z
  exact z
 refine Bz (knd:=bt X.prog X.w) #[137] e r2.symm r3 zl fun h' tk kp dd=>?_
 have ob:bq X.prog X.w (upd H s.heap.objs.size (.dK (dS [] kvs))) h' s.heap.objs.size (.dK (dS [] kvs)):=by
  refine Cp ?_ (beq_eq_false_iff_ne.mpr (Ne.symm (jO I.big))) (KV.merge r1 .nil) dd
  have:=oo kvs []
  simp only[Jb]at this
  omega
 exists 43
end
section
variable{u r:Value}{k:Key}
theorem EM(I:Inv X pins σ H s)(e:H a=some #[54])(hz:kvs.length<sizeLine)(ry:RelV (kV k) u)(rz:RelV z r)(h1:∀ v w' s',dZ kvs k=some v->Inv X pins σ H s'->RelV v w'->Q w' s')(h2:∀ s',dZ kvs k=none->Inv X pins σ (upd H a (.dK (putK kvs k z))) s'->Q r s'):
  wpAny #[5] A (call (.builtin "dict.setdefault") [.ref a,u,r]) Q E s:=by
 obtain⟨zl,hd,vs,rel,dd⟩:=Me I.hok e
 have rv:=rel.val k
 refine QG YT dd.typeIs PySem.F.entry_dict_setdefault (PySem.F.args_dict_setdefault_3 _ _ _) (kt_meets_setdefault #[154] a (rN ry) hd r) ⟨vs,dd,by rw[<- rel.length];exact zl,fun v hv=>?_,fun hn h' FH sb=>?_⟩
 ·cases hk:dZ kvs k with
  | none=>rw[hk,hv]at rv;exact rv.elim
  | some x =>
   rw[hk,hv]at rv
   exact h1 x v _ hk (I.tok _) rv
 ·have hk:dZ kvs k=none:=by
   cases hk:dZ kvs k with
   | none=>rfl
   | some x=>rw[hk,hn]at rv;exact rv.elim
  refine h2 _ hk (pB (t' := s.toks+1) I (by rw[e];trivial) sb ?_ (Cp (kvs:=putK kvs k z) (by have:=iT kvs k z;omega) hd (rel.put k rz) FH))
  obtain⟨ob,_,_,g,_⟩:=FH
  exact⟨ob,g⟩
end
def afp(td ty tx:TE):TE:=fun σ H Q=>td σ H fun x H1=>∃ a,x=.ref a/\IsD H1 a/\ty σ H1 fun y H2=>tx σ H2 fun z H3=>∃ kvs k,H3 a=some #[54]/\y=kV k/\kvs.length<sizeLine /\
 (∀ v,dZ kvs k=some v->Q v H3)/\(dZ kvs k=none->Q z (upd H3 a (.dK (putK kvs k z))))
section
variable{o e f:Expr}{apos df:Pos}{td ty tx:TE}
theorem Fe(ho:PE X o td)(he:PE X e ty)(hf:PE X f tx)(m:M2 X o "setdefault" apos e f df):PE X (.Call (.Attribute o "setdefault" apos) [e,f] [] df) (afp td ty tx):=by
 exists 4
 refine Qk m.base m.BC m.line We YT PySem.F.type_dict_setdefault #[307]
 subst ex
 exists 110
 obtain⟨t1,t2,_⟩:=ET I1 d
 exists t1,t2
 rw[m.trees]
 refine WZ rfl (Wm (WV (cf #[195] fun iv s2 ⟨y,H2,I2,ry,q2⟩ =>
  WV (cf (hf pins s2 σ H2 _ I2 q2) fun fv s3 ⟨z,H3,I3,rz,kvs,k,ea,ey,hz,q3,q4⟩=>Wl ?_))))
 subst ey
 exact EM I3 ea hz ry rz (fun v w' s' hv I4 rv=>⟨v,H3,I4,rv,q3 v hv⟩) fun s' hn I4=>⟨z,_,I4,rz,q4 hn⟩
end
section
theorem Inv.freeze(I:Inv X pins σ H s)(e:H a=some #[54])(ho:s.heap.get? a=some o):Inv X pins σ (upd H a #[142]) s:=by
 have nt:∀ b u,H b=some u->(u=.dK kvs->False)->b≠a:=fun b u q d=>aF q e d
 exists 12
 ·rw[af (fun z=>by rw[z,e]at n;cases n)];exact n
 ·exists 92
 ·exists 92
 ·rw[af (nt b _ q #[0]),q];simp
 ·by_cases hb:b=a
  ·subst hb
   rw[ae]at q
   cases q
   exact⟨ho,(I.hok b _ e)⟩
  ·rw[af hb]at q
   exists 20
end
def lS(o:Obj):Nat:=match o.data with
 | .dict _ ep=>ep
 | _=>0
def Itd(a:Zg)(o:Obj)(kvs:List #[309]):It:=
 ⟨fun i H=>i<kvs.length/\H a=some #[142],fun i H x H'=>H'=H/\∀ p,kvs[i]?=some p->x=kV p.1,fun i H=>kvs.length<=i/\H a=some #[142]⟩
def Iti(a:Zg)(o:Obj)(kvs:List #[309]):It:=
 ⟨fun i H=>i<kvs.length/\H a=some #[142],fun i H x H'=>∃ T p,x=.ref T/\H T=none/\H'=upd H T (.tup [kV p.1,p.2])/\kvs[i]?=some p,fun i H=>kvs.length<=i/\H a=some #[142]⟩
theorem oY(ok:eV P w H h)(e:H a=some #[142]):∃ vs,KV kvs vs/\h.DictAt (bt P w) a vs (lS o)/\(a==Qe)=false/\h.get? a=some o:=by
 obtain⟨ho,z,lo,vs,rel,ob,es,ep,hg,hx,hd,rest⟩:=ok a _ e
 rw[ho]at hg
 cases hg
 have ee:lS o=ep:=by unfold lS;rw[hd]
 exact⟨vs,rel,⟨o,es,ho,hx,by rw[ee];exact hd,rest⟩,lo,ho⟩
theorem Pq(a it:Zg)(o:Obj)(kvs:List #[309]):Turn P w K tg (Itd a o kvs) [it] it #[332] where
 mem:=by simp
 obj:=fun i h st b hb=>by
  exists 73
  subst e
  obtain⟨o,e,c,d⟩:=st
  exists 42
 keep:=fun i h h' st k=>by
  obtain⟨ob,e,r⟩:=st
  exact⟨ob,k it #[11] ob e,r⟩
 item:=by
  exists 1
  exists 161
  obtain⟨hi,Ri⟩:=hg
  exists 116
  exists 33
  have hv:i<vs.length:=by omega
  exists 3
  rw[hlen]at st
  refine wpAny_pyNext_dict_item (knd:=bt X.prog X.w) st dat (k:=(vs[i]).1) (v:=(vs[i]).2) (jA hv) fun key h' hk FN sb=>?_
  exists 7
  obtain⟨p,e1,e2⟩:=iU rel (jA hv)
  rw[<- hlen]at FN
  obtain⟨ob,e,c,d⟩:=id FN
  refine⟨key,rfl,Hi (s:={ s with heap:=h' }) e c d #[18] ⟨kV p.1,H,I1,?_,⟨rfl,fun p' OL=>by rw[e1]at OL;cases OL;rfl⟩,FN,fun b hb=>(hf b hb).1⟩⟩
  rw[e2.1]
  exact Mu hk
 done:=by
  exists 1
  exists 161
  obtain⟨hi,Ri⟩:=hg
  exists 116
  exists 33
  exists 3
  rw[hlen]at st
  exact wpAny_pyNext_dict_end #[137] st dat (Jf #[2]) fun h' eb=>⟨rfl,I.turned (t' := s.toks) #[87] f0 f1 f3 f4 f5⟩
 self:=fun A i s Q E st h=>by
  refine qd st.typeIs WY (Qt WY st.typeIs YB ?_ (YA _))
  show wpAny _ _ (ret #[189]) _ _ s
  exists 70
section
def aeD(tl:TE):TI:=fun σ H R=>tl σ H fun x H1=>∃ a kvs,x=.ref a/\((H1 a=some #[54]/\∀ o,R (Itd a o kvs) (upd H1 a #[142]))\/∃ o,H1 a=some #[142]/\R (Itd a o kvs) H1)
theorem Z3(hl:PE X l tl):PI X tg l (aeD tl):=by
 exists 134
 exists 23
 obtain⟨a,kvs,e,q⟩:=q1
 subst e
 cases r1
 have main:∀ (o:Obj) (H2:Hp),Inv X pins σ H2 s1->H2 a=some #[142]->R (Itd a o kvs) H2->wpAny #[5] X.A (pyIter #[75]) (PIE X pins σ tg R) X.xe s1:=fun o H2 I2 e2 q2=>by
  obtain⟨vs,rel,dat,lo,ho⟩:=oY I2.hok e2
  exists 33
  refine wpAny_pyIter_dict lo dat ?_
  refine⟨s1.heap.objs.size,[s1.heap.objs.size],_,_,H2,rfl,I2.kept (t' := s1.toks) fun b o e=>jB _ e,Pq a _ o kvs,⟨_,jL _ rfl,rfl,by rw[hlen];rfl⟩,fun b hb=>?_,q2⟩
  exists 58
  subst e
  exists 155
 rcases q with⟨hd,q⟩|⟨o,hd,q⟩
 ·obtain⟨z,lo,vs,rel,ob,es,ep,hg,rest⟩:=I1.hok a _ hd
  exact main ob _ (I1.freeze hd hg) ae (q ob)
 ·exact main o H1 I1 hd q
end
theorem BB:entryFor table "dict_itemiterator.__iter__" = some Builtin.«dict_keyiterator.__iter__» :=
 entryFor_alias (id' := "dict_keyiterator.__iter__") (by kernel_rfl) (by first|rfl|decide +kernel|(unfold String.splitOn;simp +decide [String.splitOnAux])) #[4] (by kernel_rfl)
theorem LN{x1:_}(a it:Zg)(o:Obj)(kvs:List #[309]):Turn P w K (.Tuple elts x1 pos) (Iti a o kvs) [it] it (fun i h=>∃ ok ov,IsItemIter h it a i kvs.length (lS o) ok ov) where
 mem:=by simp
 obj:=fun i h st b hb=>by
  exists 73
  subst e
  obtain⟨ok,ov,st⟩:=st
  exact⟨_,st,fun v z=>by
   exists 136
   cases z'⟩
 keep:=fun i h h' st k=>by
  obtain⟨ok,ov,st⟩:=st
  exact⟨ok,ov,k it #[11] _ st⟩
 item:=by
  exists 1
  exists 161
  obtain⟨hi,Ri⟩:=hg
  obtain⟨ok,ov,st⟩:=st
  exists 116
  exists 33
  have hv:i<vs.length:=by omega
  exists 3
  rw[hlen]at st
  have itl:it<s.heap.objs.size:=jJ st
  refine wpAny_pyNext_items_item (knd:=bt X.prog X.w) st dat (k:=(vs[i]).1) (v:=(vs[i]).2) (jA hv) fun key h' hk FN ht hsz kp=>?_
  obtain⟨p,e1,e2⟩:=iU rel (jA hv)
  refine⟨.ref s.heap.objs.size,rfl,wpAny_letOwnedTupleGo_items (s:={ s with heap:=h' }) FN fun h2 st2 sb2=>?_⟩
  have Tu:∀ b u,s.heap.get? b=some u->b≠it->h2.get? b=some u:=fun b u e hb=>(sb2.2 b hb).trans (kp b u hb e)
  have nT:s.heap.objs.size≠it:=Jk itl
  have ht2:h2.get? s.heap.objs.size=some { cls:=.type "tuple",data:=.seq #[key,(vs[i]).2] }:=(sb2.2 _ nT).trans ht
  exists 120
  have fit:tL X pins #[144] it:=⟨by rw[af (Ne.symm nT)];exact f0,f1,f2,f3,f4,f5⟩
  have I0:Inv X pins σ #[144] { s with heap:=s.heap.push { cls:=.type "tuple",data:=.seq #[key,(vs[i]).2] } }:=
   I.laid (t' := s.toks) (o:=.tup [kV p.1,p.2]) (fun b ob q=>jB _ q) (jF _) ⟨by show 2<=sizeLine;decide,[key,(vs[i]).2],.cons (by rw[e2.1];exact Mu hk) (.cons e2.2 .nil),⟨_,jL _ rfl,rfl,_,rfl⟩⟩
  have I2:Inv X pins σ #[144] { s with heap:=h2 }:=by
   refine I0.turned (t' := s.toks) (h' := h2) (fun b ob hb q=>?_) fit.1 fit.2.1 fit.2.2.2.1 fit.2.2.2.2.1 fit.2.2.2.2.2
   rcases zM (show(s.heap.push { cls:=.type "tuple",data:=.seq #[key,(vs[i]).2] }).get? b=some ob from q)with⟨rfl,rfl⟩|z
   ·exact ht2
   ·exact Tu b ob z hb
  refine⟨.ref s.heap.objs.size,_,I2,rfl,⟨s.heap.objs.size,p,rfl,fr,rfl,e1⟩,⟨_,_,by rw[hlen];exact st2⟩,fun b hb=>?_⟩
  exists 73
  subst e
  exact fit.1
 done:=by
  exists 1
  exists 161
  obtain⟨hi,Ri⟩:=hg
  obtain⟨ok,ov,st⟩:=st
  exists 116
  exists 33
  exists 3
  rw[hlen]at st
  exact wpAny_pyNext_items_end #[137] st dat (Jf #[2]) fun h' eb=>⟨rfl,I.turned (t' := s.toks) #[87] f0 f1 f3 f4 f5⟩
 self:=fun A i s Q E st h=>by
  obtain⟨ok,ov,st⟩:=st
  have hT:s.TypeIs #[189] "dict_itemiterator" := ⟨_,st,rfl⟩
  refine qd hT YC (Qt YC hT BB ?_ (PySem.F.args_dict_itemiterator_iter_1 _))
  show wpAny _ _ (ret #[189]) _ _ s
  exact qX ⟨_,rfl,"dict_itemiterator",_,hT,PySem.F.slot_dict_itemiterator_next.lookup,h⟩
section
def abJ(tl:TE):TI:=fun σ H R=>tl σ H fun x H1=>∃ v d kvs,x=.ref v/\H1 v=some (wz v d)/\H1 d=some #[54]/\∀ o,R (Iti d o kvs) (upd H1 d #[142])
theorem Sx{x1:_}(hl:PE X l tl):PI X (.Tuple elts x1 Pp) l (abJ tl):=by
 exists 134
 exists 23
 obtain⟨v,a,kvs,e,hv,hd,q⟩:=q1
 subst e
 cases r1
 obtain⟨aeA,_,_⟩:=(show bq X.prog X.w H1 s1.heap v (wz v a)from I1.hok v _ hv)
 obtain⟨z,lo,vs0,aoo,ob,es,ep,hg,rest⟩:=I1.hok a _ hd
 have I2:=I1.freeze hd hg
 obtain⟨vs,rel,dat,lo2,ho⟩:=oY I2.hok ae
 exists 33
 refine wpAny_pyIter_items aeA dat ?_
 refine⟨s1.heap.objs.size,[s1.heap.objs.size],_,_,_,rfl,I2.kept (t' := s1.toks) fun b o e=>jB _ e,LN a _ ob kvs,⟨_,_,by rw[hlen];exact jL _ rfl⟩,fun b hb=>?_,q ob⟩
 exists 58
 subst e
 exists 155
end
theorem Oy{g:TG}(Pv:Nat->St->Hp->Prop)(h0:Pv 0 σ H)(hl:∀ i σ H,i<=kvs.length->Pv i σ H->H a=some #[142])(hs:∀ i p σ H T,kvs[i]?=some p->Pv i σ H->H T=none->g (.ref T) σ (upd H T (.tup [kV p.1,p.2])) fun σ2 H2=>tb { D with nx:=Pv (i+1),ct:=Pv (i+1),bk:=D.nx } σ2 H2)(hd:∀ σ H,Pv kvs.length σ H->D.nx σ H):
  ∃ W:Nat->Nat->St->Hp->Prop,#[192]/\∀ i m σ H,W i m σ H ->
   ((Iti a o kvs).stop i H/\D.nx σ H)\/((Iti a o kvs).go i H/\∃ N:St->Hp->Prop,#[22]/\∀ x H',(Iti a o kvs).yld i H x H'->g x σ H' fun σ2 H2=>tb { D with nx:=N,ct:=N,bk:=D.nx } σ2 H2):=by
 refine⟨fun i m σ H=>m=kvs.length-i/\i<=kvs.length/\Pv i σ H,⟨kvs.length,by simp,jb _,h0⟩,?_⟩
 exists 119
 have q:=hl i σ H hi p
 by_cases fu:i<kvs.length
 ·refine .inr ⟨⟨fu,q⟩,Pv (i+1),fun σ' H' p'=>⟨kvs.length-(i+1),by omega,rfl,fu,p'⟩,fun x H' y=>?_⟩
  obtain⟨T,pr,rfl,hT,rfl,y⟩:=y
  exact hs i pr σ _ T y p hT
 ·have e:i=kvs.length:=by omega
  subst e
  exact .inl ⟨⟨jF _,q⟩,hd σ H p⟩
abbrev Br(xs:Array Nat):Prop:=xs.toList.Pairwise (·<·)
theorem Br.lt{xs:Array Nat}(r:Br xs){i:Nat}(hi:i<j)(hj:j<xs.size):xs[i]<xs[j]:=by
 have:=zZ.mp r i j (by simpa using Jd hi hj) (by simpa using hj) hi
 simpa using this
theorem Cf{xs:Array Nat}(r:Br xs):∀ (fuel lo hi:Nat),hi-lo<=fuel->lo<=hi->hi<=xs.size->(∀ i (h:i<xs.size),i<lo->xs[i]<j)->(∀ i (h:i<xs.size),hi<=i->j<=xs[i]) ->
  (SetTable.below.go xs j fuel lo hi<=xs.size/\(∀ i (h:i<xs.size),i<SetTable.below.go xs j fuel lo hi->xs[i]<j)/\∀ i (h:i<xs.size),SetTable.below.go xs j fuel lo hi<=i->j<=xs[i])
 | 0,lo,hi,hf,hl,hs,h1,h2=>by
  have e:lo=hi:=by omega
  subst e
  exact⟨hs,h1,h2⟩
 | fuel+1,lo,hi,hf,hl,hs,h1,h2=>by
  unfold SetTable.below.go
  by_cases c:lo<hi
  ·rw[if_pos c]
   dsimp only
   have hm:(lo+hi) / 2<xs.size:=by omega
   have eg:xs.getD ((lo+hi) / 2) j=xs[(lo+hi) / 2]:=by simp[Array.getD,hm]
   by_cases d:xs.getD ((lo+hi) / 2) j<j
   ·rw[if_pos d]
    refine Cf r fuel _ _ #[2] #[2] hs (fun i h hi'=>?_) h2
    rcases JT i ((lo+hi) / 2)with z|z
    ·exact Jd (r.lt z hm) (by rw[eg]at d;exact d)
    ·have e:i=(lo+hi) / 2:=by omega
     subst e
     rw[eg]at d
     exact d
   ·rw[if_neg d]
    refine Cf r fuel _ _ #[2] #[2] #[2] h1 (fun i h hi'=>?_)
    rw[eg]at d
    rcases JT ((lo+hi) / 2) i with z|z
    ·exact jo (Jm d) (Jv (r.lt z h))
    ·have e:i=(lo+hi) / 2:=by omega
     subst e
     exact Jm d
  ·rw[if_neg c]
   have e:lo=hi:=by omega
   subst e
   exact⟨hs,h1,h2⟩
theorem PY{xs:Array Nat}(r:Br xs)(j:Nat):SetTable.below xs j<=xs.size/\(∀ i (h:i<xs.size),i<SetTable.below xs j->xs[i]<j)/\∀ i (h:i<xs.size),SetTable.below xs j<=i->j<=xs[i]:=
 Cf r xs.size 0 xs.size #[2] (jb _) (jF _) (fun i h z=>by omega) (fun i h z=>by omega)
theorem toList_insertAt(xs:Array α)(p:Nat)(x:α):(SetTable.insertAt xs p x).toList=xs.toList.take p++x :: xs.toList.drop p:=by
 unfold SetTable.insertAt
 simp
 rw[zt #[11]]
theorem Br.put{xs:Array Nat}(r:Br xs)(hj:xs[SetTable.below xs j]?≠some j):Br (SetTable.insertAt xs #[293] j):=by
 obtain⟨h0,h1,h2⟩:=PY r j
 unfold Br
 rw[toList_insertAt,List.pairwise_append]
 have tk:∀ a∈xs.toList.take #[293],a<j:=fun a ha=>by
  obtain⟨i,hi,rfl⟩:=List.mem_take_iff_getElem.mp ha
  have:i<SetTable.below xs j/\i<xs.size:=by simp at hi;omega
  simpa using h1 i this.2 this.1
 have dr:∀ b∈xs.toList.drop #[293],j<b:=fun b hb=>by
  obtain⟨i,hi,rfl⟩:=List.mem_drop_iff_getElem.mp hb
  have hs:i+SetTable.below xs j<xs.size:=by simpa using hi
  have hle:=h2 (i+SetTable.below xs j) hs #[2]
  have hb0:SetTable.below xs j<xs.size:=by omega
  have hne:xs[SetTable.below xs j]≠j:=fun z=>hj (by rw[JQ hb0,z])
  have h3:=h2 #[293] hb0 (jF _)
  have:j<xs[i+SetTable.below xs j]:=by
   rcases ZN i with z|z
   ·subst z
    simp only[JU]
    omega
   ·have:=r.lt (i:=SetTable.below xs j) (j:=i+SetTable.below xs j) #[2] hs
    omega
  simpa[Nat.add_comm]using this
 refine⟨List.Pairwise.sublist (zT _ _) r,List.pairwise_cons.mpr ⟨dr,List.Pairwise.sublist (List.drop_sublist _ _) r⟩,fun a ha b hb=>?_⟩
 rcases jW.mp hb with e|hb
 ·rw[e];exact tk a ha
 ·exact Jd (tk a ha) (dr b hb)
theorem Lu(n:Nat):Br (Array.range n):=by
 unfold Br
 rw[Array.toList_range]
 exact zu
structure lM(t:Zz)(led:Bool):Prop where
 rise:Br t.place
 nod:t.dummies=#[]
 led:t.led=led
theorem lM.standIn{t:Zz}{led:Bool}(k:lM t led)(n:Nat):lM (t.standIn n) led:=⟨Lu n,rfl,k.led⟩
theorem lM.orStandIn{t:Zz}{led:Bool}(k:lM t led)(n:Nat):lM (t.orStandIn n) led:=by
 unfold SetTable.orStandIn
 split
 ·exact k
 ·exact k.standIn n
theorem Mn(j:Nat):SetTable.has #[] j=false:=by
 unfold SetTable.has
 simp
theorem CW{t:Zz}{led:Bool}(k:lM t led){h:Int}:∀ (fuel:Nat) (p:SetTable.Probe) (j:Nat) (dm:Option Nat),p.dummy=none->SetTable.probe.go t (fun _=>h+1) h fuel p=some (.empty j dm)->t.slot j=.empty/\dm=none
 | 0,p,j,dm,_,e=>by cases e
 | fuel+1,p,j,dm,hp,e=>by
  unfold SetTable.probe.go at e
  cases hs:t.slot p.j with
  | empty =>
   rw[hs]at e
   cases e
   exact⟨hs,hp⟩
  | dummy =>
   exfalso
   unfold SetTable.slot at hs
   dsimp only at hs
   split at hs
   ·cases hs
   ·rw[k.nod,Mn]at hs
    simp at hs
  | live i =>
   rw[hs]at e
   dsimp only at e
   rw[if_neg (by simp;omega)]at e
   refine CW k fuel _ j dm ?_ e
   unfold SetTable.advance
   split
   ·exact hp
   ·exact hp
theorem Oz{t:Zz}{led:Bool}(k:lM t led){h:Int}(e:t.freeSlot h=some (j,b)):t.place[SetTable.below t.place j]?≠some j/\b=false:=by
 unfold SetTable.freeSlot SetTable.probe at e
 split at e
 ·rename_i j' dm e'
  obtain⟨h1,rfl⟩:=CW k _ _ _ _ rfl e'
  simp at e
  obtain⟨rfl,rfl⟩:=e
  refine⟨fun z=>?_,rfl⟩
  unfold SetTable.slot at h1
  dsimp only at h1
  rw[if_pos (by rw[z];simp)]at h1
  cases h1
 ·cases e
theorem K1{t:Zz}{led:Bool}(k:lM t led)(es:Array (Int×Value))(h:Int)(x:Value):lM (layNew t es h x).2.1 led:=by
 unfold layNew
 split
 ·rename_i slot wd e
  obtain⟨hj,rfl⟩:=Oz k e
  have k1:lM (t.put slot).1 led:=by
   refine⟨k.rise.put hj,?_,k.led⟩
   show(if SetTable.has t.dummies slot=true then _ else t.dummies)=#[]
   rw[k.nod,Mn]
   rfl
  exact k1.orStandIn _
 ·exact k.standIn _
theorem Fm{t:Zz}{led:Bool}(k:lM t led)(es:Array (Int×Value))(n:Nat):lM (relayAll t es n).2.1 led:=by
 unfold relayAll
 split
 ·rename_i t' order e
  dsimp only
  split
  ·unfold SetTable.relaid SetTable.laid at e
   simp only[Option.bind_eq_bind,zE]at e
   obtain⟨owner,_,e⟩:=e
   cases e
   refine⟨?_,rfl,k.led⟩
   unfold Br
   dsimp only
   rw[List.map_filterMap]
   refine List.Pairwise.filterMap _ (fun a a' hr b hb b' hb'=>?_) zu
   simp only[Option.map_map,Option.mem_def,Jt,Function.comp]at hb hb'
   obtain⟨_,_,rfl⟩:=hb
   obtain⟨_,_,rfl⟩:=hb'
   exact hr
  ·exact k.standIn _
 ·exact k.standIn _
abbrev byT(w:World):Bool:=w.params.followText "set-order"
def Tj:Value->Int
 | .int n _=>n
 | _=>0
def pY(P:Zx)(w:World)(h:Heap)(a:Zg)(ns:List Int):Prop:=
 ∃ o es ep t,h.get? a=some o/\o.ExactSet/\o.data=.set es ep t/\Zm (QP P w) es.toList/\(∀ e∈es.toList,∃ n u,e.2=.int n u)/\(es.toList.map fun e=>Tj e.2).Perm ns/\es.size<scanBound/\t.fits es.size=true/\lM t (!byT w)
theorem pY.keep{h':Heap}(x:pY P w h a ns)(k:∀ o,h.get? a=some o->h'.get? a=some o):pY P w h' a ns:=by
 obtain⟨o,es,ep,t,ho,r1,r2,r3,r4,r5,r6,r7,r8⟩:=x
 exact⟨o,es,ep,t,k o ho,r1,r2,r3,r4,r5,r6,r7,r8⟩
section
theorem RE{k n:Int}:(QP P w).is k (.int n u)=decide (k=n):=KeyKind.is_eq_decide (QQ P w n u) k
theorem Tb{es tX:Array (Int×Value)}{t t':Zz}(ho:h.get? a=some o)(hex:o.ExactSet)(hd:o.data=.set es ep t)(U2:Zm (QP P w) tX.toList)(hi:∀ e∈tX.toList,∃ n u,e.2=.int n u)(hp:(tX.toList.map fun e=>Tj e.2).Perm ns)(hb:tX.size<scanBound)(hf:t'.fits tX.size=true)(hk:lM t' (!byT w)):
  #[257].get? a=some { o with data:=.set tX (ep+1) t' }/\pY P w #[257] a ns:=by
 have hg:#[257].get? a=some { o with data:=.set tX (ep+1) t' }:=by
  have q:=JC (Obj.putSet tX t') ho (by rw[putSet_of tX t' hd];rfl)
  rw[putSet_of tX t' hd]at q
  exact q
 exact⟨hg,_,tX,ep+1,t',hg,hex,rfl,U2,hi,hp,hb,hf,hk⟩
theorem LX{g:Bool->Zy Unit}(hg:∀ (b:Bool) (s₁:QA) (Q':Unit->QA->Prop),Q' () s₁->wpAny #[97] A (g b) Q' E s₁){es AA:Array (Int×Value)}{t t2:Zz}{R:Option Bool->QA->Prop}(ho:s.heap.get? a=some o)(hex:o.ExactSet)(hd:o.data=.set es ep t)(U2:Zm (QP P w) AA.toList)(hi:∀ e∈AA.toList,∃ n u,e.2=.int n u)(hp:(AA.toList.map fun e=>Tj e.2).Perm ns)(hb:AA.size<scanBound)(hf:t2.fits AA.size=true)(hk:lM t2 (!byT w))(h:∀ h',Wh a s.heap h'->pY P w h' a ns->R (some true) { s with heap:=h' }):
  wpAny #[97] A (do
    storeSet a AA t2
    if (!wd&&t2.tooFull)=true then do
      g (relayAll t2 AA #[83]).2.2
      storeSet a (relayAll t2 AA #[83]).1 (relayAll t2 AA #[83]).2.1
      pure (some true)
     else pure (some true)) R E s:=by
 refine Qq (qx ho hd ?_ (QO hb))
 obtain⟨ho1,hS1⟩:=Tb (P:=P) (w:=w) ho hex hd U2 hi hp hb hf hk
 have sb1:=Wf s.heap a (Obj.putSet AA t2)
 split
 ·have rp:=relayAll_perm t2 AA #[83]
  have rf:=relayAll_fits t2 AA #[83]
  have rt:=Fm hk AA #[83]
  generalize relayAll t2 AA #[83]=Rl at rp rf rt ⊢
  obtain⟨es2,t3,ahb⟩:=Rl
  dsimp only at rp rf rt ⊢
  have sz:es2.size=AA.size:=by rw[<- jx,rp.length_eq,jx]
  have Tt:es2.size<scanBound:=by rw[sz];exact hb
  refine Qq (hg _ _ _ ?_)
  refine Qq (qx ho1 rfl ?_ (QO Tt))
  obtain⟨_,hS2⟩:=Tb (P:=P) (w:=w) (ns:=ns) ho1 hex rfl (U2.perm rp) (fun e he=>hi e (rp.mem_iff.mp he)) ((rp.map _).trans hp) Tt rf rt
  exact qX (h _ (sb1.trans (Wf _ a _)) hS2)
 ·exact qX (h _ sb1 hS1)
theorem Ly{k:Int}{Q:Bool->QA->Prop}(hS:pY P w s.heap a ns)(aex:ns.length+1<scanBound)(h:∀ h' b,Wh a s.heap h'->pY P w h' a (step_dedup ns k)->Q b { s with heap:=h' }):wpAny #[97] A (setAddHashed a (.int k u) #[313]) Q E s:=by
 obtain⟨o,es,ep,t,ho,hex,hd,U2,hi,hp,hb,hf,hk⟩:=hS
 have hsz:es.size=ns.length:=by rw[<- hp.length_eq,jQ,jx]
 have mem:∀ z:Int,z∈ns↔∃ e∈es.toList,(QP P w).is z e.2=true:=fun z=>by
  rw[<- hp.mem_iff,jM]
  constructor
  ·rintro⟨e,he,rfl⟩
   obtain⟨n,v,e2⟩:=hi e he
   exact⟨e,he,by rw[e2,RE];simp[Tj]⟩
  ·rintro⟨e,he,q⟩
   obtain⟨n,v,e2⟩:=hi e he
   rw[e2,RE]at q
   exact⟨e,he,by rw[e2];exact(of_decide_eq_true q).symm⟩
 unfold setAddHashed setAddHashedIn
 refine qF (Qq (wpAny_setState_of ho hd hf ?_))
 dsimp only
 rw[byScan_of (x:=.int k u) rfl hb U2]
 simp only[↓reduceIte]
 unfold setAddByScan
 refine Qq (Qq (qj ?_))
 refine Qq (wpAny_setScan_of (QQ P w k u) ho hd hf U2 ?_)
 cases hr:List.findIdx? (fun e=>(QP P w).is k e.2) es.toList with
 | some j =>
  dsimp only
  obtain⟨hj,pj,_⟩:=List.findIdx?_eq_some_iff_getElem.mp hr
  have kin:k∈ns:=(mem k).mpr ⟨es.toList[j],jH hj,pj⟩
  refine qX (qX ?_)
  have q:=h s.heap false (Xf a s.heap) ⟨o,es,ep,t,ho,hex,hd,U2,hi,by
   unfold step_dedup
   rw[if_pos (by simpa using kin)]
   exact hp,hb,hf,hk⟩
  cases s
  exact q
 | none =>
  dsimp only
  have nin:k∉ns:=fun z=>by
   obtain⟨e,he,q⟩:=(mem k).mp z
   have:=List.findIdx?_eq_none_iff.mp hr e he
   rw[q]at this
   cases this
  have gw:∀ (b:Bool) (s₁:QA) (Q':Unit->QA->Prop),Q' () s₁->wpAny #[97] A (match b with|true=>rule "set.scan.the-table-gave-way"|false=>pure ()) Q' E s₁:=fun b s₁ Q' q=>by
   cases b
   ·exact qX q
   ·exact qj q
  have lp:=layNew_perm t es #[313] (.int k u)
  have lf:=layNew_fits t es #[313] (.int k u)
  have lt:=K1 hk es #[313] (.int k u)
  generalize layNew t es #[313] (.int k u)=L at lp lf lt ⊢
  obtain⟨AA,t1,wd,ahb⟩:=L
  dsimp only at lp lf lt ⊢
  rw[Array.toList_push]at lp
  have aeh:Zm (QP P w) AA.toList:=(U2.push (QQ P w k u) rfl).perm lp
  have hi1:∀ e∈AA.toList,∃ n v,e.2=.int n v:=fun e he=>by
   rcases Jq.mp (lp.mem_iff.mp he)with z|z
   ·exact hi e z
   ·rw[jI.mp z];exact⟨k,u,rfl⟩
  have hp1:(AA.toList.map fun e=>Tj e.2).Perm (step_dedup ns k):=by
   unfold step_dedup
   rw[if_neg (by simpa using nin)]
   refine(lp.map _).trans ?_
   rw[jD]
   exact hp.append (List.Perm.refl _)
  have hb1:AA.size<scanBound:=by rw[<- jx,lp.length_eq,jG,jx,hsz];exact aex
  refine Qq (gw _ _ _ ?_)
  split
  ·refine Qq ?_
   rw[hashByValue_scannable 8 (x:=.int k u) rfl]
   refine qX ?_
   exists 51
  ·refine Qq (qX ?_)
   simp only[↓reduceIte]
   exists 51
end
section
variable{fp wr:List Zg}{G:Array Zp->Array Zp->Prop}{Pz:Nat->Value->Prop}{St:Nat->QA->Prop}
theorem FA(W:WalksS P w A.in1 I fp wr G n Pz St)(S:Zg)(hSf:S∉fp)(val:Nat->Int)(aih:∀ i v,Pz i v->∃ t,v=.int (val i) t)(hb:n+1<scanBound):
  ∀ (k i:Nat) (s:QA),n-i=k->i<=n->St i s->pY P w s.heap S (firstMet val i)->(∀ s',Moved (S :: wr) G s s'->pY P w s'.heap S (firstMet val n)->R (.ok (.ret .none)) s') ->
   codeAny #[97] A (.builtin "set.update.loop" ⟨[.ref S,.ref I],[]⟩) R s:=by
 have nw:S∉wr:=fun z=>hSf (W.sub _ z)
 have up:∀ b∈wr,b∈S :: wr:=fun b z=>jK _ z
 intro k
 induction k with
 | zero =>
  intro i s hk hi wX hS hR
  obtain rfl:i=n:=by omega
  refine QH Yl ?_
  rw[Around.under_plainId YE _]
  refine Qq (m:=pyNext (.ref I)) (W.done s _ _ wX fun s' hm=>?_)
  exact qX (hR s' (hm.mono up) (hS.keep fun o q=>hm.heap S o nw q))
 | succ k ih =>
  intro i s hk hi wX hS hR
  have fu:i<n:=by omega
  refine QH Yl ?_
  rw[Around.under_plainId YE _]
  refine Qq (m:=pyNext (.ref I)) (W.item i s _ _ fu wX fun v s' hP J3 hm=>?_)
  obtain⟨t,rfl⟩:=aih i v hP
  have hS':pY P w s'.heap S (firstMet val i):=hS.keep fun o q=>hm.heap S o nw q
  refine Qq (m:=holding [WQ (val i) t] (setAdd S (.int (val i) t))) (qF ?_)
  unfold setAdd
  refine qF (Qq ((QP P w).pyHash (k:=val i) (QQ _ _ _ _) ?_))
  have room:(firstMet val i).length+1<scanBound:=by
   have:=firstMet_length_le val i
   omega
  refine Ly (s:={ s' with toks:=s'.toks+1 }) hS' room fun h' b sb S2=>?_
  rw[<- firstMet_succ]at S2
  refine qX ⟨QW YE _,ih (i+1) _ #[2] fu (W.frame _ s' _ _ J3 (JM _) fun b hb o e=>?_) S2 fun s2 m2 S3=>?_⟩
  ·rw[sb.2 b (fun z:b=S=>hSf (z ▸ hb))];exact e
  ·refine hR s2 (Moved.trans W.gtrans ((hm.mono up).then_heap (JM _) fun b o hb e=>?_) m2) S3
   rw[sb.2 b (fun z:b=S=>hb (by rw[z];exact jE))];exact e
end
section
def dR(w:World):Obj:={ cls:=.type "set",dict:=none,data:=.set #[] 0 (.fresh 0 0 (!byT w)) }
theorem aiN(h:Heap)(hg:h.get? a=some (dR w)):pY P w h a []:=
 ⟨_,#[],0,_,hg,⟨rfl,rfl,rfl⟩,rfl,(fun e he=>by cases he),(fun e he=>by cases he),List.Perm.refl _,by decide,rfl,⟨List.Pairwise.nil,rfl,rfl⟩⟩
theorem Oi(a:Value)(h:Q₁ #[25] { s with heap:=s.heap.push (dR w) }):
  codeAny #[97] A (.call (.builtin "set.__new__") ⟨[.type "set",a],[]⟩) (wants Q₁ E) s:=by
 refine QM ?_
 show wpAny _ A.in1 (do checkBuiltinCall "set.__new__" ⟨[.type "set",a],[]⟩;again (.builtin "set.__new__" ⟨[.type "set",a],[]⟩)) _ _ s
 refine Qq (qV (F.newCall_set_1 a) (qX ⟨QW ye _,QH F.entry_set_new ?_⟩))
 rw[Around.under_plainId ye _]
 unfold Builtin.«set.__new__» yn
 have aey:=sub_set_self
 obtain⟨hp,g,d,tk,os⟩:=s
 dsimp only
 wp_walk
 refine wpAny_askSetting (qX ?_)
 dsimp only
 simp only[newObj]
 exact Qq (wpAny_alloc (qX (qX h)))
set_option maxHeartbeats 3200000 in
theorem Oh{l:Zg}(hh:A.handled=none)(hl:s.heap.IsList l items)(hi:Zq items.toList ns)(hb:items.size+1<scanBound)(h:∀ (h':Heap) (tk:Nat),pY P w h' s.heap.objs.size (firstMet #[318] items.size)->#[190]->Q #[25] { s with heap:=h',toks:=tk }):
  wpAny #[97] A (call (.type "set") [.ref l]) Q E s:=by
 obtain⟨c,tl,am1⟩:=F.called_set.mro
 have akt:=F.called_set.made
 have aey:=F.called_set.sub
 refine Qr (QM ?_)
 show wpAny _ _ (callAny (.type "set") _) _ _ _
 refine qX ⟨Code.quiet_builtin _ #[4],QH F.entry_type_call ?_⟩
 rw[Around.under_plain (weight_type_call_type "set" [.ref l] []) rfl]
 have h1:=F.called_set.notType
 have h2:=F.called_set.canCreate
 have hct:=F.typeCall_set_1 (.ref l)
 exists 60
 refine QL (Oi (.ref l) (E:=E) (Q₁:=fun obj s₁=>obj=.ref s.heap.objs.size/\s₁={ s with heap:=s.heap.push (dR w) }) ⟨rfl,rfl⟩) fun r s₁ hr=>?_
 cases r with
 | error e=>exact hr
 | ok fl =>
  cases fl with
  | ret obj =>
   obtain⟨rfl,rfl⟩:=hr
   have hS:#[162].get? s.heap.objs.size=some (dR w):=jL _ rfl
   have hT:Shared.TypeIs { s with heap:=s.heap.push (dR w) } #[25] "set" := ⟨_,hS,rfl⟩
   have hli:=F.called_set.init.lookup
   have hbi:=F.called_set.init.bind #[25]
   exists 60
   refine QL (QI (R:=wants (fun r s₂=>r=.none/\∃ h' tk,s₂={ s with heap:=h',toks:=tk }/\pY P w h' s.heap.objs.size (firstMet #[318] items.size) /\
     #[190]) E) F.called_set.init.plain F.entry_set_init (check_set_init_1 hT ?_)) fun r₂ s₂ Hq=>?_
   ·obtain⟨ol,hol,Rf,nl,hdl⟩:=hl
    obtain⟨aof,aeY,ak4,ab4⟩:=ol
    simp only at Rf hdl
    subst Rf;subst hdl
    have ah3:#[162].get? l=some { cls:=.type "list",dict:=aeY,data:=.seq items nl,slots:=ab4 }:=jB _ hol
    have anc:=F.sub_list_set
    have anb:=F.sub_list_frozenset
    have U7:#[162].IsList l items:=⟨_,ah3,rfl,nl,rfl⟩
    have hne:(WW "list" == WW "dict")=false:=by decide
    have hS0:#[162].get? s.heap.objs.size=some { cls:=.type "set",dict:=none,data:=.set #[] 0 (.fresh 0 0 (!byT w)) }:=hS
    unfold Builtin.«set.__init__» noKeywords yj
    generalize hPI:pyIter=PI
    wp_walk
    subst hPI
    refine qZ U7 (Qq (wpAny_runValue ?_))
    have hlS:l<s.heap.objs.size:=jJ hol
    have hh3:A.in1.in1.in1.handled=none:=by simp[hh]
    have neI:l≠#[162].objs.size:=by rw[JW];exact jO (zU hlS)
    have nS:s.heap.objs.size∉[#[162].objs.size,l]:=by
     rw[JW]
     simp only[jW,jI,ze,or_false,not_or]
     exact⟨jO (Jl _),Jk hlS⟩
    refine FA ((Walks.list hh3 _ l neI items).toS) s.heap.objs.size nS #[318] (fun i v hv=>IntsAre.int_at hi i v (by rw[JR];exact hv)) hb (items.size-0) 0 _ #[2] (jb _)
     ⟨⟨_,jL _ rfl,rfl,rfl⟩,(U7.push _)⟩ ?_ ?_
    ·exact aiN (w:=w) _ (jB _ hS)
    ·rintro⟨h',g',d',tk',os'⟩ hm hS'
     have eg:g'=s.gens:=hm.gens
     have ed:d'=s.drawn:=hm.drawn
     have eo:os'=s.os:=hm.os
     subst eg ed eo
     refine qX ?_
     show wpAny _ _ (ret WJ) _ _ _
     refine qX ⟨rfl,h',tk',rfl,hS',fun b o hb e=>?_⟩
     refine hm.heap b o ?_ (jB _ (jB _ e))
     rw[JW]
     simp only[jW,jI,ze,or_false,not_or]
     exact⟨jO hb,jO (zU hb)⟩
   ·cases r₂ with
    | error e=>exact Hq
    | ok adR =>
     cases adR with
     | ret r =>
      obtain⟨rfl,h',tk,rfl,hS',J1⟩:=Hq
      exists 60
      exact h _ _ hS' J1
     | next=>exact Hq
     | brk=>exact Hq
     | cont=>exact Hq
  | next=>exact hr
  | brk=>exact hr
  | cont=>exact hr
end
namespace SF
end SF
end L2
namespace L2
open PySem PySem.Spec PyProof.Rows
namespace SF
end SF
end L2
namespace L2
open PySem PySem.Spec PyProof.Rows
variable{P:Zx}{w:World}{s ns:List Int}{S:Zg}{v:Int}{X:Cx}
abbrev B8(P:Zx)(w:World)(S:Zg)(ns:List Int):HO:=.ext fun h=>pY P w h S ns
theorem Df:∀ {ns:List Int} {us:List Value},Vals #[45] us->Zq us ns
 | [],_,.nil=>.nil
 | n :: r,_,.cons ⟨t,e⟩ z=>by
  subst e
  exact .cons n t (Df z)
def aK(ns:List Int):List Int:=ns.foldl step_dedup []
theorem Dw(ns:List Int):firstMet #[318] ns.length=aK ns:=by
 unfold firstMet aK
 congr 1
 refine zg #[11] fun i h1 h2=>?_
 simp[List.getD,h2]
theorem Oo{k:Int}:k∈step_dedup s v↔k∈s\/k=v:=by
 unfold step_dedup
 split
 ·rename_i h
  have hv:v∈s:=by simpa using h
  exact⟨.inl,fun z=>z.elim id fun e=>e ▸ hv⟩
 ·simp
theorem G3(h:s.Nodup):(step_dedup s v).Nodup:=by
 unfold step_dedup
 split
 ·exact h
 ·rename_i c
  have hv:v∉s:=by simpa using c
  exact JA.mpr ⟨h,by simp,fun a ha b hb e=>hv #[216]⟩
theorem Bi:∀ (ns s:List Int) (k:Int),k∈ns.foldl step_dedup s↔k∈s\/k∈ns
 | [],s,k=>by simp
 | n :: r,s,k=>by
  rw[JX,Bi r,Oo,jW]
  constructor
  ·rintro((h|h)|h)
   ·exact .inl h
   ·exact .inr (.inl h)
   ·exact .inr (.inr h)
  ·rintro(h|h|h)
   ·exact .inl (.inl h)
   ·exact .inl (.inr h)
   ·exact .inr h
theorem dC{k:Int}:k∈aK ns↔k∈ns:=by
 unfold aK
 rw[Bi]
 simp
theorem tE:∀ (ns s:List Int),s.Nodup->(ns.foldl step_dedup s).Nodup
 | [],s,h=>h
 | n :: r,s,h=>tE r _ (G3 h)
theorem CN(ns:List Int):(aK ns).Nodup:=tE ns [] List.Pairwise.nil
theorem fq:∀ (ns s:List Int),(ns.foldl step_dedup s).length<=s.length+ns.length
 | [],s=>jF _
 | n :: r,s=>by
  refine jo (fq r _) ?_
  have:(step_dedup s n).length<=s.length+1:=by
   unfold step_dedup
   split
   ·exact JM _
   ·rw[jG];exact jF _
  rw[jc]
  omega
theorem oU(ns:List Int):(aK ns).length<=ns.length:=by
 have q:=fq ns []
 unfold aK
 simpa using q
section
theorem sr(hc:X.calm=true):lK X (.type "set") (fun xs H Q=>∃ (a:Zg) (ns:List Int),xs=[.ref a]/\H a=some (.lst #[45])/\ns.length<4000/\∀ S,H S=none->Q (.ref S) (upd H S (B8 X.prog X.w S (aK ns)))):=by
 exists 19
 obtain⟨a,ns,rfl,ha,hz,q⟩:=h
 exists 31
 cases rx
 obtain⟨_,bp,n,rv,hl,e⟩:=I.HB ha
 have hln:bp.length=ns.length:=by rw[<- hl,jQ]
 refine Oh #[137] ⟨_,e,rfl,n,rfl⟩ (ns:=ns) (by simpa using Df rv) (by simp only[jT];unfold scanBound;omega) fun h' tk hS keep=>?_
 have k2:∀ b o,s.heap.get? b=some o->h'.get? b=some o:=fun b o z=>keep b o (jJ z) z
 have hS':pY X.prog X.w h' s.heap.objs.size (aK ns):=by
  simp only[jT]at hS
  rw[hln,Dw]at hS
  exact hS
 refine⟨.ref s.heap.objs.size,_,I.laid (o:=B8 X.prog X.w s.heap.objs.size (aK ns)) (t' := tk) k2 (jF _) (show pY X.prog X.w h' s.heap.objs.size (aK ns)/\(∃ o,h'.get? s.heap.objs.size=some o)/\∀ h1 h2:Heap,pY X.prog X.w h1 s.heap.objs.size (aK ns)->(∀ o,h1.get? s.heap.objs.size=some o->h2.get? s.heap.objs.size=some o)->pY X.prog X.w h2 s.heap.objs.size (aK ns)from⟨hS',?_,fun h1 h2 p kp=>p.keep kp⟩),rfl,q _ #[95]⟩
 obtain⟨o,es,ep,t,ho,_⟩:=hS'
 exact⟨o,ho⟩
end
end L2
namespace PySem
open PyProof.Rows
end PySem
namespace L2
open PySem PySem.Spec PyProof.Rows
variable{a:Expr}{p:Pos}{ix:List (Option Nat)}{te:TE}{σ:St}{H:Hp}{x:QB}{o:Obj}{kvs:List (Key×V)}{Qd:Zg→Hp→Prop}
theorem Oj{a:Zg}(Pv:Zg->Nat->List V->Hp->Prop)(h0:∀ D,H D=none->Pv D 0 [] #[84])(hl:∀ D i ys H',i<=kvs.length->Pv D i ys H'->H' a=some #[142])(hs:∀ D i p ys H' (Q':VK),H D=none->kvs[i]?=some p->H' D=some #[203]->Pv D i ys H'->#[7] ->
   te (#[107].set 0 (some (kV p.1))) H' Q')(hd:∀ D ys H',H D=none->H' D=some #[203]->Pv D kvs.length ys H'->Qd D H'):wq (Itd a o kvs) ix (bC 0) te σ H Qd:=by
 intro D hD
 exists 10
 exists 48
 have q:=hl D i ys H' hi p
 by_cases fu:i<kvs.length
 ·refine .inr ⟨⟨fu,q⟩,fun x H2 y=>?_⟩
  obtain⟨e1,e2⟩:=y
  subst e1
  have ex:=e2 kvs[i] (jA fu)
  subst ex
  have es:σ'.set 0 (some (kV (kvs[i]).1))=#[107].set 0 (some (kV (kvs[i]).1)):=by
   exists 158
   ·rw[z]
   ·rw[z,Jx]
  show te (σ'.set 0 (some (kV (kvs[i]).1))) _ _
  rw[es]
  refine hs D i kvs[i] ys _ _ hD (jA fu) hy p fun y H4 h4 hz p4=>⟨ys,h4,hz,kvs.length-(i+1),by omega,rfl,fu,.inr ⟨_,rfl⟩,ys++[y],ae,p4⟩
 ·have e:i=kvs.length:=by omega
  subst e
  exact .inl ⟨⟨jF _,q⟩,hd D ys H' hD hy p⟩
end L2
namespace PySem
open PyProof.Rows
variable{prog:Zx}{w:World}{K:Type}{A:Around}{E Q:Value→QA→Prop}{s:QA}{R:Result→QA→Prop}{h h':Heap}{a D I l:Zg}{i c:Nat}{ts:List Zg}
section
variable[DecidableEq K]{knd:KeyKind prog w K}
theorem IsTupleKey.there{ks:List K}(x:Zs knd h ks a)(k:∀ o,h.get? a=some o->h'.get? a=some o):Zs knd h' ks a:=let ⟨o,it,n,ho,r⟩:=x;⟨o,it,n,k _ ho,r⟩
def Au(knd:KeyKind prog w K)(h:Heap)(ts:List Zg)(ps:List #[115]):Prop := ∀ (j:Nat) (t:Zg) (p:List K×Zg×Value),ts[j]?=some t->ps[j]?=some p->Zs knd h p.1 p.2.1/\Zr h t #[.ref p.2.1,p.2.2]
def BR(xs ps:List #[115]):List #[115]:=ps.foldl (fun acc p=>storedH acc p.1 p.2.1 p.2.2) xs
theorem Co{xs:List #[115]}(x:h.DictOfH (Qf knd) D xs)(hD:∀ o,h.get? D=some o->h'.get? D=some o)(hk:∀ p∈xs,∀ o,h.get? p.2.1=some o->h'.get? p.2.1=some o):h'.DictOfH (Qf knd) D xs:=by
 obtain⟨o,es,ep,ho,hc,hd,he,his,hn⟩:=x
 exact⟨o,es,ep,hD _ ho,hc,hd,he,fun p hp=>IsTupleKey.there (his p hp) (hk p hp),hn⟩
theorem Iw(xs:List #[115])(k:List K)(a:Zg)(v:Value):(storedH xs k a v).length<=xs.length+1:=by
 unfold storedH
 split
 ·rw[jQ];omega
 ·rw[jG];exact jF _
theorem pE{ks:List K}(x:Zs knd h ks a)(y:h.IsListIter I l i):a≠I:=by
 rintro rfl
 obtain⟨o,_,_,ho,hc,_⟩:=x
 obtain⟨o',PM,FI,_⟩:=y
 rw[ho]at PM
 cases PM
 rw[hc]at FI
 exact absurd (Xj FI) #[18]
theorem Fz{ps:List #[115]}(hu:A.units+1<cLine)(W:Walks prog w A.in1 I [I,l] [I] ts.length (fun i v=>#[180].toArray[i]?=some v) #[258])(hl:ts.length=ps.length)(hDI:D≠I)(hDl:D≠l)(hDt:∀ t∈ts,t≠D/\t≠I)(hz:ps.length<=sizeLine):
  ∀ (k i:Nat) (s:QA) (acc:List #[115]),ts.length-i=k->i<=ts.length->#[240]->s.heap.DictOfH (Qf knd) D acc->acc.length<=i->Au knd s.heap ts ps ->
  (∀ h' tk,#[215]->h'.DictOfH (Qf knd) D (BR acc (ps.drop i))->R (.ok (.ret .none)) { s with heap:=h',toks:=tk }) ->
  codeAny #[8] A #[165] R s:=by
 intro k
 induction k with
 | zero =>
  exists 147
  have OK:i=ts.length:=by omega
  subst OK
  refine QH dM ?_
  rw[Around.under_plainId bL _]
  exists 91
  refine Qq (W.done s _ _ wX fun h' tk hm=>?_)
  show wpAny _ _ (Yb D []>>=_) _ _ _
  refine Qq (qV (a:=()) rfl ?_)
  have e:ps.drop ts.length=[]:=by rw[hl,zH]
  exists 124
  rw[e]
  obtain⟨_,_,_,_,_,_,_,his,_⟩:=id hD
  exact Co hD (fun o q=>hm D o (by simpa using hDI) q) fun p hp o q=>hm _ o (by simpa using pE (his p hp) wX.1) q
 | succ k ih =>
  exists 147
  have fu:i<ts.length:=by omega
  have Rv:i<ps.length:=by omega
  refine QH dM ?_
  rw[Around.under_plainId bL _]
  exists 91
  refine Qq #[333]
  have ev:v=.ref ts[i]:=by
   have:#[180].toArray[i]?=some (.ref ts[i]):=by simp[fu]
   rw[this]at hv
   exact(Option.some.inj hv).symm
  subst ev
  exists 50
  have aeI:∀ {ks:List K} {a:Zg},Zs knd s.heap ks a->Zs knd h' ks a:=fun x=>x.there fun o q=>keep _ o (pE x wX.1) q
  obtain⟨Rq,ht⟩:=hP i ts[i] ps[i] (jA fu) (jA Rv)
  have tn:=hDt ts[i] (jH fu)
  have PN:Zr h' ts[i] #[.ref (ps[i]).2.1,(ps[i]).2.2]:=ht.extBut (b:=I) keep tn.2
  have hD':h'.DictOfH (Qf knd) D acc:=by
   obtain⟨_,_,_,_,_,_,_,his,_⟩:=id hD
   exact Co hD (fun o q=>keep D o hDI q) fun p hp o q=>keep _ o (pE (his p hp) wX.1) q
  obtain⟨ot,hot,hct,nt,hdt⟩:=id PN
  try dsimp only
  refine Qq (qF ?_)
  refine Qq (wpAny_tryCatch ?_)
  unfold Yr
  refine Qq #[291]
  rw[if_pos #[18]]
  refine Qq #[314]
  refine qX ?_
  show wpAny _ _ (holding [.ref (ps[i]).2.1,(ps[i]).2.2] (dictSet D (.ref (ps[i]).2.1) (ps[i]).2.2)) _ _ _
  refine qF (Qx (knd:=Qf knd) (k:=(ps[i]).1) (s:={ s with heap:=h',toks:=tk }) hu (aeI Rq) hD' (fun h2 PJ sb2=>?_) #[2])
  exists 76
  refine qX ⟨QW bL _,?_⟩
  exists 127
  rw[ri]
  have air:∀ {ks:List K} {a:Zg},Zs knd s.heap ks a->a≠D:=fun x z=>by
   obtain⟨o,_,_,ho,_,hd,_⟩:=x
   obtain⟨o',_,_,PM,_,U0,_⟩:=hD
   rw[z,PM]at ho
   cases ho
   rw[U0]at hd
   cases hd
  refine ih (i+1) { s with heap:=h2,toks:=_ } (storedH acc (ps[i]).1 (ps[i]).2.1 (ps[i]).2.2) #[2] fu ⟨J3.1.at fun o q=>tD I o (Ne.symm hDI) q,J3.2.at fun o q=>tD l o (Ne.symm hDl) q⟩ PJ (by
   have:=Iw acc (ps[i]).1 (ps[i]).2.1 (ps[i]).2.2
   omega) (fun j t p h1 Dj=>?_) (fun h3 tk3 D5 AE=>?_)
  ·obtain⟨J1,abE⟩:=hP j t p h1 Dj
   have tn' := hDt t (JI h1)
   exact⟨(aeI J1).there fun o q=>tD _ o (air J1) q,(abE.extBut (b:=I) keep tn'.2).extBut (b:=D) tD tn'.1⟩
  ·exists 99
   rw[jz Rv]
   exact AE
theorem Ax{ps:List #[115]}(hu:A.units+2<cLine)(hh:A.handled=none)(hL:s.heap.get? l=some { cls:=.type "list",dict:=none,data:=.seq #[180].toArray c,slots := #[] })(hl:ts.length=ps.length)(hP:Au knd s.heap ts ps)(hz:ps.length<=sizeLine)(hQ:∀ h' tk,#[43]->h'.DictOfH (Qf knd) s.heap.objs.size (BR [] ps)->Q #[25] { s with heap:=h',toks:=tk }):
  wpAny #[8] A (call #[272] [.ref l]) Q E s:=by
 exists 15
 rintro obj s₁ ⟨rfl,rfl⟩
 have Rw:#[41].DictOfH (Qf knd) s.heap.objs.size []:=Xh s.heap
 have aaE:({ s with heap:=s.heap.push { cls:=.type "dict",data:=.dict #[] } }:QA).TypeIs #[25] "dict" := ⟨_,jL s.heap rfl,rfl⟩
 have fu:l<s.heap.objs.size:=jJ hL
 exists 21
 exists aaE,yK _ _
 unfold Builtin.«dict.__init__»
 refine Qq ?_
 unfold Yc
 refine Qq (qU aaE ?_)
 show wpAny _ _ (pure (s.heap.objs.size,[WD l])) _ _ _
 refine qX ?_
 exists 107
 unfold Wq
 refine Qq (WB (T := "list") ⟨_,hL',rfl⟩ ?_)
 rw[if_pos #[18]]
 refine Qq (rP hL' hh fun h1 tk1 EW=>?_)
 rw[if_pos #[42]]
 refine Qq (qj ?_)
 have T8:=EW _ _ hL'
 have il1:Xa h1 l #[180].toArray:=⟨_,T8,rfl,c,rfl⟩
 refine Qq (qZ (s:={ s with heap:=h1,toks:=tk1 }) il1 ?_)
 refine qX ⟨QW bL _,?_⟩
 exists 16
 have l1:l<h1.objs.size:=jJ T8
 have d1:s.heap.objs.size<h1.objs.size:=jJ (EW _ _ (jL s.heap rfl))
 exists 63
 have sz:#[180].toArray.size=ts.length:=by simp
 rw[sz]at W
 exists 22
 refine Fz (A:=A.in1) (knd:=knd) (D:=s.heap.objs.size) (ps:=ps) (by show A.units+1+1<cLine;exact hu) W hl (jO d1) (Jk fu) (fun t ht=>?_) hz ts.length 0 { s with heap:=h1.push { cls:=.type "list_iterator",data:=.fields #[.ref l,.int 0 0] },toks:=tk1 } [] rfl (jb _) ⟨⟨_,oI,rfl,rfl⟩,il1.at fun o q=>jB _ q⟩ ?_ (jb _) (fun j t p a1 a2=>?_) fun h3 tk3 D5 AE=>?_
 ·obtain⟨j,hj⟩:=JD.mp ht
  have jl:j<ps.length:=by
   rw[<- hl]
   exact(jf.mp hj).1
  obtain⟨_,o,ho,_⟩:=hP j t ps[j] hj (jA jl)
  have tl:=jJ ho
  exact⟨jO tl,jO (Jd tl d1)⟩
 ·exact Co Rw (fun o q=>jB _ (EW _ _ q)) fun p hp=>by cases hp
 ·obtain⟨hk,ht⟩:=hP j t p a1 a2
  exact⟨hk.there fun o q=>Tu _ o q,ht.keeps Tu⟩
 ·exists 80
end
end PySem
namespace L2
open PySem PySem.Spec PyProof.Rows
variable{X:Cx}{P:Zx}{w:World}{H:Hp}{A:Around}
section
def II(H:Hp):List Zg->List #[58]->Prop:=Zv fun t p=>∃ b,H t=some (.tup [.ref b,p.2])/\H b=some #[182]
theorem Bh:∀ {kvs:List #[58]} {ts:List Zg} {H:Hp} {h:Heap},II H ts kvs->eV P w H h->∃ ps:List #[52],KT H kvs ps/\ps.length=ts.length/\Au (bt P w) h ts ps
 | [],[],_,_,.nil,_=>⟨[],.nil,rfl,fun j t p h=>by simp at h⟩
 | _,_,_,_,.cons (a:=a) (b:=p) (l₁:=ts) (l₂:=kvs) q t,ok=>by
  obtain⟨ps,r1,r2,r3⟩:=Bh t ok
  obtain⟨b,qa,qb⟩:=q
  obtain⟨z,bp,rv,ht⟩:=ok a _ qa
  obtain⟨u,v,rfl,ru,rv'⟩:=Vals.two rv
  cases(show u=WD b from ru)
  refine⟨(p.1,b,v) :: ps,.cons ⟨rfl,qb,rv'⟩ r1,by simp[r2],fun j t' p' h1 h2=>?_⟩
  cases j with
  | zero =>
   simp at h1 h2
   subst h1 h2
   exact⟨pF ok qb,by simpa using ht⟩
  | succ j=>exact r3 j t' p' #[237] #[236]
def iY(acc kvs:List #[58]):List #[58]:=kvs.foldl (fun a p=>putK a p.1 p.2) acc
theorem oq:∀ (kvs acc:List #[58]),(iY acc kvs).length<=acc.length+kvs.length
 | [],acc=>jF _
 | p :: kvs,acc=>by
  have h1:=oq kvs (putK acc p.1 p.2)
  have h2:=iT acc p.1 p.2
  show#[317].length<=_
  rw[jc]
  omega
theorem KT.merge:∀ {kvs:List #[58]} {ps:List #[52]} {acc:List #[58]} {xs:List #[52]},KT H kvs ps->KT H acc xs->KT H (iY acc kvs) (BR xs ps)
 | [],[],_,_,.nil,r=>r
 | p :: kvs,q :: ps,acc,xs,.cons h t,r=>by
  obtain⟨e,hb,rv⟩:=h
  have s:=r.put p.1 hb rv
  rw[e]at s
  have i:=KT.merge t s
  show KT H #[317] (BR (storedH xs q.1 q.2.1 q.2.2) ps)
  rw[e]
  exact i
def SK:List V->Hp->VK->Prop:=fun xs H Q=>∃ l ts kvs,xs=[.ref l]/\H l=some #[204]/\II H ts kvs/\∀ D,H D=none->Q #[103] (upd H D (.dT (iY [] kvs)))
theorem EI(hc:X.calm=true)(hu:X.A.units+2<cLine):lK X #[272] SK:=by
 exists 19
 obtain⟨l,ts,kvs,rfl,hl,hp,q⟩:=h
 exists 31
 cases rx
 obtain⟨z,bp,n,rv,hln,e⟩:=I.HB hl
 have ei:=AX rv
 subst ei
 obtain⟨ps,r1,r2,r3⟩:=Bh hp I.hok
 have hlen:kvs.length=ps.length:=Paired.length r1
 have zl:ps.length<=sizeLine:=by
  rw[r2]
  rw[jQ]at z
  exact z
 refine Ax (knd:=bt X.prog X.w) hu #[137] e r2.symm r3 zl fun h' tk kp dd=>?_
 have ob:bq X.prog X.w (upd H s.heap.objs.size (.dT (iY [] kvs))) h' s.heap.objs.size (.dT (iY [] kvs)):=by
  obtain⟨o,es,ep,h1,h2,h3,h4,_,h5⟩:=dd
  refine⟨?_,beq_eq_false_iff_ne.mpr (Ne.symm (jO I.big)),_,(KT.merge r1 .nil).keeps fun c ys ec=>?_,o,es,ep,h1,h2,h3,h4,h5⟩
  ·have:=oq kvs []
   simp only[Jb]at this
   omega
  ·rw[af (ah ec #[95])]
   exact ec
 exists 43
end
theorem RB{k:Nat}(hr:cI k A):A.units+2<cLine:=by
 have:=hr.un
 omega
end L2
namespace PySem
variable{prog:Zx}{w:World}{A:Around}{E:Value→QA→Prop}{s:QA}{d it:Zg}{es:Array Zl}{ep:Nat}{Q:Option Value→QA→Prop}
section
def B7(h:Heap)(d:Zg)(es:Array Zl)(ep:Nat):Prop := ∃ o,h.get? d=some o/\o.ExactDict/\o.data=.dict es ep
theorem B7.ty(x:B7 s.heap d es ep):s.TypeIs (.ref d) "dict" := let ⟨o,h1,h2,_⟩:=x;⟨o,h1,h2.1⟩
theorem B7.to{h h':Heap}(x:B7 h d es ep)(k:∀ o,h.get? d=some o->h'.get? d=some o):B7 h' d es ep:=let ⟨o,h1,r,r1⟩:=x;⟨o,k _ h1,r,r1⟩
theorem Ht{Q:Value->QA->Prop}(lo:(d==Qe)=false)(x:B7 s.heap d es ep)(q:Q #[25] { s with heap:=s.heap.push { cls:=.type "dict_keyiterator",data:=.fields #[.ref d,.int 0 0,.int es.size 0,.int ep 0] } }):wpAny #[8] A (pyIter (.ref d)) Q E s:=by
 have ty:=x.ty
 obtain⟨ob,g1,g2,g3⟩:=x
 refine qd ty yZ (Qt yZ ty F.entry_dict_iter ?_ (F.args_dict_iter_1 _))
 unfold Builtin.«dict.__iter__» XD
 refine Qq (Qq (qU ty ?_))
 show wpAny _ _ (pure (WD d)) _ _ s
 refine qX ?_
 show wpAny _ _ (Yv d>>=_) _ _ s
 unfold Yv
 rw[if_neg (fun z=>by rw[lo]at z;cases z)]
 refine Qq (qX (Qq (Qv g1 g3 (Qq (Qw g1 g3 ?_)))))
 refine Qq (qR (qX ⟨_,rfl,"dict_keyiterator",_,⟨_,jL _ rfl,rfl⟩,F.slot_dict_keyiterator_next.lookup,?_⟩))
 simpa[rawInt]using q
theorem HH{i:Nat}(y:s.heap.IsKeyIter it d i es.size ep)(x:B7 s.heap d es ep)(hi:i<es.size)(q:∀ h',h'.IsKeyIter it d (i+1) es.size ep->Wh it s.heap h'->Q (some es[i].key) { s with heap:=h' }):wpAny #[8] A (pyNext #[189]) Q E s:=by
 have ty:=y.typeIs
 obtain⟨oi,i1,i2,i3⟩:=id y
 obtain⟨ob,g1,g2,g3⟩:=x
 unfold pyNext
 exists 97
 refine Qq (qX (Qq (Qq ?_)))
 exists 53
 refine Qq (wpAny_fieldsOf i1 i3 ?_)
 have own:YU "dict_keyiterator" = false:=by decide
 simp only[own,JB,if_false]
 show wpAny _ _ (if (WD d==WJ)=true then _ else _) _ _ s
 rw[if_neg #[0]]
 refine Qq (qX (Qq (Qv g1 g3 ?_)))
 rw[if_neg #[11]]
 refine Qq (qX (Qq (Qw g1 g3 ?_)))
 rw[if_neg #[11]]
 refine qX ?_
 simp only[show ¬ ((i:Int)<0)from by omega,if_false,jC,JQ hi]
 refine Qq ?_
 exists 53
 refine Qq (qH ty ?_)
 show wpAny _ _ (setField #[189] 1 (rawInt ((i:Int)+1))>>=_) _ _ s
 refine Qq (qq i1 i3 #[11] ?_)
 have y2:(s.heap.update it #[249]).IsKeyIter it d (i+1) es.size ep:=⟨_,JC _ i1 (Obj.isFreed_of_fields (Obj.data_mapFields i3 _)),(Obj.cls_mapFields ..).trans i2,by rw[Obj.data_mapFields i3];simp[rawInt]⟩
 refine Qq (qF (Qq (qH (s:={ s with heap:=s.heap.update it #[249] }) y2.typeIs ?_)))
 show wpAny _ _ (pure es[i].key) _ _ _
 exact qX (qX ⟨_,rfl,qX (q _ y2 (Wf ..))⟩)
theorem Mh(hh:A.handled=none)(y:s.heap.IsKeyIter it d es.size es.size ep)(x:B7 s.heap d es ep)(q:∀ h',XZ it s.heap h'->Q none { s with heap:=h' }):wpAny #[8] A (pyNext #[189]) Q E s:=by
 have ty:=y.typeIs
 obtain⟨oi,i1,i2,i3⟩:=id y
 obtain⟨ob,g1,g2,g3⟩:=x
 unfold pyNext
 exists 97
 refine Qq (qX (Qq (Qq ?_)))
 exists 53
 refine Qq (wpAny_fieldsOf i1 i3 ?_)
 have own:YU "dict_keyiterator" = false:=by decide
 simp only[own,JB,if_false]
 show wpAny _ _ (if (WD d==WJ)=true then _ else _) _ _ s
 rw[if_neg #[0]]
 refine Qq (qX (Qq (Qv g1 g3 ?_)))
 rw[if_neg #[11]]
 refine Qq (qX (Qq (Qw g1 g3 ?_)))
 rw[if_neg #[11]]
 refine qX ?_
 simp only[show ¬ ((es.size:Int)<0)from by omega,if_false,jC,Array.getElem?_eq_none (jF es.size)]
 refine Qq ?_
 exists 53
 show wpAny _ _ (setField #[189] 0 .none>>=_) _ _ s
 refine Qq (qq i1 i3 #[11] ?_)
 show wpAny _ _ (newExc (.type "StopIteration") []>>=_) _ _ _
 refine Qq ?_
 simp only[newExc,newTuple]
 refine Qq (qR (Qq (m:=firstArgMember _ _) (qV (a:=WJ) (by first|rfl|(simp only[firstArgMember];rfl)) (qR ?_ (by size_fits)))) (by size_fits))
 simp only[raiseNew]
 refine Qq (wpAny_handled ?_)
 rw[show A.in1.handled=none from hh]
 refine(Qq (qX (wpAny_throw ?fin)))
 refine(Qq (qG (T := "StopIteration") (b:=true) ⟨_,(jL _ rfl),rfl⟩ QR ?_))
 exact qX (q _ (((Wf ..).extBut.push _).push _))
theorem Px(hh:A.handled=none)(I d:Zg)(ne:d≠I)(es:Array Zl)(ep:Nat):
  Walks prog w A I [I,d] [I] es.size (fun i v=>∃ hi:i<es.size,v=es[i].key) (fun i h=>h.IsKeyIter I d i es.size ep/\B7 h d es ep) where
 sub:=fun b hb=>by simp at hb;simp[hb]
 frame:=fun _ _ _ st hk=>⟨st.1.at fun o e=>hk I #[11] o e,st.2.to fun o e=>hk d #[11] o e⟩
 item:=fun i s Q E hi st hQ=>HH st.1 st.2 hi fun h' y2 sb=>hQ _ h' s.toks ⟨hi,rfl⟩ ⟨y2,st.2.to fun o e=>sb.extBut d o ne e⟩ fun b o hb e=>sb.extBut b o (fun h=>hb (by simp[h])) e
 done:=fun s Q E st hQ=>Mh hh st.1 st.2 fun h' he=>hQ h' s.toks fun b o hb e=>he b o (fun h=>hb (by simp[h])) e
 self:=fun _ _ _ _ st hQ=>wpAny_pyIter_keyiter st.1 hQ
end
theorem PySem.W.V9(lo:(d==Qe)=false):PySem.W.KdlSrc prog w "dict" d d es.size (fun i v=>∃ hi:i<es.size,v=es[i].key) (fun h=>B7 h d es ep) where
 type:=fun _ x=>x.ty
 there:=fun _ x=>let ⟨_,h1,_,_⟩:=x;⟨jJ h1,jJ h1⟩
 keep:=fun _ _ x hk=>x.to fun o e=>hk d #[62] o e
 notList:=by decide
 notTuple:=by decide
 hint:=fun _ _ _ _ x hq=>PySem.W.kdl_hint_dict x.ty hq
 iter:=fun _ s hh x=>⟨_,_,(fun _ _ q=>Ht lo x q),Px hh _ d (let ⟨_,h1,_,_⟩:=x;jO (jJ h1)) es ep,⟨⟨_,jL _ rfl,rfl,rfl⟩,x.to fun o e=>jB _ e⟩⟩
end PySem
namespace L2
open PySem PySem.Spec PyProof.Rows
variable{X:Cx}{H:Hp}{K:WC}{a f d:Zg}{xs:List V}{ix:List (Option Nat)}{te tl:TE}{σ:St}{Qd:Zg→Hp→Prop}{P prog:Zx}{w:World}{mg:QB→Option Value}{base h:Heap}{CX:FP}{fd:Zo}{ps:List QB}{pins:List (Zg×Obj)}{s:QA}{A:Around}{i:Int}{u:Value}{n:Nat}{o:Obj}{kvs:List (List Key×V)}{tg l:Expr}{E:Value→QA→Prop}{pos:Pos}
section
def FV(H:Hp):List Zg->List #[58]->Prop:=Zv fun b p=>H b=some #[182]
theorem KT.keys:∀ {kvs:List #[58]} {xs:List #[52]},KT H kvs xs->FV H #[287] kvs
 | [],[],.nil=>.nil
 | _ :: _,_ :: _,.cons h t=>.cons h.2.1 (KT.keys t)
def ace:List V->Hp->VK->Prop:=fun xs H Q=>∃ p kvs,xs=[.ref p]/\H p=some #[179]/\∀ l bs,H l=none->FV H bs kvs->Q (.ref l) (upd H l (.lst (bs.map V.ref)))
theorem IQ(hc:X.calm=true):lK X #[273] ace:=by
 exists 19
 obtain⟨p,kvs,rfl,hp,q⟩:=h
 exists 31
 cases rx
 obtain⟨hz,lo,xs,kt,o,es,ep,h1,h2,h3,h4,h5⟩:=(show bq X.prog X.w H s.heap p #[179]from I.hok p _ hp)
 exists 132
 have sz:es.size=xs.length:=by
  have:=congrArg Jj h4
  rw[jQ]at this
  simpa using this
 refine yX (PySem.W.V9 (es:=es) (ep:=ep) lo) #[137] ⟨o,h1,h2,h3⟩ (by rw[sz,<- hlen];exact hz) fun h' tk acc c' kp e wW=>?_
 have ea:acc.toList=#[287].map WD:=by
  refine List.ext_getElem? fun j=>?_
  rcases JT j es.size with hj|hj
  ·have hja:j<acc.size:=by rw[wW.1];exact hj
   obtain⟨hi,ev⟩:=wW.2 j acc[j] (JQ hja)
   have ek:es[j]=entryOfKey (Qf #[154]) (xs[j]'#[167]):=by
    have:=congrArg (fun l=>l[j]?) h4
    simp only[JR,jP]at this
    rw[JQ hj,jA #[167]]at this
    exact Option.some.inj this
   rw[JR,JQ hja,ev,ek,jP,jP,jA #[167]]
   rfl
  ·rw[Jf (by rw[jx,wW.1];exact hj),Jf (by rw[jQ,jQ,<- sz];exact hj)]
 have rv:∀ bs:List Zg,Vals (bs.map V.ref) (bs.map WD):=fun bs=>by
  induction bs with
  | nil=>exact .nil
  | cons b bs ih=>exact .cons rfl ih
 have ob:bq X.prog X.w (upd H s.heap.objs.size (.lst (#[287].map V.ref))) h' s.heap.objs.size (.lst (#[287].map V.ref)):=by
  refine⟨by rw[jQ,jQ,<- hlen];exact hz,acc.toList,c',by rw[ea];exact rv _,?_⟩
  rw[ZC]
  exact e
 exact⟨.ref _,_,I.laid (t' := tk) kp (jF _) ob,rfl,q _ _ #[95] (KT.keys kt)⟩
end
theorem IX{g:TG}(Pv:Zg->Nat->List V->Hp->Prop)(hg:∀ (T:Zg) (σ:St) (H:Hp) (Q:St->Hp->Prop) (i:Int) (x:V),H T=some #[178]->Q ((σ.set 0 (some (.int i))).set 1 (some x)) H->g (.ref T) σ H Q)(h0:∀ D,H D=none->Pv D 0 [] #[84])(hl:∀ D i ys H',i<=xs.length->Pv D i ys H'->pZ K H' a xs)(hs:∀ D i x ys H' T (Q':VK),H D=none->xs[i]?=some x->H' D=some #[203]->Pv D i ys H'->H' T=none->#[7] ->
   te (#[277].set 1 (some x)) (upd H' T #[178]) Q')(hd:∀ D ys H',H D=none->H' D=some #[203]->Pv D xs.length ys H'->Qd D H'):wq (Oa K a) ix g te σ H Qd:=by
 refine IW (n:=xs.length) (item:=fun i=>xs.getD i .non) Pv hg h0 (fun D i ys H' hi p=>?_) (fun D ys H' p=>⟨xs,hl D _ ys H' (jF _) p,jF _⟩) (fun D i ys H' T Q' hD hi hy p hT k=>?_) hd
 ·have q:=hl D i ys H' (Jv hi) p
  refine⟨⟨xs,xs[i],q,jA hi⟩,fun x H2 y=>?_⟩
  obtain⟨T,x0,rfl,hT,rfl,y⟩:=y
  have e:=y xs q
  exists T,rfl,hT
  show _=upd H' T (.tup [.int i,xs.getD i .non])
  rw[jN,e]
  rfl
 ·have e:xs.getD i .non=xs[i]:=by rw[jN,jA hi];rfl
  show te (#[277].set 1 (some (xs.getD i .non))) (upd H' T (.tup [.int i,xs.getD i .non])) Q'
  rw[e]
  exact hs D i xs[i] ys H' T Q' hD (jA hi) hy p hT k
theorem bu.or{k:Nat}{sp sp':Sp}(F:bu P w K mg base CX k f fd ps sp)(F':bu P w K mg base CX k f fd ps sp'):
  bu P w K mg base CX k f fd ps (fun vs H Q E=>sp vs H Q E\/sp' vs H Q E):=
 ⟨fun vs H Q E q=>q.elim (F.len vs H Q E) (F'.len vs H Q E),fun A outer s H args us vs Q E hr he hb hv hs=>hs.elim (F.run A outer s H args us vs Q E hr he hb hv) (F'.run A outer s H args us vs Q E hr he hb hv)⟩
def PB(K:WC)(H:Hp):Nat->V->V->Prop
 | 0,x,y=>∃ i:Int,x=.int i/\y=.int i
 | n+1,x,y=>(∃ i:Int,x=.int i/\y=.int i)\/∃ a b xs ys,x=.ref a/\y=.ref b/\sZ K H a xs/\sZ K H b ys/\Zv (PB K H n) xs ys
theorem AK{α β:Type}{F:α->β->Prop}:∀ {xs:List α} {ys:List β} {j:Nat} (h1:j<xs.length) (h2:j<ys.length),Zv F xs ys->F xs[j] ys[j]
 | _,_,j,h1,_,.nil=>absurd h1 (zN _)
 | _,_,0,_,_,.cons a _=>a
 | _,_,j+1,h1,h2,.cons _ t=>AK (j:=j) #[237] #[236] t
section
theorem Mi{v:Value}(ru:RelV (.int i) u)(rv:RelV (.int i) v):Ya A s u v true:=by
 obtain⟨t,rfl⟩:=(show ∃ t,u=WQ i t from ru)
 obtain⟨t',rfl⟩:=(show ∃ t,v=WQ i t from rv)
 have z:=yL (A:=A) (s:=s) i t i t'
 rw[beq_self_eq_true]at z
 exact z
theorem Mj(ih:∀ {A:Around} {x y:V} {u v:Value},A.units+n<cLine->PB X.K H n x y->RelV x u->RelV y v->Ya A s u v true){b:Zg}{ys:List V}(I:Inv X pins σ H s)(hu:A.units+(n+1)<cLine)(ha:sZ X.K H a xs)(hb:sZ X.K H b ys)(p:Zv (PB X.K H n) xs ys):SeqAt.RcAt A s #[75] (.ref b) true:=by
 obtain⟨bp,r1,p1,_⟩:=I.tuple ha
 obtain⟨jts,r2,p2,_⟩:=I.tuple hb
 have l1:=r1.length
 have l2:=r2.length
 have l3:=p.length
 have q:=yT (A:=A) (e:=fun _=>true) p1 p2 #[2] fun j h1 h2=>by
  have j1:j<xs.length:=by simp at h1;omega
  have j2:j<ys.length:=by omega
  obtain⟨u1,e1,q1⟩:=r1.get (i:=j) (x:=xs[j]) (by simp[j1])
  obtain⟨u2,e2,q2⟩:=r2.get (i:=j) (x:=ys[j]) (by simp[j2])
  have g1:bp.toArray[j]=u1:=by
   have:=(jf.mp e1).2
   simpa using this
  have g2:jts.toArray[j]=u2:=by
   have:=(jf.mp e2).2
   simpa using this
  rw[g1,g2]
  exact ih (show A.units+1+n<cLine by omega) (AK j1 j2 p) q1 q2
 have e:((jn (min bp.toArray.size jts.toArray.size)).all (fun _=>true)&&bp.toArray.size==jts.toArray.size)=true:=by
  simp
  omega
 rw[e]at q
 exact q
theorem PB.at(I:Inv X pins σ H s):∀ (n:Nat) {A:Around} {x y:V} {u v:Value},A.units+n<cLine->PB X.K H n x y->RelV x u->RelV y v->Ya A s u v true
 | 0,A,x,y,u,v,_,h,ru,rv=>by
  obtain⟨i,rfl,rfl⟩:=h
  exact Mi ru rv
 | n+1,A,x,y,u,v,hu,h,ru,rv=>by
  rcases h with⟨i,rfl,rfl⟩|⟨a,b,xs,ys,rfl,rfl,ha,hb,p⟩
  ·exact Mi ru rv
  ·cases ru
   cases rv
   by_cases e:a=b
   ·subst e;exact yf _
   ·exact yM e (Mj #[280] I hu ha hb p)
theorem Sg(n:Nat)(hu:X.A.units+(n+1)<cLine):Ew X (QN .Eq) (fun x y H Q=>∃ a b xs ys,x=.ref a/\y=.ref b/\sZ X.K H a xs/\sZ X.K H b ys/\Zv (PB X.K H n) xs ys/\Q (.bl true) H):=by
 intro pins s σ H x y v u Q I r1 r2 h
 obtain⟨a,b,xs,ys,rfl,rfl,ha,hb,e,q⟩:=h
 cases r1
 cases r2
 exact Mj #[280] I hu ha hb e X.prog X.w X.xe _ ⟨.bl true,H,I,rfl,q⟩
end
theorem RC{k:Nat}(hr:cI k A):A.units+3<cLine:=by
 have:=hr.un
 omega
section
open Classical in
noncomputable def isR(H:Hp)(ns:List Int)(u:Value):Bool:=decide (∃ b,u=WD b/\H b=some (.tup #[45]))
end
section
theorem Inv.T4(I:Inv X pins σ H s)(e:H a=some #[179])(ho:s.heap.get? a=some o):Inv X pins σ (upd H a (.oN o #[179])) s:=by
 have nt:∀ b u,H b=some u->(u=.dT kvs->False)->b≠a:=fun b u q d=>aF q e d
 exists 12
 ·rw[af (fun z=>by rw[z,e]at n;cases n)];exact n
 ·exists 92
 ·exists 92
 ·rw[af (nt b _ q #[0]),q];simp
 ·by_cases hb:b=a
  ·subst hb
   rw[ae]at q
   cases q
   exists ho
   exact(I.hok b _ e).rn (fun c v _ z=>z) (fun c z=>by rw[af (nt c _ z (by intro y;cases y))];exact z) fun c xs z=>by rw[af (nt c _ z (by intro y;cases y))];exact z
  ·rw[af hb]at q
   exists 20
end
def aa1(a:Zg)(o:Obj)(kvs:List #[58]):It:=
 ⟨fun i H=>i<kvs.length/\H a=some (.oN o #[179]),fun i H x H'=>H'=H/\∃ b,x=.ref b/\∀ p,kvs[i]?=some p->H b=some #[182],fun i H=>i=kvs.length/\H a=some (.oN o #[179])⟩
theorem AV(ok:eV P w H h)(e:H a=some (.oN o #[179])):∃ (bs:List Zg) (es:Array Zl),B7 h a es (lS o)/\(a==Qe)=false/\h.get? a=some o/\es.size=kvs.length/\bs.length=kvs.length/\FV H bs kvs/\∀ (j:Nat) (hj:j<es.size) (hb:j<bs.length),es[j].key=.ref bs[j]:=by
 obtain⟨ho,z,lo,xs,kt,ob,es,ep,h1,h2,h3,h4,h5⟩:=ok a _ e
 rw[ho]at h1
 cases h1
 have ee:lS o=ep:=by unfold lS;rw[h3]
 exists 132
 have sz:es.size=xs.length:=by
  have:=congrArg Jj h4
  rw[jQ]at this
  simpa using this
 refine⟨xs.map fun q=>q.2.1,es,⟨o,ho,h2,by rw[ee];exact h3⟩,lo,ho,by omega,by rw[jQ];omega,KT.keys kt,fun j hj hb=>?_⟩
 have ek:es[j]=entryOfKey (Qf (bt P w)) (xs[j]'#[167]):=by
  have:=congrArg (fun l=>l[j]?) h4
  simp only[JR,jP]at this
  rw[JQ hj,jA #[167]]at this
  exact Option.some.inj this
 rw[ek,JV]
 rfl
theorem LH(a it:Zg)(o:Obj)(kvs:List #[58]):Turn P w K tg (aa1 a o kvs) [it] it #[332] where
 mem:=by simp
 obj:=fun i h st b hb=>by
  exists 73
  subst e
  obtain⟨o,e,c,d⟩:=st
  exists 42
 keep:=fun i h h' st k=>by
  obtain⟨ob,e,r⟩:=st
  exact⟨ob,k it #[11] ob e,r⟩
 item:=by
  exists 1
  exists 161
  obtain⟨hi,Ri⟩:=hg
  obtain⟨bs,es,dat,lo,ho,sz,lb,kt,hk⟩:=AV I.hok Ri
  exists 3
  rw[<- sz]at st
  refine HH st dat #[2] fun h' FN sb=>?_
  exists 7
  rw[sz]at FN
  obtain⟨ob,e,c,d⟩:=id FN
  refine⟨_,rfl,Hi (s:={ s with heap:=h' }) e c d #[18] ⟨.ref (bs[i]'#[2]),H,I1,?_,⟨rfl,_,rfl,fun p' OL=>?_⟩,FN,fun b hb=>(hf b hb).1⟩⟩
  ·rw[hk i #[2] #[2]]
   rfl
  ·have:=AK (j:=i) #[2] hi kt
   rw[jA hi]at OL
   cases OL
   exact this
 done:=by
  exists 1
  exists 161
  obtain⟨hi,Ri⟩:=hg
  obtain⟨bs,es,dat,lo,ho,sz,lb,kt,hk⟩:=AV I.hok Ri
  exists 3
  subst hi
  rw[<- sz]at st
  exact Mh #[137] st dat fun h' eb=>⟨rfl,I.turned (t' := s.toks) #[87] f0 f1 f3 f4 f5⟩
 self:=fun A i s Q E st h=>by
  refine qd st.typeIs WY (Qt WY st.typeIs YB ?_ (YA _))
  show wpAny _ _ (ret #[189]) _ _ s
  exists 70
section
def abG(tl:TE):TI:=fun σ H R=>tl σ H fun x H1=>∃ a kvs,x=.ref a/\H1 a=some #[179]/\∀ o,R (aa1 a o kvs) (upd H1 a (.oN o #[179]))
theorem Sv(hl:PE X l tl):PI X tg l (abG tl):=by
 exists 134
 exists 23
 obtain⟨a,kvs,e,hd,q⟩:=q1
 subst e
 cases r1
 obtain⟨z,lo0,xs,kt0,ob,es0,ep,hg,rest⟩:=I1.hok a _ hd
 have I2:=I1.T4 hd hg
 obtain⟨bs,es,dat,lo,ho,sz,lb,kt,hk⟩:=AV I2.hok ae
 refine Ht lo dat ?_
 refine⟨s1.heap.objs.size,[s1.heap.objs.size],_,_,_,rfl,I2.kept (t' := s1.toks) fun b o e=>jB _ e,LH a _ ob kvs,⟨_,jL _ rfl,rfl,by rw[sz];rfl⟩,fun b hb=>?_,q ob⟩
 exists 58
 subst e
 exists 155
end
theorem IV(Pv:Zg->Nat->List V->Hp->Prop)(h0:∀ D,H D=none->Pv D 0 [] #[84])(hl:∀ D i ys H',i<=kvs.length->Pv D i ys H'->H' a=some (.oN o #[179]))(hs:∀ D i p b ys H' (Q':VK),H D=none->kvs[i]?=some p->H' b=some #[182]->H' D=some #[203]->Pv D i ys H'->#[7] ->
   te (#[107].set 0 (some (.ref b))) H' Q')(hd:∀ D ys H',H D=none->H' D=some #[203]->Pv D kvs.length ys H'->Qd D H'):wq (aa1 a o kvs) ix (bC 0) te σ H Qd:=by
 intro D hD
 exists 10
 exists 48
 have q:=hl D i ys H' hi p
 by_cases fu:i<kvs.length
 ·refine .inr ⟨⟨fu,q⟩,fun x H2 y=>?_⟩
  obtain⟨e1,b,rfl,e2⟩:=y
  subst e1
  have ex:=e2 kvs[i] (jA fu)
  have es:σ'.set 0 (some (.ref b))=#[107].set 0 (some (.ref b)):=by
   exists 158
   ·rw[z]
   ·rw[z,Jx]
  show te (σ'.set 0 (some (.ref b))) _ _
  rw[es]
  refine hs D i kvs[i] b ys _ _ hD (jA fu) ex hy p fun y H4 h4 hz p4=>⟨ys,h4,hz,kvs.length-(i+1),by omega,rfl,fu,.inr ⟨_,rfl⟩,ys++[y],ae,p4⟩
 ·have e:i=kvs.length:=by omega
  subst e
  exact .inl ⟨⟨rfl,q⟩,hd D ys H' hD hy p⟩
def acx(N4:List (TE×TE)):TE:=fun σ H Q=>∀ p,H p=none->Fx N4 σ (upd H p (.dT [])) fun ps H2=>H2 p=some (.dT [])/\∃ b k y,ps=[(.ref b,y)]/\H2 b=some #[226]/\Q (.ref p) (upd H2 p (.dT [(k,y)]))
theorem Pm{r:Value}{Q:PUnit->QA->Prop}(h:wpAny #[8] A (dictSet d u r) (fun _ s'=>Q PUnit.unit s') E s):wpAny #[8] A (storeAll d [(u,r)]) Q E s:=by
 unfold storeAll
 simp only[zp,Zb]
 exact Qq (Qq (qO h (fun _ s' q=>qX (qX q)) fun _ _ e=>e))
theorem HQ{k v:Expr}{N4:List (TE×TE)}(hu:X.A.units+1<cLine)(h:PPs X pos [some k] [v] N4):PE X (.Dict [some k] [v] pos) (acx N4):=by
 intro pins s σ H Q I q
 have hn:=I.hok.fresh (jF s.heap.objs.size)
 have I1:=I.laid (a:=s.heap.objs.size) (o:=.dT []) (h' := s.heap.push { cls:=.type "dict",data:=.dict #[] }) (t' := s.toks) (fun _ _ q=>jB _ q) (jF _) (Q1 s.heap I.big)
 refine wpAny_Dict_any rfl rfl #[0] (by show 1<=15;decide) (cf (h pins _ σ _ _ I1 (q _ hn)) fun ws s2 ⟨ps,H2,I2,rel,e,b,kk,y,ep,hb,q2⟩=>?_)
 subst ep
 obtain⟨u,rr,hws,ru,ry⟩:∃ u rr,ws=[(u,rr)]/\RelV (.ref b) u/\RelV y rr:=by
  cases rel with
  | cons r t =>
   cases t
   exact⟨_,_,rfl,r.1,r.2⟩
 subst hws
 have eu:u=WD b:=ru
 subst eu
 obtain⟨z,hd,xs,rl,dd⟩:=Q2 I2.hok e
 cases rl
 refine Pm (Qx (hsz:=by decide) (show X.A.units<cLine by omega) (pF I2.hok hb) dd fun h' FH hs=>⟨.ref s.heap.objs.size,_,?_,rfl,q2⟩)
 obtain⟨q',es,ep,hq,h2,h3,h4,_,h5⟩:=FH
 refine pB I2 #[68] hs ⟨q',hq⟩ ⟨by show 1<=sizeLine;decide,hd,_,(KT.put (H:=H2) (kvs:=[]) (xs:=[]) .nil kk hb ry).keeps fun c ys ec=>?_,q',es,ep,hq,h2,h3,h4,h5⟩
 rw[af (aF ec e #[48])]
 exact ec
end L2
namespace PySem
variable{prog:Zx}{w:World}{A:Around}{E Q:Value→QA→Prop}{s:QA}{d:Zg}{n:Nat}
theorem DC(d:Zg)(n:Nat)(hd:(d==Qe)=false):
  MeetsIn prog w (Builtin.«dict.__len__» { pos:=[WD d] }) fun _ R s=>(∃ o es ep,s.heap.get? d=some o/\o.data=Data.dict es ep/\es.size=n)/\R (.ok (.ret (WQ (n:Int) s.toks))) { s with toks:=s.toks+1 }:=
 MeetsIn.of_wp fun A R s ⟨⟨o,es,ep,h1,h2,h3⟩,h⟩=>by
  show wpAny #[8] A.in1 (do
   let n1 <- dictSize d
   let n2 <- XE d
   retInt ((n1:Int)+(n2:Int))) _ _ _
  refine Qq (Qq (Qv h1 h2 (qX (Qq (wpAny_pendingCount_other hd (qh ?_))))))
  rw[Nat.add_zero,h3]
  exact h
theorem Mw(hd:(d==Qe)=false)(ty:s.TypeIs (.ref d) "dict")(hx:∃ o es ep,s.heap.get? d=some o/\o.data=Data.dict es ep/\es.size=n)(amM:(n:Int)<2^63)(h:Q (WQ (n:Int) (s.toks+1)) { s with toks:=s.toks+1+1 }):
  wpAny #[8] A (call (WT "len") [WD d]) Q E s:=by
 refine Calls.call_function_entry kind_len plain_len entry_len (args_len1 (WD d)) ?_
 show wpAny _ _ _ _ _ _
 refine Qq (qX (Qq (Qs ty yg (QG yg ty F.entry_dict_len (F.args_dict_len_1 _) (DC d n hd) ⟨hx,?_⟩))))
 show wpAny _ _ _ _ _ _
 refine Qq (qF (qX (Qq (wpAny_letGo ?_))))
 show wpAny _ _ (if _ then _ else _) _ _ _
 rw[if_neg #[2]]
 show wpAny _ _ (if _ then _ else _) _ _ _
 rw[if_neg #[2]]
 exact Qq (wpAny_mkInt (qX ⟨_,rfl,h⟩))
end PySem
namespace L2
open PySem PySem.Spec PyProof.Rows
variable{X:Cx}
theorem DQ:lK X #[206] (fun xs H Q=>∃ a kvs,xs=[.ref a]/\H a=some #[179]/\Q (.int kvs.length) H):=by
 exists 19
 obtain⟨a,kvs,rfl,ha,q⟩:=h
 exists 31
 cases rx
 obtain⟨hz,lo,xs,kt,o,es,ep,h1,h2,h3,h4,h5⟩:=(show bq X.prog X.w H s.heap a #[179]from I.hok a _ ha)
 exists 132
 have sz:es.size=xs.length:=by
  have:=congrArg Jj h4
  rw[jQ]at this
  simpa using this
 have dd:=(Q2 I.hok ha).2.2
 obtain⟨xs',_,dd⟩:=dd
 exact Mw lo dd.typeIs ⟨o,es,ep,h1,h3,by rw[sz,<- hlen]⟩ (by rw[QZ]at hz;omega) ⟨.int kvs.length,H,I.tok _,⟨_,rfl⟩,q⟩
end L2
namespace PySem
variable{prog:Zx}{w:World}{A:Around}{E:Value→QA→Prop}{s:QA}{n m:Nat}{a:Zg}{o:Obj}{items:Array Value}{i:Int}
section
theorem Ef{Q:Bool->QA->Prop}(hT:s.TypeIs #[75] "tuple")(ho:s.heap.get? a=some o)(hd:o.data=.seq items m)(hq:∀ y∈items.toList,∀ Q:Bool->QA->Prop,Q true s->wpAny #[8] A (eqIsQuiet n y) Q E s)(h:Q true s):wpAny #[8] A (eqIsQuiet (n+1) #[75]) Q E s:=by
 rw[eqIsQuiet.eq_def]
 refine Qq (qv hT F.slot_tuple_eq.lookup ?_)
 refine Qq (qG hT isSubtype_tuple_tuple ?_)
 simp only[ZF,JB,if_false]
 refine Qq (qp ho hd ?_)
 refine Qq ?_
 show wpAny _ _ (forIn items _ _) _ _ _
 rw[<- ZO]
 refine wpAny_forIn_list _ (fun rest r s'=>r.fst=none/\s'=s/\∀ y∈rest,y∈items.toList) _ ?_ ?_ _ _ ⟨rfl,rfl,fun y hy=>hy⟩
 ·rintro v rest ⟨r1,r2⟩ s' ⟨hr,rfl,OG⟩
  refine Qq (hq v (OG v jE) _ ?_)
  simp only[ZF,JB,if_false]
  exact qX ⟨rfl,rfl,fun y hy=>OG y (jK _ hy)⟩
 ·rintro⟨r1,r2⟩ s' ⟨hr,rfl,_⟩
  cases(show r1=none from hr)
  exact qX h
theorem LS{Q:Int->QA->Prop}(h:Q (reduceHash i) s):wpAny #[8] A (pyHashByItsType.reduced i) Q E s:=by
 unfold pyHashByItsType.reduced
 unfold reduceHash at h
 by_cases c:(decide (-2^63<=i)&&decide (i<2^63))=true
 ·rw[if_pos c]
  rw[if_pos c]at h
  exact qX h
 ·rw[if_neg c]
  rw[if_neg c]at h
  exact Qq (qj (qX h))
theorem OH{u v:Value}{hu hv:Int}{du dv:Nat}{Q:Int->QA->Prop}(hr:A.units<cLine)(hT:s.TypeIs #[75] "tuple")(ho:s.heap.get? a=some o)(hd:o.data=.seq #[u,v] m)(h1:∀ (E:Value->QA->Prop) (t:Nat) (Q:Int->QA->Prop),Q hu { s with toks:=t+du }->wpAny #[8] A.in1 (pyHash u) Q E { s with toks:=t })(h2:∀ (E:Value->QA->Prop) (t:Nat) (Q:Int->QA->Prop),Q hv { s with toks:=t+dv }->wpAny #[8] A.in1 (pyHash v) Q E { s with toks:=t })(h:Q (reduceHash (Wz [hu,hv])) { s with toks:=s.toks+(du+dv+1) }):wpAny #[8] A (pyHash #[75]) Q E s:=by
 show wpAny _ _ (pyHashByItsType #[75]) _ _ _
 unfold pyHashByItsType
 refine Qq (wpAny_cRoomFor_or (.inr hr) (Qq (qv hT F.slot_tuple_hash.lookup ?_)))
 rw[if_neg (by rw[beq_builtin_none "tuple.__hash__"];exact je)]
 refine Qq (qv hT F.slot_tuple_hash.lookup ?_)
 refine Qq (wpAny_callSpecialIfBoundUnlessNone?_slot hT yU (Qt yU hT F.entry_tuple_hash ?_ (F.args_tuple_hash_1 _)))
 show wpAny #[8] A.in1 (do
  let xs <- yo #[75]
  let hs <- forIn xs #[] fun x hs=>do
   let i <- pyHash x
   pure (ForInStep.yield (hs.push i))
  retInt (Wz hs.toList)) _ _ _
 refine Qq (wpAny_tupleItemsOf ho hd (Qq ?_))
 rw[<- ZO]
 simp only[zp,Zb]
 refine Qq (Qq (h1 _ s.toks _ (qX ?_)))
 refine Qq (Qq (h2 _ _ _ (qX (qX ?_))))
 refine qh ?_
 have e:s.toks+du+dv+1=s.toks+(du+dv+1):=by omega
 show wpAny _ _ (pyHashByItsType.reduced _) _ _ { s with toks:=s.toks+du+dv+1 }
 rw[e]
 exact LS h
end
end PySem
namespace L2
open PySem PySem.Spec PyProof.Rows
variable{P:Zx}{w:World}{h:Heap}{c a d b C:Zg}{bp:List Value}{ns:List Int}{xs ys:Array Value}{o:Obj}{es:Array Zl}{ep n i:Nat}{A:Around}{E:Value→QA→Prop}{s:QA}{y:Value}{H H':Hp}{X:Cx}{pins:List (Zg×Obj)}{σ:St}{pos pos':Pos}{x:QB}{ps:List QB}{fY:List V}{sp:Sp}{e:Expr}{st b₀:Stmt}{body Tc:List Stmt}{ts:TS}
theorem Hs:∀ {ns:List Int} {bp:List Value},Zq bp ns->PySem.ItemsAre (QP P w) ns bp
 | _,_,.nil=>.nil
 | _,_,.cons n t r=>.cons (QQ P w n t) (Hs r)
def rF(h:Heap)(k:Int×List Int)(a:Zg):Prop := ∃ (t:Tok) (c:Zg) (bp:List Value),h.IsTuple a #[.int k.1 t,.ref c]/\h.IsTuple c bp.toArray/\Zq bp k.2
theorem rF.tk(p:h.IsTuple c bp.toArray)(q:Zq bp ns):Zs (QP P w) h ns c:=by
 obtain⟨o,h1,h2,n,h3⟩:=p
 exact⟨o,bp.toArray,n,h1,h2,h3,by simpa using Hs q⟩
theorem sM(p:h.IsTuple a xs)(q:h.IsTuple a ys):xs=ys:=by
 obtain⟨o,h1,_,n,h3⟩:=p
 obtain⟨o',Cv,_,n',h3'⟩:=q
 rw[h1]at Cv
 cases Cv
 rw[h3]at h3'
 cases h3'
 rfl
theorem Bn{h':Heap}(p:h.IsTuple a xs)(ho:h.get? d=some o)(hd:o.data=Data.dict es ep)(hs:Wh d h h'):h'.IsTuple a xs:=by
 obtain⟨o',h1,h2,n,h3⟩:=p
 have ne:a≠d:=fun z=>by
  subst z
  rw[h1]at ho
  cases ho
  rw[h3]at hd
  cases hd
 exact⟨o',(hs.2 a ne).trans h1,h2,n,h3⟩
theorem Cz:∀ {bp:List Value} {ns ms:List Int},Zq bp ns->Zq bp ms->ns=ms
 | _,_,_,.nil,.nil=>rfl
 | _,_,_,.cons n t r,.cons _ _ r'=>by rw[Cz r r']
theorem RD(h:Zq bp ns):∀ y∈bp,carriedByValue y=true:=by
 induction h with
 | nil=>intro y hy;cases hy
 | cons n t r ih =>
  intro y hy
  rcases jW.mp hy with rfl|z
  ·rfl
  ·exact ih y z
theorem Eg(hy:carriedByValue y=true)(Q:Bool->QA->Prop)(h:Q true s):wpAny #[97] A (eqIsQuiet n y) Q E s:=by
 rw[eqIsQuiet_byValue n hy]
 exact qX h
theorem X0{x y:Int×List Int}(hr:A.units+1<cLine)(hx:rF s.heap x a)(hy:rF s.heap y b):Ya A s #[75] (.ref b) (decide (x=y)):=by
 obtain⟨t,c,bp,p1,p2,p3⟩:=hx
 obtain⟨t',c',its',q1,q2,q3⟩:=hy
 by_cases e:a=b
 ·subst e
  have z:=sM p1 q1
  have z1:x.1=y.1/\c=c' := by
   have:=congrArg zC z
   simp only[List.cons.injEq,yh,yi,and_true]at this
   exact⟨this.1.1,this.2⟩
  obtain⟨z1,rfl⟩:=z1
  have z2:=sM p2 q2
  have z3:bp=its' := by simpa using congrArg zC z2
  subst z3
  rw[decide_eq_true (Prod.ext z1 (Cz p3 q3))]
  exact yf _
 ·have tup:Ya A.in1 s (.ref c) (.ref c') (decide (x.2=y.2)):=fun prog w E Q h=>wpAny_eqBool_tuple (knd:=QP prog w) (by show A.units+1<cLine;exact hr) (rF.tk p2 p3) (rF.tk q2 q3) h
  have z:=yT (A:=A) (e:=fun j=>if j=0 then x.1==y.1 else decide (x.2=y.2)) p1 q1 #[2] fun j h1 h2=>by
   have:j<2:=h1
   match j,this with
   | 0,_=>exact yL _ _ _ _
   | 1,_=>exact tup
  have e2:((jn (min (#[WQ x.1 t,WD c]).size (#[WQ y.1 t',WD c']).size)).all (fun j=>if j=0 then x.1==y.1 else decide (x.2=y.2))&&(#[WQ x.1 t,WD c]).size==(#[WQ y.1 t',WD c']).size)=decide (x=y):=by
   show(((x.1==y.1)&&(decide (x.2=y.2)&&true))&&true)=decide (x=y)
   rw[Zd,Zd]
   by_cases c1:x.1=y.1
   ·by_cases c2:x.2=y.2
    ·rw[decide_eq_true c2,decide_eq_true (Prod.ext c1 c2),c1,beq_self_eq_true];rfl
    ·rw[decide_eq_false c2,zy,decide_eq_false (show ¬ x=y from fun z=>c2 (by rw[z]))]
   ·rw[beq_false_of_ne c1,zx,decide_eq_false (show ¬ x=y from fun z=>c1 (by rw[z]))]
  rw[e2]at z
  exact yM e z
def HG(P:Zx)(w:World):HeapKind P w (Int×List Int) where
 is:=rF
 hash:=fun k=>reduceHash (Wz [(QP P w).hash k.1,tupleKeyHash (QP P w) k.2])
 draws:=fun k=>1+(k.2.length+1)+1
 room:=fun A=>A.units+1<cLine
 inj:=fun {h a x y} hx hy=>by
  obtain⟨t,c,bp,p1,p2,p3⟩:=hx
  obtain⟨t',c',its',q1,q2,q3⟩:=hy
  have z:=sM p1 q1
  have z1:x.1=y.1/\c=c' := by
   have:=congrArg zC z
   simp only[List.cons.injEq,yh,yi,and_true]at this
   exact⟨this.1.1,this.2⟩
  obtain⟨z1,rfl⟩:=z1
  have z2:=sM p2 q2
  have z3:bp=its' := by simpa using congrArg zC z2
  subst z3
  exact Prod.ext z1 (Cz p3 q3)
 keeps:=fun {h h' k a d o es ep} x ho hd hs=>by
  obtain⟨t,c,bp,p1,p2,p3⟩:=x
  exact⟨t,c,bp,Bn p1 ho hd hs,Bn p2 ho hd hs,p3⟩
 pyHash:=fun {A E s k a Q} hr hk h=>by
  obtain⟨t,c,bp,p1,p2,p3⟩:=hk
  have hT:s.TypeIs #[75] "tuple" := by obtain⟨o,h1,h2,_⟩:=p1;exact⟨o,h1,h2⟩
  obtain⟨o,h1,h2,m,h3⟩:=p1
  refine OH (du:=1) (dv:=k.2.length+1) #[2] hT h1 h3 (fun E t' Q hq=>(QP P w).pyHash (QQ P w k.1 t) hq) (fun E t' Q hq=>wpAny_pyHash_tuple (knd:=QP P w) (s:={ s with toks:=t' }) (by show A.units+1<cLine;exact hr) (rF.tk p2 p3) hq) h
 eqBool:=fun {A E s x y a b Q} hr hx hy h=>X0 hr hx hy P w E Q h
 quiet:=fun {A E s k a Q} hk h=>by
  obtain⟨t,c,bp,p1,p2,p3⟩:=hk
  obtain⟨o,h1,h2,m,h3⟩:=p1
  obtain⟨o',g1,g2,m',g3⟩:=p2
  refine Ef (n:=7) ⟨o,h1,h2⟩ h1 h3 (fun y hy Q hq=>?_) h
  have hy':y=.int k.1 t\/y=.ref c:=by simpa using hy
  rcases hy' with rfl|rfl
  ·exact Eg rfl Q hq
  ·exact Ef (n:=6) ⟨o',g1,g2⟩ g1 g3 (fun y hy Q hq=>Eg (RD p3 y (by simpa using hy)) Q hq) hq
abbrev NK:=Int×List Int
def NumV:Nat->List (NK×Zg)->List (NK×Zg×Value)->Prop
 | _,[],xs=>xs=[]
 | n,p :: ks,xs=>∃ t xs',xs=(p.1,p.2,.int n t) :: xs'/\NumV (n+1) ks xs'
theorem NumV.snoc{k:NK}{b:Zg}{t:Tok}:∀ {ks:List (NK×Zg)} {n:Nat} {xs:List (NK×Zg×Value)},NumV n ks xs->NumV n (ks++[(k,b)]) (xs++[(k,b,.int ((n+ks.length:Nat):Int) t)])
 | [],n,xs,h=>by
  cases(show xs=[]from h)
  exact⟨t,[],rfl,rfl⟩
 | p :: ks,n,xs,h=>by
  exists 154
  exists t',_,rfl
  have:=NumV.snoc (k:=k) (b:=b) (t:=t) h'
  rw[show n+1+ks.length=n+(p :: ks).length by rw[jc];omega]at this
  exact this
theorem NumV.keys:∀ {ks:List (NK×Zg)} {n:Nat} {xs:List (NK×Zg×Value)},NumV n ks xs->xs.map (fun x=>(x.1,x.2.1))=ks
 | [],n,xs,h=>by cases(show xs=[]from h);rfl
 | p :: ks,n,xs,h=>by
  exists 154
  rw[JE,NumV.keys h']
theorem NumV.none{k:NK}:∀ {ks:List (NK×Zg)} {n:Nat} {xs:List (NK×Zg×Value)},NumV n ks xs->k∉ks.map (·.1)->atKey xs k=none
 | [],n,xs,h,_=>by cases(show xs=[]from h);rfl
 | p :: ks,n,xs,h,hk=>by
  exists 154
  have ih:=NumV.none h' (k:=k) fun z=>hk (jK _ z)
  unfold atKey at ih ⊢
  rw[zv (by simpa using fun z=>hk (by rw[<- z];exact jE))]
  exact ih
theorem NumV.there{k:NK}:∀ {ks:List (NK×Zg)} {n j:Nat} {xs:List (NK×Zg×Value)},NumV n ks xs->#[151].Nodup->#[151][j]?=some k->∃ b t,atKey xs k=some (b,.int ((n+j:Nat):Int) t)
 | [],n,j,xs,h,_,hk=>by cases hk
 | p :: ks,n,0,xs,h,nd,hk=>by
  exists 154
  cases(show some p.1=some k from hk)
  exists p.2,t'
  unfold atKey
  rw[List.find?_cons_of_pos #[11]]
  rfl
 | p :: ks,n,j+1,xs,h,nd,hk=>by
  exists 154
  have DD:=jh.mp nd
  have J1:#[151][j]?=some k:=hk
  obtain⟨b,t,e⟩:=NumV.there h' DD.2 J1
  exists b,t
  unfold atKey at e ⊢
  rw[zv (by simpa using fun z=>DD.1 (by show p.1∈_;rw[z];exact JI J1)),e]
  congr 3
  omega
def B5(P:Zx)(w:World)(d:Zg)(ks:List (NK×Zg))(h:Heap):Prop:=(d==Qe)=false/\ks.length<=sizeLine/\#[151].Nodup/\∃ xs o es ep,NumV 0 ks xs/\h.get? d=some o/\o.ExactDict/\o.data=.dict es ep/\es.toList=xs.map (entryOfKey (HG P w))
abbrev mh(P:Zx)(w:World)(d:Zg)(ks:List (NK×Zg)):HO:=.ext (B5 P w d ks)
theorem B5.ok{ks:List (NK×Zg)}(x:B5 P w d ks h):bq P w H h d (mh P w d ks):=
 ⟨x,let ⟨_,_,_,xs,o,es,ep,_,h1,_,_,_⟩:=x;⟨o,h1⟩,fun h1 h2 y k=>let ⟨a1,a2,a3,xs,o,es,ep,a4,a5,a6,a7,a8⟩:=y;⟨a1,a2,a3,xs,o,es,ep,a4,k o a5,a6,a7,a8⟩⟩
def ml(H:Hp)(k:NK)(b:Zg):Prop := ∃ c,H b=some (.tup [.int k.1,.ref c])/\H c=some (.tup (k.2.map V.int))
def wC(H:Hp)(ks:List (NK×Zg)):Prop := ∀ p∈ks,ml H p.1 p.2
theorem ml.same{k:NK}(h:ml H k b)(s:∀ b xs,H b=some #[29]->H' b=some #[29]):ml H' k b:=let ⟨c,e1,e2⟩:=h;⟨c,s _ _ e1,s _ _ e2⟩
theorem wC.same{ks:List (NK×Zg)}(h:wC H ks)(s:∀ b xs,H b=some #[29]->H' b=some #[29]):wC H' ks:=fun p hp=>(h p hp).same s
theorem ml.is{k:NK}(ok:eV P w H h)(x:ml H k b):rF h k b:=by
 obtain⟨c,e1,e2⟩:=x
 obtain⟨_,bp,r,p⟩:=(show bq P w H h b (.tup [.int k.1,.ref c])from ok b _ e1)
 obtain⟨_,jts,r2,p2⟩:=(show bq P w H h c (.tup (k.2.map V.int))from ok c _ e2)
 obtain⟨t,e⟩:∃ t,bp=[.int k.1 t,.ref c]:=by
  cases r with
  | cons r1 r' =>
   cases r' with
   | cons r2 r3 =>
    cases r3
    obtain⟨t,rfl⟩:=r1
    cases r2
    exact⟨t,rfl⟩
 subst e
 exact⟨t,c,jts,p,p2,Df r2⟩
section
variable{ks:List (NK×Zg)}
theorem RV(I:Inv X pins σ H s)(e:H d=some #[316])(hk:wC H ks):(d==Qe)=false/\ks.length<=sizeLine/\#[151].Nodup/\∃ xs,NumV 0 ks xs/\s.heap.DictOfH (HG X.prog X.w) d xs:=by
 obtain⟨⟨a1,a2,a3,xs,o,es,ep,a4,a5,a6,a7,a8⟩,_⟩:=(show bq X.prog X.w H s.heap d #[316]from I.hok d _ e)
 have ek:=a4.keys
 refine⟨a1,a2,a3,xs,a4,o,es,ep,a5,a6,a7,a8,fun x hx=>?_,?_⟩
 ·exact(hk (x.1,x.2.1) (by rw[<- ek];exact jM.mpr ⟨x,hx,rfl⟩)).is I.hok
 ·have:xs.map (fun x=>x.1)=ks.map (·.1):=by rw[<- ek,JF];rfl
  rw[this]
  exact a3
end
def acv(P:Zx)(w:World):TE:=fun _ H Q=>∀ p,H p=none->Q (.ref p) (upd H p (mh P w p []))
def aai(P:Zx)(w:World)(ty td:TE):TE:=fun σ H Q=>ty σ H fun y H1=>td σ H1 fun x H2=>∃ d b k ks,x=.ref d/\y=.ref b/\H2 d=some (mh P w d ks)/\wC H2 ks/\ml H2 k b/\Q (.bl (!decide (k∈ks.map (·.1)))) H2
def afw(P:Zx)(w:World)(td ty:TE):TE:=fun σ H Q=>td σ H fun x H1=>ty σ H1 fun y H2=>∃ d b k ks j,x=.ref d/\y=.ref b/\H2 d=some (mh P w d ks)/\wC H2 ks/\ml H2 k b/\#[151][j]?=some k/\Q (.int (j:Nat)) H2
def aff(P:Zx)(w:World)(td ty tv:TE):TS:=fun D σ H=>tv σ H fun v H1=>td σ H1 fun x H2=>ty σ H2 fun y H3=>∃ d b k ks,x=.ref d/\y=.ref b/\v=.int ks.length/\H3 d=some (mh P w d ks)/\wC H3 ks/\ml H3 k b/\k∉ks.map (·.1)/\ks.length<sizeLine/\D.nx σ (upd H3 d (mh P w d (ks++[(k,b)])))
section
variable{o i value:Expr}{td ty tv:TE}
theorem Sm:PE X (.Dict [] [] pos) (acv X.prog X.w):=fun pins s σ H Q I h =>
 Ql ⟨.ref s.heap.objs.size,_,I.laid (a:=s.heap.objs.size) (o:=mh X.prog X.w s.heap.objs.size []) (t' := s.toks) (fun _ _ q=>jB _ q) (jF _) (B5.ok ⟨beq_eq_false_iff_ne.mpr (Ne.symm (jO I.big)),jb _,JN,[],_,#[],0,rfl,jL _ rfl,⟨rfl,rfl,rfl⟩,rfl,rfl⟩),rfl,h _ #[95]⟩
theorem Pc(hu:X.A.units+2<cLine)(hi:PE X i ty)(ho:PE X o td):PC X .NotIn i o (aai X.prog X.w ty td):=by
 exists 4
 refine cf (hi pins s σ H _ I h) fun iv s1 ⟨y,H1,I1,ry,q1⟩=>cf (ho pins s1 σ H1 _ I1 q1) fun u s2 ⟨x,H2,I2,rx,d,b,k,ks,ex,ey,e,hk,hb,q2⟩=>?_
 subst ex ey
 obtain rfl:u=WD d:=rx
 obtain rfl:iv=WD b:=ry
 obtain⟨a1,a2,a3,xs,nv,dd⟩:=RV I2 e hk
 refine qS (knd:=HG X.prog X.w) (show X.A.units+1+1<cLine by omega) (hb.is I2.hok) a1 dd ⟨.bl (!decide (k∈ks.map (·.1))),H2,I2.tok _,?_,q2⟩
 by_cases c:k∈ks.map (·.1)
 ·obtain⟨j,hj,ej⟩:=jZ c
  obtain⟨b',t,e'⟩:=nv.there a3 (j:=j) (by rw[jA hj,ej])
  rw[e',decide_eq_true c]
  rfl
 ·rw[nv.none c,decide_eq_false c]
  rfl
theorem Y9(hu:X.A.units+2<cLine)(ho:PE X o td)(hi:PE X i ty)(hs:aa3 i):PE X #[329] (afw X.prog X.w td ty):=by
 exists 4
 refine M0 PySem.F.slot_dict_getitem.lookup hs (cf #[98] fun u s1 ⟨x,H1,I1,rx,q1⟩=>cf (hi pins s1 σ H1 _ I1 q1) fun iv s2 ⟨y,H2,I2,ry,d,b,k,ks,j,ex,ey,e,hk,hb,hj,q2⟩=>?_)
 subst ex ey
 obtain rfl:u=WD d:=rx
 obtain rfl:iv=WD b:=ry
 obtain⟨a1,a2,a3,xs,nv,dd⟩:=RV I2 e hk
 obtain⟨b',t,e'⟩:=nv.there a3 hj
 refine⟨dd.typeIs,qE (knd:=HG X.prog X.w) (show X.A.units+1+1<cLine by omega) (hb.is I2.hok) dd e' ⟨.int (j:Nat),H2,I2.tok _,?_,q2⟩⟩
 rw[JU]
 exact⟨t,rfl⟩
theorem Z5(hu:X.A.units+2<cLine)(ho:PE X o td)(hi:PE X i ty)(hv:PE X value tv)(hs:Qc value (some (.Subscript o i pos')) pos.line X.env=pure false):
  PS X (.Assign [.Subscript o i pos'] value pos) (aff X.prog X.w td ty tv):=by
 exists 39
 refine Qi (cf #[270] fun r s1 ⟨v,H1,I1,rv,q1⟩=>cf (ho pins s1 σ H1 _ I1 q1) fun u s2 ⟨x,H2,I2,rx,q2⟩=>cf (hi pins s2 σ H2 _ I2 q2) fun iv s3 ⟨y,H3,I3,ry,d,b,k,ks,ex,ey,ev,e,hk,hb,nk,hl,q3⟩=>?_) hs
 subst ex ey ev
 obtain rfl:u=WD d:=rx
 obtain rfl:iv=WD b:=ry
 obtain⟨t,rfl⟩:=(show ∃ t,r=WQ ks.length t from rv)
 obtain⟨a1,a2,a3,xs,nv,dd⟩:=RV I3 e hk
 have hz:xs.length<=sizeLine:=by
  have:=congrArg Jj nv.keys
  rw[jQ]at this
  omega
 refine qu (knd:=HG X.prog X.w) (hsz:=hz) (show X.A.units+1+1<cLine by omega) (hb.is I3.hok) dd fun h' FH hsb=>⟨σ,_,?_,q3⟩
 have est:storedH xs k b (.int ks.length t)=xs++[(k,b,.int ks.length t)]:=by
  unfold storedH
  rw[nv.none nk]
  rfl
 rw[est]at FH
 obtain⟨o',es,ep,g1,g2,g3,g4,_,_⟩:=FH
 have nv' := nv.snoc (k:=k) (b:=b) (t:=t)
 rw[JU]at nv'
 refine pB I3 #[68] hsb ⟨o',g1⟩ (B5.ok ⟨a1,by rw[jG];exact hl,?_,_,o',es,ep,nv',g1,g2,g3,g4⟩)
 rw[jD]
 exact JA.mpr ⟨a3,jh.mpr ⟨by simp,JN⟩,fun a ha c hc z=>nk (by have e1:c=k:=jI.mp hc;rw[<- e1,<- z];exact ha)⟩
theorem Og:lK X #[206] (fun xs H Q=>∃ d ks,xs=[.ref d]/\H d=some #[316]/\Q (.int ks.length) H):=by
 exists 19
 obtain⟨d,ks,rfl,hd,q⟩:=h
 exists 31
 cases rx
 obtain⟨⟨a1,a2,a3,xs,o,es,ep,nv,h1,h2,h3,h4⟩,_⟩:=(show bq X.prog X.w H s.heap d #[316]from I.hok d _ hd)
 have sz:es.size=ks.length:=by
  have e1:=congrArg Jj h4
  have e2:=congrArg Jj nv.keys
  rw[jQ]at e1 e2
  rw[<- e2,<- e1,jx]
 exact Mw a1 ⟨o,h1,h2.1⟩ ⟨o,es,ep,h1,h3,sz⟩ (by rw[QZ]at a2;omega) ⟨.int ks.length,H,I.tok _,⟨_,rfl⟩,q⟩
theorem sq:lK X #[206] (fun xs H Q=>∃ (S:Zg) (ns:List Int),xs=[.ref S]/\H S=some (B8 X.prog X.w S ns)/\Q (.int ns.length) H):=by
 exists 19
 obtain⟨S,ns,rfl,hS,q⟩:=h
 exists 31
 cases rx
 obtain⟨⟨o,es,ep,t,h1,h2,h3,h4,h5,h6,h7,h8,h9⟩,_⟩:=(show bq X.prog X.w H s.heap S (B8 X.prog X.w S ns)from I.hok S _ hS)
 have sz:es.size=ns.length:=by
  have:=h6.length_eq
  rw[jQ,jx]at this
  exact this
 refine call_len_set h1 h2 h3 h8 ?_ ⟨.int ns.length,H,I.tok _,⟨s.toks+1,by rw[sz]⟩,q⟩
 have:es.size<2^63:=jV h7 #[18]
 omega
end
def tK(x C d:Zg)(h:Heap):Prop := ∃ (o:Obj) (vs:Array Value),h.get? x=some o/\o.cls=.ref C/\o.dict=some d/\o.data=.fields vs
theorem tK.at{x:Zg}(z:tK x C d h):Tz x C h:=let ⟨o,vs,a,b,_,c⟩:=z;⟨o,vs,a,b,c⟩
theorem eV.adQ{ea:Zg}(x:eV P w H h)(z:H ea=ZT)(p:tK ea C d h):eV P w (upd H ea (.ext (tK ea C d))) h:=by
 intro a u e
 by_cases q:a=ea
 ·subst q
  rw[ae]at e
  cases e
  obtain⟨ob,vs,e1,e2,e3,e4⟩:=p
  exists ⟨ob,vs,e1,e2,e3,e4⟩,⟨ob,e1⟩
  rintro h1 h2 ⟨ob',vs',f1,f2,f3,f4⟩ k
  exact⟨ob',vs',k _ f1,f2,f3,f4⟩
 ·rw[af q]at e
  exact(x a u e).rn (fun b v _ f=>f) (fun b f=>by rw[af (ah f z)];exact f) fun b xs f=>by rw[af (ah f z)];exact f
section
def aaY(X:Cx)(pins:List #[44])(σ:St)(E:XK)(e:Value)(s':QA):Prop := ∃ s H,Inv X pins σ H s/\LU X.prog X.w X.stack H s E e s'
def aa5(X:Cx)(e:Expr)(t:TXE):Prop := ∀ (pins:List #[44]) (s:QA) (σ:St) (H:Hp) (Q:VK) (E:XK),Inv X pins σ H s->t σ H Q E->wpAny #[5] X.A (eval e X.env) #[74] (aaY X pins σ E) s
def aa4(X:Cx)(st:Stmt)(t:TX):Prop := ∀ (pins:List #[44]) (s:QA) (σ:St) (H:Hp) (D:Ends) (E:XK),Inv X pins σ H s->t D E σ H->wpAny #[5] X.A (exec st X.env) (SP X pins D) (aaY X pins σ E) s
def PX2(X:Cx)(st:List Stmt)(t:TX):Prop := ∀ (pins:List #[44]) (s:QA) (σ:St) (H:Hp) (D:Ends) (E:XK),Inv X pins σ H s->t D E σ H->wpAny #[5] X.A (execs st X.env) (SP X pins D) (aaY X pins σ E) s
end
section
variable{j k:Nat}{p:Pos}{es:List Expr}{t:TA}{E:XK}
theorem Ee(G:sX X.prog X.w X.K X.mg X.base x k ps fY sp)(hr:cI j X.A)(ha:PA X (e :: es) t)(hx:∀ e s,X.xe e s=False:=by intro _ _;rfl)(Hn:k<=j:=by decide)(hg:Gl X x:=by rfl)(AF:#[16]=false:=by decide)(he:Qa (e :: es) X.env=#[17] :: Qa es X.env:=by rfl)(tw:#[20].any (·.1)=false:=by rfl):
  aa5 X #[19] (acz sp fY t):=by
 exists 88
 intro pins s σ H Q E I h
 exists 153
 refine Wi (h₀:=X.base) I.ok.mod.kin hk (qO (ha pos pins s σ H _ I h) (fun us s1 ⟨vs,H1,I1,r,q⟩=>⟨I1.pb,?_⟩) fun e' s' z=>((hx e' s').mp z).elim) he tw
 exists 142
 exists 106
 refine Qr (QL (F.run X.A X.stack s1 H1 ⟨us,[]⟩ (us++ds) (vs++fY) Q E (hr.mono Hn) I1.Oq (hb s1 us I1.pb hl) r2 q) fun r' s' hq=>?_)
 cases r' with
 | error e'=>exact⟨s1,H1,I1,hq⟩
 | ok fl =>
  cases fl with
  | ret u=>exact I1.after hq
  | next=>exact False.elim hq
  | brk=>exact False.elim hq
  | cont=>exact False.elim hq
theorem SI{t:TXE}(he:aa5 X e t)(hs:Qc e none pos.line X.env=pure false:=by rfl):aa4 X (.Expr e pos) (acC t):=by
 intro pins s σ H D E I h
 exact wpAny_Expr_any (cf (he pins s σ H _ E I h) fun v s1 ⟨y,H1,I1,r1,q1⟩=>⟨σ,H1,I1,q1⟩) I.quiet hs
theorem Z6{t:TXE}(hN:X.N.Nodup)(hi:X.N[i]?=some x)(hx:Loc X.env.scope x)(he:aa5 X e t)(hs:Qc e #[289] pos.line X.env=pure false:=by rfl)(hf:X.fn x=true\/X.env.scope.names.lookup x=some .local:=by first|exact .inl rfl|exact .inr rfl):aa4 X #[159] (afG i t):=by
 intro pins s σ H D E I h
 refine Qh (cf (he pins s σ H _ E I h) fun v s1 ⟨y,H1,I1,r1,q1⟩=>?_) hs
 exact sh I1 hN hi hx r1 (fun s2 I2=>⟨_,H1,I2,q1⟩) hf
theorem MJ{t:TX}(h:aa4 X st t):PX2 X [st] t:=by
 intro pins s σ H D E I q
 refine Qz (cf (h pins s σ H D E I q) fun f s' hs=>?_)
 cases f with
 | next=>exact qA hs
 | brk=>exact hs
 | cont=>exact hs
 | ret u=>exact hs
end
section
variable{F:Zg}{n:QB}{np abC:Pos}{tb:TX}
def afA(C:Zg)(i:Nat)(tb:TX)(ts:TS):TS:=fun D σ H=>tb D (fun c dd H1=>c=.ref C/\∃ d,dd=some d/\∀ ea,H1 ea=none ->
 ts { nx:=fun σ' H'=>D.nx (σ'.set i none) H',rt:=D.rt,bk:=fun σ' H'=>D.bk (σ'.set i none) H',ct:=fun σ' H'=>D.ct (σ'.set i none) H' } (σ.set i (some #[327])) (upd H1 ea (.ext (tK ea C d)))) σ H
theorem MH(hN:X.N.Nodup)(hi:X.N[i]?=some n)(hx:X.env.scope.names.lookup n=some .local)(hm:X.mg x=some (.ref F))(hq:Wx X.K #[23] (.ref F)=some true)(hb:PX2 X body tb)(hs:∀ ea,Ey (X.held ea) (b₀ :: Tc) ts)(wX:X.stack=X.env :: X.outer:=by rfl)(FJ:X.env.frame=some X.env.locals:=by rfl)(hg:Gl X x:=by rfl)(AF:#[16]=false:=by decide):
  PS X (.Try body [.ExceptHandler (some (.Name x np)) (some n) (b₀ :: Tc) abC] [] [] pos) (afA C i tb ts):=by
 exists 39
 refine wpAny_Try_except (qO (hb pins s σ H D _ I h) (fun f s1 q=>?_) fun e s1 q=>?_)
 ·cases f with
  | next=>exact qA q
  | brk=>exact q
  | cont=>exact q
  | ret u=>exact q
 obtain⟨s0,H0,I0,ea,t,C',d,B,H',rfl,os,bare,un,hok,⟨f1,f2,f3,f4⟩,there,hn,hc,d',ed,k⟩:=q
 cases ed
 obtain rfl:C'=C:=ym hc
 have f3t:=f3
 rw[wX]at f3t
 have ean:s0.heap.get? ea=none:=by
  cases q:s0.heap.get? ea with
  | none=>rfl
  | some o =>
   by_cases hb:ea∈Bb X.stack
   ·exfalso
    obtain⟨oe,vs,_,_,_,he,_,_,hd,_⟩:=f4.ex
    have Rx:eV X.prog X.w H' s1.heap:=hok.kept fun b u q=>f1 b u q
    have J:Inv X pins σ H' s1:=I0.DP (ch:=[]) os un Rx bare #[197]
    obtain⟨_,o',e',hnd⟩:=J.stack.mem hb
    rw[he]at e'
    cases e'
    exact hnd _ hd
   ·obtain⟨o',e'⟩:=there ea o q hb
    rw[f2]at e'
    cases e'
 have h0n:H0 ea=none:=I0.hok.none ean
 refine abU (I0.ok.frames.trans (by rw[wX])) f3t FJ f4 f1 f2 fun h4 a4 b4 w4 sm4=>?_
 refine RJ a4 b4 w4 fun h5 a5 b5 w5 sm5=>?_
 have sm:=sm4.trans sm5
 obtain⟨un5,ah1⟩:=land I0 os bare un hok there f1 a5 sm
 have I5:Inv X pins σ H' { s1 with heap:=h5 }:=I0.DP (ch:=[]) os un5 ah1 bare #[197]
 refine wpAny_handleBy_cons (codeAny_handlers_test ?_) (by intro q;cases q)
 refine mS (X:=X.held ea) I5.held hg hm ?_ AF
 have ty5:PySem.W.Looks #[5] h5 (typeOf #[327]) (.ref C'):=by
  obtain⟨ob,_,_,_,_,e1,e2,_⟩:=w5.ex
  exact e2 ▸ (Xi e1).andThen .now
 refine(PySem.W.exm_one (M:=model X.prog X.w) I5.pb ty5 hq).here ?_
 refine codeAny_handlers_suite_as (RJ a5 b5 w5 fun h6 a6 b6 w6 sm6=>?_)
 obtain⟨un6,ah2⟩:=land I0 os bare un hok there f1 a6 (sm.trans sm6)
 have ex6:tK ea C' d h6:=by
  obtain⟨oe,vs,_,_,_,he,Rf,hdi,hd,_⟩:=w6.ex
  exact⟨oe,vs,he,Rf,hdi,hd⟩
 have I6:Inv X pins σ (upd H' ea (.ext (tK ea C' d))) { s1 with heap:=h6 }:=I0.DP (ch:=[]) os (un6.more ean h0n) (ah2.adQ hn ex6) bare #[197]
 refine sh (X:=X.held ea) I6.held hN hi (.inl hx) (v:=.ref ea) rfl (fun s7 I7=>?_) (.inr hx)
 refine qO (hs ea pins s7 _ _ _ I7 (k ea hn)) (fun f s8 q8=>?_) fun _ _ z=>z.elim
 have fin:∀ {σ8:St} {H8:Hp} {Q:Unit->QA->Prop},Inv (X.held ea) pins σ8 H8 s8->(∀ s9,Inv X pins (σ8.set i none) H8 s9->Q () s9)->wpAny #[5] X.A (do bindName X.env n .none;unbindBehindTheSuite X.env n abC) Q X.xe s8:=
  fun {σ8 H8 Q} J g=>Pu (v:=.non) (J.acD I.ok) hN hi hx g
 cases f with
 | next=>obtain⟨σ8,H8,J,q⟩:=q8;exact fin J fun s9 J9=>⟨_,H8,J9,q⟩
 | brk=>obtain⟨σ8,H8,J,q⟩:=q8;exact fin J fun s9 J9=>⟨_,H8,J9,q⟩
 | cont=>obtain⟨σ8,H8,J,q⟩:=q8;exact fin J fun s9 J9=>⟨_,H8,J9,q⟩
 | ret u=>obtain⟨v,σ8,H8,J,r,q⟩:=q8;exact fin J fun s9 J9=>⟨v,_,H8,J9,r,q⟩
end
end L2
namespace L2
variable{prog P:Zx}{w:World}{A:Around}{E Q:Value→QA→Prop}{s:QA}{K:WC}{x name:QB}{C d f:Zg}{vs:Array Value}{v dV:Value}{o:Obj}{mA mg:QB→Option Value}{base:Heap}{st:Stmt}{fd:Zo}{ps:List QB}{sp:Sp}{fY:List V}{X:Cx}{e:Expr}{es:List Expr}{ta:TE}{j:Nat}
section
open PySem PySem.Spec PySem.W PySem.Builtin PySem.Builtin.ObjectAttr PyProof.Rows
variable{x:Zg}
theorem Q9(c:Ds K C)(X:K.In s.heap)(hx:s.heap.get? x=some o)(hc:o.cls=.ref C)(hdi:o.dict=some d)(hdt:o.data=.fields vs)(hn:s.heap.Ns1 d mA)(na:findIn K #[23] name=some none)(hh:hasDictIn K C=true)(hv:mA name=some v)(hhv:handedIn v=true)(h:Q v { s with toks:=s.toks+1 }):wpAny #[8] A (getAttr #[94] name true) Q E s:=by
 obtain⟨od,hod,hl⟩:=D7 hn
 have J:InstAt s.heap x o C (some od):=⟨hx,hc,by unfold notCls;rw[hdt],by rw[hdi];exact hod⟩
 have hf:findObj K C (some od) name=some (.value v):=findObj_own hh na rfl (by rw[hl,hv])
 obtain⟨hp,g,dr,t,os⟩:=s
 have L0:=J.type (M:=model prog w)
 have L1:=looks_findIn (M:=model prog w) X c.ga
 have L2:=looks_findIn (M:=model prog w) X c.gt
 have LF:=looks_find (M:=model prog w) X J hf
 have LB:Looks #[8] hp (isInstance #[94] #[60]) true:=L0.andThen (QT (M:=model prog w) X c.be)
 unfold getAttr getAttrBy
 refine Qq (wpAny_mkText (qF (Qq (L0.at (Qq (L1.at ?_))))))
 have ne:#[129]=false:=by
  exists 61
  rw[this];rfl
 dsimp only
 rw[ne]
 simp only[JB,if_false]
 unfold getAttrByItsOwn hookBefore
 rw[if_pos (show onTheHeap (WD C)=true from rfl)]
 refine Qq (L2.at ?_)
 refine Qq (Qp (qF ?_))
 unfold callGetattribute
 rw[show(true&&onTheHeap (WT "BaseException.__getattribute__"))=false from rfl]
 simp only[JB,if_false]
 unfold boundAndCalled
 rw[PySem.F.attrBase_ValueError.ga.bind #[94]]
 refine Qq (qX ?_)
 refine Qr #[334]
 refine DV LB ?_
 unfold Builtin.«object.__getattribute__»
 refine Qq (qX ?_)
 dsimp only
 refine Qq ?_
 refine(show wpAny _ _ (pure _) _ _ _ from qX ?_)
 refine Qq (L0.at ?_)
 refine Qq (LF.at ?_)
 dsimp only
 refine qX ?_
 exact handed_on hhv h
end
open PySem PySem.Spec PyProof.Rows
section
theorem bE.aeZ{qual:QB}{N:List QB}{k:Nat}(F:bE K x qual st dV f fd)(S:aJ N ps (aj st))(len:∀ vs H Q E,sp vs H Q E->vs.length=ps.length)(rM:∀ (ck:Value) (A:Around) (outer:List Zn) (s:QA) (H:Hp) (vs:List V) (Q:VK) (E:XK),cI k #[109]->sp vs H Q E ->
   ∃ t,Ey (Ay (LU P w) P w K mg base N qual (aj st) f ck A outer s H E) (cu st) t/\t { nx:=fun _ H'=>Q .non H',rt:=Q } #[150] H):bu P w K mg base (LU P w) (k+1) f fd ps sp:=by
 exists 17
 exact aat lk Dx S len fun A outer s H vs Q E hr FK=>rM ck A outer s H vs Q E hr FK
theorem bu.calm{k:Nat}(F:bu P w K mg base (LU P w) k f fd ps sp):bu P w K mg base eA k f fd ps (fun vs H Q _=>sp vs H Q fun _ _ _=>False):=
 ⟨fun vs H Q E h=>F.len vs H Q _ h,fun A outer s H args us vs Q E hr he hb hv hs=>QL (F.run A outer s H args us vs Q (fun _ _ _=>False) hr he hb hv hs) fun r s' q=>by
  cases r with
  | ok fl=>cases fl<;>exact q
  | error e =>
   obtain⟨_,_,_,_,_,_,_,_,_,_,_,_,_,_,z⟩:=q
   exact z⟩
theorem sX.calm{k:Nat}(G:sX P w K mg base x k ps fY sp):cx P w K mg base x k ps fY (fun vs H Q _=>sp vs H Q fun _ _ _=>False):=by
 obtain⟨f,fd,ds,h1,h2,h3,h4,F⟩:=G.ex
 exact⟨f,fd,ds,h1,h2,h3,h4,F.calm⟩
end
section
variable{k:Nat}{y fl:QB}{p pos df:Pos}{t:TA}{E:XK}
theorem Pf(G:aa0 X.prog X.w X.K X.mg X.base x C f k ps sp)(hr:cI j X.A)(hc:X.calm=true)(ht:aba X E)(ha:PA X (e :: es) t)(Hn:k+1<=j:=by decide)(hex:X.ex=[]:=by rfl)(hg:Gl X x:=by rfl)(AF:#[16]=false:=by decide)(he:Qa (e :: es) X.env=#[17] :: Qa es X.env:=by rfl)(tw:#[214].any (·.1)=false:=by rfl):
  PS X (.Raise (some #[211]) none pos) (N3 C sp [] E t):=by
 obtain⟨fd,hb,F⟩:=G.F
 exact Pg G.M F (hr.mono Hn) hc G.m hb .nil ht ha hex hg AF he tw
def afs(K:WC)(ta:TE)(fl:QB):TE:=fun σ H Q=>ta σ H fun v H1=>∃ (x C d f:Zg) (fs:List (QB×V)) (y:V),v=.ref x/\H1 x=some (.ext (tK x C d))/\H1 d=some (.xd fs)/\wK K C f/\WE K #[23] fl=some none/\fs.lookup fl=some y/\Q y H1
theorem Ff(K:WC)(he:PE X e ta)(hK:X.K=K:=by rfl)(hb:attributeBase e fl X.env (eval e X.env)=eval e X.env:=by rfl):PE X (.Attribute e fl pos) (afs K ta fl):=by
 subst hK
 exists 4
 refine LZ hb (cf #[99] fun u s1 ⟨v,H1,I1,rv,ea,C,d,f,fs,yv,ev,hx,hd,M,na,l,q⟩=>?_)
 subst ev
 obtain rfl:u=WD ea:=rv
 obtain⟨⟨o,vs,z,zc,zd,zf⟩,_,_⟩:=(show bq X.prog X.w H1 s1.heap ea (.ext (tK ea C d))from I1.hok ea _ hx)
 obtain⟨mA,hn,hr⟩:=(show bq X.prog X.w H1 s1.heap d (.xd fs)from I1.hok d _ hd)
 obtain⟨w1,hw,rw1⟩:=oa.some_of (v:=yv) (o:=mA fl) (by rw[<- l];exact hr fl)
 exact Q9 M.xc I1.pb z zc zd zf hn na M.hd hw (DY rw1) ⟨yv,H1,I1.tok _,rw1,q⟩
def ai4(K:WC):List V->Hp->VK->Prop:=fun xs H Q=>∃ (a C d:Zg) (c:V) (cv:Value) (b:Bool),xs=[.ref a,c]/\H a=some (.ext (tK a C d))/\Ds K C/\adL c=some cv/\WM K #[23] cv=some b/\Q (.bl b) H
theorem Ck(K:WC)(hK:X.K=K:=by rfl):lK X #[252] (ai4 K):=by
 subst hK
 exists 19
 obtain⟨a,C,d,c,cv,b,rfl,ha,cl,hc,e,q⟩:=h
 obtain⟨u,v,rfl,ru,rv⟩:=r.two
 cases(show u=WD a from ru)
 cases P5 hc rv
 obtain⟨p,_⟩:=(show bq X.prog X.w H s.heap a (.ext (tK a C d))from I.hok a _ ha)
 exact WO (RG cl) I.pb p.at e #[48] fun tk=>⟨.bl b,H,I.tok tk,rfl,q⟩
end
end L2
namespace L2
open PySem PySem.Spec PyProof.Rows
variable{h h' base:Heap}{c Pt f c' b:Zg}{P q:Zx}{w:World}{H H':Hp}{qual x y:QB}{params:Zi}{body e:Expr}{scope:Scope}{X:Cx}{pins:List (Zg×Obj)}{σ:St}{s s₁:QA}{ps loose:List QB}{pos p:Pos}{v u oc dV:Value}{o:Obj}{α β:Type}{cs Ps ts:List Zg}{us vs:List Value}{i:Nat}{K:WC}{mg mb:QB→Option Value}{IA:List V}{A:Around}{outer:List Zn}{Q:VK}{es:List Expr}{tf te:TE}{sp:Sp}{CX:FP}{fd:Zo}{od:Option Zg}{sl:Array (Option Value)}{st:Stmt}{ns:List Int}
theorem EL(x:PySem.W.CodeHd h c Pt):isCodeTable h Pt:=by
 obtain⟨o,vs,_,_,_,_,_,_,_,h1,h2,h3,h4,_⟩:=x
 exact⟨c,o,vs,h1,h2,h3,h4⟩
def B1(h:Heap)(mg:QB->Option Value):Prop := ∃ bm o,mg "__builtins__" = some (.ref bm)/\bm≠builtinsNs/\bm≠QU/\h.get? bm=some o/\o.cls=.type "module" /\ o.dict=some builtinsNs/\o.data=.plain
def mV(c:Zg)(qual:QB)(h:Heap):Prop := ∃ o vs t,h.get? c=some o/\o.data=.fields vs/\vs[1]?=some (.str qual t)
def oC(f:Zg)(qual:QB)(params:Zi)(body:Expr)(scope:Scope)(bc:List #[282])(c':Zg)(h:Heap):Prop := ∃ pm FG,h.get? f=some (YM "<lambda>" qual params body scope bc pm c' FG)
def adD(H:Hp)(Pt:Zg)(qual:QB)(pos:Pos):Prop:=H Pt=some (.BZ #[])\/∃ c',H Pt=some #[335]/\H c'=some (.ext (mV c' qual))
theorem mV.ok(x:mV c qual h):bq P w H h c (.ext (mV c qual)):=
 ⟨x,let ⟨o,_,_,e,_,_⟩:=x;⟨o,e⟩,fun h1 h2 ⟨o,vs,t,e,r,r1⟩ k=>⟨o,vs,t,k o e,r,r1⟩⟩
theorem oC.ok{bc:List #[282]}(x:oC f qual params body scope bc c' h):bq P w H h f #[85]:=
 ⟨x,let ⟨_,_,e⟩:=x;⟨_,e⟩,fun h1 h2 ⟨pm,FG,e⟩ k=>⟨pm,FG,k _ e⟩⟩
structure TC(K:WC)(mg:QB->Option Value)(base:Heap)(c Pt:Zg):Prop where
 hd:Yd K c Pt=true
 bm:B1 base mg
def ajs(qual:QB)(params:Zi)(body:Expr)(scope:Scope)(bc:List #[282])(pos:Pos)(Pt:Zg):TE:=fun σ H Q=>adD H Pt qual pos /\
 ∀ (f c':Zg) (H':Hp),H f=none->H' f=some #[85]->H' Pt=some #[335]->H' c'=some (.ext (mV c' qual))->#[160]->Q #[46] H'
theorem Inv.table{tk:Nat}{ps more:Array Value}(I:Inv X pins σ H s)(hP:H Pt=some (.BZ ps))(k:∀ b o,b≠Pt->s.heap.get? b=some o->h'.get? b=some o)(hP':h'.get? Pt=some { cls:=.none,data:=.fields (ps++more) })(ht:H' Pt=some (.BZ (ps++more)))(hH:∀ b,b≠Pt->b<s.heap.objs.size->H' b=H b)(new:∀ b u,s.heap.objs.size<=b->H' b=some u->bq X.prog X.w H' h' b u):Inv X pins σ H' { s with heap:=h',toks:=tk }:=by
 have keep:∀ b u,b≠Pt->H b=some u->H' b=some u:=fun b u nb e=>by rw[hH b nb (I.hok.lt e)];exact e
 have nP:∀ b,H b=none->b≠Pt:=fun b n z=>by rw[z,hP]at n;cases n
 refine I.un ⟨fun b o e n _ _=>k b o (nP b n) e,fun b o e n _ _=>⟨o.slots,k b o (nP b n) e⟩,fun b o e n _=>by rw[hH b (nP b n) (jJ e)];exact n,fun b o e _=>?_,fun b xs e=>keep b _ (fun z=>by rw[z,hP]at e;cases e) e,fun b o u e=>keep b _ (fun z=>by rw[z,hP]at e;cases e) e,fun b qs e=>?_⟩ fun b u e=>?_
 ·by_cases hb:b=Pt
  ·exact⟨_,by rw[hb];exact hP'⟩
  ·exact⟨o,k b o hb e⟩
 ·by_cases hb:b=Pt
  ·subst hb
   rw[hP]at e
   cases e
   exact⟨more,ht⟩
  ·exact⟨#[],by rw[keep b _ hb e];simp⟩
 ·by_cases hb:b=Pt
  ·subst hb
   rw[ht]at e
   cases e
   exact hP'
  ·by_cases hl:b<s.heap.objs.size
   ·have e' := e
    rw[hH b hb hl]at e'
    refine(I.hok b u e').rn (fun c v hc q=>k c v ?_ q) (fun c q=>keep c _ (fun z=>by rw[z,hP]at q;cases q) q) fun c xs q=>keep c _ (fun z=>by rw[z,hP]at q;cases q) q
    rcases hc with rfl|hc
    ·exact hb
    ·intro z
     rw[z,hP]at hc
     cases hc
   ·exact new b u (Jm hl) e
theorem Oe:codeAmong pos [rawInt pos.line,rawInt pos.col,v]=some v:=by
 show(if ((pos.line:Int)==(pos.line:Int)&&(pos.col:Int)==(pos.col:Int))=true then some v else _)=some v
 rw[if_pos #[11]]
section
variable{bc:List (QB×Zg)}
theorem Sn(k:TC X.K X.mg X.base c Pt)(hc:X.env.code=.ref c)(Rf:closureFor scope X.env=pure bc)(hdf:defaultsOf params X.env=([],[]):=by rfl):PE X (.Lambda params body scope pos) (ajs (X.env.qual ++ "<lambda>") params body scope bc pos Pt):=by
 exists 4
 obtain⟨st,h⟩:=h
 refine PySem.W.kla_eval hdf ?_
 have hPt:∃ ps,H Pt=some (.BZ ps):=by rcases st with z|⟨c',z,_⟩<;>exact⟨_,z⟩
 obtain⟨ps0,hP0⟩:=hPt
 have ns:s.heap.Ns QU X.mg:=I.mod.glob.keeps I.bk
 have nG:QU≠Pt:=fun z=>by
  obtain⟨o,es,ep,e,_⟩:=I.mod.glob
  have:=(I.bs _ _ e).2
  rw[z,hP0]at this
  cases this
 have blt:s.heap.BuiltinsAt X.mg Pt:=by
  obtain⟨bm,o,b1,b2,b3,b4,b5,b6,b7⟩:=k.bm
  refine⟨bm,o,b1,b2,b3,fun z=>?_,I.bk _ _ b4,b5,b6,b7⟩
  have z2:=(I.bs _ _ b4).2
  rw[z,hP0]at z2
  cases z2
 have chd:=yF I.pb k.hd
 rcases st with hP|⟨c',hP,FI⟩
 ·have eP:s.heap.get? Pt=some (YD #[]):=I.hok Pt _ hP
  refine PySem.W.kla_makeFunction Rf I.ok.glob ns hc chd eP trivial rfl nG blt fun c' FG h' tk ex h1 h2 cr hP'=>?_
  have nP:Pt<s.heap.objs.size:=jJ eP
  have hf1:s.heap.objs.size<=h'.objs.size:=Jv (zD h1 h2)
  obtain⟨c₂,oc,vs,t,e2,hoc,hd,hv⟩:=cr
  cases e2
  let H2:Hp:=upd (upd (upd H Pt #[276]) c' (.ext (mV c' (X.env.qual ++ "<lambda>")))) h'.objs.size #[63]
  have nfc:c'≠h'.objs.size:=jO h2
  have nfP:Pt≠h'.objs.size:=jO (jV nP hf1)
  have ncP:Pt≠c' := jO (jV nP h1)
  have gP:H2 Pt=some #[276]:=(af nfP).trans ((af ncP).trans ae)
  have gc:H2 c'=some (.ext (mV c' (X.env.qual ++ "<lambda>"))):=(af nfc).trans ae
  have gf:H2 h'.objs.size=some #[63]:=ae
  have go:∀ b,b≠Pt->b≠c'->b≠h'.objs.size->H2 b=H b:=fun b n1 n2 n3=>(af n3).trans ((af n2).trans (af n1))
  have I2:=Inv.table (H' := H2) (tk:=tk) I hP (fun b o nb e=>jB #[37] (ex b o nb e)) (jB _ hP') gP
   (fun b n1 hl=>go b n1 (jO (jV hl h1)) (jO (jV hl hf1))) fun b u hl e=>by
    by_cases b1:b=h'.objs.size
    ·rw[b1,gf]at e
     cases e
     rw[b1]
     exact oC.ok ⟨_,_,jL _ rfl⟩
    ·by_cases b2:b=c'
     ·rw[b2,gc]at e
      cases e
      rw[b2]
      exact mV.ok ⟨oc,vs,t,jB _ hoc,hd,hv⟩
     ·rw[go b (fun z=>absurd hl (by rw[z];exact Nat.not_le_of_lt nP)) b2 b1,I.hok.fresh hl]at e
      cases e
  have nf:H h'.objs.size=none:=I.hok.fresh hf1
  have ncn:H c'=none:=I.hok.fresh h1
  exact⟨.ref h'.objs.size,H2,I2,rfl,h h'.objs.size c' H2 nf gf (by rw[gP];rfl) gc fun b u nb e=>by rw[go b nb (ah e ncn) (ah e nf)];exact e⟩
 ·have eP:s.heap.get? Pt=some (YD #[rawInt pos.line,rawInt pos.col,.ref c']):=I.hok Pt _ hP
  refine PySem.W.kla_makeFunctionHit (cv:=.ref c') Rf I.ok.glob ns hc chd eP ?_ ?_ blt fun FG h' tk kp h1=>?_
  ·exact trivial
  ·exact Oe
  ·have nf:H h'.objs.size=none:=I.hok.fresh h1
   have new:=oC.ok (P:=X.prog) (w:=X.w) (H:=upd H h'.objs.size #[63]) (h:=h'.push #[37]) ⟨_,_,jL _ rfl⟩
   have kp':∀ b o,s.heap.get? b=some o->(h'.push #[37]).get? b=some o:=fun b o e=>jB _ (kp b o e)
   have I2:=I.un (t' := tk) (Un.laid kp' h1 nf) (eV.laid I.hok kp' h1 new)
   exact⟨.ref h'.objs.size,_,I2,rfl,h h'.objs.size c' _ nf ae (by rw[af (ah hP nf)];exact hP) (by rw[af (ah FI nf)];exact FI) fun b u _ e=>by rw[af (ah e nf)];exact e⟩
end
def fy(c:Zg)(o:Obj)(h:Heap):Prop:=h.get? c=some o
theorem fy.ok(x:fy c o h):bq P w H h c (.ext (fy c o)):=
 ⟨x,⟨o,x⟩,fun _ _ e k=>k _ e⟩
def ads(H:Hp)(c:Zg)(v:V):Prop := ∃ o u,H c=some (.ext (fy c o))/\o.data=.cell (some u)/\RelV v u
structure pw(H:Hp)(f c':Zg)(qual:QB)(params:Zi)(body:Expr)(scope:Scope)(bc:List (QB×Zg))(IA:List V):Prop where
 fn:H f=some #[85]
 cd:H c'=some (.ext (mV c' qual))
 cl:Zv (fun(p:QB×Zg) v=>ads H p.2 v) bc IA
 nd:#[88].Nodup
theorem Paired.lookup{F:(QB×α)->β->Prop}:∀ {l₁:List (QB×α)} {l₂:List β},Zv F l₁ l₂->∀ {x:QB} {c:α},l₁.lookup x=some c->∃ v,F (x,c) v
 | _,_,.nil,_,_,e=>by simp at e
 | _,_,.cons (a:=(y,d)) r t,x,c,e=>by
  rw[jq]at e
  by_cases h:x=y
  ·subst h
   simp at e
   subst e
   exact⟨_,r⟩
  ·rw[show(x==y)=false from beq_false_of_ne h]at e
   exact Paired.lookup t e
def less(H:Hp)(cs:List Zg):Hp:=fun b=>if b∈cs then none else H b
def back(H:Hp)(cs:List Zg)(H':Hp):Hp:=fun b=>if b∈cs then H b else H' b
theorem pI(h:b∈cs):less H cs b=none:=if_pos h
theorem dB(h:b∉cs):less H cs b=H b:=if_neg h
theorem L6(h:b∈cs):back H cs H' b=H b:=if_pos h
theorem mv(h:b∉cs):back H cs H' b=H' b:=if_neg h
theorem DJ:back H cs (less H cs)=H:=by
 funext b
 by_cases h:b∈cs
 ·exact L6 h
 ·rw[mv h,dB h]
def Cells(H:Hp)(cs:List Zg):Prop := ∀ c∈cs,∃ o,H c=some (.ext (fy c o))
section
variable{fs:List Zg}
theorem eV.aeN(x:eV P w H h)(k:Cells H cs):eV P w (L2.less H cs) h:=fun b u e=>by
 have hb:b∉cs:=fun z=>by rw[pI z]at e;cases e
 rw[dB hb]at e
 refine(x b u e).rn (fun _ _ _ q=>q) (fun c q=>?_) fun c xs q=>?_<;>rw[dB]<;>first|exact q|(intro z;obtain⟨o,r⟩:=k _ z;rw[r]at q;cases q)
theorem Un.back(u:Un fs [] (less H cs) H' h h')(k:Cells H cs)(x:eV P w H h)(x':eV P w H' h')(nf:∀ c∈cs,c∉fs):Un fs [] H (back H cs H') h h'/\eV P w (back H cs H') h' := by
 have nb:∀ b,H b=none->b∉cs:=fun b n z=>by obtain⟨o,r⟩:=k _ z;rw[n]at r;cases r
 have cell:∀ c∈cs,∀ o,H c=some (.ext (fy c o))->h'.get? c=some o:=fun c z o e=>u.keep c o (show fy c o h from(x c _ e).1) (pI z) (nf c z) #[11]
 have gone:∀ c∈cs,H' c=none:=fun c z=>by
  obtain⟨o,e⟩:=k c z
  exact u.free c o (show fy c o h from(x c _ e).1) (pI z) #[11]
 refine⟨⟨fun b o e n hb _=>u.keep b o e #[308] hb #[11],fun b o e n hb _=>u.slot b o e #[308] hb #[11],fun b o e n _=>by rw[mv (nb b n)];exact u.free b o e #[308] #[11],
  fun b o e _=>u.there b o e #[11],fun b xs e=>?_,fun b o v e=>?_,fun b ps e=>?_⟩,fun b v e=>?_⟩
 ·exists 71
  rw[mv hb]
  exact u.tups b xs (by rw[dB hb];exact e)
 ·exists 71
  rw[mv hb]
  exact u.frzs b o v (by rw[dB hb];exact e)
 ·exists 71
  rw[mv hb]
  exact u.tbls b ps (by rw[dB hb];exact e)
 ·by_cases hb:b∈cs
  ·rw[L6 hb]at e
   obtain⟨o,r⟩:=k b hb
   rw[r]at e
   cases e
   exact fy.ok (cell b hb o r)
  ·rw[mv hb]at e
   refine(x' b v e).rn (fun _ _ _ q=>q) (fun c q=>?_) fun c xs q=>?_<;>rw[mv]<;>first|exact q|(intro z;rw[gone _ z]at q;cases q)
end
def P8(P:Zx)(w:World)(K:WC)(mg:QB->Option Value)(base:Heap)(N:List QB)(qual:QB)(scope:Scope)(f:Zg)(cd:Value)(bc:List #[282])(A:Around)(outer:List Zn)(s:QA)(H:Hp):Cx where
 prog:=P
 w:=w
 K:=K
 mg:=mg
 base:=base
 A:=A.deeper (Ye qual scope s.heap.objs.size f cd bc)
 N:=N
 s₀:=s
 H₀:=H
 env:=Ye qual scope s.heap.objs.size f cd bc
 outer:=outer
 stack:=Ye qual scope s.heap.objs.size f cd bc :: outer
 ex:=[]
 calm:=true
 fn:=fun _=>false
 pn:=[]
 xe:=fun _ _=>False
structure wA(ps fr:List QB)(sc:Scope):Prop where
 kind:sc.kind=.function
 co:sc.isCoroutine=false
 gen:sc.isGenerator=false
 nd:(ps++fr).Nodup
 par:∀ x∈ps,sc.names.lookup x=some .local
 fre:∀ x∈fr,sc.names.lookup x=some .free
 nocell:∀ y∈sc.names,y.2≠.cell
 all:∀ y∈sc.names,y.2=.free->y.1∈fr
theorem lookup_mem:∀ {l:List (QB×α)} {x:QB},x∈l.map (·.1)->∃ c,l.lookup x=some c
 | [],x,h=>by simp at h
 | (y,d) :: r,x,h=>by
  rw[jq]
  by_cases e:x=y
  ·subst e;simp
  ·rw[show(x==y)=false from beq_false_of_ne e]
   exact lookup_mem (by simpa[e]using h)
theorem K2{l:List #[282]}(nd:(l.map (·.2)).Nodup)(h1:l.lookup x=some c)(h2:l.lookup y=some c):x=y:=by
 have m1:=WK h1
 have m2:=WK h2
 have key:∀ {l:List #[282]},(l.map (·.2)).Nodup->(x,c)∈l->(y,c)∈l->x=y:=by
  intro l
  induction l with
  | nil=>intro _ h;simp at h
  | cons p r ih =>
   intro nd m1 m2
   obtain⟨nn,nr⟩:=jh.mp (show(p.2 :: r.map (·.2)).Nodup from nd)
   rcases jW.mp m1 with e1|m1
   ·rcases jW.mp m2 with e2|m2
    ·rw[<- e1]at e2
     cases e2
     rfl
    ·exact absurd (jM.mpr ⟨(y,c),m2,by rw[<- e1]⟩) nn
   ·rcases jW.mp m2 with e2|m2
    ·exact absurd (jM.mpr ⟨(x,c),m1,by rw[<- e2]⟩) nn
    ·exact ih nr m1 m2
 exact key nd m1 m2
theorem Paired.at{F:α->β->Prop}:∀ {l₁:List α} {l₂:List β},Zv F l₁ l₂->∀ {i:Nat} {b:β},l₂[i]?=some b->∃ a,l₁[i]?=some a/\F a b
 | _,_,.nil,i,b,e=>by simp at e
 | _,_,.cons r t,0,b,e=>by
  simp at e
  subst e
  exact⟨_,rfl,r⟩
 | _,_,.cons r t,i+1,b,e=>by
  obtain⟨a,h1,h2⟩:=Paired.at t (i:=i) (by simpa using e)
  exact⟨a,by simpa using h1,h2⟩
theorem pJ:∀ {l:List (QB×α)} {x:QB} {c:α},(l.map (·.1)).Nodup->(x,c)∈l->l.lookup x=some c
 | [],_,_,_,h=>by simp at h
 | (y,d) :: r,x,c,nd,h=>by
  obtain⟨nn,nr⟩:=jh.mp (show(y :: r.map (·.1)).Nodup from nd)
  rw[jq]
  rcases jW.mp h with e|h
  ·cases e
   simp
  ·have ne:x≠y:=fun e=>nn (by rw[<- e];exact jM.mpr ⟨(x,c),h,rfl⟩)
   rw[show(x==y)=false from beq_false_of_ne ne]
   exact pJ nr h
theorem N7:∀ {ps:List QB} {us:List Value},(#[145].map (·.1)).Sublist ps
 | [],_=>by simp
 | _ :: _,[]=>by simp
 | p :: ps,u :: us=>by
  show(p :: #[145].map (·.1)).Sublist (p :: ps)
  exact N7.cons₂ p
theorem CJ(nd:ps.Nodup)(h1:ps[i]?=some x)(h2:us[i]?=some u):#[145].reverse.lookup x=some u:=by
 refine pJ ?_ (zh.mpr (JI (i:=i) ?_))
 ·rw[List.map_reverse]
  refine List.pairwise_reverse.mpr (List.Pairwise.imp (fun h=>Ne.symm h) (List.Nodup.sublist ?_ nd))
  exact N7
 ·rw[zY]
  exact⟨h1,h2⟩
section
variable{k:Nat}{bc:List (QB×Zg)}{vs:List V}{t:TE}
theorem W8(S:wA ps (bc.map (·.1)) scope)(L:pw H f c' qual params body scope bc IA)(hr:cI (k+1) A)(e0:B3 P w K mg base A outer s H)(r:Vals vs us)(hl:vs.length=ps.length)(Hk:∀ pm FG,bindArgs #[239] ⟨us,[]⟩=pure #[145])(hb:PE #[126] body t)(ht:t ((vs++IA).map some) (less H #[88]) fun v H'=>Q v (back H #[88] H')):
  codeAny #[97] A (.call #[46] ⟨us,[]⟩) (fun r s'=>∃ u,r=.ok (.ret u)/\CE outer P w H s Q u s') s:=by
 obtain⟨pm,FG,ef⟩:oC f qual params body scope bc c' s.heap:=(e0.hok f _ L.fn).1
 obtain⟨oc,cv,tc,e1,e2,e3⟩:mV c' qual s.heap:=(e0.hok c' _ L.cd).1
 have cells:Cells H #[88]:=fun c hc=>by
  obtain⟨⟨y,c2⟩,hm,rfl⟩:=jM.mp hc
  obtain⟨i,hi⟩:=List.getElem?_of_mem hm
  have hl2:i<IA.length:=by rw[<- L.cl.length];exact(jf.mp hi).1
  obtain⟨a,h1,o,u,h2,_⟩:=Paired.at L.cl (jA hl2)
  rw[hi]at h1
  cases h1
  exact⟨o,h2⟩
 exists 29
 have nfr:∀ c∈bc.map (·.2),c∉Bb outer:=fun c hc z=>by
  obtain⟨o,e⟩:=cells c hc
  rw[e0.frf c z]at e
  cases e
 refine PySem.W.kla_callFunE hr.depth ef rfl S.co S.gen rfl ⟨c',oc,cv,tc,rfl,e1,e2,e3⟩ ?_
 rw[Hk]
 refine qX (qP S.nocell (fun y hy=>S.par y.1 (Jr (show(y.1,y.2)∈ps.zip us from hy)).1) (fun h₁ hns hsb=>⟨lim.fresh _ hsb,?_⟩) S.kind)
 have hk:∀ b o,s.heap.get? b=some o->h₁.get? b=some o:=fun b o e=>hsb.extBut b o (jO (jJ e)) (jB _ e)
 have X1:∀ b:Zg,b∉([]:List Zg):=fun b z=>absurd z #[11]
 have I:Inv #[126] [] ((vs++IA).map some) (less H #[88]) { s with heap:=h₁,toks:=s.toks+#[145].length }:=by
  refine⟨⟨e0.mod,S.kind,rfl,rfl,jF _,fun y z c h1 h2=>K2 L.nd h1 h2,fun y hy=>?_,fun y c h=>(nomatch h),fun _=>hr.hd,Around.frames_deeper e0.frames,.inr ⟨rfl,rfl⟩,fun b z=>absurd z (X1 b),fun b o e=>⟨(e0.bs b o e).1,?_⟩,e0.bsz,fun b _ _=>X1 b,fun b z=>absurd z (X1 b),e0.sQ,fun b hb=>?_⟩,
   rfl,e0.bare,Un.kept hk,⟨_,hns,fun i y v h1 h2 h3=>?_⟩,fun y c h=>?_,?_,fun y c h=>pI (jM.mpr ⟨(y,c),WK h,rfl⟩),fun p hp=>absurd (show p∈([]:List #[44])from hp) #[11],(e0.hok.aeN cells).kept hk,?_⟩
  ·exists 105
   rcases hy with hy|hy
   ·exact absurd rfl (S.nocell _ (WK hy))
   ·exact lookup_mem (S.all _ (WK hy) rfl)
  ·show less H #[88] b=none
   by_cases z:b∈bc.map (·.2)
   ·exact pI z
   ·rw[dB z];exact(e0.bs b o e).2
  ·show less H #[88] b=none
   by_cases z:b∈bc.map (·.2)
   ·exact pI z
   ·rw[dB z];exact e0.frf b hb
  ·have h1:(ps++bc.map (·.1))[i]?=some y:=h1
   rw[jP]at h2
   by_cases hi:i<vs.length
   ·rw[jk hi]at h2
    have ha:vs[i]?=some v:=by
     cases e:vs[i]? with
     | none=>rw[e]at h2;cases h2
     | some a=>rw[e]at h2;cases h2;rfl
    rw[jk (by rw[<- hl];exact hi)]at h1
    obtain⟨u,hu,rv⟩:=r.get ha
    have ndP:ps.Nodup:=(JA.mp S.nd).1
    refine⟨u,rv,.inl ⟨S.par y (JI h1),?_⟩⟩
    show#[145].reverse.lookup y=some u
    exact CJ ndP h1 hu
   ·rw[jm (Jm hi)]at h2
    rw[jm (by rw[<- hl];exact Jm hi),<- hl]at h1
    have ha:IA[i-vs.length]?=some v:=by
     cases e:IA[i-vs.length]? with
     | none=>rw[e]at h2;cases h2
     | some a=>rw[e]at h2;cases h2;rfl
    obtain⟨⟨y2,c2⟩,g1,o,u,g2,g3,g4⟩:=Paired.at L.cl ha
    rw[jP,g1]at h1
    cases h1
    refine⟨u,g4,.inr ⟨.inr (S.fre y2 (jM.mpr ⟨(y2,c2),JI g1,rfl⟩)),c2,?_,o,hk _ _ (show fy c2 o s.heap from(e0.hok c2 _ g2).1),g3⟩⟩
    exact pJ (JA.mp S.nd).2.1 (JI g1)
  ·obtain⟨v,o,u,g2,g3,g4⟩:=Paired.lookup L.cl h
   exact⟨some u,o,hk _ _ (show fy c o s.heap from(e0.hok c _ g2).1),g3⟩
  ·show less H #[88] s.heap.objs.size=none
   by_cases z:s.heap.objs.size∈bc.map (·.2)
   ·exact pI z
   ·rw[dB z];exact e0.hok.fresh (jF _)
  ·show((vs++IA).map some).length=(ps++bc.map (·.1)).length
   rw[jQ,jG,jG,jQ,hl,L.cl.length]
 refine PySem.W.kla_codeExpr (qO (hb [] _ _ _ _ I ht) (fun u s' ⟨v,H',J,rv,q⟩=>?_) fun e s' z=>False.elim z)
 obtain⟨un,hok⟩:=Un.back J.base cells e0.hok J.hok nfr
 exact⟨u,rfl,v,_,J.os,J.bare,un,hok,rv,q⟩
end
def FnV(v:V)(H:Hp):Prop := ∃ f qual params body scope bc c',v=.ref f/\H f=some #[85]
def LR(X:Cx)(R:V->List V->Hp->VK->Prop):Prop := ∀ (pins:List #[44]) (s:QA) (σ:St) (H:Hp) (f:Zg) (vs:List V) (us:List Value) (Q:VK),Inv X pins σ H s->Vals vs us->R #[46] vs H Q->wpAny #[5] X.A (call #[46] us) #[74] X.xe s
def acq(R:V->List V->Hp->VK->Prop)(tf:TE)(t:TA):TE:=fun σ H Q=>tf σ H fun v H1=>FnV v H1/\t σ H1 fun vs H2=>FnV v H2/\R v vs H2 Q
section
variable{t:TA}{R:V->List V->Hp->VK->Prop}
theorem FnV.at{v:V}(F:FnV v H)(hok:eV P w H h)(r:RelV v u):∃ f,v=.ref f/\u=.ref f/\PySem.W.FnAt f h:=by
 obtain⟨f,qual,params,body,scope,bc,c',rfl,e⟩:=F
 obtain rfl:u=WD f:=r
 obtain⟨pm,FG,z⟩:oC f qual params body scope bc c' h:=(hok f _ e).1
 exact⟨f,rfl,rfl,_,_,_,_,z⟩
theorem oV(hf:PE X (.Name x p) tf)(ha:PA X (e :: es) t)(hc:LR X R)(he:Qa (e :: es) X.env=#[17] :: Qa es X.env:=by rfl)(tw:#[20].any (·.1)=false:=by rfl):PE X #[19] (acq R tf t):=by
 exists 4
 refine Qj (cf (hf pins s σ H _ I h) fun u s1 ⟨v,H1,I1,r,F,q⟩=>?_)
 obtain⟨f,rfl,rfl,fa⟩:=F.at I1.hok r
 refine PySem.W.callWith_F fa (cf (ha pos pins s1 σ H1 _ I1 q) fun us s2 ⟨vs,H2,I2,r2,F2,q2⟩=>?_) he tw
 obtain⟨f',e1,e2,fa2⟩:=F2.at I2.hok (show RelV (V.ref f) (WD f)from rfl)
 cases e1
 exact⟨fa2,hc pins s2 σ H2 f vs us Q I2 r2 q2⟩
end
theorem RM{k:Nat}{fr:List QB}(hr:cI (k+1) X.A)(S:wA ps fr scope)(Hk:∀ (us:List Value),us.length=ps.length->∀ qual bc c' pm FG,bindArgs #[239] ⟨us,[]⟩=pure #[145])(hb:∀ (qual:QB) (f c':Zg) (bc:List #[282]) (s:QA) (H:Hp),bc.map (·.1)=fr->cI k (X.A.deeper (Ye qual scope s.heap.objs.size f (.ref c') bc)) ->
   PE (P8 X.prog X.w X.K X.mg X.base (ps++fr) qual scope f (.ref c') bc X.A X.stack s H) body te):
  LR X fun v vs H Q=>vs.length=ps.length/\∃ f c' qual bc IA,v=.ref f/\bc.map (·.1)=fr/\pw H f c' qual params body scope bc IA/\te ((vs++IA).map some) (less H #[88]) fun v H'=>Q v (back H #[88] H'):=by
 intro pins s σ H f0 vs us Q I r ⟨hl,f,c',qual,bc,IA,ev,FJ,L,ht⟩
 cases ev
 subst FJ
 refine Qr (QL (W8 (k:=k) S L hr I.Oq r hl (fun pm FG=>Hk us (by rw[<- r.length];exact hl) qual bc c' pm FG) (hb qual f0 c' bc s _ rfl (hr.deeper _)) ht) fun r s' ⟨u,e,ce⟩=>?_)
 subst e
 exact I.after ce
theorem TN(a:Yf K QU x=some #[172])(l:K.lookup f=some ⟨oc,od,.func fd,sl⟩)(t:Wk K x=some (c,Pt)):fd.code=.ref c:=by
 unfold Wk at t
 rw[a]at t
 simp only[l]at t
 split at t
 ·rename_i c2 e
  split at t
  ·split at t
   ·cases t;exact e
   ·cases t
  ·cases t
 ·cases t
open Classical in
noncomputable def Mt(cells:List #[282])(h:Heap)(H:Hp):Hp:=fun b=>if ∃ y,cells.lookup y=some b then(h.get? b).map fun o=>.ext (fy b o)else H b
theorem Hv{cells:List #[282]}(hy:cells.lookup y=some b)(e:h.get? b=some o):Mt cells h H b=some (.ext (fy b o)):=by
 unfold Mt
 rw[if_pos ⟨y,hy⟩,e]
 rfl
theorem fk{cells:List #[282]}(n:∀ y,cells.lookup y≠some b):Mt cells h H b=H b:=if_neg fun⟨y,e⟩=>n y e
theorem bE.okR{N:List QB}{k:Nat}(F:bE K x qual st dV f fd)(hc:fd.code=.ref c)(S:aJ N ps (aj st))(len:∀ vs H Q E,sp vs H Q E->vs.length=ps.length)(wX:cu st=[.Return (some e) pos])(rM:∀ (A:Around) (outer:List Zn) (s:QA) (H:Hp) (vs:List V) (Q:VK) (E:XK),cI k (A.deeper #[10])->sp vs H Q E ->
   ∃ te,PE #[225] e te/\te #[150] H fun v H'=>∀ BM:Hp,(∀ b,(∀ y,#[10].cells.lookup y≠some b)->BM b=H' b) ->
    (∀ (i:Nat) (y:QB) (z:V) (d:Zg),N[i]?=some y->#[150][i]?=some (some z)->(aj st).names.lookup y=some .cell->#[10].cells.lookup y=some d->H' d=none/\ads BM d z)->Q v BM):bu P w K mg base eA (k+1) f fd ps sp:=by
 exists 17
 obtain rfl:ck=.ref c:=hc
 exists 77
 have hl:=len _ _ _ _ FK
 exists 78
 exists 29
 have Hm:∀ y∈ps.zip us,(aj st).names.lookup y.1=some .local\/((aj st).names.lookup y.1=some .cell/\((cellsFrom #[15] (aj st).names []).lookup y.1).isSome=true):=fun⟨n,v⟩ hy=>by
  rcases S.par n (Jr hy).1 with q|q
  ·exact .inl q
  ·exact .inr ⟨q,Wr _ _ _ (.inl q)⟩
 exists 47
 refine qQ S.kind Hm fun env he s1 x=>?_
 subst he
 exists 143
 exists 87
 have I:Inv #[225] [] #[150] H s1:=AG S hr.hd e0 hl r x
 rw[wX]
 refine Qz (Qn (qO (ht [] s1 #[150] H _ I hq) (fun u s' hs=>?_) fun e s' hs=>hs))
 show CE outer P w H s Q u s'
 obtain⟨v,H',J,rv,q⟩:=hs
 have fr:∀ y d,#[10].cells.lookup y=some d->H' d=none:=fun y d e=>J.freeC y d e
 have ge:∀ y d,#[10].cells.lookup y=some d->s.heap.objs.size<=d:=fun y d e=>J.ok.cab y d rfl e
 have no:∀ b z,H' b=some z->∀ y,#[10].cells.lookup y≠some b:=fun b z e y hy=>by rw[fr y b hy]at e;cases e
 have aiR:∀ b o,s.heap.get? b=some o->∀ y,#[10].cells.lookup y≠some b:=fun b o e y hy=>JZ _ (jV (jJ e) (ge y b hy))
 refine⟨v,Mt #[10].cells s'.heap H',J.os,J.bare,⟨J.base.keep,J.base.slot,fun b o e n hx=>?_,J.base.there,fun b xs e=>?_,fun b o z e=>?_,fun b qs e=>?_⟩,fun b z e=>?_,rv,q _ (fun b n=>fk n) fun i y z d h1 h2 h3 h4=>⟨fr y d h4,?_⟩⟩
 ·rw[fk (aiR b o e)]
  exact J.base.free b o e n hx
 ·have e' := J.base.tups b xs e
  rw[fk (no b _ e')]
  exact e'
 ·have e' := J.base.frzs b o z e
  rw[fk (no b _ e')]
  exact e'
 ·obtain⟨more,e'⟩:=J.base.tbls b qs e
  exact⟨more,by rw[fk (no b _ e')];exact e'⟩
 ·by_cases hb:∃ y,#[10].cells.lookup y=some b
  ·obtain⟨y,hy⟩:=hb
   obtain⟨cv,o,ho,_⟩:=J.cell y b hy
   rw[Hv hy ho]at e
   cases e
   exact fy.ok ho
  ·have hn:∀ y,#[10].cells.lookup y≠some b:=fun y hy=>hb ⟨y,hy⟩
   rw[fk hn]at e
   exact(J.hok b z e).rn (fun _ _ _ q=>q) (fun d q=>by rw[fk (no d _ q)];exact q) fun d xs q=>by rw[fk (no d _ q)];exact q
 ·obtain⟨m,_,hl⟩:=J.loc
  obtain⟨u',ru,hlk⟩:=hl i y z h1 h2 (.inr (.inl h3))
  rcases hlk with⟨hk,_⟩|⟨_,c2,hc2,o,ho,ahF⟩
  ·have J1:(aj st).names.lookup y=some .local:=hk
   rw[h3]at J1
   cases J1
  have ad9:#[10].cells.lookup y=some c2:=hc2
  rw[h4]at ad9
  cases ad9
  exact⟨o,u',Hv h4 ho,ahF,ru⟩
def IH(Ps:List Zg)(H:Hp):Prop:=(∀ b∈Ps,H b=some (.BZ #[]))/\∀ b,b∉Ps->H b=none\/∃ o xs,H b=some (.oN o #[232])
theorem K0{k:Nat}{fa a:Zg}(KX:K.In s₁.heap)(hns:s₁.heap.Ns QU mg)(hb:s₁.heap.Ns builtinsNs mb)(hbb:∀ x:QB,x ≠ "__name__" -> mb x=QE x)(ahT:s₁.heap.NoLimit)(hg:s₁.gens=#[])(ha:s₁.heap.get? a=some { cls:=.type "list",data:=.seq vs.toArray })(hi:Zq vs ns)(hl:ns.length<=sizeLine)(hr:cI k callerA)(hP:∀ b∈Ps,isCodeTable s₁.heap b/\s₁.heap.get? b=some (YD #[])/\K.lookup b=none)(hbm:B1 s₁.heap mg)(F:∀ base:Heap,K.In base->base.Ns QU mg->B1 base mg->bu P w K mg base CX k fa fd [x] sp)(Hk:∀ (s:QA) (u:Value),Zj s fd ⟨[u],[]⟩ [(x,u)])(FK:∀ H:Hp,IH Ps H->pZ K H a #[45]->sp [.ref a] H (fun v _=>v=.bl true) fun _ _ _=>False)(hCX:∀ H e s',CX [] H s₁ (fun _ _ _=>False) e s'->False):
  codeAny #[97] callerA #[210] #[49] s₁:=by
 have rv:=Er hi
 have aix:=hi.length
 have core:∀ H:Hp,IH Ps H->pZ K H a #[45]->eV P w H s₁.heap->(∀ b,H b≠none->b=a\/b∈Ps)->(H a≠none->K.lookup a=none) ->
   codeAny #[97] callerA #[210] #[49] s₁:=by
  intro H hO hS hok hA hK
  have free:∀ {b:Zg} {o:Obj},s₁.heap.get? b=some o->o.cls≠.none->b≠a->H b=none:=fun {b o} e d na=>by
   cases q:H b with
   | none=>rfl
   | some u =>
    rcases hA b (by rw[q];simp)with e'|e'
    ·exact absurd e' na
    ·rw[(hP b e').2.1]at e
     cases e
     exact absurd rfl d
  have EG:∀ {b:Zg} {o:Obj},s₁.heap.get? b=some o->H b=none->#[261].get? b=some o:=fun e n=>Rn e n
  have X1:∀ {b:Zg} {o:Obj} {es:Array Zl} {ep:Nat},s₁.heap.get? b=some o->o.data=.dict es ep->H b=none:=fun {b o es ep} e d=>by
   cases q:H b with
   | none=>rfl
   | some u =>
    rcases hA b (by rw[q];simp)with e'|e'
    ·subst e'
     rw[ha]at e;cases e
     have d':Data.seq vs.toArray _=Data.dict es ep:=d
     cases d'
    ·rw[(hP b e').2.1]at e;cases e
     have d':Data.fields #[]=Data.dict es ep:=d
     cases d'
  have nsK:∀ {b:Zg} {m:QB->Option Value},s₁.heap.Ns b m->#[261].Ns b m:=fun {b m} ⟨o,es,ep,e,d,r⟩=>⟨o,es,ep,EG e (X1 e d),d,r⟩
  have hKb:K.In #[261]:=fun b o e=>EG (KX b o e) (by
   cases q:H b with
   | none=>rfl
   | some u =>
    rcases hA b (by rw[q];simp)with e'|e'
    ·subst e'
     rw[hK (by rw[q];simp)]at e;cases e
    ·rw[(hP b e').2.2]at e;cases e)
  have hB:B1 #[261] mg:=by
   obtain⟨bm,o,b1,b2,b3,b4,b5,b6,b7⟩:=hbm
   refine⟨bm,o,b1,b2,b3,EG b4 (free b4 (by rw[b5];intro z;cases z) fun z=>?_),b5,b6,b7⟩
   rw[z,ha]at b4
   cases b4
   cases b7
  have hM:Mod K mg #[261]:=⟨hKb,nsK hns,⟨mb,nsK hb,hbb⟩,let ⟨mc,h1,h2⟩:=ahT;⟨mc,nsK h1,h2⟩⟩
  have e0:B3 P w K mg #[261] callerA [] s₁ H:=⟨rfl,hM,fun b o e=>X3 e,Ze (OJ _ _),trivial,fun b hb=>absurd (show b∈([]:List Zg)from hb) #[11],hok,.of_eq hg⟩
  refine QL ((F _ hKb (nsK hns) hB).run callerA [] s₁ H ⟨[.ref a],[]⟩ [.ref a] [.ref a] _ _ hr e0 (Hk s₁ #[75]) (.cons rfl .nil) (FK H hO hS)) fun r s' h=>?_
  cases r with
  | error e=>exact(hCX H e s' h).elim
  | ok fl =>
   cases fl with
   | next=>exact False.elim h
   | brk=>exact False.elim h
   | cont=>exact False.elim h
   | ret u =>
    obtain⟨v,H',os,bare,un,aev,r',q⟩:=h
    have q':v=.bl true:=q
    subst q'
    obtain rfl:u=Yz true:=r'
    have PV:∀ b o,s₁.heap.get? b=some o->asItWas s₁.heap s'.heap b o:=fun b o e=>by
     by_cases hb:b∈Ps
     ·obtain⟨h1,h2,_⟩:=hP b hb
      rw[h2]at e
      cases e
      obtain⟨more,z⟩:=un.tbls b _ (hO.1 b hb)
      have z2:s'.heap.get? b=some { cls:=.none,data:=.fields (#[]++more) }:=aev b _ z
      exact .inr (.inl ⟨h1,rfl,#[],more,rfl,z2⟩)
     ·refine .inl ?_
      cases q:H b with
      | none=>exact un.keep b o e q (by intro z;exact absurd (show b∈([]:List Zg)from z) #[11]) #[11]
      | some u =>
       rcases hO.2 b hb with z|⟨ob,xs,z⟩
       ·rw[q]at z;cases z
       ·have z2:=un.frzs b ob _ z
        obtain⟨e1,_⟩:=hok b _ z
        obtain⟨e2,_⟩:=aev b _ z2
        rw[e]at e1;cases e1
        exact e2
    exact⟨rfl,⟨PV,fun b o e=>un.there b o e #[11]⟩,os,bare⟩
 have naP:a∉Ps:=fun z=>by
  have:=(hP a z).2.1
  rw[ha]at this
  cases this
 obtain⟨T,eT⟩:∃ T:Hp->Hp,∀ G b,T G b=if b∈Ps then some (.BZ #[])else G b:=⟨fun G b=>if b∈Ps then some (.BZ #[])else G b,fun _ _=>rfl⟩
 have t1:∀ {G:Hp} {b:Zg},b∈Ps->T G b=some (.BZ #[]):=fun {G b} h=>(eT G b).trans (if_pos h)
 have t2:∀ {G:Hp} {b:Zg},b∉Ps->T G b=G b:=fun {G b} h=>(eT G b).trans (if_neg h)
 cases hk:K.lookup a with
 | some o =>
  have e:=KX a o hk
  rw[ha]at e
  cases e
  refine core (T fun _=>none) ⟨fun b hb=>t1 hb,fun b hb=>.inl (t2 hb)⟩ (.inr ⟨_,vs.toArray,_,hk,rfl,rfl,rfl,by rw[jT,aix];exact hl,by simpa using rv⟩) (fun b u z=>?_) (fun b z=>?_) fun z=>absurd (t2 naP) z
  ·by_cases hb:b∈Ps
   ·rw[t1 hb]at z
    cases z
    exact(hP b hb).2.1
   ·rw[t2 hb]at z
    cases z
  ·by_cases hb:b∈Ps
   ·exact .inr hb
   ·exact absurd (t2 hb) z
 | none =>
  obtain⟨G,eG⟩:∃ G:Hp,∀ b,G b=if b=a then some #[222]else none:=⟨_,fun _=>rfl⟩
  have g1:G a=some #[222]:=(eG a).trans (if_pos rfl)
  have g2:∀ {b:Zg},b≠a->G b=none:=fun {b} h=>(eG b).trans (if_neg h)
  refine core (T G) ⟨fun b hb=>t1 hb,fun b hb=>?_⟩ (.inl (.inr ⟨{ cls:=.type "list",data:=.seq vs.toArray },(t2 naP).trans g1⟩)) (fun b u z=>?_) (fun b z=>?_) fun _=>hk
  ·by_cases h:b=a
   ·subst h
    exact .inr ⟨_,_,(t2 hb).trans g1⟩
   ·exact .inl ((t2 hb).trans (g2 h))
  ·by_cases hb:b∈Ps
   ·rw[t1 hb]at z
    cases z
    exact(hP b hb).2.1
   ·rw[t2 hb]at z
    by_cases h:b=a
    ·subst h
     rw[g1]at z
     cases z
     exact⟨ha,by rw[jQ];exact hl,vs,_,rv,ha⟩
    ·rw[g2 h]at z
     cases z
  ·by_cases hb:b∈Ps
   ·exact .inr hb
   ·rw[t2 hb]at z
    by_cases h:b=a
    ·exact .inl h
    ·exact absurd (g2 h) z
structure IK(K:WC)(ts:List Zg)(c Pt:Zg):Prop where
 hd:Yd K c Pt=true
 nl:K.lookup Pt=none
 tm:Pt∈ts
theorem Pw{l:YN}{n k:Nat}{XP:(QB->Option Value)->Heap->Prop}{YP:World->Heap->Prop}{d:DefRec}{K:Params->WC}{CX:World->FP}{sp:World->List Zg->Sp}(hn:l.most=some n)(hn2:n<=sizeLine)(hdf:d.params.defaults=[])(hr:cI k callerA)(hY:∀ (w:World) (h:Heap),YP w h->#[157].In h/\∀ P,P∈ts->h.get? P=some (YD #[]))(F:∀ (w:World) (mg:QB->Option Value) (fa:Zg) (h:Heap),#[157].In h->h.Ns QU mg->mg d.name=some (.ref fa) ->
   ∃ (fd:Zo) (Ps:List Zg),(∀ b∈Ps,∃ c,IK #[157] ts c b)/\(∀ (s:QA) (u:Value),Zj s fd ⟨[u],[]⟩ [(x,u)]) /\
    ∀ base:Heap,#[157].In base->base.Ns QU mg->B1 base mg->bu l.prog w #[157] mg base (CX w) k fa fd [x] (sp w Ps))(FK:∀ (w:World) (Ps:List Zg) (H:Hp) (a:Zg) (ns:List Int),ns.length<=n->IH Ps H->pZ #[157] H a #[45]->sp w Ps [.ref a] H (fun v _=>v=.bl true) fun _ _ _=>False)(hCX:∀ (w:World) (H:Hp) (s:QA) (e:Value) (s':QA),CX w [] H s (fun _ _ _=>False) e s'->False):
  yp q loose XP YP l.row.toRowW d [] (fun f vs=>yc f vs):=by
 refine Att.F7 hn hdf fun w s₀ s₁ mg mb fa o pm cd doc a vs ns G Y ho hd Dx hmg abz hints hlen hg=>?_
 have KX:=(hY w _ Y).1
 obtain⟨fd,Ps,hT,hb,hF⟩:=F w mg fa _ KX G.T.g hmg
 have hbm:B1 s₁.heap mg:=by
  obtain⟨bm,ob,b1,b2,b3,b4,b5,b6⟩:=G.T.bmain
  refine⟨bm,ob,b1,b2,fun z=>?_,b3,b4,b5,b6⟩
  obtain⟨og,es,ep,e1,e2,_⟩:=G.T.g
  rw[z,e1]at b3
  cases b3
  rw[e2]at b6
  cases b6
 refine K0 KX G.T.g G.T.b G.T.builtins G.T.nolimit hg abz hints (jo hlen hn2) hr (fun b hb=>?_) hbm hF hb (fun H hO hS=>FK w Ps H a ns hlen hO hS) fun H e s'=>hCX w H s₁ e s'
 obtain⟨c,T⟩:=hT b hb
 exact⟨EL (yF KX T.hd),(hY w _ Y).2 b T.tm,T.nl⟩
end L2
set_option maxHeartbeats 8000000
namespace My
open PySem L2
variable{α:Type}{i m n many wide j many1 aU:Nat}{K:WC}{H H' H0:Hp}{xs IA:List V}{N ps loose:List QB}{P:Zx}{sc scope:Scope}{ix:List (Option Nat)}{X:Cx}{x b y h q bl:Int}{e body:Expr}{te:TE}{pos:Pos}{D ra f B C go wt iw F0 f0 CT Pt T fa cR eB dH dP dG DF sP rG eX:Zg}{σ:St}{o:Obj}{cM ts ds Ps:List Zg}{w:World}{mg:QB→Option Value}{base:Heap}{fd:Zo}{dV oc doc pm ck ct tc:Value}{kvs:List (Key×V)}{sg grp OC c φ ru:Int→Int}{d:V}{spB spS spG sp:Sp}{qual:QB}{params:Zi}{st:Stmt}{od an td:Option Zg}{Dm tsl:Array (Option Value)}
abbrev LL:=List (List Int)
abbrev LI:=List Int
abbrev OV:=Option V
theorem hX{l:List α}{a:α}(h:l[i]?=some a):∃ h:i<l.length,l[i]=a:=jf.mp h
theorem rj{l:List α}{a:α}(h:l[i]?=some a):a∈l:=JI h
theorem wb{a:α}{s t:List α}:a∈s++t↔a∈s\/a∈t:=Jq
theorem bz{β:Type}{f:α->β}{l:List α}:(l.map f).length=l.length:=jQ f
theorem bJ{a:Zg}(h:H a=some #[29]):sZ K H a xs:=sZ.of h
theorem cG{a:Zg}(h:H a=some #[232]):pZ K H a xs:=pZ.of h
def top(i:Nat):Stmt:=PySem.Challenge.pw_figuretell_k24_paired_and_changed.main.body.getD i #[300]
abbrev lH:Stmt:=top 5
abbrev Aj:Stmt:=top 7
abbrev dz:Stmt:=top 8
abbrev lW:Stmt:=top 9
abbrev cN:Stmt:=top 10
abbrev AN:Stmt:=top 11
abbrev BW:Stmt:=top 17
abbrev C6:Stmt:=top 19
abbrev sJ:Stmt:=top 20
abbrev oz:Stmt:=top 22
abbrev lV:Stmt:=top 23
abbrev rX:Stmt:=top 24
abbrev dW:Stmt:=top 25
abbrev fW:Stmt:=top 26
abbrev fV:Stmt:=top 27
abbrev lF:Stmt:=top 28
abbrev iG:Stmt:=top 29
abbrev oA:Stmt:=top 30
abbrev lG:Stmt:=top 31
abbrev pP:Stmt:=top 32
abbrev mU:Stmt:=top 33
abbrev dy:Stmt:=top 34
abbrev pO:Stmt:=top 35
abbrev mJ:Stmt:=top 36
abbrev fU:Stmt:=top 37
abbrev SS:Stmt:=top 38
abbrev eK:Stmt:=inClass (top 3) 0
abbrev cz:Stmt:=inClass (top 12) 0
abbrev iz:Stmt:=inClass (top 12) 1
abbrev dq:Stmt:=inClass (top 12) 2
abbrev iA:Stmt:=inClass (top 12) 3
abbrev dw:Stmt:=inClass (top 12) 4
abbrev fR:Stmt:=inClass (top 12) 5
abbrev ff:Stmt:=inClass (top 15) 0
abbrev lD:Stmt:=inClass (top 15) 1
abbrev mI:Stmt:=inClass (top 15) 2
abbrev mH:Stmt:=inClass (top 15) 3
abbrev fc:Stmt:=inClass (top 16) 0
abbrev lC:Stmt:=inClass (top 16) 1
abbrev mG:Stmt:=inClass (top 16) 2
abbrev mF:Stmt:=inClass (top 16) 3
theorem cU{P:List QB}(h:(sc.kind=.function/\sc.isCoroutine=false/\sc.isGenerator=false)/\N.Nodup/\N.take P.length=P/\(∀ x∈P,sc.names.lookup x=some .local\/sc.names.lookup x=some .cell)/\∀ y∈sc.names,y.2≠.free):aJ N P sc:=⟨h.1.1,h.1.2.1,h.1.2.2,h.2.1,h.2.2.1,h.2.2.2.1,h.2.2.2.2⟩
theorem rh{NX:List QB}{scX:Scope}(h:sc.kind=.function/\N.Nodup/\(∀ y∈sc.names,y.2≠.cell)/\(∀ y∈sc.names,y.2=.local->sc.names.lookup y.1=some .local)/\(∀ y∈sc.names,y.2=.free->scX.names.lookup y.1=some .cell\/scX.names.lookup y.1=some .free)/\ix.length=N.length/\∀ p∈N.zip ix,∀ i∈p.2,NX[i]?=some p.1/\sc.names.lookup p.1=some .free):bA NX scX N ix sc:=⟨h.1,h.2.1,h.2.2.1,h.2.2.2.1,h.2.2.2.2.1,h.2.2.2.2.2.1,fun p m i e=>h.2.2.2.2.2.2 p m i e⟩
theorem aL{x:QB}{pos':Pos}(hN:X.N.Nodup)(he:PE X e te)(hi:X.N[i]?=some x:=by rfl)(hx:Loc X.env.scope x:=by first|exact .inl rfl|exact .inr rfl)(hs:Qc e #[289] pos.line X.env=pure false:=by rfl)(hf:X.fn x=true\/X.env.scope.names.lookup x=some .local:=by first|exact .inl rfl|exact .inr rfl|assumption):PS X #[159] (Am te (bC i)):=SA hN hi hx he hs hf
theorem bB{x:QB}(hN:X.N.Nodup)(hi:X.N[i]?=some x:=by rfl)(hx:Loc X.env.scope x:=by first|exact .inl rfl|exact .inr rfl)(hf:X.fn x=true\/X.env.scope.names.lookup x=some .local:=by first|exact .inl rfl|exact .inr rfl|assumption):PG X #[266] (bC i):=Z1 hN hi hx hf
theorem sS{c A B:Prop}[Decidable c](h1:c->A)(h2:¬ c->B):if decide c=true then A else B:=abM (fun h=>h1 (of_decide_eq_true h)) fun h=>h2 fun z=>h (decide_eq_true z)
theorem Bc{c A B:Prop}[Decidable c](h1:¬ c->A)(h2:c->B):if (!decide c)=true then A else B:=abM (fun h=>h1 fun z=>by rw[decide_eq_true z]at h;cases h) fun h=>h2 (Decidable.byContradiction fun z=>h (by rw[decide_eq_false z];rfl))
theorem RF{a:Int}{A B:Prop}(h1:a=b->A)(h2:a≠b->B):if decide (V.int a=V.int b)=true then A else B:=sS (fun h=>h1 (V.int.inj h)) fun h=>h2 fun z=>h (congrArg V.int z)
theorem RT{a m n:Int}(a0:0<=a)(a1:a<=m)(b0:0<=b)(b1:b<=n):0<=a*b/\a*b<=m*n:=⟨Int.mul_nonneg a0 b0,Int.mul_le_mul a1 b1 b0 (Int.le_trans a0 a1)⟩
theorem eF{a:Int}(h:0<b):0<=a%b/\a%b<b:=⟨ZY a #[2],ZP a h⟩
theorem TR{t u:TS}{D:Ends}(R:St->Hp->Prop)(h2:∀ σ' H',R σ' H'->u D σ' H')(h1:(∀ σ' H',R σ' H'->u D σ' H')->Po t u D σ H):Po t u D σ H:=h1 h2
theorem cS{t u:TS}{D:Ends}(R:St->Hp->Prop)(h1:∀ σ' H',R σ' H'->u D σ' H')(h2:∀ D':Ends,(∀ σ' H',R σ' H'->D'.nx σ' H')->t D' σ H):Po t u D σ H:=h2 { D with nx:=u D } h1
theorem av{p:Zg}{o:HO}(h:aH H H')(hp:H p=none):aH H (upd H' p o):=fun b u e=>by rw[af (ah e hp)];exact h b u e
theorem fQ(h:0<=x):∃ n:Nat,x=(n:Int):=⟨x.toNat,by omega⟩
theorem getD_at{xs:List α}{d:α}(h:i<xs.length):xs.getD i d=xs[i]:=by simp[h]
theorem bK{ns:LI}{k:Int}(h0:0<=k)(h:k<(ns.length:Int)):Dh #[45] k=some (.int (ns.getD k.toNat 0)):=by
 have hk:k.toNat<ns.length:=by omega
 have ek:k=((k.toNat:Nat):Int):=by omega
 have q:Dh #[45] ((k.toNat:Nat):Int)=some (.int ns[k.toNat]):=wL (by rw[jP,jA hk]<;>rfl)
 rw[<- ek]at q
 rw[q,getD_at hk]
theorem oH{k:Int}(h0:0<=k)(h:cM[k.toNat]?=some ra):Dh #[51] k=some (.ref ra):=by
 have ek:k=((k.toNat:Nat):Int):=by omega
 have q:Dh #[51] ((k.toNat:Nat):Int)=some (.ref ra):=wL (by rw[jP,h]<;>rfl)
 rw[<- ek]at q
 exact q
theorem bU{ns:LI}{y:V}(h:#[45][i]?=some y):∃ z,y=V.int z/\ns[i]?=some z:=by
 rw[jP]at h
 cases e:ns[i]? with
 | none=>rw[e]at h;cases h
 | some z=>rw[e]at h;exact⟨z,(Option.some.inj h).symm,rfl⟩
theorem eR(K:WC):WM K (.type "tuple") (.type "tuple")=some true:=by with_unfolding_all rfl
def stepI(rows:LL)(h f:Int):Int:=(rows.getD h.toNat []).getD f.toNat 0
def aP(rows:LL)(row:LI)(h:Int):Int:=row.foldl (stepI rows) h
structure aD(many wide:Nat)(rows:LL):Prop where
 len:rows.length=many
 row:∀ r∈rows,r.length=wide
 val:∀ r∈rows,∀ v∈r,0<=v/\v<(many:Int)
theorem dF{rows:LL}{f:Int}(R:aD many wide rows)(h0:0<=h)(h1:h<many)(f0:0<=f)(f1:f<wide):0<=stepI rows h f/\stepI rows h f<many:=by
 have l1:h.toNat<rows.length:=by rw[R.len];omega
 have l2:f.toNat<rows[h.toNat].length:=by rw[R.row _ (jH l1)];omega
 unfold stepI
 rw[getD_at l1,getD_at l2]
 exact R.val _ (jH l1) _ (jH l2)
theorem fX{rows:LL}(R:aD many wide rows):∀ {ns:LI} {h:Int},(∀ f∈ns,0<=f/\f<(wide:Int))->0<=h->h<many->0<=aP rows ns h/\aP rows ns h<many
 | [],h,_,h0,h1=>⟨h0,h1⟩
 | f :: r,h,hf,h0,h1=>by
  obtain⟨a,b⟩:=dF R h0 h1 (hf f jE).1 (hf f jE).2
  exact fX (ns:=r) R (fun g hg=>hf g (jK _ hg)) a b
theorem lX(rows:LL)(xs ys:LI)(h:Int):aP rows (xs++ys) h=aP rows ys (aP rows xs h):=by
 unfold aP
 rw[JG]
def aI(H:Hp):List Zg->LL->Prop:=Zv fun a r=>H a=some (.tup #[263])
theorem aI.length{rows:LL}(h:aI H cM rows):cM.length=rows.length:=Paired.length h
theorem aI.get:∀ {H:Hp} {cM:List Zg} {rows:LL} {i:Nat},aI H cM rows->(h:i<rows.length)->∃ ra,cM[i]?=some ra/\H ra=some (.tup (rows[i].map V.int))
 | _,_,_,_,.nil,h=>by simp at h
 | _,_,_,0,.cons (a:=a) r _,_=>⟨a,rfl,r⟩
 | _,_,_,i+1,.cons _ t,h=>by
  obtain⟨ra,h1,h2⟩:=aI.get (i:=i) t (by simpa using h)
  exact⟨ra,by simpa using h1,by simpa using h2⟩
theorem aI.same{rows:LL}(h:aI H cM rows)(s:∀ b xs,H b=some #[29]->H' b=some #[29]):aI H' cM rows:=Paired.Fb h fun _ _ q=>s _ _ q
theorem aI.snoc:∀ {H:Hp} {cM:List Zg} {rows:LL} {a:Zg} {r:LI},aI H cM rows->H a=some (.tup #[263])->aI H (cM++[a]) (rows++[r])
 | _,_,_,_,_,.nil,h=>.cons h .nil
 | _,_,_,_,_,.cons q t,h=>.cons q (aI.snoc t h)
structure aV(H:Hp)(m r g:Zg)(wide:Nat)(rows:LL)(signs:LI):Prop where
 tup:H m=some (.tup [.int wide,.ref r,.ref g])
 rows:∃ cM,H r=some (.tup #[51])/\aI H cM rows
 sgn:H g=some (.tup #[305])
theorem aV.same{m r g:Zg}{rows:LL}{signs:LI}(M:aV H m r g wide rows signs)(s:∀ b xs,H b=some #[29]->H' b=some #[29]):aV H' m r g wide rows signs:=by
 obtain⟨h1,⟨cM,h2,h3⟩,h4⟩:=M
 exact⟨s _ _ h1,⟨cM,s _ _ h2,h3.same s⟩,s _ _ h4⟩
theorem mD{rows:LL}{f:Int}(A:aI H cM rows)(R:aD many wide rows)(h0:0<=h)(h1:h<many)(f0:0<=f)(f1:f<wide):
  ∃ (ra:Zg) (r:LI),Dh #[51] h=some (.ref ra)/\H ra=some (.tup #[263])/\Dh #[263] f=some (.int (stepI rows h f)):=by
 have l1:h.toNat<rows.length:=by rw[R.len];omega
 have l2:rows[h.toNat].length=wide:=R.row _ (jH l1)
 obtain⟨ra,e1,e2⟩:=A.get l1
 exists ra,rows[h.toNat],oH h0 e1,e2
 rw[bK f0 (by rw[l2];exact f1)]
 unfold stepI
 rw[getD_at l1]
variable{a u p ns r ks gs v ls col ins ws mem s dn aN qs s1 s2 b0 ay aE Fq:LI}{rows ms cols aw r1 r2 rs DU aB az MM:LL}
def bX(rows:LL)(ρ:Int->Int)(qs:LI):LL:=qs.map fun q=>#[56].map ρ
def cb(signs qs:LI):LI:=qs.map fun q=>signs.getD q.toNat 0
def adw(H:Hp)(D:Zg)(many:Nat)(rows:LL)(qs:LI)(ρ:Int->Int):Prop := ∃ kvs,H D=some #[54]/\∀ q∈qs,∀ t∈rows.getD q.toNat [],dZ kvs (Sum.inl t)=some (.int (ρ t))
def adx(H:Hp)(D:Zg)(many:Nat)(rows:LL)(qs:LI)(ρ:Int->Int):Prop := ∃ ns:LI,H D=some (.lst #[45])/\∀ q∈qs,∀ t∈rows.getD q.toNat [],(0<=t/\t<(ns.length:Int))/\ρ t=ns.getD t.toNat 0
def BX(K:WC)(Num:Hp->Zg->Nat->LL->LI->(Int->Int)->Prop):Sp:=fun vs H Q _=>∃ (m kl D r g:Zg) (many wide:Nat) (rows:LL) (signs qs:LI) (ρ:Int->Int),vs=[.ref m,.ref kl,.ref D]/\aV H m r g wide rows signs/\aD many wide rows/\signs.length=many/\(many<=1000/\wide<=1000) /\
 H kl=some (.lst (qs.map V.int))/\qs.length<=1000/\(∀ q∈qs,0<=q/\q<(many:Int))/\Num H D many rows qs ρ /\
 ∀ (m' r' g':Zg) (H':Hp),aH H H'->aV H' m' r' g' wide (bX rows ρ qs) #[319]->Q (.ref m') H'
theorem aI.kept(A:aI H cM rows)(R:aD many wide rows)(h0:0<=q)(h1:q<(many:Int)):∃ ra,Dh #[51] q=some (.ref ra)/\H ra=some (.tup (#[56].map V.int))/\#[56].length=wide:=by
 have l:q.toNat<rows.length:=by rw[R.len];omega
 obtain⟨ra,e1,e2⟩:=A.get l
 refine⟨ra,?_,by rw[getD_at l];exact e2,by rw[getD_at l];exact R.row _ (jH l)⟩
 have q':Dh #[51] ((q.toNat:Nat):Int)=some (.ref ra):=wL (by rw[jP,e1];rfl)
 rw[jd h0]at q'
 exact q'
section
theorem bW:aJ ["machine","kept","numbers","rows","signs","kept_rows","here"] ["machine","kept","numbers"] (aj dz):=cU #[4]
theorem eN:bA ["machine","kept","numbers","rows","signs","kept_rows","here"] (aj dz) ["there","numbers"] [none,some 2] ⟨.function,[#[65],("there",.local),("numbers",.free)],false,false,[]⟩:=rh #[4]
theorem eO:bA ["machine","kept","numbers","rows","signs","kept_rows","here"] (aj dz) ["here","signs"] [none,some 4] ⟨.function,[#[65],("here",.local),("signs",.free)],false,false,[]⟩:=rh #[4]
theorem O8(F:bE K "with_rooms" "with_rooms" dz dV f fd)(aR:mg "tuple" = none):bu P w K mg base eA 1 f fd ["machine","kept","numbers"] (BX K adw):=by
 exists 121
 ·obtain⟨m,kl,D,r,g,many,wide,rows,signs,qs,ρ,rfl,_⟩:=h
  rfl
 obtain⟨m,kl,D,r,g,many,wide,rows,signs,qs,ρ,rfl,M,R,lsg,⟨n1,w1⟩,U6,lq,hqs,⟨kvs,hD,hv⟩,k⟩:=h
 exists 140
 have hu:=oP hr
 refine⟨_,(ak (aL (i:=3) bW.nd #[12])
   (ak (aL (i:=4) bW.nd #[12])
   (ak (aL (i:=5) bW.nd (dU ag))
   (ak (cD PassesOwn.never rfl (dj (pv 1)) (bB (i:=6) bW.nd) (au (bZ (lN WG WH WI cc (pv 5) (aa (aQ aZ #[42] aR bO (aa (di rfl eN (mB (aC ax (pv 3) (pv 6) #[3])) (fun _ _ _ _=>(bB (i:=0) eN.nd)) (fun _ _ _ _=>(MC hu (pv 1) (pv 0) #[3]))) ag)) ag)))))
   #[33])))),?_⟩
 exists _,rfl,m,_,_,_,rfl,rfl,bJ hm,rfl
 exists _,rfl,m,_,_,_,rfl,rfl,bJ hm,rfl
 exists 111
 have sL:=ao hL #[147]
 exists 128
 exists 6
 rotate_left
 ·exists _,rfl,kl,rfl,⟨_,cG (sL _ _ U6)⟩
  exists 0
  ·rintro i y σ' H3 hi ⟨as,v,rfl,s3,tZ,A3⟩
   obtain⟨z,rfl,hz⟩:=bU hi
   have zm:=rj hz
   have li:=(hX hz).1
   obtain⟨z0,z1⟩:=hqs z zm
   obtain⟨ra,e1,e2,e3⟩:=hA.kept R z0 z1
   have la:as.length=i:=by rw[A3.length];unfold bX;rw[bz,jX];omega
   exists _,rfl,.inl ⟨rfl,_,cG tZ⟩,_,rfl,_,rfl,r,_,_,_,rfl,rfl,bJ (s3 _ _ pC),e1,ra,rfl,⟨_,bJ (s3 _ _ e2)⟩
   exists 8
   ·exists 57
    obtain⟨t,rfl,ht⟩:=bU hj
    have tm:=rj ht
    have lj:=(hX ht).1
    have s34:=s3.trans s4
    have dg:fZ H4 D (.int t) (some (.int (ρ t))):=by
     rw[<- hv z zm t tm]
     exact fZ.k (k:=Sum.inl t) (s34 _ _ hD)
    refine⟨_,rfl,_,rfl,D,_,rfl,dg,k' _ _ hy #[81] ⟨av s4 hT,?_⟩⟩
    rw[jU,ht,jD,jD]
    rfl
   ·rintro T ys H4 hT hy ⟨s4,rfl⟩
    rw[bz,jY]at hy
    exists 129
    have OE:=s4 _ _ tZ
    have nL:L≠t:=ah OE ht
    exists 55
    have sT:∀ b xs,H3 b=some #[29]->#[108] b=some #[29]:=fun b xs e=>by
     have e4:=s4 _ _ e
     exists 115
     exact e4
    exists 27
    have ek:bX rows ρ (qs.take (i+1))=bX rows ρ #[290]++[(rows.getD z.toNat []).map ρ]:=by
     unfold bX
     rw[jU,hz,jD]
     rfl
    rw[ek]
    exists 103
  ·rintro σ' H3 ⟨as,v,rfl,s3,tZ,A3⟩
   rw[bz,jY]at A3
   exact hZ _ _ ⟨as,v,rfl,s3,tZ,A3⟩
 rintro σ' H1 ⟨as,v,rfl,s1,T8,A1⟩
 exists 66
 have s2:=ao V1 (HO.tup #[120])
 have Lw:=s1.trans s2
 exists _,rfl,kl,rfl,⟨_,cG (Lw _ _ U6)⟩
 exists 9
 ·exists 57
  obtain⟨z,rfl,hz⟩:=bU hj
  have li:=(hX hz).1
  obtain⟨z0,z1⟩:=hqs z (rj hz)
  exists 24
  unfold cb
  rw[jU,hz,jD,jD]
  rfl
 rintro G ys H4 hG hy ⟨s4,rfl⟩
 rw[bz,jY]at hy
 exists 67
 have s5:=ao Rm (HO.tup (#[319].map V.int))
 have s6:=ao hmm #[102]
 have s56:=s5.trans s6
 exists 25
theorem O9(F:bE K "with_rooms" "with_rooms" dz dV f fd)(aR:mg "tuple" = none):bu P w K mg base eA 1 f fd ["machine","kept","numbers"] (BX K adx):=by
 exists 121
 ·obtain⟨m,kl,D,r,g,many,wide,rows,signs,qs,ρ,rfl,_⟩:=h
  rfl
 obtain⟨m,kl,D,r,g,many,wide,rows,signs,qs,ρ,rfl,M,R,lsg,⟨n1,w1⟩,U6,lq,hqs,⟨nl,hD,hv⟩,k⟩:=h
 exists 140
 have hu:=oP hr
 refine⟨_,(ak (aL (i:=3) bW.nd #[12])
   (ak (aL (i:=4) bW.nd #[12])
   (ak (aL (i:=5) bW.nd (dU ag))
   (ak (cD PassesOwn.never rfl (dj (pv 1)) (bB (i:=6) bW.nd) (au (bZ (lN WG WH WI cc (pv 5) (aa (aQ aZ #[42] aR bO (aa (di rfl eN (mB (aC ax (pv 3) (pv 6) #[3])) (fun _ _ _ _=>(bB (i:=0) eN.nd)) (fun _ _ _ _=>(aC (Hu K) (pv 1) (pv 0) #[3]))) ag)) ag)))))
   #[33])))),?_⟩
 exists _,rfl,m,_,_,_,rfl,rfl,bJ hm,rfl
 exists _,rfl,m,_,_,_,rfl,rfl,bJ hm,rfl
 exists 111
 have sL:=ao hL #[147]
 exists 128
 exists 6
 rotate_left
 ·exists _,rfl,kl,rfl,⟨_,cG (sL _ _ U6)⟩
  exists 0
  ·rintro i y σ' H3 hi ⟨as,v,rfl,s3,tZ,A3⟩
   obtain⟨z,rfl,hz⟩:=bU hi
   have zm:=rj hz
   have li:=(hX hz).1
   obtain⟨z0,z1⟩:=hqs z zm
   obtain⟨ra,e1,e2,e3⟩:=hA.kept R z0 z1
   have la:as.length=i:=by rw[A3.length];unfold bX;rw[bz,jX];omega
   exists _,rfl,.inl ⟨rfl,_,cG tZ⟩,_,rfl,_,rfl,r,_,_,_,rfl,rfl,bJ (s3 _ _ pC),e1,ra,rfl,⟨_,bJ (s3 _ _ e2)⟩
   exists 8
   ·exists 57
    obtain⟨t,rfl,ht⟩:=bU hj
    have tm:=rj ht
    have lj:=(hX ht).1
    have s34:=s3.trans s4
    obtain⟨⟨t0,t1⟩,et⟩:=hv z zm t tm
    have at':Dh (nl.map V.int) t=some (.int (ρ t)):=by rw[et];exact bK t0 t1
    refine⟨_,rfl,_,rfl,D,_,_,_,rfl,rfl,cG (s34 _ _ hD),at',k' _ _ hy #[81] ⟨av s4 hT,?_⟩⟩
    rw[jU,ht,jD,jD]
    rfl
   ·rintro T ys H4 hT hy ⟨s4,rfl⟩
    rw[bz,jY]at hy
    exists 129
    have OE:=s4 _ _ tZ
    have nL:L≠t:=ah OE ht
    exists 55
    have sT:∀ b xs,H3 b=some #[29]->#[108] b=some #[29]:=fun b xs e=>by
     have e4:=s4 _ _ e
     exists 115
     exact e4
    exists 27
    have ek:bX rows ρ (qs.take (i+1))=bX rows ρ #[290]++[(rows.getD z.toNat []).map ρ]:=by
     unfold bX
     rw[jU,hz,jD]
     rfl
    rw[ek]
    exists 103
  ·rintro σ' H3 ⟨as,v,rfl,s3,tZ,A3⟩
   rw[bz,jY]at A3
   exact hZ _ _ ⟨as,v,rfl,s3,tZ,A3⟩
 rintro σ' H1 ⟨as,v,rfl,s1,T8,A1⟩
 exists 66
 have s2:=ao V1 (HO.tup #[120])
 have Lw:=s1.trans s2
 exists _,rfl,kl,rfl,⟨_,cG (Lw _ _ U6)⟩
 exists 9
 ·exists 57
  obtain⟨z,rfl,hz⟩:=bU hj
  have li:=(hX hz).1
  obtain⟨z0,z1⟩:=hqs z (rj hz)
  exists 24
  unfold cb
  rw[jU,hz,jD,jD]
  rfl
 rintro G ys H4 hG hy ⟨s4,rfl⟩
 rw[bz,jY]at hy
 exists 67
 have s5:=ao Rm (HO.tup (#[319].map V.int))
 have s6:=ao hmm #[102]
 have s56:=s5.trans s6
 exists 25
end
theorem D6(p:α->Bool):∀ l:List α,l.length=(l.filter p).length+(l.filter fun x=>!p x).length
 | []=>rfl
 | x :: l=>by
  have ih:=D6 p l
  cases e:p x
  ·rw[JH (by rw[e];decide),JK (by rw[e];rfl),jc,jc]
   omega
  ·rw[JK e,JH (by rw[e];decide),jc,jc]
   omega
theorem cF:∀ (many:Nat) {ks:LI},ks.Nodup->(∀ q∈ks,0<=q/\q<(many:Int))->ks.length<=many
 | 0,ks,_,h=>by
  cases ks with
  | nil=>exact jF _
  | cons q r=>have:=h q jE;omega
 | many+1,ks,nd,h=>by
  have e:(ks.filter fun q=>decide #[256]).length<=many:=cF many (nd.filter _) fun q hq=>by
   have h1:=h q (jy.mp hq).1
   have h2:q≠(many:Int):=of_decide_eq_true (jy.mp hq).2
   omega
  have c:(ks.filter fun q=>!decide #[256]).length<=1:=by
   have nd2:=nd.filter fun q=>!decide #[256]
   have al:∀ q∈ks.filter (fun q=>!decide #[256]),q=(many:Int):=fun q hq=>by
    have:=(jy.mp hq).2
    simpa using this
   match hm:ks.filter (fun q=>!decide #[256]),nd2,al with
   | [],_,_=>exact jb _
   | [x],_,_=>exact jF _
   | x :: y :: r,nd2,al =>
    have h1:=al x jE
    have h2:=al y (jK _ jE)
    rw[h1,h2]at nd2
    exact absurd jE (jh.mp nd2).1
  have t:=D6 (fun q=>decide #[256]) ks
  omega
def cT(ks:LI):List #[309]:=ks.map fun q=>(Sum.inl q,V.bl true)
theorem BQ(ks:LI)(q:Int):(dZ (cT ks) (Sum.inl q)).isSome=decide (q∈ks):=by
 induction ks with
 | nil=>rfl
 | cons k r ih =>
  by_cases e:k=q
  ·subst e
   rw[show cT (k :: r)=#[292] :: cT r from rfl,iW rfl]
   simp
  ·rw[show cT (k :: r)=#[292] :: cT r from rfl,eh (fun z=>e (Sum.inl.inj z)),ih]
   simp[Ne.symm e]
theorem BP(h:q∉ks):putK (cT ks) (Sum.inl q) (V.bl true)=cT (ks++[q]):=by
 unfold putK
 rw[if_neg (by
  intro z
  obtain⟨p,hp,e⟩:=Jz.mp z
  obtain⟨k,hk,rfl⟩:=jM.mp hp
  have:=Sum.inl.inj (of_decide_eq_true e)
  exact h (this ▸ hk))]
 unfold cT
 rw[jD]
 rfl
def AI(es:List #[294]):List #[309]:=es.map fun e=>#[248]
theorem Hx:∀ {es:List #[294]} {q:Int},q∉es.map Prod.fst->dZ (AI es) (Sum.inl q)=none
 | [],_,_=>rfl
 | e :: es,q,h=>by
  rw[show AI (e :: es)=#[248] :: AI es from rfl,eh (fun z=>h (by rw[<- Sum.inl.inj z];exact jE))]
  exact Hx fun z=>h (jK _ z)
theorem CF:∀ {es:List #[294]} {q:Int} {a:Zg} {j:Nat},#[174].Nodup->es[j]?=some (q,a)->dZ (AI es) (Sum.inl q)=some (V.ref a)
 | [],_,_,_,_,h=>by cases h
 | e :: es,q,a,0,_,h=>by
  cases h
  exact iW rfl
 | e :: es,q,a,j+1,nd,h=>by
  have DD:=jh.mp (show(e.1 :: es.map Prod.fst).Nodup from nd)
  have h':es[j]?=some (q,a):=h
  rw[show AI (e :: es)=#[248] :: AI es from rfl,eh (fun z=>DD.1 (by
   have:e.1=q:=Sum.inl.inj z
   rw[this]
   exact jM.mpr ⟨(q,a),rj h',rfl⟩))]
  exact CF DD.2 h'
theorem W5{es:List #[294]}{a:Zg}(h:q∉es.map Prod.fst):putK (AI es) (Sum.inl q) (V.ref a)=AI (es++[(q,a)]):=by
 unfold putK
 rw[if_neg (by
  intro z
  obtain⟨p,hp,e⟩:=Jz.mp z
  obtain⟨k,hk,rfl⟩:=jM.mp hp
  have:=Sum.inl.inj (of_decide_eq_true e)
  exact h (this ▸ jM.mpr ⟨k,hk,rfl⟩))]
 unfold AI
 rw[jD]
 rfl
theorem snoc_cases{xs:List α}{y z:α}(h:(xs++[y])[j]?=some z):xs[j]?=some z\/(j=xs.length/\z=y):=by
 rcases JT j xs.length with q|q
 ·rw[jk q]at h
  exact .inl h
 ·rw[jm q]at h
  rcases JT (j-xs.length) 1 with p|p
  ·have e:j=xs.length:=by omega
   subst e
   rw[Jo]at h
   exact .inr ⟨rfl,(Option.some.inj h).symm⟩
  ·rw[Jf (by simpa using p)]at h
   cases h
theorem ie.same(h:ie H ts kvs)(s:∀ b xs,H b=some #[29]->H' b=some #[29]):ie H' ts kvs:=Paired.Fb h fun _ _ q=>s _ _ q
theorem HD:∀ {gs ks:LI},(ks++gs).Nodup->dS (cT ks) (cT gs)=cT (ks++gs)
 | [],ks,_=>by rw[jr];rfl
 | g :: gs,ks,nd=>by
  have hg:g∉ks:=fun z=>(JA.mp nd).2.2 g z g jE rfl
  show dS (putK (cT ks) (Sum.inl g) (V.bl true)) (cT gs)=_
  rw[BP hg,HD (by rw[jv];exact nd),jv]
  rfl
theorem Ea(nd:gs.Nodup):dS [] (cT gs)=cT gs:=HD (ks:=[]) nd
structure cC(H0 H:Hp)(B:Zg)(es:List (Int×Zg))(P:Int->LI->Prop):Prop where
 at_:H B=some (.dK (AI es))
 nd:#[174].Nodup
 nd2:(es.map Prod.snd).Nodup
 fresh:∀ e∈es,H0 e.2=none
 lst:∀ e∈es,∃ ls:LI,H e.2=some (.lst (ls.map V.int))/\P e.1 ls
 non:∀ q,q∉es.map Prod.fst->P q []
theorem cC.get{es:List #[294]}{P:Int->LI->Prop}(b:cC H0 H B es P){v:V}(h:dZ (AI es) (Sum.inl q)=some v):∃ la ls,v=.ref la/\(q,la)∈es/\H la=some (.lst (ls.map V.int))/\P q ls:=by
 have hm:q∈es.map Prod.fst:=Classical.byContradiction fun z=>by rw[Hx z]at h;cases h
 obtain⟨e,he,rfl⟩:=jM.mp hm
 obtain⟨j,hj⟩:=JD.mp he
 have:=CF b.nd (q:=e.1) (a:=e.2) hj
 rw[this]at h
 obtain⟨ls,h1,h2⟩:=b.lst e he
 exact⟨e.2,ls,(Option.some.inj h).symm,he,h1,h2⟩
theorem T5{es:List #[294]}(nd:#[174].Nodup){e e':Int×Zg}(h:e∈es)(h':e'∈es)(q:e.1=e'.1):e=e' := by
 obtain⟨i,hi,ei⟩:=jZ h
 obtain⟨j,hj,ej⟩:=jZ h'
 have:#[174][i]'(by simpa using hi)=#[174][j]'(by simpa using hj):=by simp[ei,ej,q]
 have:=(JJ nd).mp this
 subst this
 rw[<- ei,<- ej]
theorem aae{es:List #[294]}(nd:(es.map Prod.snd).Nodup){e e':Int×Zg}(h:e∈es)(h':e'∈es)(q:e.2=e'.2):e=e' := by
 obtain⟨i,hi,ei⟩:=jZ h
 obtain⟨j,hj,ej⟩:=jZ h'
 have:(es.map Prod.snd)[i]'(by simpa using hi)=(es.map Prod.snd)[j]'(by simpa using hj):=by simp[ei,ej,q]
 have:=(JJ nd).mp this
 subst this
 rw[<- ei,<- ej]
theorem cC.old{la:Zg}{es:List #[294]}{P P':Int->LI->Prop}(b:cC H0 H B es P)(hm:(q,la)∈es)(Rr:H la=some (.lst (ls.map V.int)))(hp:P' q (ls++[h]))(ho:∀ p ls,p≠q->P p ls->P' p ls):
  cC H0 (upd H la (.lst (ls.map V.int++[.int h]))) B es P' where
 at_:=by rw[af (aF b.at_ Rr #[0])];exact b.at_
 nd:=b.nd
 nd2:=b.nd2
 fresh:=b.fresh
 lst:=fun e he=>by
  by_cases c:e.2=la
  ·have:=aae b.nd2 he hm c
   subst this
   exact⟨ls++[h],by rw[ae,jD];rfl,hp⟩
  ·obtain⟨ms,h1,h2⟩:=b.lst e he
   refine⟨ms,by rw[af c];exact h1,ho _ _ (fun z=>c ?_) h2⟩
   have:=T5 b.nd he hm z
   rw[this]
 non:=fun p OL=>ho p [] (fun z=>OL (by rw[z];exact jM.mpr ⟨_,hm,rfl⟩)) (b.non p OL)
theorem cC.new{L:Zg}{es:List #[294]}{P P':Int->LI->Prop}(b:cC H0 H B es P)(hq:q∉es.map Prod.fst)(hL:H L=some (.lst []))(fL:H0 L=none)(nL:∀ e∈es,e.2≠L)(hp:P' q [h])(ho:∀ p ls,p≠q->P p ls->P' p ls):
  cC H0 (upd (upd H B (.dK (putK (AI es) (Sum.inl q) (.ref L)))) L (.lst [.int h])) B (es++[(q,L)]) P' where
 at_:=by rw[af (aF b.at_ hL #[0]),ae,W5 hq]
 nd:=by rw[jD];exact Aa b.nd hq
 nd2:=by
  rw[jD]
  refine Aa b.nd2 fun z=>?_
  obtain⟨e,he,e2⟩:=jM.mp z
  exact nL e he e2
 fresh:=fun e he=>by
  rcases wb.mp he with z|z
  ·exact b.fresh e z
  ·rw[jI.mp z];exact fL
 lst:=fun e he=>by
  rcases wb.mp he with z|z
  ·obtain⟨ms,h1,h2⟩:=b.lst e z
   refine⟨ms,by rw[af (nL e z),af (aF h1 b.at_ #[0])];exact h1,ho _ _ (fun y=>hq ?_) h2⟩
   rw[<- y]
   exact jM.mpr ⟨e,z,rfl⟩
  ·rw[jI.mp z]
   exact⟨[h],by rw[ae];rfl,hp⟩
 non:=fun p OL=>by
  rw[jD]at OL
  exact ho p [] (fun z=>OL (by rw[z];exact jR _ jE)) (b.non p fun z=>OL (jg _ z))
theorem cC.keep{es:List #[294]}{P:Int->LI->Prop}(b:cC H0 H B es P)(hB:H' B=H B)(hl:∀ e∈es,H' e.2=H e.2):cC H0 H' B es P where
 at_:=by rw[hB];exact b.at_
 nd:=b.nd
 nd2:=b.nd2
 fresh:=b.fresh
 lst:=fun e he=>by rw[hl e he];exact b.lst e he
 non:=b.non
theorem cC.same{es:List #[294]}{P:Int->LI->Prop}(b:cC H0 H B es P)(s:aH H H'):cC H0 H' B es P where
 at_:=s _ _ b.at_
 nd:=b.nd
 nd2:=b.nd2
 fresh:=b.fresh
 lst:=fun e he=>by
  obtain⟨ls,h1,h2⟩:=b.lst e he
  exact⟨ls,s _ _ h1,h2⟩
 non:=b.non
def wQ(rows:LL)(wide:Nat):LL:=(jn wide).map fun f=>rows.map fun r=>r.getD f 0
def SW(K:WC):Sp:=fun vs H Q _=>∃ (m r g:Zg) (many wide:Nat) (rows:LL) (signs:LI),vs=[.ref m]/\aV H m r g wide rows signs/\aD many wide rows/\(many<=1000/\wide<=1000) /\
 ∀ (l:Zg) (cs:List Zg) (H':Hp),aH H H'->H' l=some (.lst (cs.map V.ref))->aI H' cs (wQ rows wide)->Q (.ref l) H'
def cP(col:LI)(q:Int):LI:=((jn col.length).filter fun i=>decide (col.getD i 0=q)).map fun i:Nat=>(i:Int)
theorem HY(col:LI)(q:Int):(cP col q).length<=col.length:=by
 unfold cP
 rw[bz]
 exact jo (Jy _ _) #[11]
theorem AM(col:LI)(t q:Int):cP (col++[t]) q=cP col q++(if t=q then [(col.length:Int)]else []):=by
 unfold cP
 rw[jG,jS,JP,Ja,jD]
 congr 1
 ·congr 1
  refine zW fun i hi=>?_
  have l:=js.mp hi
  rw[jN,jN,jk l]
 ·have e:(col++[t]).getD col.length 0=t:=by rw[jN,jm (jF _),Jo];rfl
  by_cases c:t=q
  ·rw[if_pos c,JK (by rw[e];exact decide_eq_true c)];rfl
  ·rw[if_neg c,JH (by rw[e,decide_eq_false c];decide)];rfl
theorem oW:x∈cP col q↔(0<=x/\x<(col.length:Int))/\col.getD x.toNat 0=q:=by
 unfold cP
 rw[jM]
 constructor
 ·rintro⟨i,hi,rfl⟩
  have h:=jy.mp hi
  have h1:=js.mp h.1
  exact⟨⟨by omega,by omega⟩,by rw[jC];exact of_decide_eq_true h.2⟩
 ·rintro⟨⟨h0,h1⟩,h2⟩
  exact⟨x.toNat,jy.mpr ⟨js.mpr #[2],decide_eq_true h2⟩,by omega⟩
def MO(K:WC):Sp:=fun vs H Q _=>∃ (c:Zg) (many:Nat) (col:LI),vs=[.ref c]/\H c=some (.tup (col.map V.int))/\col.length<=1000/\many<=1000/\(∀ t∈col,0<=t/\t<(many:Int)) /\
 ∀ (B:Zg) (es:List #[294]) (H':Hp),aH H H'->H B=none->cC H H' B es #[166]->Q (.ref B) H'
section
theorem iH:aJ ["machine","rows","columns","figure"] ["machine"] (aj lW):=cU #[4]
theorem pU:bA ["machine","rows","columns","figure"] (aj lW) ["row","figure"] [none,some 3] ⟨.function,[#[65],("row",.local),("figure",.free)],false,false,[]⟩:=rh #[4]
theorem pQ:aJ ["column","back","here","there"] ["column"] (aj AN):=cU #[4]
theorem X4(F:bE K "columns_of" "columns_of" lW dV f fd)(bx:mg "range" = none)(aR:mg "tuple" = none):bu P w K mg base eA 1 f fd ["machine"] (SW K):=by
 refine F.ok iH #[6] #[1]
 ·exists 86
  rfl
 obtain⟨m,r,g,many,wide,rows,signs,rfl,M,R,⟨n1,w1⟩,k⟩:=h
 exists 140
 refine⟨_,(ak (aL (i:=1) iH.nd #[12])
   (ak (aL (i:=2) iH.nd (dU ag))
   (ak (cD PassesOwn.never rfl (cK rfl bx #[323]) (bB (i:=3) iH.nd) (au (bZ (lN WG WH WI cc (pv 2) (aa (aQ aZ #[42] aR bO (aa (di rfl pU (mB (pv 1)) (fun _ _ _ _=>(bB (i:=0) pU.nd)) (fun _ _ _ _=>(aC (EV K) (pv 0) (pv 1) #[3]))) ag)) ag)))))
   (au (aW (pv 2)))))),?_⟩
 exists _,rfl,m,_,_,_,rfl,rfl,bJ hm,rfl
 exists 111
 have sL:=ao hL #[147]
 refine⟨_,rfl,m,_,_,_,rfl,rfl,bJ (sL _ _ hm),rfl,_,rfl,by omega,by omega,?_⟩
 refine iq (fun i σ' H'=>∃ (as:List Zg) (v:OV),σ'=[some #[310],some (.ref r),some (.ref L),v]/\aH H H'/\H' L=some (.lst #[120])/\aI H' as ((jn i).map fun f=>rows.map fun r=>r.getD f 0)) ⟨[],none,rfl,sL,ae,.nil⟩ ?_ ?_
 ·rintro i σ' H3 hi ⟨as,v,rfl,s3,tZ,A3⟩
  rw[jC]at hi
  have la:as.length=i:=by rw[A3.length,bz,ju]
  have z0:(0:Int)+(i:Int)=(i:Int):=Jn _
  exists _,rfl,.inl ⟨rfl,_,cG tZ⟩,_,rfl,r,rfl,⟨_,bJ (s3 _ _ pC)⟩
  refine oK (K:=K) (xs:=cM.map V.ref) (fun D j ys H'=>aH H3 H'/\ys=((rows.take j).map fun r=>r.getD i 0).map V.int) #[281] (fun D j ys H' _ ⟨e,_⟩=>bJ (e _ _ (s3 _ _ pC))) ?_ ?_
  ·exists 57
   have jl:j<rows.length:=by
    have:=(hX hj).1
    rw[bz,hA.length]at this
    exact this
   obtain⟨ra,e1,e2⟩:=hA.get jl
   have ey:y=.ref ra:=by rw[jP,e1]at hj;exact(Option.some.inj hj).symm
   subst ey
   have lr:=R.len
   have anB:rows[j].length=wide:=R.row _ (jH jl)
   have at1:Dh (rows[j].map V.int) (0+(i:Int))=some (.int (rows[j].getD i 0)):=by
    rw[z0,bK #[2] #[2],jC]
   refine⟨_,rfl,_,rfl,ra,_,_,_,rfl,rfl,bJ ((s3.trans s4) _ _ e2),at1,k' _ _ hy #[81] ⟨av s4 hT,?_⟩⟩
   rw[jU,jA jl,jD,jD]
   rfl
  ·rintro T ys H4 hT hy ⟨s4,rfl⟩
   rw[bz,hA.length,jY]at hy
   exists 129
   have OE:=s4 _ _ tZ
   have nL:L≠t:=ah OE ht
   exists 55
   have sT:∀ b xs,H3 b=some #[29]->(upd (upd H4 t (.tup ((rows.map fun r=>r.getD i 0).map V.int))) L (.lst (as.map V.ref++[V.ref t]))) b=some #[29]:=fun b xs e=>by
    have e4:=s4 _ _ e
    exists 115
    exact e4
   exists 27
   rw[JP,jD]
   exists 103
 ·rintro σ' H3 ⟨as,v,rfl,s3,tZ,A3⟩
  rw[jC]at A3
  exact⟨_,rfl,k L as _ s3 tZ A3⟩
theorem RX(F:bE K "back_of" "back_of" AN dV f fd)(cE:mg "enumerate" = none):bu P w K mg base eA 1 f fd ["column"] (MO K):=by
 refine F.ok pQ #[6] #[1]
 ·obtain⟨c,many,col,rfl,_⟩:=h
  rfl
 obtain⟨c,many,col,rfl,hc,lc,n1,ahC,k⟩:=h
 have hu:=oP hr
 refine⟨_,(ak (aL (i:=1) pQ.nd rU)
   (ak (cD PassesOwn.never rfl (Sw rfl cE #[122]) (CS rfl (eL (bB (i:=2) pQ.nd) (eL (bB (i:=3) pQ.nd) Ad))) (au (bZ (lN WG WH WI cc (Fe (pv 1) (pv 3) (dU ag) ⟨rfl,rfl,rfl,rfl⟩) #[66]))))
   (au (aW (pv 1))))),?_⟩
 refine fun B hB=>?_
 have s0:=ao hB (HO.dK [])
 have b0:cC H (upd H B (.dK [])) B [] (fun q ls=>ls=cP (col.take 0) q):=⟨ae,List.Pairwise.nil,List.Pairwise.nil,#[196],#[196],fun q _=>rfl⟩
 refine⟨_,rfl,c,rfl,⟨_,bJ (s0 _ _ hc)⟩,Ox (K:=K) (xs:=col.map V.int) (fun i σ' H'=>∃ (es:List #[294]) (v1 v2:OV),σ'=[some (.ref c),some (.ref B),v1,v2]/\aH H H'/\(∀ e∈es,0<=e.1/\e.1<(many:Int))/\cC H H' B es (fun q ls=>ls=cP (col.take i) q))
  ⟨[],none,none,rfl,s0,#[196],b0⟩ (fun i σ' H' _ ⟨_,_,_,_,e,_,_⟩=>bJ (e _ _ hc)) ?_ ?_⟩
 ·rintro i y σ' H1 T hi ⟨es,v1,v2,rfl,s1,kr,b1⟩ hT
  obtain⟨t,rfl,ht⟩:=bU hi
  have il:=(hX ht).1
  have stq:=ahC t (rj ht)
  have sT:=ao hT #[201]
  obtain⟨H2,Di⟩:∃ H2,upd H1 T #[201]=H2:=⟨_,rfl⟩
  have hT2:H2 T=some (.tup [V.int i,V.int t]):=by rw[<- Di];exact ae
  rw[Di]at sT ⊢
  have s2:=s1.trans sT
  have b2:=b1.same sT
  exists T,_,rfl,bJ hT2,rfl,_,_,rfl,_,_,rfl,rfl
  refine⟨_,rfl,B,rfl,.inl ⟨_,.inl b2.at_⟩,_,rfl,#[28],fun L hL=>?_⟩
  have sL:=ao hL #[147]
  have b3:=b2.same sL
  have nL:∀ e∈es,e.2≠L:=fun e he z=>by
   obtain⟨ls,h1,_⟩:=b2.lst e he
   rw[z,hL]at h1
   cases h1
  have nLB:B≠L:=ah b2.at_ hL
  have fL:H L=none:=s2.free hL
  have BC:=cF many b3.nd (fun q hq=>by
   obtain⟨e,he,rfl⟩:=jM.mp hq
   exact kr e he)
  rw[bz]at BC
  have len:(AI es).length<sizeLine:=aA (by unfold AI;rw[bz];omega)
  have et:col.take (i+1)=col.take i++[t]:=by rw[jU,ht];rfl
  have ln:(col.take i).length=i:=by rw[jX];omega
  have oth:∀ (p:Int) (ls:LI),p≠t->ls=cP (col.take i) p->ls=cP (col.take (i+1)) p:=fun p ls np z=>by
   rw[et,AM,if_neg (Ne.symm np),jr]
   exact z
  have grow:∀ ls:LI,ls=cP (col.take i) t->ls++[(i:Int)]=cP (col.take (i+1)) t:=fun ls z=>by
   rw[et,AM,if_pos rfl,ln,z]
  refine⟨_,Sum.inl t,b3.at_,rfl,len,fun v hv=>?_,fun hn=>?_⟩
  ·obtain⟨la,ls,rfl,hm,Rr,hp⟩:=b3.get hv
   have pl:=HY (col.take i) t
   have lz:(ls.map V.int).length<sizeLine:=aA (by rw[bz,hp];omega)
   exists .inl ⟨rfl,_,cG Rr⟩,_,rfl,la,_,_,rfl,rfl,Rr,lz
   exact⟨es,_,_,rfl,av (s2.trans sL) (b2.fresh _ hm),kr,b3.old hm Rr (grow ls hp) oth⟩
  ·have hq:t∉es.map Prod.fst:=fun z=>by
    obtain⟨e,he,ee⟩:=jM.mp z
    obtain⟨jj,hjj⟩:=JD.mp he
    have:=CF b3.nd (q:=e.1) (a:=e.2) hjj
    rw[ee,hn]at this
    cases this
   have tZ:(upd (upd H2 L #[147]) B (HO.dK (putK (AI es) (Sum.inl t) (V.ref L)))) L=some (.lst []):=by rw[af (Ne.symm nLB),ae]
   refine⟨.inl ⟨rfl,_,cG tZ⟩,_,rfl,L,_,_,rfl,rfl,tZ,(by show 0<sizeLine;decide),?_⟩
   refine⟨es++[(t,L)],_,_,rfl,av (av (s2.trans sL) hB) fL,fun e he=>?_,b3.new hq ae fL nL (grow [] (b3.non _ hq)) oth⟩
   rcases wb.mp he with z|z
   ·exact kr e z
   ·rw[jI.mp z];exact stq
 ·rintro σ' H1 ⟨es,v1,v2,rfl,s1,kr,b1⟩
  rw[bz,jY]at b1
  exact⟨_,rfl,k B es _ s1 hB b1⟩
end
structure FX(K:WC)(C:Zg):Prop where
 cl:DG K C
 ng:eW K C "group_of"
 nm:eW K C "members"
 nw:eW K C "waiting"
 ni:eW K C "is_waiting"
structure FY(H:Hp)(C x go ms wt iw:Zg):Prop where
 ob:∃ dx:Zg,H x=some (.ins C dx [#[223],#[238],("waiting",.ref wt),("is_waiting",.ref iw)])
theorem FY.same{x ms:Zg}(h:FY H C x go ms wt iw)(s:aH H H'):FY H' C x go ms wt iw:=by
 obtain⟨dx,h1⟩:=h.ob
 exact⟨dx,s _ _ h1⟩
def Il(K:WC)(C:Zg):Sp:=fun vs H Q _=>∃ (x go ms wt iw:Zg) (gs:LI) (ds:List Zg),vs=[.ref x]/\FY H C x go ms wt iw/\H go=some #[205]/\H ms=some #[299]/\Q (.bl (decide (ds.length=gs.length))) H
def Ta(C:Zg):Sp:=fun vs H Q _=>∃ (x go ms wt iw:Zg) (n:Int) (ws ks:LI),vs=[.ref x,.int n]/\FY H C x go ms wt iw/\H wt=some (.lst #[267])/\H iw=some (.dK (cT ks))/\ks.Nodup/\ws.length<=1000/\ks.length<=1000 /\
 Q .non (upd (upd H wt (.lst ((ws++[n]).map V.int))) iw (.dK (cT (if n∈ks then ks else ks++[n]))))
theorem Hy(ks:LI)(g:Int):Cq (cT ks) (Sum.inl g)=cT (ks.filter fun k=>decide (k≠g)):=by
 unfold Cq cT
 rw[List.filter_map]
 congr 1
 refine zW fun k _=>?_
 by_cases c:k=g
 ·subst c
  simp
 ·have:(Sum.inl k:Key)≠Sum.inl g:=fun z=>c (Sum.inl.inj z)
  simp[c,this]
theorem RI(ks:LI):(cT ks).map (fun kv=>kV kv.1)=ks.map V.int:=by
 unfold cT
 rw[JF]
 rfl
def MQ(C:Zg):Sp:=fun vs H Q _=>∃ (x go ms wt iw da:Zg) (g:Int) (ws ks mem:LI) (ds:List Zg),vs=[.ref x]/\FY H C x go ms wt iw/\H wt=some (.lst #[301])/\H iw=some (.dK (cT ks))/\g∈ks/\H ms=some #[299]/\0<=g/\ds[g.toNat]?=some da/\ms≠wt/\H da=some (.dK (cT mem))/\da≠iw/\mem.length<=1000 /\
 ∀ l,H l=none->Q (.ref l) (upd (upd (upd H wt (.lst #[267])) iw (.dK (cT (ks.filter fun k=>decide (k≠g))))) l #[185])
section
theorem Ak:aJ ["self"] ["self"] (aj iz):=cU #[4]
theorem wm:aJ ["self","group"] ["self","group"] (aj fR):=cU #[4]
theorem ft:aJ ["self","group"] ["self"] (aj dq):=cU #[4]
theorem OX(F:bE K "is_done" "Parted.is_done" iz dV f fd)(pc:FX K C)(bj:mg "len" = none):bu P w K mg base eA 1 f fd ["self"] (Il K C):=by
 refine F.ok Ak #[6] #[1]
 ·obtain⟨x,go,ms,wt,iw,gs,ds,rfl,_⟩:=h
  rfl
 obtain⟨x,go,ms,wt,iw,gs,ds,rfl,⟨dx,hx⟩,Hl,hms,q⟩:=h
 refine⟨_,(au (aW (iE pV #[229] #[229] (bI _)))),?_⟩
 exists _,rfl,x,C,dx,_,_,rfl,hx,pc.cl,pc.nm,rfl,ms,_,rfl,.inl (cG hms),_,rfl,x,C,dx,_,_,rfl,hx,pc.cl,pc.ng,rfl,go,_,rfl,.inl (cG Hl),rfl
 rw[bz,bz]
 have e:decide (V.int (ds.length:Int)=V.int (gs.length:Int))=decide (ds.length=gs.length):=decide_eq_decide.mpr ⟨fun h=>by have:=V.int.inj h;omega,fun h=>by rw[h]⟩
 rw[e]
 exact q
theorem Lo(F:bE K "wait_for" "Parted.wait_for" fR dV f fd)(pc:FX K C):bu P w K mg base eA 1 f fd ["self","group"] (Ta C):=by
 refine F.ok wm #[6] #[1]
 ·obtain⟨x,go,ms,wt,iw,n,ws,ks,rfl,_⟩:=h
  rfl
 obtain⟨x,go,ms,wt,iw,n,ws,ks,rfl,⟨dx,hx⟩,Cw,Dz,nd,l1,l2,q⟩:=h
 have hu:=oP hr
 refine⟨_,(ak (bZ (lN WG WH WI cc #[31] #[121]))
   (au (sH hu #[31] (pv 1) dN rfl))),?_⟩
 have nx:x≠wt:=aF hx Cw #[0]
 have ni:iw≠wt:=aF Dz Cw #[0]
 refine⟨_,rfl,x,C,dx,_,_,rfl,hx,pc.cl,pc.nw,rfl,.inl ⟨rfl,_,cG Cw⟩,_,rfl,wt,_,_,rfl,rfl,Cw,aA (by rw[bz];exact l1),?_⟩
 refine⟨_,rfl,x,C,dx,_,_,rfl,by rw[af nx];exact hx,pc.cl,pc.ni,rfl,_,rfl,iw,_,rfl,Bo.k (k:=Sum.inl n) (by rw[af ni];exact Dz) (aA (by unfold cT;rw[bz];exact l2)),?_⟩
 have e:putK (cT ks) (Sum.inl n) (V.bl true)=cT (if n∈ks then ks else ks++[n]):=by
  by_cases c:n∈ks
  ·rw[if_pos c]
   unfold putK
   rw[if_pos (show((cT ks).any fun kv=>decide (kv.fst=Sum.inl n))=true from Jz.mpr ⟨(Sum.inl n,V.bl true),jM.mpr ⟨n,c,rfl⟩,by simp⟩)]
   refine(ZH fun kv hk=>?_).trans (ZU _)
   obtain⟨k,_,rfl⟩:=jM.mp hk
   show(if (Sum.inl k:Key)=Sum.inl n then((Sum.inl k:Key),V.bl true)else#[292])=#[292]
   split<;>rfl
  ·rw[if_neg c]
   exact BP c
 rw[e]
 rw[jD]at q
 exact q
theorem R0(F:bE K "next_splitter" "Parted.next_splitter" dq dV f fd)(pc:FX K C)(fj:mg "list" = none):bu P w K mg base eA 1 f fd ["self"] (MQ C):=by
 refine F.ok ft #[6] #[1]
 ·obtain⟨x,go,ms,wt,iw,da,g,ws,ks,mem,ds,rfl,_⟩:=h
  rfl
 obtain⟨x,go,ms,wt,iw,da,g,ws,ks,mem,ds,rfl,⟨dx,hx⟩,Cw,Dz,gk,hms,g0,rb,nmw,Dk,ndi,lm,q⟩:=h
 have hu:=oP hr
 refine⟨_,(ak (aL (i:=1) ft.nd (Lp WG Yw Yx RS #[31]))
   (ak (bZ (HR #[31] (pv 1) ⟨rfl,rfl,rfl,rfl⟩))
   (au (aW (aQ (Cm rfl) #[42] fj wO (aa (aC iC #[31] (pv 1) #[3]) ag)))))),?_⟩
 have nx:x≠wt:=aF hx Cw #[0]
 have nxi:x≠iw:=aF hx Dz #[0]
 have ni:iw≠wt:=aF Dz Cw #[0]
 have nmi:ms≠iw:=aF hms Dz #[0]
 have ndw:da≠wt:=aF Dk Cw #[0]
 have last:#[301][#[301].length-1]?=some (.int g):=by
  rw[bz,jG,jS,ZQ,jP,jm (jF _),Jo]
  rfl
 have dl:#[301].dropLast=ws.map V.int:=by rw[jD];exact ZD
 obtain⟨v,hv⟩:∃ v,dZ (cT ks) (Sum.inl g)=some v:=by
  have h:=BQ ks g
  rw[decide_eq_true gk]at h
  exact JS.mp h
 have at':Dh (ds.map V.ref) g=some (.ref da):=by
  exists 93
  rw[jd g0]at q'
  exact q'
 exists _,rfl,x,C,dx,_,_,rfl,hx,pc.cl,pc.nw,rfl,.inl ⟨rfl,_,cG Cw⟩,wt,_,_,rfl,rfl,Cw,last
 rw[dl]
 have J4:(upd H wt (HO.lst #[267])) x=_:=(af nx).trans hx
 have aem:(upd H wt (HO.lst #[267])) iw=_:=(af ni).trans Dz
 exists _,rfl,x,C,dx,_,_,rfl,J4,pc.cl,pc.ni,rfl,iw,rfl,.inl ⟨_,.inl aem⟩,_,rfl,cT ks,Sum.inl g,v,aem,rfl,hv
 rw[Hy]
 refine⟨_,rfl,x,C,dx,_,_,rfl,(af nxi).trans J4,pc.cl,pc.nm,rfl,_,rfl,ms,_,_,_,rfl,rfl,cG ((af nmi).trans ((af nmw).trans hms)),at',da,_,rfl,(af ndi).trans ((af ndw).trans Dk),fun l hl=>?_⟩
 rw[RI]
 refine q l ?_
 by_cases c1:l=iw
 ·rw[c1,ae]at hl
  cases hl
 ·rw[af c1]at hl
  by_cases c2:l=wt
  ·rw[c2,ae]at hl
   cases hl
  ·rw[af c2]at hl
   exact hl
end
def setG(gs done:LI)(n:Int):LI:=done.foldl (fun g q=>g.set q.toNat n) gs
def outF(mem done:LI):LI:=mem.filter fun q=>decide (q∉done)
theorem Ii(gs:LI)(n:Int):∀ done:LI,(setG gs done n).length=gs.length:=fun done=>by
 unfold setG
 induction done generalizing gs with
 | nil=>rfl
 | cons q r ih=>rw[JX,ih,zL]
theorem Pk(gs done:LI)(q n:Int):setG gs (done++[q]) n=(setG gs done n).set q.toNat n:=by
 unfold setG
 rw[JG]
 rfl
theorem Pa(mem done:LI)(q:Int):(outF mem done).filter (fun k=>decide (k≠q))=outF mem (done++[q]):=by
 unfold outF
 rw[List.filter_filter]
 refine zW fun k _=>?_
 by_cases c:k=q
 ·subst c
  simp
 ·simp[c]
def MY(K:WC)(C:Zg):Sp:=fun vs H Q _=>∃ (x go ms wt iw da il:Zg) (g:Int) (gs ws ks mem ins:LI) (ds:List Zg),vs=[.ref x,.int g,.ref il]/\FY H C x go ms wt iw/\H go=some #[205]/\H ms=some #[299]/\H wt=some (.lst #[267])/\H iw=some (.dK (cT ks))/\ks.Nodup/\(ws.length<=1000/\ks.length<=1000/\ds.length<1000/\ins.length<=1000) /\
 0<=g/\ds[g.toNat]?=some da/\H da=some (.dK (cT mem))/\H il=some (.lst (ins.map V.int))/\ins.Nodup/\(∀ q∈ins,q∈mem/\0<=q/\q<(gs.length:Int))/\(go≠ms/\go≠wt/\go≠il/\ms≠wt/\ms≠il/\wt≠il/\da≠iw) /\
 ∀ (E:Zg) (nw:Int) (H':Hp),H E=none->H' E=some (.dK (cT ins))->H' ms=some (.lst ((ds++[E]).map V.ref))->H' da=some (.dK (cT #[269]))->H' go=some (.lst (#[113].map V.int))->H' wt=some #[285]->H' iw=some (.dK (cT (if nw∈ks then ks else ks++[nw]))) ->
  (#[57]->nw=(ds.length:Int))->(¬ #[57]->nw=g)->(∀ c u,c≠go->c≠ms->c≠da->c≠wt->c≠iw->H c=some u->H' c=some u)->Q .non H'
theorem V8{z:Nat}(h:z<n):V7 n (z:Int)=some z:=by
 unfold V7
 rw[if_pos #[2],if_pos #[2],jC]
section
theorem cQ:aJ ["self","group","inside","fresh","outside","here"] ["self","group","inside"] (aj dw):=cU #[4]
theorem hV:bA ["self","group","inside","fresh","outside","here"] (aj dw) ["here"] [none] ⟨.function,[#[65],("here",.local)],false,false,[]⟩:=rh #[4]
theorem Sd(F:bE K "split_off" "Parted.split_off" dw dV f fd)(pc:FX K C)(mO:mM P w K mg base C "wait_for" 1 ["self","group"] (Ta C))(bj:mg "len" = none)(lJ:mg "dict" = none):bu P w K mg base eA 2 f fd ["self","group","inside"] (MY K C):=by
 refine F.ok cQ #[6] #[1]
 ·obtain⟨x,go,ms,wt,iw,da,il,g,gs,ws,ks,mem,ins,ds,rfl,_⟩:=h
  rfl
 obtain⟨x,go,ms,wt,iw,da,il,g,gs,ws,ks,mem,ins,ds,rfl,⟨dx,hx⟩,Hl,hms,Cw,Dz,ndk,⟨lw,lk,ld,li⟩,g0,rb,Dk,U4,ndi,ahP,⟨n1,n2,n3,n4,n5,n6,n7⟩,k⟩:=h
 have hu:=oP hr
 refine⟨_,(ak (aL (i:=3) cQ.nd #[229])
   (ak (aL (i:=4) cQ.nd (aC iC #[31] (pv 1) #[3]))
   (ak (cD PassesOwn.never rfl (dj (pv 2)) (bB (i:=5) cQ.nd) (ak (bZ (HR (pv 4) (pv 5) ⟨rfl,rfl,rfl,rfl⟩))
   (au (aca (pv 3) (ab9 #[31] (pv 5) set_list)))))
   (ak (bZ (lN WG WH WI cc #[31] (aa (aQ (rJ rfl) #[42] lJ BN (aa (di rfl hV (dj (pv 2)) (fun _ _ _ _=>(bB (i:=0) hV.nd)) #[153]) ag)) ag)))
   (au (cV (PW.pt (rV (CY (ab5 hu (pv 1) #[31]) #[125]) (rW (bV ae1 (aG aM #[42] bj bH #[66]) (aG so #[42] bj bH #[217]) (bI _))))) (au (bZ (tF mO hr (pv 0) #[91]))) (au (bZ (tF mO hr (pv 0) #[121]))))))))),?_⟩
 have o0:outF mem []=mem:=ZI.mpr fun _ _=>by simp
 have nxg:x≠go:=aF hx Hl #[0]
 have nxd:x≠da:=aF hx Dk #[0]
 have ngd:go≠da:=aF Hl Dk #[0]
 have at':Dh (ds.map V.ref) g=some (.ref da):=by
  exists 93
  rw[jd g0]at q'
  exact q'
 exists _,rfl,x,C,dx,_,_,rfl,hx,pc.cl,pc.nm,rfl,ms,_,rfl,.inl (cG hms)
 rw[bz]
 exists _,rfl,x,C,dx,_,_,rfl,hx,pc.cl,pc.nm,rfl,_,rfl,ms,_,_,_,rfl,rfl,cG hms,at'
 exists 128
 refine cS (t:=AW _ _ _) (fun σ' H'=>∃ v:OV,σ'=[some #[94],some (.int g),some (.ref il),some (.int (ds.length:Int)),some (.ref da),v]/\H' da=some (.dK (cT #[269]))/\H' go=some (.lst (#[113].map V.int))/\∀ c u,c≠go->c≠da->H c=some u->H' c=some u) ?_ #[47]
 rotate_left
 ·exists _,rfl,il,rfl,⟨_,cG U4⟩
  refine fP (K:=K) (xs:=ins.map V.int) (fun i σ' H'=>∃ v:OV,σ'=[some #[94],some (.int g),some (.ref il),some (.int (ds.length:Int)),some (.ref da),v]/\H' da=some (.dK (cT (outF mem (ins.take i))))/\H' go=some (.lst ((setG gs (ins.take i) (ds.length:Int)).map V.int))/\∀ c u,c≠go->c≠da->H c=some u->H' c=some u) ⟨none,rfl,by rw[zP,o0];exact Dk,Hl,fun _ _ _ _ e=>e⟩ (fun i σ' H' _ ⟨_,_,_,_,e⟩=>cG (e _ _ (Ne.symm n3) (aF U4 Dk #[0]) U4)) ?_ ?_
  ·rintro i y σ' H3 hi ⟨v,rfl,hd3,hg3,D5⟩
   obtain⟨q,rfl,hq⟩:=bU hi
   have qm:=ahP q (rj hq)
   have qo:q∈outF mem (ins.take i):=by
    refine jy.mpr ⟨qm.1,decide_eq_true fun z=>?_⟩
    obtain⟨j,hj,ej⟩:=jZ z
    rw[jX]at hj
    rw[zF]at ej
    have ql:=hX hq
    have:=(JJ ndi).mp (ej.trans ql.2.symm)
    omega
   obtain⟨vv,hvv⟩:∃ v,dZ (cT (outF mem (ins.take i))) (Sum.inl q)=some v:=by
    have h:=BQ (outF mem (ins.take i)) q
    rw[decide_eq_true qo]at h
    exact JS.mp h
   have et:ins.take (i+1)=ins.take i++[q]:=by rw[jU,hq];rfl
   exists _,rfl,da,rfl,.inl ⟨_,.inl hd3⟩,_,rfl,_,Sum.inl q,vv,hd3,rfl,hvv
   rw[Hy,Pa,<- et]
   have hx3:=D5 _ _ nxg nxd hx
   refine⟨_,rfl,_,rfl,x,C,dx,_,_,rfl,(af nxd).trans hx3,pc.cl,pc.ng,rfl,_,rfl,go,_,q,q.toNat,rfl,rfl,(af ngd).trans hg3,?_,?_⟩
   ·rw[bz,Ii]
    have:=V8 (n:=gs.length) (z:=q.toNat) #[2]
    rw[jd qm.2.1]at this
    exact this
   ·refine⟨_,rfl,by rw[af (Ne.symm ngd),ae],?_,fun c u c1 c2 e=>by rw[af c1,af c2];exact D5 c u c1 c2 e⟩
    rw[ae,et,Pk,List.map_set]
  ·rintro σ' H3 ⟨v,rfl,hd3,hg3,D5⟩
   rw[bz,jY]at hd3 hg3
   exact hZ _ _ ⟨v,rfl,hd3,hg3,D5⟩
 rintro σ' H1 ⟨v,rfl,Rh,hg1,EW⟩
 have J4:=EW _ _ nxg nxd hx
 have aes:=EW _ _ (Ne.symm n1) (aF hms Dk #[0]) hms
 have abx:=EW _ _ (Ne.symm n3) (aF U4 Dk #[0]) U4
 exists _,rfl,x,C,dx,_,_,rfl,J4,pc.cl,pc.nm,rfl,.inl ⟨rfl,_,cG aes⟩,_,rfl,il,rfl,⟨_,cG abx⟩
 refine lY (K:=K) (xs:=ins.map V.int) (fun D i ys H'=>aH H1 H'/\∃ ts,ys=ts.map V.ref/\ie H' ts (cT (ins.take i))) #[69] (fun D i ys H' _ ⟨e,_⟩=>cG (e _ _ abx)) ?_ ?_
 ·rintro D i y ys H' Q' hD hi hy ⟨hs,ts,rfl,pv⟩ k'
  obtain⟨q,rfl,hq⟩:=bU hi
  have il':i<ins.length:=(hX hq).1
  exists 90
  have sT:=ao hT (HO.tup [V.int q,V.bl true])
  have nD:D≠T:=ah hy hT
  have lts:ts.length=i:=by
   rw[Paired.length pv]
   unfold cT
   rw[bz,jX]
   omega
  have hyT:#[170] D=some #[204]:=by rw[af nD];exact hy
  exists 64
  rw[jU,hq]
  have up:∀ b xs,#[170] b=some #[29]->(upd #[170] D #[138]) b=some #[29]:=fun b xs e=>by
   exists 135
  show ie _ _ (cT (ins.take i++[q]))
  unfold cT
  rw[jD]
  exists 117
 rintro L ys H2 fL hL ⟨s2,ts,rfl,pv⟩
 rw[bz,jY]at pv
 refine⟨L,ts,_,rfl,hL,pv,fun N hN=>?_⟩
 rw[Ea ndi]
 have s3:=s2.trans (ao hN (HO.dK (cT ins)))
 obtain⟨H3,Mg⟩:∃ H3,upd H2 N (HO.dK (cT ins))=H3:=⟨_,rfl⟩
 have Mm:H3 N=some (.dK (cT ins)):=by rw[<- Mg];exact ae
 rw[Mg]at s3 ⊢
 have fN:H1 N=none:=s2.free hN
 have ER:=s3 _ _ aes
 have nxm:x≠ms:=aF hx hms #[0]
 refine⟨ms,_,_,rfl,rfl,ER,aA #[35],?_⟩
 have nNm:N≠ms:=aF Mm ER #[0]
 have nxi:x≠iw:=aF hx Dz #[0]
 have nim:iw≠ms:=aF Dz hms #[0]
 have ndm:da≠ms:=aF Dk hms #[0]
 obtain⟨H4,su⟩:∃ H4,upd H3 ms (HO.lst (ds.map V.ref++[V.ref N]))=H4:=⟨_,rfl⟩
 have W2:∀ c u,c≠ms->H1 c=some u->H4 c=some u:=fun c u c1 e=>by rw[<- su,af c1];exact s3 _ _ e
 have Ho:H4 ms=some (.lst ((ds++[N]).map V.ref)):=by rw[<- su,ae,jD];rfl
 have hN4:H4 N=some (.dK (cT ins)):=by rw[<- su,af nNm];exact Mm
 have J5:=W2 _ _ nxm J4
 have U5:=W2 _ _ nim (EW _ _ (aF Dz Hl #[0]) (Ne.symm n7) Dz)
 have V3:=W2 _ _ (Ne.symm n4) (EW _ _ (Ne.symm n2) (aF Cw Dk #[0]) Cw)
 have aee:=W2 _ _ ndm Rh
 have J0:=W2 _ _ n1 hg1
 have aby:=W2 _ _ (Ne.symm n5) abx
 rw[su]
 have niw:iw≠wt:=aF Dz Cw #[0]
 have lo:(cT #[269]).length=#[269].length:=by unfold cT;rw[bz]
 have fN0:H N=none:=by
  cases e:H N with
  | none=>rfl
  | some u =>
   have z1:N=go\/N=da:=Classical.byContradiction fun z=>by
    have:=EW N u (fun a=>z (.inl a)) (fun a=>z (.inr a)) e
    rw[fN]at this
    cases this
   rcases z1 with z|z
   ·rw[z,hg1]at fN;cases fN
   ·rw[z,Rh]at fN;cases fN
 have fin:∀ nw:Int,(#[57]->nw=(ds.length:Int))->(¬ #[57]->nw=g)->Q .non (upd (upd H4 wt #[285]) iw (.dK (cT (if nw∈ks then ks else ks++[nw])))):=fun nw h1 h2=>by
  have nNw:N≠wt:=aF hN4 V3 #[0]
  have nNi:N≠iw:=fun z=>by rw[z,Dz]at fN0;cases fN0
  refine k N nw _ fN0 ?_ ?_ ?_ ?_ ?_ ae h1 h2 fun c u c1 c2 c3 c4 c5 e=>?_
  ·rw[af nNi,af nNw];exact hN4
  ·rw[af (Ne.symm nim),af n4];exact Ho
  ·rw[af n7,af (aF Dk Cw #[0])];exact aee
  ·rw[af (aF Hl Dz #[0]),af n2];exact J0
  ·rw[af (Ne.symm niw),ae]
  ·rw[af c5,af c4];exact W2 _ _ c2 (EW c u c1 c3 e)
 exists _,rfl,_,rfl,x,C,dx,_,_,rfl,J5,pc.cl,pc.ni,rfl,iw,_,rfl,fZ.k (k:=Sum.inl g) U5,_,rfl
 rw[BQ]
 have yes:#[57]->Q .non (upd (upd H4 wt (.lst ((ws++[(ds.length:Int)]).map V.int))) iw (.dK (cT (if (ds.length:Int)∈ks then ks else ks++[(ds.length:Int)])))):=fun h=>fin _ (fun _=>rfl) (fun n=>absurd h n)
 refine sS #[90] #[90]
 ·exact oj ⟨_,rfl,x,dx,_,rfl,J5,rfl,_,rfl,x,go,ms,wt,iw,(ds.length:Int),ws,ks,rfl,⟨dx,J5⟩,V3,U5,ndk,lw,lk,yes (.inl c)⟩
 ·refine⟨_,rfl,il,_,rfl,.inl (cG aby),_,rfl,da,_,rfl,aee,_,_,rfl,rfl,_,rfl,sS (fun c2=>?_) (fun c2=>?_)⟩
  ·rw[bz,lo]at c2
   exact⟨_,rfl,x,dx,_,rfl,J5,rfl,_,rfl,x,go,ms,wt,iw,(ds.length:Int),ws,ks,rfl,⟨dx,J5⟩,V3,U5,ndk,lw,lk,yes (.inr #[2])⟩
  ·rw[bz,lo]at c2
   exact⟨_,rfl,x,dx,_,rfl,J5,rfl,_,rfl,x,go,ms,wt,iw,g,ws,ks,rfl,⟨dx,J5⟩,V3,U5,ndk,lw,lk,fin g (fun h=>absurd h (fun z=>by
    rcases z with z|z
    ·exact c z
    ·exact c2 #[2])) (fun _=>rfl)⟩
end
def ar(many:Nat)(q:Int):Prop:=0<=q/\q<(many:Int)
structure aap(many:Nat)(cols:List (Int->Int))(sg:Int->Int)(R:Int->Int->Prop):Prop where
 sgn:∀ x y,R x y->sg x=sg y
 led:∀ x y,R x y->∀ c∈cols,R (c x) (c y)
structure LV(many:Nat)(cols:List (Int->Int))(sg:Int->Int)(R:Int->Int->Prop)(grp:Int->Int)(W:Int->Prop):Prop where
 coarse:∀ x y,ar many x->ar many y->R x y->grp x=grp y
 signs:∀ x y,ar many x->ar many y->grp x=grp y->sg x=sg y
 cong:∀ x y,ar many x->ar many y->grp x=grp y->∀ c∈cols,grp (c x)=grp (c y)\/W (grp (c x))\/W (grp (c y))
structure tR(many:Nat)(cols:List (Int->Int))(sg:Int->Int)(R:Int->Int->Prop)(grp:Int->Int)(W:Int->Prop)(S:Int->Prop)(k:Nat):Prop where
 coarse:∀ x y,ar many x->ar many y->R x y->grp x=grp y
 signs:∀ x y,ar many x->ar many y->grp x=grp y->sg x=sg y
 whole:∀ x y,ar many x->ar many y->R x y->S x->S y
 cong:∀ x y,ar many x->ar many y->grp x=grp y->∀ (j:Nat) (c:Int->Int),cols[j]?=some c ->
  grp (c x)=grp (c y)\/W (grp (c x))\/W (grp (c y))\/(k<=j/\((S (c x)/\¬ S (c y))\/(S (c y)/\¬ S (c x))))
section
variable{cols:List (Int->Int)}{R:Int->Int->Prop}{W S:Int->Prop}{k:Nat}
theorem LV.pop(h:LV many cols sg R grp W)(hc:∀ x,ar many x->∀ c∈cols,ar many (c x))(s:Int):tR many cols sg R grp (fun g=>W g/\g≠s) (fun q=>grp q=s) 0 where
 coarse:=h.coarse
 signs:=h.signs
 whole:=fun x y hx hy r e=>(h.coarse x y hx hy r).symm.trans e
 cong:=fun x y hx hy e j c hj=>by
  have cm:=rj hj
  rcases Classical.em (grp (c x)=grp (c y))with q|q
  ·exact .inl q
  rcases Classical.em (grp (c x)=s)with a|a
  ·exact .inr (.inr (.inr ⟨jb _,.inl ⟨a,fun b=>q (a.trans b.symm)⟩⟩))
  rcases Classical.em (grp (c y)=s)with b|b
  ·exact .inr (.inr (.inr ⟨jb _,.inr ⟨b,a⟩⟩))
  rcases h.cong x y hx hy e c cm with z|z|z
  ·exact .inl z
  ·exact .inr (.inl ⟨z,a⟩)
  ·exact .inr (.inr (.inl ⟨z,b⟩))
theorem tR.done(h:tR many cols sg R grp W S cols.length):LV many cols sg R grp W where
 coarse:=h.coarse
 signs:=h.signs
 cong:=fun x y hx hy e c cm=>by
  obtain⟨j,hj⟩:=JD.mp cm
  rcases h.cong x y hx hy e j c hj with z|z|z|⟨z,_⟩
  ·exact .inl z
  ·exact .inr (.inl z)
  ·exact .inr (.inr z)
  ·have:=(hX hj).1
   omega
theorem tR.split(h:tR many cols sg R grp W S k)(sym:∀ x y,R x y->R y x)(hc:∀ x,ar many x->∀ c∈cols,ar many (c x)){L:Int->Prop}{n:Int}{W':Int->Prop}(hL:∀ x y,ar many x->ar many y->R x y->L x->L y)(nn:∀ x,ar many x->grp x≠n)(w1:∀ g,W g->W' g)(w2:W b->W' n)(w3:W' n\/W' b)(g1:∀ x,ar many x->grp x=b->L x->OC x=n)(g2:∀ x,ar many x->¬ (grp x=b/\L x)->OC x=grp x):
  tR many cols sg R OC W' S k:=by
 have back:∀ x y,ar many x->ar many y->OC x=OC y->grp x=grp y/\(grp x=b->(L x↔L y)):=fun x y hx hy e=>by
  exists 149
  ·rcases Classical.em (grp y=b/\L y)with p|p
   ·exact⟨q.1.trans p.1.symm,fun _=>⟨fun _=>p.2,fun _=>q.2⟩⟩
   ·rw[g1 x hx q.1 q.2,g2 y hy p]at e
    exact absurd e.symm (nn y hy)
  ·rcases Classical.em (grp y=b/\L y)with p|p
   ·rw[g2 x hx q,g1 y hy p.1 p.2]at e
    exact absurd e (nn x hx)
   ·rw[g2 x hx q,g2 y hy p]at e
    exact⟨e,fun eb=>⟨fun lx=>absurd ⟨eb,lx⟩ q,fun ly=>absurd ⟨e.symm.trans eb,ly⟩ p⟩⟩
 have wait:∀ x,ar many x->W (grp x)->W' (OC x):=fun x hx w=>by
  exists 149
  ·rw[g1 x hx q.1 q.2]
   exact w2 (q.1 ▸ w)
  ·rw[g2 x hx q]
   exact w1 _ w
 refine⟨fun x y hx hy r=>?_,fun x y hx hy e=>h.signs x y hx hy (back x y hx hy e).1,h.whole,fun x y hx hy e j c hj=>?_⟩
 ·have e:=h.coarse x y hx hy r
  exists 149
  ·rw[g1 x hx q.1 q.2,g1 y hy (e.symm.trans q.1) (hL x y hx hy r q.2)]
  ·have p:¬ (grp y=b/\L y):=fun p=>q ⟨e.trans p.1,hL y x hy hx (sym x y r) p.2⟩
   rw[g2 x hx q,g2 y hy p,e]
 ·have cm:=rj hj
  have hcx:=hc x hx c cm
  have hcy:=hc y hy c cm
  rcases h.cong x y hx hy (back x y hx hy e).1 j c hj with z|z|z|z
  ·rcases Classical.em (grp (c x)=b/\L (c x))with q|q
   ·rcases Classical.em (grp (c y)=b/\L (c y))with p|p
    ·exact .inl (by rw[g1 _ hcx q.1 q.2,g1 _ hcy p.1 p.2])
    ·have ex:=g1 _ hcx q.1 q.2
     have ey:=g2 _ hcy p
     rcases w3 with a|a
     ·exact .inr (.inl (by rw[ex];exact a))
     ·exact .inr (.inr (.inl (by rw[ey,<- z,q.1];exact a)))
   ·rcases Classical.em (grp (c y)=b/\L (c y))with p|p
    ·have ex:=g2 _ hcx q
     have ey:=g1 _ hcy p.1 p.2
     rcases w3 with a|a
     ·exact .inr (.inr (.inl (by rw[ey];exact a)))
     ·exact .inr (.inl (by rw[ex,z,p.1];exact a))
    ·exact .inl (by rw[g2 _ hcx q,g2 _ hcy p,z])
  ·exact .inr (.inl (wait _ hcx z))
  ·exact .inr (.inr (.inl (wait _ hcy z)))
  ·exact .inr (.inr (.inr z))
theorem tR.next(h:tR many cols sg R grp W S k)(hk:cols[k]?=some c)(hn:∀ x y,ar many x->ar many y->grp x=grp y->S (c x)->S (c y)):tR many cols sg R grp W S (k+1) where
 coarse:=h.coarse
 signs:=h.signs
 whole:=h.whole
 cong:=fun x y hx hy e j c' hj=>by
  rcases h.cong x y hx hy e j c' hj with z|z|z|⟨kj,z⟩
  ·exact .inl z
  ·exact .inr (.inl z)
  ·exact .inr (.inr (.inl z))
  ·rcases JT k j with l|l
   ·exact .inr (.inr (.inr ⟨l,z⟩))
   ·have ej:j=k:=by omega
    subst ej
    rw[hk]at hj
    cases hj
    rcases z with⟨a,b⟩|⟨a,b⟩
    ·exact absurd (hn x y hx hy e a) b
    ·exact absurd (hn y x hy hx e.symm a) b
theorem LV.acp(h:LV many cols sg R grp W)(hw:∀ x,ar many x->¬ W (grp x))(hc:∀ x,ar many x->∀ c∈cols,ar many (c x)):∀ x y,ar many x->ar many y->grp x=grp y->∀ c∈cols,grp (c x)=grp (c y):=fun x y hx hy e c cm=>by
 rcases h.cong x y hx hy e c cm with z|z|z
 ·exact z
 ·exact absurd z (hw _ (hc x hx c cm))
 ·exact absurd z (hw _ (hc y hy c cm))
theorem LV.single(inj:∀ x y,ar many x->ar many y->grp x=grp y->x=y):∀ x y,ar many x->ar many y->grp x=grp y->∀ c∈cols,grp (c x)=grp (c y):=fun x y hx hy e c _=>by rw[inj x y hx hy e]
end
theorem LV.start{cols:List (Int->Int)}{R:Int->Int->Prop}(l:aap many cols sg R){W:Int->Prop}(hg:∀ x y,ar many x->ar many y->(grp x=grp y↔sg x=sg y))(hw:∀ x,ar many x->W (grp x))(hc:∀ x,ar many x->∀ c∈cols,ar many (c x)):LV many cols sg R grp W where
 coarse:=fun x y hx hy r=>(hg x y hx hy).mpr (l.sgn x y r)
 signs:=fun x y hx hy e=>(hg x y hx hy).mp e
 cong:=fun x y hx hy _ c cm=>.inr (.inl (hw _ (hc x hx c cm)))
theorem iu:∀ {xs ys:LI},xs.Nodup->(∀ x∈xs,x∈ys)->xs.length<=ys.length
 | [],_,_,_=>jb _
 | x :: xs,ys,nd,h=>by
  have n:=jh.mp nd
  have m:=h x jE
  have i:=iu (xs:=xs) (ys:=ys.erase x) n.2 fun y hy=>by
   have e:y≠x:=fun z=>n.1 (z ▸ hy)
   exact(Jh e).mpr (h y (jK _ hy))
  rw[Jp m]at i
  have:=JO m
  rw[jc]
  omega
theorem Lf{xs ys:LI}(nd:xs.Nodup)(h:∀ x∈xs,x∈ys)(l:ys.length<=xs.length):∀ y∈ys,y∈xs:=fun y hy=>Classical.byContradiction fun z=>by
 have:=iu (xs:=y :: xs) (ys:=ys) (jh.mpr ⟨z,nd⟩) fun q hq=>by
  rcases jW.mp hq with r|r
  ·rw[r];exact hy
  ·exact h q r
 rw[jc]at this
 omega
theorem Ig{n:Int}:∀ {done gs:LI} {x:Nat},x<gs.length->(∀ q∈done,0<=q)->(setG gs done n).getD x 0=if (x:Int)∈done then n else gs.getD x 0
 | [],gs,x,_,_=>by rw[if_neg #[11]];rfl
 | q :: r,gs,x,hx,h=>by
  have ih:=Ig (gs:=gs.set q.toNat n) (n:=n) (done:=r) (x:=x) (by rw[zL];exact hx) fun p hp=>h p (jK _ hp)
  show(setG (gs.set q.toNat n) r n).getD x 0=_
  rw[ih]
  have q0:=h q jE
  by_cases c:(x:Int)∈r
  ·rw[if_pos c,if_pos (jK _ c)]
  ·rw[if_neg c]
   by_cases d:(x:Int)=q
   ·rw[if_pos (by rw[d];exact jE)]
    have e:q.toNat=x:=by omega
    rw[e,jN,Jc hx]
    rfl
   ·rw[if_neg (fun z=>(jW.mp z).elim d c)]
    have e:q.toNat≠x:=by omega
    rw[jN,Jg e,jN]
def bw(gs:LI)(q:Int):Int:=gs.getD q.toNat 0
theorem Ih{n:Int}(h0:0<=q)(h1:q<(gs.length:Int))(hi:∀ p∈ins,0<=p):bw (setG gs ins n) q=if q∈ins then n else bw gs q:=by
 have h:=Ig (n:=n) (done:=ins) (gs:=gs) (x:=q.toNat) #[2] hi
 rw[jd h0]at h
 exact h
structure Bq(H:Hp)(C x go ms wt iw:Zg)(many:Nat)(gs:LI)(ds:List Zg)(ws:LI):Prop where
 pt:FY H C x go ms wt iw
 go_:H go=some #[205]
 ms_:H ms=some #[299]
 wt_:H wt=some (.lst #[267])
 iw_:H iw=some (.dK (cT ws))
 lg:gs.length=many
 val:∀ q,ar many q->0<=bw gs q/\bw gs q<(ds.length:Int)
 mem:∀ (i:Nat) (da:Zg),ds[i]?=some da->∃ mem:LI,H da=some (.dK (cT mem))/\mem.Nodup/\mem≠[]/\∀ q,q∈mem↔ar many q/\bw gs q=(i:Int)
 dn:ds.Nodup
 ndi:iw∉ds
 n1:go≠ms
 n2:go≠wt
 n3:ms≠wt
 wn:ws.Nodup
 wv:∀ g∈ws,0<=g/\g<(ds.length:Int)
section
variable{x ms:Zg}
theorem Bq.at_(h:Bq H C x go ms wt iw many gs ds ws){d:Zg}(hd:d∈ds):∃ mem:LI,H d=some (.dK (cT mem)):=by
 obtain⟨i,hi⟩:=JD.mp hd
 obtain⟨mem,h1,_⟩:=h.mem i d hi
 exact⟨mem,h1⟩
theorem Bq.same(h:Bq H C x go ms wt iw many gs ds ws)(s:aH H H'):Bq H' C x go ms wt iw many gs ds ws:=
 ⟨h.pt.same s,s _ _ h.go_,s _ _ h.ms_,s _ _ h.wt_,s _ _ h.iw_,h.lg,h.val,fun i da hi=>by
  obtain⟨mem,h1,h2,h3,h4⟩:=h.mem i da hi
  exact⟨mem,s _ _ h1,h2,h3,h4⟩,h.dn,h.ndi,h.n1,h.n2,h.n3,h.wn,h.wv⟩
theorem Bq.BC(h:Bq H C x go ms wt iw many gs ds ws):ds.length<=many:=by
 have t:=iu (xs:=(jn ds.length).map fun i:Nat=>(i:Int)) (ys:=gs) (Ju.mpr (List.nodup_range.imp fun {a b} n z=>n (by
  have z':(a:Int)=(b:Int):=z
  omega))) (fun g hg=>by
  obtain⟨i,hi,rfl⟩:=jM.mp hg
  have il:=js.mp hi
  obtain⟨mem,_,_,ne,iff⟩:=h.mem i _ (jA il)
  obtain⟨q,r,rfl⟩:=zS ne
  obtain⟨⟨q0,q1⟩,e⟩:=(iff q).mp jE
  have l:q.toNat<gs.length:=by rw[h.lg];omega
  unfold bw at e
  rw[getD_at l]at e
  rw[<- e]
  exact jH l)
 rw[bz,ju,h.lg]at t
 exact t
theorem Bq.ajF(h:Bq H C x go ms wt iw many gs ds ws):ws.length<=ds.length:=cF ds.length h.wn h.wv
theorem Bq.split{da E:Zg}{g nw:Int}(h:Bq H C x go ms wt iw many gs ds ws)(g0:0<=g)(rb:ds[g.toNat]?=some da)(Dk:H da=some (.dK (cT mem)))(hm:∀ q,q∈mem↔ar many q/\bw gs q=g)(nm:mem.Nodup)(ndi:ins.Nodup)(OK:∀ q∈ins,q∈mem)(hne:ins≠[])(lt:ins.length<mem.length)(fE:H E=none)(hE:H' E=some (.dK (cT ins)))(hms:H' ms=some (.lst ((ds++[E]).map V.ref)))(U0:H' da=some (.dK (cT #[269])))(Hl:H' go=some (.lst (#[113].map V.int)))(Cw:H' wt=some #[285])(Dz:H' iw=some (.dK (cT (if nw∈ws then ws else ws++[nw]))))(hnw:nw∉ws)(nwv:nw=(ds.length:Int)\/nw=g)(kp:∀ c u,c≠go->c≠ms->c≠da->c≠wt->c≠iw->H c=some u->H' c=some u):Bq H' C x go ms wt iw many #[113] (ds++[E]) (ws++[nw]):=by
 have gl:g.toNat<ds.length:=(hX rb).1
 have ip:∀ p∈ins,0<=p:=fun p hp=>((hm p).mp (OK p hp)).1.1
 have gr:∀ q,ar many q->bw #[113] q=if q∈ins then(ds.length:Int)else bw gs q:=fun q hq=>Ih hq.1 (by rw[h.lg];exact hq.2) ip
 have eE:E∉ds:=fun z=>by
  obtain⟨m,hm⟩:=h.at_ z
  rw[fE]at hm
  cases hm
 obtain⟨dx,hx⟩:=h.pt.ob
 refine⟨⟨dx,kp _ _ (aF hx h.go_ #[0]) (aF hx h.ms_ #[0]) (aF hx Dk #[0]) (aF hx h.wt_ #[0]) (aF hx h.iw_ #[0]) hx⟩,Hl,hms,Cw,by rw[if_neg hnw]at Dz;exact Dz,by rw[Ii];exact h.lg,fun q hq=>?_,fun i d hi=>?_,?_,?_,h.n1,h.n2,h.n3,Aa h.wn hnw,fun p hp=>?_⟩
 ·rw[gr q hq,jG,jS]
  have v:=h.val q hq
  split<;>omega
 ·rcases snoc_cases hi with hi|⟨rfl,rfl⟩
  ·have il:=(hX hi).1
   by_cases c:d=da
   ·subst c
    have ei:i=g.toNat:=by
     have e1:=(hX hi).2
     have e2:=(hX rb).2
     exact(JJ h.dn).mp (e1.trans e2.symm)
    refine⟨outF mem ins,U0,nm.filter _,fun z=>?_,fun q=>?_⟩
    ·have all:∀ q∈mem,q∈ins:=fun q hq=>Classical.byContradiction fun n=>by
      have:q∈outF mem ins:=jy.mpr ⟨hq,decide_eq_true n⟩
      rw[z]at this
      cases this
     have:=iu nm all
     omega
    ·unfold outF
     rw[jy,hm,ei,jd g0]
     constructor
     ·rintro⟨⟨h1,h2⟩,h3⟩
      exact⟨h1,by rw[gr q h1,if_neg (of_decide_eq_true h3)];exact h2⟩
     ·rintro⟨h1,h2⟩
      rw[gr q h1]at h2
      by_cases n:q∈ins
      ·rw[if_pos n]at h2
       omega
      ·rw[if_neg n]at h2
       exact⟨⟨h1,h2⟩,decide_eq_true n⟩
   ·obtain⟨m2,h1,h2,h3,h4⟩:=h.mem i d hi
    refine⟨m2,kp _ _ (aF h1 h.go_ #[0]) (aF h1 h.ms_ #[0]) c (aF h1 h.wt_ #[0]) (fun z=>h.ndi (z ▸ rj hi)) h1,h2,h3,fun q=>?_⟩
    have ni:(i:Int)≠g:=fun z=>by
     have e:i=g.toNat:=by omega
     rw[e,rb]at hi
     exact c #[218].symm
    rw[h4]
    refine and_congr_right fun hq=>?_
    rw[gr q hq]
    by_cases n:q∈ins
    ·have e:=((hm q).mp (OK q n)).2
     rw[if_pos n,e]
     constructor<;>intro z<;>omega
    ·rw[if_neg n]
  ·refine⟨ins,hE,ndi,hne,fun q=>?_⟩
   constructor
   ·intro hq
    have r:=((hm q).mp (OK q hq)).1
    exact⟨r,by rw[gr q r,if_pos hq]⟩
   ·rintro⟨hq,e⟩
    rw[gr q hq]at e
    by_cases n:q∈ins
    ·exact n
    ·rw[if_neg n]at e
     have:=h.val q hq
     omega
 ·refine JA.mpr ⟨h.dn,jh.mpr ⟨by simp,JN⟩,fun a ha b hb=>?_⟩
  rw[jI.mp hb]
  exact fun z=>eE (z ▸ ha)
 ·intro z
  rcases wb.mp z with z|z
  ·exact h.ndi z
  ·have e:=jI.mp z
   rw[<- e,h.iw_]at fE
   cases fE
 ·rw[jG,jS]
  rcases wb.mp hp with z|z
  ·have:=h.wv p z
   omega
  ·rw[jI.mp z]
   rcases nwv with e|e<;>omega
end
def TJ(many:Nat)(L gs:LI)(n:Nat)(ws sE pX:LI):Prop := ∃ b nw:Int,pX=ws++[nw]/\(nw=(n:Int)\/nw=b)/\(b∈ws->nw=(n:Int))/\(∀ q,ar many q->bw gs q=b->q∈L->bw sE q=(n:Int))/\(∀ q,ar many q->¬ (bw gs q=b/\q∈L)->bw sE q=bw gs q)
def Iq(C:Zg):Sp:=fun vs H Q _=>∃ (x go ms wt iw ll:Zg) (many:Nat) (gs ws L:LI) (ds:List Zg) (J:LI->Nat->LI->Prop),vs=[.ref x,.ref ll]/\Bq H C x go ms wt iw many gs ds ws/\many<1000/\H ll=some (.lst (L.map V.int))/\(ll≠go/\ll≠ms/\ll≠wt)/\L.Nodup/\(∀ q∈L,ar many q)/\J gs ds.length ws /\
 (∀ gs n ws sE pX,J gs n ws->(∀ q,ar many q->0<=bw gs q/\bw gs q<(n:Int))->TJ many L gs n ws sE pX->J sE (n+1) pX) /\
 ∀ (H':Hp) (sE pX:LI) (more:List Zg),Bq H' C x go ms wt iw many sE #[306] pX->J sE #[306].length pX->(∀ a b,ar many a->ar many b->bw sE a=bw sE b->a∈L->b∈L)->(∀ d∈more,H d=none)->#[169]->Q .non H'
section
theorem cO:aJ ["self","leading","touched","here","group","inside"] ["self","leading"] (aj iA):=cU #[4]
theorem O3(F:bE K "part_by" "Parted.part_by" iA dV f fd)(pc:FX K C)(pd:mM P w K mg base C "split_off" 2 ["self","group","inside"] (MY K C))(bj:mg "len" = none):bu P w K mg base eA 3 f fd ["self","leading"] (Iq C):=by
 refine F.ok cO #[6] #[1]
 ·obtain⟨x,go,ms,wt,iw,ll,many,gs,ws,L,ds,J,rfl,_⟩:=h
  rfl
 obtain⟨x,go,ms,wt,iw,ll,many,gs,ws,L,ds,J,rfl,S,akK,hll,⟨l1,l2,l3⟩,ndL,hL,j0,jst,k⟩:=h
 have hu:=oP hr
 obtain⟨dx,hx⟩:=S.pt.ob
 have al9:L.length<=many:=cF many ndL hL
 have al7:=S.BC
 refine⟨_,(ak (aL (i:=2) cO.nd rU)
   (ak (cD PassesOwn.never rfl (dj (pv 1)) (bB (i:=3) cO.nd) (au (bZ (lN WG WH WI cc (Fe (pv 2) (aC iC #[31] (pv 3) #[3]) (dU ag) ⟨rfl,rfl,rfl,rfl⟩) #[91]))))
   (au (cD PassesOwn.never rfl (Sx (Lp We Yk PySem.F.type_dict_items RQ (pv 2))) (CS rfl (eL (bB (i:=4) cO.nd) (eL (bB (i:=5) cO.nd) Ad))) (au (cV (bV MA (aG aM #[42] bj bH (aa (pv 5) ag)) (aG so #[42] bj bH (aa (aC iC #[31] (pv 4) #[3]) ag)) (bI _)) (au (bZ (tF pd hr (pv 0) (aa (pv 4) (aa (pv 5) ag))))) bM)))))),?_⟩
 refine fun B hB=>?_
 have s0:=ao hB (HO.dK [])
 exists 128
 refine cS (t:=AW _ _ _) (fun σ' H'=>∃ (es:List #[294]) (v:OV),σ'=[some #[94],some (.ref ll),some (.ref B),v,none,none]/\aH H H'/\cC H H' B es (fun q ls=>ls=L.filter fun h=>decide (bw gs h=q))/\∀ e∈es,∃ h∈L,bw gs h=e.1) ?_ #[47]
 rotate_left
 ·have b0:cC H (upd H B (.dK [])) B [] (fun q ls=>ls=(L.take 0).filter fun h=>decide (bw gs h=q)):=⟨ae,List.Pairwise.nil,List.Pairwise.nil,#[196],#[196],fun q _=>rfl⟩
  exists _,rfl,ll,rfl,⟨_,cG (s0 _ _ hll)⟩
  refine fP (K:=K) (xs:=L.map V.int) (fun i σ' H'=>∃ (es:List #[294]) (v:OV),σ'=[some #[94],some (.ref ll),some (.ref B),v,none,none]/\aH H H'/\cC H H' B es (fun q ls=>ls=(L.take i).filter fun h=>decide (bw gs h=q))/\∀ e∈es,∃ h∈L,bw gs h=e.1) ⟨[],none,rfl,s0,b0,fun e h=>by cases h⟩ (fun i σ' H' _ ⟨_,_,_,e,_,_⟩=>cG (e _ _ hll)) ?_ ?_
  ·rintro i y σ' H2 hi ⟨es,v,rfl,s2,b2,kr⟩
   obtain⟨h,rfl,hh⟩:=bU hi
   have hm:=rj hh
   have il:=(hX hh).1
   have OK:=hL h hm
   have gv:=S.val h OK
   have at':Dh (gs.map V.int) h=some (.int (bw gs h)):=bK OK.1 (by rw[S.lg];exact OK.2)
   refine⟨_,rfl,B,rfl,.inl ⟨_,.inl b2.at_⟩,_,rfl,x,C,dx,_,_,rfl,s2 _ _ hx,pc.cl,pc.ng,rfl,_,rfl,go,_,_,_,rfl,rfl,cG (s2 _ _ S.go_),at',#[28],fun La Ml=>?_⟩
   have sL:=ao Ml #[147]
   have b3:=b2.same sL
   have nL:∀ e∈es,e.2≠La:=fun e he z=>by
    obtain⟨ls,h1,_⟩:=b2.lst e he
    rw[z,Ml]at h1
    cases h1
   have nLB:B≠La:=ah b2.at_ Ml
   have fL:H La=none:=s2.free Ml
   have BC:=cF ds.length b3.nd (fun q hq=>by
    obtain⟨e,he,rfl⟩:=jM.mp hq
    obtain⟨p,hp,ep⟩:=kr e he
    rw[<- ep]
    exact S.val p (hL p hp))
   rw[bz]at BC
   have len:(AI es).length<sizeLine:=aA (by unfold AI;rw[bz];omega)
   have et:L.take (i+1)=L.take i++[h]:=by rw[jU,hh];rfl
   have oth:∀ (p:Int) (ls:LI),p≠bw gs h->(ls=(L.take i).filter fun h=>decide (bw gs h=p))->ls=(L.take (i+1)).filter fun h=>decide (bw gs h=p):=fun p ls np z=>by
    rw[et,Ja,JH (by rw[decide_eq_false (Ne.symm np)];decide),ZZ,jr]
    exact z
   have grow:∀ ls:LI,(ls=(L.take i).filter fun q=>decide (bw gs q=bw gs h))->ls++[h]=(L.take (i+1)).filter fun q=>decide (bw gs q=bw gs h):=fun ls z=>by
    have e1:[h].filter (fun q=>decide (bw gs q=bw gs h))=[h]:=by simp
    rw[et,Ja,e1,z]
   refine⟨_,Sum.inl (bw gs h),b3.at_,rfl,len,fun v hv=>?_,fun hn=>?_⟩
   ·obtain⟨la,ls,rfl,hme,Rr,hp⟩:=b3.get hv
    have pl:ls.length<=i:=by
     rw[hp]
     exact jo (Jy _ _) (by rw[jX];omega)
    have lz:(ls.map V.int).length<sizeLine:=aA #[35]
    exists .inl ⟨rfl,_,cG Rr⟩,_,rfl,la,_,_,rfl,rfl,Rr,lz
    exact⟨es,_,rfl,av (s2.trans sL) (b2.fresh _ hme),b3.old hme Rr (grow ls hp) oth,kr⟩
   ·have hq:bw gs h∉es.map Prod.fst:=fun z=>by
     obtain⟨e,he,ee⟩:=jM.mp z
     obtain⟨jj,hjj⟩:=JD.mp he
     have:=CF b3.nd (q:=e.1) (a:=e.2) hjj
     rw[ee,hn]at this
     cases this
    have tZ:(upd (upd H2 La #[147]) B (HO.dK (putK (AI es) (Sum.inl (bw gs h)) (V.ref La)))) La=some (.lst []):=by rw[af (Ne.symm nLB),ae]
    refine⟨.inl ⟨rfl,_,cG tZ⟩,_,rfl,La,_,_,rfl,rfl,tZ,(by show 0<sizeLine;decide),?_⟩
    refine⟨es++[(bw gs h,La)],_,rfl,av (av (s2.trans sL) hB) fL,b3.new hq ae fL nL (grow [] (b3.non _ hq)) oth,fun e he=>?_⟩
    rcases wb.mp he with z|z
    ·exact kr e z
    ·rw[jI.mp z]
     exact⟨h,hm,rfl⟩
  ·rintro σ' H1 ⟨es,v,rfl,s1,b1,kr⟩
   rw[bz,jY]at b1
   exact hZ _ _ ⟨es,v,rfl,s1,b1,kr⟩
 rintro σ' H1 ⟨es,v,rfl,s1,b1,kr⟩
 refine⟨_,rfl,.inr (.inr (.inl ⟨rfl,.inl ⟨_,b1.at_⟩⟩)),B,_,rfl,rfl,b1.at_,fun vw hvw=>?_⟩
 have nBv:B≠vw:=ah b1.at_ hvw
 refine⟨vw,B,AI es,rfl,ae,by rw[af nBv];exact b1.at_,fun o=>?_⟩
 have fvw:H vw=none:=s1.free hvw
 obtain⟨H2,Di⟩:∃ H2,upd (upd H1 vw (wz vw B)) B (.oN o (.dK (AI es)))=H2:=⟨_,rfl⟩
 have s2:aH H H2:=by rw[<- Di];exact av (av s1 fvw) hB
 have hB2:H2 B=some (.oN o (.dK (AI es))):=by rw[<- Di,ae]
 have ls2:∀ e∈es,H2 e.2=some #[251]:=fun e he=>by
  obtain⟨ls,h1,h2⟩:=b1.lst e he
  rw[<- Di,af (aF h1 b1.at_ #[0]),af (ah h1 hvw),h1,h2]
 rw[Di]
 have ndk:=b1.nd
 have lk:(AI es).length=es.length:=by unfold AI;rw[bz]
 refine Oy (o:=o) (kvs:=AI es) (fun i σ' H'=>∃ (sE pX:LI) (more:List Zg) (v1 v2 v3:OV),σ'=[some #[94],some (.ref ll),some (.ref B),v1,v2,v3]/\Bq H' C x go ms wt iw many sE #[306] pX/\J sE #[306].length pX/\(∀ d∈more,H d=none)/\H' B=some (.oN o (.dK (AI es))) /\
   (∀ e∈es,H' e.2=some #[251])/\#[169]/\(∀ q,ar many q->bw gs q∉(es.take i).map Prod.fst->bw sE q=bw gs q) /\
   (∀ a b,ar many a->ar many b->bw sE a=bw sE b->bw gs a=bw gs b/\(bw gs a∈(es.take i).map Prod.fst->(a∈L↔b∈L))))
  ⟨gs,ws,[],v,none,none,rfl,by rw[jr];exact S.same s2,by rw[jr];exact j0,(fun d hd=>by cases hd),hB2,ls2,(fun c u _ _ _ _ _ e=>s2 _ _ e),(fun _ _ _=>rfl),fun a b _ _ e=>⟨e,fun z=>by rw[zP]at z;cases z⟩⟩
  (fun i σ' H' _ ⟨_,_,_,_,_,_,_,_,_,_,e,_,_,_,_⟩=>e) ?_ ?_
 ·rintro i p σ' H3 T hi ⟨sE,pX,more,v1,v2,v3,rfl,S3,j3,fm,hB3,ls3,D5,ga,gb⟩ hT
  obtain⟨e,he,rfl⟩:∃ e,es[i]?=some e/\p=#[248]:=by
   unfold AI at hi
   rw[jP]at hi
   obtain⟨e,h1,h2⟩:=Jt.mp hi
   exact⟨e,h1,h2.symm⟩
  obtain⟨b,il⟩:=e
  have hme:=rj he
  have ilt:i<es.length:=(hX he).1
  have sT:=ao hT (HO.tup [V.int b,V.ref il])
  exists T,_,rfl,bJ ae,rfl,_,_,rfl,_,_,rfl,rfl
  obtain⟨H4,su⟩:∃ H4,upd H3 T (HO.tup [V.int b,V.ref il])=H4:=⟨_,rfl⟩
  have sT':aH H3 H4:=by rw[<- su];exact sT
  have agU:upd H3 T (HO.tup [kV (Sum.inl b),V.ref il])=H4:=su
  try rw[su]
  try rw[agU]
  have S4:=S3.same sT'
  obtain⟨dx4,J5⟩:=S4.pt.ob
  obtain⟨h0,h0m,e0⟩:=kr _ hme
  have bv:=S.val h0 (hL h0 h0m)
  rw[e0]at bv
  have bl:b.toNat<ds.length:=by omega
  have rb:#[306][b.toNat]?=some ds[b.toNat]:=by rw[jk bl,jA bl]
  obtain⟨da,eda⟩:∃ da,ds[b.toNat]=da:=⟨_,rfl⟩
  rw[eda]at rb
  obtain⟨mem,Dk,ndm,nem,hm⟩:=S4.mem b.toNat da rb
  rw[jd bv.1]at hm
  have at':Dh (#[306].map V.ref) b=some (.ref da):=oH bv.1 rb
  have aby:=sT' _ _ (ls3 _ hme)
  obtain⟨ins,abg⟩:∃ ins,(L.filter fun h=>decide (bw gs h=b))=ins:=⟨_,rfl⟩
  have U4:H4 il=some (.lst (ins.map V.int)):=by rw[<- abg];exact aby
  have insm:∀ q,q∈ins↔q∈L/\bw gs q=b:=fun q=>by
   rw[<- abg,jy]
   exact and_congr_right fun _=>⟨of_decide_eq_true,decide_eq_true⟩
  have Lg:b∉(es.take i).map Prod.fst:=fun z=>by
   obtain⟨e,h1,h2⟩:=jM.mp z
   obtain⟨j,hj,ej⟩:=jZ h1
   rw[jX]at hj
   rw[zF]at ej
   have e2:=(hX he).2
   have:#[174][j]'#[35]=#[174][i]'#[35]:=by
    rw[JV,JV,ej,e2]
    exact h2
   have:=(JJ ndk).mp this
   omega
  have Cy:∀ q∈ins,q∈mem:=fun q hq=>by
   have h1:=(insm q).mp hq
   refine(hm q).mpr ⟨hL q h1.1,?_⟩
   rw[ga q (hL q h1.1) (by rw[h1.2];exact Lg),h1.2]
  have Mx:ins.Nodup:=by rw[<- abg];exact ndL.filter _
  have aeT:ins≠[]:=fun z=>by
   have:=(insm h0).mpr ⟨h0m,e0⟩
   rw[z]at this
   cases this
  have etk:(es.take (i+1)).map Prod.fst=(es.take i).map Prod.fst++[b]:=by rw[jU,he,jD];rfl
  have lkm:(cT mem).length=mem.length:=by unfold cT;rw[bz]
  have ngo:=S4.go_
  have nms:=S4.ms_
  have nwt:=S4.wt_
  have fil:H il=none:=b1.fresh _ hme
  have g1:go≠il:=fun z=>by rw[<- z,S.go_]at fil;cases fil
  have g2:ms≠il:=fun z=>by rw[<- z,S.ms_]at fil;cases fil
  have g3:wt≠il:=fun z=>by rw[<- z,S.wt_]at fil;cases fil
  have ama:=S4.BC
  have amb:=S4.ajF
  have ag3:mem.length<=many:=cF many ndm fun q hq=>((hm q).mp hq).1
  have al8:ins.length<=mem.length:=iu Mx Cy
  refine⟨_,rfl,il,_,rfl,.inl (cG U4),_,rfl,x,C,dx4,_,_,rfl,J5,pc.cl,pc.nm,rfl,_,rfl,ms,_,_,_,rfl,rfl,cG nms,at',da,_,rfl,Dk,_,_,rfl,rfl,_,rfl,sS #[90] #[90]⟩
  ·rw[bz,lkm]at c
   have lt:ins.length<mem.length:=by omega
   have dsn:#[306].length<1000:=by omega
   refine⟨_,rfl,x,dx4,_,rfl,J5,rfl,_,rfl,_,rfl,x,go,ms,wt,iw,da,il,b,sE,pX,pX,mem,ins,ds++more,rfl,⟨dx4,J5⟩,ngo,nms,nwt,S4.iw_,S4.wn,⟨by omega,by omega,dsn,by omega⟩,bv.1,rb,Dk,U4,Mx,fun q hq=>?_,⟨S4.n1,S4.n2,g1,S4.n3,g2,g3,fun z=>S4.ndi (z ▸ rj rb)⟩,fun E nw H5 fE hE U9 ahE OI V4 ahR hy hn IC=>?_⟩
   ·have h1:=(hm q).mp (Cy q hq)
    exact⟨Cy q hq,h1.1.1,by rw[S4.lg];exact h1.1.2⟩
   ·have nwv:nw=(#[306].length:Int)\/nw=b:=by
     by_cases z:b∈pX\/ins.length<=#[269].length
     ·exact .inl (hy z)
     ·exact .inr (hn z)
    have nww:nw∉pX:=fun z=>by
     by_cases y:b∈pX\/ins.length<=#[269].length
     ·have:=S4.wv nw z
      rw[hy y]at this
      omega
     ·rw[hn y]at z
      exact y (.inl z)
    have S5:=S4.split bv.1 rb Dk hm ndm Mx Cy aeT lt fE hE U9 ahE OI V4 ahR nww nwv IC
    have ip:∀ p∈ins,0<=p:=fun p hp=>((hm p).mp (Cy p hp)).1.1
    have gr:∀ q,ar many q->bw (setG sE ins (#[306].length:Int)) q=if q∈ins then(#[306].length:Int)else bw sE q:=fun q hq=>Ih hq.1 (by rw[S4.lg];exact hq.2) ip
    have gh0:bw sE h0=b:=by rw[ga h0 (hL h0 h0m) (by rw[e0];exact Lg),e0]
    have inb:∀ q,ar many q->(q∈ins↔bw sE q=b/\q∈L):=fun q hq =>
     ⟨fun z=>⟨((hm q).mp (Cy q z)).2,((insm q).mp z).1⟩,fun z=>(insm q).mpr ⟨z.2,by
      rw[(gb q h0 hq (hL h0 h0m) (z.1.trans gh0.symm)).1]
      exact e0⟩⟩
    have fE0:H E=none:=by
     cases e:H E with
     | none=>rfl
     | some u =>
      have:=sT' _ _ (D5 E u (fun z=>by rw[z,ngo]at fE;cases fE) (fun z=>by rw[z,nms]at fE;cases fE) (fun z=>by rw[z,nwt]at fE;cases fE) (fun z=>by rw[z,S4.iw_]at fE;cases fE) (fun z=>by
       obtain⟨m,hm⟩:=S4.at_ (jg _ z)
       rw[fE]at hm
       cases hm) e)
      rw[fE]at this
      cases this
    have T6:=sT' _ _ hB3
    have dam:da∈ds:=eda ▸ jH bl
    refine⟨setG sE ins (#[306].length:Int),pX++[nw],more++[E],_,_,_,rfl,by rw[<- jv];exact S5,?_,fun d hd=>?_,IC _ _ (aF T6 ngo #[0]) (aF T6 nms #[0]) (aF T6 Dk #[0]) (aF T6 nwt #[0]) (aF T6 S4.iw_ #[0]) T6,fun e he=>?_,fun c u c1 c2 c3 c4 c5 e=>IC c u c1 c2 (fun z=>c5 (z ▸ dam)) c3 c4 (sT' _ _ (D5 c u c1 c2 c3 c4 c5 e)),fun q hq nq=>?_,fun a c ha hc e=>?_⟩
    ·have el:(ds++(more++[E])).length=#[306].length+1:=by simp only[jG,jS];omega
     rw[el]
     exact jst sE _ pX _ _ j3 S4.val ⟨b,nw,rfl,nwv,fun z=>hy (.inl z),fun q hq e hl=>by rw[gr q hq,if_pos ((inb q hq).mpr ⟨e,hl⟩)],fun q hq n=>by rw[gr q hq,if_neg fun z=>n ((inb q hq).mp z)]⟩
    ·rcases wb.mp hd with z|z
     ·exact fm d z
     ·rw[jI.mp z];exact fE0
    ·have fe:=b1.fresh e he
     have he4:=sT' _ _ (ls3 e he)
     exact IC _ _ (fun z=>by rw[z,S.go_]at fe;cases fe) (fun z=>by rw[z,S.ms_]at fe;cases fe) (aF he4 Dk #[0]) (fun z=>by rw[z,S.wt_]at fe;cases fe) (aF he4 S4.iw_ #[0]) he4
    ·rw[etk]at nq
     rw[gr q hq,if_neg fun z=>nq (jR _ (by rw[((insm q).mp z).2];exact jE))]
     exact ga q hq fun z=>nq (jg _ z)
    ·rw[gr a ha,gr c hc]at e
     by_cases ai:a∈ins
     ·by_cases ci:c∈ins
      ·have h1:=(insm a).mp ai
       have h2:=(insm c).mp ci
       exact⟨h1.2.trans h2.2.symm,fun _=>⟨fun _=>h2.1,fun _=>h1.1⟩⟩
      ·rw[if_pos ai,if_neg ci]at e
       have:=S4.val c hc
       omega
     ·by_cases ci:c∈ins
      ·rw[if_neg ai,if_pos ci]at e
       have:=S4.val a ha
       omega
      ·rw[if_neg ai,if_neg ci]at e
       have g:=gb a c ha hc e
       refine⟨g.1,fun z=>?_⟩
       rw[etk]at z
       rcases wb.mp z with z|z
       ·exact g.2 z
       ·have za:=jI.mp z
        exact⟨fun h=>absurd ((insm a).mpr ⟨h,za⟩) ai,fun h=>absurd ((insm c).mpr ⟨h,g.1.symm.trans za⟩) ci⟩
  ·rw[bz,lkm]at c
   have all:=Lf Mx Cy #[2]
   refine⟨sE,pX,more,_,_,_,rfl,S4,j3,fm,sT' _ _ hB3,(fun e he=>sT' _ _ (ls3 e he)),(fun c u c1 c2 c3 c4 c5 e=>sT' _ _ (D5 c u c1 c2 c3 c4 c5 e)),fun q hq nq=>?_,fun a c ha hc e=>?_⟩
   ·rw[etk]at nq
    exact ga q hq fun z=>nq (jg _ z)
   ·have g:=gb a c ha hc e
    refine⟨g.1,fun z=>?_⟩
    rw[etk]at z
    rcases wb.mp z with z|z
    ·exact g.2 z
    ·have za:=jI.mp z
     have inL:∀ q,ar many q->bw gs q=b->q∈L:=fun q hq eq=>((insm q).mp (all q ((hm q).mpr ⟨hq,by rw[ga q hq (by rw[eq];exact Lg),eq]⟩))).1
     exact⟨fun _=>inL c hc (g.1.symm.trans za),fun _=>inL a ha za⟩
 ·rintro σ' H' ⟨sE,pX,more,v1,v2,v3,rfl,S3,j3,fm,hB3,ls3,D5,ga,gb⟩
  rw[lk,jY]at gb
  refine k H' sE pX more S3 j3 (fun a b ha hb e hm=>?_) fm D5
  have g:=gb a b ha hb e
  refine(g.2 (Classical.byContradiction fun z=>?_)).mp hm
  have:=b1.non _ z
  have h2:a∈L.filter fun h=>decide (bw gs h=bw gs a):=jy.mpr ⟨hm,decide_eq_true rfl⟩
  rw[<- this]at h2
  cases h2
end
def Reach(wide:Nat)(rows:LL)(q:Int):Prop := ∃ row:LI,(∀ f∈row,0<=f/\f<(wide:Int))/\aP rows row 0=q
theorem Reach.zero:Reach wide rows 0:=⟨[],(fun f h=>by cases h),rfl⟩
theorem Reach.step{wide:Nat}{rows:LL}{q f:Int}(h:Reach wide rows q)(f0:0<=f)(f1:f<(wide:Int)):Reach wide rows (stepI rows q f):=by
 obtain⟨row,hr,rfl⟩:=h
 refine⟨row++[f],fun g hg=>?_,by rw[lX];rfl⟩
 rcases wb.mp hg with z|z
 ·exact hr g z
 ·rw[jI.mp z];exact⟨f0,f1⟩
theorem Reach.of{S:Int->Prop}(h0:S 0)(hs:∀ q,S q->∀ f,0<=f->f<(wide:Int)->S (stepI rows q f))(h:Reach wide rows q):S q:=by
 obtain⟨row,hr,rfl⟩:=h
 have go:∀ (row:LI) (p:Int),(∀ f∈row,0<=f/\f<(wide:Int))->S p->S (aP rows row p):=by
  intro row
  induction row with
  | nil=>intro p _ hp;exact hp
  | cons f r ih=>intro p hr hp;exact ih (stepI rows p f) (fun g hg=>hr g (jK _ hg)) (hs p hp f (hr f jE).1 (hr f jE).2)
 exact go row 0 hr h0
def de(s:LI)(x:Int):LI:=if x∈s then s else s++[x]
def eC(rows:LL)(s:LI)(q:Int):LI:=#[56].foldl de s
theorem SE(h:y∈s):y∈de s x:=by
 unfold de
 split
 ·exact h
 ·exact jg _ h
theorem SD(s:LI)(x:Int):x∈de s x:=by
 unfold de
 split
 ·assumption
 ·exact jR _ jE
theorem wg:∀ (xs:LI) {s:LI} {y:Int},y∈s->y∈xs.foldl de s
 | [],_,_,h=>h
 | x :: xs,_,_,h=>wg xs (SE h)
theorem C1:∀ (xs:LI) {s:LI} {y:Int},y∈xs->y∈xs.foldl de s
 | [],_,_,h=>by cases h
 | x :: xs,s,y,h=>by
  rcases jW.mp h with rfl|h
  ·exact wg xs (SD s y)
  ·exact C1 xs h
theorem sC(rows:LL):∀ (qs:LI) {s:LI} {y:Int},y∈s->y∈qs.foldl (eC rows) s
 | [],_,_,h=>h
 | q :: qs,_,_,h=>sC rows qs (wg _ h)
theorem oO(rows:LL):∀ (qs:LI) {s:LI} {q y:Int},q∈qs->y∈rows.getD q.toNat []->y∈qs.foldl (eC rows) s
 | [],_,_,_,h,_=>by cases h
 | p :: qs,s,q,y,h,hy=>by
  rcases jW.mp h with rfl|h
  ·exact sC rows qs (C1 _ hy)
  ·exact oO rows qs h hy
structure Bfs(many wide:Nat)(rows:LL)(qs:LI):Prop where
 eq:qs=qs.foldl (eC rows) [0]
 nd:qs.Nodup
 inr:∀ q∈qs,0<=q/\q<(many:Int)
 re:∀ q,q∈qs↔Reach wide rows q
def En(K:WC):Sp:=fun vs H Q _=>∃ (m r g:Zg) (many wide:Nat) (rows:LL) (signs:LI),vs=[.ref m,.int 0]/\aV H m r g wide rows signs/\aD many wide rows/\(1<=many/\many<=1000) /\
 ∀ (l:Zg) (H':Hp) (qs:LI),aH H H'->H' l=some (.lst (qs.map V.int))->Bfs many wide rows qs->Q (.ref l) H'
structure Found(many wide:Nat)(rows:LL)(dn ks:LI):Prop where
 eq:ks=dn.foldl (eC rows) [0]
 nd:ks.Nodup
 inr:∀ q∈ks,0<=q/\q<(many:Int)
 re:∀ q∈ks,Reach wide rows q
structure Part(many wide:Nat)(rows:LL)(dn:LI)(xs:LI)(ks:LI):Prop where
 eq:ks=xs.foldl de (dn.foldl (eC rows) [0])
 nd:ks.Nodup
 inr:∀ q∈ks,0<=q/\q<(many:Int)
 re:∀ q∈ks,Reach wide rows q
theorem Part.put{xs:LI}(F:Part many wide rows dn xs ks)(h:q∉ks)(q0:0<=q)(q1:q<(many:Int))(r:Reach wide rows q):Part many wide rows dn (xs++[q]) (ks++[q]) where
 eq:=by
  rw[JG,<- F.eq]
  show _=de ks q
  unfold de
  rw[if_neg h]
 nd:=JA.mpr ⟨F.nd,by simp,fun a ha b hb e=>h #[216]⟩
 inr:=fun p hp=>by
  rcases wb.mp hp with z|z
  ·exact F.inr p z
  ·rw[jI.mp z];exact⟨q0,q1⟩
 re:=fun p hp=>by
  rcases wb.mp hp with z|z
  ·exact F.re p z
  ·rw[jI.mp z];exact r
theorem Part.old{xs:LI}(F:Part many wide rows dn xs ks)(h:q∈ks):Part many wide rows dn (xs++[q]) ks where
 eq:=by
  rw[JG,<- F.eq]
  show _=de ks q
  unfold de
  rw[if_pos h]
 nd:=F.nd
 inr:=F.inr
 re:=F.re
section
theorem bR:aJ ["machine","start","rows","reached","level","fresh","here","there"] ["machine","start"] (aj lH):=cU #[4]
theorem Ln(F:bE K "reached_rooms" "reached_rooms" lH dV f fd)(fj:mg "list" = none):bu P w K mg base eA 1 f fd ["machine","start"] (En K):=by
 refine F.ok bR #[6] #[1]
 ·exists 86
  rfl
 obtain⟨m,r,g,many,wide,rows,signs,rfl,M,R,⟨n0,n1⟩,k⟩:=h
 obtain⟨cM,pC,hA⟩:=M.rows
 have hu:=oP hr
 refine⟨_,(ak (aL (i:=2) bR.nd #[12])
   (ak (aL (i:=3) bR.nd (Y5 (CV (pv 1) dN Fi) rfl rfl #[0] #[18]))
   (ak (aL (i:=4) bR.nd (dU #[121]))
   (ak (Af PassesOwn.never (C0 (pv 4) (fun _=>rfl)) (ak (aL (i:=5) bR.nd (dU ag))
   (ak (cD PassesOwn.never rfl (dj (pv 4)) (bB (i:=6) bR.nd) (au (cD PassesOwn.never rfl (mB (aC ax (pv 2) (pv 6) #[3])) (bB (i:=7) bR.nd) (au (cV (CY (AL hu (pv 7) (pv 3)) #[125]) (ak (sH hu (pv 3) (pv 7) dN rfl)
   (au (bZ (lN WG WH WI cc (pv 5) (aa (pv 7) ag))))) bM)))))
   (au (aL (i:=4) bR.nd (pv 5))))))
   (au (aW (aQ (Cm rfl) #[42] fj wO #[91]))))))),?_⟩
 exists _,rfl,m,_,_,_,rfl,rfl,bJ M.tup,rfl
 refine fun D hD=>⟨_,rfl,ae,[(Sum.inl 0,V.bl true)],rfl,by show 1<=15;decide,?_⟩
 rw[N6]
 have sD:=ao hD (HO.dK (cT [0]))
 refine⟨_,rfl,#[176],fun W hW=>?_⟩
 have hWD:W≠D:=fun z=>by rw[z,ae]at hW;cases hW
 have hW0:H W=none:=by rw[af hWD]at hW;exact hW
 try dsimp only[bC]
 refine TR (t:=wo _ _) (fun σ' H'=>∃ (ks:LI) (W:Zg) (v0 v1 v2:OV),σ'=[some #[310],some (.int 0),some (.ref r),some #[103],some (.ref W),v0,v1,v2]/\aH H H'/\H' D=some (.dK (cT ks))/\Found many wide rows ks ks) ?_ (fun hZ=>?_)
 rotate_left
 ·refine B0 (fun mm σ' H'=>∃ (dn lv:LI) (W:Zg) (v0 v1 v2:OV),mm=2*(many-(dn++lv).length)+lv.length/\σ'=[some #[310],some (.int 0),some (.ref r),some #[103],some (.ref W),v0,v1,v2]/\aH H H'/\H' D=some (.dK (cT (dn++lv)))/\W≠D/\H' W=some #[297]/\Found many wide rows dn (dn++lv))
   ⟨_,[],[0],W,none,none,none,rfl,rfl,sD.trans (ao hW _),by rw[af (Ne.symm hWD),ae];rfl,hWD,ae,?_⟩ ?_
  ·refine⟨rfl,by simp,fun q hq=>by rw[zq]at hq;rw[jI.mp hq];omega,fun q hq=>by rw[zq]at hq;rw[jI.mp hq];exact Reach.zero⟩
  rintro mm σ' H1 ⟨dn,lv,W,v0,v1,v2,rfl,rfl,s1,OD,hWD,hW1,FD⟩
  by_cases en:lv=[]
  ·subst en
   refine⟨_,rfl,_,.inl ⟨_,cG hW1,rfl⟩,pD ?_⟩
   rw[jr]at OD FD
   exact hZ _ _ ⟨dn,W,v0,v1,v2,rfl,s1,OD,FD⟩
  exists _,rfl,_,.inl ⟨_,cG hW1,rfl⟩
  have ne:(!(lv.map V.int).isEmpty)=true:=by
   cases lv with
   | nil=>exact absurd rfl en
   | cons x r=>rfl
  rw[ne]
  have kl:=cF many FD.nd FD.inr
  have lv1:1<=lv.length:=by
   cases lv with
   | nil=>exact absurd rfl en
   | cons x r=>exact zj (jb _)
  rw[jG]at kl
  refine oj ⟨fun σ' H'=>∃ m',m'<2*(many-(dn++lv).length)+lv.length/\∃ (dn lv:LI) (W:Zg) (v0 v1 v2:OV),m'=2*(many-(dn++lv).length)+lv.length/\σ'=[some #[310],some (.int 0),some (.ref r),some #[103],some (.ref W),v0,v1,v2]/\aH H H'/\H' D=some (.dK (cT (dn++lv)))/\W≠D/\H' W=some #[297]/\Found many wide rows dn (dn++lv),fun σ' H' h=>h,?_⟩
  refine⟨#[28],fun N hN=>?_⟩
  have hND:N≠D:=fun z=>by rw[z,OD]at hN;cases hN
  have hNW:N≠W:=fun z=>by rw[z,hW1]at hN;cases hN
  have hN0:H N=none:=s1.free hN
  try dsimp only[bC]
  refine⟨_,rfl,W,rfl,⟨_,cG (by rw[af (Ne.symm hNW)];exact hW1)⟩,fP (K:=K) (xs:=lv.map V.int) (fun i σ' H'=>∃ (fr:LI) (v1 v2:OV),
    σ'=[some #[310],some (.int 0),some (.ref r),some #[103],some (.ref W),some (.ref N),v1,v2]/\aH H H'/\H' D=some (.dK (cT (dn++lv++fr)))/\H' W=some #[297]/\H' N=some (.lst (fr.map V.int))/\Found many wide rows (dn++lv.take i) (dn++lv++fr))
   ⟨[],v1,v2,rfl,s1.trans (ao hN _),by rw[af (Ne.symm hND),jr];exact OD,by rw[af (Ne.symm hNW)];exact hW1,ae,by rw[zP,jr,jr];exact FD⟩ (fun i σ' H' _ ⟨_,_,_,_,_,_,e,_,_⟩=>cG e) ?_ ?_⟩
  ·rintro i x σ' H2 hi ⟨fr,v1,v2,rfl,s2,PJ,hW2,PK,F2⟩
   obtain⟨here,rfl,hz⟩:=bU hi
   have U4:i<lv.length:=(hX hz).1
   have hk:here∈dn++lv++fr:=jg _ (jR _ (rj hz))
   have hh:=F2.inr here hk
   have hre:=F2.re here hk
   have l1:here.toNat<rows.length:=by rw[R.len];omega
   obtain⟨ra,e1,e2⟩:=hA.get l1
   have lr:rows[here.toNat].length=wide:=R.row _ (jH l1)
   refine⟨_,rfl,_,rfl,r,_,_,_,rfl,rfl,bJ (s2 _ _ pC),oH hh.1 e1,ra,rfl,⟨_,bJ (s2 _ _ e2)⟩,wU (K:=K) (xs:=rows[here.toNat].map V.int) (fun j σ' H'=>∃ (fr:LI) (v:OV),
     σ'=[some #[310],some (.int 0),some (.ref r),some #[103],some (.ref W),some (.ref N),some (.int here),v]/\aH H H'/\H' D=some (.dK (cT (dn++lv++fr)))/\H' W=some #[297]/\H' N=some (.lst (fr.map V.int))/\Part many wide rows (dn++lv.take i) (rows[here.toNat].take j) (dn++lv++fr))
    ⟨fr,v2,rfl,s2,PJ,hW2,PK,⟨F2.eq,F2.nd,F2.inr,F2.re⟩⟩ (fun i σ' H' _ ⟨_,_,_,e,_,_,_,_⟩=>bJ (e _ _ e2)) ?_ ?_⟩
   ·rintro j x σ' H3 hj ⟨fr,v,rfl,s3,AE,hW3,Mm,F3⟩
    obtain⟨z,rfl,hz⟩:=bU hj
    have hjl:j<rows[here.toNat].length:=(hX hz).1
    have zin:=R.val _ (jH l1) z (rj hz)
    have kl3:=cF many F3.nd F3.inr
    rw[jG,jG]at kl3
    have stp:stepI rows here (j:Int)=z:=by
     unfold stepI
     rw[getD_at l1,jC,getD_at hjl]
     exact(hX hz).2
    have tk:rows[here.toNat].take (j+1)=rows[here.toNat].take j++[z]:=by rw[jU,hz];rfl
    exists _,rfl,_,rfl,D,_,rfl,fZ.k (k:=Sum.inl z) AE,_,rfl
    rw[BQ]
    refine Bc #[90] #[90]
    ·refine⟨_,rfl,_,rfl,D,_,rfl,Bo.k (k:=Sum.inl z) AE (aA (by unfold cT;rw[bz,jG,jG];omega)),?_⟩
     rw[BP c]
     have hN4:(upd H3 D (HO.dK (cT (dn++lv++fr++[z])))) N=some (.lst (fr.map V.int)):=by rw[af hND];exact Mm
     refine⟨_,rfl,.inl ⟨rfl,_,cG hN4⟩,_,rfl,N,_,_,rfl,rfl,hN4,zD (show _<=2000 by rw[bz];omega) #[18],?_⟩
     have F4:=F3.put c zin.1 zin.2 (by rw[<- stp];exact hre.step #[2] #[2])
     refine⟨fr++[z],_,rfl,av (av s3 hD) hN0,?_,?_,?_,?_⟩
     ·rw[af (Ne.symm hND),ae,jv]
     ·rw[af (Ne.symm hNW),af hWD];exact hW3
     ·rw[ae,jD];rfl
     ·rw[tk,<- jv];exact F4
    ·exists fr,_,rfl,s3,AE,hW3,Mm
     rw[tk]
     exact F3.old c
   ·rintro σ' H3 ⟨fr,v,rfl,s3,AE,hW3,Mm,F3⟩
    rw[bz,jY]at F3
    refine⟨fr,_,_,rfl,s3,AE,hW3,Mm,⟨?_,F3.nd,F3.inr,F3.re⟩⟩
    have e9:dn++lv.take (i+1)=(dn++lv.take i)++[here]:=by rw[jU,hz,jv];rfl
    rw[F3.eq,e9,JG (l:=dn++lv.take i)]
    show _=eC rows _ here
    unfold eC
    rw[getD_at l1]
  ·rintro σ' H3 ⟨fr,v1,v2,rfl,s3,AE,hW3,Mm,F3⟩
   rw[bz,jY]at F3
   have kl3:=cF many F3.nd F3.inr
   rw[jG,jG]at kl3
   refine⟨_,rfl,_,?_,dn++lv,fr,N,_,_,_,rfl,rfl,s3,AE,hND,Mm,F3⟩
   rw[jG,jG]
   omega
 rintro σ' H1 ⟨ks,W,v0,v1,v2,rfl,s1,OD,FD⟩
 refine⟨_,rfl,D,_,rfl,OD,fun l hl=>?_⟩
 have e:(cT ks).map (fun q=>kV q.1)=ks.map V.int:=by
  unfold cT
  rw[JF]
  rfl
 rw[e]
 have z0:(0:Int)∈ks:=by rw[FD.eq];exact sC rows ks jE
 refine k l _ ks (s1.trans (ao hl _)) ae ⟨FD.eq,FD.nd,FD.inr,fun q=>⟨FD.re q,fun h=>?_⟩⟩
 refine Reach.of (S:=fun q=>q∈ks) z0 (fun p hp f f0 f1=>?_) h
 have OL:=FD.inr p hp
 have l1:p.toNat<rows.length:=by rw[R.len];omega
 have lr:rows[p.toNat].length=wide:=R.row _ (jH l1)
 have hf:f.toNat<rows[p.toNat].length:=by omega
 rw[FD.eq]
 refine oO rows ks hp ?_
 unfold stepI
 rw[getD_at l1,getD_at hf]
 exact jH hf
end
def sgn(signs:LI)(x:Int):Int:=signs.getD x.toNat 0
def rE(wide:Nat)(v:LI):Prop := ∀ f∈v,0<=f/\f<(wide:Int)
def Agree(rows:LL)(wide:Nat)(signs:LI)(n:Nat)(a b:Int):Prop := ∀ v,rE wide v->v.length<=n->sgn signs (aP rows v a)=sgn signs (aP rows v b)
theorem Agree.up{signs:LI}{a:Int}(h0:sgn signs a=sgn signs b)(h:∀ f:Nat,f<wide->Agree rows wide signs n (stepI rows a f) (stepI rows b f)):Agree rows wide signs (n+1) a b:=by
 intro v h1 h2
 cases v with
 | nil=>exact h0
 | cons f v =>
  have hf:=h1 f jE
  have q:=h f.toNat #[2] v (fun g hg=>h1 g (jK _ hg)) (by rw[jc]at h2;omega)
  rw[jd hf.1]at q
  exact q
def fx(rows:LL)(wide:Nat)(signs:LI)(x y:Int):Prop := ∀ n,Agree rows wide signs n x y
theorem fx.sgn{signs:LI}(h:fx rows wide signs x y):My.sgn signs x=My.sgn signs y:=h 0 [] #[243] (jF 0)
theorem fx.led{signs:LI}(h:fx rows wide signs x y){f:Nat}(hf:f<wide):fx rows wide signs #[193] #[254]:=fun n v h1 h2=>by
 refine h (n+1) ((f:Int) :: v) (fun g hg=>?_) (by rw[jc];omega)
 rcases jW.mp hg with z|z
 ·rw[z]
  exact⟨by omega,by omega⟩
 ·exact h1 g z
def mw(c:LI)(q:Int):Int:=c.getD q.toNat 0
structure Aq(many wide:Nat)(rows cols:LL):Prop where
 of:∀ c∈cols,∃ f:Nat,f<wide/\∀ q,ar many q->mw c q=stepI rows q f
 all:∀ f:Nat,f<wide->∃ c∈cols,∀ q,ar many q->mw c q=stepI rows q f
theorem Aq.room(C:Aq many wide rows cols)(R:aD many wide rows):∀ x,ar many x->∀ c∈cols.map mw,ar many (c x):=fun x hx c hc=>by
 obtain⟨l,hl,rfl⟩:=jM.mp hc
 obtain⟨f,hf,e⟩:=C.of l hl
 rw[e x hx]
 exact dF R hx.1 hx.2 #[2] #[2]
theorem Aq.aeO{signs:LI}(C:Aq many wide rows cols)(R:aD many wide rows):aap many #[188] #[219] #[106] where
 sgn:=fun x y h=>h.2.2.sgn
 led:=fun x y h c hc=>by
  have h1:=C.room R x h.1 c hc
  have h2:=C.room R y h.2.1 c hc
  exists h1,h2
  obtain⟨l,hl,rfl⟩:=jM.mp hc
  obtain⟨f,hf,e⟩:=C.of l hl
  rw[e x h.1,e y h.2.1]
  exact h.2.2.led hf
theorem Mo{signs:LI}{W:Int->Prop}(C:Aq many wide rows cols)(R:aD many wide rows)(h:LV many #[188] #[219] #[106] grp W)(st:∀ x y,ar many x->ar many y->grp x=grp y->∀ c∈cols.map mw,grp (c x)=grp (c y))(hx:ar many x)(hy:ar many y):
  grp x=grp y↔fx rows wide signs x y:=by
 refine⟨fun e n=>?_,fun a=>h.coarse x y hx hy ⟨hx,hy,a⟩⟩
 induction n generalizing x y with
 | zero =>
  intro v _ h2
  have:v=[]:=List.eq_nil_of_length_eq_zero #[2]
  rw[this]
  exact h.signs x y hx hy e
 | succ n ih =>
  refine Agree.up (h.signs x y hx hy e) fun f hf=>?_
  obtain⟨c,hc,ec⟩:=C.all f hf
  have hm:mw c∈cols.map mw:=jM.mpr ⟨c,hc,rfl⟩
  have q:=st x y hx hy e _ hm
  rw[ec x hx,ec y hy]at q
  exact ih (dF R hx.1 hx.2 #[2] #[2]) (dF R hy.1 hy.2 #[2] #[2]) q
def aX:Nat->LI->Option Nat
 | m,[]=>some m
 | m,t :: r=>if t=(m:Int)then aX (m+1) r else if t<(m:Int)then aX m r else none
def bD:Nat->Nat->LL->Option Nat
 | _,m,[]=>some m
 | q,m,r :: rs=>if q<m then(aX m r).bind fun m'=>bD (q+1) m' rs else none
def lQ(rows:LL):Prop:=bD 0 1 rows=some rows.length
def Tells(wide:Nat)(rows aw:LL)(signs aN:LI)(a b:Int):Prop := ∀ v,rE wide v->sgn signs (aP rows v a)=sgn aN (aP aw v b)
def Apart(wide:Nat)(rows:LL)(signs:LI):Prop := ∀ a b,ar rows.length a->ar rows.length b->fx rows wide signs a b->a=b
section
variable{signs:LI}
theorem Tells.led{a:Int}(h:Tells wide rows aw signs aN a b){f:Nat}(hf:f<wide):Tells wide rows aw signs aN (stepI rows a f) (stepI aw b f):=fun v hv =>
 h ((f:Int) :: v) fun g hg=>by
  rcases jW.mp hg with z|z
  ·rw[z]
   exact⟨by omega,by omega⟩
  ·exact hv g z
theorem Tells.left{a c:Int}(h:Tells wide rows aw signs aN a c)(h':Tells wide rows aw signs aN b c):fx rows wide signs a b:=fun n v hv _=>(h v hv).trans (h' v hv).symm
theorem Tells.right{a c:Int}(h:Tells wide rows aw signs aN c a)(h':Tells wide rows aw signs aN c b):fx aw wide aN a b:=fun n v hv _=>(h v hv).symm.trans (h' v hv)
theorem C5(A:Apart wide rows signs)(A':Apart wide aw aN):∀ {r r':LI} {m m1 m2:Nat},r.length=r'.length->(∀ i:Nat,i<m->Tells wide rows aw signs aN i i)->(m<=rows.length/\m<=aw.length) ->
  (∀ (j:Nat) (t t':Int),r[j]?=some t->r'[j]?=some t'->ar rows.length t/\ar aw.length t'/\Tells wide rows aw signs aN t t')->aX m r=some m1->aX m r'=some m2 ->
  r=r'/\m1=m2/\(∀ i:Nat,i<m1->Tells wide rows aw signs aN i i)/\m1<=rows.length/\m1<=aw.length
 | [],[],m,m1,m2,_,hB,hm,_,h1,h2=>by
  cases h1
  cases h2
  exact⟨rfl,rfl,hB,hm.1,hm.2⟩
 | [],t' :: r',_,_,_,hl,_,_,_,_,_=>by cases hl
 | t :: r,[],_,_,_,hl,_,_,_,_,_=>by cases hl
 | t :: r,t' :: r',m,m1,m2,hl,hB,hm,hT,h1,h2=>by
  obtain⟨ht,PN,tt⟩:=hT 0 t t' rfl rfl
  have hl':r.length=r'.length:=Nat.succ.inj hl
  have hT':∀ (j:Nat) (u u':Int),r[j]?=some u->r'[j]?=some u'->ar rows.length u/\ar aw.length u'/\Tells wide rows aw signs aN u u' := fun j u u' a b=>hT (j+1) u u' a b
  have low:∀ {x:Int},0<=x->x<(m:Int)->∃ i:Nat,i<m/\x=(i:Int):=fun h0 h1=>⟨_,by omega,(jd h0).symm⟩
  have Cv:(if t=(m:Int)then aX (m+1) r else if t<(m:Int)then aX m r else none)=some m1:=h1
  have Dj:(if t'=(m:Int)then aX (m+1) r' else if t'<(m:Int)then aX m r' else none)=some m2:=h2
  by_cases c:t=(m:Int)
  ·by_cases c':t'=(m:Int)
   ·rw[if_pos c]at Cv
    rw[if_pos c']at Dj
    have hB':∀ i:Nat,i<m+1->Tells wide rows aw signs aN i i:=fun i hi=>by
     rcases JT i m with z|z
     ·exact hB i z
     ·have:i=m:=by omega
      rw[this,<- c]
      rw[c']at tt
      rw[c]
      rw[c]at tt
      exact tt
    obtain⟨e1,e2⟩:=C5 A A' hl' hB' ⟨by have:=ht.2;omega,by have:=PN.2;omega⟩ hT' Cv Dj
    exact⟨by rw[c,c',e1],e2⟩
   ·rw[if_neg c']at Dj
    by_cases d:t'<(m:Int)
    ·obtain⟨i,hi,rfl⟩:=low PN.1 d
     have:=A t (i:Int) ht ⟨by omega,by omega⟩ (tt.left (hB i hi))
     omega
    ·rw[if_neg d]at Dj
     cases Dj
  ·rw[if_neg c]at Cv
   by_cases d:t<(m:Int)
   ·rw[if_pos d]at Cv
    obtain⟨i,hi,rfl⟩:=low ht.1 d
    have e:=A' t' (i:Int) PN ⟨by omega,by omega⟩ (tt.right (hB i hi))
    subst e
    rw[if_neg #[2],if_pos d]at Dj
    obtain⟨e1,e2⟩:=C5 A A' hl' hB hm hT' Cv Dj
    exact⟨by rw[e1],e2⟩
   ·rw[if_neg d]at Cv
    cases Cv
theorem Ei(A:Apart wide rows signs)(A':Apart wide aw aN)(R:aD rows.length wide rows)(R':aD aw.length wide aw):∀ {rs rs':LL} {q m:Nat},rs=rows.drop q->rs'=aw.drop q->q<=rows.length->q<=aw.length ->
  (∀ i:Nat,i<m->Tells wide rows aw signs aN i i)->(m<=rows.length/\m<=aw.length)->bD q m rs=some rows.length->bD q m rs'=some aw.length->rs=rs'/\rows.length=aw.length/\∀ i:Nat,i<rows.length->Tells wide rows aw signs aN i i
 | [],[],q,m,_,_,_,_,hB,_,h1,h2=>by
  have e1:m=rows.length:=Option.some.inj h1
  have e2:m=aw.length:=Option.some.inj h2
  exact⟨rfl,e1.symm.trans e2,fun i hi=>hB i #[2]⟩
 | [],r' :: rs',q,m,e,_,hq,_,_,_,h1,h2=>by
  have e1:m=rows.length:=Option.some.inj h1
  have hl:rows.length<=q:=Ji.mp e.symm
  exists 82
  rw[if_neg #[2]]at Dj
  cases Dj
 | r :: rs,[],q,m,_,e,_,hq,_,_,h1,h2=>by
  have e1:m=aw.length:=Option.some.inj h2
  have hl:aw.length<=q:=Ji.mp e.symm
  exists 83
  rw[if_neg #[2]]at Cv
  cases Cv
 | r :: rs,r' :: rs',q,m,e,e',hq,Mp,hB,hm,h1,h2=>by
  exists 83
  exists 82
  by_cases c:q<m
  ·rw[if_pos c]at Cv Dj
   have l1:q<rows.length:=by omega
   have l2:q<aw.length:=by omega
   have d1:=jz l1
   have d2:=jz l2
   rw[d1]at e
   rw[d2]at e'
   injection e with er es
   injection e' with er' tX
   cases o1:aX m r with
   | none=>rw[o1]at Cv;cases Cv
   | some m1 =>
    cases o2:aX m r' with
    | none=>rw[o2]at Dj;cases Dj
    | some m2 =>
     rw[o1]at Cv
     rw[o2]at Dj
     have hr:=R.row _ (jH l1)
     have pC:=R'.row _ (jH l2)
     have key:∀ (j:Nat) (t t':Int),r[j]?=some t->r'[j]?=some t'->ar rows.length t/\ar aw.length t'/\Tells wide rows aw signs aN t t' := fun j t t' a b=>by
      rw[er]at a
      rw[er']at b
      have ja:=(hX a).1
      have jw:j<wide:=by omega
      have s1:stepI rows (q:Int) (j:Int)=t:=by
       unfold stepI
       rw[jC,jC,getD_at l1,jN,a]
       rfl
      have s2:stepI aw (q:Int) (j:Int)=t' := by
       unfold stepI
       rw[jC,jC,getD_at l2,jN,b]
       rfl
      exists R.val _ (jH l1) t (rj a),R'.val _ (jH l2) t' (rj b)
      have:=(hB q c).led jw
      rw[s1,s2]at this
      exact this
     obtain⟨e1,e2,hB',k1,k2⟩:=C5 A A' (by rw[er,er',hr,pC]) hB hm key o1 o2
     subst e2
     obtain⟨f1,f2,f3⟩:=Ei A A' R R' es tX l1 l2 hB' ⟨k1,k2⟩ Cv Dj
     exact⟨by rw[e1,f1],f2,f3⟩
  ·rw[if_neg c]at Cv
   cases Cv
theorem IT(A:Apart wide rows signs)(A':Apart wide aw aN)(R:aD rows.length wide rows)(R':aD aw.length wide aw)(n0:0<rows.length)(n1:0<aw.length)(O:lQ rows)(O':lQ aw)(ls:signs.length=rows.length)(ls':aN.length=aw.length)(h:Tells wide rows aw signs aN 0 0):rows=aw/\signs=aN:=by
 obtain⟨e,el,hB⟩:=Ei A A' R R' (rs:=rows) (rs' := aw) (q:=0) (m:=1) rfl rfl (jb _) (jb _) (fun i hi=>by
  have:i=0:=by omega
  rw[this]
  exact h) ⟨n0,n1⟩ O O'
 refine⟨e,zg #[2] fun i h1 h2=>?_⟩
 have q:=hB i #[2] [] #[243]
 unfold sgn at q
 have q':signs.getD ((i:Int)).toNat 0=aN.getD ((i:Int)).toNat 0:=q
 rw[jC,getD_at h1,getD_at h2]at q'
 exact q'
end
def ba(φ:Int->Int):Nat->Nat
 | 0=>0
 | m+1=>if φ (m:Int)=(ba φ m:Int)then ba φ m+1 else ba φ m
def bS(φ:Int->Int)(n:Nat):List Nat:=(jn n).filter fun q=>decide (φ (q:Int)=(ba φ q:Int))
def fA(φ:Int->Int)(n:Nat):Prop := ∀ q:Nat,q<n->0<=φ (q:Int)/\φ (q:Int)<=(ba φ q:Int)
section
theorem DT:∀ {a b:Nat},a<=b->ba φ a<=ba φ b:=by
 intro a b h
 induction h with
 | refl=>exact jF _
 | @step m _ ih =>
  have e:ba φ (m+1)=if φ (m:Int)=(ba φ m:Int)then ba φ m+1 else ba φ m:=rfl
  refine jo ih ?_
  rw[e]
  by_cases c:φ (m:Int)=(ba φ m:Int)
  ·rw[if_pos c];exact JM _
  ·rw[if_neg c];exact jF _
theorem fA.lt(h:fA φ n){t:Nat}(ht:t<m)(hm:m<=n):φ (t:Int)<(ba φ m:Int):=by
 have h1:=(h t #[2]).2
 have h2:=DT (φ:=φ) (show t+1<=m from ht)
 have h3:ba φ (t+1)=if φ (t:Int)=(ba φ t:Int)then ba φ t+1 else ba φ t:=rfl
 by_cases c:φ (t:Int)=(ba φ t:Int)
 ·rw[if_pos c]at h3
  omega
 ·rw[if_neg c]at h3
  omega
theorem my(φ:Int->Int):∀ n,(bS φ n).length=ba φ n
 | 0=>rfl
 | n+1=>by
  have ih:=my φ n
  unfold bS at ih ⊢
  rw[JP,Ja,jG,ih]
  show _=if φ (n:Int)=(ba φ n:Int)then ba φ n+1 else ba φ n
  by_cases c:φ (n:Int)=(ba φ n:Int)
  ·rw[if_pos c,JK #[320]]
   rfl
  ·rw[if_neg c,JH #[227]]
   rfl
theorem Fl(F:fA φ n):∀ {r:LI} {m m1:Nat},m<=n->(∀ t∈r,ar n t)->aX m r=some m1->aX (ba φ m) (r.map φ)=some (ba φ m1)/\m1<=n/\(∀ t∈r,t<(m1:Int))/\m<=m1
 | [],m,m1,hm,_,h=>by
  cases h
  exact⟨rfl,hm,fun t ht=>(by cases ht),jF _⟩
 | t :: r,m,m1,hm,hr,h=>by
  have ht:=hr t jE
  have pC:∀ u∈r,ar n u:=fun u hu=>hr u (jK _ hu)
  exists 35
  show(if φ t=(ba φ m:Int)then aX (ba φ m+1) (r.map φ)else if φ t<(ba φ m:Int)then aX (ba φ m) (r.map φ)else none)=_/\_
  by_cases c:t=(m:Int)
  ·rw[if_pos c]at h'
   have mn:m<n:=by have:=ht.2;omega
   obtain⟨e1,e2,e3,e4⟩:=Fl F (show m+1<=n from mn) pC h'
   have e5:∀ u∈t :: r,u<(m1:Int):=fun u hu=>by
    rcases jW.mp hu with z|z
    ·rw[z,c];omega
    ·exact e3 u z
   have es:ba φ (m+1)=if φ (m:Int)=(ba φ m:Int)then ba φ m+1 else ba φ m:=rfl
   rw[c]
   by_cases d:φ (m:Int)=(ba φ m:Int)
   ·rw[if_pos d]
    rw[if_pos d]at es
    rw[es]at e1
    rw[c]at e5
    exact⟨e1,e2,e5,by omega⟩
   ·rw[if_neg d]at es
    rw[if_neg d,if_pos (by have:=(F m mn).2;omega)]
    rw[es]at e1
    rw[c]at e5
    exact⟨e1,e2,e5,by omega⟩
  ·rw[if_neg c]at h'
   by_cases d:t<(m:Int)
   ·rw[if_pos d]at h'
    obtain⟨e1,e2,e3,e4⟩:=Fl F hm pC h'
    have lt:φ t<(ba φ m:Int):=by
     have:=F.lt (t:=t.toNat) (m:=m) (by have:=ht.1;omega) hm
     rw[jd ht.1]at this
     exact this
    rw[if_neg #[2],if_pos lt]
    refine⟨e1,e2,fun u hu=>?_,e4⟩
    rcases jW.mp hu with z|z
    ·rw[z];omega
    ·exact e3 u z
   ·rw[if_neg d]at h'
    cases h'
theorem Fj(F:fA φ n):∀ {r:LI} {m m1:Nat},m<=n->(∀ t∈r,ar n t/\φ t<(ba φ m:Int))->aX m r=some m1->ba φ m1=ba φ m/\m1<=n/\(∀ t∈r,t<(m1:Int))/\m<=m1
 | [],m,m1,hm,_,h=>by
  cases h
  exact⟨rfl,hm,fun t ht=>(by cases ht),jF _⟩
 | t :: r,m,m1,hm,hr,h=>by
  have ht:=hr t jE
  exists 35
  by_cases c:t=(m:Int)
  ·rw[if_pos c]at h'
   have mn:m<n:=by have:=ht.1.2;omega
   have es:ba φ (m+1)=ba φ m:=by
    show(if φ (m:Int)=(ba φ m:Int)then ba φ m+1 else ba φ m)=_
    rw[if_neg (by have:=ht.2;rw[c]at this;omega)]
   obtain⟨e1,e2,e3,e4⟩:=Fj F (show m+1<=n from mn) (fun u hu=>by rw[es];exact hr u (jK _ hu)) h'
   refine⟨e1.trans es,e2,fun u hu=>?_,by omega⟩
   rcases jW.mp hu with z|z
   ·rw[z,c];omega
   ·exact e3 u z
  ·rw[if_neg c]at h'
   by_cases d:t<(m:Int)
   ·rw[if_pos d]at h'
    obtain⟨e1,e2,e3,e4⟩:=Fj F hm (fun u hu=>hr u (jK _ hu)) h'
    refine⟨e1,e2,fun u hu=>?_,e4⟩
    rcases jW.mp hu with z|z
    ·rw[z];omega
    ·exact e3 u z
   ·rw[if_neg d]at h'
    cases h'
def dk(φ:Int->Int)(rows:LL):Nat->LL->LL
 | _,[]=>[]
 | q,r :: rs=>if φ (q:Int)=(ba φ q:Int)then r.map φ :: dk φ rows (q+1) rs else dk φ rows (q+1) rs
theorem C3(F:fA φ rows.length)(R:aD rows.length wide rows)(cp:∀ x y:Nat,x<rows.length->y<rows.length->φ (x:Int)=φ (y:Int)->∀ f:Nat,f<wide->φ #[193]=φ #[254]):
  ∀ {rs:LL} {q m k:Nat},rs=rows.drop q->q<=rows.length->m<=rows.length->(∀ x:Nat,x<q->∀ f:Nat,f<wide->stepI rows x f<(m:Int))->bD q m rs=some k->bD (ba φ q) (ba φ m) (dk φ rows q rs)=some (ba φ k)
 | [],q,m,k,_,_,_,_,h=>by
  cases h
  rfl
 | r :: rs,q,m,k,e,hq,hm,old,h=>by
  have h':(if q<m then(aX m r).bind fun m'=>bD (q+1) m' rs else none)=some k:=h
  by_cases c:q<m
  ·rw[if_pos c]at h'
   have l1:q<rows.length:=by omega
   rw[jz l1]at e
   injection e with er es
   cases o1:aX m r with
   | none=>rw[o1]at h';cases h'
   | some m1 =>
    rw[o1]at h'
    have hr:=R.row _ (jH l1)
    have hv:∀ t∈r,ar rows.length t:=fun t ht=>R.val _ (jH l1) t (er ▸ ht)
    have stp:∀ f:Nat,f<wide->stepI rows (q:Int) (f:Int)∈r:=fun f hf=>by
     have lf:f<rows[q].length:=by omega
     have:stepI rows (q:Int) (f:Int)=rows[q][f]:=by
      unfold stepI
      rw[jC,jC,getD_at l1,getD_at lf]
     rw[this,er]
     exact jH lf
    have tX:ba φ (q+1)=if φ (q:Int)=(ba φ q:Int)then ba φ q+1 else ba φ q:=rfl
    have hZ:∀ m1:Nat,(∀ t∈r,t<(m1:Int))->m<=m1->∀ x:Nat,x<q+1->∀ f:Nat,f<wide->stepI rows x f<(m1:Int):=fun m1 e3 e4 x hx f hf=>by
     rcases JT x q with z|z
     ·have:=old x z f hf
      omega
     ·have:x=q:=by omega
      rw[this]
      exact e3 _ (stp f hf)
    by_cases d:φ (q:Int)=(ba φ q:Int)
    ·obtain⟨e1,e2,e3,e4⟩:=Fl F hm hv o1
     have ih:=C3 F R cp es l1 e2 (hZ m1 e3 e4) h'
     rw[tX,if_pos d]at ih
     have lt:ba φ q<ba φ m:=by
      have:=F.lt c hm
      omega
     show bD _ _ (if φ (q:Int)=(ba φ q:Int)then _ else _)=_
     rw[if_pos d]
     show(if ba φ q<ba φ m then(aX (ba φ m) (r.map φ)).bind fun m'=>bD (ba φ q+1) m' (dk φ rows (q+1) rs)else none)=_
     rw[if_pos lt,e1]
     exact ih
    ·-- room q is anw an afW one
     have hl:φ (q:Int)<(ba φ q:Int):=by
      have:=(F q l1).2
      omega
     obtain⟨x,hx,ex⟩:∃ x:Nat,x<q/\φ (x:Int)=φ (q:Int):=by
      have:∀ (b:Nat) (g:Int),0<=g->g<(ba φ b:Int)->∃ x:Nat,x<b/\φ (x:Int)=g:=by
       intro b
       induction b with
       | zero=>intro g g0 g1;exact absurd g1 (by show ¬ g<((0:Nat):Int);omega)
       | succ b ih =>
        intro g g0 g1
        exists 100
        by_cases z:g<(ba φ b:Int)
        ·obtain⟨x,h1,h2⟩:=ih g g0 z
         exact⟨x,by omega,h2⟩
        ·by_cases y:φ (b:Int)=(ba φ b:Int)
         ·rw[eb,if_pos y]at g1
          exact⟨b,Jl b,by omega⟩
         ·rw[eb,if_neg y]at g1
          exact absurd g1 z
      exact this q _ (F q l1).1 hl
     have hv':∀ t∈r,ar rows.length t/\φ t<(ba φ m:Int):=fun t ht=>by
      exists hv t ht
      obtain⟨f,hf,et⟩:=jZ (er ▸ ht)
      have fw:f<wide:=by omega
      have st:stepI rows (q:Int) (f:Int)=t:=by
       unfold stepI
       rw[jC,jC,getD_at l1,getD_at hf,et]
      have c1:=cp x q #[2] l1 ex f fw
      rw[st]at c1
      rw[<- c1]
      have o:=old x hx f fw
      have rm:=dF R (show(0:Int)<=(x:Int) by omega) #[2] (show(0:Int)<=(f:Int) by omega) #[2]
      have:=F.lt (t:=#[193].toNat) (m:=m) #[2] hm
      rw[jd rm.1]at this
      exact this
     obtain⟨e1,e2,e3,e4⟩:=Fj F hm hv' o1
     have ih:=C3 F R cp es l1 e2 (hZ m1 e3 e4) h'
     rw[tX,if_neg d,e1]at ih
     show bD _ _ (if φ (q:Int)=(ba φ q:Int)then _ else _)=_
     rw[if_neg d]
     exact ih
  ·rw[if_neg c]at h'
   cases h'
end
abbrev dd(s:LI)(v:Int):LI:=YF s v
theorem oM{v:Int}(h:v∈s):dd s v=s:=by
 unfold dd YF
 simp[h]
theorem ik{v:Int}(h:v∉s):dd s v=s++[v]:=by
 unfold dd YF
 simp[h]
theorem Az:∀ (ys s:LI),∃ zs,ys.foldl dd s=s++zs
 | [],s=>⟨[],by simp⟩
 | y :: ys,s=>by
  by_cases c:y∈s
  ·obtain⟨zs,e⟩:=Az ys s
   exact⟨zs,by rw[JX,oM c,e]⟩
  ·obtain⟨zs,e⟩:=Az ys (s++[y])
   exact⟨y :: zs,by rw[JX,ik c,e,jv];rfl⟩
theorem HL(gs:LI)(m:Nat):∃ zs,aK gs=aK #[224]++zs:=by
 obtain⟨zs,e⟩:=Az (gs.drop m) (aK #[224])
 exists zs
 rw[<- e]
 show gs.foldl dd []=(gs.drop m).foldl dd (#[224].foldl dd [])
 rw[<- JG,zz]
theorem lZ{g:Int}(h:gs[m]?=some g):aK (gs.take (m+1))=dd (aK #[224]) g:=by
 unfold aK
 rw[jU,h,JG]
 rfl
def ox(gs:LI)(q:Int):Int:=((aK gs).idxOf (gs.getD q.toNat 0):Nat)
theorem V6{xs zs:LI}{g:Int}(h:g∈xs):(xs++zs).idxOf g=xs.idxOf g:=by rw[zG,if_pos h]
theorem BU{g:Int}(h:gs[m]?=some g)(ho:g∈aK #[224]):ox gs (m:Int)=((aK #[224]).idxOf g:Nat):=by
 obtain⟨zs,e⟩:=HL gs m
 unfold ox
 rw[jC,jN,h,e]
 show(((aK #[224]++zs).idxOf g:Nat):Int)=_
 rw[V6 ho]
theorem BS{g:Int}(h:gs[m]?=some g)(ho:g∉aK #[224]):ox gs (m:Int)=((aK #[224]).length:Nat):=by
 obtain⟨zs,e⟩:=HL gs (m+1)
 rw[lZ h,ik ho]at e
 unfold ox
 rw[jC,jN,h,e,jv]
 show(((aK #[224]++([g]++zs)).idxOf g:Nat):Int)=_
 rw[zG,if_neg ho]
 simp
theorem EK(gs:LI):∀ {m:Nat},m<=gs.length->ba (ox gs) m=(aK #[224]).length
 | 0,_=>rfl
 | m+1,h=>by
  have ih:=EK gs (m:=m) #[2]
  have hg:gs[m]?=some gs[m]:=jA #[2]
  show(if ox gs (m:Int)=(ba (ox gs) m:Int)then ba (ox gs) m+1 else ba (ox gs) m)=_
  rw[ih,lZ hg]
  by_cases c:gs[m]∈aK #[224]
  ·have e:=BU hg c
   have lt:=ji c
   rw[oM c,if_neg #[2]]
  ·have e:=BS hg c
   rw[ik c,if_pos e,jG]
   rfl
theorem Ou(gs:LI):fA (ox gs) gs.length:=fun q hq=>by
 have hg:gs[q]?=some gs[q]:=jA hq
 rw[EK gs #[2]]
 by_cases c:gs[q]∈aK (gs.take q)
 ·have e:=BU hg c
  have lt:=ji c
  omega
 ·have e:=BS hg c
  omega
theorem Sr(hx:ar gs.length x)(hy:ar gs.length y):ox gs x=ox gs y↔gs.getD x.toNat 0=gs.getD y.toNat 0:=by
 have mem:∀ {z:Int},ar gs.length z->gs.getD z.toNat 0∈aK gs:=fun {z} hz=>by
  have l:z.toNat<gs.length:=by have:=hz.1;have:=hz.2;omega
  rw[getD_at l]
  exact dC.mpr (jH l)
 unfold ox
 constructor
 ·intro h
  have h':(aK gs).idxOf (gs.getD x.toNat 0)=(aK gs).idxOf (gs.getD y.toNat 0):=by omega
  have lx:=ji (mem hx)
  have ly:=ji (mem hy)
  have ex:(aK gs)[(aK gs).idxOf (gs.getD x.toNat 0)]=gs.getD x.toNat 0:=Je lx
  have ey:(aK gs)[(aK gs).idxOf (gs.getD y.toNat 0)]=gs.getD y.toNat 0:=Je ly
  rw[<- ex,<- ey]
  congr 1
 ·intro h
  rw[h]
theorem rL:∀ {b:Nat} {g:Int},0<=g->g<(ba φ b:Int)->∃ x:Nat,x<b/\φ (x:Int)=g/\(ba φ x:Int)=g
 | 0,g,g0,g1=>absurd g1 (by show ¬ g<((0:Nat):Int);omega)
 | b+1,g,g0,g1=>by
  exists 100
  by_cases z:g<(ba φ b:Int)
  ·obtain⟨x,h1,h2,abm⟩:=rL g0 z
   exact⟨x,by omega,h2,abm⟩
  ·by_cases y:φ (b:Int)=(ba φ b:Int)
   ·rw[eb,if_pos y]at g1
    exact⟨b,Jl b,by omega,by omega⟩
   ·rw[eb,if_neg y]at g1
    exact absurd g1 z
theorem AB:∀ {n q:Nat},q<n->φ (q:Int)=(ba φ q:Int)->(bS φ n)[ba φ q]?=some q
 | 0,q,h,_=>absurd h (zN _)
 | n+1,q,h,e=>by
  have l:=my φ n
  unfold bS at l ⊢
  rw[JP,Ja]
  rcases JT q n with z|z
  ·have ih:=AB z e
   unfold bS at ih
   rw[jk (hX ih).1]
   exact ih
  ·have:q=n:=by omega
   subst this
   rw[jm #[2],l,Jo,JK (by exact decide_eq_true e)]
   rfl
theorem C2{φ:Int->Int}:∀ {rs:LL} {q:Nat},rs=rows.drop q->q<=rows.length->dk φ rows q rs=((List.range' q (rows.length-q)).filter fun i:Nat=>decide (φ (i:Int)=(ba φ i:Int))).map fun i=>(rows.getD i []).map φ
 | [],q,e,hq=>by
  have hl:rows.length<=q:=Ji.mp e.symm
  rw[show rows.length-q=0 from by omega]
  rfl
 | r :: rs,q,e,hq=>by
  have l1:q<rows.length:=by
   rcases JT q rows.length with z|z
   ·exact z
   ·rw[zw z]at e
    cases e
  rw[jz l1]at e
  injection e with er es
  have ih:=C2 (φ:=φ) es l1
  rw[show rows.length-q=(rows.length-(q+1))+1 from by omega,List.range'_succ]
  show(if φ (q:Int)=(ba φ q:Int)then r.map φ :: dk φ rows (q+1) rs else dk φ rows (q+1) rs)=_
  by_cases c:φ (q:Int)=(ba φ q:Int)
  ·rw[if_pos c,ih,JK #[320],JE,getD_at l1,er]
  ·rw[if_neg c,ih,JH #[227]]
theorem Ag:dk φ rows 0 rows=(bS φ rows.length).map fun i=>(rows.getD i []).map φ:=by
 have h:=C2 (φ:=φ) (rows:=rows) (rs:=rows) (q:=0) rfl (jb _)
 rw[h]
 unfold bS
 rw[List.range_eq_range',Nat.sub_zero]
structure cH(wide:Nat)(rows aw:LL)(signs aN:LI):Prop where
 ok:aD aw.length wide aw
 pos:0<aw.length
 sgn:aN.length=aw.length
 ord:lQ aw
 apart:Apart wide aw aN
 tells:Tells wide rows aw signs aN 0 0
section
variable{signs:LI}
theorem SJ(F:fA φ rows.length)(R:aD rows.length wide rows)(cp:∀ x y:Nat,x<rows.length->y<rows.length->φ (x:Int)=φ (y:Int)->∀ f:Nat,f<wide->φ #[193]=φ #[254])(hq:ar rows.length q){f:Nat}(hf:f<wide):
  stepI #[181] (φ q) f=φ (stepI rows q f):=by
 obtain⟨n,rfl⟩:=fQ hq.1
 have hn:n<rows.length:=by have:=hq.2;omega
 have lt:=F.lt hn (jF _)
 obtain⟨x,hx,e1,e2⟩:=rL (F n hn).1 lt
 have at' := AB hx (e1.trans e2.symm)
 have lr:(rows[x]).length=wide:=R.row _ (jH hx)
 have e3:#[181].getD (φ (n:Int)).toNat []=(rows[x]).map φ:=by
  rw[Ag,<- e2,jC,jN,jP,at']
  show(rows.getD x []).map φ=_
  rw[getD_at hx]
 have e4:stepI rows (x:Int) (f:Int)=(rows[x])[f]'#[2]:=by
  unfold stepI
  rw[jC,jC,getD_at hx,getD_at #[2]]
 rw[<- cp x n hx hn e1 f hf,e4]
 unfold stepI
 rw[e3,jC,jN,jP,jA #[2]]
 rfl
theorem Ia(F:fA φ rows.length)(R:aD rows.length wide rows)(cp:∀ x y:Nat,x<rows.length->y<rows.length->φ (x:Int)=φ (y:Int)->∀ f:Nat,f<wide->φ #[193]=φ #[254]):∀ {v:LI} {q:Int},rE wide v->ar rows.length q->aP #[181] v (φ q)=φ (aP rows v q)
 | [],q,_,_=>rfl
 | f :: v,q,hv,hq=>by
  have hf:=hv f jE
  obtain⟨m,rfl⟩:=fQ hf.1
  show aP _ v (stepI _ (φ q) (m:Int))=φ (aP rows v (stepI rows q (m:Int)))
  rw[SJ F R cp hq #[2]]
  exact Ia F R cp (fun g hg=>hv g (jK _ hg)) (dF R hq.1 hq.2 hf.1 hf.2)
theorem RK(F:fA φ rows.length)(R:aD rows.length wide rows)(O:lQ rows)(n0:0<rows.length)(al:∀ x y:Nat,x<rows.length->y<rows.length->(φ (x:Int)=φ (y:Int)↔fx rows wide signs x y)):
  cH wide rows #[181] signs #[128]:=by
 have cp:∀ x y:Nat,x<rows.length->y<rows.length->φ (x:Int)=φ (y:Int)->∀ f:Nat,f<wide->φ #[193]=φ #[254]:=fun x y hx hy e f hf=>by
  have a:=((al x y hx hy).mp e).led hf
  have rx:=dF R (show(0:Int)<=(x:Int) by omega) #[2] (show(0:Int)<=(f:Int) by omega) #[2]
  have ry:=dF R (show(0:Int)<=(y:Int) by omega) #[2] (show(0:Int)<=(f:Int) by omega) #[2]
  have h:=(al #[193].toNat #[254].toNat #[2] #[2]).mpr (by rw[jd rx.1,jd ry.1];exact a)
  rw[jd rx.1,jd ry.1]at h
  exact h
 have ll:#[181].length=ba φ rows.length:=by rw[Ag,bz,my]
 have p0:φ ((0:Nat):Int)=((0:Nat):Int):=by
  have h:=F 0 n0
  have e:ba φ 0=0:=rfl
  rw[e]at h
  omega
 have c1:ba φ 1=1:=by
  show(if φ ((0:Nat):Int)=((ba φ 0:Nat):Int)then ba φ 0+1 else ba φ 0)=1
  rw[if_pos (by rw[p0];rfl)]
  rfl
 have df:0<ba φ rows.length:=by
  have:=DT (φ:=φ) (show 1<=rows.length from n0)
  omega
 have sg:∀ {q:Int},ar rows.length q->sgn #[128] (φ q)=sgn signs q:=fun {q} hq=>by
  obtain⟨n,rfl⟩:=fQ hq.1
  have hn:n<rows.length:=by have:=hq.2;omega
  obtain⟨x,hx,e1,e2⟩:=rL (F n hn).1 (F.lt hn (jF _))
  have at' := AB hx (e1.trans e2.symm)
  have a:=((al x n hx hn).mp e1).sgn
  rw[<- a]
  unfold sgn
  rw[<- e2,jC,jC,jN,jP,at']
  rfl
 have tl:∀ {q:Int},ar rows.length q->Tells wide rows #[181] signs #[128] q (φ q):=fun {q} hq v hv=>by
  rw[Ia F R cp hv hq,sg (fX R hv hq.1 hq.2)]
 refine⟨⟨rfl,fun r hr=>?_,fun r hr v hv=>?_⟩,by omega,by rw[bz,my,ll],?_,fun a b ha hb hab=>?_,?_⟩
 ·rw[Ag]at hr
  obtain⟨x,hx,rfl⟩:=jM.mp hr
  have xl:=js.mp (jy.mp hx).1
  rw[bz,getD_at xl]
  exact R.row _ (jH xl)
 ·rw[Ag]at hr
  obtain⟨x,hx,rfl⟩:=jM.mp hr
  have xl:=js.mp (jy.mp hx).1
  obtain⟨t,ht,rfl⟩:=jM.mp hv
  rw[getD_at xl]at ht
  have rt:=R.val _ (jH xl) t ht
  obtain⟨n,rfl⟩:=fQ rt.1
  have hn:n<rows.length:=by omega
  have h1:=(F n hn).1
  have h2:=F.lt hn (jF _)
  rw[ll]
  exact⟨h1,h2⟩
 ·have h:=C3 F R cp (rs:=rows) (q:=0) (m:=1) (k:=rows.length) rfl (jb _) n0 (fun x hx=>absurd hx (zN _)) O
  rw[c1]at h
  show bD 0 1 _=some _
  rw[ll]
  exact h
 ·rw[ll]at ha hb
  obtain⟨x,hx,e1,_⟩:=rL ha.1 ha.2
  obtain⟨y,hy,e2,_⟩:=rL hb.1 hb.2
  rw[<- e1,<- e2]
  refine(al x y hx hy).mpr fun n v hv hl=>?_
  rw[tl (q:=(x:Int)) ⟨by omega,by omega⟩ v hv,tl (q:=(y:Int)) ⟨by omega,by omega⟩ v hv,e1,e2]
  exact hab n v hv hl
 ·have h:=tl (q:=0) ⟨by omega,by omega⟩
  have z:φ 0=0:=p0
  rw[z]at h
  exact h
end
theorem sI:∀ (r s:LI),∃ zs,r.foldl de s=s++zs
 | [],s=>⟨[],by simp⟩
 | t :: r,s=>by
  by_cases c:t∈s
  ·obtain⟨zs,e⟩:=sI r s
   exact⟨zs,by rw[JX,show de s t=s from if_pos c,e]⟩
  ·obtain⟨zs,e⟩:=sI r (s++[t])
   exact⟨t :: zs,by rw[JX,show de s t=s++[t]from if_neg c,e,jv];rfl⟩
theorem wV(rows:LL):∀ (qs s:LI),∃ zs,qs.foldl (eC rows) s=s++zs
 | [],s=>⟨[],by simp⟩
 | q :: qs,s=>by
  obtain⟨z1,e1⟩:=sI #[56] s
  obtain⟨z2,e2⟩:=wV rows qs (eC rows s q)
  exists z1++z2
  rw[JX,e2]
  show#[56].foldl de s++z2=_
  rw[e1,jv]
def oy(qs:LI)(q:Int):Int:=((qs.idxOf q:Nat):Int)
theorem Ej:∀ {r s zs:LI},qs=r.foldl de s++zs->aX s.length (r.map (oy qs))=some (r.foldl de s).length
 | [],s,zs,_=>rfl
 | t :: r,s,zs,e=>by
  have e':qs=r.foldl de (de s t)++zs:=e
  obtain⟨ys,ey⟩:=sI r (de s t)
  have ih:=Ej e'
  show(if oy qs t=(s.length:Int)then aX (s.length+1) (r.map (oy qs))else if oy qs t<(s.length:Int)then aX s.length (r.map (oy qs))else none)=some (r.foldl de (de s t)).length
  by_cases c:t∈s
  ·have ep:de s t=s:=if_pos c
   rw[ep]at ih e' ey ⊢
   have ei:qs.idxOf t=s.idxOf t:=by rw[e',ey,jv,zG,if_pos c]
   have lt:=ji c
   have er:oy qs t=((s.idxOf t:Nat):Int):=by unfold oy;rw[ei]
   rw[if_neg #[2],if_pos #[2]]
   exact ih
  ·have ep:de s t=s++[t]:=if_neg c
   rw[ep]at ih e' ey ⊢
   have ei:qs.idxOf t=s.length:=by
    rw[e',ey,jv,jv,zG,if_neg c]
    simp
   have er:oy qs t=(s.length:Int):=by unfold oy;rw[ei]
   rw[if_pos er]
   rw[jG,jS]at ih
   exact ih
section
theorem C8(R:aD many wide rows)(n0:0<many)(eq:qs=qs.foldl (eC rows) [0])(nd:qs.Nodup)(re:∀ q∈qs,∃ row,rE wide row/\aP rows row 0=q):
  ∀ {ps:LI} {k:Nat},ps=qs.drop k->k<=qs.length->bD k #[233].length (ps.map fun q=>#[56].map (oy qs))=some qs.length
 | [],k,e,hk=>by
  have hl:qs.length<=k:=Ji.mp e.symm
  show some _=some _
  rw[zt hl,<- eq]
 | p :: ps,k,e,hk=>by
  have l1:k<qs.length:=by
   rcases JT k qs.length with z|z
   ·exact z
   ·rw[zw z]at e
    cases e
  have e0:=e
  rw[jz l1]at e
  injection e with ep es
  obtain⟨s,hs⟩:∃ s,(qs.take k).foldl (eC rows) [0]=s:=⟨_,rfl⟩
  have all:qs=(p :: ps).foldl (eC rows) s:=by
   rw[<- hs,<- JG,e0,zz]
   exact eq
  obtain⟨zs,ez⟩:=wV rows (p :: ps) s
  rw[<- all]at ez
  have ks:k<s.length:=by
   rcases JT k s.length with z|z
   ·exact z
   ·have sub:∀ q∈s,q∈qs.take k:=fun q hq=>by
     have:s=qs.take s.length:=by
      have h:(s++zs).take s.length=s:=List.take_left' rfl
      rw[<- ez]at h
      exact h.symm
     rw[this]at hq
     exact(List.take_prefix_take_left z).subset hq
    have cl:∀ q∈s,∀ f:Int,0<=f->f<(wide:Int)->ar many q->stepI rows q f∈s:=fun q hq f f0 f1 hr=>by
     rw[<- hs]
     refine oO rows (qs.take k) (sub q hq) ?_
     exists 56
     have lf:f.toNat<rows[q.toNat].length:=by rw[R.row _ (jH lq)];omega
     unfold stepI
     rw[getD_at lq,getD_at lf]
     exact jH lf
    have z0:(0:Int)∈s:=by rw[<- hs];exact sC rows _ jE
    have wk:∀ (row:LI) (q:Int),rE wide row->ar many q->q∈s->aP rows row q∈s:=fun row=>by
     induction row with
     | nil=>intro q _ _ h;exact h
     | cons f row ih =>
      intro q hf hr h
      have h0:=hf f jE
      exact ih _ (fun g hg=>hf g (jK _ hg)) (dF R hr.1 hr.2 h0.1 h0.2) (cl q h f h0.1 h0.2 hr)
    have lq:qs[k]∈s:=by
     obtain⟨row,hf,ew⟩:=re qs[k] (jH l1)
     rw[<- ew]
     exact wk row 0 hf ⟨by omega,by omega⟩ z0
    have ht:=sub _ lq
    obtain⟨i,hi,ei⟩:=jZ ht
    rw[jX]at hi
    rw[zF]at ei
    have:=(JJ nd).mp ei
    omega
  show(if k<#[233].length then(aX #[233].length ((rows.getD p.toNat []).map (oy qs))).bind fun m'=>bD (k+1) m' (ps.map fun q=>#[56].map (oy qs))else none)=_
  rw[hs,if_pos ks]
  obtain⟨ys,ey⟩:=wV rows ps (eC rows s p)
  have all2:qs=(rows.getD p.toNat []).foldl de s++ys:=by
   rw[all]
   exact ey
  rw[Ej all2]
  have ih:=C8 R n0 eq nd re es l1
  have et:(qs.take (k+1)).foldl (eC rows) [0]=eC rows s p:=by
   rw[jU,jA l1,JG,hs,<- ep]
   rfl
  rw[et]at ih
  exact ih
theorem LA(R:aD many wide rows)(inr:∀ q∈qs,ar many q)(hq:q∈qs){f:Nat}(hf:f<wide):stepI #[9] (oy qs q) f=oy qs (stepI rows q f):=by
 have li:=ji hq
 have hr:=inr q hq
 exists 56
 have lf:f<rows[q.toNat].length:=by rw[R.row _ (jH lq)];exact hf
 have ei:qs[qs.idxOf q]?=some q:=by rw[jA li,Je li]
 have e3:#[9].getD (oy qs q).toNat []=(rows[q.toNat]).map (oy qs):=by
  unfold oy
  rw[jC,jN,jP,ei]
  show#[56].map _=_
  rw[getD_at lq]
 unfold stepI
 rw[e3,jC,getD_at lq,getD_at lf,jN,jP,jA lf]
 rfl
theorem SV(R:aD many wide rows)(eq:qs=qs.foldl (eC rows) [0])(inr:∀ q∈qs,ar many q){f:Int}(hq:q∈qs)(f0:0<=f)(f1:f<(wide:Int)):stepI rows q f∈qs:=by
 rw[eq]
 refine oO rows qs hq ?_
 have hr:=inr q hq
 exists 56
 have lf:f.toNat<rows[q.toNat].length:=by rw[R.row _ (jH lq)];omega
 unfold stepI
 rw[getD_at lq,getD_at lf]
 exact jH lf
theorem C9(R:aD many wide rows)(eq:qs=qs.foldl (eC rows) [0])(inr:∀ q∈qs,ar many q):∀ {v:LI} {q:Int},rE wide v->q∈qs->aP #[9] v (oy qs q)=oy qs (aP rows v q)/\aP rows v q∈qs
 | [],q,_,hq=>⟨rfl,hq⟩
 | f :: v,q,hv,hq=>by
  have hf:=hv f jE
  obtain⟨m,rfl⟩:=fQ hf.1
  have hs:=SV R eq inr hq hf.1 hf.2
  have ih:=C9 R eq inr (fun g hg=>hv g (jK _ hg)) hs
  have st:=LA R inr hq (f:=m) #[2]
  show aP _ v (stepI _ (oy qs q) (m:Int))=oy qs (aP rows v (stepI rows q (m:Int)))/\aP rows v (stepI rows q (m:Int))∈qs
  rw[st]
  exact ih
theorem Ij{signs:LI}(R:aD many wide rows)(n0:0<many)(eq:qs=qs.foldl (eC rows) [0])(nd:qs.Nodup)(inr:∀ q∈qs,ar many q)(re:∀ q∈qs,∃ row,rE wide row/\aP rows row 0=q):
  aD qs.length wide #[9]/\lQ #[9]/\0<qs.length/\Tells wide rows #[9] signs #[116] 0 0:=by
 obtain⟨zs,ez⟩:=wV rows qs [0]
 rw[<- eq]at ez
 have z0:(0:Int)∈qs:=by rw[ez];exact jE
 have r0:oy qs 0=0:=by
  unfold oy
  rw[ez]
  simp
 refine⟨⟨jQ _,fun r hr=>?_,fun r hr v hv=>?_⟩,?_,JO z0,fun v hv=>?_⟩
 ·obtain⟨q,hq,rfl⟩:=jM.mp hr
  have h:=inr q hq
  exists 130
  rw[bz,getD_at lq]
  exact R.row _ (jH lq)
 ·obtain⟨q,hq,rfl⟩:=jM.mp hr
  have h:=inr q hq
  exists 130
  obtain⟨t,ht,rfl⟩:=jM.mp hv
  have tm:t∈qs:=by rw[eq];exact oO rows qs hq ht
  have:=ji tm
  unfold oy
  omega
 ·have h:=C8 R n0 eq nd re (ps:=qs) (k:=0) rfl (jb _)
  show bD 0 1 _=some _
  rw[bz]
  exact h
 ·have h:=C9 R eq inr hv z0
  rw[r0]at h
  rw[h.1]
  obtain⟨w,ew⟩:∃ w,aP rows v 0=w:=⟨_,rfl⟩
  have hw:=h.2
  rw[ew]at hw ⊢
  have li:=ji hw
  unfold sgn oy
  rw[jC,jN (l:=qs.map _),jP,jA li,Je li]
  rfl
end
theorem Tells.trans{r3:LL}{s3:LI}{a c:Int}(h:Tells wide r1 r2 s1 s2 a b)(h':Tells wide r2 r3 s2 s3 b c):Tells wide r1 r3 s1 s3 a c:=fun v hv=>(h v hv).trans (h' v hv)
theorem Tells.symm{a:Int}(h:Tells wide r1 r2 s1 s2 a b):Tells wide r2 r1 s2 s1 b a:=fun v hv=>(h v hv).symm
theorem cH.of{signs ss:LI}(h:cH wide rs aw ss aN)(t:Tells wide rows rs signs ss 0 0):cH wide rows aw signs aN:=
 ⟨h.ok,h.pos,h.sgn,h.ord,h.apart,t.trans h.tells⟩
theorem cH.one{a b:LL}{sa sb:LI}(h1:cH wide r1 a s1 sa)(h2:cH wide r2 b s2 sb)(t:Tells wide r1 r2 s1 s2 0 0):a=b/\sa=sb:=
 IT h1.apart h2.apart h1.ok h2.ok h1.pos h2.pos h1.ord h2.ord h1.sgn h2.sgn ((h1.tells.symm.trans t).trans h2.tells)
theorem Hz{signs:LI}(R:aD many wide rows)(n0:0<many)(eq:qs=qs.foldl (eC rows) [0])(nd:qs.Nodup)(inr:∀ q∈qs,ar many q)(re:∀ q∈qs,∃ row,rE wide row/\aP rows row 0=q)(lg:gs.length=qs.length)(hg:∀ x y:Nat,x<qs.length->y<qs.length->(gs.getD x 0=gs.getD y 0↔fx #[9] wide #[116] x y)):
  cH wide rows (dk (ox gs) #[9] 0 #[9]) signs ((bS (ox gs) qs.length).map fun q=>#[116].getD q 0):=by
 obtain⟨R1,O1,p1,t1⟩:=Ij (signs:=signs) R n0 eq nd inr re
 have el:#[9].length=qs.length:=jQ _
 have F:=Ou gs
 have h:=RK (φ:=ox gs) (wide:=wide) (rows:=qs.map fun q=>#[56].map (oy qs)) (signs:=qs.map fun q=>signs.getD q.toNat 0) (by rw[el,<- lg];exact F) (by rw[el];exact R1) O1 (by rw[el];exact p1) (fun x y hx hy=>by
  rw[el]at hx hy
  rw[Sr ⟨by omega,by omega⟩ ⟨by omega,by omega⟩,jC,jC]
  exact hg x y hx hy)
 rw[el]at h
 exact h.of t1
def AJ(xs:LI)(k:Nat):List #[309]:=(xs.zipIdx k).map fun p=>(Sum.inl p.1,V.int (p.2:Int))
theorem pH(xs:LI)(k:Nat):(AJ xs k).length=xs.length:=by
 unfold AJ
 rw[bz,ZR]
theorem sG:∀ (xs:LI) (k:Nat) (g:Int),dZ (AJ xs k) (Sum.inl g)=if g∈xs then some (.int ((k+xs.idxOf g:Nat):Int))else none
 | [],k,g=>by rw[if_neg #[11]];rfl
 | x :: xs,k,g=>by
  have ih:=sG xs (k+1) g
  have e0:AJ (x :: xs) k=(Sum.inl x,V.int (k:Int)) :: AJ xs (k+1):=rfl
  by_cases e:x=g
  ·subst e
   rw[e0,iW rfl,if_pos jE,Za]
   simp
  ·rw[e0,eh (fun z=>e (Sum.inl.inj z)),ih]
   have m:g∈x :: xs↔g∈xs:=by simp[Ne.symm e]
   by_cases c:g∈xs
   ·have i:(x :: xs).idxOf g=xs.idxOf g+1:=by rw[Za,show(x==g)=false from beq_false_of_ne e];rfl
    rw[if_pos c,if_pos (m.mpr c),i]
    congr 3
    omega
   ·rw[if_neg c,if_neg fun z=>c (m.mp z)]
theorem EX{xs:LI}{g:Int}(h:g∉xs):putK (AJ xs 0) (Sum.inl g) (V.int (xs.length:Int))=AJ (xs++[g]) 0:=by
 unfold putK
 rw[if_neg (by
  intro z
  obtain⟨p,hp,e⟩:=Jz.mp z
  obtain⟨k,hk,rfl⟩:=jM.mp hp
  have e' := Sum.inl.inj (of_decide_eq_true e)
  have m:k.1∈xs:=by
   obtain⟨i,hi,ei⟩:=jZ hk
   rw[List.getElem_zipIdx]at ei
   rw[<- ei]
   exact jH _
  exact h (e' ▸ m))]
 unfold AJ
 rw[zR,jD,JU]
 rfl
theorem wc:∀ (gs s:LI),s.Nodup->(gs.foldl dd s).Nodup
 | [],s,h=>h
 | g :: gs,s,h=>by
  rw[JX]
  by_cases c:g∈s
  ·rw[oM c];exact wc gs s h
  ·rw[ik c];exact wc gs _ (Aa h c)
theorem Y0(gs:LI):(aK gs).Nodup:=wc gs [] JN
theorem fq:∀ (gs s:LI),(gs.foldl dd s).length<=s.length+gs.length
 | [],s=>jF _
 | g :: gs,s=>by
  rw[JX]
  by_cases c:g∈s
  ·rw[oM c]
   have:=fq gs s
   rw[jc]
   omega
  ·rw[ik c]
   have:=fq gs (s++[g])
   rw[jG,jS]at this
   rw[jc]
   omega
theorem oU(gs:LI):(aK gs).length<=gs.length:=by
 have:=fq gs []
 rw[Jb,JU]at this
 exact this
def eJ(gs:LI):LI:=(jn gs.length).map fun i:Nat=>ox gs i
theorem Ae(h0:0<=q)(h1:q<(gs.length:Int)):bw (eJ gs) q=ox gs q:=by
 unfold bw eJ
 have l:q.toNat<gs.length:=by omega
 rw[getD_at (by rw[bz,ju];exact l),JV,ZS,jd h0]
theorem Ss(h0:0<=q)(h1:q<(gs.length:Int)):0<=ox gs q/\ox gs q<((aK gs).length:Int):=by
 have l:q.toNat<gs.length:=by omega
 have m:gs.getD q.toNat 0∈aK gs:=by rw[getD_at l];exact dC.mpr (jH l)
 have:=ji m
 unfold ox
 omega
theorem Su(h:j<(aK gs).length):∃ q:Int,ar gs.length q/\ox gs q=(j:Int):=by
 have m:(aK gs)[j]∈gs:=dC.mp (jH h)
 obtain⟨i,hi,e⟩:=jZ m
 refine⟨(i:Int),⟨by omega,by omega⟩,?_⟩
 unfold ox
 rw[jC,getD_at hi,e]
 have l:=ji (jH h)
 have q:=(JJ (Y0 gs)).mp (Je l)
 rw[q]
theorem MG(col:LI)(q:Int):(cP col q).Nodup:=by
 unfold cP
 refine Ju.mpr ((List.nodup_range.filter _).imp fun {a b} n z=>n ?_)
 have z':(a:Int)=(b:Int):=z
 omega
def Ir(C:Zg):Sp:=fun vs H Q _=>∃ (x dx g:Zg) (signs:LI),vs=[.ref x,.ref g]/\H x=some (.ins C dx [])/\H g=some (.tup #[305])/\signs.length<1000 /\
 ∀ (H':Hp) (go ms wt iw:Zg) (ds:List Zg),(∀ b u,b≠x->H b=some u->H' b=some u)->H go=none->H ms=none->H wt=none->H iw=none->(∀ d∈ds,H d=none)->Bq H' C x go ms wt iw signs.length #[198] ds ((jn ds.length).map fun i:Nat=>(i:Int))->Q .non H'
section
theorem cn:aJ ["self","signs","numbers","group_of","members","here","group"] ["self","signs"] (aj cz):=cU #[4]
theorem iJ:bA ["self","signs","numbers","group_of","members","here","group"] (aj cz) ["sign","numbers"] [none,some 2] ⟨.function,[#[65],("sign",.local),("len",.globalImplicit),("numbers",.free)],false,false,[]⟩:=rh #[4]
theorem iK:bA ["self","signs","numbers","group_of","members","here","group"] (aj cz) ["sign"] [none] ⟨.function,[#[65],("sign",.local)],false,false,[]⟩:=rh #[4]
theorem iL:bA ["self","signs","numbers","group_of","members","here","group"] (aj cz) ["group"] [none] ⟨.function,[#[65],("group",.local)],false,false,[]⟩:=rh #[4]
theorem Ll(F:bE K "__init__" "Parted.__init__" cz dV f fd)(pc:FX K C)(bj:mg "len" = none)(fj:mg "list" = none)(bx:mg "range" = none)(lJ:mg "dict" = none)(cE:mg "enumerate" = none):bu P w K mg base eA 1 f fd ["self","signs"] (Ir C):=by
 refine F.ok cn #[6] #[1]
 ·obtain⟨x,dx,g,signs,rfl,_⟩:=h
  rfl
 obtain⟨x,dx,g,signs,rfl,hx,hg,ln,k⟩:=h
 have hu:=oP hr
 refine⟨_,(ak (aL (i:=2) cn.nd rU)
   (ak (mC (i:=3) rfl cn.nd rfl #[231] iJ (mB (pv 1)) (fun _ _ _ _=>(bB (i:=0) iJ.nd)) (fun _ _ _ _=>(Fe (pv 1) (pv 0) (aG so #[42] bj bH #[121]) ⟨rfl,rfl,rfl,rfl⟩)))
   (ak (mC (i:=4) rfl cn.nd rfl #[231] iK (Z3 (pv 2)) (fun _ _ _ _=>(bB (i:=0) iK.nd)) (fun _ _ _ _=>rU))
   (ak (cD PassesOwn.never rfl (CU rfl cE #[91]) (CS rfl (eL (bB (i:=5) cn.nd) (eL (bB (i:=6) cn.nd) Ad))) (au (sH hu (aC iC (pv 4) (pv 6) #[3]) (pv 5) dN rfl)))
   (ak (pM (pv 0) (pv 3) rfl)
   (ak (pM (pv 0) (pv 4) rfl)
   (ak (pM (pv 0) (Lq rfl rfl fj rfl bx (aa (aG aM #[42] bj bH #[217]) ag)) rfl)
   (au (pM (pv 0) (aQ (rJ rfl) #[42] lJ BN (aa (di rfl iL (cK rfl bx (aa (aG aM #[42] bj bH #[217]) ag)) (fun _ _ _ _=>(bB (i:=0) iL.nd)) #[153]) ag)) rfl))))))))),?_⟩
 refine fun Nd hNd=>?_
 have s0:=ao hNd (HO.dK [])
 have pl:#[198].length=signs.length:=by unfold eJ;rw[bz,ju]
 exists 128
 refine cS (t:=Am _ _) (fun σ' H'=>∃ go:Zg,σ'=[some #[94],some (.ref g),some (.ref Nd),some (.ref go),none,none,none]/\aH H H'/\H go=none/\H' go=some #[76]/\H' Nd=some (.dK (AJ (aK signs) 0))) ?_ #[47]
 rotate_left
 ·exists _,rfl,g,rfl,⟨_,bJ (s0 _ _ hg)⟩
  refine oK (K:=K) (xs:=signs.map V.int) (fun D i ys H'=>aH H H'/\H' Nd=some (.dK (AJ (aK (signs.take i)) 0))/\ys=((jn i).map fun j:Nat=>ox signs j).map V.int) (fun D hD=>⟨av s0 (s0.free hD),by rw[af (ah ae hD),ae];rfl,rfl⟩) (fun D i ys H' _ ⟨e,_⟩=>bJ (e _ _ hg)) ?_ ?_
  ·rintro D i y ys H2 Q' hD hi hy ⟨s2,PK,rfl⟩ k'
   obtain⟨sg,rfl,hs⟩:=bU hi
   have il:=(hX hs).1
   have ol:=oU (signs.take i)
   rw[jX]at ol
   have nND:Nd≠D:=aF PK hy #[0]
   have fD:H D=none:=s0.free hD
   refine⟨_,rfl,Nd,rfl,.inl ⟨_,.inl PK⟩,_,rfl,_,rfl,Nd,_,rfl,PK,_,Sum.inl sg,PK,rfl,aA (by rw[pH];omega),fun v hv=>?_,fun hn=>?_⟩
   ·rw[sG]at hv
    by_cases c:sg∈aK (signs.take i)
    ·rw[if_pos c,JU]at hv
     have ev:=(Option.some.inj hv).symm
     subst ev
     refine k' _ _ hy (aA (by rw[bz,bz,ju];omega)) ⟨av s2 fD,by rw[af nND,PK,lZ hs,oM c],?_⟩
     rw[JP,jD,jD,<- BU hs c]
     rfl
    ·rw[if_neg c]at hv
     cases hv
   ·rw[sG]at hn
    by_cases c:sg∈aK (signs.take i)
    ·rw[if_pos c]at hn
     cases hn
    ·rw[pH]
     refine k' _ _ (by rw[af (Ne.symm nND)];exact hy) (aA (by rw[bz,bz,ju];omega)) ⟨av (av s2 hNd) fD,by rw[af nND,ae,EX c,lZ hs,ik c],?_⟩
     rw[JP,jD,jD,<- BS hs c]
     rfl
  ·rintro D ys H2 hD hy ⟨s2,PK,rfl⟩
   rw[bz,jY]at PK
   rw[bz]at hy
   exact hZ _ _ ⟨D,rfl,s2,s0.free hD,hy,PK⟩
 rintro σ' H1 ⟨go,rfl,s1,T3,aek,hN1⟩
 have ol:=oU signs
 refine cS (t:=Am _ _) (fun σ' H'=>∃ (ms:Zg) (as:List Zg),σ'=[some #[94],some (.ref g),some (.ref Nd),some (.ref go),some (.ref ms),none,none]/\aH H H'/\H' go=some #[76]/\H ms=none/\H' ms=some (.lst #[120])/\as.length=(aK signs).length/\as.Nodup/\ms≠go/\(∀ a∈as,H a=none/\H' a=some (.dK []))) ?_ #[47]
 rotate_left
 ·refine⟨_,rfl,Nd,_,rfl,.inl ⟨hN1,fun o=>?_⟩⟩
  obtain⟨H2,Di⟩:∃ H2,upd H1 Nd (.oN o (.dK (AJ (aK signs) 0)))=H2:=⟨_,rfl⟩
  have s2:aH H H2:=by rw[<- Di];exact av s1 hNd
  have PK:H2 Nd=some (.oN o (.dK (AJ (aK signs) 0))):=by rw[<- Di,ae]
  have Rj:H2 go=some #[76]:=by rw[<- Di,af (aF aek hN1 #[0])];exact aek
  rw[Di]
  refine Oj (o:=o) (kvs:=AJ (aK signs) 0) (fun D i ys H'=>aH H2 H'/\∃ as:List Zg,ys=as.map V.ref/\as.length=i/\as.Nodup/\(∀ a∈as,H2 a=none/\H' a=some (.dK []))) (fun D hD=>⟨ao hD _,[],rfl,rfl,JN,fun a h=>by cases h⟩) (fun D i ys H' _ ⟨e,_⟩=>e _ _ PK) ?_ ?_
  ·rintro D i p ys H3 Q' hD hi hy ⟨s3,as,rfl,la,nd,ha⟩ k'
   have il:=(hX hi).1
   rw[pH]at il
   refine fun d hd=>?_
   have nDd:D≠d:=ah hy hd
   have nda:d∉as:=fun z=>by rw[(ha d z).2]at hd;cases hd
   refine k' _ _ (by rw[af nDd];exact hy) (aA #[35]) ⟨av (av s3 (s3.free hd)) hD,as++[d],by rw[jD];rfl,by rw[jG,jS,la],?_,fun a h=>?_⟩
   ·exact JA.mpr ⟨nd,by simp,fun a ha b hb e=>nda #[216]⟩
   ·rcases wb.mp h with z|z
    ·obtain⟨h1,h2⟩:=ha a z
     exact⟨h1,by rw[af (aF h2 hy #[0]),af (fun y:a=d=>nda (y ▸ z))];exact h2⟩
    ·rw[jI.mp z]
     exact⟨s3.free hd,by rw[af (Ne.symm nDd),ae]⟩
  ·rintro D ys H3 hD hy ⟨s3,as,rfl,la,nd,ha⟩
   rw[pH]at la
   exact hZ _ _ ⟨D,as,rfl,s2.trans s3,s3 _ _ Rj,s2.free hD,hy,la,nd,Ne.symm (ah Rj hD),fun a h=>⟨s2.free (ha a h).1,(ha a h).2⟩⟩
 rintro σ' H2 ⟨ms,as,rfl,s2,Rj,fms,ahV,la,nda,nmg,ha2⟩
 refine cS (t:=AW _ _ _) (fun σ' H'=>∃ (v1 v2:OV),σ'=[some #[94],some (.ref g),some (.ref Nd),some (.ref go),some (.ref ms),v1,v2]/\aH H H'/\H' go=some #[76]/\H' ms=some (.lst #[120])/\∀ (j:Nat) (a:Zg),as[j]?=some a->H' a=some #[275]) ?_ #[47]
 rotate_left
 ·refine⟨_,rfl,go,rfl,⟨_,cG Rj⟩,DW (K:=K) (xs:=#[198].map V.int) (fun i σ' H'=>∃ (v1 v2:OV),σ'=[some #[94],some (.ref g),some (.ref Nd),some (.ref go),some (.ref ms),v1,v2]/\aH H H'/\H' go=some #[76]/\H' ms=some (.lst #[120])/\∀ (j:Nat) (a:Zg),as[j]?=some a->H' a=some (.dK (cT (cP (#[198].take i) (j:Int)))))
   ⟨none,none,rfl,s2,Rj,ahV,fun j a h=>(ha2 a (rj h)).2⟩ (fun i σ' H' _ ⟨_,_,_,_,e,_,_⟩=>cG e) ?_ ?_⟩
  ·rintro i y σ' H3 T hi ⟨v1,v2,rfl,s3,Rk,ER,ha3⟩ hT
   obtain⟨t,rfl,ht⟩:=bU hi
   have il:=(hX ht).1
   rw[pl]at il
   have et:t=ox signs (i:Int):=by
    have e:=(hX ht).2
    rw[<- e]
    unfold eJ
    rw[JV,ZS]
   have tv:=Ss (gs:=signs) (q:=(i:Int)) #[2] #[2]
   rw[<- et]at tv
   have tl:t.toNat<as.length:=by omega
   have sT:=ao hT #[201]
   obtain⟨H4,su⟩:∃ H4,upd H3 T #[201]=H4:=⟨_,rfl⟩
   have hT4:H4 T=some (.tup [V.int i,V.int t]):=by rw[<- su];exact ae
   rw[su]at sT ⊢
   obtain⟨a,ea⟩:∃ a,as[t.toNat]?=some a:=⟨_,jA tl⟩
   have ha4:=sT _ _ (ha3 _ _ ea)
   have tn:((t.toNat:Nat):Int)=t:=jd tv.1
   rw[tn]at ha4
   have lp:(#[198].take i).length=i:=by rw[jX];omega
   have aeV:(i:Int)∉cP (#[198].take i) t:=fun z=>by
    have h1:=(oW.mp z).1.2
    rw[lp]at h1
    omega
   have pln:=HY (#[198].take i) t
   exists T,_,rfl,bJ hT4,rfl,_,_,rfl,_,_,rfl,rfl
   refine⟨_,rfl,_,rfl,ms,_,_,_,rfl,rfl,cG (sT _ _ ER),oH tv.1 ea,_,rfl,a,_,rfl,Bo.k (k:=Sum.inl (i:Int)) ha4 (aA (by unfold cT;rw[bz];omega)),?_⟩
   rw[BP aeV]
   have fa:H a=none:=(ha2 a (rj ea)).1
   have J0:=sT _ _ Rk
   have Ho:=sT _ _ ER
   refine⟨_,_,rfl,av (s3.trans sT) fa,by rw[af (aF J0 ha4 #[0])];exact J0,by rw[af (aF Ho ha4 #[0])];exact Ho,fun j b hb=>?_⟩
   have et2:#[198].take (i+1)=#[198].take i++[t]:=by rw[jU,ht];rfl
   rw[et2,AM,lp]
   by_cases c:b=a
   ·subst c
    have ej:j=t.toNat:=by
     have e1:=(hX hb)
     have e2:=(hX ea)
     exact(JJ nda).mp (e1.2.trans e2.2.symm)
    rw[ae,ej,tn,if_pos rfl]
   ·have nj:t≠(j:Int):=fun z=>by
     have e:t.toNat=j:=by omega
     rw[e,hb]at ea
     exact c (Option.some.inj ea)
    rw[af c,if_neg nj,jr]
    exact sT _ _ (ha3 j b hb)
  ·rintro σ' H3 ⟨v1,v2,rfl,s3,Rk,ER,ha3⟩
   rw[bz,jY]at ha3
   exact hZ _ _ ⟨v1,v2,rfl,s3,Rk,ER,ha3⟩
 rintro σ' H3 ⟨v1,v2,rfl,s3,Rk,ER,ha3⟩
 have fa:∀ a∈as,H a=none:=fun a h=>(ha2 a h).1
 refine⟨_,rfl,_,rfl,x,C,dx,[],rfl,s3 _ _ hx,pc.cl,pc.ng,by decide,?_⟩
 refine⟨_,rfl,_,rfl,x,C,dx,_,rfl,ae,pc.cl,pc.nm,by show(1:Nat)<1000;decide,?_⟩
 rw[N6]
 obtain⟨H4,su⟩:∃ H4,upd H3 x (HO.ins C dx (oX "members" (V.ref ms) (oX "group_of" (V.ref go) [])))=H4:=⟨_,rfl⟩
 have k4:∀ b u,b≠x->H b=some u->H4 b=some u:=fun b u n h=>by rw[<- su,af n];exact s3 _ _ h
 have x4:H4 x=some (.ins C dx [#[223],#[238]]):=by rw[<- su,ae];rfl
 have X2:∀ b:Zg,H b=none->x≠b:=fun b h=>ah hx h
 have J0:H4 go=some #[76]:=by rw[<- su,af (Ne.symm (X2 _ T3))];exact Rk
 have Ho:H4 ms=some (.lst #[120]):=by rw[<- su,af (Ne.symm (X2 _ fms))];exact ER
 have ha4:∀ (j:Nat) (a:Zg),as[j]?=some a->H4 a=some #[275]:=fun j a h=>by
  rw[<- su,af #[271]];exact ha3 j a h
 have f4:∀ {b},H4 b=none->H b=none:=fun {b} h=>by
  rcases Decidable.em (b=x)with z|z
  ·subst z;rw[x4]at h;cases h
  ·cases e:H b with
   | none=>rfl
   | some u=>rw[k4 b u z e]at h;cases h
 rw[su]
 have lm:#[120].length=as.length:=jQ _
 refine⟨_,rfl,ms,_,rfl,.inl (cG Ho),#[120].length,rfl,small (by rw[lm];omega),fun wt Cw=>?_⟩
 rw[lm]
 have nxw:x≠wt:=ah x4 Cw
 refine⟨_,rfl,x,C,dx,_,rfl,by rw[af nxw];exact x4,pc.cl,pc.nw,by show(2:Nat)<1000;decide,?_⟩
 obtain⟨H5,eH5⟩:∃ H5,upd (upd H4 wt (HO.lst ((jn as.length).map fun i:Nat=>V.int i))) x (HO.ins C dx (oX "waiting" (V.ref wt) [#[223],#[238]]))=H5:=⟨_,rfl⟩
 have k5:∀ b u,b≠x->H4 b=some u->H5 b=some u:=fun b u n h=>by rw[<- eH5,af n,af (ah h Cw)];exact h
 have x5:H5 x=some (.ins C dx [#[223],#[238],("waiting",.ref wt)]):=by rw[<- eH5,ae];rfl
 have V4:H5 wt=some (.lst (((jn as.length).map fun i:Nat=>(i:Int)).map V.int)):=by rw[<- eH5,af (Ne.symm nxw),ae,JF];rfl
 have OI:=k5 _ _ (Ne.symm (X2 _ T3)) J0
 have U9:=k5 _ _ (Ne.symm (X2 _ fms)) Ho
 have f5:∀ {b},H5 b=none->H4 b=none:=fun {b} h=>by
  rcases Decidable.em (b=x)with z|z
  ·subst z;rw[x5]at h;cases h
  ·cases e:H4 b with
   | none=>rfl
   | some u=>rw[k5 b u z e]at h;cases h
 rw[eH5]
 obtain⟨ns,TZ⟩:∃ ns:LI,((jn as.length).map fun i:Nat=>(i:Int))=ns:=⟨_,rfl⟩
 have lns:ns.length=as.length:=by rw[<- TZ,bz,ju]
 have ndn:ns.Nodup:=by
  rw[<- TZ]
  refine Ju.mpr (List.nodup_range.imp fun {a b} n z=>n ?_)
  have z':(a:Int)=(b:Int):=z
  omega
 refine⟨_,rfl,ms,_,rfl,.inl (cG U9),_,rfl,by rw[lm];omega,by rw[lm];omega,?_⟩
 refine mx (fun D i ys H'=>aH H5 H'/\∃ ts,ys=ts.map V.ref/\ie H' ts (cT (ns.take i))) #[69] ?_ ?_
 ·rintro D i ys H' Q' hD hi hy ⟨hs,ts,rfl,pv⟩ k'
  rw[jC,lm]at hi
  have hq:ns[i]?=some (i:Int):=by
   rw[<- TZ,jP,ZJ hi]
   rfl
  exists 90
  rw[Jn]
  have sT:=ao hT (HO.tup [V.int i,V.bl true])
  have nD:D≠T:=ah hy hT
  have lts:ts.length=i:=by
   rw[Paired.length pv]
   unfold cT
   rw[bz,jX]
   omega
  have hyT:#[171] D=some #[204]:=by rw[af nD];exact hy
  exists 64
  rw[jU,hq]
  have up:∀ b xs,#[171] b=some #[29]->(upd #[171] D #[138]) b=some #[29]:=fun b xs e=>by
   exists 135
  show ie _ _ (cT (ns.take i++[(i:Int)]))
  unfold cT
  rw[jD]
  exists 117
 rintro L ys H6 fL hL ⟨s6,ts,rfl,pv⟩
 rw[jC,lm,<- lns,jY]at pv
 refine⟨L,ts,_,rfl,hL,pv,fun iw Dz=>?_⟩
 rw[Ea ndn]
 have nxi:x≠iw:=ah (s6 _ _ x5) Dz
 refine⟨_,rfl,x,C,dx,_,rfl,by rw[af nxi];exact s6 _ _ x5,pc.cl,pc.ni,by show(3:Nat)<1000;decide,?_⟩
 have fiw:H5 iw=none:=s6.free Dz
 have kz:∀ b u,b≠x->H5 b=some u->(upd (upd H6 iw (HO.dK (cT ns))) x (HO.ins C dx (oX "is_waiting" (V.ref iw) [#[223],#[238],("waiting",.ref wt)]))) b=some u:=fun b u n h=>by
  rw[af n,af (ah h fiw)];exact s6 _ _ h
 have ha5:∀ (j:Nat) (a:Zg),as[j]?=some a->H5 a=some #[275]:=fun j a h=>k5 _ _ #[271] (ha4 j a h)
 refine k _ go ms wt iw as (fun b u n h=>kz _ _ n (k5 _ _ n (k4 _ _ n h))) T3 fms (f4 Cw) (f4 (f5 fiw)) fa ?_
 have nw4:wt≠x:=Ne.symm nxw
 refine⟨⟨dx,by rw[ae];rfl⟩,kz _ _ (Ne.symm (X2 _ T3)) OI,kz _ _ (Ne.symm (X2 _ fms)) U9,by rw[TZ];rw[TZ]at V4;exact kz _ _ nw4 V4,by rw[TZ,af (Ne.symm nxi),ae],pl,fun q hq=>?_,fun j a h=>?_,nda,fun z=>?_,Ne.symm nmg,?_,?_,by rw[TZ];exact ndn,fun p hp=>?_⟩
 ·rw[Ae hq.1 hq.2,la]
  exact Ss hq.1 hq.2
 ·have jl:=(hX h).1
  refine⟨cP #[198] (j:Int),kz _ _ #[271] (ha5 j a h),MG _ _,fun z=>?_,fun q=>?_⟩
  ·obtain⟨q,hq,e⟩:=Su (gs:=signs) (j:=j) #[2]
   have:q∈cP #[198] (j:Int):=oW.mpr ⟨⟨hq.1,by rw[pl];exact hq.2⟩,by
    have:=Ae hq.1 hq.2
    unfold bw at this
    rw[this,e]⟩
   rw[z]at this
   cases this
  ·rw[oW,pl]
   rfl
 ·obtain⟨j,hj⟩:=JD.mp z
  have:=ha5 j iw hj
  rw[fiw]at this
  cases this
 ·exact ah J0 Cw
 ·exact ah Ho Cw
 ·rw[TZ]at hp
  rw[<- TZ]at hp
  obtain⟨i,hi,rfl⟩:=jM.mp hp
  have:=js.mp hi
  omega
end
theorem SG(acc:List #[58])(a k:List Key)(v:V):k∈(putK acc a v).map Prod.fst↔k∈acc.map Prod.fst\/k=a:=by
 unfold putK
 by_cases c:(acc.any fun kv=>decide (kv.fst=a))=true
 ·rw[if_pos c,JF]
  have e:acc.map (Prod.fst ∘ fun kv=>if kv.fst=a then(kv.fst,v)else kv)=acc.map Prod.fst:=ZH fun kv _=>by
   show(if kv.fst=a then(kv.fst,v)else kv).fst=kv.fst
   split<;>rfl
  rw[e]
  obtain⟨kv,h1,h2⟩:=Jz.mp c
  have h3:a∈acc.map Prod.fst:=jM.mpr ⟨kv,h1,of_decide_eq_true h2⟩
  exact⟨.inl,fun z=>z.elim id fun z=>z ▸ h3⟩
 ·rw[if_neg c,jD,Jq]
  exact or_congr Iff.rfl jI
theorem CK:∀ (kvs acc:List #[58]) (k:List Key),k∈(iY acc kvs).map Prod.fst↔k∈acc.map Prod.fst\/k∈kvs.map Prod.fst
 | [],acc,k=>⟨.inl,fun z=>z.elim id fun z=>by cases z⟩
 | p :: kvs,acc,k=>by
  show k∈#[317].map Prod.fst↔_
  rw[CK kvs,SG,or_assoc]
  exact or_congr Iff.rfl (jW (a:=k) (b:=p.1) (l:=kvs.map Prod.fst)).symm
theorem Mr{x y:LI}(e:x.map (Sum.inl:Int->Key)=y.map Sum.inl):x=y:=by
 have h:=congrArg (List.map fun k:Key=>Sum.elim id (fun _=>(0:Int)) k) e
 rw[JF,JF]at h
 have f:((fun k:Key=>Sum.elim id (fun _=>(0:Int)) k) ∘ (Sum.inl:Int->Key))=id:=rfl
 rw[f,ZU,ZU]at h
 exact h
theorem D3:∀ {bs:List Zg} {kvs:List #[58]},FV H bs kvs->(∀ k∈kvs.map Prod.fst,∃ c:LI,k=c.map Sum.inl)->∃ cols:LL,aI H bs cols/\kvs.map Prod.fst=cols.map fun c=>c.map Sum.inl
 | [],[],.nil,_=>⟨[],.nil,rfl⟩
 | _,_,.cons (a:=b) (b:=p) (l₁:=bs) (l₂:=kvs) h t,q=>by
  obtain⟨cols,h1,h2⟩:=D3 t fun k hk=>q k (jK _ hk)
  obtain⟨c,e⟩:=q p.1 jE
  refine⟨c :: cols,.cons ?_ h1,by rw[JE,JE,h2,e]⟩
  rw[e,JF]at h
  exact h
theorem Dv{bs:List Zg}(h:FV H bs (iY [] (DU.map fun c=>(c.map Sum.inl,V.bl true)))):∃ cols:LL,aI H bs cols/\cols.length<=DU.length/\∀ c,c∈cols↔c∈DU:=by
 have mem:∀ k,k∈(iY [] #[283]).map Prod.fst↔∃ c∈DU,k=c.map Sum.inl:=fun k=>by
  rw[CK,JF]
  constructor
  ·rintro(z|z)
   ·cases z
   ·obtain⟨c,h1,h2⟩:=jM.mp z
    exact⟨c,h1,h2.symm⟩
  ·rintro⟨c,h1,h2⟩
   exact .inr (jM.mpr ⟨c,h1,h2.symm⟩)
 obtain⟨cols,h1,h2⟩:=D3 h fun k hk=>let ⟨c,_,e⟩:=(mem k).mp hk;⟨c,e⟩
 refine⟨cols,h1,?_,fun c=>?_⟩
 ·have e1:=congrArg Jj h2
  have e2:=oq #[283] []
  rw[bz,bz]at e1
  rw[bz,Jb]at e2
  omega
 have m:=mem (c.map Sum.inl)
 rw[h2]at m
 constructor
 ·intro hc
  obtain⟨c',h3,e⟩:=m.mp (jM.mpr ⟨c,hc,rfl⟩)
  rw[Mr e]
  exact h3
 ·intro hc
  obtain⟨c',h3,e⟩:=jM.mp (m.mpr ⟨c,hc,rfl⟩)
  rw[<- Mr e]
  exact h3
theorem P7(R:aD many wide rows)(f:Nat)(hq:ar many q):mw (rows.map fun r=>r.getD f 0) q=stepI rows q f:=by
 have l:q.toNat<rows.length:=by have:=hq.1;have:=hq.2;rw[R.len];omega
 unfold mw stepI
 rw[getD_at (by rw[bz];exact l),JV,jC,getD_at l]
theorem TQ(R:aD many wide rows)(h:∀ c,c∈cols↔c∈wQ rows wide):Aq many wide rows cols where
 of:=fun c hc=>by
  obtain⟨f,hf,rfl⟩:=jM.mp ((h c).mp hc)
  exact⟨f,js.mp hf,fun q hq=>P7 R f hq⟩
 all:=fun f hf=>⟨_,(h _).mpr (jM.mpr ⟨f,js.mpr hf,rfl⟩),fun q hq=>P7 R f hq⟩
theorem Ma(R:aD many wide rows){c:LI}(h:c∈wQ rows wide):c.length=many/\∀ t∈c,0<=t/\t<(many:Int):=by
 obtain⟨f,hf,rfl⟩:=jM.mp h
 have fl:=js.mp hf
 refine⟨by rw[bz,R.len],fun t ht=>?_⟩
 obtain⟨r,hr,rfl⟩:=jM.mp ht
 have lr:=R.row r hr
 rw[getD_at #[2]]
 exact R.val r hr _ (jH _)
theorem HX(l:col.length=many):x∈cP col q↔ar many x/\mw col x=q:=by
 rw[oW,l]
 rfl
theorem EO(col:LI):∀ {ms:LI},ms.Nodup->(ms.flatMap (cP col)).Nodup
 | [],_=>JN
 | m :: ms,h=>by
  have n:=jh.mp h
  rw[zX]
  refine JA.mpr ⟨MG col m,EO col n.2,fun a ha b hb e=>?_⟩
  obtain⟨m',h1,h2⟩:=zk.mp hb
  have e1:=(oW.mp ha).2
  have e2:=(oW.mp h2).2
  rw[<- e,e1]at e2
  exact n.1 (e2 ▸ h1)
theorem Hh{ms:LI}(l:col.length=many):x∈ms.flatMap (cP col)↔ar many x/\mw col x∈ms:=by
 rw[zk]
 constructor
 ·rintro⟨m,h1,h2⟩
  have h3:=(HX l).mp h2
  exact⟨h3.1,h3.2 ▸ h1⟩
 ·rintro⟨h1,h2⟩
  exact⟨_,h2,(HX l).mpr ⟨h1,rfl⟩⟩
theorem tR.mono{cols:List (Int->Int)}{R:Int->Int->Prop}{W W' S:Int->Prop}{k:Nat}(h:tR many cols sg R grp W S k)(w:∀ g,W g->W' g):tR many cols sg R grp W' S k:=
 ⟨h.coarse,h.signs,h.whole,fun x y hx hy e j c hj=>by
  rcases h.cong x y hx hy e j c hj with z|z|z|z
  ·exact .inl z
  ·exact .inr (.inl (w _ z))
  ·exact .inr (.inr (.inl (w _ z)))
  ·exact .inr (.inr (.inr z))⟩
theorem fx.symm{signs:LI}(h:fx rows wide signs x y):fx rows wide signs y x:=fun n v h1 h2=>(h n v h1 h2).symm
theorem Bq.pop{x ms l:Zg}{FF:LI}{s:Int}(h:Bq H C x go ms wt iw many gs ds (FF++[s]))(hl:H l=none):
  Bq (upd (upd (upd H wt (.lst (FF.map V.int))) iw (.dK (cT ((FF++[s]).filter fun k=>decide (k≠s))))) l #[185]) C x go ms wt iw many gs ds FF:=by
 have nd:=JA.mp h.wn
 have ef:(FF++[s]).filter (fun k=>decide (k≠s))=FF:=by
  rw[Ja,JH #[11],ZZ,jr]
  exact ZI.mpr fun k hk=>decide_eq_true fun z=>nd.2.2 k hk s jE z
 rw[ef]
 have nl:∀ c u,H c=some u->c≠l:=fun c u e=>ah e hl
 have kp:∀ c u,c≠wt->c≠iw->H c=some u->(upd (upd (upd H wt (.lst (FF.map V.int))) iw (.dK (cT FF))) l #[185]) c=some u:=fun c u c1 c2 e=>by rw[af (nl c u e),af c2,af c1];exact e
 obtain⟨dx,hx⟩:=h.pt.ob
 have nwi:wt≠iw:=aF h.wt_ h.iw_ #[0]
 refine⟨⟨dx,kp _ _ (aF hx h.wt_ #[0]) (aF hx h.iw_ #[0]) hx⟩,kp _ _ h.n2 (aF h.go_ h.iw_ #[0]) h.go_,kp _ _ h.n3 (aF h.ms_ h.iw_ #[0]) h.ms_,by rw[af (nl _ _ h.wt_),af nwi,ae],by rw[af (nl _ _ h.iw_),ae],h.lg,h.val,fun i d hi=>?_,h.dn,h.ndi,h.n1,h.n2,h.n3,nd.1,fun g hg=>h.wv g (jg _ hg)⟩
 obtain⟨m,h1,h2,abm,ahc⟩:=h.mem i d hi
 exact⟨m,kp _ _ (aF h1 h.wt_ #[0]) (fun z=>h.ndi (z ▸ rj hi)) h1,h2,abm,ahc⟩
theorem Bq.alone{x ms:Zg}(h:Bq H C x go ms wt iw many gs ds ws)(e:ds.length=many):∀ a b,ar many a->ar many b->bw gs a=bw gs b->a=b:=fun a b ha hb eg=>Classical.byContradiction fun ne=>by
 have la:a.toNat<gs.length:=by have:=ha.1;have:=ha.2;rw[h.lg];omega
 have lb:b.toNat<gs.length:=by have:=hb.1;have:=hb.2;rw[h.lg];omega
 have nab:a.toNat≠b.toNat:=by have:=ha.1;have:=hb.1;omega
 unfold bw at eg
 rw[getD_at la,getD_at lb]at eg
 have t:=iu (xs:=(jn ds.length).map fun i:Nat=>(i:Int)) (ys:=gs.eraseIdx b.toNat) (Ju.mpr (List.nodup_range.imp fun {a b} n z=>n (by
  have z':(a:Int)=(b:Int):=z
  omega))) (fun g hg=>by
  obtain⟨i,hi,rfl⟩:=jM.mp hg
  have il:=js.mp hi
  obtain⟨mem,_,_,nn,iff⟩:=h.mem i _ (jA il)
  obtain⟨q,r,rfl⟩:=zS nn
  obtain⟨⟨q0,q1⟩,eq⟩:=(iff q).mp jE
  have lq:q.toNat<gs.length:=by rw[h.lg];omega
  unfold bw at eq
  rw[getD_at lq]at eq
  rw[List.mem_eraseIdx_iff_getElem]
  by_cases c:q.toNat=b.toNat
  ·exists a.toNat,la,nab
   rw[eg,<- eq]
   congr 1
   exact c.symm
  ·exact⟨q.toNat,lq,c,eq⟩)
 rw[bz,ju,List.length_eraseIdx_of_lt lb,h.lg,e]at t
 have:=hb.1
 have:=hb.2
 omega
def aaQ(K:WC):Sp:=fun vs H Q _=>∃ (m r g:Zg) (many wide:Nat) (rows:LL) (signs:LI),vs=[.ref m]/\aV H m r g wide rows signs/\aD many wide rows/\signs.length=many/\many<1000/\wide<=1000 /\
 ∀ (go:Zg) (gs:LI) (H':Hp),aH H H'->H go=none->H' go=some #[205]->gs.length=many->(∀ x y,ar many x->ar many y->(bw gs x=bw gs y↔fx rows wide signs x y))->Q (.ref go) H'
def Tx(H:Hp):List Zg->LL->Prop:=Zv fun B col=>∃ H0 es,cC H0 H B es #[166]
section
theorem bG:aJ ["machine","distinct","backs","parted","splitter","back","leading","here"] ["machine"] (aj cN):=cU #[4]
theorem iM:bA ["machine","distinct","backs","parted","splitter","back","leading","here"] (aj cN) ["column"] [none] ⟨.function,[#[65],("column",.local)],false,false,[]⟩:=rh #[4]
theorem iO:bA ["machine","distinct","backs","parted","splitter","back","leading","here"] (aj cN) ["column"] [none] ⟨.function,[#[65],("column",.local),("back_of",.globalImplicit)],false,false,[]⟩:=rh #[4]
theorem ab0(F:bE K "unparted_groups" "unparted_groups" cN dV f fd)(pc:FX K C)(pq:cx P w K mg base "columns_of" 1 ["machine"] [] (SW K))(As:cx P w K mg base "back_of" 1 ["column"] [] (MO K))(Ar:FQ P w K mg base "Parted" C 1 ["self","signs"] (Ir C))(tP:mM P w K mg base C "is_done" 1 ["self"] (Il K C))(ic:mM P w K mg base C "next_splitter" 1 ["self"] (MQ C))(tQ:mM P w K mg base C "part_by" 3 ["self","leading"] (Iq C))(fj:mg "list" = none)(lJ:mg "dict" = none):bu P w K mg base eA 4 f fd ["machine"] (aaQ K):=by
 refine F.ok bG #[6] #[1]
 ·exists 86
  rfl
 obtain⟨m,r,g,many,wide,rows,signs,rfl,M,R,ls,n1,w1,k⟩:=h
 have hu:=oP hr
 have hu2:=RB hr
 refine⟨_,(ak (aL (i:=1) bG.nd (aQ (IQ rfl) #[42] fj wO (aa (aQ ((EI rfl hu2)) #[42] lJ BN (aa (di rfl iM (dj (bF pq hr #[122])) (fun _ _ _ _=>(bB (i:=0) iM.nd)) #[153]) ag)) ag)))
   (ak (mC (i:=2) rfl bG.nd rfl #[231] iO (dj (pv 1)) (fun _ _ _ _=>(bB (i:=0) iO.nd)) (fun _ _ _ _=>(bF As hr #[122])))
   (ak (aL (i:=3) bG.nd (Fg Ar hr #[323]))
   (ak (Af PassesOwn.never (PW.pt (SH ((C0 (cB (pv 3) rfl) (fun _=>rfl))) (MI (lh (lA (CQ tP hr (pv 3))))))) (ak (aL (i:=4) bG.nd (CQ ic hr (pv 3)))
   (au (cD PassesOwn.never rfl (dj (pv 2)) (bB (i:=5) bG.nd) (ak (aL (i:=6) bG.nd (dU ag))
   (ak (cD PassesOwn.never rfl (dj (pv 4)) (bB (i:=7) bG.nd) (au (bZ (lN WG PySem.F.slot_list_extend PySem.F.type_list_extend Lb (pv 6) (aa (Sl hu (pv 5) (pv 7) (eI ag) ⟨rfl,rfl,rfl,rfl⟩) ag)))))
   (au (bZ (tF tQ hr (pv 3) (aa (pv 6) ag))))))))))
   (au (aW (cB (pv 3) rfl))))))),?_⟩
 exists 128
 refine cS (t:=Am _ _) (fun σ' H'=>∃ (dl:Zg) (bs:List Zg) (cols:LL),σ'=[some #[310],some (.ref dl),none,none,none,none,none,none]/\aH H H'/\H' dl=some (.lst (bs.map V.ref))/\aI H' bs cols/\cols.length<=wide/\∀ c,c∈cols↔c∈wQ rows wide) ?_ #[47]
 rotate_left
 ·refine⟨_,rfl,m,r,g,many,wide,rows,signs,rfl,M,R,⟨by omega,w1⟩,fun l cs H1 s1 U7 A1=>?_⟩
  exists l,rfl,⟨_,cG U7⟩
  have lc:(wQ rows wide).length=wide:=by unfold wQ;rw[bz,ju]
  refine lY (K:=K) (xs:=cs.map V.ref) (fun D i ys H'=>aH H1 H'/\∃ ts,ys=ts.map V.ref/\II H' ts (((wQ rows wide).take i).map fun c=>(c.map Sum.inl,V.bl true))) #[69] (fun D i ys H' _ ⟨e,_⟩=>cG (e _ _ U7)) ?_ ?_
  ·rintro D i y ys H2 Q' hD hi hy ⟨s2,ts,rfl,pv⟩ k'
   have jl:i<(wQ rows wide).length:=by
    have:=(hX hi).1
    rw[bz,A1.length]at this
    exact this
   obtain⟨ca,e1,e2⟩:=A1.get jl
   have ey:y=.ref ca:=by rw[jP,e1]at hi;exact#[218].symm
   subst ey
   exists 90
   have sT:=ao hT #[164]
   have nD:D≠T:=ah hy hT
   have lts:ts.length=i:=by
    rw[Paired.length pv,bz,jX]
    omega
   have hyT:(upd H2 T #[164]) D=some #[204]:=by rw[af nD];exact hy
   refine k' _ _ hyT (aA #[35]) ⟨av (av s2 (s2.free hT)) hD,ts++[T],by rw[jD];rfl,?_⟩
   have up:∀ b xs,(upd H2 T #[164]) b=some #[29]->(upd (upd H2 T #[164]) D #[138]) b=some #[29]:=fun b xs e=>by
    exists 135
   rw[jU,jA jl,jD]
   refine Paired.snoc (Paired.Fb pv fun t p h=>?_) ⟨ca,up _ _ ae,?_⟩
   ·obtain⟨b,h1,h2⟩:=h
    exact⟨b,up _ _ (sT _ _ h1),up _ _ (sT _ _ h2)⟩
   ·rw[JF]
    exact up _ _ (sT _ _ (s2 _ _ e2))
  ·rintro D ys H2 hD hy ⟨s2,ts,rfl,pv⟩
   rw[bz,A1.length,jY]at pv
   refine⟨D,ts,_,rfl,hy,pv,fun dd hdd=>?_⟩
   have s3:=ao hdd (HO.dT (iY [] ((wQ rows wide).map fun c=>(c.map Sum.inl,V.bl true))))
   refine⟨dd,_,rfl,ae,fun dl bs hdl kt=>?_⟩
   obtain⟨cols,c1,c3,c2⟩:=Dv kt
   rw[lc]at c3
   have s4:=ao hdl (HO.lst (bs.map V.ref))
   exact hZ _ _ ⟨dl,bs,cols,rfl,((s1.trans s2).trans s3).trans s4,ae,c1.same fun b xs e=>s4 _ _ e,c3,c2⟩
 rintro σ' H1 ⟨dl,bs,cols,rfl,s1,aef,A1,lcw,hc⟩
 have CO:=TQ R hc
 refine cS (t:=Am _ _) (fun σ' H'=>∃ (bl:Zg) (Bs:List Zg),σ'=[some #[310],some (.ref dl),some (.ref bl),none,none,none,none,none]/\aH H H'/\H' bl=some (.lst (Bs.map V.ref))/\Tx H' Bs cols) ?_ #[47]
 rotate_left
 ·exists _,rfl,dl,rfl,⟨_,cG aef⟩
  refine lY (K:=K) (xs:=bs.map V.ref) (fun D i ys H'=>aH H1 H'/\∃ Bs,ys=Bs.map V.ref/\Zv (fun B col=>∃ H0 es,(∃ u,H0 D=some u)/\cC H0 H' B es #[166]) Bs (cols.take i)) #[69] (fun D i ys H' _ ⟨e,_⟩=>cG (e _ _ aef)) ?_ ?_
  ·rintro D i y ys H2 Q' hD hi hy ⟨s2,Bs,rfl,pv⟩ k'
   have jl:i<cols.length:=by
    have:=(hX hi).1
    rw[bz,A1.length]at this
    exact this
   obtain⟨ca,e1,e2⟩:=A1.get jl
   have ey:y=.ref ca:=by rw[jP,e1]at hi;exact#[218].symm
   subst ey
   have ci:=Ma R ((hc _).mp (jH jl))
   have lB:Bs.length=i:=by
    rw[Paired.length pv,jX]
    omega
   refine⟨_,rfl,ca,many,cols[i],rfl,s2 _ _ e2,by omega,by omega,ci.2,fun B es H3 s3 fB bo=>?_⟩
   have hy3:=s3 _ _ hy
   refine k' _ _ hy3 (aA #[35]) ⟨av (s2.trans s3) hD,Bs++[B],by rw[jD];rfl,?_⟩
   have keep:∀ (H0:Hp) (B':Zg) (tX:List #[294]) (col:LI),(∃ u,H0 D=some u)->cC H0 H3 B' tX #[166]->cC H0 (upd H3 D (.lst (Bs.map V.ref++[V.ref B]))) B' tX #[166]:=fun H0 B' tX col hu bo'=>bo'.keep (af (aF bo'.at_ hy3 #[0])) fun e he=>af fun z=>by
    obtain⟨u,hu⟩:=hu
    have:=bo'.fresh e he
    rw[z,hu]at this
    cases this
   rw[jU,jA jl]
   exact Paired.snoc (Paired.Fb pv fun B' col h=>let ⟨H0,tX,hu,b⟩:=h;⟨H0,tX,hu,keep H0 B' tX col hu (b.same s3)⟩) ⟨H2,es,⟨_,hy⟩,keep H2 B es cols[i] ⟨_,hy⟩ bo⟩
  ·rintro D ys H2 hD hy ⟨s2,Bs,rfl,pv⟩
   rw[bz,A1.length,jY]at pv
   exact hZ _ _ ⟨D,Bs,rfl,s1.trans s2,hy,Paired.Fb pv fun B col h=>let ⟨H0,es,_,b⟩:=h;⟨H0,es,b⟩⟩
 rintro σ' Hb ⟨bl,Bs,rfl,sb,hbl,BA⟩
 have lBs:Bs.length=cols.length:=Paired.length BA
 refine⟨_,rfl,m,_,_,_,rfl,rfl,bJ (sb _ _ M.tup),rfl,fun x dx hx hdx ne=>?_⟩
 have up:∀ b u,Hb b=some u->#[330] b=some u:=fun b u h=>by rw[af (ah h hx),af (ah h hdx)];exact h
 refine⟨x,dx,g,signs,rfl,ae,up _ _ (sb _ _ M.sgn),by omega,fun H1 go ms wt iw ds0 kk f1 f2 f3 f4 f5 S1=>⟨rfl,?_⟩⟩
 have s1':aH Hb H1:=fun b u h=>kk b u (ah h hx) (up b u h)
 have fr:∀ {b},#[330] b=none->Hb b=none:=fun {b} h=>by
  cases e:Hb b with
  | none=>rfl
  | some u=>rw[up b u e]at h;cases h
 rw[ls]at S1
 obtain⟨RR,eRR⟩:∃ RR:Int->Int->Prop,#[106]=RR:=⟨_,rfl⟩
 have lk:=CO.aeO (signs:=signs) R
 rw[eRR]at lk
 have room:=CO.room R
 have sym:∀ x y,RR x y->RR y x:=fun x y h=>by rw[<- eRR]at h ⊢;exact⟨h.2.1,h.1,h.2.2.symm⟩
 have fg:=fr f1
 have fms:=fr f2
 have fw:=fr f3
 have fi:=fr f4
 have ah4:LV many #[188] #[219] RR (bw #[198]) (fun g=>g∈(jn ds0.length).map fun i:Nat=>(i:Int)):=by
  refine LV.start lk (fun a b ha hb=>?_) (fun a ha=>?_) room
  ·have la:ar signs.length a:=by rw[ls];exact ha
   have lb:ar signs.length b:=by rw[ls];exact hb
   rw[Ae la.1 la.2,Ae lb.1 lb.2]
   exact Sr la lb
  ·have v:=S1.val a ha
   exact jM.mpr ⟨(bw #[198] a).toNat,js.mpr #[2],jd v.1⟩
 exists 128
 refine cS (t:=wo _ _) (fun σ' H'=>∃ (gs ws:LI) (ds:List Zg) (v4 v5 v6 v7:OV),σ'=[some #[310],some (.ref dl),some (.ref bl),some #[94],v4,v5,v6,v7]/\aH Hb H'/\Bq H' C x go ms wt iw many gs ds ws/\∀ a b,ar many a->ar many b->(bw gs a=bw gs b↔fx rows wide signs a b)) ?_ #[47]
 rotate_left
 ·refine B0 (fun mm σ' H'=>∃ (gs ws:LI) (ds:List Zg) (v4 v5 v6 v7:OV),mm=2*many+ws.length-2*ds.length/\σ'=[some #[310],some (.ref dl),some (.ref bl),some #[94],v4,v5,v6,v7]/\aH Hb H'/\Bq H' C x go ms wt iw many gs ds ws/\(∀ d∈ds,Hb d=none)/\LV many #[188] #[219] RR (bw gs) (fun g=>g∈ws))
   ⟨_,eJ signs,_,ds0,none,none,none,none,rfl,rfl,s1',S1,fun d hd=>fr (f5 d hd),ah4⟩ ?_
  rintro mm σ' H2 ⟨gs,ws,ds,v4,v5,v6,v7,emm,rfl,s2,S2,fd2,hop⟩
  obtain⟨dx2,V5⟩:=S2.pt.ob
  have al5:=S2.BC
  rw[<- eRR]at hop
  by_cases en:ws=[]
  ·subst en
   refine⟨_,rfl,x,C,dx2,_,_,rfl,V5,pc.cl,pc.nw,rfl,_,.inl ⟨_,cG S2.wt_,rfl⟩,pD (pD ?_)⟩
   exact hZ _ _ ⟨gs,[],ds,v4,v5,v6,v7,rfl,s2,S2,fun a b ha hb=>Mo CO R hop (hop.acp (fun _ _ z=>by cases z) room) ha hb⟩
  exists _,rfl,x,C,dx2,_,_,rfl,V5,pc.cl,pc.nw,rfl,_,.inl ⟨_,cG S2.wt_,rfl⟩
  have ne':(!#[267].isEmpty)=true:=by
   cases ws with
   | nil=>exact absurd rfl en
   | cons a r=>rfl
  rw[ne']
  refine oj ⟨_,rfl,x,dx2,_,rfl,V5,rfl,x,go,ms,wt,iw,gs,ds,rfl,S2.pt,S2.go_,S2.ms_,_,rfl,Bc #[90] #[90]⟩
  ·refine⟨fun σ' H'=>∃ m',m'<mm/\∃ (gs ws:LI) (ds:List Zg) (v4 v5 v6 v7:OV),m'=2*many+ws.length-2*ds.length/\σ'=[some #[310],some (.ref dl),some (.ref bl),some #[94],v4,v5,v6,v7]/\aH Hb H'/\Bq H' C x go ms wt iw many gs ds ws/\(∀ d∈ds,Hb d=none)/\LV many #[188] #[219] RR (bw gs) (fun g=>g∈ws),fun _ _ h=>h,?_⟩
   rw[eRR]at hop
   obtain⟨FF,s,ews⟩:∃ FF s,ws=FF++[s]:=⟨ws.dropLast,ws.getLast en,(zO en).symm⟩
   subst ews
   have sv:=S2.wv s (jR _ jE)
   have sl':s.toNat<ds.length:=by omega
   obtain⟨da,rb⟩:∃ da,ds[s.toNat]?=some da:=⟨_,jA sl'⟩
   obtain⟨mem,Dk,ndm,nem,hm⟩:=S2.mem s.toNat da rb
   rw[jd sv.1]at hm
   have ag3:mem.length<=many:=cF many ndm fun q hq=>((hm q).mp hq).1
   refine⟨_,rfl,x,dx2,_,rfl,V5,rfl,x,go,ms,wt,iw,da,s,FF,FF++[s],mem,ds,rfl,S2.pt,S2.wt_,S2.iw_,jR _ jE,S2.ms_,sv.1,rb,S2.n3,Dk,(fun z=>S2.ndi (z ▸ rj rb)),by omega,fun sl hsl=>?_⟩
   have S3:=S2.pop (mem:=mem) hsl
   obtain⟨H3,Mg⟩:∃ H3,upd (upd (upd H2 wt (HO.lst (FF.map V.int))) iw (HO.dK (cT ((FF++[s]).filter fun k=>decide (k≠s))))) sl (HO.lst (mem.map V.int))=H3:=⟨_,rfl⟩
   have ne3:∀ c u,Hb c=some u->c≠go/\c≠ms/\c≠wt/\c≠iw:=fun c u e=>⟨fun z=>(by rw[z,fg]at e;cases e),fun z=>(by rw[z,fms]at e;cases e),fun z=>(by rw[z,fw]at e;cases e),fun z=>(by rw[z,fi]at e;cases e)⟩
   have s3:aH Hb H3:=fun c u e=>by
    have n:=ne3 c u e
    rw[<- Mg,af (ah (s2 _ _ e) hsl),af n.2.2.2,af n.2.2.1]
    exact s2 _ _ e
   have ah7:H3 sl=some #[185]:=by rw[<- Mg,ae]
   rw[Mg]at S3 ⊢
   have q1:sl≠go:=fun z=>by rw[z,S2.go_]at hsl;cases hsl
   have q2:sl≠ms:=fun z=>by rw[z,S2.ms_]at hsl;cases hsl
   have q3:sl≠wt:=fun z=>by rw[z,S2.wt_]at hsl;cases hsl
   have hs0:tR many #[188] #[219] RR (bw gs) (fun g=>g∈FF) (fun q=>bw gs q=s) 0:=(hop.pop room s).mono fun g h=>by
    rcases wb.mp h.1 with z|z
    ·exact z
    ·exact absurd (jI.mp z) h.2
   exists _,rfl,bl,rfl,⟨_,cG (s3 _ _ hbl)⟩
   refine fP (K:=K) (xs:=Bs.map V.ref) (fun k σ' H'=>∃ (sE pX:LI) (ds':List Zg) (v5 v6 v7:OV),σ'=[some #[310],some (.ref dl),some (.ref bl),some #[94],some (.ref sl),v5,v6,v7]/\aH Hb H'/\Bq H' C x go ms wt iw many sE ds' pX/\(∀ d∈ds',Hb d=none)/\H' sl=some #[185]/\tR many #[188] #[219] RR (bw sE) (fun g=>g∈pX) (fun q=>bw gs q=s) k/\(pX.length:Int)-2*(ds'.length:Int)<=(FF.length:Int)-2*(ds.length:Int))
    ⟨gs,FF,ds,_,_,_,rfl,s3,S3,fd2,ah7,hs0,Int.le_refl _⟩ (fun i σ' H' _ ⟨_,_,_,_,_,_,_,e,_,_,_,_,_⟩=>cG (e _ _ hbl)) ?_ ?_
   ·rintro k y σ' H4 hk ⟨sE,pX,ds',v5,v6,v7,rfl,s4,S4,fd4,V2,hs4,me4⟩
    have kl:k<cols.length:=by
     have:=(hX hk).1
     rw[bz]at this
     omega
    obtain⟨B,hB,H0,es,bo⟩:=iU BA (jA kl)
    have ey:y=.ref B:=by rw[jP,hB]at hk;exact(Option.some.inj hk).symm
    subst ey
    obtain⟨col,abf⟩:∃ col,cols[k]=col:=⟨_,rfl⟩
    rw[abf]at bo
    have hcm:col∈cols:=abf ▸ jH kl
    have ci:=Ma R ((hc _).mp hcm)
    have hkc:#[188][k]?=some (mw col):=by rw[jP,jA kl,abf];rfl
    have cmm:=rj hkc
    have lm:∀ {x:Int},x∈mem.flatMap (cP col)↔ar many x/\mw col x∈mem:=fun {x}=>Hh ci.1
    obtain⟨dx4,J5⟩:=S4.pt.ob
    refine⟨#[28],fun La Ml=>?_⟩
    have sLa:=ao Ml #[147]
    exists 128
    refine cS (t:=AW _ _ _) (fun σ' H'=>∃ v7:OV,σ'=[some #[310],some (.ref dl),some (.ref bl),some #[94],some (.ref sl),some (.ref B),some (.ref La),v7]/\aH H4 H'/\H' La=some (.lst ((mem.flatMap (cP col)).map V.int))) ?_ (fun D'' aiV=>?_)
    rotate_left
    ·exists _,rfl,sl,rfl,⟨_,cG (sLa _ _ V2)⟩
     refine fP (K:=K) (xs:=mem.map V.int) (fun i σ' H'=>∃ v7:OV,σ'=[some #[310],some (.ref dl),some (.ref bl),some #[94],some (.ref sl),some (.ref B),some (.ref La),v7]/\aH H4 H'/\H' La=some (.lst (((mem.take i).flatMap (cP col)).map V.int))) ⟨_,rfl,sLa,ae⟩ (fun i σ' H' _ ⟨_,_,e,_⟩=>cG (e _ _ V2)) ?_ ?_
     ·rintro i y σ' H5 hi ⟨v7,rfl,s5,IB⟩
      obtain⟨q,rfl,hq⟩:=bU hi
      have b5:=bo.same (s4.trans s5)
      refine⟨_,rfl,.inl ⟨rfl,_,cG IB⟩,_,rfl,B,rfl,.inl ⟨_,.inl b5.at_⟩,_,rfl,#[28],fun t0 ht0=>?_⟩
      have st0:=ao ht0 (HO.tup [])
      have b6:=b5.same st0
      exists _,fZ.k (k:=Sum.inl q) b6.at_
      have hL6:=st0 _ _ IB
      have et:(mem.take (i+1)).flatMap (cP col)=(mem.take i).flatMap (cP col)++cP col q:=by
       rw[jU,hq,ZK]
       show _++[q].flatMap (cP col)=_
       rw[zX,ZX,jr]
      have len:(((mem.take i).flatMap (cP col)).map V.int).length+((cP col q).map V.int).length<=sizeLine:=by
       have nd:=EO col (ms:=mem.take (i+1)) ((zT _ _).nodup ndm)
       have fw' := cF many nd fun z hz=>((Hh ci.1).mp hz).1
       rw[et,jG]at fw'
       rw[bz,bz]
       exact small #[2]
      cases hv:dZ (AI es) (Sum.inl q)with
      | none =>
       have Mp:q∉es.map Prod.fst:=fun z=>by
        obtain⟨e,he,ee⟩:=jM.mp z
        obtain⟨jj,hjj⟩:=JD.mp he
        have:=CF b6.nd (q:=e.1) (a:=e.2) hjj
        rw[ee,hv]at this
        cases this
       have e0:=b6.non _ Mp
       rw[<- e0]at et
       rw[<- e0]at len
       refine .inr ⟨La,t0,_,[],rfl,rfl,hL6,ae,len,?_⟩
       exact⟨_,rfl,av (s5.trans st0) Ml,by rw[ae,et,jD];rfl⟩
      | some v =>
       obtain⟨la,ls',rfl,hm',Rr,hp⟩:=b6.get hv
       rw[<- hp]at et
       rw[<- hp]at len
       refine .inl ⟨La,la,_,_,rfl,rfl,hL6,Rr,len,?_⟩
       exact⟨_,rfl,av (s5.trans st0) Ml,by rw[ae,et,jD]⟩
     ·rintro σ' H5 ⟨v7,rfl,s5,IB⟩
      rw[bz,jY]at IB
      exact aiV _ _ ⟨v7,rfl,s5,IB⟩
    rintro σ' H5 ⟨v7,rfl,s5,IB⟩
    have S5:=S4.same s5
    have aiB:∀ q,ar many q->(q∈mem↔bw gs q=s):=fun q hq=>⟨fun z=>((hm q).mp z).2,fun z=>(hm q).mpr ⟨hq,z⟩⟩
    have inL:∀ a,ar many a->(a∈mem.flatMap (cP col)↔bw gs (mw col a)=s):=fun a ha=>by
     rw[lm,aiB _ (room a ha _ cmm)]
     exact⟨fun z=>z.2,fun z=>⟨ha,z⟩⟩
    refine⟨_,rfl,x,dx4,_,rfl,s5 _ _ J5,rfl,_,rfl,x,go,ms,wt,iw,La,many,sE,pX,mem.flatMap (cP col),ds',fun gs1 n1 ws1=>tR many #[188] #[219] RR (bw gs1) (fun g=>g∈ws1) (fun q=>bw gs q=s) k/\(ws1.length:Int)-2*(n1:Int)<=(FF.length:Int)-2*(ds.length:Int),rfl,S5,n1,IB,⟨fun z=>(by rw[z,S4.go_]at Ml;cases Ml),fun z=>(by rw[z,S4.ms_]at Ml;cases Ml),fun z=>(by rw[z,S4.wt_]at Ml;cases Ml)⟩,EO col ndm,fun q hq=>(lm.mp hq).1,⟨hs4,me4⟩,?_,?_⟩
    ·rintro gs1 n1 ws1 gs2 ws2 ⟨h1,h2⟩ val ⟨b,nw,rfl,e1,e2,e3,e4⟩
     refine⟨h1.split sym room (L:=fun a=>a∈mem.flatMap (cP col)) (b:=b) (n:=(n1:Int)) (fun a c ha FI r hl=>?_) (fun a ha z=>?_) (fun g hg=>jg _ hg) (fun hb=>?_) ?_ e3 e4,?_⟩
     ·rw[inL a ha]at hl
      rw[inL c FI]
      exact h1.whole _ _ (room a ha _ cmm) (room c FI _ cmm) (lk.led a c r _ cmm) hl
     ·have:=val a ha
      omega
     ·rw[<- e2 hb]
      exact jR _ jE
     ·rcases e1 with e1|e1
      ·exact .inl (by rw[<- e1];exact jR _ jE)
      ·exact .inr (by rw[<- e1];exact jR _ jE)
     ·rw[jG,jS]
      omega
    ·intro H6 gs6 ws6 more S6 j6 nc fm kp
     have s6:aH Hb H6:=fun c u e=>by
      have n:=ne3 c u e
      exact kp c u n.1 n.2.1 n.2.2.1 n.2.2.2 (fun z=>by rw[fd4 c z]at e;cases e) (s5 _ _ (s4 _ _ e))
     have abD:=s5 _ _ V2
     refine⟨gs6,ws6,ds'++more,_,_,_,rfl,s6,S6,fun d hd=>?_,kp sl _ q1 q2 q3 (aF abD S5.iw_ #[0]) (fun z=>?_) abD,j6.1.next hkc fun a c ha FI e h=>?_,j6.2⟩
     ·rcases wb.mp hd with z|z
      ·exact fd4 d z
      ·have:=fm d z
       cases e:Hb d with
       | none=>rfl
       | some u=>rw[s5 _ _ (s4 _ _ e)]at this;cases this
     ·obtain⟨mm',hmm⟩:=S5.at_ z
      rw[abD]at hmm
      cases hmm
     ·exact(inL c FI).mp (nc a c ha FI e ((inL a ha).mpr h))
   ·rintro σ' H4 ⟨sE,pX,ds',v5,v6,v7,rfl,s4,S4,fd4,V2,hs4,me4⟩
    have ag2:=S4.BC
    rw[bz,lBs]at hs4
    have lcm:cols.length=#[188].length:=(jQ _).symm
    rw[lcm]at hs4
    refine⟨_,?_,sE,pX,ds',_,_,_,_,rfl,rfl,s4,S4,fd4,hs4.done⟩
    rw[emm,jG,jS]
    omega
  ·refine hZ _ _ ⟨gs,ws,ds,v4,v5,v6,v7,rfl,s2,S2,fun a b ha hb=>Mo CO R hop (LV.single (S2.alone (by rw[c,S2.lg]))) ha hb⟩
 rintro σ' H2 ⟨gs,ws,ds,v4,v5,v6,v7,rfl,s2,S2,fin⟩
 obtain⟨dx2,V5⟩:=S2.pt.ob
 exact⟨_,rfl,x,C,dx2,_,_,rfl,V5,pc.cl,pc.ng,rfl,k go gs H2 (sb.trans s2) (sb.free fg) S2.go_ S2.lg fin⟩
end
def MZ(K:WC):Sp:=fun vs H Q E=>BX K adw vs H Q E\/BX K adx vs H Q E
theorem CG(xs:LI)(g:Int):AJ (xs++[g]) 0=AJ xs 0++[(Sum.inl g,V.int (xs.length:Int))]:=by
 unfold AJ
 rw[zR,jD,JU]
 rfl
theorem D9(nd:qs.Nodup):∀ i,dS [] (AJ #[290] 0)=AJ #[290] 0
 | 0=>by rw[zP];rfl
 | i+1=>by
  have ih:=D9 nd i
  cases e:qs[i]? with
  | none =>
   rw[jU,e]
   show dS [] (AJ (qs.take i++[]) 0)=AJ (qs.take i++[]) 0
   rw[jr]
   exact ih
  | some g =>
   have et:qs.take (i+1)=qs.take i++[g]:=by rw[jU,e];rfl
   have il:=hX e
   have hg:g∉qs.take i:=fun z=>by
    obtain⟨j,hj,ej⟩:=jZ z
    rw[jX]at hj
    rw[zF]at ej
    have:=(JJ nd).mp (ej.trans il.2.symm)
    omega
   rw[et]
   show dS [] (AJ (qs.take i++[g]) 0)=_
   have m:dS [] (AJ #[290] 0++[(Sum.inl g,V.int (#[290].length:Int))])=putK (dS [] (AJ #[290] 0)) (Sum.inl g) (V.int (#[290].length:Int)):=by
    unfold dS
    rw[JG]
    rfl
   rw[CG,m,ih,EX hg,CG]
theorem Ba(φ:Int->Int)(n:Nat):bS φ (n+1)=bS φ n++(if φ (n:Int)=(ba φ n:Int)then [n]else []):=by
 unfold bS
 rw[JP,Ja]
 congr 1
 by_cases c:φ (n:Int)=(ba φ n:Int)
 ·rw[if_pos c,JK #[320]];rfl
 ·rw[if_neg c,JH #[227]];rfl
theorem Ov{q:Nat}(h:q∈bS φ n):q<n:=js.mp (jy.mp h).1
theorem Ai(R:aD many wide rows){t:Int}(h0:0<=q)(h1:q<(many:Int))(ht:t∈rows.getD q.toNat []):∃ f:Nat,f<wide/\t=stepI rows q f:=by
 have l:q.toNat<rows.length:=by rw[R.len];omega
 rw[getD_at l]at ht
 obtain⟨f,hf,e⟩:=jZ ht
 have lr:=R.row _ (jH l)
 refine⟨f,by omega,?_⟩
 unfold stepI
 rw[getD_at l,jC,getD_at hf,e]
def Fs(K:WC):Sp:=fun vs H Q _=>∃ (m r g:Zg) (many wide:Nat) (rows:LL) (signs:LI),vs=[.ref m]/\aV H m r g wide rows signs/\aD many wide rows/\signs.length=many/\(1<=many/\many<1000)/\wide<=1000 /\
 ∀ (m' r' g':Zg) (aw:LL) (aN:LI) (H':Hp),aH H H'->aV H' m' r' g' wide aw aN->cH wide rows aw signs aN->Q (.ref m') H'
section
theorem Se(F:bE K "with_rooms" "with_rooms" dz dV f fd)(aR:mg "tuple" = none):bu P w K mg base eA 1 f fd ["machine","kept","numbers"] (MZ K):=bu.or (O8 F aR) (O9 F aR)
theorem iV:aJ ["machine","reached","small","numbers","firsts","groups","here","group"] ["machine"] (aj Aj):=cU #[4]
theorem tW:bA ["machine","reached","small","numbers","firsts","groups","here","group"] (aj Aj) ["number","here"] [none,none] ⟨.function,[#[65],("number",.local),("here",.local)],false,false,[]⟩:=rh #[4]
theorem Ci:bA ["machine","reached","small","numbers","firsts","groups","here","group"] (aj Aj) ["group","numbers"] [none,some 3] ⟨.function,[#[65],("group",.local),("numbers",.free)],false,false,[]⟩:=rh #[4]
theorem RY(F:bE K "least" "least" Aj dV f fd)(fK:cx P w K mg base "reached_rooms" 1 ["machine","start"] [.int 0] (En K))(lP:cx P w K mg base "with_rooms" 1 ["machine","kept","numbers"] [] (MZ K))(fM:cx P w K mg base "unparted_groups" 4 ["machine"] [] (aaQ K))(cE:mg "enumerate" = none)(lJ:mg "dict" = none)(bj:mg "len" = none):bu P w K mg base eA 5 f fd ["machine"] (Fs K):=by
 refine F.ok iV #[6] #[1]
 ·exists 86
  rfl
 obtain⟨m,r,g,many,wide,rows,signs,rfl,M,R,ls,⟨n0,n1⟩,w1,k⟩:=h
 have hu:=oP hr
 refine rH (aO (hJ.mk (aL (i:=1) iV.nd (bF fK hr #[122])))
   (aO (hJ.mk (aL (i:=2) iV.nd (bF lP hr (aa (pv 0) (aa (pv 1) (aa (aQ (rJ rfl) #[42] lJ BN (aa (di rfl tW (CU rfl cE #[121]) (fun _ _ _ _=>(Z2 K (n:=2) rfl (eL (bB (i:=0) tW.nd) (eL (bB (i:=1) tW.nd) Ad)))) (fun _ _ _ _=>(eI (aa (pv 1) #[122])))) ag)) ag))))))
   (aO (hJ.mk (aL (i:=3) iV.nd rU))
   (aO (hJ.mk (aL (i:=4) iV.nd (dU ag)))
   (aO (hJ.mk (aL (i:=5) iV.nd (bF fM hr #[66])))
   (aO (hJ.mk (cD PassesOwn.never rfl (CU rfl cE (aa (pv 5) ag)) (CS rfl (eL (bB (i:=6) iV.nd) (eL (bB (i:=7) iV.nd) Ad))) (au (cV (CY (AL hu (pv 7) (pv 3)) #[125]) (ak (sH hu (pv 3) (pv 7) (aG so #[42] bj bH #[91]) rfl)
   (au (bZ (lN WG WH WI cc (pv 4) (aa (pv 6) ag))))) bM))))
   (lI (hJ.mk (aW (bF lP hr (aa (pv 2) (aa (pv 4) (aa (di rfl Ci (dj (pv 5)) (fun _ _ _ _=>(bB (i:=0) Ci.nd)) (fun _ _ _ _=>(MC hu (pv 1) (pv 0) #[3]))) ag))))))))))))) ?_
 refine⟨_,rfl,m,r,g,many,wide,rows,signs,rfl,M,R,⟨n0,by omega⟩,fun l H1 qs s1 U7 bf=>?_⟩
 have BC:=cF many bf.nd bf.inr
 have reF:∀ q∈qs,∃ row,rE wide row/\aP rows row 0=q:=fun q hq=>(bf.re q).mp hq
 obtain⟨R1,O1,p1,t1⟩:=Ij (signs:=signs) R #[2] bf.eq bf.nd (fun q hq=>bf.inr q hq) reF
 exists 128
 refine cS (t:=Am _ _) (fun σ' H'=>∃ m1 r1 g1:Zg,σ'=[some #[310],some (.ref l),some #[326],none,none,none,none,none]/\aH H H'/\aV H' m1 r1 g1 wide #[321] #[319]) ?_ #[47]
 rotate_left
 ·exists _,rfl,_,rfl,_,rfl,l,rfl,⟨_,cG U7⟩
  refine IX (K:=K) (xs:=qs.map V.int) (fun D i ys H'=>aH H1 H'/\∃ ts,ys=ts.map V.ref/\ie H' ts (AJ #[290] 0)) (fun T σ H Q i x h q=>⟨T,[.int i,x],rfl,bJ h,rfl,.int i,[x],rfl,x,[],rfl,rfl,q⟩) #[69] (fun D i ys H' _ ⟨e,_⟩=>cG (e _ _ U7)) ?_ ?_
  ·rintro D i y ys H2 T0 Q' hD hi hy ⟨s2,ts,rfl,pv⟩ hT0 k'
   obtain⟨q,rfl,hq⟩:=bU hi
   have il:=(hX hq).1
   have sT0:=ao hT0 (HO.tup [V.int i,V.int q])
   refine⟨_,rfl,_,rfl,#[64],fun T hT=>?_⟩
   have sT:=ao hT (HO.tup [V.int q,V.int i])
   obtain⟨H3,Mg⟩:∃ H3,upd (upd H2 T0 (HO.tup [V.int i,V.int q])) T (HO.tup [V.int q,V.int i])=H3:=⟨_,rfl⟩
   have hT3:H3 T=some (.tup [V.int q,V.int i]):=by rw[<- Mg,ae]
   rw[Mg]at sT ⊢
   have s3:=sT0.trans sT
   have hy3:=s3 _ _ hy
   have lts:ts.length=i:=by
    rw[Paired.length pv,pH,jX]
    omega
   refine k' _ _ hy3 (aA #[35]) ⟨av (s2.trans s3) hD,ts++[T],by rw[jD];rfl,?_⟩
   have up:∀ b xs,H3 b=some #[29]->(upd H3 D #[138]) b=some #[29]:=fun b xs e=>by
    rw[af (aF e hy3 #[0])];exact e
   have et:qs.take (i+1)=qs.take i++[q]:=by rw[jU,hq];rfl
   have ll:#[290].length=i:=by rw[jX];omega
   rw[et,CG,ll]
   exact Paired.snoc (ie.same pv fun b xs e=>up b xs (s3 _ _ e)) (up _ _ hT3)
  ·rintro L ys H2 fL hL ⟨s2,ts,rfl,pv⟩
   rw[bz,jY]at pv
   refine⟨L,ts,_,rfl,hL,pv,fun D hD=>?_⟩
   have mk:=D9 bf.nd qs.length
   rw[jY]at mk
   rw[mk]
   have s3:=s2.trans (ao hD (HO.dK (AJ qs 0)))
   refine .inl ⟨m,l,D,r,g,many,wide,rows,signs,qs,oy qs,rfl,M.same fun b xs e=>s3 _ _ (s1 _ _ e),R,ls,⟨by omega,w1⟩,s3 _ _ U7,by omega,bf.inr,⟨_,ae,fun q hq t ht=>?_⟩,fun m1 r1 g1 H3 s4 M3=>?_⟩
   ·have qi:=bf.inr q hq
    obtain⟨f,hf,e⟩:=Ai R qi.1 qi.2 ht
    have tq:t∈qs:=(bf.re t).mpr (by rw[e];exact((bf.re q).mp hq).step #[2] #[2])
    rw[sG,if_pos tq,JU]
    rfl
   ·exact hZ _ _ ⟨m1,r1,g1,rfl,(s1.trans s3).trans s4,M3⟩
 rintro σ' H2 ⟨m1,r1,g1,rfl,s2,M2⟩
 refine fun Nn hNn=>⟨#[28],fun Fa hFa=>?_⟩
 obtain⟨H3,Mg⟩:∃ H3,upd (upd H2 Nn (HO.dK [])) Fa #[147]=H3:=⟨_,rfl⟩
 have s3:aH H2 H3:=by rw[<- Mg];exact(ao hNn _).trans (ao hFa _)
 have nNF:Nn≠Fa:=ah ae hFa
 have Mm:H3 Nn=some (.dK []):=by rw[<- Mg,af nNF,ae]
 have hF3:H3 Fa=some (.lst []):=by rw[<- Mg,ae]
 have fN:H Nn=none:=s2.free hNn
 have fF:H Fa=none:=s2.free ((ao hNn (HO.dK [])).free hFa)
 rw[Mg]
 have lsg:#[319].length=qs.length:=by unfold cb;rw[bz]
 have R1':aD qs.length wide #[321]:=R1
 refine⟨_,rfl,m1,r1,g1,qs.length,wide,_,_,rfl,M2.same fun b xs e=>s3 _ _ e,R1',lsg,by omega,w1,fun go gs H4 s4 T3 Hl lg hg=>?_⟩
 have sH4:aH H2 H4:=s3.trans s4
 have M4:=M2.same fun b xs e=>sH4 _ _ e
 exists 128
 refine cS (t:=AW _ _ _) (fun σ' H'=>∃ v6 v7:OV,σ'=[some #[310],some (.ref l),some #[326],some (.ref Nn),some (.ref Fa),some (.ref go),v6,v7]/\#[302]/\H' Nn=some (.dK (AJ (aK gs) 0))/\H' Fa=some (.lst ((#[100].map fun i:Nat=>(i:Int)).map V.int))) ?_ #[47]
 rotate_left
 ·have ngN:go≠Nn:=aF Hl (s4 _ _ Mm) #[0]
  have ngF:go≠Fa:=fun z=>by rw[z,hF3]at T3;cases T3
  refine⟨_,rfl,go,rfl,⟨_,cG Hl⟩,DW (K:=K) (xs:=gs.map V.int) (fun i σ' H'=>∃ v6 v7:OV,σ'=[some #[310],some (.ref l),some #[326],some (.ref Nn),some (.ref Fa),some (.ref go),v6,v7]/\#[302]/\H' Nn=some (.dK (AJ (aK (gs.take i)) 0))/\H' Fa=some (.lst (((bS (ox gs) i).map fun i:Nat=>(i:Int)).map V.int)))
   ⟨none,none,rfl,fun _ _ _ _ e=>e,s4 _ _ Mm,s4 _ _ hF3⟩ (fun i σ' H' _ ⟨_,_,_,e,_,_⟩=>cG (e _ _ ngN ngF Hl)) ?_ ?_⟩
  ·rintro i y σ' H5 T hi ⟨v6,v7,rfl,IC,hN5,Rc⟩ hT
   obtain⟨gg,rfl,U3⟩:=bU hi
   have il:=(hX U3).1
   have sT:=ao hT (HO.tup [V.int i,V.int gg])
   obtain⟨H6,TV⟩:∃ H6,upd H5 T (HO.tup [V.int i,V.int gg])=H6:=⟨_,rfl⟩
   have hT6:H6 T=some (.tup [V.int i,V.int gg]):=by rw[<- TV];exact ae
   rw[TV]at sT ⊢
   have hN6:=sT _ _ hN5
   have hF6:=sT _ _ Rc
   have ol:=oU (gs.take i)
   rw[jX]at ol
   have cp:=EK gs (m:=i) #[2]
   have fl:=my (ox gs) i
   exists T,_,rfl,bJ hT6,rfl,_,_,rfl,_,_,rfl,rfl
   exists _,rfl,_,rfl,Nn,_,rfl,fZ.k (k:=Sum.inl gg) hN6,_,rfl
   rw[sG]
   by_cases c:gg∈aK (gs.take i)
   ·rw[if_pos c]
    refine pD ⟨_,_,rfl,fun c' u c1 c2 e=>sT _ _ (IC c' u c1 c2 e),by rw[hN6,lZ U3,oM c],?_⟩
    have ph:=BU U3 c
    have lt:=ji c
    rw[hF6,Ba,if_neg (by rw[ph,cp];omega),jr]
   ·rw[if_neg c]
    refine oj ⟨_,rfl,Nn,_,rfl,hN6,_,rfl,_,rfl,Nn,_,rfl,Bo.k (k:=Sum.inl gg) hN6 (aA (by rw[pH];omega)),?_⟩
    rw[pH,EX c]
    have nFN:Fa≠Nn:=Ne.symm nNF
    have ph:=BS U3 c
    refine⟨_,rfl,.inl ⟨rfl,_,cG (by rw[af nFN];exact hF6)⟩,_,rfl,Fa,_,_,rfl,rfl,(by rw[af nFN];exact hF6),aA (by rw[bz,bz,fl,cp];omega),?_⟩
    refine⟨_,_,rfl,fun c' u c1 c2 e=>by rw[af c2,af c1];exact sT _ _ (IC c' u c1 c2 e),by rw[af nNF,ae,lZ U3,ik c],?_⟩
    rw[ae,Ba,if_pos (by rw[ph,cp]),jD,jD]
    rfl
  ·rintro σ' H5 ⟨v6,v7,rfl,IC,hN5,Rc⟩
   rw[bz,jY]at hN5
   rw[bz]at Rc
   exact hZ _ _ ⟨v6,v7,rfl,IC,hN5,Rc⟩
 rintro σ' H5 ⟨v6,v7,rfl,IC,hN5,Rc⟩
 have s5:aH H H5:=fun c u e=>IC c u (fun z=>by rw[z,fN]at e;cases e) (fun z=>by rw[z,fF]at e;cases e) (sH4 _ _ (s2 _ _ e))
 have M5:aV H5 m1 r1 g1 wide #[321] #[319]:=M4.same fun b xs e=>IC b _ (aF e (s4 _ _ Mm) #[0]) (aF e (s4 _ _ hF3) #[0]) e
 have OI:H5 go=some #[205]:=IC _ _ (aF Hl (s4 _ _ Mm) #[0]) (fun z=>by rw[z,hF3]at T3;cases T3) Hl
 have plg:(eJ gs).length=gs.length:=by unfold eJ;rw[bz,ju]
 exists _,rfl,_,rfl,_,rfl,go,rfl,⟨_,cG OI⟩
 refine lY (K:=K) (xs:=gs.map V.int) (fun D i ys H'=>aH H5 H'/\ys=((eJ gs).take i).map V.int) #[281] (fun D i ys H' _ ⟨e,_⟩=>cG (e _ _ OI)) ?_ ?_
 ·rintro D i y ys H6 Q' hD hi hy ⟨s6,rfl⟩ k'
  obtain⟨gg,rfl,U3⟩:=bU hi
  have il:=(hX U3).1
  have om:gg∈aK gs:=dC.mpr (rj U3)
  have ph:ox gs (i:Int)=(((aK gs).idxOf gg:Nat):Int):=by
   unfold ox
   rw[jC,jN,U3]
   rfl
  have dg:fZ H6 Nn (.int gg) (some (.int (ox gs (i:Int)))):=by
   have d:=fZ.k (k:=Sum.inl gg) (s6 _ _ hN5)
   rw[sG,if_pos om,JU,<- ph]at d
   exact d
  have hp:(eJ gs)[i]?=some (ox gs (i:Int)):=by
   unfold eJ
   rw[jP,ZJ il]
   rfl
  refine⟨_,rfl,_,rfl,Nn,_,rfl,dg,k' _ _ hy (aA (by rw[bz,jX];omega)) ⟨av s6 hD,?_⟩⟩
  rw[jU,hp,jD]
  rfl
 ·rintro L ys H6 fL hL ⟨s6,rfl⟩
  rw[bz,<- plg,jY]at hL
  have fi:∀ q∈#[100].map (fun i:Nat=>(i:Int)),0<=q/\q<(qs.length:Int):=fun q hq=>by
   obtain⟨i,hi,rfl⟩:=jM.mp hq
   have:=Ov hi
   omega
  have ag5:(#[100].map fun i:Nat=>(i:Int)).length<=1000:=by
   rw[bz]
   have:=Jy (fun q:Nat=>decide (ox gs (q:Int)=(ba (ox gs) q:Int))) (jn gs.length)
   rw[ju]at this
   unfold bS
   omega
  refine .inr ⟨m1,Fa,L,r1,g1,qs.length,wide,_,_,_,ox gs,rfl,M5.same fun b xs e=>s6 _ _ e,R1',lsg,⟨by omega,w1⟩,s6 _ _ Rc,ag5,fi,⟨eJ gs,hL,fun q hq t ht=>?_⟩,fun m' r' g' H7 s7 M7=>?_⟩
  ·have qi:=fi q hq
   obtain⟨f,hf,e⟩:=Ai R1' qi.1 qi.2 ht
   have tv:=dF R1' qi.1 qi.2 (f:=(f:Int)) #[2] #[2]
   rw[<- e]at tv
   have tv1:t<(gs.length:Int):=by rw[lg];exact tv.2
   refine⟨⟨tv.1,by rw[plg];exact tv1⟩,?_⟩
   have:=Ae (gs:=gs) tv.1 tv1
   unfold bw at this
   exact this.symm
  ·refine k m' r' g' _ _ H7 ((s5.trans s6).trans s7) M7 ?_
   have L:=Hz (signs:=signs) (gs:=gs) R #[2] bf.eq bf.nd (fun q hq=>bf.inr q hq) reF lg (fun x y hx hy=>by
    have h:=hg (x:Int) (y:Int) ⟨by omega,by omega⟩ ⟨by omega,by omega⟩
    unfold bw at h
    rw[jC,jC]at h
    exact h)
   have el:#[9].length=gs.length:=by rw[bz,lg]
   rw[Ag,el,<- lg]at L
   have e1:bX #[321] (ox gs) (#[100].map fun i:Nat=>(i:Int))=#[100].map fun i=>(#[9].getD i []).map (ox gs):=by
    unfold bX
    rw[JF]
    rfl
   have e2:cb #[319] (#[100].map fun i:Nat=>(i:Int))=#[100].map fun q=>#[116].getD q 0:=by
    unfold cb
    rw[JF]
    rfl
   rw[e1,e2]
   exact L
end
theorem CP{q k:Nat}(h:bD q m (r :: rs)=some k):q<m/\∃ m1,aX m r=some m1/\bD (q+1) m1 rs=some k:=by
 unfold bD at h
 by_cases c:q<m
 ·rw[if_pos c]at h
  cases e:aX m r with
  | none=>rw[e]at h;cases h
  | some m1=>rw[e]at h;exact⟨c,m1,rfl,h⟩
 ·rw[if_neg c]at h
  cases h
theorem oZ{f:Int}:aP rows (v++[f]) 0=stepI rows (aP rows v 0) f:=by
 rw[lX]
 rfl
theorem we{P:Int->Prop}:∀ {r:LI} {m m1:Nat},aX m r=some m1->(∀ i:Nat,i<m->P (i:Int))->(∀ t∈r,P t)->∀ i:Nat,i<m1->P (i:Int)
 | [],m,m1,h,hm,_=>by
  have e:m=m1:=Option.some.inj h
  subst e
  exact hm
 | t :: r,m,m1,h,hm,ht=>by
  exists 35
  have PN:∀ t∈r,P t:=fun x hx=>ht x (jK _ hx)
  by_cases c:t=(m:Int)
  ·rw[if_pos c]at h'
   refine we h' (fun i hi=>?_) PN
   by_cases d:i=m
   ·rw[d,<- c];exact ht t jE
   ·exact hm i #[2]
  ·rw[if_neg c]at h'
   by_cases d:t<(m:Int)
   ·rw[if_pos d]at h'
    exact we h' hm PN
   ·rw[if_neg d]at h'
    cases h'
theorem Bj{P:Int->Prop}:∀ {rs:LL} {q m k:Nat},bD q m rs=some k->(∀ i:Nat,i<m->P (i:Int))->(∀ (j:Nat) (r:LI),rs[j]?=some r->P ((q+j:Nat):Int)->∀ t∈r,P t)->∀ i:Nat,i<k->P (i:Int)
 | [],q,m,k,h,hm,_=>by
  have e:m=k:=Option.some.inj h
  subst e
  exact hm
 | r :: rs,q,m,k,h,hm,hr=>by
  obtain⟨c,m1,o1,o2⟩:=CP h
  refine Bj o2 (we o1 hm (hr 0 r rfl (hm q c))) fun j r' hj hp=>hr (j+1) r' hj ?_
  rw[show q+(j+1)=q+1+j by omega]
  exact hp
theorem lQ.ML(R:aD rows.length wide rows)(O:lQ rows):∀ i:Nat,i<rows.length->∃ v,rE wide v/\aP rows v 0=(i:Int):=by
 refine Bj (P:=fun q=>∃ v,rE wide v/\aP rows v 0=q) O (fun i hi=>⟨[],#[243],by rw[show i=0 by omega];rfl⟩) ?_
 rintro j r hj ⟨v,hv,e⟩ t ht
 rw[JU]at e
 obtain⟨f,hf,ef⟩:=jZ ht
 have lr:r.length=wide:=R.row r (rj hj)
 refine⟨v++[(f:Int)],fun g hg=>?_,?_⟩
 ·rcases wb.mp hg with z|z
  ·exact hv g z
  ·rw[jI.mp z];omega
 ·rw[oZ,e]
  have er:rows.getD j []=r:=by rw[jN,hj];rfl
  unfold stepI
  rw[jC,jC,er,getD_at hf,ef]
theorem cH.signs{C:Int->Prop}{signs:LI}(h:cH wide rows aw signs aN)(R:aD many wide rows)(m0:1<=many)(ls:signs.length=many)(hs:∀ z∈signs,C z):∀ z∈aN,C z:=fun z hz=>by
 obtain⟨i,hi,e⟩:=jZ hz
 obtain⟨v,hv,ew⟩:=h.ord.ML h.ok i (by rw[<- h.sgn];exact hi)
 have t:=h.tells v hv
 rw[ew]at t
 have w0:=fX R hv (h:=0) #[2] #[2]
 unfold My.sgn at t
 rw[jC,getD_at hi,e,getD_at #[2]]at t
 rw[<- t]
 exact hs _ (jH _)
theorem Tells.on{signs:LI}{a:Int}(h:Tells wide rows aw signs aN a b)(hv:rE wide v):Tells wide rows aw signs aN (aP rows v a) (aP aw v b):=fun u hu=>by
 have:=h (v++u) fun f hf=>by
  rcases wb.mp hf with z|z
  ·exact hv f z
  ·exact hu f z
 rw[lX,lX]at this
 exact this
theorem cH.BC{signs:LI}(h:cH wide rows aw signs aN)(R:aD many wide rows)(m0:1<=many):aw.length<=many:=by
 have ex:∀ i:Nat,∃ p:Int,i<aw.length->(0<=p/\p<(many:Int))/\Tells wide rows aw signs aN p (i:Int):=fun i=>by
  by_cases c:i<aw.length
  ·obtain⟨v,hv,ew⟩:=h.ord.ML h.ok i c
   refine⟨aP rows v 0,fun _=>⟨fX R hv #[2] #[2],?_⟩⟩
   have:=Tells.on h.tells hv
   rw[ew]at this
   exact this
  ·exact⟨0,fun z=>absurd z c⟩
 obtain⟨F,hF⟩:=Classical.axiomOfChoice ex
 have nd:((jn aw.length).map F).Nodup:=Ju.mpr (List.nodup_range.imp_of_mem fun {a b} ha hb ne z=>ne (by
  have ia:=js.mp ha
  have ib:=js.mp hb
  have ta:=(hF a ia).2
  have tb:=(hF b ib).2
  rw[z]at ta
  have:=h.apart (a:Int) (b:Int) ⟨by omega,by omega⟩ ⟨by omega,by omega⟩ (Tells.right ta tb)
  omega))
 have:=cF many nd fun q hq=>by
  obtain⟨i,hi,rfl⟩:=jM.mp hq
  exact(hF i (js.mp hi)).1
 rw[bz,ju]at this
 exact this
theorem D0:∀ r:LI,Zv (PB K H 0) #[263] #[263]
 | []=>.nil
 | i :: r=>.cons ⟨i,rfl,rfl⟩ (D0 r)
theorem Ic:∀ {rows:LL} {as bs:List Zg},aI H as rows->aI H bs rows->Zv (PB K H 1) #[120] (bs.map V.ref)
 | [],as,bs,h,h'=>by
  cases h
  cases h'
  exact .nil
 | r :: rows,as,bs,h,h'=>by
  cases h with
  | cons h t =>
   cases h' with
   | cons h' t'=>exact .cons (.inr ⟨_,_,_,_,rfl,rfl,bJ h,bJ h',D0 r⟩) (Ic t t')
theorem DZ:∀ r:LI,Zv (PB K H 1) #[263] #[263]
 | []=>.nil
 | i :: r=>.cons (.inl ⟨i,rfl,rfl⟩) (DZ r)
theorem aV.eqD{m r g m' r' g':Zg}{signs:LI}(M:aV H m r g wide rows signs)(M':aV H m' r' g' wide rows signs):Zv (PB K H 2) [.int wide,.ref r,.ref g] [.int wide,.ref r',.ref g']:=by
 obtain⟨cM,h1,h2⟩:=M.rows
 obtain⟨wj,Cv,Dj⟩:=M'.rows
 exact .cons (.inl ⟨_,rfl,rfl⟩) (.cons (.inr ⟨_,_,_,_,rfl,rfl,bJ h1,bJ Cv,Ic h2 Dj⟩) (.cons (.inr ⟨_,_,_,_,rfl,rfl,bJ M.sgn,bJ M'.sgn,DZ signs⟩) .nil))
theorem sub_len[DecidableEq α]:∀ {ps vs:List α},ps.Nodup->(∀ p∈ps,p∈vs)->ps.length<=vs.length
 | [],_,_,_=>jb _
 | p :: ps,vs,nd,h=>by
  have DD:=jh.mp nd
  have hp:=h p jE
  have:=sub_len (vs:=vs.erase p) DD.2 fun q hq=>#[250].mpr (h q (jK _ hq))
  rw[Jp hp]at this
  have:=JO hp
  rw[jc]
  omega
def rq(a b:LI):Prop:=a.length=b.length/\∀ i j:Nat,i<a.length->j<a.length->b.getD i 0=b.getD j 0->a.getD i 0=a.getD j 0
theorem Hg{b:LI}(h:rq a b):∃ φ:Int->Int,∀ i:Nat,i<a.length->a.getD i 0=φ (b.getD i 0):=by
 refine⟨fun v=>a.getD (b.idxOf v) 0,fun i hi=>?_⟩
 have hb:i<b.length:=by have:=h.1;omega
 have hm:b.getD i 0∈b:=by rw[getD_at hb];exact jH hb
 have hj:=ji hm
 refine h.2 i _ hi (by have:=h.1;omega) ?_
 rw[getD_at hj,Je]
theorem Q7{b:LI}(h:rq a b):(aK a).length<=(aK b).length:=by
 obtain⟨φ,hφ⟩:=Hg h
 have:=sub_len (CN a) (vs:=(aK b).map φ) fun p hp=>by
  obtain⟨i,hi,rfl⟩:=jZ (dC.mp hp)
  have hb:i<b.length:=by have:=h.1;omega
  refine jM.mpr ⟨b.getD i 0,dC.mpr (by rw[getD_at hb];exact jH hb),?_⟩
  rw[<- hφ i hi,getD_at hi]
 rw[bz]at this
 exact this
theorem Q6{b:LI}(h:rq a b)(e:(aK b).length=(aK a).length):rq b a:=by
 refine⟨h.1.symm,fun i j hi hj eq=>?_⟩
 by_cases c:b.getD i 0=b.getD j 0
 ·exact c
 exfalso
 obtain⟨φ,hφ⟩:=Hg h
 have l:=h.1
 have mj:b.getD j 0∈aK b:=dC.mpr (by rw[getD_at hj];exact jH hj)
 have mi:b.getD i 0∈aK b:=dC.mpr (by rw[getD_at hi];exact jH hi)
 have:=sub_len (CN a) (vs:=((aK b).erase (b.getD j 0)).map φ) fun p hp=>by
  obtain⟨k,hk,rfl⟩:=jZ (dC.mp hp)
  have hb:k<b.length:=by omega
  by_cases d:b.getD k 0=b.getD j 0
  ·refine jM.mpr ⟨b.getD i 0,(Jh c).mpr mi,?_⟩
   rw[<- hφ i #[2],eq,hφ j #[2],<- d,<- hφ k hk,getD_at hk]
  ·refine jM.mpr ⟨b.getD k 0,(Jh d).mpr (dC.mpr (by rw[getD_at hb];exact jH hb)),?_⟩
   rw[<- hφ k hk,getD_at hk]
 rw[bz,Jp mj]at this
 have:=JO mj
 omega
theorem Sf(h:∀ i j:Nat,i<a.length->j<a.length->a.getD i 0=a.getD j 0->i=j):(aK a).length=a.length:=by
 refine zr (oU a) (sub_len ?_ fun p hp=>dC.mpr hp)
 refine zZ.mpr fun i j hi hj lt z=>?_
 have:=h i j hi hj (by rw[getD_at hi,getD_at hj];exact z)
 omega
def Behind(rows:LL)(wide:Nat)(a b:LI):Prop:=a.length=rows.length/\b.length=rows.length/\∀ i j:Nat,i<rows.length->j<rows.length->(b.getD i 0=b.getD j 0↔a.getD i 0=a.getD j 0/\∀ f:Nat,f<wide->sgn a (stepI rows (i:Int) f)=sgn a (stepI rows (j:Int) f))
theorem Behind.Q5{b:LI}(h:Behind rows wide a b):rq a b:=⟨by rw[h.1,h.2.1],fun i j hi hj e=>((h.2.2 i j (by rw[<- h.1];exact hi) (by rw[<- h.1];exact hj)).mp e).1⟩
theorem K8{signs b:LI}(R:aD rows.length wide rows)(A:Apart wide rows signs)(ls:signs.length=rows.length)(fs:rq signs a)(h:Behind rows wide a b)(e:(aK b).length=(aK a).length):(aK a).length=rows.length:=by
 have fe:=Q6 h.Q5 e
 have la:=h.1
 rw[Sf (a:=a) ?_,la]
 intro i j hi hj eq
 have ap:=A (i:Int) (j:Int) ⟨by omega,by omega⟩ ⟨by omega,by omega⟩ ?_
 ·omega
 intro n v hv hn
 have go:∀ (v:LI) (x y:Nat),rE wide v->x<rows.length->y<rows.length->a.getD x 0=a.getD y 0->∃ x' y':Nat,aP rows v (x:Int)=(x':Int)/\aP rows v (y:Int)=(y':Int)/\x'<rows.length/\y'<rows.length/\a.getD x' 0=a.getD y' 0:=by
  intro v
  induction v with
  | nil=>intro x y _ hx hy e;exact⟨x,y,rfl,rfl,hx,hy,e⟩
  | cons f v ih =>
   intro x y hv hx hy e
   have hf:=hv f jE
   obtain⟨g,rfl⟩:=fQ hf.1
   have sx:=dF R (h:=(x:Int)) (f:=(g:Int)) #[2] #[2] #[2] hf.2
   have sy:=dF R (h:=(y:Int)) (f:=(g:Int)) #[2] #[2] #[2] hf.2
   obtain⟨x1,ex⟩:=fQ sx.1
   obtain⟨y1,ey⟩:=fQ sy.1
   have eb:b.getD x 0=b.getD y 0:=fe.2 x y (by rw[h.2.1];exact hx) (by rw[h.2.1];exact hy) e
   have st:=((h.2.2 x y hx hy).mp eb).2 g #[2]
   rw[ex,ey]at st
   obtain⟨x',y',q1,q2,q3,ai2,ai3⟩:=ih x1 y1 (fun z hz=>hv z (jK _ hz)) #[2] #[2] st
   refine⟨x',y',?_,?_,q3,ai2,ai3⟩
   ·show aP rows v (stepI rows (x:Int) (g:Int))=_
    rw[ex];exact q1
   ·show aP rows v (stepI rows (y:Int) (g:Int))=_
    rw[ey];exact q2
 obtain⟨x',y',q1,q2,q3,q4,q5⟩:=go v i j hv #[2] #[2] eq
 rw[q1,q2]
 exact fs.2 x' y' #[2] #[2] q5
theorem K9{b:LI}(h:Behind rows wide a b)(ne:(aK b).length≠(aK a).length):(aK a).length<(aK b).length:=by
 have:=Q7 h.Q5
 omega
theorem rq.trans{b c:LI}(h:rq a b)(h':rq b c):rq a c:=⟨h.1.trans h'.1,fun i j hi hj e=>h.2 i j hi hj (h'.2 i j (by have:=h.1;omega) (by have:=h.1;omega) e)⟩
structure TH(K:WC)(C:Zg):Prop where
 cl:DG K C
 nr:eW K C "rows"
 ns:eW K C "signs"
structure FZ(H:Hp)(C x r g:Zg):Prop where
 ob:∃ dx:Zg,H x=some (.ins C dx [("rows",.ref r),("signs",.ref g)])
theorem FZ.same{x r g:Zg}(h:FZ H C x r g)(s:aH H H'):FZ H' C x r g:=by
 obtain⟨dx,h1⟩:=h.ob
 exact⟨dx,s _ _ h1⟩
def MT(C:Zg):Sp:=fun vs H Q _=>∃ (x dx m r g:Zg) (wide:Nat) (rows:LL) (signs:LI),vs=[.ref x,.ref m]/\H x=some (.ins C dx [])/\aV H m r g wide rows signs /\
 ∀ H':Hp,(∀ c u,c≠x->H c=some u->H' c=some u)->FZ H' C x r g->Q .non H'
def Iu:Sp:=fun vs H Q _=>∃ x:Zg,vs=[.ref x]/\Q (.int 0) H
def MV(C:Zg):Sp:=fun vs H Q _=>∃ (x m r g:Zg) (q f:Int) (many wide:Nat) (rows:LL) (signs:LI),vs=[.ref x,.int q,.int f]/\FZ H C x r g/\aV H m r g wide rows signs/\aD many wide rows/\(0<=q/\q<(many:Int))/\(0<=f/\f<(wide:Int))/\Q (.int (stepI rows q f)) H
def MU(C:Zg):Sp:=fun vs H Q _=>∃ (x m r g:Zg) (q:Int) (wide:Nat) (rows:LL) (signs:LI),vs=[.ref x,.int q]/\FZ H C x r g/\aV H m r g wide rows signs/\(0<=q/\q<(signs.length:Int))/\Q (.int (signs.getD q.toNat 0)) H
section
theorem sV:aJ ["self","machine"] ["self","machine"] (aj ff):=cU #[4]
theorem AQ:aJ ["self"] ["self"] (aj lD):=cU #[4]
theorem BI:aJ ["self","place","figure"] ["self","place","figure"] (aj mI):=cU #[4]
theorem BH:aJ ["self","place"] ["self","place"] (aj mH):=cU #[4]
theorem R7(F:bE K "__init__" "Reading.__init__" ff dV f fd)(rc:TH K C):bu P w K mg base eA 1 f fd ["self","machine"] (MT C):=by
 refine F.ok sV #[6] #[1]
 ·obtain⟨x,dx,m,r,g,wide,rows,signs,rfl,_⟩:=h
  rfl
 obtain⟨x,dx,m,r,g,wide,rows,signs,rfl,hx,M,k⟩:=h
 refine⟨_,(ak (pM (pv 0) #[36] rfl)
   (au (pM (pv 0) #[36] rfl))),?_⟩
 have nmx:m≠x:=aF M.tup hx #[0]
 refine⟨_,rfl,m,_,_,_,rfl,rfl,bJ M.tup,rfl,_,rfl,x,C,dx,[],rfl,hx,rc.cl,rc.nr,by decide,?_⟩
 refine⟨_,rfl,m,_,_,_,rfl,rfl,bJ (by rw[af nmx];exact M.tup),rfl,_,rfl,x,C,dx,_,rfl,ae,rc.cl,rc.ns,by show 1<1000;decide,?_⟩
 refine k _ (fun c u hc e=>?_) ⟨dx,ae⟩
 rw[af hc,af hc]
 exact e
theorem O6(F:bE K "begin" "Reading.begin" lD dV f fd):bu P w K mg base eA 1 f fd ["self"] Iu:=by
 refine F.ok AQ #[6] #[1]
 ·obtain⟨x,rfl,_⟩:=h
  rfl
 obtain⟨x,rfl,q⟩:=h
 exact⟨_,(au (aW aq)),q⟩
theorem Sa(F:bE K "step" "Reading.step" mI dV f fd)(rc:TH K C):bu P w K mg base eA 1 f fd ["self","place","figure"] (MV C):=by
 refine F.ok BI #[6] #[1]
 ·obtain⟨x,m,r,g,q,fg,many,wide,rows,signs,rfl,_⟩:=h
  rfl
 obtain⟨x,m,r,g,q,fg,many,wide,rows,signs,rfl,⟨dx,hx⟩,M,R,⟨q0,q1⟩,⟨f0,f1⟩,k⟩:=h
 exists 140
 obtain⟨ra,rr,e1,e2,e3⟩:=mD hA R q0 q1 f0 f1
 refine⟨_,(au (aW (aC ax (aC ax #[31] (pv 1) #[3]) (pv 2) #[3]))),?_⟩
 exact⟨_,rfl,x,C,dx,_,_,rfl,hx,rc.cl,rc.nr,rfl,_,rfl,r,_,_,_,rfl,rfl,bJ pC,e1,_,rfl,ra,_,_,_,rfl,rfl,bJ e2,e3,k⟩
theorem R9(F:bE K "sign" "Reading.sign" mH dV f fd)(rc:TH K C):bu P w K mg base eA 1 f fd ["self","place"] (MU C):=by
 refine F.ok BH #[6] #[1]
 ·obtain⟨x,m,r,g,q,wide,rows,signs,rfl,_⟩:=h
  rfl
 obtain⟨x,m,r,g,q,wide,rows,signs,rfl,⟨dx,hx⟩,M,⟨q0,q1⟩,k⟩:=h
 refine⟨_,(au (aW (aC ax #[31] (pv 1) #[3]))),?_⟩
 exact⟨_,rfl,x,C,dx,_,_,rfl,hx,rc.cl,rc.ns,rfl,_,rfl,g,_,_,_,rfl,rfl,bJ M.sgn,bK q0 q1,k⟩
end
section
variable[DecidableEq α]
def MF(st:α->Nat->α)(b:α)(v:LI):α:=v.foldl (fun p f=>st p f.toNat) b
theorem HU(st:α->Nat->α)(b:α)(v:LI)(f:Int):MF st b (v++[f])=st (MF st b v) f.toNat:=by
 unfold MF
 rw[JG]
 rfl
structure DI(st:α->Nat->α)(b:α)(wide:Nat)(ps:List α)(rows:LL):Prop where
 nd:ps.Nodup
 hd:ps[0]?=some b
 le:rows.length<=ps.length
 row:∀ (i:Nat) (r:LI),rows[i]?=some r->r.length=wide
 to:∀ (i:Nat) (r:LI) (f:Nat) (t:Int),rows[i]?=some r->r[f]?=some t->∃ (n:Nat) (p:α),t=(n:Int)/\ps[i]?=some p/\ps[n]?=some (st p f)
 ord:bD 0 1 rows=some ps.length
 re:∀ p∈ps,∃ v,rE wide v/\MF st b v=p
structure Bp(st:α->Nat->α)(b:α)(wide:Nat)(ps:List α)(rows:LL)(p:α)(r:LI):Prop where
 nd:ps.Nodup
 hd:ps[0]?=some b
 at_:ps[rows.length]?=some p
 row:∀ (i:Nat) (r:LI),rows[i]?=some r->r.length=wide
 to:∀ (i:Nat) (r:LI) (f:Nat) (t:Int),rows[i]?=some r->r[f]?=some t->∃ (n:Nat) (p:α),t=(n:Int)/\ps[i]?=some p/\ps[n]?=some (st p f)
 now:∀ (f:Nat) (t:Int),r[f]?=some t->∃ n:Nat,t=(n:Int)/\ps[n]?=some (st p f)
 ord:∃ m,bD 0 1 rows=some m/\rows.length<m/\aX m r=some ps.length
 re:∀ p∈ps,∃ v,rE wide v/\MF st b v=p
variable{st:α->Nat->α}{b:α}{ps:List α}{p:α}
theorem mT:∀ {r:LI} {m k:Nat} {t:Int},aX m r=some k->aX m (r++[t])=if t=(k:Int)then some (k+1)else if t<(k:Int)then some k else none
 | [],m,k,t,h=>by
  have e:m=k:=Option.some.inj h
  subst e
  rfl
 | x :: r,m,k,t,h=>by
  have h':(if x=(m:Int)then aX (m+1) r else if x<(m:Int)then aX m r else none)=some k:=h
  show(if x=(m:Int)then aX (m+1) (r++[t])else if x<(m:Int)then aX m (r++[t])else none)=_
  by_cases c:x=(m:Int)
  ·rw[if_pos c]at h' ⊢;exact mT h'
  ·rw[if_neg c]at h' ⊢
   by_cases d:x<(m:Int)
   ·rw[if_pos d]at h' ⊢;exact mT h'
   ·rw[if_neg d]at h';cases h'
theorem Ac:∀ {rs:LL} {q m k:Nat} {r:LI} {k':Nat},bD q m rs=some k->q+rs.length<k->aX k r=some k'->bD q m (rs++[r])=some k'
 | [],q,m,k,r,k',h,hq,hr=>by
  have e:m=k:=Option.some.inj h
  subst e
  show(if q<m then(aX m r).bind fun m'=>bD (q+1) m' []else none)=some k'
  rw[if_pos (by simpa using hq),hr]
  rfl
 | x :: rs,q,m,k,r,k',h,hq,hr=>by
  obtain⟨c,m1,o1,o2⟩:=CP h
  show(if q<m then(aX m x).bind fun m'=>bD (q+1) m' (rs++[r])else none)=some k'
  rw[if_pos c,o1]
  exact Ac o2 (by rw[jc]at hq;omega) hr
theorem DI.start(st:α->Nat->α)(b:α)(wide:Nat):DI st b wide [b] []:=
 ⟨jh.mpr ⟨by simp,JN⟩,rfl,jb _,(fun i r h=>by cases h),(fun i r f t h=>by cases h),rfl,fun p hp=>⟨[],#[243],by rw[jI.mp hp];rfl⟩⟩
theorem DI.next(g:DI st b wide ps rows)(h:ps[rows.length]?=some p):Bp st b wide ps rows p []:=
 ⟨g.nd,g.hd,h,g.row,g.to,(fun f t h=>by cases h),⟨ps.length,g.ord,(hX h).1,rfl⟩,g.re⟩
theorem Bp.old(g:Bp st b wide ps rows p r)(h:ps[n]?=some (st p r.length)):Bp st b wide ps rows p (r++[(n:Int)]):=by
 obtain⟨m,o1,o2,o3⟩:=g.ord
 have nl:=(hX h).1
 refine⟨g.nd,g.hd,g.at_,g.row,g.to,fun f t hf=>?_,⟨m,o1,o2,?_⟩,g.re⟩
 ·rcases snoc_cases hf with z|⟨rfl,rfl⟩
  ·exact g.now f t z
  ·exact⟨n,rfl,h⟩
 ·rw[mT o3,if_neg #[2],if_pos #[2]]
theorem Bp.new(g:Bp st b wide ps rows p r)(hw:r.length<wide)(h:st p r.length∉ps):Bp st b wide (ps++[st p r.length]) rows p (r++[(ps.length:Int)]):=by
 obtain⟨m,o1,o2,o3⟩:=g.ord
 have up:∀ (n:Nat) (x:α),ps[n]?=some x->(ps++[st p r.length])[n]?=some x:=fun n x hx=>by
  rw[jk (hX hx).1]
  exact hx
 refine⟨nd_snocA g.nd h,up _ _ g.hd,up _ _ g.at_,g.row,fun i r' f t h1 h2=>?_,fun f t hf=>?_,⟨m,o1,o2,?_⟩,fun x hx=>?_⟩
 ·obtain⟨n,q,e1,e2,e3⟩:=g.to i r' f t h1 h2
  exact⟨n,q,e1,up _ _ e2,up _ _ e3⟩
 ·rcases snoc_cases hf with z|⟨rfl,rfl⟩
  ·obtain⟨n,e1,e2⟩:=g.now f t z
   exact⟨n,e1,up _ _ e2⟩
  ·exact⟨ps.length,rfl,by rw[jm (jF _),Jo];rfl⟩
 ·rw[mT o3,if_pos rfl,jG,jS]
 ·rcases wb.mp hx with z|z
  ·exact g.re x z
  ·obtain⟨v,hv,e⟩:=g.re p (rj g.at_)
   refine⟨v++[(r.length:Int)],fun f hf=>?_,?_⟩
   ·rcases wb.mp hf with y|y
    ·exact hv f y
    ·rw[jI.mp y];omega
   ·rw[HU,e,jC,jI.mp z]
where
 nd_snocA {xs:List α} {x:α} (h:xs.Nodup) (n:x∉xs):(xs++[x]).Nodup:=
  JA.mpr ⟨h,jh.mpr ⟨by simp,JN⟩,fun a ha c hc e=>n (by rw[<- jI.mp hc,<- e];exact ha)⟩
theorem Bp.done(g:Bp st b wide ps rows p r)(hw:r.length=wide):DI st b wide ps (rows++[r]):=by
 obtain⟨m,o1,o2,o3⟩:=g.ord
 have lt:=(hX g.at_).1
 refine⟨g.nd,g.hd,by rw[jG,jS];omega,fun i r' h=>?_,fun i r' f t h1 h2=>?_,Ac o1 #[2] o3,g.re⟩
 ·rcases snoc_cases h with z|⟨_,rfl⟩
  ·exact g.row i r' z
  ·exact hw
 ·rcases snoc_cases h1 with z|⟨rfl,rfl⟩
  ·exact g.to i r' f t z h2
  ·obtain⟨n,e1,e2⟩:=g.now f t h2
   exact⟨n,p,e1,g.at_,e2⟩
theorem DI.ok(g:DI st b wide ps rows)(h:rows.length=ps.length):aD rows.length wide rows:=by
 refine⟨rfl,fun r hr=>?_,fun r hr v hv=>?_⟩
 ·obtain⟨i,hi,e⟩:=jZ hr
  exact g.row i r (by rw[jA hi,e])
 ·obtain⟨i,hi,e⟩:=jZ hr
  obtain⟨f,hf,ef⟩:=jZ hv
  obtain⟨n,p,e1,_,e3⟩:=g.to i r f v (by rw[jA hi,e]) (by rw[jA hf,ef])
  have:=(hX e3).1
  omega
theorem DI.walk(g:DI st b wide ps rows)(h:rows.length=ps.length):∀ (v:LI) (n:Nat) (p:α),rE wide v->ps[n]?=some p->∃ k:Nat,aP rows v (n:Int)=(k:Int)/\ps[k]?=some (v.foldl (fun p f=>st p f.toNat) p)
 | [],n,p,_,hp=>⟨n,rfl,hp⟩
 | f :: v,n,p,hv,hp=>by
  have hf:=hv f jE
  have nl:=(hX hp).1
  have nr:n<rows.length:=by omega
  have lr:=g.row n _ (jA nr)
  have fl:f.toNat<(rows[n]).length:=by omega
  obtain⟨k,q,e1,e2,e3⟩:=g.to n _ f.toNat _ (jA nr) (jA fl)
  rw[hp]at e2
  have eq:=Option.some.inj e2
  subst eq
  obtain⟨j,e4,e5⟩:=g.walk h v k _ (fun x hx=>hv x (jK _ hx)) e3
  refine⟨j,?_,e5⟩
  show aP rows v (stepI rows (n:Int) f)=_
  unfold stepI
  rw[jC,getD_at nr,getD_at fl,e1]
  exact e4
theorem DI.told(g:DI st b wide ps rows)(h:rows.length=ps.length)(hv:rE wide v):∃ k:Nat,aP rows v 0=(k:Int)/\ps[k]?=some (MF st b v):=g.walk h v 0 b hv g.hd
end
def SY(C:Zg):Sp:=fun vs H Q _=>∃ (x:Zg) (n:Int),vs=[.ref x,.int n]/\H x=some (.ext (lL x C))/\(n.natAbs.log2<1920/\(Str.ofString (toString n)).length<=1000) /\
 ∀ d,H d=none->d≠x->Q .non (upd (upd H x (.ext (fz x C d))) d (.xd [("most",.int n)]))
section
theorem rY:aJ ["self","most"] ["self","most"] (aj eK):=cU #[4]
theorem X6(F:bE K "__init__" "TooGreat.__init__" eK dV f fd)(M:wK K C f0)(na:WE K #[23] "most" = some none)(dI:mg "FigureError" = some (.ref F0))(Ct:Wu K (.ref F0) "__getattribute__" = some #[161])(C4:Yo K F0 #[123]=true)(Cr:Yp K (.ref F0) #[123] "__init__" = some (.val #[139])):bu P w K mg base eA 1 f fd ["self","most"] (SY C):=by
 refine F.ok rY #[6] #[1]
 ·obtain⟨x,n,rfl,_⟩:=h
  rfl
 obtain⟨x,n,rfl,hx,⟨l1,l2⟩,k⟩:=h
 refine⟨_,(ak (bZ (HP rfl dI Ct C4 Cr (aa (pv 0) (aa (Y6 (HS ab8 (HS (ab7 (pv 1)) Z0))) ag))))
   (au (Z4 (pv 0) (pv 1)))),?_⟩
 refine⟨_,rfl,_,rfl,.inr ⟨n,rfl,l1,l2,fun z=>?_⟩⟩
 exists x,C,f0,_,rfl,hx,M.ex
 exact⟨_,rfl,_,rfl,x,C,f0,rfl,hx,M,na,fun d hd ne=>k d hd ne⟩
end
def ir(u:LI):List Key:=u.map Sum.inl
theorem rO(u:LI):(ir u).map kV=u.map V.int:=by
 unfold ir
 rw[JF]
 rfl
theorem wY(h:ir u=ir v):u=v:=by
 have:=congrArg (List.map fun k:Key=>match k with|Sum.inl i=>i|Sum.inr _=>0) h
 unfold ir at this
 rw[JF,JF]at this
 have e:∀ w:LI,w.map ((fun k:Key=>match k with|Sum.inl i=>i|Sum.inr _=>0) ∘ Sum.inl)=w:=fun w=>by
  show w.map (fun i=>i)=w
  exact List.map_id' w
 rw[e,e]at this
 exact this
def BE(ps:LL)(k:Nat):List #[58]:=(ps.zipIdx k).map fun p=>(ir p.1,V.int (p.2:Int))
theorem wZ(ps:LL)(k:Nat):(BE ps k).length=ps.length:=by
 unfold BE
 rw[bz,ZR]
theorem CH:∀ {ps:LL} {k:Nat} {u:LI},u∉ps->dZ (BE ps k) (ir u)=none
 | [],_,_,_=>rfl
 | p :: ps,k,u,h=>by
  rw[show BE (p :: ps) k=(ir p,V.int (k:Int)) :: BE ps (k+1)from rfl,eh (fun z=>h (by rw[<- wY z];exact jE))]
  exact CH fun z=>h (jK _ z)
theorem RH:∀ {ps:LL} {k n:Nat} {u:LI},ps.Nodup->ps[n]?=some u->dZ (BE ps k) (ir u)=some (.int ((k+n:Nat):Int))
 | [],_,_,_,_,h=>by cases h
 | p :: ps,k,0,u,_,h=>by
  cases h
  exact iW rfl
 | p :: ps,k,n+1,u,nd,h=>by
  have DD:=jh.mp nd
  have h':ps[n]?=some u:=h
  rw[show BE (p :: ps) k=(ir p,V.int (k:Int)) :: BE ps (k+1)from rfl,eh (fun z=>DD.1 (by rw[wY z];exact rj h')),RH DD.2 h']
  congr 3
  omega
theorem W7{ps:LL}(h:u∉ps):putK (BE ps 0) (ir u) (V.int (ps.length:Int))=BE (ps++[u]) 0:=by
 rw[HZ _ (CH h)]
 unfold BE
 rw[zR,jD,JU]
 rfl
theorem W6{ps:LL}{p:List Key×V}(h:(BE ps 0)[i]?=some p):∃ u,ps[i]?=some u/\p.1=ir u:=by
 unfold BE at h
 rw[jP,List.getElem?_zipIdx]at h
 cases e:ps[i]? with
 | none=>rw[e]at h;cases h
 | some u =>
  rw[e]at h
  cases h
  exact⟨u,rfl,rfl⟩
theorem LG{n:Int}(h0:0<=n)(h:n<10^18):n.natAbs.log2<1920/\(Str.ofString (toString n)).length<=1000:=by
 have hn:n.natAbs<10^18:=by
  have e:((n.natAbs:Nat):Int)=n:=Int.natAbs_of_nonneg h0
  have:((n.natAbs:Nat):Int)<((10^18:Nat):Int):=by rw[e];exact h
  exact Int.ofNat_lt.mp this
 constructor
 ·rcases ZN n.natAbs with z|z
  ·rw[z];decide
  ·exact(Nat.log2_lt #[2]).mpr (Jd hn #[18])
 ·have q:=int_text_length_le10 (a:=n) (k:=18) #[18] hn
  rw[ofString_length]
  omega
structure Wlk(C x:Zg)(wide:Nat)(W:Hp->Prop)(FW:LI->Prop)(st:LI->Nat->LI)(b0:LI)(sg:LI->Int)(spB spS spG:Sp):Prop where
 same:∀ H H',aH H H'->W H->W H'
 ob:∀ H,W H->∃ (dx:Zg) (fs:List (QB×V)),H x=some #[158]/\fs.lookup ("begin" : QB)=none/\fs.lookup ("step" : QB)=none/\fs.lookup ("sign" : QB)=none
 begin:∀ (H:Hp) (Q:VK) (E:XK),W H->(∀ (t:Zg) (H':Hp),aH H H'->H' t=some (.tup (b0.map V.int))->Q (.ref t) H')->spB [.ref x] H Q E
 step:∀ (H:Hp) (Q:VK) (E:XK) (b:Zg) (u:LI) (f:Nat) (fi:Int),fi=(f:Int)->W H->H b=some (.tup (u.map V.int))->FW u->f<wide->(∀ (t:Zg) (H':Hp),aH H H'->H' t=some (.tup ((st u f).map V.int))->Q (.ref t) H')->spS [.ref x,.ref b,.int fi] H Q E
 sign:∀ (H:Hp) (Q:VK) (E:XK) (b:Zg) (u:LI),W H->H b=some (.tup (u.map V.int))->FW u->(∀ H':Hp,aH H H'->Q (.int (sg u)) H')->spG [.ref x,.ref b] H Q E
 ok0:FW b0
 okS:∀ u f,FW u->f<wide->FW (st u f)
theorem Wlk.all{x:Zg}{W:Hp->Prop}{FW:LI->Prop}{st:LI->Nat->LI}{sg:LI->Int}(h:Wlk C x wide W FW st b0 sg spB spS spG)(hv:rE wide v):FW (MF st b0 v):=by
 have:∀ (v:LI) (b:LI),FW b->rE wide v->FW (MF st b v):=by
  intro v
  induction v with
  | nil=>intro b hb _;exact hb
  | cons f v ih =>
   intro b hb hi
   refine ih _ (h.okS _ _ hb ?_) fun g hg=>hi g (jK _ hg)
   have:=hi f jE
   omega
 exact this v b0 h.ok0 hv
def Ik(C CT:Zg)(spB spS spG:Sp):Sp:=fun vs H Q E=>∃ (x:Zg) (wide most:Nat) (W:Hp->Prop) (FW:LI->Prop) (st:LI->Nat->LI) (b0:LI) (sg:LI->Int),vs=[.ref x,.int wide,.int most]/\W H/\Wlk C x wide W FW st b0 sg spB spS spG/\wide<=1000/\(1<=most/\most<=1000) /\
 (∀ (m' r' g':Zg) (aw ps:LL) (H':Hp),aH H H'->aV H' m' r' g' wide aw (ps.map sg)->DI st b0 wide ps aw->aw.length=ps.length->ps.length<=most->Q (.ref m') H') /\
 ∀ (d:Zg) (H':Hp) (ps:LL),aH H H'->H' d=some (.xd [("most",.int most)])->ps.Nodup->(∀ p∈ps,∃ v,rE wide v/\MF st b0 v=p)->most<ps.length->E (.ref CT) (some d) H'
section
theorem cY:aJ ["walk","wide","most","begin","numbers","rows","level","fresh","place","row","figure","there","number"] ["walk","wide","most"] (aj BW):=cU #[4]
theorem Cg:bA ["walk","wide","most","begin","numbers","rows","level","fresh","place","row","figure","there","number"] (aj BW) ["place","walk"] [none,some 0] ⟨.function,[#[65],("place",.local),("walk",.free)],false,false,[]⟩:=rh #[4]
theorem OW(F:bE K "grown" "grown" BW dV f fd)(rA:mM P w K mg base C "begin" 2 ["self"] spB)(wx:mM P w K mg base C "step" 2 ["self","place","figure"] spS)(wu:mM P w K mg base C "sign" 2 ["self","place"] spG)(iI:aa0 P w K mg base "TooGreat" CT f0 1 ["self","most"] (SY CT))(bx:mg "range" = none)(bj:mg "len" = none)(aR:mg "tuple" = none):bu P w K mg base (LU P w) 3 f fd ["walk","wide","most"] (Ik C CT spB spS spG):=by
 refine F.aeZ cY #[6] #[1]
 ·obtain⟨x,wide,most,W,FW,st,b0,sg,rfl,_⟩:=h
  rfl
 obtain⟨x,wide,most,W,FW,st,b0,sg,rfl,hW0,T,w1,⟨m0,m1⟩,k,kx⟩:=h
 have hu:=oP hr
 obtain⟨dx,fs0,hx0,fB,fS,fG⟩:=T.ob H hW0
 refine rH (aO (hJ.mk (aL (i:=3) cY.nd (CQ rA hr (pv 0))))
   (aO (hJ.mk (aL (i:=4) cY.nd (HQ hu (CV (pv 3) aq Fi))))
   (aO (hJ.mk (aL (i:=5) cY.nd (dU ag)))
   (aO (hJ.mk (aL (i:=6) cY.nd (dU #[91])))
   (aO (hJ.mk (Af PassesOwn.leaving (C0 (pv 6) (fun _=>rfl)) (ak (aL (i:=7) cY.nd (dU ag))
   (ak (cD PassesOwn.leaving rfl (dj (pv 6)) (bB (i:=8) cY.nd) (ak (aL (i:=9) cY.nd (dU ag))
   (ak (cD PassesOwn.leaving rfl (cK rfl bx #[121]) (bB (i:=10) cY.nd) (ak (aL (i:=11) cY.nd (tF wx hr (pv 0) (aa (pv 8) (aa (pv 10) ag))))
   (ak (aL (i:=12) cY.nd (Sk hu (pv 4) (pv 11) ⟨rfl,rfl,rfl,rfl⟩))
   (ak (cV (bV ab2 (pv 12) Sq (bI _)) (ak (aL (i:=12) cY.nd (aG DQ #[42] bj bH #[217]))
   (ak (cV (bV Sh (pv 12) (pv 2) (bI _)) (au (Pf iI hr rfl Tg #[66])) bM)
   (ak (sH hu (pv 4) (pv 11) (pv 12) rfl)
   (au (bZ (lN WG WH WI cc (pv 7) (aa (pv 11) ag))))))) bM)
   (au (bZ (lN WG WH WI cc (pv 9) (aa (pv 12) ag))))))))
   (au (bZ (lN WG WH WI cc (pv 5) (aa (aQ aZ #[42] aR bO (aa (pv 9) ag)) ag)))))))
   (au (aL (i:=6) cY.nd (pv 7)))))))
   (lI (afI (Tp (eS (Dn.mk (pv 1)) (eS (Dn.mk (aQ aZ #[42] aR bO (aa (pv 5) ag))) (eS (Dn.mk (aQ aZ #[42] aR bO (aa (di rfl Cg (Sv (pv 4)) (fun _ _ _ _=>(bB (i:=0) Cg.nd)) (fun _ _ _ _=>(tF wu hr (pv 1) #[122]))) ag))) FC))))))))))) ?_
 refine⟨_,rfl,x,dx,_,rfl,hx0,fB,T.begin _ _ _ hW0 fun g H0 s0 hg0=>?_⟩
 have hW:=T.same _ _ s0 hW0
 have hx:=s0 _ _ hx0
 have k:=fun m' r' g' aw ps H' (s:aH H0 H')=>k m' r' g' aw ps H' (s0.trans s)
 have kx:=fun d H' ps (s:aH H0 H')=>kx d H' ps (s0.trans s)
 refine fun D hD=>?_
 have sD:=ao hD (HO.dT [])
 refine⟨_,rfl,ae,g,ir b0,.int 0,rfl,by rw[rO];exact sD _ _ hg0,?_⟩
 obtain⟨H1,eH1⟩:∃ H1,upd (upd H0 D (HO.dT [])) D (HO.dT [(ir b0,V.int 0)])=H1:=⟨_,rfl⟩
 have s1:aH H0 H1:=by rw[<- eH1];exact av sD hD
 have OD:H1 D=some (.dT (BE [b0] 0)):=by rw[<- eH1,ae];rfl
 rw[eH1]
 refine⟨#[28],fun RR hRR=>?_⟩
 have sR:=ao hRR #[147]
 have nDR:D≠RR:=ah OD hRR
 refine⟨_,rfl,#[176],fun L0 hL0=>?_⟩
 obtain⟨H2,Di⟩:∃ H2,upd (upd H1 RR #[147]) L0 (HO.lst [V.ref g])=H2:=⟨_,rfl⟩
 have Lw:aH H1 H2:=by rw[<- Di];exact sR.trans (ao hL0 _)
 have PJ:=Lw _ _ OD
 have ahx:H2 RR=some (.lst []):=by rw[<- Di,af (ah ae hL0),ae]
 have hL2:H2 L0=some (.lst ([g].map V.ref)):=by rw[<- Di,ae];rfl
 have s2:=s1.trans Lw
 have fRR:H0 RR=none:=s1.free hRR
 rw[Di]
 exists 2
 refine cS (t:=wo _ _) (fun σ' H'=>∃ (ps aw:LL) (cM:List Zg) (v6 v7 v8 v9 v10 v11 BK:OV),σ'=[some #[94],some #[183],some (.int most),some (.ref g),some #[103],some (.ref RR),v6,v7,v8,v9,v10,v11,BK]/\aH H0 H'/\H' D=some (.dT (BE ps 0))/\H' RR=some (.lst #[51])/\aI H' cM aw/\DI st b0 wide ps aw/\ps.length<=most/\aw.length=ps.length) ?_ #[47]
 rotate_left
 ·refine B0 (fun mm σ' H'=>∃ (ps aw us:LL) (cM lv:List Zg) (L:Zg) (v7 v8 v9 v10 v11 BK:OV),mm=most-aw.length/\σ'=[some #[94],some #[183],some (.int most),some (.ref g),some #[103],some (.ref RR),some (.ref L),v7,v8,v9,v10,v11,BK]/\aH H0 H'/\H' D=some (.dT (BE ps 0))/\H' RR=some (.lst #[51])/\aI H' cM aw/\DI st b0 wide ps aw/\ps.length<=most/\H' L=some #[148]/\RR≠L/\aI H' lv us/\ps.drop aw.length=us)
   ⟨_,[b0],[],[b0],[],[g],L0,none,none,none,none,none,none,rfl,rfl,s2,PJ,ahx,.nil,DI.start _ _ _,m0,hL2,ah ae hL0,.cons (s2 _ _ hg0) .nil,rfl⟩ ?_
  rintro mm σ' H3 ⟨ps,aw,us,cM,lv,L,v7,v8,v9,v10,v11,BK,rfl,rfl,s3,AE,PL,A3,G,le3,tZ,nRL,TA,du⟩
  by_cases en:lv=[]
  ·subst en
   cases TA
   refine⟨_,rfl,_,.inl ⟨_,cG tZ,rfl⟩,pD ?_⟩
   have e:ps.length<=aw.length:=Ji.mp du
   exact hZ _ _ ⟨ps,aw,cM,_,v7,v8,v9,v10,v11,BK,rfl,s3,AE,PL,A3,G,le3,zr G.le e⟩
  exists _,rfl,_,.inl ⟨_,cG tZ,rfl⟩
  have ne:(!(lv.map V.ref).isEmpty)=true:=by
   cases lv with
   | nil=>exact absurd rfl en
   | cons x r=>rfl
  rw[ne]
  have lv1:1<=lv.length:=by
   cases lv with
   | nil=>exact absurd rfl en
   | cons x r=>exact zj (jb _)
  have llu:lv.length=us.length:=Paired.length TA
  have pl:ps.length=aw.length+us.length:=by
   have:=congrArg Jj du
   rw[List.length_drop]at this
   have:=G.le
   omega
  have lm:=le3
  refine oj ⟨fun σ' H'=>∃ m',m'<most-aw.length/\∃ (ps aw us:LL) (cM lv:List Zg) (L:Zg) (v7 v8 v9 v10 v11 BK:OV),m'=most-aw.length/\σ'=[some #[94],some #[183],some (.int most),some (.ref g),some #[103],some (.ref RR),some (.ref L),v7,v8,v9,v10,v11,BK]/\aH H0 H'/\H' D=some (.dT (BE ps 0))/\H' RR=some (.lst #[51])/\aI H' cM aw/\DI st b0 wide ps aw/\ps.length<=most/\H' L=some #[148]/\RR≠L/\aI H' lv us/\ps.drop aw.length=us,fun _ _ h=>h,?_⟩
  refine⟨#[28],fun Fr hFr=>?_⟩
  have sF:=ao hFr #[147]
  have fFr:H0 Fr=none:=s3.free hFr
  have nFD:D≠Fr:=ah AE hFr
  have nFR:RR≠Fr:=ah PL hFr
  have nFL:L≠Fr:=ah tZ hFr
  obtain⟨H4,su⟩:∃ H4,upd H3 Fr #[147]=H4:=⟨_,rfl⟩
  have s4:aH H0 H4:=by rw[<- su];exact s3.trans sF
  have t4:aH H3 H4:=by rw[<- su];exact sF
  have hF4:H4 Fr=some (.lst (([]:List Zg).map V.ref)):=by rw[<- su,ae];rfl
  rw[su]
  have lps:∀ {qs:LL},(∀ p∈qs,∃ v,rE wide v/\MF st b0 v=p)->∀ u∈qs,FW u:=fun h u hu'=>by
   obtain⟨v,hv,e⟩:=h u hu'
   rw[<- e]
   exact T.all hv
  exists 2
  refine⟨_,rfl,L,rfl,⟨_,cG (t4 _ _ tZ)⟩,fP (K:=K) (xs:=lv.map V.ref) (fun i σ' H'=>∃ (BV az qs:LL) (wj fr:List Zg) (v8 v9 v10 v11 BK:OV),
    σ'=[some #[94],some #[183],some (.int most),some (.ref g),some #[103],some (.ref RR),some (.ref L),some (.ref Fr),v8,v9,v10,v11,BK]/\aH H0 H'/\H' D=some (.dT (BE BV 0))/\H' RR=some #[296]/\aI H' wj az/\DI st b0 wide BV az/\BV.length<=most/\az.length=aw.length+i/\BV=ps++qs/\H' Fr=some #[298]/\aI H' fr qs/\H' L=some #[148]/\aI H' lv us)
   ⟨ps,aw,[],cM,[],v8,v9,v10,v11,BK,rfl,s4,t4 _ _ AE,t4 _ _ PL,A3.same (fun b xs e=>t4 _ _ e),G,le3,rfl,(jr _).symm,hF4,.nil,t4 _ _ tZ,TA.same (fun b xs e=>t4 _ _ e)⟩ (fun i σ' H' _ ⟨_,_,_,_,_,_,_,_,_,_,_,_,_,_,_,_,_,_,_,_,_,e,_⟩=>cG e) ?_ ?_⟩
  ·rintro i y σ' H5 hi ⟨BV,az,qs,wj,fr,v8,v9,v10,v11,BK,rfl,s5,Rb,hR5,A5,G5,le5,l5,rfl,Rc,TF5,IB,TA5⟩
   have il:i<us.length:=by
    have:=(hX hi).1
    rw[bz]at this
    omega
   obtain⟨pa,e1,e2⟩:=TA5.get il
   have ey:y=.ref pa:=by rw[jP,e1]at hi;exact#[218].symm
   subst ey
   have atp:ps[az.length]?=some us[i]:=by
    have:(ps.drop aw.length)[i]?=some us[i]:=by rw[du];exact jA il
    rw[List.getElem?_drop]at this
    rw[l5];exact this
   have adF:(ps++qs)[az.length]?=some us[i]:=by rw[jk (hX atp).1];exact atp
   have lu:FW us[i]:=lps G5.re _ (rj adF)
   refine⟨#[28],fun Ro hRo=>?_⟩
   have sO:=ao hRo #[147]
   have fRo:H0 Ro=none:=s5.free hRo
   have nOD:D≠Ro:=ah Rb hRo
   have nOR:RR≠Ro:=ah hR5 hRo
   have nOF:Fr≠Ro:=ah Rc hRo
   have nOL:L≠Ro:=ah IB hRo
   obtain⟨H6,TV⟩:∃ H6,upd H5 Ro #[147]=H6:=⟨_,rfl⟩
   have t6:aH H5 H6:=by rw[<- TV];exact sO
   have hO6:H6 Ro=some (.lst (([]:LI).map V.int)):=by rw[<- TV,ae];rfl
   rw[TV]
   exists 2
   refine cS (t:=AW _ _ _) (fun σ' H'=>∃ (BV qs:LL) (fr:List Zg) (row:LI) (v10 v11 BK:OV),
    σ'=[some #[94],some #[183],some (.int most),some (.ref g),some #[103],some (.ref RR),some (.ref L),some (.ref Fr),some (.ref pa),some (.ref Ro),v10,v11,BK]/\aH H0 H'/\H' D=some (.dT (BE BV 0))/\H' RR=some #[296]/\aI H' wj az/\Bp st b0 wide BV az us[i] row/\BV.length<=most/\row.length=wide/\H' Ro=some (.lst (row.map V.int))/\BV=ps++qs/\H' Fr=some #[298]/\aI H' fr qs/\H' L=some #[148]/\aI H' lv us/\H' pa=some (.tup (us[i].map V.int))) ?_ (fun D1 aiW=>?_)
   rotate_left
   ·refine⟨_,rfl,_,rfl,by omega,by omega,?_⟩
    refine iq (fun j σ' H'=>∃ (BV qs:LL) (fr:List Zg) (row:LI) (v10 v11 BK:OV),
     σ'=[some #[94],some #[183],some (.int most),some (.ref g),some #[103],some (.ref RR),some (.ref L),some (.ref Fr),some (.ref pa),some (.ref Ro),v10,v11,BK]/\aH H0 H'/\H' D=some (.dT (BE BV 0))/\H' RR=some #[296]/\aI H' wj az/\Bp st b0 wide BV az us[i] row/\BV.length<=most/\row.length=j/\H' Ro=some (.lst (row.map V.int))/\BV=ps++qs/\H' Fr=some #[298]/\aI H' fr qs/\H' L=some #[148]/\aI H' lv us/\H' pa=some (.tup (us[i].map V.int)))
     ⟨ps++qs,qs,fr,[],v10,v11,BK,rfl,s5.trans t6,t6 _ _ Rb,t6 _ _ hR5,A5.same (fun b xs e=>t6 _ _ e),G5.next adF,le5,rfl,hO6,rfl,t6 _ _ Rc,TF5.same (fun b xs e=>t6 _ _ e),t6 _ _ IB,TA5.same (fun b xs e=>t6 _ _ e),t6 _ _ e2⟩ ?_ ?_
    ·rintro j σ' H7 hj ⟨BV,qs,fr,row,v10,v11,BK,rfl,s7,T7,T9,A7,G7,le7,rfl,hO7,rfl,hF7,TF7,Ts,TA7,Ry⟩
     rw[jC]at hj
     refine⟨_,rfl,x,dx,_,rfl,s7 _ _ hx,fS,_,rfl,_,rfl,T.step _ _ _ pa us[i] row.length _ (Jn _) (T.same _ _ s7 hW) Ry lu hj fun Th H8 s8 hTh=>?_⟩
     have hD8:=s8 _ _ T7
     have lq:(ps++qs).length<=most:=le7
     by_cases c:st us[i] row.length∈ps++qs
     ·obtain⟨n,nl,en'⟩:=jZ c
      have hn:(ps++qs)[n]?=some (st us[i] row.length):=by rw[jA nl,en']
      have dg:fZ H8 D (.ref Th) (some (.int (n:Int))):=by
       exists 108
       rw[RH G7.nd hn,JU]at z
       exact z
      exists _,rfl,D,rfl,.inr ⟨_,.inl hD8⟩,_,rfl,_,dg
      refine⟨_,rfl,rfl,_,rfl,pD ?_⟩
      have hO8:=s8 _ _ hO7
      refine⟨_,rfl,.inl ⟨rfl,_,cG hO8⟩,_,rfl,Ro,_,_,rfl,rfl,hO8,aA #[35],?_⟩
      have oth:∀ b u,b≠Ro->H7 b=some u->#[288] b=some u:=fun b u n e=>by
       rw[af n];exact s8 _ _ e
      have up:∀ b xs,H7 b=some #[29]->#[288] b=some #[29]:=fun b xs e=>oth b _ (aF e hO7 #[0]) e
      exact⟨_,qs,fr,row++[(n:Int)],_,_,_,rfl,av (s7.trans s8) fRo,oth _ _ nOD T7,oth _ _ nOR T9,A7.same up,G7.old hn,le7,by rw[jG];rfl,by rw[ae,jD];rfl,rfl,oth _ _ nOF hF7,TF7.same up,oth _ _ nOL Ts,TA7.same up,up _ _ Ry⟩
     ·have dg:fZ H8 D (.ref Th) none:=by
       exists 108
       rw[CH c]at z
       exact z
      exists _,rfl,D,rfl,.inr ⟨_,.inl hD8⟩,_,rfl,_,dg
      have G8:=G7.new hj c
      refine⟨_,rfl,rfl,_,rfl,oj ?_⟩
      refine⟨_,rfl,D,_,rfl,hD8,_,rfl,_,rfl,_,_,rfl,rfl,_,rfl,abM (fun z=>?_) (fun z=>?_)⟩
      ·have z' := of_decide_eq_true z
       rw[wZ]at z'
       refine⟨_,rfl,(by show 1<=8;decide),fun xa hxa=>⟨xa,(most:Int),rfl,ae,LG #[2] #[2],fun d hd nd=>⟨rfl,d,?_,?_⟩⟩⟩
       ·rw[af (Ne.symm nd),ae]
       ·refine kx d _ (ps++qs++[st us[i] row.length]) ?_ ?_ G8.nd G8.re ?_
        ·intro b u eb
         have e8:=(s7.trans s8) _ _ eb
         have nb:b≠xa:=ah e8 hxa
         have nbd:b≠d:=ah (a:=b) (show(upd H8 xa _) b=some u by rw[af nb];exact e8) hd
         rw[lR nb,af nbd,af nb,af nb]
         exact e8
        ·rw[lR nd,ae]
        ·rw[jG,jS]
         omega
      have z':¬ (most:Int)<=((ps++qs).length:Int):=fun q=>z (decide_eq_true (by rw[wZ];exact q))
      rw[wZ]
      refine⟨_,rfl,_,rfl,_,rfl,D,_,rfl,Bo.t (k:=ir (st us[i] row.length)) hD8 (by rw[rO];exact hTh) (aA (by rw[wZ];omega)),?_⟩
      rw[W7 c]
      have hO8:=s8 _ _ hO7
      have hF8:=s8 _ _ hF7
      obtain⟨u',eu⟩:∃ u',st us[i] row.length=u' := ⟨_,rfl⟩
      rw[eu]at G8 hTh ⊢
      obtain⟨H9,e9⟩:∃ H9,upd H8 D (HO.dT (BE (ps++qs++[u']) 0))=H9:=⟨_,rfl⟩
      rw[e9]
      have o9:∀ b u,b≠D->H8 b=some u->H9 b=some u:=fun b u n e=>by rw[<- e9,af n];exact e
      have hF9:=o9 _ _ (Ne.symm nFD) hF8
      have hO9:=o9 _ _ (Ne.symm nOD) hO8
      have lfr:=TF7.length
      have lpq:(ps++qs).length=ps.length+qs.length:=jG
      refine⟨_,rfl,.inl ⟨rfl,_,cG hF9⟩,_,rfl,Fr,_,_,rfl,rfl,hF9,aA #[35],?_⟩
      have ad2:(upd H9 Fr (.lst (fr.map V.ref++[V.ref Th]))) Ro=some (.lst (row.map V.int)):=by rw[af (Ne.symm nOF)];exact hO9
      refine⟨_,rfl,.inl ⟨rfl,_,cG ad2⟩,_,rfl,Ro,_,_,rfl,rfl,ad2,aA #[35],?_⟩
      obtain⟨Eu,e11⟩:∃ Eu,upd (upd H9 Fr (.lst (fr.map V.ref++[V.ref Th]))) Ro (.lst (row.map V.int++[V.int ((ps++qs).length:Int)]))=Eu:=⟨_,rfl⟩
      have oth:∀ b u,b≠Ro->b≠Fr->b≠D->H8 b=some u->Eu b=some u:=fun b u n1 n2 n3 e=>by
       rw[<- e11,af n1,af n2];exact o9 _ _ n3 e
      have up8:∀ b xs,H8 b=some #[29]->Eu b=some #[29]:=fun b xs e=>oth b _ (aF e hO8 #[0]) (aF e hF8 #[0]) (aF e hD8 #[0]) e
      have up:∀ b xs,H7 b=some #[29]->Eu b=some #[29]:=fun b xs e=>up8 _ _ (s8 _ _ e)
      have s11:aH H0 Eu:=by
       rw[<- e11,<- e9]
       exact av (av (av (s7.trans s8) hD) fFr) fRo
      have ahj:Eu D=some (.dT (BE (ps++qs++[u']) 0)):=by rw[<- e11,af nOD,af nFD,<- e9,ae]
      have ahk:Eu Fr=some (.lst ((fr++[Th]).map V.ref)):=by rw[<- e11,af nOF,ae,jD];rfl
      have aht:Eu Ro=some (.lst ((row++[((ps++qs).length:Int)]).map V.int)):=by rw[<- e11,ae,jD];rfl
      have goal:∃ (BV qs':LL) (fr:List Zg) (ach:LI) (ajC v11 BK:OV),[some (V.ref x),some #[183],some (.int most),some (.ref g),some #[103],some (.ref RR),some (.ref L),some (.ref Fr),some (.ref pa),some (.ref Ro),some (.int (0+(row.length:Int))),some (.ref Th),some (.int ((ps++qs).length:Int))]=[some #[94],some #[183],some (.int most),some (.ref g),some #[103],some (.ref RR),some (.ref L),some (.ref Fr),some (.ref pa),some (.ref Ro),ajC,v11,BK]/\aH H0 Eu/\Eu D=some (.dT (BE BV 0))/\Eu RR=some #[296]/\aI Eu wj az/\Bp st b0 wide BV az us[i] ach/\BV.length<=most/\ach.length=row.length+1/\Eu Ro=some (.lst (ach.map V.int))/\BV=ps++qs'/\Eu Fr=some #[298]/\aI Eu fr qs'/\Eu L=some #[148]/\aI Eu lv us/\Eu pa=some (.tup (us[i].map V.int)):=
       ⟨ps++qs++[u'],qs++[u'],fr++[Th],row++[((ps++qs).length:Int)],_,_,_,rfl,s11,ahj,oth _ _ nOR nFR (Ne.symm nDR) (s8 _ _ T9),A7.same up,G8,by rw[jG,jS];omega,by rw[jG];rfl,aht,jv ..,ahk,aI.snoc (TF7.same up) (up8 _ _ hTh),oth _ _ nOL nFL (aF Ts T7 #[0]) (s8 _ _ Ts),TA7.same up,up _ _ Ry⟩
      rw[<- e11]at goal
      exact goal
    ·rintro σ' H7 ⟨BV,qs,fr,row,v10,v11,BK,rfl,s7,T7,T9,A7,G7,le7,lr7,hO7,rfl,hF7,TF7,Ts,TA7,Ry⟩
     rw[jC]at lr7
     exact aiW _ _ ⟨_,qs,fr,row,v10,v11,BK,rfl,s7,T7,T9,A7,G7,le7,lr7,hO7,rfl,hF7,TF7,Ts,TA7,Ry⟩
   ·rintro σ' H7 ⟨BV,qs,fr,row,v10,v11,BK,rfl,s7,T7,T9,A7,G7,le7,lr7,hO7,rfl,hF7,TF7,Ts,TA7,_⟩
    have lt7:=(hX G7.at_).1
    have lq:(ps++qs).length<=most:=le7
    refine⟨_,rfl,.inl ⟨rfl,_,cG T9⟩,_,rfl,Ro,_,rfl,.inl ⟨cG hO7,fun t ht=>?_⟩⟩
    have nRt:RR≠t:=ah T9 ht
    have s8:=ao ht (HO.tup (row.map V.int))
    have lra:=A7.length
    refine⟨RR,_,_,rfl,rfl,s8 _ _ T9,aA #[35],?_⟩
    have up:∀ b xs,H7 b=some #[29]->#[163] b=some #[29]:=fun b xs e=>by
     rw[af (aF e T9 #[0]),af (ah e ht)]
     exact e
    have oth:∀ b u,b≠RR->H7 b=some u->#[163] b=some u:=fun b u n e=>by
     rw[af n];exact s8 _ _ e
    refine⟨ps++qs,az++[row],qs,wj++[t],fr,_,_,_,_,_,rfl,av (s7.trans s8) fRR,oth _ _ nDR T7,by rw[ae,jD];rfl,aI.snoc (A7.same up) (by rw[af (Ne.symm nRt),ae]),G7.done lr7,le7,by rw[jG,jS,l5];rfl,rfl,oth _ _ (Ne.symm nFR) hF7,TF7.same up,oth _ _ (Ne.symm nRL) Ts,TA7.same up⟩
  ·rintro σ' H5 ⟨BV,az,qs,wj,fr,v8,v9,v10,v11,BK,rfl,s5,Rb,hR5,A5,G5,le5,l5,rfl,Rc,TF5,IB,TA5⟩
   rw[bz]at l5
   refine⟨_,rfl,most-az.length,?_,ps++qs,az,qs,wj,fr,Fr,some (.ref Fr),v8,v9,v10,v11,BK,rfl,rfl,s5,Rb,hR5,A5,G5,le5,Rc,nFR,TF5,?_⟩
   ·omega
   ·rw[l5,llu,<- pl,List.drop_append_of_le_length (jF _),zH,zq]
 rintro σ' H3 ⟨ps,aw,cM,v6,v7,v8,v9,v10,v11,BK,rfl,s3,AE,PL,A3,G,le3,el⟩
 refine⟨_,rfl,_,rfl,RR,_,rfl,.inl ⟨cG PL,fun rt V1=>?_⟩⟩
 have s4:=ao V1 (HO.tup #[51])
 refine⟨_,rfl,D,_,rfl,s4 _ _ AE,fun o=>?_⟩
 obtain⟨Hf,eHf⟩:∃ Hf,upd (upd H3 rt (HO.tup #[51])) D (.oN o (.dT (BE ps 0)))=Hf:=⟨_,rfl⟩
 have sf:aH H0 Hf:=by rw[<- eHf];exact av (s3.trans s4) hD
 have hDf:Hf D=some (.oN o (.dT (BE ps 0))):=by rw[<- eHf,ae]
 have upf:∀ b xs,(upd H3 rt (HO.tup #[51])) b=some #[29]->Hf b=some #[29]:=fun b xs e=>by
  rw[<- eHf,af (aF e (s4 _ _ AE) #[0])];exact e
 have lps:∀ u∈ps,FW u:=fun u hu'=>by
  obtain⟨v,hv,e⟩:=G.re u hu'
  rw[<- e]
  exact T.all hv
 have lm:=le3
 rw[eHf]
 refine IV (fun Dl i ys H'=>aH Hf H'/\ys=((ps.take i).map sg).map V.int) (fun Dl hDl=>⟨ao hDl _,rfl⟩) (fun Dl i ys H' _ ⟨e,_⟩=>e _ _ hDf) ?_ ?_
 ·rintro Dl i p b ys H4 Q' hDl hi hb hy ⟨s5,rfl⟩ k'
  obtain⟨u,hu',ep⟩:=W6 hi
  rw[ep,rO]at hb
  have il:=(hX hu').1
  have lu:=lps u (rj hu')
  refine⟨_,rfl,x,dx,_,rfl,s5 _ _ (sf _ _ hx),fG,_,rfl,T.sign _ _ _ b u (T.same _ _ (sf.trans s5) hW) hb lu fun H9 s9=>k' _ _ (s9 _ _ hy) #[81] ⟨av (s5.trans s9) hDl,?_⟩⟩
  rw[jU,hu',jD,jD]
  rfl
 ·rintro Dl ys H4 hDl hy ⟨s5,rfl⟩
  rw[wZ,jY]at hy
  refine⟨Dl,_,rfl,.inl ⟨cG hy,fun gt Rm=>?_⟩⟩
  have s6:=ao Rm (HO.tup ((ps.map sg).map V.int))
  refine⟨#[175],fun m' hm'=>?_⟩
  have s7:=ao hm' #[102]
  have s67:=s6.trans s7
  exact k m' rt gt aw ps _ (sf.trans (s5.trans s67)) ⟨ae,⟨cM,s67 _ _ (s5 _ _ (upf _ _ ae)),A3.same fun b xs e=>s67 _ _ (s5 _ _ (upf _ _ (s4 _ _ e)))⟩,s7 _ _ ae⟩ G el le3
end
def aaJ:Expr->Zi×Expr×Scope
 | .Lambda p b s _=>(p,b,s)
 | e=>(⟨[],[],none,[],[],none,[]⟩,e,{ kind:=ScopeKind.function,names:=[],isGenerator:=false,isCoroutine:=false,more:=[] })
def afa:Stmt->Expr
 | .Return (some e) _=>e
 | _=>.Name "" ⟨0,0,0,0⟩
def aeL:Expr:=afa ((cu mU).getD 0 #[300])
def oB:Zi×Expr×Scope:=aaJ aeL
def Fy:QB := "_law_rule" ++ ".<locals>." ++ "<lambda>"
def aeM:Expr:=afa ((cu dy).getD 0 #[300])
def ou:Zi×Expr×Scope:=aaJ aeM
def Fc:QB := "_law_rule_of_one" ++ ".<locals>." ++ "<lambda>"
theorem abS:wA ["_law_here","_law_there"] ["_law_times","_law_more","_law_below"] oB.2.2:=⟨rfl,rfl,rfl,by decide +kernel,by decide +kernel,by decide +kernel,by decide +kernel,by decide +kernel⟩
theorem ab1:wA ["_law_here"] ["_law_more"] ou.2.2:=⟨rfl,rfl,rfl,by decide +kernel,by decide +kernel,by decide +kernel,by decide +kernel,by decide +kernel⟩
def tG(t m bl a b:Int):Int:=(t*a+3*b+m)%bl
def Bm(m a:Int):Int:=(a*a+m)%(2+m%5)
structure ig(H:Hp)(f:Zg)(t m bl:Int):Prop where
 ex:∃ (c':Zg) (bc:List #[282]),bc.map (·.1)=(["_law_times","_law_more","_law_below"]:List QB)/\pw H f c' Fy oB.1 oB.2.1 oB.2.2 bc [.int t,.int m,.int bl]
 t0:0<=t
 t1:t<=1000
 b0:0<bl
structure px(H:Hp)(f:Zg)(m:Int):Prop where
 ex:∃ (c':Zg) (bc:List #[282]),bc.map (·.1)=(["_law_more"]:List QB)/\pw H f c' Fc ou.1 ou.2.1 ou.2.2 bc [.int m]
theorem pw.same{c':Zg}{bc:List #[282]}(L:pw H f c' qual params body scope bc IA)(s:∀ a p,H a=some (.ext p)->H' a=some (.ext p)):pw H' f c' qual params body scope bc IA:=
 ⟨s _ _ L.fn,s _ _ L.cd,Paired.Fb L.cl fun _ _ ⟨o,u,e,r,r1⟩=>⟨o,u,s _ _ e,r,r1⟩,L.nd⟩
theorem ig.same{t m:Int}(h:ig H f t m bl)(s:∀ a p,H a=some (.ext p)->H' a=some (.ext p)):ig H' f t m bl:=by
 obtain⟨⟨c',bc,h1,L⟩,t0,t1,b0⟩:=h
 exact⟨⟨c',bc,h1,pw.same L s⟩,t0,t1,b0⟩
theorem px.same{m:Int}(h:px H f m)(s:∀ a p,H a=some (.ext p)->H' a=some (.ext p)):px H' f m:=by
 obtain⟨⟨c',bc,h1,L⟩⟩:=h
 exact⟨⟨c',bc,h1,pw.same L s⟩⟩
theorem ig.Ow{t m:Int}(h:ig H f t m bl):FnV #[46] H:=by
 obtain⟨⟨c',bc,h1,L⟩,_⟩:=h
 exact⟨f,Fy,oB.1,oB.2.1,oB.2.2,bc,c',rfl,L.fn⟩
theorem px.Ow{m:Int}(h:px H f m):FnV #[46] H:=by
 obtain⟨⟨c',bc,h1,L⟩⟩:=h
 exact⟨f,Fc,ou.1,ou.2.1,ou.2.2,bc,c',rfl,L.fn⟩
def ae8:V->List V->Hp->VK->Prop:=fun v vs H Q=>∃ (f:Zg) (t m bl a b:Int),v=.ref f/\vs=[.int a,.int b]/\ig H f t m bl/\Q (.int (tG t m bl a b)) H
def ae7:V->List V->Hp->VK->Prop:=fun v vs H Q=>∃ (f:Zg) (m a:Int),v=.ref f/\vs=[.int a]/\px H f m/\(0<=a/\a<1000000)/\Q (.int (Bm m a)) H
def aiv:TE:=LD #[96] (LD #[156] (LD #[156] (LD #[187] (Dd 2) (Dd 0)) (LD #[187] (tC (.int 3)) (Dd 1))) (Dd 3)) (Dd 4)
def aiZ:TE:=LD #[96] (LD #[156] (LD #[187] (Dd 0) (Dd 0)) (Dd 1)) (LD #[156] (tC (.int 2)) (LD #[96] (Dd 1) (tC (.int 5))))
theorem E1{k:Nat}(hr:cI (k+1) X.A):LR X ae8:=by
 intro pins s σ H f0 vs us Q I r ⟨f,t,m,bl,a,b,e,ev,⟨⟨c',bc,hc,L⟩,t0,t1,b0⟩,q⟩
 subst ev
 refine RM (k:=k) (ps:=["_law_here","_law_there"]) (fr:=["_law_times","_law_more","_law_below"]) (params:=oB.1) (body:=oB.2.1) (scope:=oB.2.2) (te:=aiv) hr abS (fun us hl qual bc c' pm FG=>?_) (fun qual f c' bc s H FJ _=>?_) pins s σ H f0 _ us Q I r ⟨rfl,f,c',Fy,bc,[.int t,.int m,.int bl],e,hc,L,?_⟩
 ·match us,hl with
  | [u,v],_=>rfl
 ·exact bg cA (bg cJ (bg cJ (bg iZ (ow (i:=2) rfl #[311]) (ow (i:=0) rfl #[62])) (bg iZ aq (ow (i:=1) rfl #[62]))) (ow (i:=3) rfl #[311])) (ow (i:=4) rfl #[311])
 ·exists _,rfl,_,rfl,_,_,rfl,rfl,.inl ⟨by omega,by omega⟩,_,rfl,_,_,rfl,rfl,.inl ⟨by decide,by decide⟩,_,_,rfl,rfl,_,rfl,_,_,rfl,rfl,_,rfl,_,_,rfl,rfl,b0
  show Q (.int (tG t m bl a b)) (back H _ (less H _))
  rw[DJ]
  exact q
theorem EZ{k:Nat}(hr:cI (k+1) X.A):LR X ae7:=by
 intro pins s σ H f0 vs us Q I r ⟨f,m,a,e,ev,⟨⟨c',bc,hc,L⟩⟩,⟨a0,a1⟩,q⟩
 subst ev
 refine RM (k:=k) (ps:=["_law_here"]) (fr:=["_law_more"]) (params:=ou.1) (body:=ou.2.1) (scope:=ou.2.2) (te:=aiZ) hr ab1 (fun us hl qual bc c' pm FG=>?_) (fun qual f c' bc s H FJ _=>?_) pins s σ H f0 _ us Q I r ⟨rfl,f,c',Fc,bc,[.int m],e,hc,L,?_⟩
 ·match us,hl with
  | [u],_=>rfl
 ·exact bg cA (bg cJ (bg iZ (ow (i:=0) rfl #[62]) (ow (i:=0) rfl #[62])) (ow (i:=1) rfl #[311])) (bg cJ aq (bg cA (ow (i:=1) rfl #[311]) aq))
 ·have m5:=eF (a:=m) (b:=5) #[18]
  refine⟨_,rfl,_,rfl,_,_,rfl,rfl,.inl ⟨by omega,by omega⟩,_,rfl,_,_,rfl,rfl,_,rfl,_,_,rfl,rfl,#[213],_,_,rfl,rfl,_,_,rfl,rfl,by omega,?_⟩
  show Q (.int (Bm m a)) (back H _ (less H _))
  rw[DJ]
  exact q
def S9(Pt:Zg):Sp:=fun vs H Q _=>∃ t m bl:Int,vs=[.int t,.int m,.int bl]/\(0<=t/\t<=1000)/\0<bl/\H Pt=some (.BZ #[]) /\
 ∀ (f:Zg) (H':Hp),#[160]->ig H' f t m bl->Q #[46] H'
def S8(Pt:Zg):Sp:=fun vs H Q _=>∃ m:Int,vs=[.int m]/\H Pt=some (.BZ #[]) /\
 ∀ (f:Zg) (H':Hp),#[160]->px H' f m->Q #[46] H'
section
variable{c:Zg}
theorem Fo:aJ ["_law_times","_law_more","_law_below"] ["_law_times","_law_more","_law_below"] (aj mU):=cU #[4]
theorem sW:aJ ["_law_more"] ["_law_more"] (aj dy):=cU #[4]
theorem X9(F:bE K "_law_rule" "_law_rule" mU dV f fd)(hc:fd.code=.ref c)(kL:TC K mg base c Pt):bu P w K mg base eA 1 f fd ["_law_times","_law_more","_law_below"] (S9 Pt):=by
 refine F.okR (e:=aeL) hc Fo #[6] rfl (fun A outer s H vs Q E hr h=>?_)
 ·obtain⟨t,m,bl,rfl,_⟩:=h
  rfl
 obtain⟨t,m,bl,rfl,⟨t0,t1⟩,b0,TS,q⟩:=h
 exists 94
 have l1:=RL 0 "_law_times" (.int t) #[15] rfl rfl rfl rfl
 have l2:=RL 1 "_law_more" (.int m) (s.heap.objs.size+2) rfl rfl rfl rfl
 have l3:=RL 2 "_law_below" (.int bl) (s.heap.objs.size+3) rfl rfl rfl rfl
 have no:∀ b u,H' b=some u->BM b=some u:=fun b u e=>by
  rw[out b fun y hy=>?_]
  ·exact e
  ·have hm:=WK hy
   have hm':(y,b)∈[((("_law_below" : QB)),s.heap.objs.size+3),((("_law_more" : QB)),s.heap.objs.size+2),((("_law_times" : QB)),s.heap.objs.size+1)]:=by first|exact hm|exact zh.mp hm
   simp at hm'
   rcases hm' with⟨_,z⟩|⟨_,z⟩|⟨_,z⟩
   ·rw[z,l3.1]at e;cases e
   ·rw[z,l2.1]at e;cases e
   ·rw[z,l1.1]at e;cases e
 refine q fn BM (fun b u nP e=>no _ _ (keep b u nP e)) ⟨⟨c',_,?_,⟨no _ _ hfn,no _ _ FI,?_,?_⟩⟩,t0,t1,b0⟩
 ·rfl
 ·exact .cons l1.2 (.cons l2.2 (.cons l3.2 .nil))
 ·simp
theorem X8(F:bE K "_law_rule_of_one" "_law_rule_of_one" dy dV f fd)(hc:fd.code=.ref c)(kL:TC K mg base c Pt):bu P w K mg base eA 1 f fd ["_law_more"] (S8 Pt):=by
 refine F.okR (e:=aeM) hc sW #[6] rfl (fun A outer s H vs Q E hr h=>?_)
 ·obtain⟨m,rfl,_⟩:=h
  rfl
 obtain⟨m,rfl,TS,q⟩:=h
 exists 94
 have l1:=RL 0 "_law_more" (.int m) #[15] rfl rfl rfl rfl
 have no:∀ b u,H' b=some u->BM b=some u:=fun b u e=>by
  rw[out b fun y hy=>?_]
  ·exact e
  ·have hm:=WK hy
   have hm':(y,b)∈[((("_law_more" : QB)),s.heap.objs.size+1)]:=by first|exact hm|exact zh.mp hm
   simp at hm'
   rw[hm'.2,l1.1]at e
   cases e
 refine q fn BM (fun b u nP e=>no _ _ (keep b u nP e)) ⟨⟨c',_,?_,⟨no _ _ hfn,no _ _ FI,?_,?_⟩⟩⟩
 ·rfl
 ·exact .cons l1.2 .nil
 ·simp
end
structure PX(K:WC)(C:Zg):Prop where
 cl:DG K C
 n1:eW K C "one"
 n2:eW K C "other"
 n3:eW K C "rule"
def MR(C:Zg):Sp:=fun vs H Q _=>∃ (x dx o1 o2 fn:Zg),vs=[.ref x,.ref o1,.ref o2,.ref fn]/\H x=some (.ins C dx []) /\
 ∀ H':Hp,(∀ c u,c≠x->H c=some u->H' c=some u)->H' x=some #[209]->Q .non H'
structure IJ(H:Hp)(C CR x r1 g1 r2 g2 fn:Zg):Prop where
 ob:∃ dx o1 o2:Zg,H x=some #[209]/\FZ H CR o1 r1 g1/\FZ H CR o2 r2 g2
theorem IJ.same{CR x r1 g1 r2 g2 fn:Zg}(h:IJ H C CR x r1 g1 r2 g2 fn)(s:aH H H'):IJ H' C CR x r1 g1 r2 g2 fn:=by
 obtain⟨dx,o1,o2,h1,h2,h3⟩:=h.ob
 exact⟨dx,o1,o2,s _ _ h1,h2.same s,h3.same s⟩
def Dc(C CR:Zg):Sp:=fun vs H Q _=>∃ x r1 g1 r2 g2 fn:Zg,vs=[.ref x]/\IJ H C CR x r1 g1 r2 g2 fn/\∀ (T:Zg) (H':Hp),aH H H'->H' T=some (.tup [.int 0,.int 0])->Q (.ref T) H'
def Fu(C CR:Zg):Sp:=fun vs H Q _=>∃ (x r1 g1 r2 g2 fn m1 m2 t:Zg) (p q f:Int) (many1 aU wide:Nat) (aB az:LL) (ay aE:LI),vs=[.ref x,.ref t,.int f]/\IJ H C CR x r1 g1 r2 g2 fn/\aV H m1 r1 g1 wide aB ay/\aD many1 wide aB/\aV H m2 r2 g2 wide az aE/\aD aU wide az /\
 H t=some (.tup [.int p,.int q])/\(0<=p/\p<(many1:Int))/\(0<=q/\q<(aU:Int))/\(0<=f/\f<(wide:Int))/\∀ (T:Zg) (H':Hp),aH H H'->H' T=some (.tup [.int (stepI aB p f),.int (stepI az q f)])->Q (.ref T) H'
def Ft(C CR:Zg):Sp:=fun vs H Q _=>∃ (x r1 g1 r2 g2 fn m1 m2 t:Zg) (p q tt mm bl:Int) (wide:Nat) (aB az:LL) (ay aE:LI),vs=[.ref x,.ref t]/\IJ H C CR x r1 g1 r2 g2 fn/\aV H m1 r1 g1 wide aB ay/\aV H m2 r2 g2 wide az aE/\ig H fn tt mm bl /\
 H t=some (.tup [.int p,.int q])/\(0<=p/\p<(ay.length:Int))/\(0<=q/\q<(aE.length:Int))/\Q (.int (tG tt mm bl (ay.getD p.toNat 0) (aE.getD q.toNat 0))) H
section
variable{CR:Zg}
theorem sU:aJ ["self","one","other","rule"] ["self","one","other","rule"] (aj fc):=cU #[4]
theorem AO:aJ ["self"] ["self"] (aj lC):=cU #[4]
theorem BG:aJ ["self","place","figure"] ["self","place","figure"] (aj mG):=cU #[4]
theorem pW:aJ ["self","place","rule"] ["self","place"] (aj mF):=cU #[4]
theorem R6(F:bE K "__init__" "Pairing.__init__" fc dV f fd)(pc:PX K C):bu P w K mg base eA 1 f fd ["self","one","other","rule"] (MR C):=by
 refine F.ok sU #[6] #[1]
 ·obtain⟨x,dx,o1,o2,fn,rfl,_⟩:=h
  rfl
 obtain⟨x,dx,o1,o2,fn,rfl,hx,k⟩:=h
 refine⟨_,(ak (pM (pv 0) (pv 1) rfl)
   (ak (pM (pv 0) (pv 2) rfl)
   (au (pM (pv 0) (pv 3) rfl)))),?_⟩
 refine⟨_,rfl,_,rfl,x,C,dx,[],rfl,hx,pc.cl,pc.n1,by decide,?_⟩
 refine⟨_,rfl,_,rfl,x,C,dx,_,rfl,ae,pc.cl,pc.n2,by show 1<1000;decide,?_⟩
 refine⟨_,rfl,_,rfl,x,C,dx,_,rfl,ae,pc.cl,pc.n3,by show 2<1000;decide,?_⟩
 refine k _ (fun c u hc e=>?_) ae
 rw[af hc,af hc,af hc]
 exact e
theorem Lm(F:bE K "begin" "Pairing.begin" lC dV f fd)(pc:PX K C)(DH:mM P w K mg base CR "begin" 1 ["self"] Iu):bu P w K mg base eA 2 f fd ["self"] (Dc C CR):=by
 refine F.ok AO #[6] #[1]
 ·obtain⟨x,r1,g1,r2,g2,fn,rfl,_⟩:=h
  rfl
 obtain⟨x,r1,g1,r2,g2,fn,rfl,⟨dx,o1,o2,hx,⟨d1,h1⟩,⟨d2,h2⟩⟩,q⟩:=h
 exists _,(au (aW (eI (aa (CQ DH hr #[31]) (aa (CQ DH hr #[31]) ag)))))
 exists _,rfl,x,C,dx,_,_,rfl,hx,pc.cl,pc.n1,rfl,o1,d1,_,rfl,h1,rfl,o1,rfl
 exists _,rfl,x,C,dx,_,_,rfl,hx,pc.cl,pc.n2,rfl,o2,d2,_,rfl,h2,rfl,o2,rfl
 exact⟨#[64],fun T hT=>q T _ (ao hT _) ae⟩
theorem O5(F:bE K "step" "Pairing.step" mG dV f fd)(pc:PX K C)(FU:mM P w K mg base CR "step" 1 ["self","place","figure"] (MV CR)):bu P w K mg base eA 2 f fd ["self","place","figure"] (Fu C CR):=by
 refine F.ok BG #[6] #[1]
 ·obtain⟨x,r1,g1,r2,g2,fn,m1,m2,t,p,q,fg,many1,aU,wide,aB,az,ay,aE,rfl,_⟩:=h
  rfl
 obtain⟨x,r1,g1,r2,g2,fn,m1,m2,t,p,q,fg,many1,aU,wide,aB,az,ay,aE,rfl,⟨dx,o1,o2,hx,R1,R2⟩,M1,O1,M2,O2,ht,hp,hq,hf,k⟩:=h
 obtain⟨d1,h1⟩:=R1.ob
 obtain⟨d2,h2⟩:=R2.ob
 refine⟨_,(au (aW (eI (aa (tF FU hr #[31] (aa #[36] #[66])) (aa (tF FU hr #[31] (aa #[36] #[66])) ag))))),?_⟩
 exists _,rfl,x,C,dx,_,_,rfl,hx,pc.cl,pc.n1,rfl,o1,d1,_,rfl,h1,rfl,_,rfl,t,_,_,_,rfl,rfl,bJ ht,rfl,_,rfl,o1,m1,r1,g1,p,fg,many1,wide,aB,ay,rfl,R1,M1,O1,hp,hf
 exists _,rfl,x,C,dx,_,_,rfl,hx,pc.cl,pc.n2,rfl,o2,d2,_,rfl,h2,rfl,_,rfl,t,_,_,_,rfl,rfl,bJ ht,rfl,_,rfl,o2,m2,r2,g2,q,fg,aU,wide,az,aE,rfl,R2,M2,O2,hq,hf
 exact⟨#[64],fun T hT=>k T _ (ao hT _) ae⟩
theorem O4(F:bE K "sign" "Pairing.sign" mF dV f fd)(pc:PX K C)(FT:mM P w K mg base CR "sign" 1 ["self","place"] (MU CR)):bu P w K mg base eA 2 f fd ["self","place"] (Ft C CR):=by
 refine F.ok pW #[6] #[1]
 ·obtain⟨x,r1,g1,r2,g2,fn,m1,m2,t,p,q,tt,mm,bl,wide,aB,az,ay,aE,rfl,_⟩:=h
  rfl
 obtain⟨x,r1,g1,r2,g2,fn,m1,m2,t,p,q,tt,mm,bl,wide,aB,az,ay,aE,rfl,⟨dx,o1,o2,hx,R1,R2⟩,M1,M2,RU,ht,hp,hq,k⟩:=h
 obtain⟨d1,h1⟩:=R1.ob
 obtain⟨d2,h2⟩:=R2.ob
 refine⟨_,(ak (aL (i:=2) pW.nd #[31])
   (au (aW (oV (pv 2) (aa (tF FT hr #[31] (aa #[36] ag)) (aa (tF FT hr #[31] (aa #[36] ag)) ag)) ((E1 hr)))))),?_⟩
 exists _,rfl,x,C,dx,_,_,rfl,hx,pc.cl,pc.n3,rfl
 exists _,rfl,RU.Ow
 exists _,rfl,x,C,dx,_,_,rfl,hx,pc.cl,pc.n1,rfl,o1,d1,_,rfl,h1,rfl,_,rfl,t,_,_,_,rfl,rfl,bJ ht,rfl,o1,m1,r1,g1,p,wide,aB,ay,rfl,R1,M1,hp
 exists _,rfl,x,C,dx,_,_,rfl,hx,pc.cl,pc.n2,rfl,o2,d2,_,rfl,h2,rfl,_,rfl,t,_,_,_,rfl,rfl,bJ ht,rfl,o2,m2,r2,g2,q,wide,az,aE,rfl,R2,M2,hq
 exact⟨RU.Ow,fn,tt,mm,bl,_,_,rfl,rfl,RU,k⟩
end
theorem HK(R:aD many wide rows){f:Int}(y0:0<=y)(y1:y<(many:Int))(f0:0<=f)(f1:f<(wide:Int)):0<=stepI rows y f/\stepI rows y f<(many:Int):=by
 obtain⟨r0,rl,rv⟩:=R
 have l:y.toNat<rows.length:=by omega
 have e:rows.getD y.toNat []=rows[y.toNat]:=by rw[jN,jA l];rfl
 have hm:=jH l
 have l2:f.toNat<rows[y.toNat].length:=by rw[rl _ hm];omega
 have e2:rows[y.toNat].getD f.toNat 0=rows[y.toNat][f.toNat]:=by rw[jN,jA l2];rfl
 unfold stepI
 rw[e,e2]
 exact rv _ hm _ (jH l2)
theorem fh[DecidableEq α]:∀ {ps vs:List α},ps.Nodup->(∀ p∈ps,p∈vs)->ps.length<=vs.length
 | [],_,_,_=>jb _
 | p :: ps,vs,nd,h=>by
  have DD:=jh.mp nd
  have hp:=h p jE
  have:=fh (vs:=vs.erase p) DD.2 fun q hq=>#[250].mpr (h q (jK _ hq))
  rw[Jp hp]at this
  have:=JO hp
  rw[jc]
  omega
def P4(n m:Nat):LL:=(jn n).flatMap fun p:Nat=>(jn m).map fun q:Nat=>[(p:Int),(q:Int)]
theorem DR(m:Nat):∀ n,(P4 n m).length=n*m
 | 0=>by rw[Nat.zero_mul];rfl
 | n+1=>by
  have ih:=DR m n
  unfold P4 at ih ⊢
  rw[JP,ZK,jG,ih,zX,ZX,jr,bz,ju,Nat.succ_mul]
def Ob(many1 aU:Nat)(u:LI):Prop := ∃ p q:Int,u=[p,q]/\(0<=p/\p<(many1:Int))/\(0<=q/\q<(aU:Int))
theorem Ed{ps:LL}(nd:ps.Nodup)(h:∀ p∈ps,Ob many1 aU p):ps.length<=many1*aU:=by
 have:=fh (vs:=P4 many1 aU) nd fun u hu=>by
  obtain⟨p,q,rfl,p0,q0⟩:=h u hu
  exact zk.mpr ⟨p.toNat,js.mpr #[2],jM.mpr ⟨q.toNat,js.mpr #[2],by rw[jd p0.1,jd q0.1]⟩⟩
 rw[DR]at this
 exact this
def HV(aB az:LL)(u:LI)(f:Nat):LI:=[stepI aB (u.getD 0 0) (f:Int),stepI az (u.getD 1 0) (f:Int)]
def prG(ru:Int->Int->Int)(ay aE:LI)(u:LI):Int:=ru (ay.getD (u.getD 0 0).toNat 0) (aE.getD (u.getD 1 0).toNat 0)
def Rg(st:LI->Nat->LI)(b0:LI)(N:Nat)(p:LI):Prop := ∃ v,rE N v/\MF st b0 v=p
section
variable{st:LI->Nat->LI}{N:Nat}
theorem Rg.start:Rg st b0 N b0:=⟨[],(fun f h=>by cases h),rfl⟩
theorem Rg.step{p:LI}(h:Rg st b0 N p){f:Nat}(hf:f<N):Rg st b0 N (st p f):=by
 obtain⟨v,hv,e⟩:=h
 refine⟨v++[(f:Int)],fun g hg=>?_,?_⟩
 ·rcases wb.mp hg with z|z
  ·exact hv g z
  ·rw[jI.mp z];omega
 ·rw[HU,e,jC]
theorem Rg.all{φ:LI->Prop}(h0:φ b0)(h:∀ p,φ p->∀ f:Nat,f<N->φ (st p f))(hp:Rg st b0 N p):φ p:=by
 obtain⟨v,hv,e⟩:=hp
 subst e
 have:∀ (v:LI) (u:LI),φ u->rE N v->φ (MF st u v):=by
  intro v
  induction v with
  | nil=>intro u hu _;exact hu
  | cons f v ih =>
   intro u hu hi
   have hf:=hi f jE
   exact ih _ (h u hu f.toNat #[2]) fun g hg=>hi g (jK _ hg)
 exact this v b0 h0 hv
theorem DI.rg{ps:LL}(g:DI st b0 N ps aB)(h:aB.length=ps.length):p∈ps↔Rg st b0 N p:=
 ⟨fun hp=>g.re p hp,fun⟨v,hv,e⟩=>by
  obtain⟨k,_,h2⟩:=g.told h hv
  rw[e]at h2
  exact rj h2⟩
theorem SO{ps:LL}(nd:ps.Nodup)(DD:ms.Nodup)(h:∀ p,p∈ps↔Rg st b0 N p)(h':∀ p,p∈ms↔Rg st b0 N p):ps.length=ms.length:=
 zr (fh nd fun p hp=>(h' p).mpr ((h p).mp hp)) (fh DD fun p hp=>(h p).mpr ((h' p).mp hp))
end
section
variable{ru:Int->Int->Int}
theorem Sz(R1:aD many1 wide aB)(R2:aD aU wide az){f:Nat}(o:Ob many1 aU u)(hf:f<wide):Ob many1 aU (HV aB az u f):=by
 obtain⟨p,q,rfl,p0,q0⟩:=o
 exact⟨_,_,rfl,HK R1 p0.1 p0.2 #[2] #[2],HK R2 q0.1 q0.2 #[2] #[2]⟩
theorem Sy(m1:1<=many1)(m2:1<=aU):Ob many1 aU [0,0]:=⟨0,0,rfl,by omega,by omega⟩
theorem SQ(R1:aD many1 wide aB)(R2:aD aU wide az)(m1:1<=many1)(m2:1<=aU)(h:Rg #[220] [0,0] wide p):Ob many1 aU p:=
 Rg.all (Sy m1 m2) (fun _ o _ hf=>Sz R1 R2 o hf) h
theorem HW:∀ (v:LI) (p q:Int),rE wide v->MF #[220] [p,q] v=[aP aB v p,aP az v q]
 | [],_,_,_=>rfl
 | f :: v,p,q,h=>by
  have hf:=h f jE
  have e:((f.toNat:Nat):Int)=f:=by omega
  have:=HW v (stepI aB p f) (stepI az q f) fun g hg=>h g (jK _ hg)
  show MF #[220] [stepI aB p ((f.toNat:Nat):Int),stepI az q ((f.toNat:Nat):Int)] v=_
  rw[e]
  exact this
structure AZ(wide:Nat)(aB az:LL)(ay aE:LI)(ru:Int->Int->Int)(aw:LL)(aN:LI)(k:Nat):Prop where
 ex:∃ (ps Bl:LL),DI #[220] [0,0] wide ps Bl/\Bl.length=ps.length/\cH wide Bl aw (ps.map (prG ru ay aE)) aN/\k=ps.length
theorem AZ.told{k:Nat}(h:AZ wide aB az ay aE ru aw aN k)(hv:rE wide v):sgn aN (aP aw v 0)=ru (sgn ay (aP aB v 0)) (sgn aE (aP az v 0)):=by
 obtain⟨ps,Bl,G,el,LO,en⟩:=h.ex
 obtain⟨j,h1,h2⟩:=G.told el hv
 rw[HW v 0 0 hv]at h2
 rw[<- LO.tells v hv,h1]
 unfold sgn
 rw[jC,jN,jP,h2]
 rfl
theorem AZ.one{k kB:Nat}(h:AZ wide aB az ay aE ru aw aN k)(hB:AZ wide aB az ay aE ru MM Fq kB):(aw=MM/\aN=Fq)/\k=kB:=by
 obtain⟨ps,Bl,G,el,LO,en⟩:=h.ex
 obtain⟨ps2,alc,G2,el2,LO2,en2⟩:=hB.ex
 refine⟨cH.one LO LO2 fun v hv=>?_,?_⟩
 ·have t1:=h.told hv
  have t2:=hB.told hv
  rw[LO.tells v hv,LO2.tells v hv,t1,t2]
 ·rw[en,en2]
  exact SO G.nd G2.nd (fun p=>G.rg el) fun p=>G2.rg el2
structure B2(wide:Nat)(rows:LL)(signs:LI)(ru:Int->Int)(aw:LL)(aN:LI):Prop where
 ex:∃ (Eh:LL) (AS:LI),cH wide rows Eh signs AS/\cH wide Eh aw (AS.map ru) aN
theorem B2.told{signs:LI}{ru:Int->Int}(h:B2 wide rows signs ru aw aN)(hv:rE wide v):sgn aN (aP aw v 0)=ru (sgn signs (aP rows v 0)):=by
 obtain⟨Eh,AS,L1,L2⟩:=h.ex
 rw[<- L2.tells v hv,L1.tells v hv]
 have w:=fX L1.ok (ns:=v) (h:=0) hv #[2] (by have:=L1.pos;omega)
 have lt:(aP Eh v 0).toNat<AS.length:=by rw[L1.sgn];omega
 unfold sgn
 rw[getD_at (by rw[bz];exact lt),JV,getD_at lt]
theorem B2.one{signs:LI}{ru:Int->Int}(h:B2 wide rows signs ru aw aN)(hB:B2 wide rows signs ru MM Fq):aw=MM/\aN=Fq:=by
 obtain⟨Eh,AS,L1,L2⟩:=h.ex
 obtain⟨ald,ajk,L3,L4⟩:=hB.ex
 exact cH.one L2 L4 fun v hv=>by rw[L2.tells v hv,L4.tells v hv,h.told hv,hB.told hv]
end
def Al(CT:Zg):Sp:=fun vs H Q E=>∃ (m1 r1 g1 m2 r2 g2 fn:Zg) (many1 aU wide most:Nat) (aB az:LL) (ay aE:LI) (tt mm bl:Int),vs=[.ref m1,.ref m2,.ref fn,.int most]/\aV H m1 r1 g1 wide aB ay/\aD many1 wide aB/\ay.length=many1/\aV H m2 r2 g2 wide az aE/\aD aU wide az/\aE.length=aU/\(1<=many1/\1<=aU)/\wide<=1000/\(1<=most/\most<=900)/\ig H fn tt mm bl /\
 (∀ (m' r' g':Zg) (aw:LL) (aN:LI) (k:Nat) (H':Hp),aH H H'->aV H' m' r' g' wide aw aN->AZ wide aB az ay aE (tG tt mm bl) aw aN k->k<=most->Q (.ref m') H') /\
 ∀ (d:Zg) (H':Hp) (ps:LL),aH H H'->H' d=some (.xd [("most",.int most)])->ps.Nodup->(∀ p∈ps,Rg #[220] [0,0] wide p)->most<ps.length->E (.ref CT) (some d) H'
def Ek:Sp:=fun vs H Q _=>∃ (m r g fn:Zg) (many wide:Nat) (rows:LL) (signs:LI) (mm:Int),vs=[.ref m,.ref fn]/\aV H m r g wide rows signs/\aD many wide rows/\signs.length=many/\(1<=many/\many<1000)/\wide<=1000/\px H fn mm/\#[253] /\
 ∀ (m' r' g':Zg) (aw:LL) (aN:LI) (H':Hp),aH H H'->aV H' m' r' g' wide aw aN->B2 wide rows signs (Bm mm) aw aN->Q (.ref m') H'
theorem fO(s:aH H H'):∀ a p,H a=some (.ext p)->H' a=some (.ext p):=fun _ _ e=>s _ _ e
theorem Y4{CR x m1 r1 g1 m2 r2 g2 fn:Zg}{tt mm:Int}(R1:aD many1 wide aB)(R2:aD aU wide az)(l1:ay.length=many1)(l2:aE.length=aU)(n1:1<=many1)(n2:1<=aU):
  Wlk C x wide (fun H=>IJ H C CR x r1 g1 r2 g2 fn/\aV H m1 r1 g1 wide aB ay/\aV H m2 r2 g2 wide az aE/\ig H fn tt mm bl) (Ob many1 aU) #[220] [0,0] (prG (tG tt mm bl) ay aE) (Dc C CR) (Fu C CR) (Ft C CR) where
 same:=fun H H' s h=>⟨h.1.same s,h.2.1.same (fun a xs e=>s _ _ e),h.2.2.1.same (fun a xs e=>s _ _ e),h.2.2.2.same (fO s)⟩
 ob:=fun H h=>by
  obtain⟨dx,o1,o2,h1,_⟩:=h.1.ob
  exact⟨dx,_,h1,rfl,rfl,rfl⟩
 begin:=fun H Q E h q=>⟨x,r1,g1,r2,g2,fn,rfl,h.1,fun t H' s ht=>q t H' s ht⟩
 step:=fun H Q E bb u f fi e h hb o hf q=>by
  subst e
  obtain⟨p,r,rfl,p0,q0⟩:=o
  exact⟨x,r1,g1,r2,g2,fn,m1,m2,bb,p,r,(f:Int),many1,aU,wide,aB,az,ay,aE,rfl,h.1,h.2.1,R1,h.2.2.1,R2,hb,p0,q0,by omega,fun T H' s hT=>q T H' s hT⟩
 sign:=fun H Q E bb u h hb o q=>by
  obtain⟨p,r,rfl,p0,q0⟩:=o
  exact⟨x,r1,g1,r2,g2,fn,m1,m2,bb,p,r,tt,mm,bl,wide,aB,az,ay,aE,rfl,h.1,h.2.1,h.2.2.1,h.2.2.2,hb,by omega,by omega,q H fun _ _ e=>e⟩
 ok0:=Sy n1 n2
 okS:=fun u f o hf=>Sz R1 R2 o hf
section
variable{CR:Zg}
theorem Ph:aJ ["one","other","rule","most"] ["one","other","rule","most"] (aj C6):=cU #[4]
theorem C7:aJ ["machine","rule","small"] ["machine","rule"] (aj sJ):=cU #[4]
theorem wM:bA ["machine","rule","small"] (aj sJ) ["sign","rule"] [none,some 1] ⟨.function,[#[65],("sign",.local),("rule",.free)],false,false,[]⟩:=rh #[4]
theorem Eb(F:bE K "paired" "paired" C6 dV f fd)(pe:FQ P w K mg base "Pairing" C 1 ["self","one","other","rule"] (MR C))(me:FQ P w K mg base "Reading" CR 1 ["self","machine"] (MT CR))(wy:sX P w K mg base "grown" 3 ["walk","wide","most"] [] (Ik C CT (Dc C CR) (Fu C CR) (Ft C CR)))(mP:cx P w K mg base "least" 5 ["machine"] [] (Fs K)):bu P w K mg base (LU P w) 6 f fd ["one","other","rule","most"] (Al CT):=by
 refine F.aeZ Ph #[6] #[1]
 ·obtain⟨m1,r1,g1,m2,r2,g2,fn,many1,aU,wide,most,aB,az,ay,aE,tt,mm,bl,rfl,_⟩:=h
  rfl
 obtain⟨m1,r1,g1,m2,r2,g2,fn,many1,aU,wide,most,aB,az,ay,aE,tt,mm,bl,rfl,M1,R1,l1,M2,R2,l2,⟨n1,n2⟩,w1,mo,RU,k,kx⟩:=h
 refine⟨_,(au (aW (ae3 mP hr (aa (ab6 wy hr Pb (aa (Fg pe hr (aa (Fg me hr #[122]) (aa (Fg me hr #[121]) #[66]))) (aa #[12] #[91]))) ag)))),?_⟩
 have new:∀ {H:Hp} {x dx c:Zg},H x=none->H dx=none->aH H (upd (upd H dx (.own x)) x (.ins c dx [])):=fun hx hdx b u e=>by rw[af (ah e hx),af (ah e hdx)];exact e
 refine⟨_,rfl,fun x1 d1 J4 Rh ne1=>?_⟩
 have s1:=new (c:=CR) J4 Rh
 refine⟨x1,d1,m1,r1,g1,wide,aB,ay,rfl,ae,M1.same (fun b xs e=>s1 _ _ e),fun H2 Tu Rd1=>⟨rfl,?_⟩⟩
 have s2:aH H H2:=fun b u e=>Tu b u (ah e J4) (s1 _ _ e)
 refine⟨_,rfl,fun x2 d2 V5 hd2 ne2=>?_⟩
 have s3:=new (c:=CR) V5 hd2
 refine⟨x2,d2,m2,r2,g2,wide,az,aE,rfl,ae,M2.same (fun b xs e=>s3 _ _ (s2 _ _ e)),fun H3 D5 Rd2=>⟨rfl,?_⟩⟩
 have s23:aH H2 H3:=fun b u e=>D5 b u (ah e V5) (s3 _ _ e)
 refine⟨_,rfl,fun x dx hx hdx ne=>?_⟩
 have s4:=new (c:=C) hx hdx
 refine⟨x,dx,x1,x2,fn,rfl,ae,fun H4 W2 J5=>⟨rfl,?_⟩⟩
 have s34:aH H3 H4:=fun b u e=>W2 b u (ah e hx) (s4 _ _ e)
 have PR:=s23.trans s34
 have S:=s2.trans PR
 have M14:=M1.same fun b xs e=>S _ _ e
 exists _,rfl,m1,_,_,_,rfl,rfl,bJ M14.tup,rfl,_,rfl
 refine⟨x,wide,most,_,_,_,[0,0],prG (tG tt mm bl) ay aE,rfl,⟨⟨dx,x1,x2,J5,Rd1.same PR,Rd2.same s34⟩,M14,M2.same (fun b xs e=>S _ _ e),RU.same (fO S)⟩,Y4 R1 R2 l1 l2 n1 n2,by omega,⟨mo.1,by omega⟩,fun m3 r3 g3 cW ps H5 s5 M5 G el le=>?_,fun d H5 ps s5 hd nd re lt=>kx d H5 ps (S.trans s5) hd nd re lt⟩
 refine⟨m3,r3,g3,ps.length,wide,cW,ps.map (prG (tG tt mm bl) ay aE),rfl,M5,?_,jQ _,⟨?_,by omega⟩,by omega,fun m6 r6 g6 afb acj H6 s6 M6 LO=>k m6 r6 g6 afb acj ps.length H6 ((S.trans s5).trans s6) M6 ⟨ps,cW,G,el,LO,rfl⟩ le⟩
 ·rw[<- el]
  exact G.ok el
 ·have:=(hX G.hd).1
  omega
theorem Lh(F:bE K "changed" "changed" sJ dV f fd)(mP:cx P w K mg base "least" 5 ["machine"] [] (Fs K))(aR:mg "tuple" = none):bu P w K mg base eA 6 f fd ["machine","rule"] Ek:=by
 refine F.ok C7 #[6] #[1]
 ·obtain⟨m,r,g,fn,many,wide,rows,signs,mm,rfl,_⟩:=h
  rfl
 obtain⟨m,r,g,fn,many,wide,rows,signs,mm,rfl,M,R,ls,⟨n1,n2⟩,w1,RU,hz,k⟩:=h
 refine⟨_,(ak (aL (i:=2) C7.nd (bF mP hr #[122]))
   (au (aW (bF mP hr (aa (eI (aa #[101] (aa #[101] (aa (aQ aZ #[42] aR bO (aa (di rfl wM (mB #[101]) (fun _ _ _ _=>(bB (i:=0) wM.nd)) (fun _ _ _ _=>(oV (pv 1) #[122] ((EZ hr))))) ag)) ag)))) ag))))),?_⟩
 refine⟨_,rfl,m,r,g,many,wide,rows,signs,rfl,M,R,ls,⟨n1,n2⟩,w1,fun m1 r1 g1 aB ay H1 s1 M1 L1=>?_⟩
 have BC:=L1.BC R n1
 have sg1:=L1.sgn
 have hz1:=L1.signs R n1 ls hz
 exists 2
 exists _,rfl,m1,_,_,_,rfl,rfl,bJ M1.tup,rfl,_,rfl,m1,_,_,_,rfl,rfl,bJ M1.tup,rfl,_,rfl,m1,_,_,_,rfl,rfl,bJ M1.tup,rfl,g1,rfl,⟨_,bJ M1.sgn⟩
 refine oK (K:=K) (xs:=ay.map V.int) (fun D i ys H'=>aH H1 H'/\ys=((ay.take i).map (Bm mm)).map V.int) #[281] (fun D i ys H' _ ⟨e,_⟩=>bJ (e _ _ M1.sgn)) ?_ ?_
 ·rintro D i y ys H2 Q' hD hi hy ⟨s2,rfl⟩ k'
  obtain⟨z,rfl,hz2⟩:=bU hi
  have RU2:=RU.same (fO (s1.trans s2))
  have il:=(hX hz2).1
  refine⟨_,rfl,RU2.Ow,_,rfl,RU2.Ow,fn,mm,z,rfl,rfl,RU2,hz1 z (rj hz2),k' _ _ hy #[81] ⟨av s2 hD,?_⟩⟩
  rw[jU,hz2,jD,jD]
  rfl
 rintro D ys H2 hD hy ⟨s2,rfl⟩
 rw[bz,jY]at hy
 refine⟨D,_,rfl,.inl ⟨cG hy,fun gt Rm=>?_⟩⟩
 have s3:=ao Rm (HO.tup ((ay.map (Bm mm)).map V.int))
 refine⟨#[175],fun m2 hm2=>?_⟩
 have s4:=ao hm2 (HO.tup [V.int wide,V.ref r1,V.ref gt])
 have PR:=s2.trans (s3.trans s4)
 obtain⟨cM,hr1,hA1⟩:=M1.rows
 have M2:aV _ m2 r1 gt wide aB (ay.map (Bm mm)):=⟨ae,⟨cM,PR _ _ hr1,hA1.same fun b xs e=>PR _ _ e⟩,s4 _ _ ae⟩
 exact⟨m2,r1,gt,aB.length,wide,aB,_,rfl,M2,L1.ok,by rw[bz,sg1],⟨L1.pos,by omega⟩,w1,fun m3 r3 g3 cW cZ H5 s5 M5 L5=>k m3 r3 g3 cW cZ H5 (s1.trans (PR.trans s5)) M5 ⟨aB,ay,L1,L5⟩⟩
end
def S0(K:WC):Sp:=fun vs H Q _=>∃ (a:Zg) (k:Int) (ns:LI),vs=[.ref a,.int k]/\pZ K H a #[45]/\ns.length<=63/\0<=k/\k<1000000 /\
 ∀ v:Int,0<=v->v<2147483399->Q (.int v) H
section
theorem mK:aJ ["_law_script","_law_k","_law_number_here"] ["_law_script","_law_k"] (aj oz):=cU #[4]
theorem abZ(F:bE K "_law_number" "_law_number" oz dV f fd)(bj:mg "len" = none):bu P w K mg base eA 1 f fd ["_law_script","_law_k"] (S0 K):=by
 refine F.ok mK #[6] #[1]
 ·obtain⟨a,k,ns,rfl,_⟩:=h
  rfl
 obtain⟨a,k,ns,rfl,hS,DX,h0,h1,q⟩:=h
 have hl:#[45].length=ns.length:=jQ _
 refine⟨_,(ak (cV (bV MA (pv 1) #[30] (bI _)) (au (aW (bg cA (aC iC (pv 0) (pv 1) #[3]) aq))) bM)
   (ak (aL (i:=2) mK.nd (bg cJ (bg cJ (bg iZ (bg iZ aq (pv 1)) (pv 1)) (bg iZ aq (pv 1))) aq))
   (ak (cV (bV HM #[30] aq (bI _)) (au (aL (i:=2) mK.nd (bg iZ (pv 2) (bg cJ (bg cA (aC iC (pv 0) (bg cA (pv 1) #[30]) #[3]) aq) aq)))) bM)
   (au (aW (bg cA (bg iZ (pv 2) aq) aq)))))),?_⟩
 have fin:∀ c:Int,Q (.int (c*40692%2147483399)) H:=fun c=>by
  have r:=eF (a:=c*40692) (b:=2147483399) #[18]
  exact q _ r.1 r.2
 refine⟨_,rfl,_,rfl,a,_,rfl,.inl hS,_,_,rfl,rfl,_,rfl,sS #[90] #[90]⟩
 ·rw[hl]at c
  have r:=eF (a:=ns.getD k.toNat 0) (b:=1000000007) #[18]
  exact⟨_,rfl,_,rfl,a,_,_,_,rfl,rfl,hS,bK h0 c,_,_,rfl,rfl,(by show(0:Int)<1000000007;decide),q _ r.1 #[2]⟩
 exists _,rfl,_,_,rfl,rfl,.inl ⟨by decide,by decide⟩,_,rfl,_,_,rfl,rfl,.inr ⟨by omega,by omega⟩,_,rfl,_,_,rfl,rfl,.inl ⟨by decide,by decide⟩,_,_,rfl,rfl,_,_,rfl,rfl
 exists _,rfl,a,_,rfl,.inl hS,_,_,rfl,rfl,_,rfl
 refine sS #[90] #[90]
 ·have c':(0:Int)<((#[45].length:Nat):Int):=c
  have m0:=ZY k (show((#[45].length:Nat):Int)≠0 by omega)
  have m1:=ZP k c'
  have m2:=eF (a:=ns.getD (k%((#[45].length:Nat):Int)).toNat 0) (b:=65521) #[18]
  refine⟨_,rfl,_,rfl,_,rfl,_,rfl,a,_,rfl,.inl hS,_,_,rfl,rfl,c',a,_,_,_,rfl,rfl,hS,bK m0 (by rw[<- hl];exact m1),_,_,rfl,rfl,(by show(0:Int)<65521;decide),_,_,rfl,rfl,_,_,rfl,rfl,.inr ⟨by omega,by omega⟩,?_⟩
  exists 45
 ·exists 45
end
def MX:Sp:=fun vs H Q _=>∃ n:Int,vs=[.int n]/\0<=n/\∀ v:Int,0<=v->v<1000000->Q (.int v) H
def MP(K:WC):Sp:=fun vs H Q _=>∃ (a:Zg) (st:Int) (many wide:Nat) (xs:LI),vs=[.ref a,.int st,.int wide,.int many]/\pZ K H a (xs.map V.int)/\xs.length<=63/\(0<=st/\st<100)/\(1<=many/\many<=10)/\(1<=wide/\wide<=100) /\
 ∀ (m r g:Zg) (H':Hp) (rows:LL) (signs:LI),aH H H'->aV H' m r g wide rows signs->aD many wide rows->signs.length=many->#[253]->Q #[310] H'
def acg(many q:Nat):LI:=[(((q+1)%many:Nat):Int)]
def MW:Sp:=fun vs H Q _=>∃ (many:Nat) (n:Int),vs=[.int many,.int n]/\(1<=many/\many<=20) /\
 ∀ (m r g:Zg) (H':Hp) (rows:LL) (signs:LI),aH H H'->aV H' m r g 1 rows signs->aD many 1 rows->signs.length=many->#[253]->Q #[310] H'
section
theorem Fp:aJ ["_law_number_here"] ["_law_number_here"] (aj rX):=cU #[4]
theorem dD:aJ ["_law_script","_law_start","_law_wide","_law_many","_law_rows","_law_q","_law_at","_law_signs"] ["_law_script","_law_start","_law_wide","_law_many"] (aj dW):=cU #[4]
theorem mQ:bA ["_law_script","_law_start","_law_wide","_law_many","_law_rows","_law_q","_law_at","_law_signs"] (aj dW) ["_law_f","_law_many","_law_q","_law_script","_law_start","_law_wide"] [none,some 3,some 5,some 0,some 1,some 2] ⟨.function,[#[65],("_law_f",.local),("_law_number",.globalImplicit),("_law_many",.free),("_law_q",.free),("_law_script",.free),("_law_start",.free),("_law_wide",.free)],false,false,[]⟩:=rh #[4]
theorem mR:bA ["_law_script","_law_start","_law_wide","_law_many","_law_rows","_law_q","_law_at","_law_signs"] (aj dW) ["_law_q","_law_at","_law_script"] [none,some 6,some 0] ⟨.function,[#[65],("_law_q",.local),("_law_sign",.globalImplicit),("_law_number",.globalImplicit),("_law_at",.free),("_law_script",.free)],false,false,[]⟩:=rh #[4]
theorem tI:aJ ["_law_many","_law_number_here","_law_rows"] ["_law_many","_law_number_here"] (aj fW):=cU #[4]
theorem pS:bA ["_law_many","_law_number_here","_law_rows"] (aj fW) ["_law_q","_law_many"] [none,some 0] ⟨.function,[#[65],("_law_q",.local),("_law_many",.free)],false,false,[]⟩:=rh #[4]
theorem pT:bA ["_law_many","_law_number_here","_law_rows"] (aj fW) ["_law_q","_law_number_here"] [none,some 1] ⟨.function,[#[65],("_law_q",.local),("_law_number_here",.free)],false,false,[]⟩:=rh #[4]
theorem Sb(F:bE K "_law_sign" "_law_sign" rX dV f fd):bu P w K mg base eA 1 f fd ["_law_number_here"] MX:=by
 refine F.ok Fp #[6] #[1]
 ·obtain⟨n,rfl,_⟩:=h
  rfl
 obtain⟨n,rfl,n0,q⟩:=h
 refine⟨_,(ak (cV (bV pV (bg cA (pv 0) aq) aq (bI _)) (au (aW (bg cA (bg Y2 (pv 0) aq) aq))) bM)
   (au (aW (bg cA (bg cA (pv 0) aq) aq)))),?_⟩
 refine⟨_,rfl,_,_,rfl,rfl,#[213],rfl,_,rfl,RF #[135] #[135]⟩
 ·have md:=eF (a:=n / 5) (b:=1000000) #[18]
  exact⟨_,rfl,_,_,rfl,rfl,⟨by decide,by decide⟩,_,_,rfl,rfl,(by show(0:Int)<1000000;decide),q _ md.1 md.2⟩
 ·have md:=eF (a:=n%5) (b:=3) #[18]
  exact⟨_,rfl,_,_,rfl,rfl,#[213],_,_,rfl,rfl,(by show(0:Int)<3;decide),q _ md.1 #[2]⟩
theorem RZ(F:bE K "_law_machine" "_law_machine" dW dV f fd)(aS:cx P w K mg base "_law_number" 1 ["_law_script","_law_k"] [] (S0 K))(rD:cx P w K mg base "_law_sign" 1 ["_law_number_here"] [] MX)(bx:mg "range" = none)(aR:mg "tuple" = none):
  bu P w K mg base eA 2 f fd ["_law_script","_law_start","_law_wide","_law_many"] (MP K):=by
 refine F.ok dD #[6] #[1]
 ·obtain⟨a,st,many,wide,xs,rfl,_⟩:=h
  rfl
 obtain⟨a,st,many,wide,xs,rfl,hS,DX,⟨st0,Pl⟩,⟨m0,m1⟩,⟨w0,w1⟩,k⟩:=h
 refine⟨_,(ak (aL (i:=4) dD.nd (dU ag))
   (ak (cD PassesOwn.never rfl (cK rfl bx #[91]) (bB (i:=5) dD.nd) (au (bZ (lN WG WH WI cc (pv 4) (aa (aQ aZ #[42] aR bO (aa (di rfl mQ (cK rfl bx #[66]) (fun _ _ _ _=>(bB (i:=0) mQ.nd)) (fun _ _ _ _=>(bg cA (bF aS hr (aa (pv 3) (aa (bg cJ (bg cJ (pv 4) (bg iZ (pv 2) (pv 5))) (pv 0)) ag))) (pv 1)))) ag)) ag)))))
   (ak (aL (i:=6) dD.nd (bg cJ (pv 1) (bg iZ (pv 3) (pv 2))))
   (ak (mC (i:=7) rfl dD.nd rfl #[231] mR (cK rfl bx #[91]) (fun _ _ _ _=>(bB (i:=0) mR.nd)) (fun _ _ _ _=>(bF rD hr (aa (bF aS hr (aa (pv 2) (aa (bg cJ (pv 1) (pv 0)) ag))) ag))))
   (au (aW (eI (aa (pv 2) (aa (aQ aZ #[42] aR bO #[217]) (aa (aQ aZ #[42] aR bO (aa (pv 7) ag)) ag)))))))))),?_⟩
 have prod:∀ i:Nat,i<=many->0<=((i:Int)*(wide:Int))/\((i:Int)*(wide:Int))<=10*100:=fun i hi=>RT #[2] #[2] #[2] #[2]
 refine⟨#[28],fun R hR=>?_⟩
 try dsimp only[bC]
 refine cS (t:=AW _ _ _) (fun σ' H'=>∃ (cM:List Zg) (rws:LL) (v:OV),σ'=[some #[75],some (.int st),some #[183],some (.int many),some (.ref R),v,none,none]/\aH H H'/\H' R=some (.lst #[51])/\aI H' cM rws/\aD many wide rws) ?_ #[47]
 rotate_left
 ·refine⟨_,rfl,(many:Int),rfl,by omega,by omega,iq (fun i σ' H'=>∃ (cM:List Zg) (rws:LL) (v:OV),σ'=[some #[75],some (.int st),some #[183],some (.int many),some (.ref R),v,none,none]/\aH H H'/\H' R=some (.lst #[51])/\aI H' cM rws/\rws.length=i/\(∀ r∈rws,r.length=wide)/\∀ r∈rws,∀ v∈r,0<=v/\v<(many:Int))
   ⟨[],[],none,rfl,ao hR _,ae,.nil,rfl,(fun r h=>by cases h),(fun r h=>by cases h)⟩ ?_ ?_⟩
  ·rintro i σ' H3 hi ⟨cM,rws,v,rfl,hs3,PL,hA3,hn3,hl3,hv3⟩
   rw[jC]at hi
   have pi:=prod i #[2]
   have z0:(0:Int)+(i:Int)=(i:Int):=Jn _
   rw[z0]
   refine⟨_,rfl,.inl ⟨rfl,_,cG PL⟩,_,rfl,(wide:Int),rfl,by omega,by omega,?_⟩
   refine mx (fun D j zs H4=>aH H3 H4/\∃ row:LI,zs=row.map V.int/\row.length=j/\∀ v∈row,0<=v/\v<(many:Int)) (fun D hD=>⟨ao hD _,[],rfl,rfl,(fun v h=>by cases h)⟩) ?_ ?_
   ·rintro D j zs H4 Q' hD hj hz ⟨hs4,row,rfl,U8,hv4⟩ k'
    refine⟨_,rfl,_,rfl,_,rfl,_,rfl,_,_,rfl,rfl,.inl ⟨by omega,by omega⟩,_,_,rfl,rfl,_,rfl,_,_,rfl,rfl,a,_,xs,rfl,(hs3.trans hs4).seq hS,DX,by omega,by omega,fun x x0 x1=>?_⟩
    have md:=eF (a:=x) (b:=(many:Int)) #[2]
    refine⟨_,rfl,_,_,rfl,rfl,#[2],k' _ _ hz (aA #[35]) ⟨av hs4 hD,row++[_],by rw[jD];rfl,by simp[U8],fun v hv=>?_⟩⟩
    rcases wb.mp hv with z|z
    ·exact hv4 v z
    ·rw[jI.mp z];exact md
   rintro D zs H4 hD hz ⟨hs4,row,rfl,U8,hv4⟩
   rw[jC]at U8
   refine⟨D,_,rfl,.inl ⟨cG hz,fun t ht=>?_⟩⟩
   have hR4:=hs4 _ _ PL
   have nR:R≠t:=ah hR4 ht
   refine⟨R,_,_,rfl,rfl,by rw[af nR];exact hR4,aA (by rw[bz,hA3.length];omega),?_⟩
   have sT:∀ b xs,H3 b=some #[29]->(upd (upd H4 t (.tup (row.map V.int))) R (.lst (cM.map V.ref++[V.ref t]))) b=some #[29]:=fun b xs e=>by
    have e4:=hs4 _ _ e
    rw[af (aF e4 hR4 #[0]),af (ah e4 ht)]
    exact e4
   refine⟨cM++[t],rws++[row],_,rfl,av (av (hs3.trans hs4) ((hs3.trans hs4).free ht)) hR,by rw[ae,jD];rfl,aI.snoc (hA3.same sT) (by rw[af (Ne.symm nR),ae]),by simp[hn3],?_,?_⟩
   ·intro r pC
    rcases wb.mp pC with z|z
    ·exact hl3 r z
    ·rw[jI.mp z];exact U8
   ·intro r pC
    rcases wb.mp pC with z|z
    ·exact hv3 r z
    ·rw[jI.mp z];exact hv4
  ·rintro σ' H3 ⟨cM,rws,v,rfl,hs3,PL,hA3,hn3,hl3,hv3⟩
   rw[jC]at hn3
   exact hZ _ _ ⟨cM,rws,v,rfl,hs3,PL,hA3,⟨hn3,hl3,hv3⟩⟩
 rintro σ' H3 ⟨cM,rws,v,rfl,hs3,PL,hA3,RO⟩
 have pm:=prod many (jF _)
 exists _,rfl,_,rfl,_,rfl,_,_,rfl,rfl,.inl ⟨by omega,by omega⟩,_,_,rfl,rfl
 exists 112
 refine mx (fun D j ys H4=>aH H3 H4/\∃ sg:LI,ys=sg.map V.int/\sg.length=j/\∀ z∈sg,0<=z/\z<1000000) #[259] ?_ ?_
 ·rintro D j ys H4 Q' hD hj hy ⟨hs4,sg,rfl,U8,hz4⟩ k'
  rw[jC]at hj
  refine⟨_,rfl,_,rfl,_,rfl,_,_,rfl,rfl,a,_,xs,rfl,(hs3.trans hs4).seq hS,DX,by omega,by omega,fun x x0 x1=>⟨x,rfl,x0,fun u u0 u1=>k' _ _ hy (aA #[35]) ⟨av hs4 hD,sg++[u],by rw[jD];rfl,by simp[U8],fun z h=>by
   rcases wb.mp h with q|q
   ·exact hz4 z q
   ·rw[jI.mp q];exact⟨u0,u1⟩⟩⟩⟩
 rintro G ys H4 hG0 hG ⟨hs4,sg,rfl,U8,hz4⟩
 rw[jC]at U8
 refine⟨_,rfl,_,rfl,R,_,rfl,.inl ⟨cG (hs4 _ _ PL),fun rt V1=>?_⟩⟩
 have s5:=ao V1 (HO.tup #[51])
 refine⟨_,rfl,G,_,rfl,.inl ⟨cG (s5 _ _ hG),fun gt Rm=>?_⟩⟩
 have s6:=ao Rm (HO.tup (sg.map V.int))
 refine⟨#[175],fun m hm=>?_⟩
 have s7:=ao hm #[102]
 exact k m rt gt _ rws sg (hs3.trans (hs4.trans (s5.trans (s6.trans s7)))) ⟨ae,⟨cM,(s6.trans s7) _ _ ae,hA3.same fun b zs e=>(hs4.trans (s5.trans (s6.trans s7))) _ _ e⟩,s7 _ _ ae⟩ RO U8 hz4
theorem R8(F:bE K "_law_round" "_law_round" fW dV f fd)(bx:mg "range" = none)(aR:mg "tuple" = none):bu P w K mg base eA 1 f fd ["_law_many","_law_number_here"] MW:=by
 refine F.ok tI #[6] #[1]
 ·obtain⟨many,n,rfl,_⟩:=h
  rfl
 obtain⟨many,n,rfl,⟨m0,m1⟩,k⟩:=h
 refine⟨_,(ak (mC (i:=2) rfl tI.nd rfl #[231] pS (cK rfl bx #[122]) (fun _ _ _ _=>(bB (i:=0) pS.nd)) (fun _ _ _ _=>(eI (aa (bg cA (bg cJ (pv 0) aq) (pv 1)) ag))))
   (au (aW (eI (aa aq (aa (aQ aZ #[42] aR bO #[66]) (aa (aQ aZ #[42] aR bO (aa (di rfl pT (cK rfl bx #[122]) (fun _ _ _ _=>(bB (i:=0) pT.nd)) (fun _ _ _ _=>(bg cA (bg cJ (bg iZ (pv 0) (pv 0)) (pv 1)) aq))) ag)) ag))))))),?_⟩
 exists 112
 refine mx (fun D i ys H'=>aH H H'/\∃ as:List Zg,ys=as.map V.ref/\aI H' as ((jn i).map (acg many))/\as.length=i) (fun D hD=>⟨ao hD _,[],rfl,.nil,rfl⟩) ?_ ?_
 ·rintro D i ys H1 Q' hD hi hy ⟨s1,as,rfl,A1,la⟩ k'
  rw[jC]at hi
  have et:(0+(i:Int)+1)%(many:Int)=(((i+1)%many:Nat):Int):=by
   rw[show 0+(i:Int)+1=((i+1:Nat):Int) by omega]
   rfl
  refine⟨_,rfl,_,_,rfl,rfl,_,rfl,_,_,rfl,rfl,by omega,#[176],fun T hT=>?_⟩
  have nD:D≠T:=ah hy hT
  have sT:=ao hT (HO.tup [V.int ((0+(i:Int)+1)%(many:Int))])
  refine k' _ _ (sT _ _ hy) (aA #[35]) ⟨av (s1.trans sT) hD,as++[T],by rw[jD];rfl,?_,by simp[la]⟩
  rw[JP,jD]
  refine aI.snoc (A1.same fun b xs e=>?_) (by
   show _=some (HO.tup [V.int (((i+1)%many:Nat):Int)])
   rw[<- et,af (Ne.symm nD)]
   exact ae)
  rw[af (aF e hy #[0])]
  exact sT _ _ e
 rintro R ys H1 hR hR1 ⟨s1,as,rfl,A1,la⟩
 rw[jC]at A1
 exists 2
 refine⟨_,rfl,R,_,rfl,.inl ⟨cG hR1,fun rt V1=>?_⟩⟩
 have s2:=ao V1 (HO.tup #[120])
 exists 112
 refine mx (fun D i ys H'=>aH (upd H1 rt (HO.tup #[120])) H'/\∃ sg:LI,ys=sg.map V.int/\sg.length=i/\∀ z∈sg,0<=z/\z<1000000) #[259] ?_ ?_
 ·rintro D i ys H7 Q' hD hi hy ⟨s7,sg,rfl,hl,hz⟩ k'
  rw[jC]at hi
  have md:=eF (a:=(0+(i:Int))*(0+(i:Int))+n) (b:=3) #[18]
  refine⟨_,rfl,_,rfl,_,_,rfl,rfl,.inl ⟨by omega,by omega⟩,_,rfl,_,_,rfl,rfl,_,_,rfl,rfl,(by show(0:Int)<3;decide),k' _ _ hy (aA #[35]) ⟨av s7 hD,sg++[_],by rw[jD];rfl,by simp[hl],fun z h=>?_⟩⟩
  rcases wb.mp h with q|q
  ·exact hz z q
  ·rw[jI.mp q];omega
 rintro D ys H3 hD hy ⟨s3,sg,rfl,hl,hz⟩
 rw[jC]at hl
 refine⟨D,_,rfl,.inl ⟨cG hy,fun gt Rm=>?_⟩⟩
 have s4:=ao Rm (HO.tup (sg.map V.int))
 refine⟨#[175],fun m hm=>?_⟩
 have s5:=ao hm (HO.tup [V.int 1,V.ref rt,V.ref gt])
 have s35:=s3.trans (s4.trans s5)
 refine k m rt gt _ _ sg (s1.trans (s2.trans s35)) ⟨ae,⟨as,s35 _ _ ae,A1.same fun b xs e=>s35 _ _ (s2 _ _ e)⟩,s5 _ _ ae⟩ ⟨by rw[bz,ju],fun r hr=>?_,fun r hr v hv=>?_⟩ hl hz
 ·obtain⟨q,_,rfl⟩:=jM.mp hr
  rfl
 ·obtain⟨q,_,rfl⟩:=jM.mp hr
  rw[jI.mp (show v∈[(((q+1)%many:Nat):Int)]from hv)]
  have:=Nat.mod_lt (q+1) (show many > 0 by omega)
  omega
end
def AU:Sp:=fun vs H Q _=>∃ (m r g:Zg) (wide:Nat) (rows:LL) (signs:LI),vs=[.ref m,.int wide]/\aV H m r g wide rows signs/\aD rows.length wide rows/\0<rows.length/\signs.length=rows.length/\Q (.bl true) H
def Ip:Sp:=fun vs H Q _=>∃ (r:Zg) (cM:List Zg) (wide:Nat) (rows:LL),vs=[.ref r]/\H r=some (.tup #[51])/\aI H cM rows/\aD rows.length wide rows/\rows.length<=1000/\lQ rows/\Q (.bl true) H
def Io:Sp:=fun vs H Q _=>∃ (l r:Zg) (cM:List Zg) (wide:Nat) (rows:LL) (a:LI),vs=[.ref l,.ref r]/\H l=some (.lst (a.map V.int))/\a.length=rows.length/\H r=some (.tup #[51])/\aI H cM rows/\aD rows.length wide rows/\rows.length<=1000/\wide<=1000 /\
 ∀ (l':Zg) (H':Hp) (b:LI),aH H H'->H' l'=some (.lst (b.map V.int))->Behind rows wide a b->Q (.ref l') H'
def Em:Sp:=fun vs H Q _=>∃ (r g:Zg) (cM:List Zg) (wide:Nat) (rows:LL) (signs:LI),vs=[.ref r,.ref g]/\H r=some (.tup #[51])/\aI H cM rows/\aD rows.length wide rows/\(0<rows.length/\rows.length<=1000)/\wide<=1000/\H g=some (.tup #[305])/\signs.length=rows.length/\Apart wide rows signs /\
 ∀ H':Hp,aH H H'->Q (.bl true) H'
def kindOf(rows:LL)(a:LI)(q:Nat):NK:=(a.getD q 0,(rows.getD q []).map fun t=>sgn a t)
theorem W0(R:aD rows.length wide rows)(hi:i<rows.length)(hj:j<rows.length):kindOf rows a i=kindOf rows a j↔a.getD i 0=a.getD j 0/\∀ f:Nat,f<wide->sgn a (stepI rows (i:Int) f)=sgn a (stepI rows (j:Int) f):=by
 have li:=R.row _ (jH hi)
 have lj:=R.row _ (jH hj)
 unfold kindOf
 rw[getD_at hi (d:=[]),getD_at hj (d:=[])]
 have st:∀ (q:Nat) (hq:q<rows.length) (f:Nat) (hf:f<rows[q].length),stepI rows (q:Int) (f:Int)=rows[q][f]:=fun q hq f hf=>by
  unfold stepI
  rw[jC,jC,getD_at hq,getD_at hf]
 constructor
 ·intro h
  refine⟨congrArg Prod.fst h,fun f hf=>?_⟩
  have h2:=congrArg Prod.snd h
  have:=congrArg (fun l=>l[f]?) h2
  simp only[jP]at this
  rw[jA (show f<rows[i].length by omega),jA (show f<rows[j].length by omega)]at this
  rw[st i hi f #[2],st j hj f #[2]]
  exact Option.some.inj this
 ·rintro⟨h1,h2⟩
  refine Prod.ext h1 (zg (by rw[bz,bz];omega) fun f g1 g2=>?_)
  rw[bz]at g1 g2
  rw[JV,JV]
  have:=h2 f #[2]
  rw[st i hi f g1,st j hj f g2]at this
  exact this
theorem rQ(K:WC):WM K #[265] #[265]=some true:=by with_unfolding_all rfl
theorem pG(K:WC):WM K #[265] (.type "bool")=some false:=by with_unfolding_all rfl
def rZ:Sp:=fun vs H Q _=>∃ z:Int,vs=[.int z]/\Q (.bl true) H
section
theorem tJ:aJ ["_law_found"] ["_law_found"] (aj lV):=cU #[4]
theorem dA:aJ ["_law_found","_law_wide","_law_row","_law_there","_law_sign_here"] ["_law_found","_law_wide"] (aj fV):=cU #[4]
theorem cX:aJ ["_law_rows","_law_known","_law_q","_law_there"] ["_law_rows"] (aj lF):=cU #[4]
theorem dX:aJ ["_law_marks","_law_rows","_law_kinds","_law_behind","_law_q","_law_kind"] ["_law_marks","_law_rows"] (aj iG):=cU #[4]
theorem oJ:bA ["_law_marks","_law_rows","_law_kinds","_law_behind","_law_q","_law_kind"] (aj iG) ["_law_there","_law_marks"] [none,some 0] ⟨.function,[#[65],("_law_there",.local),("_law_marks",.free)],false,false,[]⟩:=rh #[4]
theorem dY:aJ ["_law_rows","_law_signs","_law_marks","_law_turn","_law_behind"] ["_law_rows","_law_signs"] (aj oA):=cU #[4]
theorem OY(F:bE K "_law_whole" "_law_whole" lV dV f fd)(aY:mg "isinstance" = none)(Es:mg "int" = none)(AY:mg "bool" = none):bu P w K mg base eA 1 f fd ["_law_found"] rZ:=by
 refine F.ok tJ #[6] #[1]
 ·obtain⟨z,rfl,_⟩:=h
  rfl
 obtain⟨z,rfl,q⟩:=h
 exists 13
 refine⟨_,rfl,_,_,_,_,rfl,oh.int z,rQ K,_,rfl,oj ?_⟩
 exact⟨_,rfl,_,_,_,_,rfl,oh.int z,pG K,_,rfl,q⟩
theorem O0(F:bE K "_law_in_order" "_law_in_order" lF dV f fd)(bj:mg "len" = none)(bx:mg "range" = none):bu P w K mg base eA 1 f fd ["_law_rows"] Ip:=by
 refine F.ok cX #[6] #[1]
 ·obtain⟨r,cM,wide,rows,rfl,_⟩:=h
  rfl
 obtain⟨r,cM,wide,rows,rfl,pC,hA,R,l1,O,q⟩:=h
 have abV:cM.length=rows.length:=hA.length
 refine⟨_,(ak (aL (i:=1) cX.nd aq)
   (ak (cD PassesOwn.never rfl (cK rfl bx (aa #[30] ag)) (bB (i:=2) cX.nd) (ak (cV (bV Sh (pv 2) (pv 1) (bI _)) #[177] bM)
   (au (cD PassesOwn.never rfl (mB (aC ax (pv 0) (pv 2) #[3])) (bB (i:=3) cX.nd) (ak (cV (bV HM (pv 3) (pv 1) (bI _)) #[177] bM)
   (au (cV (bV pV (pv 3) (pv 1) (bI _)) (au (aL (i:=1) cX.nd (bg cJ (pv 1) aq))) bM)))))))
   #[177])),?_⟩
 refine⟨_,rfl,r,_,rfl,.inr (bJ pC),_,rfl,by rw[bz];omega,by rw[bz];omega,?_⟩
 rw[bz,abV]
 refine iq (fun i σ' H'=>∃ (m:Nat) (v2 v3:OV),σ'=[some (.ref r),some (.int m),v2,v3]/\H'=H/\bD i m (rows.drop i)=some rows.length) ⟨1,none,none,rfl,rfl,O⟩ ?_ ?_
 ·rintro i σ' H' hi ⟨m,v2,v3,rfl,rfl,o⟩
  rw[jC]at hi
  rw[Jn]
  rw[jz hi]at o
  obtain⟨im,m1,o1,o2⟩:=CP o
  obtain⟨ra,e1,e2⟩:=hA.get hi
  refine⟨_,rfl,_,rfl,_,_,rfl,rfl,_,rfl,sS (fun c=>by omega) #[135]⟩
  exists _,rfl,_,rfl,r,_,_,_,rfl,rfl,bJ pC,oH #[2] (by rw[jC];exact e1),ra,rfl,⟨_,bJ e2⟩
  refine wU (K:=K) (xs:=rows[i].map V.int) (fun j σ' BM=>∃ (m':Nat) (v3:OV),σ'=[some (.ref r),some (.int m'),some (.int i),v3]/\BM=H'/\aX m' (rows[i].drop j)=some m1) ⟨m,v3,rfl,rfl,o1⟩ (fun j σ' BM _ ⟨_,_,_,e,_⟩=>by rw[e];exact bJ e2) ?_ ?_
  ·rintro j y σ' BM hj ⟨m',v3,rfl,rfl,o3⟩
   obtain⟨t,rfl,ht⟩:=bU hj
   have jl:=hX ht
   rw[jz jl.1,jl.2]at o3
   have o4:(if t=(m':Int)then aX (m'+1) (rows[i].drop (j+1))else if t<(m':Int)then aX m' (rows[i].drop (j+1))else none)=some m1:=o3
   by_cases c:t=(m':Int)
   ·rw[if_pos c]at o4
    exists 114
    refine⟨_,rfl,_,rfl,rfl,_,rfl,RF #[135] (fun z=>absurd c z)⟩
    exact⟨_,rfl,_,_,rfl,rfl,m'+1,_,rfl,rfl,o4⟩
   ·rw[if_neg c]at o4
    by_cases d:t<(m':Int)
    ·rw[if_pos d]at o4
     exists 114
     exact⟨_,rfl,_,rfl,rfl,_,rfl,RF (fun z=>absurd z c) (fun _=>⟨m',_,rfl,rfl,o4⟩)⟩
    ·rw[if_neg d]at o4
     cases o4
  ·rintro σ' BM ⟨m',v3,rfl,rfl,o3⟩
   rw[bz,zH]at o3
   have e:m'=m1:=Option.some.inj o3
   subst e
   exact⟨m',_,_,rfl,rfl,o2⟩
 ·rintro σ' H' ⟨m,v2,v3,rfl,rfl,o⟩
  exact q
theorem Lj(F:bE K "_law_is_machine" "_law_is_machine" fV dV f fd)(cL:cx P w K mg base "_law_whole" 1 ["_law_found"] [] rZ)(aY:mg "isinstance" = none)(aR:mg "tuple" = none)(bj:mg "len" = none):bu P w K mg base eA 2 f fd ["_law_found","_law_wide"] AU:=by
 refine F.ok dA #[6] #[1]
 ·obtain⟨m,r,g,wide,rows,signs,rfl,_⟩:=h
  rfl
 obtain⟨m,r,g,wide,rows,signs,rfl,M,R,n0,ls,k⟩:=h
 obtain⟨cM,pC,hA⟩:=M.rows
 have abV:cM.length=rows.length:=hA.length
 have lsg:#[305].length=rows.length:=by rw[bz];exact ls
 have lrs:#[51].length=rows.length:=by rw[bz];exact abV
 refine rH (aO (hJ.mk (cV (PW.pt (rV (lh (lA (aG iP #[42] aY bN (aa (pv 0) #[82])))) (rV (bV Ec #[30] aq (bI _)) (rV (lh (lA (bF cL hr #[323]))) (rW (bV Ec #[12] (pv 1) (bI _))))))) #[177] bM))
   (aO (hJ.mk (cV (PW.pt (rV (lh (lA (aG iP #[42] aY bN (aa #[12] #[82])))) (rW (lh (lA (aG iP #[42] aY bN (aa #[12] #[82]))))))) #[177] bM))
   (aO (hJ.mk (cV (PW.pt (rV (bV MA #[133] aq (bI _)) (rW (bV Ec #[133] #[133] (bI _))))) #[177] bM))
   (aO (hJ.mk (cD PassesOwn.never rfl (mB #[12]) (bB (i:=2) dA.nd) (ak (cV (PW.pt (rV (lh (lA (aG iP #[42] aY bN (aa (pv 2) #[82])))) (rW (bV Ec (aG aM #[42] bj bH #[66]) (pv 1) (bI _))))) #[177] bM)
   (au (cD PassesOwn.never rfl (mB (pv 2)) (bB (i:=3) dA.nd) (au (cV (PW.pt (rV (lh (lA (bF cL hr #[91]))) (rV (bV MA (pv 3) aq (bI _)) (rW (bV Sh (pv 3) #[133] (bI _)))))) #[177] bM)))))))
   (aO (hJ.mk (cD PassesOwn.never rfl (mB #[12]) (bB (i:=4) dA.nd) (au (cV (lh (lA (bF cL hr #[217]))) #[177] bM))))
   (lI (hJ.mk (aW dN)))))))) ?_
 refine⟨_,rfl,_,_,_,_,rfl,oh.tup M.tup,eR K,_,rfl,pD ?_⟩
 refine⟨_,rfl,m,_,rfl,.inr (bJ M.tup),rfl,_,rfl,Bc (fun z=>absurd rfl z) #[135]⟩
 refine⟨_,rfl,m,_,_,_,rfl,rfl,bJ M.tup,rfl,_,rfl,_,rfl,pD ?_⟩
 refine⟨_,rfl,m,_,_,_,rfl,rfl,bJ M.tup,rfl,_,rfl,rfl,_,rfl,Bc (fun z=>absurd rfl z) #[135]⟩
 refine⟨_,rfl,m,_,_,_,rfl,rfl,bJ M.tup,rfl,_,_,_,_,rfl,oh.tup pC,eR K,_,rfl,pD ?_⟩
 refine⟨_,rfl,m,_,_,_,rfl,rfl,bJ M.tup,rfl,_,_,_,_,rfl,oh.tup M.sgn,eR K,_,rfl,pD ?_⟩
 refine⟨_,rfl,m,_,_,_,rfl,rfl,bJ M.tup,rfl,r,_,rfl,.inr (bJ pC),_,_,rfl,rfl,_,rfl,sS (fun z=>by omega) #[135]⟩
 refine⟨_,rfl,m,_,_,_,rfl,rfl,bJ M.tup,rfl,r,_,rfl,.inr (bJ pC),_,rfl,m,_,_,_,rfl,rfl,bJ M.tup,rfl,g,_,rfl,.inr (bJ M.sgn),rfl,_,rfl,Bc (fun z=>absurd (by rw[lsg,lrs]) z) #[135]⟩
 exists 2
 refine cS (t:=AW _ _ _) (fun σ' H'=>∃ v2 v3:OV,σ'=[some #[310],some #[183],v2,v3,none]/\H'=H) ?_ #[47]
 rotate_left
 ·refine⟨_,rfl,m,_,_,_,rfl,rfl,bJ M.tup,rfl,r,rfl,⟨_,bJ pC⟩,wU (K:=K) (xs:=cM.map V.ref) (fun i σ' H'=>∃ v2 v3:OV,σ'=[some #[310],some #[183],v2,v3,none]/\H'=H) ⟨none,none,rfl,rfl⟩ (fun i σ' H' _ ⟨_,_,_,e⟩=>by rw[e];exact bJ pC) ?_ (fun σ' H' h=>hZ _ _ h)⟩
  rintro i y σ' H' hi ⟨v2,v3,rfl,rfl⟩
  have jl:i<rows.length:=by
   have:=(hX hi).1
   omega
  obtain⟨ra,e1,e2⟩:=hA.get jl
  have ey:y=.ref ra:=by rw[jP,e1]at hi;exact#[218].symm
  subst ey
  have lr:=R.row _ (jH jl)
  refine⟨_,rfl,_,_,_,_,rfl,oh.tup e2,eR K,_,rfl,pD ?_⟩
  refine⟨_,rfl,ra,_,rfl,.inr (bJ e2),_,rfl,rfl,_,rfl,Bc (fun z=>absurd (by rw[bz,lr]) z) #[135]⟩
  refine⟨_,rfl,ra,rfl,⟨_,bJ e2⟩,wU (K:=K) (xs:=rows[i].map V.int) (fun j σ' BM=>∃ v3:OV,σ'=[some #[310],some #[183],some (.ref ra),v3,none]/\BM=H') ⟨v3,rfl,rfl⟩ (fun j σ' BM _ ⟨_,_,e⟩=>by rw[e];exact bJ e2) ?_ (fun σ' BM ⟨v3,e1,e2⟩=>⟨_,v3,e1,e2⟩)⟩
  rintro j y σ' BM hj ⟨v3,rfl,rfl⟩
  obtain⟨z,rfl,hz⟩:=bU hj
  have zi:=R.val _ (jH jl) z (rj hz)
  refine⟨_,rfl,_,rfl,_,rfl,pD ?_⟩
  refine⟨_,rfl,_,_,rfl,rfl,_,rfl,sS (fun c=>by omega) #[135]⟩
  refine⟨_,rfl,_,rfl,m,_,_,_,rfl,rfl,bJ M.tup,rfl,r,_,rfl,.inr (bJ pC),_,_,rfl,rfl,_,rfl,sS (fun c=>by omega) #[135]⟩
  exact⟨_,rfl,rfl⟩
 rintro σ' H' ⟨v2,v3,rfl,rfl⟩
 refine⟨_,rfl,m,_,_,_,rfl,rfl,bJ M.tup,rfl,g,rfl,⟨_,bJ M.sgn⟩,wU (K:=K) (xs:=signs.map V.int) (fun i σ' BM=>∃ v4:OV,σ'=[some #[310],some #[183],v2,v3,v4]/\BM=H') ⟨none,rfl,rfl⟩ (fun i σ' BM _ ⟨_,_,e⟩=>by rw[e];exact bJ M.sgn) ?_ (fun σ' BM ⟨_,_,e⟩=>by rw[e];exact k)⟩
 rintro i y σ' BM hi ⟨v4,rfl,rfl⟩
 obtain⟨z,rfl,hz⟩:=bU hi
 exact⟨_,rfl,_,rfl,_,rfl,pD ⟨_,rfl,rfl⟩⟩
theorem OZ(F:bE K "_law_marked" "_law_marked" iG dV f fd)(bj:mg "len" = none)(bx:mg "range" = none)(aR:mg "tuple" = none):bu P w K mg base eA 1 f fd ["_law_marks","_law_rows"] Io:=by
 refine F.ok dX #[6] #[1]
 ·obtain⟨l,r,cM,wide,rows,a,rfl,_⟩:=h
  rfl
 obtain⟨l,r,cM,wide,rows,a,rfl,hl,la,pC,hA,R,n1,w1,k⟩:=h
 have hu2:=RB hr
 exists 131
 refine rH (aO (hJ.mk (aL (i:=2) dX.nd Sm))
   (aO (hJ.mk (aL (i:=3) dX.nd (dU ag)))
   (aO (aaW PassesOwn.never rfl (cK rfl bx (aa (aG aM #[42] bj bH #[121]) ag)) (bB (i:=4) dX.nd) (aO (Tn (i:=5) dX.nd rfl #[231] (Tp (eS (Dn.mk (aC iC (pv 0) (pv 4) #[3])) (eS (Dn.mk (aQ aZ #[42] aR bO (aa (di rfl oJ (mB (aC ax (pv 1) (pv 4) #[3])) (fun _ _ _ _=>(bB (i:=0) oJ.nd)) (fun _ _ _ _=>(aC (Hu K) (pv 1) (pv 0) #[3]))) ag))) FC))))
   (aO (hJ.mk (cV (CY (Pc hu2 (pv 5) (pv 2)) #[125]) (au (Z5 hu2 (pv 2) (pv 5) (aG Og #[42] bj bH #[66]) rfl)) bM))
   (lI (hJ.mk (bZ (lN WG WH WI cc (pv 3) (aa (Y9 hu2 (pv 2) (pv 5) #[3]) ag))))))))
   (lI (hJ.mk (aW (pv 3))))))) ?_
 refine fun D hD=>?_
 have sD:=ao hD (mh P w D [])
 refine⟨#[28],fun B hB=>?_⟩
 have sB:=ao hB #[147]
 have nDB:D≠B:=ah ae hB
 have fB:H B=none:=sD.free hB
 have kin:∀ i,i<rows.length->∀ t∈rows.getD i [],0<=t/\t<(a.length:Int):=fun i hi t ht=>by
  rw[getD_at hi]at ht
  have:=R.val _ (jH hi) t ht
  omega
 exists 2
 refine⟨_,rfl,r,_,rfl,.inr (bJ (sB _ _ (sD _ _ pC))),_,rfl,by omega,by omega,?_⟩
 rw[lrs]
 refine iq (fun i σ' H'=>∃ (ks:List (NK×Zg)) (b:LI) (v4 v5:OV),σ'=[some (.ref l),some (.ref r),some #[103],some (.ref B),v4,v5]/\aH H H'/\H' D=some (mh P w D ks)/\wC H' ks/\H' B=some (.lst (b.map V.int))/\b.length=i/\ks.length<=i/\#[151].Nodup/\∀ j,j<i->∃ n:Nat,b[j]?=some (n:Int)/\#[151][n]?=some (kindOf rows a j))
  ⟨[],[],none,none,rfl,sD.trans sB,sB _ _ ae,(fun p hp=>by cases hp),ae,rfl,jF _,JN,fun j hj=>absurd hj (zN _)⟩ ?_ ?_
 ·rintro i σ' H2 hi ⟨ks,b,v4,v5,rfl,s2,PJ,nk2,hB2,lb,lk,nd,inv⟩
  rw[jC]at hi
  rw[Jn]
  obtain⟨ra,e1,e2⟩:=hA.get hi
  have lr:=R.row _ (jH hi)
  have hl2:=s2 _ _ hl
  have ra2:=s2 _ _ e2
  refine⟨_,rfl,_,rfl,l,_,_,_,rfl,rfl,cG hl2,bK #[2] #[2],?_⟩
  exists _,rfl,_,rfl,r,_,_,_,rfl,rfl,bJ (s2 _ _ pC),oH #[2] (by rw[jC];exact e1),ra,rfl,⟨_,bJ ra2⟩
  refine oK (K:=K) (xs:=rows[i].map V.int) (fun E j ys H'=>aH H2 H'/\ys=((rows[i].take j).map fun t=>sgn a t).map V.int) (fun E hE=>⟨ao hE _,rfl⟩) (fun E j ys H' _ p=>bJ (p.1 _ _ ra2)) ?_ ?_
  ·rintro E j y ys H3 Q' hE hj hy ⟨s3,rfl⟩ k'
   obtain⟨t,rfl,ht⟩:=bU hj
   have jl:=(hX ht).1
   have ti:=kin i hi t (by rw[getD_at hi];exact rj ht)
   refine⟨_,rfl,_,rfl,l,_,_,_,rfl,rfl,cG (s3 _ _ hl2),bK ti.1 ti.2,k' _ _ hy #[81] ⟨av s3 hE,?_⟩⟩
   rw[jU,ht,jD,jD]
   rfl
  rintro E ys H3 hE hy ⟨s3,rfl⟩
  rw[bz,jY]at hy
  refine⟨E,_,rfl,.inl ⟨cG hy,fun c hc=>?_⟩⟩
  have sc:=ao hc #[315]
  refine⟨#[64],fun T hT=>?_⟩
  have sT:=ao hT #[295]
  obtain⟨H4,su⟩:∃ H4,upd (upd H3 c #[315]) T #[295]=H4:=⟨_,rfl⟩
  have PR:aH H2 H4:=by rw[<- su];exact s3.trans (sc.trans sT)
  have kT:ml H4 (kindOf rows a i) T:=by
   refine⟨c,by rw[<- su,ae,jC];rfl,?_⟩
   rw[<- su,sT _ _ ae]
   unfold kindOf
   rw[getD_at hi (d:=[])]
  rw[su]
  have hD4:=PR _ _ PJ
  have nk4:=nk2.same fun b xs e=>PR _ _ e
  have T6:=PR _ _ hB2
  exists 2
  refine cS (t:=Td _ _ _) (fun σ' H'=>∃ (W3:List (NK×Zg)) (n:Nat),σ'=[some (.ref l),some (.ref r),some #[103],some (.ref B),some (.int (i:Int)),some (.ref T)]/\aH H H'/\H' D=some (mh P w D W3)/\wC H' W3/\ml H' (kindOf rows a i) T/\H' B=some (.lst (b.map V.int))/\W3.length<=i+1/\(W3.map (·.1)).Nodup/\(W3.map (·.1))[n]?=some (kindOf rows a i)/\∀ (m:Nat) (k:NK),#[151][m]?=some k->(W3.map (·.1))[m]?=some k) ?_ #[47]
  rotate_left
  ·by_cases c1:kindOf rows a i∈ks.map (·.1)
   ·obtain⟨n,nl,en⟩:=jZ c1
    exists _,rfl,_,rfl,D,T,kindOf rows a i,ks,rfl,rfl,hD4,nk4,kT,_,rfl
    rw[decide_eq_true c1]
    refine pD (hZ _ _ ⟨ks,n,rfl,s2.trans PR,hD4,nk4,kT,T6,by omega,nd,by rw[jA nl,en],fun m k h=>h⟩)
   ·exists _,rfl,_,rfl,D,T,kindOf rows a i,ks,rfl,rfl,hD4,nk4,kT,_,rfl
    rw[decide_eq_false c1]
    refine oj ?_
    refine⟨_,rfl,D,ks,rfl,hD4,_,rfl,_,rfl,D,T,kindOf rows a i,ks,rfl,rfl,rfl,hD4,nk4,kT,c1,aA #[2],?_⟩
    have up:∀ b xs,H4 b=some #[29]->(upd H4 D (mh P w D (ks++[(kindOf rows a i,T)]))) b=some #[29]:=fun b xs e=>by
     rw[af (aF e hD4 #[0])];exact e
    refine hZ _ _ ⟨ks++[(kindOf rows a i,T)],ks.length,rfl,av (s2.trans PR) hD,ae,?_,kT.same up,by rw[af (Ne.symm nDB)];exact T6,by rw[jG];exact zj lk,?_,?_,fun m k h=>?_⟩
    ·intro p hp
     rcases wb.mp hp with z|z
     ·exact(nk4 p z).same up
     ·rw[jI.mp z];exact kT.same up
    ·rw[jD]
     exact JA.mpr ⟨nd,jh.mpr ⟨by simp,JN⟩,fun x hx y hy z=>c1 (by have e1:y=kindOf rows a i:=jI.mp hy;rw[<- e1,<- z];exact hx)⟩
    ·rw[jD,jm (by rw[bz];exact jF _),bz,Jo]
     rfl
    ·rw[jD,jk (hX h).1]
     exact h
  rintro σ' H5 ⟨W3,n,rfl,s5,Rb,nk5,kT5,hB5,lk',DD,hn,keep⟩
  refine⟨_,rfl,.inl ⟨rfl,_,cG hB5⟩,_,rfl,_,rfl,D,T,kindOf rows a i,W3,n,rfl,rfl,Rb,nk5,kT5,hn,B,_,_,rfl,rfl,hB5,aA #[35],?_⟩
  have up:∀ c xs,H5 c=some #[29]->(upd H5 B (.lst (b.map V.int++[V.int (n:Int)]))) c=some #[29]:=fun c xs e=>by
   rw[af (aF e hB5 #[0])];exact e
  refine⟨W3,b++[(n:Int)],_,_,rfl,av s5 fB,by rw[af nDB];exact Rb,nk5.same up,by rw[ae,jD];rfl,by rw[jG,lb];rfl,lk',DD,fun j hj=>?_⟩
  by_cases c2:j<i
  ·obtain⟨m,h1,h2⟩:=inv j c2
   exact⟨m,by rw[jk #[2]];exact h1,keep m _ h2⟩
  ·have:j=i:=by omega
   subst this
   exact⟨n,by rw[jm #[2],lb,Jo];rfl,hn⟩
 ·rintro σ' H2 ⟨ks,b,v4,v5,rfl,s2,PJ,nk2,hB2,lb,lk,nd,inv⟩
  rw[jC]at lb inv
  refine⟨_,rfl,k B _ b s2 hB2 ⟨la,lb,fun i j hi hj=>?_⟩⟩
  rw[<- W0 R hi hj]
  obtain⟨m,h1,h2⟩:=inv i hi
  obtain⟨n,g1,g2⟩:=inv j hj
  rw[jN,jN,h1,g1]
  constructor
  ·intro e
   have:m=n:=by have e':(m:Int)=(n:Int):=e;omega
   subst this
   rw[h2]at g2
   exact Option.some.inj g2
  ·intro e
   rw[<- e]at g2
   obtain⟨x1,y1⟩:=hX h2
   obtain⟨x2,y2⟩:=hX g2
   have:m=n:=(JJ nd).mp (y1.trans y2.symm)
   rw[this]
theorem Lk(F:bE K "_law_parted" "_law_parted" oA dV f fd)(mY:cx P w K mg base "_law_marked" 1 ["_law_marks","_law_rows"] [] Io)(fj:mg "list" = none)(Et:mg "set" = none)(bj:mg "len" = none)(bx:mg "range" = none):bu P w K mg base eA 2 f fd ["_law_rows","_law_signs"] Em:=by
 refine F.ok dY #[6] #[1]
 ·obtain⟨r,g,cM,wide,rows,signs,rfl,_⟩:=h
  rfl
 obtain⟨r,g,cM,wide,rows,signs,rfl,pC,hA,R,⟨n0,n1⟩,w1,hg,ls,AP,k⟩:=h
 exists 131
 refine rH (aO (hJ.mk (aL (i:=2) dY.nd (aQ EJ #[42] fj wO #[121])))
   (aO (hJ.mk (cD PassesOwn.never rfl (cK rfl bx (aa #[30] ag)) (bB (i:=3) dY.nd) (ak (aL (i:=4) dY.nd (bF mY hr (aa (pv 2) #[122])))
   (ak (cV (bV pV (aG sq #[42] bj bH (aa (aQ (sr rfl) #[42] Et EH #[217]) ag)) #[92] (bI _)) (au (aW (iE pV #[92] #[30] (bI _)))) bM)
   (au (aL (i:=2) dY.nd (pv 4)))))))
   (lI (hJ.mk (aW (iE pV #[92] #[30] (bI _))))))) ?_
 refine⟨_,rfl,g,_,rfl,.inr (bJ hg),fun l0 hl0=>?_⟩
 have s0:=ao hl0 (HO.lst #[305])
 exists 2
 have o1:1<=(aK signs).length:=JO (dC.mpr (jH (show 0<signs.length by omega)))
 refine⟨_,rfl,r,_,rfl,.inr (bJ (s0 _ _ pC)),_,rfl,by omega,by omega,?_⟩
 rw[lrs]
 refine iq (fun t σ' H'=>∃ (l:Zg) (a:LI) (v3 v4:OV),σ'=[some (.ref r),some (.ref g),some (.ref l),v3,v4]/\aH H H'/\H' l=some (.lst (a.map V.int))/\a.length=rows.length/\rq signs a/\t+1<=(aK a).length)
  ⟨l0,signs,none,none,rfl,s0,ae,ls,⟨rfl,fun _ _ _ _ e=>e⟩,o1⟩ ?_ ?_
 ·rintro t σ' H1 ht ⟨l,a,v3,v4,rfl,s1,hl,la,fa,ta⟩
  refine⟨_,rfl,_,rfl,l,r,cM,wide,rows,a,rfl,hl,la,s1 _ _ pC,hA.same (fun b xs e=>s1 _ _ e),R,n1,w1,fun l' H2 b s2 hl' bh=>?_⟩
  have lb:=bh.2.1
  refine⟨_,rfl,l',b,rfl,hl',by omega,fun S hS=>?_⟩
  have t1:=ao hS (B8 P w S (aK b))
  refine⟨S,aK b,rfl,ae,_,rfl,l,a,rfl,t1 _ _ (s2 _ _ hl),by omega,fun S2 hS2=>?_⟩
  have t2:=ao hS2 (B8 P w S2 (aK a))
  have s4:=t1.trans t2
  have s3:=(s1.trans s2).trans s4
  refine⟨S2,aK a,rfl,ae,rfl,_,rfl,RF #[90] #[90]⟩
  ·have c':(aK b).length=(aK a).length:=by omega
   have done:=K8 R AP ls fa bh c'
   refine⟨_,rfl,l,a,rfl,s4 _ _ (s2 _ _ hl),by omega,fun S3 hS3=>?_⟩
   have t3:=ao hS3 (B8 P w S3 (aK a))
   exists S3,aK a,rfl,ae,_,rfl,r,_,rfl,.inr (bJ (t3 _ _ (s3 _ _ pC))),rfl
   rw[lrs,done,decide_eq_true rfl]
   exact k _ (s3.trans t3)
  ·have more:=K9 bh #[2]
   exact⟨_,rfl,l',b,_,_,rfl,s3,s4 _ _ hl',lb,fa.trans bh.Q5,by omega⟩
 ·rintro σ' H1 ⟨l,a,v3,v4,rfl,s1,hl,la,fa,ta⟩
  exfalso
  rw[jC]at ta
  have:=oU a
  omega
end
def FL(ms:LL):List #[58]:=ms.map fun p=>(ir p,V.bl true)
theorem Mv(ms:LL):(FL ms).length=ms.length:=jQ _
theorem CD:∀ {ms:LL} {u:LI},u∉ms->dZ (FL ms) (ir u)=none
 | [],_,_=>rfl
 | p :: ms,u,h=>by
  rw[show FL (p :: ms)=(ir p,V.bl true) :: FL ms from rfl,eh (fun z=>h (by rw[<- wY z];exact jE))]
  exact CD fun z=>h (jK _ z)
theorem Hw:∀ {ms:LL} {u:LI},u∈ms->dZ (FL ms) (ir u)=some (.bl true)
 | p :: ms,u,h=>by
  by_cases e:p=u
  ·subst e;exact iW rfl
  ·rw[show FL (p :: ms)=(ir p,V.bl true) :: FL ms from rfl,eh (fun z=>e (wY z))]
   exact Hw ((jW.mp h).resolve_left (Ne.symm e))
theorem W4(h:u∉ms):putK (FL ms) (ir u) (V.bl true)=FL (ms++[u]):=by
 rw[HZ _ (CD h)]
 unfold FL
 rw[jD]
 rfl
theorem aI.last:∀ {PV:List Zg} {ws:LL},aI H PV ws->PV≠[]->∃ (BL:List Zg) (wa:Zg) (pX:LL) (p:LI),PV=BL++[wa]/\ws=pX++[p]/\aI H BL pX/\H wa=some (.tup (p.map V.int))
 | _,_,.nil,h=>absurd rfl h
 | _,_,.cons (a:=a) (b:=p) r .nil,_=>⟨[],a,[],p,rfl,rfl,.nil,r⟩
 | _,_,.cons r (.cons r2 t),_=>by
  obtain⟨BL,wa,pX,q,e1,e2,h1,h2⟩:=aI.last (.cons r2 t) #[11]
  exact⟨_ :: BL,wa,_ :: pX,q,by rw[e1];rfl,by rw[e2];rfl,.cons r h1,h2⟩
structure Sts(st:LI->Nat->LI)(b0:LI)(N:Nat)(ms ws:LL):Prop where
 nd:ms.Nodup
 sub:∀ p∈ws,p∈ms
 re:∀ p∈ms,Rg st b0 N p
 z:b0∈ms
 cl:∀ p∈ms,p∈ws\/∀ f:Nat,f<N->st p f∈ms
structure Tr(st:LI->Nat->LI)(b0:LI)(N:Nat)(ms ws:LL)(p:LI)(i:Nat):Prop where
 nd:ms.Nodup
 sub:∀ p∈ws,p∈ms
 re:∀ p∈ms,Rg st b0 N p
 z:b0∈ms
 cl:∀ q∈ms,q∈ws\/q=p\/∀ f:Nat,f<N->st q f∈ms
 pm:p∈ms
 now:∀ f:Nat,f<i->st p f∈ms
section
variable{st:LI->Nat->LI}{N:Nat}{ws:LL}
theorem Sts.start(h:Sts st b0 N ms (ws++[p])):Tr st b0 N ms ws p 0:=
 ⟨h.nd,fun q hq=>h.sub q (jg _ hq),h.re,h.z,fun q hq=>by
  rcases h.cl q hq with y|y
  ·rcases wb.mp y with y|y
   ·exact .inl y
   ·exact .inr (.inl (jI.mp y))
  ·exact .inr (.inr y),h.sub p (jR _ jE),fun f hf=>by omega⟩
theorem Tr.old(h:Tr st b0 N ms ws p i)(o:st p i∈ms):Tr st b0 N ms ws p (i+1):=
 ⟨h.nd,h.sub,h.re,h.z,h.cl,h.pm,fun f hf=>by
  by_cases e:f=i
  ·rw[e];exact o
  ·exact h.now f #[2]⟩
theorem Tr.new(h:Tr st b0 N ms ws p i)(hi:i<N)(o:st p i∉ms):Tr st b0 N (ms++[st p i]) (ws++[st p i]) p (i+1):=by
 refine⟨?_,fun q hq=>?_,fun q hq=>?_,jg _ h.z,fun q hq=>?_,jg _ h.pm,fun f hf=>?_⟩
 ·exact JA.mpr ⟨h.nd,zo _ _,fun a ha c hc=>by rw[jI.mp hc];intro z;exact o (z ▸ ha)⟩
 ·rcases wb.mp hq with y|y
  ·exact jg _ (h.sub q y)
  ·exact jR _ y
 ·rcases wb.mp hq with y|y
  ·exact h.re q y
  ·rw[jI.mp y];exact(h.re p h.pm).step hi
 ·rcases wb.mp hq with y|y
  ·rcases h.cl q y with y|y|y
   ·exact .inl (jg _ y)
   ·exact .inr (.inl y)
   ·exact .inr (.inr fun f hf=>jg _ (y f hf))
  ·exact .inl (jR _ y)
 ·by_cases e:f=i
  ·rw[e];exact jR _ jE
  ·exact jg _ (h.now f #[2])
theorem Tr.done(h:Tr st b0 N ms ws p N):Sts st b0 N ms ws:=
 ⟨h.nd,h.sub,h.re,h.z,fun q hq=>by
  rcases h.cl q hq with y|y|y
  ·exact .inl y
  ·rw[y];exact .inr h.now
  ·exact .inr y⟩
end
def MS:Sp:=fun vs H Q _=>∃ (m1 r1 g1 m2 r2 g2:Zg) (many1 aU wide:Nat) (aB az:LL) (ay aE:LI),vs=[.ref m1,.ref m2]/\aV H m1 r1 g1 wide aB ay/\aD many1 wide aB/\aV H m2 r2 g2 wide az aE/\aD aU wide az/\(1<=many1/\1<=aU/\many1*aU<=300)/\wide<=1000 /\
 ∀ (ms:LL) (H':Hp),aH H H'->ms.Nodup->(∀ p,p∈ms↔Rg #[220] [0,0] wide p)->Q (.int (ms.length:Nat)) H'
section
theorem dJ:aJ ["_law_one","_law_other","_law_met","_law_waiting","_law_here","_law_f","_law_there"] ["_law_one","_law_other"] (aj pP):=cU #[4]
theorem R5(F:bE K "_law_pairs" "_law_pairs" pP dV f fd)(bj:mg "len" = none)(bx:mg "range" = none):bu P w K mg base eA 1 f fd ["_law_one","_law_other"] MS:=by
 refine F.ok dJ #[6] #[1]
 ·obtain⟨m1,r1,g1,m2,r2,g2,many1,aU,wide,aB,az,ay,aE,rfl,_⟩:=h
  rfl
 obtain⟨m1,r1,g1,m2,r2,g2,many1,aU,wide,aB,az,ay,aE,rfl,M1,R1,M2,R2,⟨n1,n2,n3⟩,w1,k⟩:=h
 have hu:=oP hr
 refine rH (aO (hJ.mk (aL (i:=2) dJ.nd (HQ hu (CV (eI (aa aq (aa aq ag))) dN Fi))))
   (aO (hJ.mk (aL (i:=3) dJ.nd (dU (aa (eI (aa aq (aa aq ag))) ag))))
   (aO (aak PassesOwn.never (PTW.mk (bV HM (aG aM #[42] bj bH #[91]) aq (bI _))) (aO (hJ.mk (aL (i:=4) dJ.nd (Lp WG Yw Yx RS (pv 3))))
   (lI (aaW PassesOwn.never rfl (cK rfl bx #[323]) (bB (i:=5) dJ.nd) (aO (Tn (i:=6) dJ.nd rfl #[231] (Tp (eS (Dn.mk (aC ax (aC ax #[12] (aC ax (pv 4) aq #[3]) #[3]) (pv 5) #[3])) (eS (Dn.mk (aC ax (aC ax #[36] (aC ax (pv 4) aq #[3]) #[3]) (pv 5) #[3])) FC))))
   (lI (hJ.mk (cV (CY (AL hu (pv 6) (pv 2)) #[125]) (ak (sH hu (pv 2) (pv 6) dN rfl)
   (au (bZ (lN WG WH WI cc (pv 3) (aa (pv 6) ag))))) bM))))))))
   (lI (hJ.mk (aW (aG DQ #[42] bj bH #[66]))))))) ?_
 refine fun D hD=>?_
 have sD:=ao hD (HO.dT [])
 refine⟨#[64],fun t0 ht0=>⟨by rw[af (ah ae ht0)];exact ae,t0,ir [0,0],.bl true,rfl,by rw[rO,ae];rfl,?_⟩⟩
 obtain⟨H1,eH1⟩:∃ H1,upd (upd (upd H D (HO.dT [])) t0 (HO.tup [V.int 0,V.int 0])) D (HO.dT [(ir [0,0],V.bl true)])=H1:=⟨_,rfl⟩
 have s1:aH H H1:=by rw[<- eH1];exact av (sD.trans (ao ht0 _)) hD
 have OD:H1 D=some (.dT (FL [[0,0]])):=by rw[<- eH1,ae];rfl
 rw[eH1]
 refine⟨#[64],fun t1 ht1=>⟨#[176],fun L hL=>?_⟩⟩
 obtain⟨H2,Di⟩:∃ H2,upd (upd H1 t1 (HO.tup [V.int 0,V.int 0])) L (HO.lst [V.ref t1])=H2:=⟨_,rfl⟩
 have Lw:aH H1 H2:=by rw[<- Di];exact(ao ht1 _).trans (ao hL _)
 have s2:=s1.trans Lw
 have PJ:=Lw _ _ OD
 have hL2:H2 L=some (.lst ([t1].map V.ref)):=by rw[<- Di,ae];rfl
 have ht2:H2 t1=some (.tup ([(0:Int),0].map V.int)):=by rw[<- Di,af (ah ae hL),ae];rfl
 have fL:H L=none:=s1.free ((ao ht1 _).free hL)
 have nDL:D≠L:=ah (a:=D) (show(upd H1 t1 (HO.tup [V.int 0,V.int 0])) D=_ by rw[af (ah OD ht1)];exact OD) hL
 rw[Di]
 have st0:Sts #[220] [0,0] wide [[0,0]] [[0,0]]:=⟨zo _ _,fun p h=>h,fun p h=>by rw[jI.mp h];exact Rg.start,jE,fun p h=>.inl h⟩
 have BC:∀ {ms:LL},ms.Nodup->(∀ p∈ms,Rg #[220] [0,0] wide p)->ms.length<=300:=fun nd re=>jo (Ed nd fun p hp=>SQ R1 R2 n1 n2 (re p hp)) n3
 exists 2
 refine cS (t:=wo _ _) (fun σ' H'=>∃ (ms:LL) (v4 v5 v6:OV),σ'=[some #[326],some (.ref m2),some #[103],some (.ref L),v4,v5,v6]/\aH H H'/\H' D=some (.dT (FL ms))/\Sts #[220] [0,0] wide ms []) ?_ #[47]
 rotate_left
 ·refine B0 (fun mm σ' H'=>∃ (ms ws:LL) (PV:List Zg) (v4 v5 v6:OV),mm=2*(300-ms.length)+ws.length/\mm<=600/\σ'=[some #[326],some (.ref m2),some #[103],some (.ref L),v4,v5,v6]/\aH H H'/\H' D=some (.dT (FL ms))/\H' L=some (.lst (PV.map V.ref))/\aI H' PV ws/\Sts #[220] [0,0] wide ms ws)
   ⟨_,[[0,0]],[[0,0]],[t1],none,none,none,rfl,by decide,rfl,s2,PJ,hL2,.cons ht2 .nil,st0⟩ ?_
  rintro mm σ' H3 ⟨ms,ws,PV,v4,v5,v6,rfl,m63,rfl,s3,AE,tZ,A3,st⟩
  have lw:=A3.length
  refine⟨_,rfl,L,_,rfl,.inl (cG tZ),_,_,rfl,rfl,_,rfl,sS #[90] #[90]⟩
  ·rw[bz]at c
   obtain⟨BL,wa,pX,p,rfl,rfl,A4,hwa⟩:=A3.last (fun z=>by rw[z]at c;exact absurd c #[18])
   have last:((BL++[wa]).map V.ref)[((BL++[wa]).map V.ref).length-1]?=some (.ref wa):=by
    rw[bz,jG,jS,ZQ,jP,jm (jF _),Jo]
    rfl
   have dl:((BL++[wa]).map V.ref).dropLast=BL.map V.ref:=by rw[jD];exact ZD
   refine⟨fun σ' H'=>∃ m',m'<2*(300-ms.length)+(pX++[p]).length/\∃ (ms ws:LL) (PV:List Zg) (v4 v5 v6:OV),m'=2*(300-ms.length)+ws.length/\m'<=600/\σ'=[some #[326],some (.ref m2),some #[103],some (.ref L),v4,v5,v6]/\aH H H'/\H' D=some (.dT (FL ms))/\H' L=some (.lst (PV.map V.ref))/\aI H' PV ws/\Sts #[220] [0,0] wide ms ws,fun _ _ h=>h,?_⟩
   exists _,rfl,.inl ⟨rfl,_,cG tZ⟩,L,_,_,rfl,rfl,tZ,last
   rw[dl]
   obtain⟨H4,su⟩:∃ H4,upd H3 L (HO.lst (BL.map V.ref))=H4:=⟨_,rfl⟩
   have s4:aH H H4:=by rw[<- su];exact av s3 fL
   have up4:∀ a xs,H3 a=some #[29]->H4 a=some #[29]:=fun a xs e=>by rw[<- su,af (aF e tZ #[0])];exact e
   have hD4:H4 D=some (.dT (FL ms)):=by rw[<- su,af nDL];exact AE
   have OE:H4 L=some (.lst (BL.map V.ref)):=by rw[<- su,ae]
   rw[su]
   exists 2
   refine⟨_,rfl,m1,_,_,_,rfl,rfl,bJ (s4 _ _ M1.tup),rfl,(wide:Int),rfl,by omega,by omega,iq (fun i σ' H'=>∃ (RP ws2:LL) (FE:List Zg) (v5 v6:OV),σ'=[some #[326],some (.ref m2),some #[103],some (.ref L),some (.ref wa),v5,v6]/\aH H H'/\H' D=some (.dT (FL RP))/\H' L=some (.lst (FE.map V.ref))/\aI H' FE ws2/\H' wa=some (.tup (p.map V.int))/\2*(300-RP.length)+ws2.length<=2*(300-ms.length)+pX.length/\Tr #[220] [0,0] wide RP ws2 p i)
    ⟨ms,pX,BL,v5,v6,rfl,s4,hD4,OE,A4.same up4,up4 _ _ hwa,jF _,st.start⟩ ?_ ?_⟩
   ·rintro i σ' H5 hi ⟨RP,ws2,FE,v5,v6,rfl,s5,Rb,IB,A5,hw5,le5,Iv⟩
    have il:i<wide:=by omega
    have zi:(0:Int)+(i:Int)=(i:Int):=Jn _
    rw[zi]
    obtain⟨p1,p2,ep,q1,q2⟩:=SQ R1 R2 n1 n2 (Iv.re p Iv.pm)
    have M15:=M1.same fun a xs e=>s5 _ _ e
    have M25:=M2.same fun a xs e=>s5 _ _ e
    obtain⟨aaa,hr1,hA1⟩:=M15.rows
    obtain⟨aja,hr2,hA2⟩:=M25.rows
    obtain⟨ra1,rr1,a1,a2,a3⟩:=mD (f:=(i:Int)) hA1 R1 q1.1 q1.2 #[2] #[2]
    obtain⟨ra2,rr2,c1,c2,c3⟩:=mD (f:=(i:Int)) hA2 R2 q2.1 q2.2 #[2] #[2]
    have hw6:H5 wa=some (.tup [.int p1,.int p2]):=by rw[hw5,ep];rfl
    exists _,rfl,m1,_,_,_,rfl,rfl,bJ M15.tup,rfl,_,rfl,wa,_,_,_,rfl,rfl,bJ hw6,rfl,r1,_,_,_,rfl,rfl,bJ hr1,a1,_,rfl,ra1,_,_,_,rfl,rfl,bJ a2,a3
    exists _,rfl,m2,_,_,_,rfl,rfl,bJ M25.tup,rfl,_,rfl,wa,_,_,_,rfl,rfl,bJ hw6,rfl,r2,_,_,_,rfl,rfl,bJ hr2,c1,_,rfl,ra2,_,_,_,rfl,rfl,bJ c2,c3
    refine⟨#[64],fun T hT0=>?_⟩
    exists 2
    have s6:=ao hT0 #[202]
    obtain⟨H6,TV⟩:∃ H6,upd H5 T #[202]=H6:=⟨_,rfl⟩
    obtain⟨u,eu⟩:∃ u,HV aB az p i=u:=⟨_,rfl⟩
    have hT':H6 T=some (.tup (u.map V.int)):=by rw[<- TV,ae,<- eu,ep];rfl
    rw[TV]at s6 ⊢
    have hD6:=s6 _ _ Rb
    have l5:=BC Iv.nd Iv.re
    have lw5:=A5.length
    have aiA:=m63
    rw[jG,jS]at aiA
    have z:=fZ.t (k:=ir u) hD6 (b:=T) (by rw[rO];exact hT')
    by_cases c:u∈RP
    ·rw[Hw c]at z
     refine⟨_,rfl,_,rfl,D,_,rfl,z,_,rfl,pD ?_⟩
     exact⟨RP,ws2,FE,_,_,rfl,s5.trans s6,hD6,s6 _ _ IB,A5.same (fun a xs e=>s6 _ _ e),s6 _ _ hw5,le5,Iv.old (by rw[eu];exact c)⟩
    ·rw[CD c]at z
     refine⟨_,rfl,_,rfl,D,_,rfl,z,_,rfl,oj ?_⟩
     have st7:=Iv.new il (by rw[eu];exact c)
     rw[eu]at st7
     have l7:=BC st7.nd st7.re
     rw[jG,jS]at l7
     refine⟨_,rfl,_,rfl,D,_,rfl,Bo.t (k:=ir u) hD6 (by rw[rO];exact hT') (aA (by rw[Mv];omega)),?_⟩
     rw[W4 c]
     have hL6:=s6 _ _ IB
     have Ts:(upd H6 D (HO.dT (FL (RP++[u])))) L=some (.lst (FE.map V.ref)):=by rw[af (Ne.symm nDL)];exact hL6
     refine⟨_,rfl,.inl ⟨rfl,_,cG Ts⟩,_,rfl,L,_,_,rfl,rfl,Ts,aA #[35],?_⟩
     have up:∀ a xs,H6 a=some #[29]->(upd (upd H6 D (HO.dT (FL (RP++[u])))) L (HO.lst (FE.map V.ref++[V.ref T]))) a=some #[29]:=fun a xs e=>by
      rw[af (aF e hL6 #[0]),af (aF e hD6 #[0])]
      exact e
     exact⟨RP++[u],ws2++[u],FE++[T],_,_,rfl,av (av (s5.trans s6) hD) fL,by rw[af nDL,ae],by rw[ae,jD];rfl,aI.snoc (A5.same fun a xs e=>up _ _ (s6 _ _ e)) (up _ _ hT'),up _ _ (s6 _ _ hw5),by rw[jG,jS,jG,jS];omega,st7⟩
   ·rintro σ' H5 ⟨RP,ws2,FE,v5,v6,rfl,s5,Rb,IB,A5,hw5,le5,Iv⟩
    rw[jC]at Iv
    exact⟨_,by rw[jG,jS];omega,RP,ws2,FE,_,v5,v6,rfl,by rw[jG,jS]at m63;omega,rfl,s5,Rb,IB,A5,Iv.done⟩
  ·rw[bz]at c
   have e0:ws=[]:=List.length_eq_zero_iff.mp #[2]
   subst e0
   exact hZ _ _ ⟨ms,v4,v5,v6,rfl,s3,AE,st⟩
 rintro σ' H3 ⟨ms,v4,v5,v6,rfl,s3,AE,st⟩
 exists _,rfl,D,_,rfl,AE
 rw[Mv]
 exact k ms H3 s3 st.nd fun p=>⟨st.re p,Rg.all (φ:=fun q=>q∈ms) st.z fun q hq=>(st.cl q hq).resolve_left #[11]⟩
end
def El:Sp:=fun vs H Q _=>∃ (m r g:Zg) (wide:Nat) (rows:LL) (signs:LI),vs=[.ref m,.int wide]/\aV H m r g wide rows signs/\aD rows.length wide rows/\(0<rows.length/\rows.length<=1000)/\wide<=1000/\signs.length=rows.length/\lQ rows/\Apart wide rows signs /\
 ∀ H':Hp,aH H H'->Q (.bl true) H'
def MN(K:WC):Sp:=fun vs H Q _=>∃ (a m1 m2 mb fb ma fo r1 g1 r2 g2 r3 g3 r4 g4:Zg) (ns:LI) (many1 aU wide k:Nat) (aB az cW mE:LL) (ay aE cZ mL:LI) (tt mm bl mo:Int),vs=[.ref a,.ref m1,.ref m2,.ref mb,.ref fb,.ref ma,.ref fo]/\pZ K H a #[45]/\ns.length<=63/\(1<=wide/\1<=many1/\1<=aU)/\aV H m1 r1 g1 wide aB ay/\aD many1 wide aB/\ay.length=many1/\aV H m2 r2 g2 wide az aE/\aD aU wide az/\aE.length=aU /\
 aV H mb r3 g3 wide cW cZ/\AZ wide aB az ay aE (tG tt mm bl) cW cZ k/\aV H ma r4 g4 wide mE mL/\B2 wide aB ay (Bm mo) mE mL/\ig H fb tt mm bl/\px H fo mo/\(∀ z∈ay,0<=z/\z<1000000)/\Q (.bl true) H
theorem Dt:QE "ValueError" = some #[221]:=by decide +kernel
def S7:Sp:=fun vs H Q _=>∃ (m1 r1 g1 m2 r2 g2 fn:Zg) (many1 aU wide most:Nat) (aB az ms:LL) (ay aE:LI) (tt mm bl:Int),vs=[.ref m1,.ref m2,.ref fn,.int most]/\aV H m1 r1 g1 wide aB ay/\aD many1 wide aB/\ay.length=many1/\aV H m2 r2 g2 wide az aE/\aD aU wide az/\aE.length=aU/\(1<=many1/\1<=aU)/\wide<=1000/\(1<=most/\most<=900)/\ig H fn tt mm bl /\
 ms.Nodup/\(∀ p∈ms,Rg #[220] [0,0] wide p)/\most<ms.length/\∀ H':Hp,aH H H'->Q (.bl true) H'
def SX:Sp:=fun vs H Q _=>∃ (m1 r1 g1 m2 r2 g2 fn md r3 g3:Zg) (many1 aU wide k:Nat) (aB az cW ms:LL) (ay aE cZ:LI) (tt mm bl:Int),vs=[.ref m1,.ref m2,.ref fn,.ref md,.int (ms.length:Nat)]/\aV H m1 r1 g1 wide aB ay/\aD many1 wide aB/\ay.length=many1/\aV H m2 r2 g2 wide az aE/\aD aU wide az/\aE.length=aU/\(1<=many1/\1<=aU)/\wide<=1000/\ig H fn tt mm bl /\
 ms.Nodup/\(∀ p,p∈ms↔Rg #[220] [0,0] wide p)/\aV H md r3 g3 wide cW cZ/\AZ wide aB az ay aE (tG tt mm bl) cW cZ k/\∀ H':Hp,aH H H'->Q (.bl true) H'
section
variable{D8:Zg}
theorem AR:aJ ["_law_found","_law_wide"] ["_law_found","_law_wide"] (aj lG):=cU #[4]
theorem bP:aJ ["_law_script","_law_one","_law_other","_law_both","_law_by_both","_law_alone","_law_by_one","_law_p","_law_q","_law_here","_law_there","_law_cell","_law_figure"] ["_law_script","_law_one","_law_other","_law_both","_law_by_both","_law_alone","_law_by_one"] (aj pO):=cU #[4]
theorem dE:aJ ["_law_one","_law_other","_law_rule_here","_law_most","_law_refused_here","error"] ["_law_one","_law_other","_law_rule_here","_law_most"] (aj mJ):=cU #[4]
theorem cq:aJ ["_law_one","_law_other","_law_rule_here","_law_due","_law_count","_law_kept","_law_found","error"] ["_law_one","_law_other","_law_rule_here","_law_due","_law_count"] (aj fU):=cU #[4]
theorem Li(F:bE K "_law_is_least" "_law_is_least" lG dV f fd)(cy:cx P w K mg base "_law_is_machine" 2 ["_law_found","_law_wide"] [] AU)(iX:cx P w K mg base "_law_in_order" 1 ["_law_rows"] [] Ip)(mZ:cx P w K mg base "_law_parted" 2 ["_law_rows","_law_signs"] [] Em):bu P w K mg base eA 3 f fd ["_law_found","_law_wide"] El:=by
 refine F.ok AR #[6] #[1]
 ·obtain⟨m,r,g,wide,rows,signs,rfl,_⟩:=h
  rfl
 obtain⟨m,r,g,wide,rows,signs,rfl,M,R,⟨n0,n1⟩,w1,ls,O,Ap,k⟩:=h
 obtain⟨cM,pC,hA⟩:=M.rows
 refine⟨_,(au (aW (iy (bF cy hr (aa (pv 0) #[121])) (iy (bF iX hr #[323]) (pL (bF mZ hr (aa #[12] #[323]))))))),?_⟩
 refine⟨_,rfl,_,rfl,m,r,g,wide,rows,signs,rfl,M,R,n0,ls,_,rfl,oj ?_⟩
 refine⟨_,rfl,m,_,_,_,rfl,rfl,bJ M.tup,rfl,r,cM,wide,rows,rfl,pC,hA,R,n1,O,_,rfl,oj ?_⟩
 exact⟨_,rfl,m,_,_,_,rfl,rfl,bJ M.tup,rfl,_,rfl,m,_,_,_,rfl,rfl,bJ M.tup,rfl,r,g,cM,wide,rows,signs,rfl,pC,hA,R,⟨n0,n1⟩,w1,M.sgn,ls,Ap,k⟩
theorem OU(F:bE K "_law_agree" "_law_agree" pO dV f fd):bu P w K mg base eA 2 f fd ["_law_script","_law_one","_law_other","_law_both","_law_by_both","_law_alone","_law_by_one"] (MN K):=by
 refine F.ok bP #[6] #[1]
 ·obtain⟨a,m1,m2,mb,fb,ma,fo,r1,g1,r2,g2,r3,g3,r4,g4,ns,many1,aU,wide,kk,aB,az,cW,mE,ay,aE,cZ,mL,tt,mm,bl,mo,rfl,_⟩:=h
  rfl
 obtain⟨a,m1,m2,mb,fb,ma,fo,r1,g1,r2,g2,r3,g3,r4,g4,ns,many1,aU,wide,kk,aB,az,cW,mE,ay,aE,cZ,mL,tt,mm,bl,mo,rfl,hS,DX,⟨w0,n1,n2⟩,M1,R1,l1,M2,R2,l2,M3,PO,M4,CO,RU,RO,hz,k⟩:=h
 obtain⟨_,_,_,_,PD,_⟩:=PO.ex
 obtain⟨_,_,_,PH⟩:=CO.ex
 obtain⟨aaa,hr1,hA1⟩:=M1.rows
 obtain⟨aja,hr2,hA2⟩:=M2.rows
 obtain⟨aom,hr3,hA3⟩:=M3.rows
 obtain⟨aon,hr4,hA4⟩:=M4.rows
 have i1:∀ v,rE wide v->0<=aP aB v 0/\aP aB v 0<(ay.length:Int):=fun v hv=>by rw[l1];exact fX R1 hv #[2] #[2]
 have i2:∀ v,rE wide v->0<=aP az v 0/\aP az v 0<(aE.length:Int):=fun v hv=>by rw[l2];exact fX R2 hv #[2] #[2]
 have i3:∀ v,rE wide v->0<=aP cW v 0/\aP cW v 0<(cZ.length:Int):=fun v hv=>by rw[PD.sgn];exact fX PD.ok hv #[2] (by have:=PD.pos;omega)
 have i4:∀ v,rE wide v->0<=aP mE v 0/\aP mE v 0<(mL.length:Int):=fun v hv=>by rw[PH.sgn];exact fX PH.ok hv #[2] (by have:=PH.pos;omega)
 have b1:∀ v,rE wide v->0<=ay.getD (aP aB v 0).toNat 0/\ay.getD (aP aB v 0).toNat 0<1000000:=fun v hv=>by
  have:=i1 v hv
  rw[getD_at #[2]]
  exact hz _ (jH _)
 have t3:∀ v,rE wide v->cZ.getD (aP cW v 0).toNat 0=tG tt mm bl (ay.getD (aP aB v 0).toNat 0) (aE.getD (aP az v 0).toNat 0):=fun v hv=>PO.told hv
 have t4:∀ v,rE wide v->mL.getD (aP mE v 0).toNat 0=Bm mo (ay.getD (aP aB v 0).toNat 0):=fun v hv=>CO.told hv
 refine rH (aO (hJ.mk (aL (i:=7) bP.nd aq))
   (aO (hJ.mk (aL (i:=8) bP.nd aq))
   (aO (hJ.mk (aL (i:=9) bP.nd aq))
   (aO (hJ.mk (aL (i:=10) bP.nd aq))
   (aO (hJ.mk (cD PassesOwn.never rfl (dj (pv 0)) (bB (i:=11) bP.nd) (ak (cV (PW.pt (rV (bV Ec #[155] #[130] (bI _)) (rW (bV Ec #[149] #[264] (bI _))))) #[177] bM)
   (ak (aL (i:=12) bP.nd (bg cA (pv 11) #[36]))
   (ak (aL (i:=7) bP.nd (aC ax (aC ax #[36] (pv 7) #[3]) (pv 12) #[3]))
   (ak (aL (i:=8) bP.nd (aC ax (aC ax #[101] (pv 8) #[3]) (pv 12) #[3]))
   (ak (aL (i:=9) bP.nd (aC ax #[155] (pv 12) #[3]))
   (au (aL (i:=10) bP.nd (aC ax #[149] (pv 12) #[3]))))))))))
   (lI (hJ.mk (aW (iy (iE pV #[155] #[130] (bI _)) (pL (iE pV #[149] #[264] (bI _)))))))))))) ?_
 refine cS (t:=Am _ _) (fun σ' H'=>σ'=[some #[75],some #[326],some (.ref m2),some (.ref mb),some (.ref fb),some (.ref ma),some (.ref fo),some (.int 0),none,none,none,none,none]/\H=H') ?_ #[132]
 rintro σ' H' ⟨rfl,rfl⟩
 refine cS (t:=Am _ _) (fun σ' H'=>σ'=[some #[75],some #[326],some (.ref m2),some (.ref mb),some (.ref fb),some (.ref ma),some (.ref fo),some (.int 0),some (.int 0),none,none,none,none]/\H=H') ?_ #[132]
 rintro σ' H' ⟨rfl,rfl⟩
 refine cS (t:=Am _ _) (fun σ' H'=>σ'=[some #[75],some #[326],some (.ref m2),some (.ref mb),some (.ref fb),some (.ref ma),some (.ref fo),some (.int 0),some (.int 0),some (.int 0),none,none,none]/\H=H') ?_ #[132]
 rintro σ' H' ⟨rfl,rfl⟩
 refine cS (t:=Am _ _) (fun σ' H'=>σ'=[some #[75],some #[326],some (.ref m2),some (.ref mb),some (.ref fb),some (.ref ma),some (.ref fo),some (.int 0),some (.int 0),some (.int 0),some (.int 0),none,none]/\H=H') ?_ #[132]
 rintro σ' H' ⟨rfl,rfl⟩
 refine cS (t:=AW _ _ _) (fun σ' H'=>∃ (v:LI) (v10 v11:OV),rE wide v/\σ'=[some #[75],some #[326],some (.ref m2),some (.ref mb),some (.ref fb),some (.ref ma),some (.ref fo),some (.int (aP aB v 0)),some (.int (aP az v 0)),some (.int (aP cW v 0)),some (.int (aP mE v 0)),v10,v11]/\H'=H) ?_ #[47]
 rotate_left
 ·refine⟨_,rfl,a,rfl,⟨_,hS⟩,fP (K:=K) (xs:=ns.map V.int) (fun i σ' H'=>∃ (v:LI) (v10 v11:OV),rE wide v/\σ'=[some #[75],some #[326],some (.ref m2),some (.ref mb),some (.ref fb),some (.ref ma),some (.ref fo),some (.int (aP aB v 0)),some (.int (aP az v 0)),some (.int (aP cW v 0)),some (.int (aP mE v 0)),v10,v11]/\H'=H)
   ⟨[],none,none,(fun x hx=>by cases hx),rfl,rfl⟩ (fun i σ' H' _ ⟨_,_,_,_,_,e⟩=>by rw[e];exact hS) ?_ (fun σ' H' h=>hZ _ _ h)⟩
  rintro i y σ' H' hi ⟨v,v10,v11,hv,rfl,rfl⟩
  obtain⟨z,rfl,hzz⟩:=bU hi
  have j1:=i1 v hv
  have j2:=i2 v hv
  have j3:=i3 v hv
  have j4:=i4 v hv
  exists _,rfl,mb,_,_,_,rfl,rfl,bJ M3.tup,rfl,_,rfl,g3,_,_,_,rfl,rfl,bJ M3.sgn,bK j3.1 j3.2,_,rfl,RU.Ow
  refine⟨_,rfl,m1,_,_,_,rfl,rfl,bJ M1.tup,rfl,_,rfl,g1,_,_,_,rfl,rfl,bJ M1.sgn,bK j1.1 j1.2,_,rfl,m2,_,_,_,rfl,rfl,bJ M2.tup,rfl,_,rfl,g2,_,_,_,rfl,rfl,bJ M2.sgn,bK j2.1 j2.2,RU.Ow,fb,tt,mm,bl,_,_,rfl,rfl,RU,rfl,_,rfl,Bc (fun c=>absurd (congrArg V.int (t3 v hv)) c) #[135]⟩
  exists _,rfl,ma,_,_,_,rfl,rfl,bJ M4.tup,rfl,_,rfl,g4,_,_,_,rfl,rfl,bJ M4.sgn,bK j4.1 j4.2,_,rfl,RO.Ow
  refine⟨_,rfl,m1,_,_,_,rfl,rfl,bJ M1.tup,rfl,_,rfl,g1,_,_,_,rfl,rfl,bJ M1.sgn,bK j1.1 j1.2,RO.Ow,fo,mo,_,rfl,rfl,RO,b1 v hv,rfl,_,rfl,Bc (fun c=>absurd (congrArg V.int (t4 v hv)) c) #[135]⟩
  refine⟨_,rfl,_,rfl,m1,_,_,_,rfl,rfl,bJ M1.tup,rfl,_,_,rfl,rfl,by omega,?_⟩
  exists 2
  have fi:=eF (a:=z) (b:=(wide:Int)) #[2]
  obtain⟨fg,ef⟩:=fQ fi.1
  rw[ef]at fi ⊢
  obtain⟨ra1,rr1,a1,a2,a3⟩:=mD (f:=(fg:Int)) hA1 R1 j1.1 #[2] fi.1 fi.2
  obtain⟨ra2,rr2,c1,c2,c3⟩:=mD (f:=(fg:Int)) hA2 R2 j2.1 #[2] fi.1 fi.2
  obtain⟨ra3,rr3,d1,d2,d3⟩:=mD (f:=(fg:Int)) hA3 PD.ok j3.1 (by have:=PD.sgn;omega) fi.1 fi.2
  obtain⟨ra4,rr4,e1,e2,e3⟩:=mD (f:=(fg:Int)) hA4 PH.ok j4.1 (by have:=PH.sgn;omega) fi.1 fi.2
  exists _,rfl,m1,_,_,_,rfl,rfl,bJ M1.tup,rfl,_,rfl,r1,_,_,_,rfl,rfl,bJ hr1,a1,_,rfl,ra1,_,_,_,rfl,rfl,bJ a2,a3
  exists _,rfl,m2,_,_,_,rfl,rfl,bJ M2.tup,rfl,_,rfl,r2,_,_,_,rfl,rfl,bJ hr2,c1,_,rfl,ra2,_,_,_,rfl,rfl,bJ c2,c3
  exists _,rfl,mb,_,_,_,rfl,rfl,bJ M3.tup,rfl,_,rfl,r3,_,_,_,rfl,rfl,bJ hr3,d1,_,rfl,ra3,_,_,_,rfl,rfl,bJ d2,d3
  exists _,rfl,ma,_,_,_,rfl,rfl,bJ M4.tup,rfl,_,rfl,r4,_,_,_,rfl,rfl,bJ hr4,e1,_,rfl,ra4,_,_,_,rfl,rfl,bJ e2,e3
  refine⟨v++[(fg:Int)],some (.int z),some (.int fg),fun x hx=>?_,?_,rfl⟩
  ·rcases wb.mp hx with q|q
   ·exact hv x q
   ·rw[jI.mp q];exact fi
  ·rw[oZ,oZ,oZ,oZ]
   rfl
 rintro σ' H' ⟨v,v10,v11,hv,rfl,rfl⟩
 have j1:=i1 v hv
 have j2:=i2 v hv
 have j3:=i3 v hv
 have j4:=i4 v hv
 exists _,rfl,mb,_,_,_,rfl,rfl,bJ M3.tup,rfl,_,rfl,g3,_,_,_,rfl,rfl,bJ M3.sgn,bK j3.1 j3.2,_,rfl,RU.Ow
 exists _,rfl,m1,_,_,_,rfl,rfl,bJ M1.tup,rfl,_,rfl,g1,_,_,_,rfl,rfl,bJ M1.sgn,bK j1.1 j1.2,_,rfl,m2,_,_,_,rfl,rfl,bJ M2.tup,rfl,_,rfl,g2,_,_,_,rfl,rfl,bJ M2.sgn,bK j2.1 j2.2,RU.Ow,fb,tt,mm,bl,_,_,rfl,rfl,RU,rfl,_,rfl
 rw[decide_eq_true (congrArg V.int (t3 v hv))]
 refine oj ?_
 exists _,rfl,ma,_,_,_,rfl,rfl,bJ M4.tup,rfl,_,rfl,g4,_,_,_,rfl,rfl,bJ M4.sgn,bK j4.1 j4.2,_,rfl,RO.Ow
 exists _,rfl,m1,_,_,_,rfl,rfl,bJ M1.tup,rfl,_,rfl,g1,_,_,_,rfl,rfl,bJ M1.sgn,bK j1.1 j1.2,RO.Ow,fo,mo,_,rfl,rfl,RO,b1 v hv,rfl
 rw[decide_eq_true (congrArg V.int (t4 v hv))]
 exact k
theorem O7(F:bE K "_law_whole" "_law_whole" lV dV f fd)(aY:mg "isinstance" = none)(Es:mg "int" = none)(AY:mg "bool" = none):FR P w K mg base eA 1 f fd ["_law_found"] rZ:=by
 refine F.okH tJ #[6] #[1]
 ·obtain⟨z,rfl,_⟩:=h
  rfl
 obtain⟨z,rfl,q⟩:=h
 exists 13
 refine⟨_,rfl,_,_,_,_,rfl,oh.int z,rQ K,_,rfl,oj ?_⟩
 exact⟨_,rfl,_,_,_,_,rfl,oh.int z,pG K,_,rfl,q⟩
theorem X7(F:bE K "_law_refused" "_law_refused" mJ dV f fd)(c:Ds K C)(xi:wK K C f0)(na:WE K #[23] "most" = some none)(dI:mg "FigureError" = some (.ref F0))(eZ:mg "TooGreat" = some #[23])(xm:Wx K #[23] #[23]=some true)(kf:WM K #[23] (.ref F0)=some true)(kv:WM K #[23] #[221]=some true)(AD:mg "TooWide" = some (.ref D8))(k8:WM K #[23] (.ref D8)=some false)(sj:sX P w K mg base "paired" 6 ["one","other","rule","most"] [] (Al C))(mW:aaZ P w K mg base "_law_whole" 1 ["_law_found"] [] rZ)(aY:mg "isinstance" = none)(pR:mg "ValueError" = none):bu P w K mg base eA 7 f fd ["_law_one","_law_other","_law_rule_here","_law_most"] S7:=by
 refine F.ok dE #[6] #[1]
 ·obtain⟨m1,r1,g1,m2,r2,g2,fn,many1,aU,wide,most,aB,az,ms,ay,aE,tt,mm,bl,rfl,_⟩:=h
  rfl
 obtain⟨m1,r1,g1,m2,r2,g2,fn,many1,aU,wide,most,aB,az,ms,ay,aE,tt,mm,bl,rfl,M1,R1,l1,M2,R2,l2,n1,w1,mo,RU,nd,re,big,k⟩:=h
 refine⟨_,(ak (aL (i:=4) dE.nd dN)
   (ak (MH (i:=5) dE.nd rfl rfl eZ xm (MJ (SI (Ee sj hr (aa (pv 0) (aa (pv 1) (aa (pv 2) #[91])))))) (fun _=>(ak (aL (i:=4) dE.nd (iy (ae4 mW hr.held (aa (Ff K (pv 5)) ag)) (iy (iE pV (Ff K (pv 5)) (pv 3) (bI _)) (pL (Lr (aG (Ck K) #[42] aY bN (aa (pv 5) (aa (MD (v:=.ref _) rfl AD rfl) ag))))))))
   (au (aL (i:=4) dE.nd (iy (pv 4) (iy (aG (Ck K) #[42] aY bN (aa (pv 5) (aa (MD (v:=.ref _) rfl dI rfl) ag))) (pL (aG (Ck K) #[42] aY bN (aa (pv 5) (aa (lU (v:=.ty "ValueError") rfl pR Dt rfl) ag)))))))))))
   (au (aW (pv 4))))),?_⟩
 refine⟨_,rfl,_,rfl,_,rfl,_,rfl,m1,r1,g1,m2,r2,g2,fn,many1,aU,wide,most,aB,az,ay,aE,tt,mm,bl,rfl,M1,R1,l1,M2,R2,l2,n1,w1,mo,RU,fun m' r' g' aw aN kk H' s' M' PO le=>?_,fun d H' ps s' hd DD re' lt=>⟨rfl,d,rfl,fun ea U1=>?_⟩⟩
 ·exfalso
  obtain⟨ps,Bl,G,el,LO,en⟩:=PO.ex
  have:=fh nd fun p hp=>(G.rg el).mpr (re p hp)
  omega
 have s1:=s'.trans (ao U1 #[325])
 have Rh:(upd H' ea #[325]) d=some (.xd [("most",.int most)]):=by rw[af (ah hd U1)];exact hd
 refine⟨_,rfl,ea,C,d,f0,_,_,rfl,ae,Rh,xi,na,rfl,_,rfl,_,rfl,oj ?_⟩
 exists _,rfl,ea,C,d,f0,_,_,rfl,ae,Rh,xi,na,rfl,_,rfl,rfl,_,rfl
 rw[decide_eq_true rfl]
 refine oj ⟨_,rfl,ea,C,d,_,_,_,rfl,ae,c,rfl,k8,_,rfl,?_⟩
 refine⟨_,rfl,_,rfl,oj ⟨_,rfl,ea,C,d,_,_,_,rfl,ae,c,rfl,kf,?_⟩⟩
 refine⟨_,rfl,oj ⟨_,rfl,ea,C,d,_,_,_,rfl,ae,c,rfl,kv,?_⟩⟩
 exact⟨_,rfl,k _ s1⟩
theorem X5(F:bE K "_law_by_default" "_law_by_default" fU dV f fd)(xi:wK K C f0)(na:WE K #[23] "most" = some none)(eZ:mg "TooGreat" = some #[23])(xm:Wx K #[23] #[23]=some true)(rB:sX P w K mg base "paired" 6 ["one","other","rule","most"] [.int 200] (Al C))(cL:cx P w K mg base "_law_whole" 1 ["_law_found"] [] rZ)(cy:cx P w K mg base "_law_is_machine" 2 ["_law_found","_law_wide"] [] AU):bu P w K mg base eA 7 f fd ["_law_one","_law_other","_law_rule_here","_law_due","_law_count"] SX:=by
 refine F.ok cq #[6] #[1]
 ·obtain⟨m1,r1,g1,m2,r2,g2,fn,md,r3,g3,many1,aU,wide,kk,aB,az,cW,ms,ay,aE,cZ,tt,mm,bl,rfl,_⟩:=h
  rfl
 obtain⟨m1,r1,g1,m2,r2,g2,fn,md,r3,g3,many1,aU,wide,kk,aB,az,cW,ms,ay,aE,cZ,tt,mm,bl,rfl,M1,R1,l1,M2,R2,l2,n1,w1,RU,nd,hms,M3,PO,k⟩:=h
 have hu3:=RC hr
 refine⟨_,(ak (aL (i:=5) cq.nd aq)
   (ak (aL (i:=6) cq.nd Sq)
   (ak (MH (i:=7) cq.nd rfl rfl eZ xm (MJ (Z6 (i:=6) cq.nd rfl #[231] (Ee rB hr (aa (pv 0) (aa (pv 1) #[66]))))) (fun _=>(au (aL (i:=5) cq.nd (Ff K (pv 7))))))
   (ak (cV (bV HM (pv 4) aq (bI _)) (au (aW (iy (bF cL hr (aa (pv 5) ag)) (pL (iE pV (pv 5) aq (bI _)))))) bM)
   (au (aW (iy (iE pV (pv 5) aq (bI _)) (iy (bF cy hr (aa (pv 6) #[323])) (pL (iE ((Sg 2 hu3)) (pv 6) (pv 3) (bI _))))))))))),?_⟩
 refine⟨_,rfl,_,rfl,_,rfl,m1,r1,g1,m2,r2,g2,fn,many1,aU,wide,200,aB,az,ay,aE,tt,mm,bl,rfl,M1,R1,l1,M2,R2,l2,n1,w1,⟨by decide,by decide⟩,RU,fun m' r' g' aw aN k2 H' s' M' PO2 le=>?_,fun d H' ps s' hd DD re' lt=>⟨rfl,d,rfl,fun ea U1=>?_⟩⟩
 ·obtain⟨⟨e1,e2⟩,e3⟩:=PO.one PO2
  subst e1 e2
  obtain⟨ps,Bl,G,el,LO,en⟩:=PO2.ex
  have lk:=SO G.nd nd (fun p=>G.rg el) hms
  have M31:=M3.same fun b xs e=>s' _ _ e
  have M11:=M1.same fun b xs e=>s' _ _ e
  refine⟨_,rfl,_,_,rfl,rfl,_,rfl,sS #[90] #[135]⟩
  ·exfalso
   omega
  exists _,rfl,rfl,_,rfl
  rw[decide_eq_true rfl]
  refine oj ⟨_,rfl,_,rfl,m1,_,_,_,rfl,rfl,bJ M11.tup,rfl,m',r',g',wide,cW,cZ,rfl,M',LO.ok,LO.pos,LO.sgn,_,rfl,oj ⟨_,rfl,_,rfl,m',md,_,_,rfl,rfl,bJ M'.tup,bJ M31.tup,aV.eqD M' M31,k _ s'⟩⟩
 ·have s1:=s'.trans (ao U1 #[325])
  have Rh:(upd H' ea #[325]) d=some (.xd [("most",.int (200:Nat))]):=by rw[af (ah hd U1)];exact hd
  exists _,rfl,ea,C,d,f0,_,_,rfl,ae,Rh,xi,na,rfl
  exists 2
  have lp:=fh DD fun p hp=>(hms p).mpr (re' p hp)
  refine⟨_,rfl,_,_,rfl,rfl,_,rfl,sS #[135] #[90]⟩
  ·refine⟨_,rfl,_,rfl,_,rfl,oj ⟨_,rfl,rfl,?_⟩⟩
   exact k _ s1
  ·exfalso
   omega
end
def Im(K:WC)(Ps:List Zg):Sp:=fun vs H Q _=>∃ (a:Zg) (ns:LI),vs=[.ref a]/\pZ K H a #[45]/\ns.length<=63/\(∀ b∈Ps,H b=some (.BZ #[]))/\∀ H',Q (.bl true) H'
theorem L8{a:Zg}{qs:Array Value}(k:∀ b u,b≠Pt->H b=some u->H' b=some u)(t:H Pt=some (.BZ qs))(h:pZ K H a xs):pZ K H' a xs:=by
 rcases h with(h|⟨o,h⟩)|h
 ·exact .inl (.inl (k _ _ (aF h t #[0]) h))
 ·exact .inl (.inr ⟨o,k _ _ (aF h t #[0]) h⟩)
 ·exact .inr h
section
variable{P1 P2:Zg}
theorem iB:aJ ["_law_script","_law_wide","_law_one","_law_other","_law_below","_law_by_both","_law_by_one","_law_count","_law_both","_law_alone"] ["_law_script"] (aj SS):=cU #[4]
theorem abY(F:bE K "law" "law" SS dV f fd)(nP:(P1==P2)=false)(aS:cx P w K mg base "_law_number" 1 ["_law_script","_law_k"] [] (S0 K))(fJ:cx P w K mg base "_law_machine" 2 ["_law_script","_law_start","_law_wide","_law_many"] [] (MP K))(lO:cx P w K mg base "_law_round" 1 ["_law_many","_law_number_here"] [] MW)(rC:cx P w K mg base "_law_rule" 1 ["_law_times","_law_more","_law_below"] [] (S9 P1))(eU:cx P w K mg base "_law_rule_of_one" 1 ["_law_more"] [] (S8 P2))(pk:cx P w K mg base "_law_pairs" 1 ["_law_one","_law_other"] [] MS)(B4:cx P w K mg base "paired" 6 ["one","other","rule","most"] [] (fun vs H Q _=>Al C vs H Q fun _ _ _=>False))(sk:cx P w K mg base "changed" 6 ["machine","rule"] [] Ek)(eM:cx P w K mg base "_law_is_least" 3 ["_law_found","_law_wide"] [] El)(pf:cx P w K mg base "_law_agree" 2 ["_law_script","_law_one","_law_other","_law_both","_law_by_both","_law_alone","_law_by_one"] [] (MN K))(mf:cx P w K mg base "_law_refused" 7 ["_law_one","_law_other","_law_rule_here","_law_most"] [] S7)(fH:cx P w K mg base "_law_by_default" 7 ["_law_one","_law_other","_law_rule_here","_law_due","_law_count"] [] SX)(bj:mg "len" = none):bu P w K mg base eA 8 f fd ["_law_script"] (Im K [P1,P2]):=by
 refine F.ok iB #[6] #[1]
 ·obtain⟨a,ns,rfl,_⟩:=h
  rfl
 obtain⟨a,ns,rfl,hS,DX,hT,k⟩:=h
 have nP':P1≠P2:=by simpa using nP
 have t1:=hT P1 #[11]
 have t2:=hT P2 #[11]
 have hu3:=RC hr
 refine rH (aO (hJ.mk (aL (i:=1) iB.nd (bg cJ aq #[14])))
   (aO (hJ.mk (aL (i:=2) iB.nd (bF fJ hr (aa (pv 0) (aa aq (aa (pv 1) (aa (bg cJ aq #[14]) ag)))))))
   (aO (hJ.mk (aL (i:=3) iB.nd (bF fJ hr (aa (pv 0) (aa (bg cJ aq (bg iZ (aG aM #[42] bj bH (aa #[101] ag)) (bg cJ (pv 1) aq))) (aa (pv 1) (aa (bg cJ aq #[14]) ag)))))))
   (aO (hJ.mk (cV (bV pV #[14] aq (bI _)) (ak (aL (i:=1) iB.nd aq)
   (ak (aL (i:=2) iB.nd #[168])
   (au (aL (i:=3) iB.nd #[168])))) bM))
   (aO (Tn (i:=4) iB.nd rfl #[231] (ajE iC (afH (eS (Dn.mk aq) (eS (Dn.mk aq) (eS (Dn.mk aq) (eS (Dn.mk aq) (eS (Dn.mk aq) FC)))))) (Dn.mk #[14]) #[3]))
   (aO (hJ.mk (aL (i:=5) iB.nd (bF rC hr (aa (bg cJ aq #[14]) (aa #[14] #[217])))))
   (aO (hJ.mk (aL (i:=6) iB.nd (bF eU hr (aa #[14] ag))))
   (aO (hJ.mk (aL (i:=7) iB.nd (bF pk hr (aa (pv 2) #[91]))))
   (aO (hJ.mk (aL (i:=8) iB.nd (bF B4 hr (aa (pv 2) (aa (pv 3) (aa (pv 5) (aa (pv 7) ag)))))))
   (aO (hJ.mk (aL (i:=9) iB.nd (bF sk hr (aa (pv 2) (aa (pv 6) ag)))))
   (aO (hJ.mk (cV (PW.pt (rV (lh (lA (bF eM hr (aa (pv 8) #[121])))) (rW (lh (lA (bF eM hr (aa (pv 9) #[121]))))))) #[177] bM))
   (aO (ajD (PTW.mk (lh (lA (bF pf hr (aa (pv 0) (aa (pv 2) (aa (pv 3) (aa (pv 8) (aa (pv 5) (aa (pv 9) (aa (pv 6) ag))))))))))) (lI (hJ.mk (aW dN))) acE)
   (aO (hJ.mk (cV (PW.pt (SH (bV HM (pv 7) aq (bI _)) (MI (lh (lA (bF mf hr (aa (pv 2) (aa (pv 3) (aa (pv 5) (aa (bg ab3 (pv 7) aq) ag)))))))))) #[177] bM))
   (lI (hJ.mk (aW (iy (bF fH hr (aa (pv 2) (aa (pv 3) (aa (pv 5) (aa (pv 8) (aa (pv 7) ag)))))) (pL (iE ((Sg 2 hu3)) (bF sk hr (aa (pv 2) (aa (pv 6) ag))) (pv 9) (bI _)))))))))))))))))))) ?_
 refine⟨_,rfl,a,0,ns,rfl,hS,DX,by decide,by decide,fun v0 _ _=>⟨_,_,rfl,rfl,(by show(0:Int)<4;decide),_,_,rfl,rfl,?_⟩⟩
 have d0:=eF (a:=v0) (b:=4) #[18]
 obtain⟨wd,ew⟩:=fQ (x:=1+v0%4) #[2]
 exists 2
 rw[ew]
 have wl:1<=wd/\wd<=4:=by omega
 refine⟨_,rfl,_,rfl,_,rfl,a,1,ns,rfl,hS,DX,by decide,by decide,fun v1 _ _=>⟨_,_,rfl,rfl,(by show(0:Int)<4;decide),_,_,rfl,rfl,?_⟩⟩
 have d1:=eF (a:=v1) (b:=4) #[18]
 obtain⟨n1,e1⟩:=fQ (x:=1+v1%4) #[2]
 refine⟨a,7,n1,wd,ns,by show [V.ref a,V.int 7,V.int (wd:Int),V.int (1+v1%4)]=_;rw[e1],hS,DX,⟨by decide,by decide⟩,⟨by omega,by omega⟩,⟨by omega,by omega⟩,fun m1 r1 g1 H1 aB ay s1 M1 R1 l1 z1=>?_⟩
 exists 2
 obtain⟨aaa,hr1,hA1⟩:=M1.rows
 have lr:(aaa.map V.ref).length=n1:=by rw[bz,hA1.length,R1.len]
 have hS1:=s1.seq hS
 have pr:=RT (a:=(n1:Int)) (b:=(wd:Int)+1) (m:=4) (n:=5) #[2] #[2] #[2] #[2]
 refine⟨_,rfl,_,rfl,m1,_,_,_,rfl,rfl,bJ M1.tup,rfl,r1,_,rfl,.inr (bJ hr1),_,rfl,_,_,rfl,rfl,_,_,rfl,rfl,.inl ⟨by omega,by omega⟩,_,_,rfl,rfl,_,rfl,_,rfl,a,2,ns,rfl,hS1,DX,by decide,by decide,fun v2 _ _=>⟨_,_,rfl,rfl,(by show(0:Int)<4;decide),_,_,rfl,rfl,?_⟩⟩
 have d2:=eF (a:=v2) (b:=4) #[18]
 obtain⟨n2,e2⟩:=fQ (x:=1+v2%4) #[2]
 refine⟨a,_,n2,wd,ns,by show [V.ref a,V.int (7+((aaa.map V.ref).length:Int)*((wd:Int)+1)),V.int (wd:Int),V.int (1+v2%4)]=_;rw[e2],hS1,DX,by rw[lr];omega,⟨by omega,by omega⟩,⟨by omega,by omega⟩,fun m2 r2 g2 H2 az aE s2 M2 R2 l2 z2=>?_⟩
 exists 2
 have s02:=s1.trans s2
 refine cS (t:=Td _ _ _) (fun σ' H'=>∃ (m1 r1 g1 m2 r2 g2:Zg) (many1 aU wd:Nat) (aB az:LL) (ay aE:LI),σ'=[some #[75],some (.int wd),some #[326],some (.ref m2),none,none,none,none,none,none]/\aH H H'/\(1<=wd/\wd<=4)/\aV H' m1 r1 g1 wd aB ay/\aD many1 wd aB/\ay.length=many1/\aV H' m2 r2 g2 wd az aE/\aD aU wd az/\aE.length=aU/\(1<=many1/\1<=aU/\many1*aU<=300)/\(many1<=20/\aU<=20)/\∀ z∈ay,0<=z/\z<1000000) ?_ #[47]
 rotate_left
 ·refine⟨_,rfl,a,3,ns,rfl,s02.seq hS,DX,by decide,by decide,fun v3 _ _=>⟨_,_,rfl,rfl,(by show(0:Int)<8;decide),rfl,_,rfl,RF #[135] #[135]⟩⟩
  ·refine⟨_,rfl,a,1,ns,rfl,s02.seq hS,DX,by decide,by decide,fun u1 _ _=>⟨_,_,rfl,rfl,(by show(0:Int)<14;decide),_,_,rfl,rfl,?_⟩⟩
   have f1:=eF (a:=u1) (b:=14) #[18]
   obtain⟨p1,h1⟩:=fQ (x:=3+u1%14) #[2]
   refine⟨_,rfl,a,4,ns,rfl,s02.seq hS,DX,by decide,by decide,fun u4 _ _=>⟨p1,u4,by show [V.int (3+u1%14),_]=_;rw[h1],⟨by omega,by omega⟩,fun m3 r3 g3 H3 cW cZ s3 M3 R3 l3 z3=>?_⟩⟩
   exists 2
   have s03:=s02.trans s3
   refine⟨_,rfl,a,2,ns,rfl,s03.seq hS,DX,by decide,by decide,fun u2 _ _=>⟨_,_,rfl,rfl,(by show(0:Int)<14;decide),_,_,rfl,rfl,?_⟩⟩
   have f2:=eF (a:=u2) (b:=14) #[18]
   obtain⟨p2,h2⟩:=fQ (x:=3+u2%14) #[2]
   refine⟨_,rfl,a,5,ns,rfl,s03.seq hS,DX,by decide,by decide,fun u5 _ _=>⟨p2,u5,by show [V.int (3+u2%14),_]=_;rw[h2],⟨by omega,by omega⟩,fun m4 r4 g4 H4 mE mL s4 M4 R4 l4 z4=>?_⟩⟩
   refine hZ _ _ ⟨m3,r3,g3,m4,r4,g4,p1,p2,1,cW,mE,cZ,mL,rfl,s03.trans s4,by decide,M3.same (fun b xs e=>s4 _ _ e),R3,l3,M4,R4,l4,⟨by omega,by omega,?_⟩,by omega,z3⟩
   exact jo (Zc (show p1<=16 by omega) (show p2<=16 by omega)) #[18]
  ·refine hZ _ _ ⟨m1,r1,g1,m2,r2,g2,n1,n2,wd,aB,az,ay,aE,rfl,s02,wl,M1.same (fun b xs e=>s2 _ _ e),R1,l1,M2,R2,l2,⟨by omega,by omega,?_⟩,by omega,z1⟩
   exact jo (Zc (show n1<=4 by omega) (show n2<=4 by omega)) #[18]
 clear hr1 hA1 lr hS1 pr M1 R1 l1 z1 M2 R2 l2 z2 s1 s2 s02
 rintro σ' H3 ⟨m1,r1,g1,m2,r2,g2,many1,aU,wd,aB,az,ay,aE,rfl,s3,wl,M1,R1,l1,M2,R2,l2,Ld,n20,z1⟩
 refine⟨(by show 5<=sizeLine;decide),fun Lx hLx=>?_⟩
 have sLx:=ao hLx (HO.lst [V.int 2,V.int 3,V.int 1000,V.int 1000000,V.int 1])
 have s4:=s3.trans sLx
 refine⟨_,rfl,a,6,ns,rfl,s4.seq hS,DX,by decide,by decide,fun v6 _ _=>⟨_,_,rfl,rfl,#[213],?_⟩⟩
 have d6:=eF (a:=v6) (b:=5) #[18]
 have bv:0<([2,3,1000,1000000,1]:LI).getD (v6%5).toNat 0:=by
  have:v6%5=0\/v6%5=1\/v6%5=2\/v6%5=3\/v6%5=4:=by omega
  rcases this with h|h|h|h|h<;>rw[h]<;>decide
 refine⟨Lx,_,_,_,rfl,rfl,cG ae,bK (ns:=[2,3,1000,1000000,1]) d6.1 (by show v6%5<5;omega),?_⟩
 obtain⟨bl,ebl⟩:∃ bl,([2,3,1000,1000000,1]:LI).getD (v6%5).toNat 0=bl:=⟨_,rfl⟩
 exists 2
 rw[ebl]at bv ⊢
 refine⟨_,rfl,a,4,ns,rfl,s4.seq hS,DX,by decide,by decide,fun v4 _ _=>⟨_,_,rfl,rfl,(by show(0:Int)<50;decide),_,_,rfl,rfl,?_⟩⟩
 have d4:=eF (a:=v4) (b:=50) #[18]
 refine⟨_,rfl,a,5,ns,rfl,s4.seq hS,DX,by decide,by decide,fun v5 _ _=>⟨_,_,rfl,rfl,(by show(0:Int)<7;decide),_,rfl,?_⟩⟩
 refine⟨_,_,bl,rfl,⟨by omega,by omega⟩,bv,s4 _ _ t1,fun fb H5 IC RU=>?_⟩
 exists 2
 have K5:∀ b u,b≠P1->H3 b=some u->H5 b=some u:=fun b u nb e=>IC b u nb (sLx _ _ e)
 have N1:=s3 _ _ t1
 have M15:=M1.same fun b xs e=>K5 b _ (aF e N1 #[0]) e
 have M25:=M2.same fun b xs e=>K5 b _ (aF e N1 #[0]) e
 have hS5:=L8 K5 N1 (s3.seq hS)
 have t25:=K5 P2 _ (Ne.symm nP') (s3 _ _ t2)
 refine⟨_,rfl,a,5,ns,rfl,hS5,DX,by decide,by decide,fun v7 _ _=>⟨_,_,rfl,rfl,(by show(0:Int)<1000;decide),_,rfl,t25,fun fo H6 K6 RO=>?_⟩⟩
 exists 2
 have M16:=M15.same fun b xs e=>K6 b _ (aF e t25 #[0]) e
 have M26:=M25.same fun b xs e=>K6 b _ (aF e t25 #[0]) e
 have hS6:=L8 K6 t25 hS5
 have RU6:=RU.same fun b p e=>K6 b _ (aF e t25 #[0]) e
 obtain⟨mo,emo⟩:∃ mo,v7%1000=mo:=⟨_,rfl⟩
 obtain⟨tt,ett⟩:∃ tt,2+v4%50=tt:=⟨_,rfl⟩
 obtain⟨mm,emm⟩:∃ mm,v5%7=mm:=⟨_,rfl⟩
 rw[emo]at RO
 rw[ett,emm]at RU6
 clear RU M15 M25 hS5 t25 K6 K5 M1 M2 IC
 refine⟨_,rfl,_,rfl,m1,r1,g1,m2,r2,g2,many1,aU,wd,aB,az,ay,aE,rfl,M16,R1,M26,R2,Ld,by omega,fun ms H7 s7 nd hms=>?_⟩
 exists 2
 have BC:ms.length<=300:=jo (Ed nd fun p hp=>SQ R1 R2 Ld.1 Ld.2.1 ((hms p).mp hp)) Ld.2.2
 have ms1:1<=ms.length:=JO ((hms [0,0]).mpr Rg.start)
 have M17:=M16.same fun b xs e=>s7 _ _ e
 have M27:=M26.same fun b xs e=>s7 _ _ e
 refine⟨_,rfl,_,rfl,_,rfl,_,rfl,m1,r1,g1,m2,r2,g2,fb,many1,aU,wd,ms.length,aB,az,ay,aE,tt,mm,bl,rfl,M17,R1,l1,M27,R2,l2,⟨Ld.1,Ld.2.1⟩,by omega,⟨ms1,by omega⟩,RU6.same (fO s7),fun mb r3 g3 cW cZ kk H8 s8 M8 PO le=>?_,fun d H8 ps s8 hd nd8 re lt=>?_⟩
 rotate_left
 ·have:=fh nd8 fun p hp=>(hms p).mpr (re p hp)
  omega
 exists 2
 have s78:=s7.trans s8
 have M18:=M16.same fun b xs e=>s78 _ _ e
 refine⟨_,rfl,_,rfl,m1,r1,g1,fo,many1,wd,aB,ay,mo,rfl,M18,R1,l1,⟨Ld.1,by omega⟩,by omega,RO.same (fO s78),z1,fun ma r4 g4 mE mL H9 s9 M9 CO=>?_⟩
 exists 2
 obtain⟨ps,Bl,G,el,PD,en⟩:=PO.ex
 obtain⟨Eh,AS,L5,PH⟩:=CO.ex
 have al6:cW.length<=300:=by
  have h1:=PD.BC (G.ok el) (by have:=(hX G.hd).1;omega)
  omega
 have ag2:mE.length<=20:=by
  have h1:=L5.BC R1 Ld.1
  have h2:=PH.BC L5.ok L5.pos
  omega
 have M89:=M8.same fun b xs e=>s9 _ _ e
 refine⟨_,rfl,_,rfl,mb,r3,g3,wd,cW,cZ,rfl,M89,PD.ok,⟨PD.pos,by omega⟩,by omega,PD.sgn,PD.ord,PD.apart,fun Ha sa=>⟨_,rfl,pD ?_⟩⟩
 refine⟨_,rfl,_,rfl,ma,r4,g4,wd,mE,mL,rfl,M9.same (fun b xs e=>sa _ _ e),PH.ok,⟨PH.pos,by omega⟩,by omega,PH.sgn,PH.ord,PH.apart,fun Hb sb=>⟨_,rfl,pD ?_⟩⟩
 have s9b:=sa.trans sb
 have s6b:=s78.trans (s9.trans s9b)
 have M1b:=M16.same fun b xs e=>s6b _ _ e
 have M2b:=M26.same fun b xs e=>s6b _ _ e
 have M3b:=M89.same fun b xs e=>s9b _ _ e
 have M4b:=M9.same fun b xs e=>s9b _ _ e
 have RUb:=RU6.same (fO s6b)
 have ROb:=RO.same (fO s6b)
 refine⟨_,rfl,_,rfl,_,rfl,_,rfl,_,rfl,_,rfl,_,rfl,a,m1,m2,mb,fb,ma,fo,r1,g1,r2,g2,r3,g3,r4,g4,ns,many1,aU,wd,kk,aB,az,cW,mE,ay,aE,cZ,mL,tt,mm,bl,mo,rfl,s6b.seq hS6,DX,⟨wl.1,Ld.1,Ld.2.1⟩,M1b,R1,l1,M2b,R2,l2,M3b,PO,M4b,CO,RUb,ROb,z1,_,rfl,pD ?_⟩
 exists 2
 refine cS (t:=Td _ _ _) (fun σ' H'=>σ'=[some #[75],some (.int wd),some #[326],some (.ref m2),some (.int bl),some (.ref fb),some (.ref fo),some (.int (ms.length:Nat)),some (.ref mb),some (.ref ma)]/\aH Hb H') ?_ #[47]
 rotate_left
 ·refine⟨_,rfl,_,_,rfl,rfl,_,rfl,sS #[90] (fun c=>hZ _ _ ⟨rfl,fun _ _ e=>e⟩)⟩
  have e1:((ms.length:Nat):Int)-1=((ms.length-1:Nat):Int):=by omega
  refine⟨_,rfl,_,rfl,_,rfl,_,rfl,_,_,rfl,rfl,m1,r1,g1,m2,r2,g2,fb,many1,aU,wd,ms.length-1,aB,az,ms,ay,aE,tt,mm,bl,by show [V.ref m1,V.ref m2,V.ref fb,V.int (((ms.length:Nat):Int)-1)]=_;rw[e1],M1b,R1,l1,M2b,R2,l2,⟨Ld.1,Ld.2.1⟩,by omega,⟨by omega,by omega⟩,RUb,nd,fun p hp=>(hms p).mp hp,by omega,fun Hc sc=>⟨_,rfl,pD (hZ _ _ ⟨rfl,sc⟩)⟩⟩
 rintro σ' Hc ⟨rfl,sc⟩
 refine⟨_,rfl,_,rfl,_,rfl,_,rfl,_,rfl,m1,r1,g1,m2,r2,g2,fb,mb,r3,g3,many1,aU,wd,kk,aB,az,cW,ms,ay,aE,cZ,tt,mm,bl,rfl,M1b.same (fun b xs e=>sc _ _ e),R1,l1,M2b.same (fun b xs e=>sc _ _ e),R2,l2,⟨Ld.1,Ld.2.1⟩,by omega,RUb.same (fO sc),nd,hms,M3b.same (fun b xs e=>sc _ _ e),PO,fun Hd sd=>⟨_,rfl,oj ?_⟩⟩
 have scd:=sc.trans sd
 refine⟨_,rfl,_,rfl,m1,r1,g1,fo,many1,wd,aB,ay,mo,rfl,M1b.same (fun b xs e=>scd _ _ e),R1,l1,⟨Ld.1,by omega⟩,by omega,ROb.same (fO scd),z1,fun mz rz gz ale ajl He se Mz CZ=>?_⟩
 obtain⟨e1,e2⟩:=CO.one CZ
 subst e1 e2
 have Mf:=M4b.same fun b xs e=>se _ _ (scd _ _ e)
 exact⟨_,rfl,mz,ma,_,_,rfl,rfl,bJ Mz.tup,bJ Mf.tup,aV.eqD Mz Mf,k _⟩
end
structure Here(P:Zx)(w:World)(K:WC)(mg:QB->Option Value)(base:Heap):Prop
structure hU(K:WC)(mg:QB->Option Value)(x:QB)(st:Stmt):Prop where
 ex:∃ (f:Zg) (fd:Zo),mg x=some #[46]/\bE K x x st .none f fd
structure TopD(K:WC)(mg:QB->Option Value)(x:QB)(st:Stmt)(d:V):Prop where
 ex:∃ (f T:Zg) (fd:Zo) (o:Obj) (n:Nat) (u:Value),mg x=some #[46]/\bE K x x st (.ref T) f fd/\K.lookup T=some o/\o.data=.seq #[u] n/\RelV d u
structure wB(K:WC)(C:Zg)(m q:QB)(st:Stmt):Prop where
 ex:∃ (f:Zg) (fd:Zo),Meth K C m f/\bE K m q st .none f fd
structure N9(K:WC)(C:Zg)(q:QB)(st:Stmt):Prop where
 ex:∃ (f:Zg) (fd:Zo),Mk K C f/\bE K "__init__" q st .none f fd
section
variable{h:Heap}{x q m:QB}{kV u:Value}{k:Nat}
theorem ajz(X:K.In h)(G:h.Ns QU mg)(a:Yf K QU x=some #[172])(l:K.lookup f=some ⟨oc,od,.func #[246],Dm⟩)(c:WX K ck x=true)(k:WL K #[46]=true):hU K mg x st:=
 ⟨_,_,yD X G a,sA l c k⟩
theorem ajy(X:K.In h)(G:h.Ns QU mg)(a:Yf K QU x=some #[172])(l:K.lookup f=some ⟨oc,od,.func #[230],Dm⟩)(c:WX K ck x=true)(k:WL K #[46]=true)(t:K.lookup T=some ⟨tc,td,.seq #[u] n,tsl⟩)(r:RelV d u):TopD K mg x st d:=
 ⟨_,_,_,_,_,_,yD X G a,sA l c k,t,rfl,r⟩
theorem aiC(a:WE K #[23] m=some #[172])(l:K.lookup f=some ⟨oc,od,.func (WN m q (dh st) (cu st) (aj st) .none kV doc pm an ck ct),Dm⟩)(c:WX K ck q=true)(k:WL K #[46]=true)(n:Wv K #[46]=true):wB K C m q st:=
 ⟨_,_,⟨a,n,k⟩,sA l c k⟩
theorem aio(a:WE K #[23] "__init__" = some #[172])(l:K.lookup f=some ⟨oc,od,.func #[200],Dm⟩)(c:WX K ck q=true)(k:WL K #[46]=true)(n:Wv K #[46]=true)(mk:Yn K C=true)(kc:WL K #[23]=true):N9 K C q st:=
 ⟨_,_,⟨mk,a,n,kc⟩,sA l c k⟩
def BdN(p:List Value->Prop):Nat->List Value->Prop
 | 0,us=>p us
 | n+1,us=>∀ a,BdN p n (us++[a])
theorem BdN.all{p:List Value->Prop}:∀ {n:Nat} {vs:List Value} (us:List Value),BdN p n vs->us.length=n->p (vs++us)
 | 0,vs,[],h,_=>by rw[jr];exact h
 | n+1,vs,u :: us,h,e=>by
  have:=BdN.all us (h u) (Nat.succ.inj e)
  rw[jv]at this
  exact this
abbrev Bd(x q:QB)(st:Stmt)(ps:List QB):Prop := ∀ (kV doc pm:Value) (an:Option Zg) (ck ct:Value),BdN (fun us=>bindArgs (WN x q (dh st) (cu st) (aj st) .none kV doc pm an ck ct) ⟨us,[]⟩=pure #[145]) ps.length []
abbrev BdD(x:QB)(st:Stmt)(ps:List QB)(m:Nat)(g:Value->List Value):Prop := ∀ (T:Zg) (u kV doc pm:Value) (an:Option Zg) (ck ct:Value),BdN (fun us=>∃ k:Option (Array Value)->Zy (List #[260]),
 bindArgs #[230] ⟨us,[]⟩=seqItems? (.ref T)>>=k/\k (some #[u])=pure (ps.zip (us++g u))) m []
theorem hU.g(_:Here P w K mg base)(t:hU K mg x st)(ok:∀ f fd,bE K x x st .none f fd->bu P w K mg base eA k f fd ps sp)(b:Bd x x st ps:=by (repeat intro _);rfl):cx P w K mg base x k ps [] sp:=by
 obtain⟨f,fd,m,F⟩:=t.ex
 exists 79
theorem TopD.gd(_:Here P w K mg base)(t:TopD K mg x st d)(ok:∀ T f fd,bE K x x st (.ref T) f fd->bu P w K mg base eA k f fd ps sp)(b:BdD x st ps (ps.length-1) fun u=>[u]:=by (repeat intro _);exact⟨_,rfl,rfl⟩)(e:ps.length-1+1=ps.length:=by rfl):cx P w K mg base x k ps [d] sp:=by
 exists 150
 exists 44
theorem wB.g(_:Here P w K mg base)(t:wB K C m q st)(cl:DG K C)(ok:∀ f fd,bE K m q st .none f fd->bu P w K mg base eA k f fd ps sp)(b:Bd m q st ps:=by (repeat intro _);rfl):mM P w K mg base C m k ps sp:=by
 obtain⟨f,fd,M,F⟩:=t.ex
 exact⟨cl,f,fd,M,F.binds fun k d p a c e us=>(b k d p a c e).all us,ok f fd F⟩
theorem N9.g(_:Here P w K mg base)(t:N9 K C q st)(g:mg x=some #[23])(cl:DG K C)(ok:∀ f fd,bE K "__init__" q st .none f fd->bu P w K mg base eA k f fd ps sp)(b:Bd "__init__" q st ps:=by (repeat intro _);rfl):FQ P w K mg base x C k ps sp:=by
 obtain⟨f,fd,M,F⟩:=t.ex
 exact⟨g,cl,f,fd,M,F.binds fun k d p a c e us=>(b k d p a c e).all us,ok f fd F⟩
end
section
variable{x q m:QB}{F1:Zg}{kV u:Value}{k:Nat}
theorem hU.gH(_:Here P w K mg base)(t:hU K mg x st)(ok:∀ f fd,bE K x x st .none f fd->FR P w K mg base eA k f fd ps sp)(b:Bd x x st ps:=by (repeat intro _);rfl):aaZ P w K mg base x k ps [] sp:=by
 obtain⟨f,fd,m,F⟩:=t.ex
 exists 79
theorem TopD.gX2(_:Here P w K mg base)(t:TopD K mg x st d)(ok:∀ T f fd,bE K x x st (.ref T) f fd->bu P w K mg base (LU P w) k f fd ps sp)(b:BdD x st ps ps.length fun _=>[]:=by (repeat intro _);exact⟨_,rfl,rfl⟩):sX P w K mg base x k ps [] sp:=by
 exists 150
 exact⟨f,fd,[],m,F.kp,.nil,F.IM ho hs ps.length rfl fun k d p a c e us=>(b T u k d p a c e).all us,ok T f fd F⟩
theorem TopD.aha(_:Here P w K mg base)(t:TopD K mg x st d)(ok:∀ T f fd,bE K x x st (.ref T) f fd->bu P w K mg base (LU P w) k f fd ps sp)(b:BdD x st ps (ps.length-1) fun u=>[u]:=by (repeat intro _);exact⟨_,rfl,rfl⟩)(e:ps.length-1+1=ps.length:=by rfl):sX P w K mg base x k ps [d] sp:=by
 exists 150
 exists 44
structure TB(K:WC)(C F1 f:Zg)(q:QB)(st:Stmt):Prop where
 ex:∃ fd:Zo,wK K C f/\bE K "__init__" q st .none f fd
theorem TB.g(_:Here P w K mg base)(t:TB K C F1 f q st)(g:mg x=some #[23])(ok:∀ fd,wK K C f->bE K "__init__" q st .none f fd->bu P w K mg base eA k f fd ps sp)(b:Bd "__init__" q st ps:=by (repeat intro _);rfl):aa0 P w K mg base x C f k ps sp:=by
 obtain⟨fd,M,F⟩:=t.ex
 exact⟨g,M,fd,F.binds fun k d p a c e us=>(b k d p a c e).all us,ok fd M F⟩
theorem aip(a:WE K #[23] "__init__" = some #[172])(l:K.lookup f=some ⟨oc,od,.func #[200],Dm⟩)(c:WX K ck q=true)(k:WL K #[46]=true)(n:Wv K #[46]=true)(ex:tY K C f=true)(kc:WL K #[23]=true)(sa:WE K #[23] "__setattr__" = some #[67])(hd:Wt K C=true)(mr:mroIs K C [C,F1]=true)(xc:Ds K C):TB K C F1 f q st:=
 ⟨_,⟨ex,n,kc,sa,hd,⟨_,mr⟩,xc⟩,sA l c k⟩
theorem afK(ga:WE K #[23] "__getattribute__" = some #[304])(gt:WE K #[23] "__getattr__" = some none)(cl:WE K #[23] "__class__" = some (some #[24]))(gg:Wu K #[24] "__get__" = some (some #[27]))(tk:yb K #[24]=some true)(ob:WS K C #[61]=some true)(be:WS K C #[60]=some true):Ds K C:=
 ⟨ga,gt,cl,gg,tk,ob,be,by
  obtain⟨cd,e,_⟩:=zE.mp (show(WS K C #[61])=some true from ob)
  rw[e]
  rfl⟩
end
theorem IU{v:Value}{b:Bool}(h:WS K C v=some b):(PySem.W.clsIn K C).isSome=true:=by
 unfold WS at h
 obtain⟨cd,e,_⟩:=zE.mp h
 rw[e]
 rfl
theorem aeJ{t:Value}{b:Bool}(h1:WS K D #[61]=some true)(h2:Wo K #[103]=some #[123])(h3:Wa K t #[103]=some b):Yy K t #[103]=some b:=by
 unfold Yy
 dsimp only
 rw[if_pos (by rw[IU h1,h2];decide)]
 exact h3
theorem aeK{b:Bool}(h1:WS K D #[61]=some true)(h2:Wo K #[103]=some #[123])(h3:Wa K #[23] #[103]=some b)(ne:(WD C==WD D)=false):
  WM K #[23] #[103]=some b:=by
 unfold WM
 rw[if_neg (by rw[ne];decide)]
 exact aeJ h1 h2 h3
theorem abR(h:Wa K #[23] #[221]=some true):WM K #[23] #[221]=some true:=by
 unfold WM
 rw[if_neg (by intro z;cases beq_iff_eq.mp z)]
 unfold Yy
 dsimp only
 rw[if_pos #[4]]
 exact h
theorem abi{F:Zg}(h0:Wa K (.ref F) #[60]=some true)(h1:WS K F #[61]=some true)(h2:Wo K (.ref F)=some #[123])(h3:Wa K #[23] (.ref F)=some true):
  Wx K #[23] (.ref F)=some true:=by
 unfold Wx
 rw[if_pos (by rw[h0];decide)]
 exact aeJ h1 h2 h3
structure Oth(K:WC)(C D:Zg):Prop where
 o:WS K D #[61]=some true
 t:Wo K #[103]=some #[123]
 u:Wa K #[23] #[103]=some false
 e:(WD C==WD D)=false
structure Und(K:WC)(C D:Zg):Prop where
 o:WS K D #[61]=some true
 t:Wo K #[103]=some #[123]
 u:Wa K #[23] #[103]=some true
 e:(WD C==WD D)=false
structure Exm(K:WC)(C:Zg):Prop where
 b:Wa K #[23] #[60]=some true
 o:WS K C #[61]=some true
 t:Wo K #[23]=some #[123]
 u:Wa K #[23] #[23]=some true
theorem Oth.k(h:Oth K C D):WM K #[23] #[103]=some false:=aeK h.o h.t h.u h.e
theorem Und.k(h:Und K C D):WM K #[23] #[103]=some true:=aeK h.o h.t h.u h.e
theorem Exm.k(h:Exm K C):Wx K #[23] #[23]=some true:=abi h.b h.o h.t h.u
structure IL(K:WC)(mg:QB->Option Value)(ts:List Zg)(x:QB)(st:Stmt)(Pt:Zg):Prop where
 ex:∃ (f c:Zg) (fd:Zo),mg x=some #[46]/\bE K x x st .none f fd/\fd.code=.ref c/\IK K ts c Pt
section
variable{h:Heap}{x:QB}{kV:Value}{k:Nat}
theorem ajA(X:K.In h)(G:h.Ns QU mg)(a:Yf K QU x=some #[172])(l:K.lookup f=some ⟨oc,od,.func #[246],Dm⟩)(c:WX K ck x=true)(k:WL K #[46]=true)(tS:(Wk K x).isSome=true)(tH:Yd K #[207].1 #[207].2=true)(tN:K.lookup #[207].2=none)(tM:ts.elem #[207].2=true):IL K mg ts x st #[207].2:=by
 obtain⟨⟨c0,P0⟩,e⟩:=JS.mp tS
 rw[e]at tH tN tM ⊢
 exact⟨_,c0,_,yD X G a,sA l c k,TN a l e,tH,tN,List.mem_of_elem_eq_true tM⟩
theorem IL.g(_:Here P w K mg base)(t:IL K mg ts x st Pt)(hb:B1 base mg)(ok:∀ f fd c,bE K x x st .none f fd->fd.code=.ref c->TC K mg base c Pt->bu P w K mg base eA k f fd ps sp)(b:Bd x x st ps:=by (repeat intro _);rfl):cx P w K mg base x k ps [] sp:=by
 obtain⟨f,c,fd,m,F,hc,T⟩:=t.ex
 exact⟨f,fd,[],m,F.kp,.nil,F.binds fun k d p a c e us=>(b k d p a c e).all us,ok f fd c F hc ⟨T.hd,hb⟩⟩
theorem IL.tab(t:IL K mg ts x st Pt):∃ c,IK K ts c Pt:=by
 obtain⟨f,c,fd,m,F,hc,T⟩:=t.ex
 exact⟨c,T⟩
theorem hU.aiw{l:YN}{spl:List Zg->Sp}(t:hU K mg "law" st)(hfa:mg "law" = some (.ref fa))(hPs:∀ b∈Ps,∃ c,IK K ts c b)(b:∀ (kV doc pm:Value) (an:Option Zg) (ck ct v:Value),bindArgs (WN "law" "law" (dh st) (cu st) (aj st) .none kV doc pm an ck ct) ⟨[v],[]⟩=pure [(("_law_script" : QB),v)])(ok:∀ base f fd,B1 base mg->bE K "law" "law" st .none f fd->bu l.prog w K mg base eA k f fd ["_law_script"] (spl Ps)):∃ (fd:Zo) (Ps:List Zg),(∀ b∈Ps,∃ c,IK K ts c b)/\#[212]/\∀ base:Heap,K.In base->base.Ns QU mg->B1 base mg->bu l.prog w K mg base eA k fa fd ["_law_script"] (spl Ps):=by
 obtain⟨f,fd,m,F⟩:=t.ex
 cases m.symm.trans hfa
 exists 17
 exact⟨_,Ps,hPs,fun s v=>.of_eq (b kV doc pm an ck ct v),fun base _ _ hb=>ok base _ _ hb F⟩
end
theorem all_mk{l:YN}(hfa:mg "law" = some (.ref fa))(Q8:mg "Parted" = some (.ref cR))(OB:mg "Reading" = some (.ref eB))(OA:mg "Pairing" = some (.ref dH))(eZ:mg "TooGreat" = some (.ref dP))(dI:mg "FigureError" = some (.ref dG))(AD:mg "TooWide" = some (.ref DF))(bj:mg "len" = none)(bx:mg "range" = none)(fj:mg "list" = none)(aR:mg "tuple" = none)(lJ:mg "dict" = none)(cE:mg "enumerate" = none)(Es:mg "int" = none)(aY:mg "isinstance" = none)(AY:mg "bool" = none)(Et:mg "set" = none)(pR:mg "ValueError" = none)(sN:TB K dP dG sP "TooGreat.__init__" eK)(Bx:TopD K mg "reached_rooms" lH (.int 0))(EF:hU K mg "with_rooms" dz)(ED:hU K mg "columns_of" lW)(Oc:hU K mg "back_of" AN)(wD:N9 K cR "Parted.__init__" cz)(Av:wB K cR "is_done" "Parted.is_done" iz)(wF:wB K cR "wait_for" "Parted.wait_for" fR)(pz:wB K cR "next_splitter" "Parted.next_splitter" dq)(tU:wB K cR "split_off" "Parted.split_off" dw)(Aw:wB K cR "part_by" "Parted.part_by" iA)(wJ:hU K mg "unparted_groups" cN)(TL:hU K mg "least" Aj)(tV:N9 K eB "Reading.__init__" ff)(Bu:wB K eB "begin" "Reading.begin" lD)(Cc:wB K eB "step" "Reading.step" mI)(Cb:wB K eB "sign" "Reading.sign" mH)(tT:N9 K dH "Pairing.__init__" fc)(Bt:wB K dH "begin" "Pairing.begin" lC)(Ca:wB K dH "step" "Pairing.step" mG)(B9:wB K dH "sign" "Pairing.sign" mF)(TK:TopD K mg "grown" BW (.int 200))(F6:TopD K mg "paired" C6 (.int 200))(Od:hU K mg "changed" sJ)(Dq:hU K mg "_law_number" oz)(wI:hU K mg "_law_whole" lV)(F5:hU K mg "_law_sign" rX)(Cd:hU K mg "_law_machine" dW)(EC:hU K mg "_law_round" fW)(wH:hU K mg "_law_is_machine" fV)(Bv:hU K mg "_law_in_order" lF)(Dp:hU K mg "_law_marked" iG)(Dr:hU K mg "_law_parted" oA)(Bw:hU K mg "_law_is_least" lG)(EB:hU K mg "_law_pairs" pP)(A0:IL K mg ts "_law_rule" mU rG)(mq:IL K mg ts "_law_rule_of_one" dy eX)(EA:hU K mg "_law_agree" pO)(Ce:hU K mg "_law_refused" mJ)(wG:hU K mg "_law_by_default" fU)(eY:DG K cR)(agP:WE K (.ref cR) "group_of" = some none)(agQ:WE K (.ref cR) "members" = some none)(agR:WE K (.ref cR) "waiting" = some none)(agS:WE K (.ref cR) "is_waiting" = some none)(iR:DG K eB)(ai7:WE K (.ref eB) "rows" = some none)(ai8:WE K (.ref eB) "signs" = some none)(iQ:DG K dH)(aju:WE K (.ref dH) "one" = some none)(ajv:WE K (.ref dH) "other" = some none)(ajw:WE K (.ref dH) "rule" = some none)(xc:Ds K dP)(xm:Exm K dP)(xf:Und K dP dG)(abK:WE K (.ref dP) "most" = some none)(ag0:Wu K (.ref dG) "__getattribute__" = some #[161])(ag1:Yo K dG #[123]=true)(agZ:Yp K (.ref dG) #[123] "__init__" = some (.val #[139]))(kve:Wa K (.ref dP) #[221]=some true)(OS:Oth K dP DF)(nPP:(rG==eX)=false)(adC:hU K mg "law" SS):
  ∃ (fd:Zo) (Ps:List Zg),(∀ b∈Ps,∃ c,IK K ts c b)/\#[212]/\∀ base:Heap,K.In base->base.Ns QU mg->B1 base mg->bu l.prog w K mg base eA 8 fa fd ["_law_script"] (Im K Ps):=by
 refine adC.aiw (spl:=Im K) (Ps:=[rG,eX]) hfa (fun b hb=>?_) (fun _ _ _ _ _ _ _=>rfl) fun base f fd hbm adm=>?_
 ·simp only[jW,ze,or_false]at hb
  rcases hb with rfl|rfl
  ·exact A0.tab
  ·exact mq.tab
 have I:Here l.prog w K mg base:=⟨⟩
 have pc:=(show FX K cR from⟨eY,agP,agQ,agR,agS⟩)
 have rc:=(show TH K eB from⟨iR,ai7,ai8⟩)
 have qc:=(show PX K dH from⟨iQ,aju,ajv,ajw⟩)
 have iI:=sN.g I eZ fun _ xi F=>X6 F xi abK dI ag0 ag1 agZ
 have fK:=Bx.gd I fun _ _ _ F=>Ln F fj
 have lP:=EF.g I fun _ _ F=>Se F aR
 have pq:=ED.g I fun _ _ F=>X4 F bx aR
 have As:=Oc.g I fun _ _ F=>RX F cE
 have Ar:=wD.g I Q8 eY fun _ _ F=>Ll F pc bj fj bx lJ cE
 have tP:=Av.g I eY fun _ _ F=>OX F pc bj
 have mO:=wF.g I eY fun _ _ F=>Lo F pc
 have ic:=pz.g I eY fun _ _ F=>R0 F pc fj
 have pd:=tU.g I eY fun _ _ F=>Sd F pc mO bj lJ
 have tQ:=Aw.g I eY fun _ _ F=>O3 F pc pd bj
 have fM:=wJ.g I fun _ _ F=>ab0 F pc pq As Ar tP ic tQ fj lJ
 have mP:=TL.g I fun _ _ F=>RY F fK lP fM cE lJ bj
 have me:=tV.g I OB iR fun _ _ F=>R7 F rc
 have rA:=Bu.g I iR fun _ _ F=>O6 F
 have wx:=Cc.g I iR fun _ _ F=>Sa F rc
 have wu:=Cb.g I iR fun _ _ F=>R9 F rc
 have pe:=tT.g I OA iQ fun _ _ F=>R6 F qc
 have rA:=Bt.g I iQ fun _ _ F=>Lm F qc rA
 have wx:=Ca.g I iQ fun _ _ F=>O5 F qc wx
 have wu:=B9.g I iQ fun _ _ F=>O4 F qc wu
 have wy:=TK.gX2 I fun _ _ _ F=>OW F rA wx wu iI bx bj aR
 have sj:=F6.gX2 I fun _ _ _ F=>Eb F pe me wy mP
 have rB:=F6.aha I fun _ _ _ F=>Eb F pe me wy mP
 have B4:=(sX.calm sj)
 have sk:=Od.g I fun _ _ F=>Lh F mP aR
 have aS:=Dq.g I fun _ _ F=>abZ F bj
 have cL:=wI.g I fun _ _ F=>OY F aY Es AY
 have mW:=wI.gH I fun _ _ F=>O7 F aY Es AY
 have rD:=F5.g I fun _ _ F=>Sb F
 have fJ:=Cd.g I fun _ _ F=>RZ F aS rD bx aR
 have lO:=EC.g I fun _ _ F=>R8 F bx aR
 have cy:=wH.g I fun _ _ F=>Lj F cL aY aR bj
 have iX:=Bv.g I fun _ _ F=>O0 F bj bx
 have mY:=Dp.g I fun _ _ F=>OZ F bj bx aR
 have mZ:=Dr.g I fun _ _ F=>Lk F mY fj Et bj bx
 have eM:=Bw.g I fun _ _ F=>Li F cy iX mZ
 have pk:=EB.g I fun _ _ F=>R5 F bj bx
 have rC:=A0.g I hbm fun _ _ _ F hc kL=>X9 F hc kL
 have eU:=mq.g I hbm fun _ _ _ F hc kL=>X8 F hc kL
 have pf:=EA.g I fun _ _ F=>OU F
 have mf:=Ce.g I fun _ _ F=>X7 F xc iI.M abK dI eZ xm.k xf.k (abR kve) AD OS.k sj mW aY pR
 have fH:=wG.g I fun _ _ F=>X5 F iI.M abK eZ xm.k rB cL cy
 exact abY adm nPP aS fJ lO rC eU pk B4 sk eM pf mf fH bj
theorem walk{l:YN}{q:Zx}{XP:(QB->Option Value)->Heap->Prop}{YP:World->Heap->Prop}{d:DefRec}{K:Params->WC}(hn:l.most=some 63)(hdf:d.params.defaults=[])(hY:∀ (w:World) (h:Heap),YP w h->#[157].In h/\∀ P,P∈ts->h.get? P=some (YD #[]))(F:∀ (w:World) (mg:QB->Option Value) (fa:Zg) (h:Heap),#[157].In h->h.Ns QU mg->mg d.name=some (.ref fa) ->
   ∃ (fd:Zo) (Ps:List Zg),(∀ b∈Ps,∃ c,IK #[157] ts c b)/\(∀ (s:QA) (u:Value),Zj s fd ⟨[u],[]⟩ [("_law_script",u)])/\∀ base:Heap,#[157].In base->base.Ns QU mg->B1 base mg->bu l.prog w #[157] mg base eA 8 fa fd ["_law_script"] (Im #[157] Ps)):
  yp q loose XP YP l.row.toRowW d [] (fun f vs=>yc f vs):=
 L2.Pw (n:=63) (k:=8) (x := "_law_script") (CX:=fun _=>eA) (sp:=fun w Ps=>Im #[157] Ps) hn #[18] hdf ⟨rfl,by decide,by decide⟩ hY F (fun _ _ _ a ns hl hO hS=>⟨a,ns,rfl,hS,hl,hO.1,fun _=>rfl⟩) fun _ _ _ _ _ z=>z
end My
def PySem.W.Fast.tw10305263244582931612:=0
def PySem.W.Fast.tw3612458611593177463:=0
def PySem.W.Fast.tw12009579905843572381:=0
def PySem.W.Fast.tw2056778919607311420:=0
def PySem.W.Fast.tw8792779064595203922:=0
def PySem.W.Fast.tw11980009907921292850:=0
def PySem.W.Fast.tw4797821372883649387:=0
def PySem.W.Fast.tw16041502180953216193:=0
def PySem.W.Fast.tw9795796882810126565:=0
def PySem.W.Fast.tw418792945530309022:=0
def PySem.W.Fast.tw5876655622570451826:=0
def PySem.W.Fast.tw9969778434791124659:=0
def PySem.W.Fast.tw1861007868414527140:=0
def PySem.W.Fast.tw1192091997646564596:=0
def PySem.W.Fast.tw10303956980496499579:=0
def PySem.W.Fast.tw5406108013359388626:=0
def PySem.W.Fast.tw11493581420153914007:=0
def PySem.W.Fast.tw7595112062489678341:=0
def PySem.W.Fast.tw18089583171848993495:=0
def PySem.W.Fast.tw9553160005894040811:=0
def PySem.W.Fast.tw10343375271116372723:=0
def PySem.W.Fast.tw9648224761852510273:=0
def PySem.W.Fast.tw12958780120499162443:=0
def PySem.W.Fast.tw4967168718477122893:=0
def PySem.W.Fast.tw2010634410279587522:=0
def PySem.W.Fast.tw9757526219101014224:=0
def PySem.W.Fast.tw13600298922063085158:=0
def PySem.W.Fast.tw3308111168296515077:=0
def PySem.W.Fast.tw13270581357790171595:=0
def PySem.W.Fast.tw14543200834902518322:=0
def PySem.W.Fast.tw10741350308620903017:=0
def PySem.W.Fast.tw1428742787426962210:=0
def PySem.W.Fast.tw5099591339734753985:=0
def PySem.W.Fast.tw496785541537345215:=0
def PySem.W.Fast.tw8706773264055363143:=0
def PySem.W.Fast.tw10872398971230853018:=0
def PySem.W.Fast.tw3000100946228409756:=0
def PySem.W.Fast.tw17668486371774502323:=0
def PySem.W.Fast.tw12187417942148999650:=0
def PySem.W.Fast.tw15364643922979564338:=0
def PySem.W.Fast.tw4795306913721346889:=0
def PySem.W.Fast.tw15009263638607399055:=0
def PySem.W.Fast.tw18281917929029075981:=0
def PySem.W.Fast.tw1386483094952516197:=0
def PySem.W.Fast.tw12966307900811270038:=0
def PySem.W.Fast.tw16123816526084983823:=0
def PySem.W.Fast.tw2027874766407734944:=0
def PySem.W.Fast.tw15970014925674327648:=0
def PySem.W.Fast.tw1556651477303043833:=0
def PySem.W.Fast.tw5579777582386253031:=0
def PySem.W.Fast.tw12320951419385684910:=0
def PySem.W.Fast.tw4311726190874353514:=0
def PySem.W.Fast.tw14278404557274611425:=0
def PySem.W.Fast.tw15667916898904360181:=0
def PySem.W.Fast.tw13267706484394738037:=0
def PySem.W.Fast.tw14215437501088194050:=0
def PySem.W.Fast.tw1687885540430315004:=0
def PySem.W.Fast.tw2070585380423186154:=0
def PySem.W.Fast.tw9671558887110727436:=0
def PySem.W.Fast.tw12016173196350233834:=0
def PySem.W.Fast.tw1923159406497178791:=0
def PySem.W.Fast.tw2797890923233688940:=0
def PySem.W.Fast.tw16904045763580175023:=0
def PySem.W.Fast.tw756432129169965692:=0
def PySem.W.Fast.tw4810624008040368258:=0
def PySem.W.Fast.tw8701707716346510326:=0
def PySem.W.Fast.tw14597029242678801895:=0
def PySem.W.Fast.tw8782625625136842912:=0
def PySem.W.Fast.tw18258338600578667358:=0
def PySem.W.Fast.tw6260111815806166955:=0
def PySem.W.Fast.tw5413640736336524022:=0
def PySem.W.Fast.tw16866166864516572810:=0
def PySem.W.Fast.tw6782129823255292818:=0
def PySem.W.Fast.tw1002328381478556513:=0
def PySem.W.Fast.tw4953888350430405021:=0
def PySem.W.Fast.tw1057182136474430580:=0
def PySem.W.Fast.tw12895467829604174365:=0
def PySem.W.Fast.tw16566301299355255303:=0
def PySem.W.Fast.tw18069690887892608859:=0
def PySem.W.Fast.tw16049733918474976508:=0
def PySem.W.Fast.tw10730597077236700386:=0
def PySem.W.Fast.tw1704968440537067917:=0
def PySem.W.Fast.tw16320958773708324295:=0
def PySem.W.Fast.tw6999127424926682257:=0
def PySem.W.Fast.tw3778853060199439099:=0
def PySem.W.Fast.tw3661223780607581647:=0
def PySem.W.Fast.tw12005674169055133405:=0
def PySem.W.Fast.tw8195404075700998131:=0
def PySem.W.Fast.tw7399356183266634172:=0
def PySem.W.Fast.tw6388789786101510005:=0
def PySem.W.Fast.tw6765445870293782789:=0
def PySem.W.Fast.tw9853660293378551996:=0
def PySem.W.Fast.tw7028553778110944203:=0
def PySem.W.Fast.tw10442640189003266486:=0
def PySem.W.Fast.tw11829194179581698778:=0
def PySem.W.Fast.tw11239303693505277627:=0
def PySem.W.Fast.tw10530038544418888145:=0
def PySem.W.Fast.tw8018005124176738045:=0
def PySem.W.Fast.tw16687238020059647379:=0
def PySem.W.Fast.tw10100788170828139307:=0
def PySem.W.Fast.tw6271318216532249474:=0
def PySem.W.Fast.tw7257536492444463705:=0
def PySem.W.Fast.tw10489788112762018693:=0
def PySem.W.Fast.tw5838717264475731221:=0
def PySem.W.Fast.tw832787637431989560:=0
def PySem.W.Fast.tw16804868667795244816:=0
def PySem.W.Fast.tw454727997495806077:=0
def PySem.W.Fast.tw17527684838337137448:=0
def PySem.W.Fast.tw13303869232998705130:=0
def PySem.W.Fast.tw15949083216114046892:=0
def PySem.W.Fast.tw5119320320016887643:=0
def PySem.W.Fast.tw4855322515030262922:=0
def PySem.W.Fast.tw16653895928095629456:=0
def PySem.W.Fast.tw17054667099140041174:=0
def PySem.W.Fast.tw16199341575579811064:=0
def PySem.W.Fast.tw12091961333047527286:=0
def PySem.W.Fast.tw10159934709509148089:=0
def PySem.W.Fast.tw10906473910637633586:=0
def PySem.W.Fast.tw17841944470645111404:=0
def PySem.W.Fast.tw4774051690620167459:=0
def PySem.W.Fast.tw1704012747845980175:=0
def PySem.W.Fast.tw5755390932233805154:=0
def PySem.W.Fast.tw16303935293449533981:=0
def PySem.W.Fast.tw9623429662421209210:=0
def PySem.W.Fast.tw7410131976319738301:=0
def PySem.W.Fast.tw5336103824139682379:=0
def PySem.W.Fast.tw5470988011059567274:=0
def PySem.W.Fast.tw14499778596294508649:=0
def PySem.W.Fast.tw13569511045760595957:=0
def PySem.W.Fast.tw14503373332134388495:=0
def PySem.W.Fast.tw4706701797610693054:=0
def PySem.W.Fast.tw9623627725517450181:=0
open PySem PySem.W PyProof.Rows
set_option maxRecDepth 100000 in
set_option maxHeartbeats 0 in
theorem PySem.Challenge.cw_figuretell_k24_paired_and_changed_holds : PySem.Challenge.rw_figuretell_k24_paired_and_changed.Holds := by
 w_on; o_law; k_head; (case hw=>w_witness2)
 k_fill
 refine My.walk (l:=PySem.Challenge.rw_figuretell_k24_paired_and_changed) rfl rfl (fun w h Y=>Y) ?F
 case F =>
  intro w mg fa h KX G hmg
  apply My.all_mk hmg
  all_goals first
   | exact PySem.W.mg_none_of KX G (by k_is)
   | (refine' PySem.W.mg_of KX G ?qa; (case qa=>k_is))
   | (refine' My.ajA KX G ?qa ?ql ?qc ?qk ?_ ?_ ?_ ?_; (case qa=>k_is); (case ql=>k_is); (case qc=>k_is); (case qk=>k_is); all_goals first | k_is | k_exc | decide | kernel_rfl)
   | (refine' My.ajz KX G ?qa ?ql ?qc ?qk; (case qa=>k_is); (case ql=>k_is); (case qc=>k_is); (case qk=>k_is))
   | (refine' My.ajy KX G ?qa ?ql ?qc ?qk ?qt ?qr; (case qa=>k_is); (case ql=>k_is); (case qc=>k_is); (case qk=>k_is); (case qt=>k_is); (case qr=>first | rfl | exact ⟨_,rfl⟩))
   | (refine' My.aiC ?qa ?ql ?qc ?qk ?qn; (case qa=>k_is); (case ql=>k_is); (case qc=>k_is); (case qk=>k_is); (case qn=>k_is))
   | (refine' My.aio ?qa ?ql ?qc ?qk ?_ ?_ ?_; (case qa=>k_is); (case ql=>k_is); (case qc=>k_is); (case qk=>k_is); all_goals first | k_is | k_exc | decide | kernel_rfl)
   | (refine' My.aip ?qa ?ql ?qc ?qk ?qn ?_ ?_ ?_ ?_ ?_ ?qxc; (case qa=>k_is); (case ql=>k_is); (case qc=>k_is); (case qk=>k_is); (case qn=>k_is); (case qxc=>refine' My.afK ?_ ?_ ?_ ?_ ?_ ?_ ?_ <;> k_is); all_goals first | k_is | k_exc | decide | kernel_rfl)
   | (refine' My.afK ?_ ?_ ?_ ?_ ?_ ?_ ?_ <;> k_is)
   | k_is
   | k_exc
   | (refine ⟨?_,?_,?_,?_⟩ <;> first | k_is | k_exc | decide | kernel_rfl)
   | decide
   | kernel_rfl
