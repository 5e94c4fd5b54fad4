import PyProof.Rows.All
import Wide.All
import OpenK.AllK
import Wide.FinOn
import Lean
import PyProof.EqAt
import PyProof.EqKinds
import PyProof.TupleCall
import PyProof.CompMap
import PyProof.NeKinds
import PyProof.ExcBaseAll.ValueError
import PyProof.ExcClass3
import OpenK.KOwn
import PyProof.Rows.FStr
import KE.KTryMore
import PyProof.ExcAttrAll.ValueError
import KE.KDictList
import PyProof.ExcInit
import PyProof.InstStoreFacts
import PyProof.Draws
import PyProof.ListRange
import PyProof.ZipIter
import PyProof.EnumMake
import PyProof.CollectIter
import PyProof.SetRoads
import PyProof.Rows.SortShell
import PyProof.Rows.SortWalk
import PyProof.Rows.StrJoin2
import PyProof.StrBlock2
import PyProof.Rows.SortStr
import PyProof.StrLawsIdx
import PyProof.StrBlockI
import PyProof.StrLoop
import PyProof.StrWalks
import KE.KIntText
import PyProof.ReprStr
import KE.KEqDict
import KE.KxText
import PySem.Challenge.RW_figuretell_k67_refused_rows
open PySem.W renaming Frag→YW,findIn→YZ,keepIn→Yd,kitOne→Ye,fnOf→Yh,kia_one→Ym,mroIn→Yp,codeIn→Yr,emptyDict→Yt,callWith_K→Yu,subIn→Yz,instObj→yA,typeIn→yJ,isFn→yK,hasDictIn→yP,specialIn→yQ,hideAll_get→yW,exmOne→ye,tabObj→yf,cellsFrom_some→yh,plainGet→yj,methodCall_KW→yk,hideAll_none→yo,kla_obj→yr,OpenLaw→yt,plainGet_of→yx,lookIn→yz,methodObj→XJ,codeHdIn→XN,envX→XO,takerIn→XY,makesIn→XZ,readsIn→Xb,findCls→Xc,kitCls→Xk,mg_of→Xp,codeHd_of_K→Xu,of_hideAll→Xy,codeRec_of→xB,nsIn→xH,plainOver→xI,kitx_list→xK,kitx_dict→xM,handedIn→xV,kdl_call→xW,hideAll→xZ,takesIn→xb,kla_fn→xp,WalkO→xw
open PySem.Value renaming ref→YX,none→Yc,int→Yj,builtin→Yq,str→yF,bool→yU,type→yn,float→xT,isStrOf→xt,isInt→Gi,bytes→Gj
open PySem.F renaming plainAttrs_list→YY,slot_list_append→Ya,type_list_append→Yb,plainAttrs_dict→Yw,slot_dict_keyiterator_iter→Yy,slot_dict_keyiterator_next→yE,slot_dict_get→yG,slot_tuple_iterator_next→yH,slot_list_extend→yM,type_list_extend→yN,slot_dict_pop→yR,slot_list_pop→yS,type_list_pop→yT,args_dict_keyiterator_iter_1→ya,entry_dict_keyiterator_iter→yc,slot_dict_itemiterator_iter→yd,entry_dict_get→yi,args_dict_keyiterator_next_1→yq,slot_zip_next→yu,entry_dict_keyiterator_next→yw,args_tuple_iterator_next_1→XA,slot_dict_setdefault→XB,entry_tuple_iterator_next→XD,excBase_ValueError→XI,args_dict_pop_3→XR,args_dict_get_3→XS,slot_dict_items→XU,entry_dict_pop→Xd,plainAttrs_str→Xe,type_dict_get→Xf,type_dict_pop→Xg,entry_bexc_ga→Xh,slot_enumerate_next→Xi,args_list_extend_2→Xl,args_bexc_ga→Xn,entry_list_extend→Xr,slot_list_extend→xE,slot_tuple_hash→xP,plain_list_iadd→xR,args_zip_next_1→xS,slot_dict_iter→xX,entry_zip_next→xY,plain_set_new→xj,slot_set_iter→xk,slot_dict_len→xn
open PySem.Heap renaming SameBut→Yf,ExtBut→yV,IsRevIter→Xm,IsTuple→xF,IsList→xU
open PySem.Heap.SameBut renaming update→Yg,extBut→Xt,refl→xN
open PySem renaming mem_of_lookup→Yi,strKind→Yo,Within→Xx,call→xg
open PySem.Builtin.SmallTypes renaming nextOf→Yk,ownedTupleIsFree→Yv,ownedTupleHandOut→yZ
open PyProof.Rows renaming callWith_type1→Yl,step_dedup→Yx,slot_tuple_getitem→ym,callWith_builtin1→yp,assign_Tuple→GK,mul_int→Gs
open PySem.Calls renaming spliced_cons→Yn,callWith_builtin→Ys,evalArgs_plain→yB,spliced_nil→yD,Name_function_global→XF,call_function_entry→XM,call_len_list→Xq,Constant_str→Xz
open PySem.Builtin.List renaming listTooLong→yC,listExtendWith→XE,listSameRef→XQ,listLengthHint→xr,listTouch→Gm
open PySem.Builtin.Slice renaming slicePlaces→yI,sliceAdjust→yX,sliceApplied→XG,slicePartIndex→xo,sliceFields→GJ
open PySem.Builtin.Tuple renaming tupleExact→yL,tupleHashOf→yY,tupleItemsOf→XH
open PySem.SeqAt renaming EqAt→yO
open PySem.Value.type renaming inj→yb
open PyProof.Rows.F renaming plain_set_update_loop→yg,entry_set_update_loop→XX
open PySem.Builtin.Dict_items renaming ownsTuple→XC
open PySem.Builtin.ObjectAttr renaming find→XT,dataDescriptor?→xO,getOf→Gb
open PySem.Builtin.Dict renaming updateFrom→XW,showsAll→Xj,dictSlotNone→GL,pendingCount→GN,addKeywords→Gd,selfAndRest→Ge,pairItems→Gk
open PySem.SeqAt.EqAt renaming same→Xa,int_str→Xv,str_int→Xw,int_int→xC,str_str→xD,of_refs→xG,none_bool→Gp,bool_none→Gq,bool_bool→Gr,none_int→Gv,none_str→Gw,bool_int→Gx,bool_str→Gy,int_none→Gz,int_bool→gA,str_none→gB,str_bool→gC
open PySem.Value.ref renaming inj→Xo
open PySem.Builtin.Int renaming intBits→Xs
open PySem.W.Looks renaming here→xA,ld→gL
open PySem.Heap.Ns1 renaming of_empty→xJ
open PySem.SeqAt.RcAt renaming tuples→xQ
open PySem.Heap.DictOf renaming new→xh
open PySem.Builtin.Frozenset renaming updateFrom→xq,newClass→xu,sizeOf→Gf,slot0→Gh
open PySem.EqNone renaming eq_none_none→xx,eq_none_bool→xy,eq_bool_none→GA,ne_none_none→GD,ne_none_bool→GF,ne_bool_none→GG,eq_none_int→GO,eq_none_str→GP,eq_int_none→GQ,eq_str_none→GS,ne_none_int→GV,ne_none_str→GW,ne_int_none→GX,ne_str_none→GZ
open PySem.EqMixed renaming eq_bool_str→GB,eq_str_bool→GC,ne_bool_str→GH,ne_str_bool→GI,eq_int_str→GR,eq_str_int→GU,ne_int_str→GY,ne_str_int→Ga
open PySem.Builtin.Range renaming rangeSize→Gg
open PySem.Heap.Ns renaming of_isNs→Gn
open PySem.W.KT renaming join_ones→Gu
open PySem.SeqAt.RcNeAt renaming tuples→gD
open PySem.W.KeqHits renaming hit→gE
open PySem.Heap.IsSliceOf renaming new→gF
open PySem.Str renaming ofString→gG
open PySem.Within renaming cons→gI
open PySem.IsL renaming update→gJ
open PySem.Heap.DictOfH renaming new→gK
open PySem renaming Addr→QX,Arguments→QZ,BindsTo→Qa,CmpOp→Qb,DictEntry→Qc,Drawn→Qe,ElemsOf→Qf,Env→Qg,FuncData→Qh,GenState→Qi,IsPair→Qk,IsPart→Ql,IsTupleKey→Qo,IsZip→Qp,Keyword→Qq,NameKind→Qr,Paired→Qs,PassesOwn→Qt,PlainAttrs→Qu,Program→Qv,Sem→Qw,SetTable→Qx,Shared→Qz,assignEach→qD,behindInMarks→qE,bootBuiltins→qF,builtinLookup_eq_fast→qG,call_meets→qH,call_meetsIn→qI,codeAny_builtin→qJ,codeAny_call_builtin→qK,codeAny_call_function→qL,codeAny_mono→qM,codeAny_of_tree→qN,compareOp→qO,entryFor_alias→qP,entryFor_of_tree→qQ,fits_of_scanBound→qR,intKind→qS,isSubtype_stop→qU,mainGlobals→qW,pastItsLine_dict→qX,plainId_quiet→qY,plainObj_wpAny_Assign_Attribute→qZ,post_val_or_str→qd,seqIndex_of→qf,sizeLine_eq→qg,starEach→qh,strKind_is→qj,swapsWith→qq,sysModules→qu,tupleKind→qv,tupleKind_room_in1→qw,typeIs_str→qx,typeLookup_type→qy,wpAny_Assign_Subscript→qz,wpAny_Call_Name_kw→WB,wpAny_Call_method→WC,wpAny_Name→WD,wpAny_askSetting→WE,wpAny_assign_Name→WG,wpAny_attempt→WH,wpAny_bind→WI,wpAny_call→WJ,wpAny_callSpecial?_slot→WK,wpAny_call_entry→WL,wpAny_comprehension_free→WM,wpAny_dictEntries→WN,wpAny_dictEpoch→WO,wpAny_dictSet_heap→WQ,wpAny_entryPlaceOf→WR,wpAny_execs_cons→WS,wpAny_execs_nil→WT,wpAny_field→WU,wpAny_fieldsOf→WV,wpAny_frameOf_fun→WW,wpAny_getItem_str_slice→WX,wpAny_handled→WY,wpAny_holding→WZ,wpAny_isInstance→Wa,wpAny_isOneOf_keyiter→Wb,wpAny_isSubtype_exc→Wc,wpAny_isTrue_Compare1→Wd,wpAny_letGo→We,wpAny_load→Wf,wpAny_loadPart→Wg,wpAny_loadPart_at→Wh,wpAny_lookBehind→Wi,wpAny_mono→Wj,wpAny_newFunctionEnv→Wk,wpAny_newFunctionEnv_cells→Wl,wpAny_newObj_type→Wm,wpAny_newTuple→Wn,wpAny_notOrdered_dict→Wq,wpAny_of_eq→Wr,wpAny_onRaise→Ws,wpAny_passesOwn→Wu,wpAny_pure→Wv,wpAny_pyIter_enum→Ww,wpAny_pyIter_list→Wx,wpAny_pyIter_revIter→Wy,wpAny_pyIter_slot→Wz,wpAny_pyIter_tuple→YA,wpAny_pyIter_zip→YB,wpAny_pyNext_list_end→YC,wpAny_pyNext_list_item→YD,wpAny_ret_mkInt→YE,wpAny_rule→YF,wpAny_seqItems→YG,wpAny_setField→YH,wpAny_setField_rec→YI,wpAny_setItem_heap→YJ,wpAny_setState_of→YK,wpAny_specialOf→YL,wpAny_standAt→YM,wpAny_storeSet_of→YN,wpAny_throw→YO,wpAny_truthy_bool→YQ,wpAny_typeNameOfWhole_keyiter→YR,wpAny_typeNameOf_keyiter→YS,wpAny_typeOf→YT,wpAny_updateSeq→YU,wpAny_updateSeq_pair→YV
open PyProof.Rows renaming AllBare→QY,IntsAre→Qj,IsTup→Qm,StrsAre→qA,Subscript_→qB,subscriptTail_builtinR→qp,wpAny_notIn_heap→Wo
open PySem.W renaming looks_mroIn→qV
open PySem.Heap renaming get?_push_of_some→jA,get?_push_size→jF,lt_size→jI,size_push→jc,get?_update_self→jk,get?_update_other→jm,get?_none_of_le→zY,get?_push_cases→zi,get?_update_ne→Ze,push→QV
open List renaming map_append→jB,mem_cons_self→jC,getElem?_eq_getElem→jE,length_append→jG,mem_singleton→jH,mem_cons_of_mem→jJ,mem_map→jK,mem_cons→jL,take_add_one→jO,size_toArray→jP,length_map→jQ,take_length→jR,length_take→jT,getElem?_map→jU,getElem_mem→jV,length_cons→jX,append_nil→jZ,length_singleton→ja,getElem?_eq_some_iff→jb,lookup_cons→jd,getD_eq_getElem?_getD→jf,mem_append_right→jh,range→ji,nodup_cons→jn,getElem_of_mem→jo,getElem?_append_left→jq,not_mem_nil→jr,mem_filter→js,length_range→jt,foldl_append→ju,append_assoc→jv,map_cons→jy,idxOf_lt_length_of_mem→JA,mem_append_left→JB,mem_range→JC,mem_iff_getElem?→JD,getElem?_append_right→JF,filter_cons_of_neg→JG,nodup_append→JH,length_filter_le→JI,getElem_inj→JJ,map_map→JN,getElem?_eq_none→JO,range_succ→JP,foldl_cons→JQ,filter_cons_of_pos→JR,mem_of_getElem?→JS,any_eq_true→JX,filter_append→JY,lookup→JZ,mem_append→Jb,length_nil→Jc,nodup_nil→Je,getElem?_set_self→Jf,length→Jg,take_of_length_le→Jh,length_pos_of_mem→Ji,getElem?_set_ne→Jm,set_set→Jp,getElem_map→Jq,map_congr_left→Jr,find?_cons→Js,pairwise_cons→Jt,filter_congr→Jw,pairwise_map→Jx,replicate→Jy,dropLast_concat_getLast→zB,length_eraseIdx_of_lt→zF,filterMap_cons→zH,of_mem_zip→zI,forIn_cons→zJ,getElem_idxOf→zN,take_zero→zO,length_eq_zero_iff→zQ,pairwise_singleton→zR,getLast?_cons_cons→zS,getElem_take→zT,any_cons→zV,cons_append→zW,length_set→ze,dropLast_concat→zo,nil_append→zp,flatMap_append→zq,forIn_nil→zr,not_lt→zt,mem_filterMap→zu,lookup_append→zv,exists_cons_of_ne_nil→ZA,take_sublist→ZD,getElem?_zip_eq_some→ZF,drop_eq_getElem_cons→ZG,mem_take_iff_getElem→ZH,length_drop→ZJ,map_nil→ZK,all_eq_true→ZM,ext_getElem→ZN,length_erase_of_mem→ZO,pairwise_lt_range→ZR,find?_cons_of_neg→ZS,take_append_drop→ZV,length_dropLast→ZX,mem_erase_of_ne→ZY,mem_of_mem_take→ZZ,all_cons→Za,filter_eq_self→Zg,getElem?_range→Zh,zipIdx_append→Zo,getElem_range→Zp,ext_getElem?→Zr,idxOf_append→Zs,flatMap_cons→Zt,map_id→Zw,filter_cons→Zy,zipIdx_cons→Zz,drop_length→QA,mem_flatMap→QC,zipIdx_nil→QD,filter_map→QH,filter_nil→QI,idxOf_cons→QJ,sum_cons→QM,getD→QW
open Nat renaming le_refl→jD,ne_of_lt→jM,lt_of_lt_of_le→jS,le_trans→jW,zero_le→je,le_succ→JE,lt_succ_self→JK,le_of_lt→JL,lt_irrefl→JT,ne_of_gt→JW,not_lt_zero→Jd,zero_add→Jj,lt_succ_of_lt→Jl,le_of_not_lt→Jo,lt_of_succ_lt_succ→Jv,lt_trans→zA,lt_or_ge→zC,pow_le_pow_right→zD,lt_of_le_of_lt→zK,eq_zero_or_pos→zL,sub_self→zM,le_of_eq→zb,pos_of_ne_zero→zw,add_sub_cancel→zx,pow_succ→ZP,lt_succ_iff_lt_or_eq→ZQ,add_assoc→Zc,add_left_cancel→Zf,add_sub_cancel'→Zi,pow_le_pow_left→Zj,succ_le_succ→QB,mod_lt→QF,log2_lt→QR,pow_one→QT
open Int renaming toNat_natCast→jN,toNat_of_nonneg→jz,lt_of_le_of_lt→Jk,mul_le_mul→Jn,le_of_lt→Jz,le_refl→zG,zero_add→zj,le_trans→zk,fdiv_eq_ediv_of_nonneg→zy,add_mul_emod_self_left→ZC,mul_nonneg→ZU,ediv_lt_of_lt_mul→ZW,add_assoc→Zd,emod_lt_of_pos→Zn,emod_eq_of_lt→Zu,emod_nonneg→QG,ediv_nonneg→QK,mul_assoc→QN,mul_comm→QO,add_zero→QP,mul_one→QQ,mul_add→QS
open Bool renaming false_ne_true→jY,false_eq_true→jw,and_eq_true→Ja,eq_iff_iff→zZ,and_false→ZT,not_true→Zb,false_and→QL
open Array renaming length_toList→jg,getElem?_eq_getElem→jx,getElem?_eq_some_iff→JU,getElem?_toList→JV,getElem?_setIfInBounds_self_of_lt→zE,getElem?_eq_none→zU,getElem?_setIfInBounds_ne→zX,toArray_toList→zh,toList→ZI,find?_toList→Zk,forIn_toList→Zm,toList_push→Zq,getD→QE
open Option renaming isSome_iff_exists→JM,map_eq_some_iff→Ju,bind_eq_some_iff→zP,map_some→zg,isSome_map→ZE,getD_some→ZL,isSome_some→Zl,none→Zv,getD_none→Zx,map→QU
local macro_rules|`(tactic|exists $es,*)=>`(tactic|refine ⟨$es,*, ?_⟩)
set_option Elab.async false
set_option linter.all false
namespace L2
variable{t0 t1 t2 t3 t4 t5 t6 t7 t8 t9:Type}
inductive E2 (p:t0->t1->Prop):Prop
 | mk (x0:t0) (x1:t1) (h:p x0 x1):E2 p
inductive E3 (p:t0->t1->t2->Prop):Prop
 | mk (x0:t0) (x1:t1) (x2:t2) (h:p x0 x1 x2):E3 p
inductive E4 (p:t0->t1->t2->t3->Prop):Prop
 | mk (x0:t0) (x1:t1) (x2:t2) (x3:t3) (h:p x0 x1 x2 x3):E4 p
inductive E5 (p:t0->t1->t2->t3->t4->Prop):Prop
 | mk (x0:t0) (x1:t1) (x2:t2) (x3:t3) (x4:t4) (h:p x0 x1 x2 x3 x4):E5 p
inductive E6 (p:t0->t1->t2->t3->t4->t5->Prop):Prop
 | mk (x0:t0) (x1:t1) (x2:t2) (x3:t3) (x4:t4) (x5:t5) (h:p x0 x1 x2 x3 x4 x5):E6 p
inductive E7 (p:t0->t1->t2->t3->t4->t5->t6->Prop):Prop
 | mk (x0:t0) (x1:t1) (x2:t2) (x3:t3) (x4:t4) (x5:t5) (x6:t6) (h:p x0 x1 x2 x3 x4 x5 x6):E7 p
inductive E8 (p:t0->t1->t2->t3->t4->t5->t6->t7->Prop):Prop
 | mk (x0:t0) (x1:t1) (x2:t2) (x3:t3) (x4:t4) (x5:t5) (x6:t6) (x7:t7) (h:p x0 x1 x2 x3 x4 x5 x6 x7):E8 p
inductive E9 (p:t0->t1->t2->t3->t4->t5->t6->t7->t8->Prop):Prop
 | mk (x0:t0) (x1:t1) (x2:t2) (x3:t3) (x4:t4) (x5:t5) (x6:t6) (x7:t7) (x8:t8) (h:p x0 x1 x2 x3 x4 x5 x6 x7 x8):E9 p
inductive E10 (p:t0->t1->t2->t3->t4->t5->t6->t7->t8->t9->Prop):Prop
 | mk (x0:t0) (x1:t1) (x2:t2) (x3:t3) (x4:t4) (x5:t5) (x6:t6) (x7:t7) (x8:t8) (x9:t9) (h:p x0 x1 x2 x3 x4 x5 x6 x7 x8 x9):E10 p
inductive E12 {t10 t11:Type} (p:t0->t1->t2->t3->t4->t5->t6->t7->t8->t9->t10->t11->Prop):Prop
 | mk (x0:t0) (x1:t1) (x2:t2) (x3:t3) (x4:t4) (x5:t5) (x6:t6) (x7:t7) (x8:t8) (x9:t9) (X1:t10) (x11:t11) (h:p x0 x1 x2 x3 x4 x5 x6 x7 x8 x9 X1 x11):E12 p
inductive E17 {t10 t11 t12 t13 t14 t15 t16:Type} (p:t0->t1->t2->t3->t4->t5->t6->t7->t8->t9->t10->t11->t12->t13->t14->t15->t16->Prop):Prop
 | mk (x0:t0) (x1:t1) (x2:t2) (x3:t3) (x4:t4) (x5:t5) (x6:t6) (x7:t7) (x8:t8) (x9:t9) (X1:t10) (x11:t11) (x12:t12) (x13:t13) (x14:t14) (x15:t15) (x16:t16) (h:p x0 x1 x2 x3 x4 x5 x6 x7 x8 x9 X1 x11 x12 x13 x14 x15 x16):E17 p
inductive A3 (p0 p1 p2:Prop):Prop
 | mk (_:p0) (_:p1) (_:p2):A3 p0 p1 p2
inductive A4 (p0 p1 p2 p3:Prop):Prop
 | mk (_:p0) (_:p1) (_:p2) (_:p3):A4 p0 p1 p2 p3
inductive A5 (p0 p1 p2 p3 p4:Prop):Prop
 | mk (_:p0) (_:p1) (_:p2) (_:p3) (_:p4):A5 p0 p1 p2 p3 p4
inductive A6 (p0 p1 p2 p3 p4 p5:Prop):Prop
 | mk (_:p0) (_:p1) (_:p2) (_:p3) (_:p4) (_:p5):A6 p0 p1 p2 p3 p4 p5
inductive A7 (p0 p1 p2 p3 p4 p5 p6:Prop):Prop
 | mk (_:p0) (_:p1) (_:p2) (_:p3) (_:p4) (_:p5) (_:p6):A7 p0 p1 p2 p3 p4 p5 p6
inductive A8 (p0 p1 p2 p3 p4 p5 p6 p7:Prop):Prop
 | mk (_:p0) (_:p1) (_:p2) (_:p3) (_:p4) (_:p5) (_:p6) (_:p7):A8 p0 p1 p2 p3 p4 p5 p6 p7
inductive A9 (p0 p1 p2 p3 p4 p5 p6 p7 p8:Prop):Prop
 | mk (_:p0) (_:p1) (_:p2) (_:p3) (_:p4) (_:p5) (_:p6) (_:p7) (_:p8):A9 p0 p1 p2 p3 p4 p5 p6 p7 p8
inductive A11 (p0 p1 p2 p3 p4 p5 p6 p7 p8 p9 p10:Prop):Prop
 | mk (_:p0) (_:p1) (_:p2) (_:p3) (_:p4) (_:p5) (_:p6) (_:p7) (_:p8) (_:p9) (_:p10):A11 p0 p1 p2 p3 p4 p5 p6 p7 p8 p9 p10
inductive A13 (p0 p1 p2 p3 p4 p5 p6 p7 p8 p9 p10 p11 p12:Prop):Prop
 | mk (_:p0) (_:p1) (_:p2) (_:p3) (_:p4) (_:p5) (_:p6) (_:p7) (_:p8) (_:p9) (_:p10) (_:p11) (_:p12):A13 p0 p1 p2 p3 p4 p5 p6 p7 p8 p9 p10 p11 p12
inductive A14 (p0 p1 p2 p3 p4 p5 p6 p7 p8 p9 p10 p11 p12 p13:Prop):Prop
 | mk (_:p0) (_:p1) (_:p2) (_:p3) (_:p4) (_:p5) (_:p6) (_:p7) (_:p8) (_:p9) (_:p10) (_:p11) (_:p12) (_:p13):A14 p0 p1 p2 p3 p4 p5 p6 p7 p8 p9 p10 p11 p12 p13
inductive A16 (p0 p1 p2 p3 p4 p5 p6 p7 p8 p9 p10 p11 p12 p13 p14 p15:Prop):Prop
 | mk (_:p0) (_:p1) (_:p2) (_:p3) (_:p4) (_:p5) (_:p6) (_:p7) (_:p8) (_:p9) (_:p10) (_:p11) (_:p12) (_:p13) (_:p14) (_:p15):A16 p0 p1 p2 p3 p4 p5 p6 p7 p8 p9 p10 p11 p12 p13 p14 p15
end L2
def ahO:Nat->Lean.Syntax->List Lean.Syntax
 | 0,b=>[b]
 | n+1,b=>if b.getKind==.mkSimple "term_\u2227_" || b.getKind==.mkSimple "term_/\\_" then b[0]::ahO n b[2]else [b]
def amy(k:Lean.Syntax):List (Lean.Syntax×Lean.Syntax):=
 if k.getKind==`Lean.unbracketedExplicitBinders then k[0].getArgs.toList.map λi=>(i,k[1][1])
 else k.getArgs.toList.flatMap λb=>b[1].getArgs.toList.map λi=>(i,b[3])
open Lean in
local macro_rules
 | `(∃ $xs:explicitBinders,$b) => do
  let bs:=amy xs.raw[0]
  let cs:=ahO 99 b
  if bs.length<=1&&cs.length<=2 then Macro.throwUnsupported
  let mut r <-if cs.length<=2 then pure b else do
   let as:Array Term:=cs.toArray.map λc=>⟨c⟩
   `($(mkIdent (`L2 ++ Name.mkSimple s!"A{cs.length}")) $as*)
  for (i,t) in bs.reverse do
   let i:Term:=⟨i[0]⟩
   let t:Term:=⟨t⟩
   r <- if t.raw.isMissing then `(λ$i => $r)else `(λ($i : $t) => $r)
  if bs.length == 1 then `(Exists $r)else `($(mkIdent (`L2 ++ Name.mkSimple s!"E{bs.length}")) $r)
local macro_rules|`(tactic| omega)=>`(tactic| first|lia|omega (splitNatSub:=true))
set_option maxRecDepth 100000
set_option hygiene false in
local macro_rules
|`(tactic|exists 0)=>`(tactic|try dsimp only[bE,Cx.eW,Cx.bF])
|`(tactic|exists 1)=>`(tactic|try dsimp only[aP,bO,List.set])
|`(tactic|exists 2)=>`(tactic|intro y3 s σ H Q I h)
|`(tactic|exists 3)=>`(tactic|refine⟨λi m σ H=>m=xs.length-i/\i<=xs.length/\d i σ H,⟨xs.length,by simp,je _,I⟩,?_⟩)
|`(tactic|exists 4)=>`(tactic|intro X j G g O i y3 s σ H E I l st m)
|`(tactic|exists 5)=>`(tactic|(exact⟨o,e,λv z=>by rw[d]at z;cases z⟩))
|`(tactic|exists 6)=>`(tactic|rintro i m O H' ⟨rfl,W,A,ys,N,p⟩)
|`(tactic|exists 7)=>`(tactic|refine bR (L y3 s σ H _ I h) λv T ⟨x,g,P,F,O⟩=>?_)
|`(tactic|exists 8)=>`(tactic|intro y3 s σ H x y v u Q I F N h)
|`(tactic|exists 9)=>`(tactic|obtain⟨t,rfl⟩:=F)
|`(tactic|exists 10)=>`(tactic|have S:kvs.length=n.length:=Paired.length rel)
|`(tactic|exists 11)=>`(tactic|obtain⟨u,rfl,F⟩:=vals1 r)
|`(tactic|exists 12)=>`(tactic|have e:b=T.heap.objs.size:=by simpa using B)
|`(tactic|exists 13)=>`(tactic|refine .inr ⟨⟨xs,xs[i],q,by simp[f]⟩,λx G y=>?_⟩)
|`(tactic|exists 14)=>`(tactic|first|refine WI (YR ty (Wv ?_))|refine WI (YS ty (Wv ?_)))
|`(tactic|exists 15)=>`(tactic|obtain⟨R,L,F,q,D,T⟩:=l it (by simp))
|`(tactic|exists 16)=>`(tactic|repeat (any_goals (first|assumption|wp_step)))
|`(tactic|exists 17)=>`(tactic|have e:i=xs.length:=by omega)
|`(tactic|exists 18)=>`(tactic|intro y3 s σ H D I h)
|`(tactic|exists 19)=>`(tactic|exact P.G0 (jD _) (P.hok.fresh (jD _)))
|`(tactic|exists 20)=>`(tactic|obtain⟨z,j,vs,rel,dd⟩:=wy I.hok e)
|`(tactic|exists 21)=>`(tactic|rintro i m σ H ⟨rfl,c,p⟩)
|`(tactic|exists 22)=>`(tactic|try dsimp only[aP,bO])
|`(tactic|exists 23)=>`(tactic|by_cases f:i<xs.length)
|`(tactic|exists 24)=>`(tactic|intro y3 s σ H R I h)
|`(tactic|exists 25)=>`(tactic|refine WI (WI (WE (Wv ?_))))
|`(tactic|exists 26)=>`(tactic|obtain⟨v,t,rfl,_⟩:=h)
|`(tactic|exists 27)=>`(tactic|rotate_left)
|`(tactic|exists 28)=>`(tactic|try dsimp only[aP])
|`(tactic|exists 29)=>`(tactic|cases(show u=YX a from F))
|`(tactic|exists 30)=>`(tactic|rcases A with z|⟨t,z⟩)
|`(tactic|exists 31)=>`(tactic|rw[if_neg (by simp)])
|`(tactic|exists 32)=>`(tactic|obtain⟨t',rfl⟩:=N)
|`(tactic|exists 33)=>`(tactic|simpa using this)
|`(tactic|exists 34)=>`(tactic|refine WI ?_)
set_option hygiene false in
local macro_rules
|`(#[0])=>`(by intro z;cases z)
|`(#[1])=>`(by decide +kernel)
|`(#[2])=>`(by omega)
|`(#[3])=>`(λ_ _=>rfl)
|`(#[4])=>`(model X.prog X.w)
|`(#[5])=>`(model prog w)
|`(#[6])=>`(k==NameKind.free&&env.scope.kind==.function&&env.kindOf n==Z .cell)
|`(#[7])=>`((∀y B,B D=Z (.lst ys)->ys.length<sizeLine->d D (i+1) (ys++[y]) (upd B D (.lst (ys++[y])))->F y B))
|`(#[8])=>`(by simp)
|`(#[9])=>`(λbP A I s H n Q E S h=>?_)
|`(#[10])=>`(by decide)
|`(#[11])=>`(s.heap.objs.size+1)
|`(#[12])=>`(aB aE (pv 0) ar #[3])
|`(#[13])=>`(by show 0<=sizeLine;decide)
|`(#[14])=>`(by show 2<=sizeLine;decide)
|`(#[15])=>`(λn H Q E h=>?_)
|`(#[16])=>`(.Call (.Name x p) (e::es) [] pos)
|`(#[17])=>`(x==("__debug__" : Str))
|`(#[18])=>`((false,eval e X.env))
|`(#[19])=>`(envOfC qual scope s.heap.objs.size f cd)
|`(#[20])=>`(backTo pos (qh es X.env))
|`(#[21])=>`(bC (pv 0) rfl)
|`(#[22])=>`(λvs H Q E h=>?_)
|`(#[23])=>`(.ref s.heap.objs.size)
|`(#[24])=>`(by rw[bg];omega)
|`(#[25])=>`(by with_unfolding_all rfl)
|`(#[26])=>`(qd ⟨jW (Txt.slice_le z _ _) C,λt' k=>⟨.str _,H,I.tok _,⟨t',rfl⟩,q _ (Txt.slice_le z _ _)⟩⟩)
|`(#[27])=>`(.ListComp elt [⟨tg,iter,ifs,0⟩] scope pos)
|`(#[28])=>`(s.heap.push {cls:=.type "tuple_iterator",data:=.fields #[.ref l,.int 0 0]})
|`(#[29])=>`((·.setIfInBounds 1 (YX D.objs.size)))
|`(#[30])=>`(.ref C)
|`(#[31])=>`((∀O H',N O H'->∃M,M<m/\W (i+1) M O H'))
|`(#[32])=>`([head,.ref L,.none,rawInt L,.none]++(if a.isEmpty then Jy 6 Yc else a))
|`(#[33])=>`(.builtin "object.__class__")
|`(#[34])=>`(Obj.mapFields (·.setIfInBounds 1 (rawInt ((i:Int)+1))))
|`(#[35])=>`(aB aE (pv 1) ar #[3])
|`(#[36])=>`(by show 1<=sizeLine;decide)
|`(#[37])=>`(aD cq (aD cF (aU aL S (aa (pv 0) (aa ar af))) ar) ar)
|`(#[38])=>`(aa (pv 0) af)
|`(#[39])=>`(.tup xs)
set_option hygiene false in
local macro_rules
|`(#[40])=>`(.builtin "getset_descriptor.__get__")
|`(#[41])=>`(s.heap.push {cls:=.type "dict",data:=.dict #[]})
|`(#[42])=>`(model P w)
|`(#[43])=>`(by rfl)
|`(#[44])=>`((∀b o,s.heap.get? b=Z o->h'.get? b=Z o))
|`(#[45])=>`((·.setIfInBounds 3 ((Y:Option QX).elim Yc λf=>rawInt f)))
|`(#[46])=>`(λD' cE=>?_)
|`(#[47])=>`(aF ix σ)
|`(#[48])=>`((".0",.local))
|`(#[49])=>`(as.map V.ref)
|`(#[50])=>`(upd H D (.lst []))
|`(#[51])=>`(QX×Obj)
|`(#[52])=>`(by simp only[jL,jr,or_false]at O ⊢;rcases O with h|h|h|h<;>simp[h])
|`(#[53])=>`(aV rows (Sf qs) qs)
|`(#[54])=>`(cS R zs l)
|`(#[55])=>`((ps.take j).filter λp=>decide (p.2=x))
|`(#[56])=>`(by show 3<=sizeLine;decide)
|`(#[57])=>`(.dK kvs)
|`(#[58])=>`(.ref f)
|`(#[59])=>`(mz X N scope fp s H C)
|`(#[60])=>`(I.hok.fresh (jD _))
|`(#[61])=>`(.ins C dx [("one",.ref o1),("other",.ref o2),("rule",.ref fn)])
|`(#[62])=>`(pickOrder (w.params.setOrder S ep) es)
|`(#[63])=>`(ml items.size items.size W-ml items.size 0 lo)
|`(#[64])=>`(bX I q #[8])
|`(#[65])=>`(X.env.qual ++ "<lambda>")
|`(#[66])=>`(Yh x x (dh st) (cw st) (ao st) (.ref T) kV doc pm an bP ct)
|`(#[67])=>`(ns.map V.int)
|`(#[68])=>`(names.map λ(n,k)=>if #[6]then(n,NameKind.cell)else(n,k))
|`(#[69])=>`(by show(0:Int)<2;decide)
|`(#[70])=>`(backToKw pos (keywordEach [] X.env))
|`(#[71])=>`(List Key×QX×Value)
|`(#[72])=>`(.ref a)
|`(#[73])=>`(λz=>nomatch z)
|`(#[74])=>`(fV R zs t)
|`(#[75])=>`(A.under (.builtin "type.__call__" ⟨.ref C::us,a⟩))
|`(#[76])=>`(.lst ys)
|`(#[77])=>`(l y3 s σ H _ I h)
|`(#[78])=>`(eK.map V.ref)
|`(#[79])=>`(aa (pv 3) af)
set_option hygiene false in
local macro_rules
|`(#[80])=>`(aa (pv 1) af)
|`(#[81])=>`(.ref D)
|`(#[82])=>`(g∈ks\/ins.length<=(outF mem ins).length)
|`(#[83])=>`((O=aF ix σ\/∃t,O=#[47].set 0 t))
|`(#[84])=>`(λc=>?_)
|`(#[85])=>`(HO.lst [])
|`(#[86])=>`(.type "BaseException")
|`(#[87])=>`(.type "object")
|`(#[88])=>`(λD X=>⟨aj X _,U⟩)
|`(#[89])=>`(aa (pv 2) af)
|`(#[90])=>`(EP X y3 σ Q)
|`(#[91])=>`(by rw[e];exact True.intro)
|`(#[92])=>`(.builtin "object.__setattr__")
|`(#[93])=>`(.inl rfl)
|`(#[94])=>`(.ListComp elt [⟨tg,iter,[],0⟩] scope pos)
|`(#[95])=>`((ps.filter λp=>decide (p.2=x)).map (·.1))
|`(#[96])=>`(if #[6]=true then(n,NameKind.cell)else(n,k))
|`(#[97])=>`(aZ.map (·.2))
|`(#[98])=>`(List Key×V)
|`(#[99])=>`(.lst ((fh signs).map V.int))
|`(#[100])=>`(rows.getD z.toNat [])
|`(#[101])=>`(.Call (.Attribute o m y4) (e::es) [] pos)
|`(#[102])=>`(ay (by rw[bg,bg,jT];omega))
|`(#[103])=>`(V y3 s σ H _ I h)
|`(#[104])=>`((cB t).map (·.2))
|`(#[105])=>`(.ref x)
|`(#[106])=>`(.ext (rA f qual params body scope aZ c'))
|`(#[107])=>`(pE X N scope x fp s H C c)
|`(#[108])=>`((∀x c,X.env.cells.lookup x=Z c->c≠b))
|`(#[109])=>`(l pos y3 s σ H _ I h)
|`(#[110])=>`(SetTable.grown c.size)
|`(#[111])=>`(aq (aH (ck (aa #[12] (aa #[12] af)))))
|`(#[112])=>`(.tup [.int i,x])
|`(#[113])=>`(by simpa using h)
|`(#[114])=>`(setG gs ins (ds.length:Int))
|`(#[115])=>`(R y3 s σ H _ I h)
|`(#[116])=>`(.tup (zs.map V.str))
|`(#[117])=>`(λD' W=>?_)
|`(#[118])=>`(.type "type")
|`(#[119])=>`((∃m,W 0 m σ H))
set_option hygiene false in
local macro_rules
|`(#[120])=>`(upd G L (.ext (iu L C d)))
|`(#[121])=>`(.ext (cY c o))
|`(#[122])=>`((∀C,o.data≠.fields C))
|`(#[123])=>`(I.ok.hd O)
|`(#[124])=>`(.type "dict")
|`(#[125])=>`(.tup [.int p.1,.str p.2])
|`(#[126])=>`(.ins C dx fs)
|`(#[127])=>`(Option.some.inj h)
|`(#[128])=>`((cB t).map (·.1))
|`(#[129])=>`(.Av o #[57])
|`(#[130])=>`(ps.zip us)
|`(#[131])=>`(Obj.mapFields #[29])
|`(#[132])=>`(.lst (lv.map V.ref))
|`(#[133])=>`(aa (pv 4) af)
|`(#[134])=>`(aX mQ (pv 1) cz (bK _))
|`(#[135])=>`(Or.inl rfl)
|`(#[136])=>`(K w.params)
|`(#[137])=>`(s.heap.push (eO w))
|`(#[138])=>`(s.heap.objs.size+3)
|`(#[139])=>`(s.heap.objs.size+2)
|`(#[140])=>`(.int most)
|`(#[141])=>`(λz=>O (by simp[z]))
|`(#[142])=>`(λq ls=>ls=dA col q)
|`(#[143])=>`(.ref L)
|`(#[144])=>`((R3 K C m).getD (0,0))
|`(#[145])=>`(start N vs)
|`(#[146])=>`(Str.ofString "")
|`(#[147])=>`(.ref m)
|`(#[148])=>`(.ref it)
|`(#[149])=>`((∀b∈fp,H' b=Y))
|`(#[150])=>`(List K×QX×Value)
|`(#[151])=>`(.tup [kV p.1,p.2])
|`(#[152])=>`(s1.trans s2)
|`(#[153])=>`(by kernel_rfl)
|`(#[154])=>`(bx X.prog X.w)
|`(#[155])=>`(bG signs qs)
|`(#[156])=>`(Str×QX)
|`(#[157])=>`(.int (pw C t))
|`(#[158])=>`(κ×QX)
|`(#[159])=>`(fh signs)
set_option hygiene false in
local macro_rules
|`(#[160])=>`(by simpa using M)
|`(#[161])=>`(by simpa using G)
|`(#[162])=>`(Str×Value)
|`(#[163])=>`(S.mono hkj)
|`(#[164])=>`(.ref T)
|`(#[165])=>`(.lst xs)
|`(#[166])=>`(.lst #[49])
|`(#[167])=>`(Key×V)
|`(#[168])=>`(ts.map V.ref)
|`(#[169])=>`(ds.map V.ref)
|`(#[170])=>`(by size_fits)
|`(#[171])=>`(b^zs.length)
|`(#[172])=>`(aa (pv 5) af)
|`(#[173])=>`(My.sgn signs)
|`(#[174])=>`(.builtin id)
|`(#[175])=>`(.Name x pos)
|`(#[176])=>`(qs.take i)
|`(#[177])=>`(m b (n b o z F))
|`(#[178])=>`(gs.take m)
|`(#[179])=>`(.type "tuple")
|`(#[180])=>`((As t).take i)
|`(#[181])=>`(.ref l)
|`(#[182])=>`(ts.map YX)
|`(#[183])=>`(r.map V.int)
|`(#[184])=>`(l.map V.int)
|`(#[185])=>`(λd W=>?_)
|`(#[186])=>`(aa #[21] af)
|`(#[187])=>`(ay #[24])
|`(#[188])=>`(.lst [])
|`(#[189])=>`(j4.map oP)
|`(#[190])=>`(Int×QX)
|`(#[191])=>`(ds++more)
|`(#[192])=>`(.ref ea)
|`(#[193])=>`(.int b)
def U{α:Sort _}{a:α}:a=a:=rfl
open Option renaming some→Z,none→Y
set_option maxRecDepth 100000
namespace L2
open PySem PySem.Spec PyProof.Rows
variable{us aN ds:List Value}{x f name m qual:Str}{u cd:Value}{κ α:Type}{a b it dx C:QX}{P prog:Qv}{w:World}{h h' base:Heap}{e c tg l iter:Expr}{ob:Obj}{y3 aik pl:List (QX×Obj)}{s s':Qz}{t' i j n:Nat}{ch fp:List QX}{N ns:List Str}{A:Around}{E Q:Value→Qz→Prop}{pos pos' p y4:Pos}{K:YW}{st body:List Stmt}{es:List Expr}{lo:Int}{mA mg:Str→Option Value}{expr:Bool}{R:Result→Qz→Prop}{env:Qg}{outer:List Qg}{fd:Qh}{sc scope:Scope}{params:QZ}{an od:Option QX}{HM:Array (Option Value)}
abbrev Key:=Sum Int Str
def DZ:Key->Value->Bool
 | .inl k,v=>Gi k v
 | .inr x,v=>xt x v
def asp(w:World):Key->Int
 | .inl k=>hashInt k
 | .inr x=>hashStr w x
theorem cH:∀{k:Key} {v:Value},DZ k v=true->(∃i t,k=Sum.inl i/\v=Yj i t)\/(∃x t,k=Sum.inr x/\v=yF x t)
 | .inl i,v,h=>by obtain⟨t,e⟩:=Value.isInt_shape (k:=i) (v:=v) h;exact .inl ⟨i,t,U,e⟩
 | .inr x,v,h=>by obtain⟨t,e⟩:=Value.isStrOf_shape (x:=x) (v:=v) h;exact .inr ⟨x,t,U,e⟩
def abx(i:Int)(t:Tok):DZ (.inl i) (.int i t)=true:=by simp[DZ,Gi]
def aby(x:Str)(t:Tok):DZ (.inr x) (.str x t)=true:=by simp[DZ,xt]
def ajW(a b:Int):decide ((Sum.inl a:Key)=Sum.inl b)=(a==b):=by
 by_cases e:a=b
 ·subst e;simp
 ·have h:¬ (Sum.inl a:Key)=Sum.inl b:=λq=>e (Sum.inl.inj q);rw[decide_eq_false h];exact(beq_eq_false_iff_ne.mpr e).symm
def ajZ(a b:Str):decide ((Sum.inr a:Key)=Sum.inr b)=decide (a=b):=by
 by_cases e:a=b
 ·subst e;simp
 ·have h:¬ (Sum.inr a:Key)=Sum.inr b:=λq=>e (Sum.inr.inj q);rw[decide_eq_false h,decide_eq_false e]
def ajX(a:Int)(b:Str):decide ((Sum.inl a:Key)=Sum.inr b)=false:=decide_eq_false (λq=>nomatch q)
def ajY(a:Str)(b:Int):decide ((Sum.inr a:Key)=Sum.inl b)=false:=decide_eq_false (λq=>nomatch q)
def bx(prog:Qv)(w:World):PySem.KeyKind prog w Key where
 is:=DZ
 hash:=asp w
 inj:=λv a b ha hb=>by
  rcases cH ha with⟨i,t,rfl,rfl⟩|⟨x,t,rfl,rfl⟩
  ·rcases cH hb with⟨j,u,rfl,e⟩|⟨y,u,rfl,e⟩
   ·injection e with e1 _;rw[e1]
   ·exact nomatch e
  ·rcases cH hb with⟨j,u,rfl,e⟩|⟨y,u,rfl,e⟩
   ·exact nomatch e
   ·injection e with e1 _;rw[e1]
 byValue:=λk v h=>by rcases cH h with⟨i,t,rfl,rfl⟩|⟨x,t,rfl,rfl⟩<;>rfl
 pyHash:=λhv h=>by
  rcases cH hv with⟨i,t,rfl,rfl⟩|⟨x,t,rfl,rfl⟩
  ·exact wpAny_pyHash_int h
  ·exact wpAny_pyHash_str h
 eqBool:=λhu hv h=>by
  rcases cH hu with⟨i,t,rfl,rfl⟩|⟨x,t,rfl,rfl⟩
  ·rcases cH hv with⟨j,u,rfl,rfl⟩|⟨y,u,rfl,rfl⟩
   ·rw[ajW]at h;exact wpAny_eqBool_int h
   ·rw[ajX]at h;exact Xv i t y u _ _ _ _ h
  ·rcases cH hv with⟨j,u,rfl,rfl⟩|⟨y,u,rfl,rfl⟩
   ·rw[ajY]at h;exact Xw x t j u _ _ _ _ h
   ·rw[ajZ]at h;exact wpAny_eqBool_str h
 «strs»:=λk x t v h=>by
  rcases cH h with⟨i,u,rfl,e⟩|⟨y,u,rfl,e⟩
  ·exact nomatch e
  ·injection e with e1 _;subst e1;cases v<;>rfl
def Rb(prog:Qv)(w:World)(i:Int)(t:Tok):(bx prog w).is (.inl i) (.int i t)=true:=abx i t
def Rc(prog:Qv)(w:World)(x:Str)(t:Tok):(bx prog w).is (.inr x) (.str x t)=true:=aby x t
inductive V where
 | non|bl (b:Bool)|int (i:Int)|str (x:Str)|R8 (b:Array UInt8)|flt (b:UInt64)|ref (a:QX)|ty (n:String)
 deriving DecidableEq
def RelV:V->Value->Prop
 | .non,u=>u=Yc
 | .bl b,u=>u=yU b
 | .int i,u=>∃t,u=Yj i t
 | .str x,u=>∃t,u=yF x t
 | .R8 b,u=>∃t,u=Gj b t
 | .flt b,u=>∃t,u=xT b t
 | .ref a,u=>u=YX a
 | .ty n,u=>u=yn n
abbrev Vals:List V->List Value->Prop:=Qs RelV
theorem Vals.length{xs:List V}(r:Vals xs us):xs.length=us.length:=Paired.length r
theorem Vals.get:∀{xs:List V} {us:List Value} {i:Nat} {x:V},Vals xs us->xs[i]?=Z x->∃u,us[i]?=Z u/\RelV x u
 | _,_,_,_,.nil,e=>by simp at e
 | _,_,0,_,.cons r _,e=>by simp at e;subst e;exact⟨_,rfl,r⟩
 | _,_,i+1,x,.cons _ t,e=>by obtain⟨u,G,M⟩:=Vals.get (i:=i) (x:=x) t (by simpa using e);exact⟨u,by simpa using G,M⟩
theorem Vals.set{x:V}(r:RelV x u):∀{xs:List V} {us:List Value} (i:Nat),Vals xs us->Vals (xs.set i x) (us.set i u)
 | _,_,_,.nil=>.nil
 | _,_,0,.cons _ t=>.cons r t
 | _,_,i+1,.cons q t=>.cons q (Vals.set r i t)
theorem Vals.append:∀{xs ys:List V} {us C:List Value},Vals xs us->Vals ys C->Vals (xs++ys) (us++C)
 | _,_,_,_,.nil,s=>s
 | _,_,_,_,.cons r t,s=>.cons r (Vals.append t s)
theorem Vals.take:∀{xs:List V} {us:List Value} (n:Nat),Vals xs us->Vals (xs.take n) (us.take n)
 | _,_,0,_=>.nil
 | _,_,_+1,.nil=>.nil
 | _,_,n+1,.cons r t=>.cons r (Vals.take n t)
theorem Vals.drop:∀{xs:List V} {us:List Value} (n:Nat),Vals xs us->Vals (xs.drop n) (us.drop n)
 | _,_,0,r=>r
 | _,_,_+1,.nil=>.nil
 | _,_,n+1,.cons _ t=>Vals.drop n t
def pA:Option V->Option Value->Prop
 | some v,Z u=>RelV v u
 | none,Y=>True
 | _,_=>False
def KV:List (κ×V)->List (κ×Value)->Prop:=Qs λ(p:κ×V) (q:κ×Value)=>p.1=q.1/\RelV p.2 q.2
def kV:Key->V
 | .inl i=>.int i
 | .inr x=>.str x
inductive HO where
  | lst (xs:List V)
  | tup (xs:List V)
  | dK (kvs:List #[167])|dT (kvs:List #[98])
  | set (S:Int->Bool) (n:Nat)
  | ins (C dx:QX) (fs:List (Str×V))
  | own (x:QX)
  | xd (fs:List (Str×V))
  | met (f x:QX)
  | rng (lo hi:Int)
  | Av (o:Obj) (u:HO)
  | Cw (ps:Array Value)
  | ext (φ:Heap->Prop)
abbrev Hp:=QX->Option HO
def upd(H:Hp)(a:QX)(o:HO):Hp:=λb=>if b=a then Z o else H b
def ae{H:Hp}{o:HO}:upd H a o a=Z o:=by unfold upd;rw[if_pos rfl]
def ag{H:Hp}{o:HO}(h:b≠a):upd H a o b=H b:=by unfold upd;rw[if_neg h]
def aaQ{H:Hp}{o u:HO}:upd (upd H a o) a u=upd H a u:=by funext b;unfold upd;split<;>rfl
def aA{H:Hp}{o u:HO}(h:H a=Z o)(h':H b=Z u)(d:o≠u):a≠b:=by intro e;subst e;rw[h]at h';exact d (Option.some.inj h')
def ak{H:Hp}{o:HO}(h:H a=Z o)(h':H b=Y):a≠b:=by intro e;subst e;rw[h]at h';cases h'
section
variable(P:Qv)(w:World)
def bp(H:Hp)(h:Heap)(a:QX):HO->Prop
 | .lst xs=>xs.length<=sizeLine/\∃(aN:List Value) (n:Nat),Vals xs aN/\h.get? a=Z {cls:=.type "list",data:=.seq aN.toArray n}
 | .tup xs=>xs.length<=sizeLine/\∃aN:List Value,Vals xs aN/\Qm h a aN.toArray
 | .dK kvs=>kvs.length<=sizeLine/\(a==qu)=false/\∃vs,KV kvs vs/\h.DictOf (bx P w) a vs
 | .dT kvs=>kvs.length<=sizeLine/\(a==qu)=false/\∃xs:List #[71],
   Qs (λ(p:List Key×V) (q:List Key×QX×Value)=>p.1=q.1/\H q.2.1=Z (.tup (p.1.map kV))/\RelV p.2 q.2.2) kvs xs /\
   ∃o es ep,h.get? a=Z o/\o.ExactDict/\o.data=.dict es ep/\es.toList=xs.map (entryOfKey (qv (bx P w)))/\(xs.map (·.1)).Nodup
 | .set S n=>h.SetOf (qS P w) a S n
 | .ins C dx fs=>H dx=Z (.own a)/\fs.length<=1000/\dx≠a/\h.get? a=Z (yA C dx) /\
   ∃mA,h.Ns1 dx mA/\(∀f,pA (fs.lookup f) (mA f))/\Xx mA (fs.map (·.1))
 | .own _=>∃o,h.get? a=Z o
 | .xd fs=>∃mA,h.Ns1 a mA/\∀f,pA (fs.lookup f) (mA f)
 | .rng lo hi=>∃t u v,h.get? a=Z {cls:=.type "range",data:=.fields #[.int lo t,.int hi u,.int 1 v]}
 | .Av o u=>h.get? a=Z o/\bp H h a u
 | .Cw ps=>h.get? a=Z {cls:=.none,data:=.fields ps}
 | .met f x=>h.get? a=Z (XJ #[58] #[105])
 | .ext φ=>φ h/\(∃o,h.get? a=Z o)/\∀h1 h2:Heap,φ h1->(∀o,h1.get? a=Z o->h2.get? a=Z o)->φ h2
def fq(H:Hp)(h:Heap):Prop:=∀a o,H a=Z o->bp P w H h a o
end
section
variable{H H':Hp}{o:HO}
theorem bp.lt(x:bp P w H h a o):a<h.objs.size:=by
 cases o with
 | lst E=>obtain⟨_,_,_,_,e⟩:=x;exact jI e
 | tup E=>obtain⟨_,_,_,p⟩:=x;exact p.lt
 | dK B=>obtain⟨_,_,_,_,o,_,_,e,_⟩:=x;exact jI e
 | dT B=>obtain⟨_,_,_,_,o,_,_,e,_⟩:=x;exact jI e
 | set S n=>obtain⟨o,_,_,_,e,_⟩:=x;exact jI e
 | ins C dx fs=>obtain⟨_,_,_,e,_⟩:=x;exact jI e
 | own y=>obtain⟨_,e⟩:=x;exact jI e
 | xd fs=>obtain⟨_,⟨_,_,_,e,_⟩,_⟩:=x;exact jI e
 | rng lo W=>obtain⟨_,_,_,e⟩:=x;exact jI e
 | Av ob u=>obtain⟨e,_⟩:=x;exact jI e
 | Cw ps=>exact jI (show h.get? a=Z _ from x)
 | met f y=>exact jI (show h.get? a=Z _ from x)
 | ext j=>obtain⟨_,⟨_,e⟩,_⟩:=x;exact jI e
theorem Paired.rH{c:Type}{F G:α->c->Prop}:∀{l₁:List α} {l₂:List c},Qs F l₁ l₂->(∀a b,F a b->G a b)->Qs G l₁ l₂
 | _,_,.nil,_=>.nil
 | _,_,.cons r t,f=>.cons (f _ _ r) (Paired.rH t f)
def bp.Ae(x:bp P w H h a o)(k:∀b u,(b=a\/H b=Z (.own a))->h.get? b=Z u->h'.get? b=Z u)(V:∀b,H b=Z (.own a)->H' b=Z (.own a))(g:∀b xs,H b=Z #[39]->H' b=Z #[39]):bp P w H' h' a o:=by
 induction o with
 | lst xs=>obtain⟨z,aN,n,r,e⟩:=x;exact⟨z,aN,n,r,k _ _ #[93] e⟩
 | tup xs=>obtain⟨z,aN,r,ob,e,c⟩:=x;exact⟨z,aN,r,ob,k _ _ #[93] e,c⟩
 | dK B=>obtain⟨z,y,j,r,ob,es,i,e,c⟩:=x;exact⟨z,y,j,r,ob,es,i,k _ _ #[93] e,c⟩
 | dT B=>
  obtain⟨z,y,xs,r,ob,es,i,e,c,l,R,m⟩:=x;exact⟨z,y,xs,Paired.rH r λp q z=>⟨z.1,g _ _ z.2.1,z.2.2⟩,ob,es,i,k _ _ #[93] e,c,l,R,m⟩
 | set S n=>obtain⟨ob,es,i,t,e,c⟩:=x;exact⟨ob,es,i,t,k _ _ #[93] e,c⟩
 | ins C dx fs=>
  obtain⟨d,z,G,e,mA,⟨od,es,i,s,c⟩,r,F⟩:=x;exact⟨V _ d,z,G,k _ _ #[93] e,mA,⟨od,es,i,k _ _ (.inr d) s,c⟩,r,F⟩
 | own y=>obtain⟨ob,e⟩:=x;exact⟨ob,k _ _ #[93] e⟩
 | xd fs=>obtain⟨mA,⟨od,es,i,e,c⟩,r⟩:=x;exact⟨mA,⟨od,es,i,k _ _ #[93] e,c⟩,r⟩
 | rng lo W=>obtain⟨t,u,v,e⟩:=x;exact⟨t,u,v,k _ _ #[93] e⟩
 | Av ob u K=>obtain⟨e,q⟩:=x;exact⟨k _ _ #[93] e,K q⟩
 | Cw ps=>
  have e:h.get? a=Z {cls:=.none,data:=.fields ps}:=x;show h'.get? a=Z {cls:=.none,data:=.fields ps};exact k a _ #[93] e
 | met f y=>
  have e:h.get? a=Z (XJ #[58] (.ref y)):=x;show h'.get? a=Z (XJ #[58] (.ref y));exact k a _ #[93] e
 | ext A=>obtain⟨p,⟨o,e⟩,st⟩:=x;exact⟨st _ _ p λo q=>k _ _ #[93] q,⟨o,k _ _ #[93] e⟩,st⟩
theorem fq.lt(x:fq P w H h)(e:H a=Z o):a<h.objs.size:=(x a o e).lt
def fq.fresh(x:fq P w H h)(e:h.objs.size<=a):H a=Y:=by
 cases q:H a with
 | none=>rfl
 | some u=>exact absurd (jS (x.lt q) e) (JT _)
def fq.kept(x:fq P w H h)(k:∀b u,h.get? b=Z u->h'.get? b=Z u):fq P w H h':=λa o e=>
 (x a o e).Ae (λb u _ q=>k b u q) (λ_ q=>q) λ_ _ q=>q
def fq.laid(x:fq P w H h)(k:∀b u,h.get? b=Z u->h'.get? b=Z u)(D:h.objs.size<=a)(new:bp P w (upd H a o) h' a o):fq P w (upd H a o) h':=λb u e=>by
 have R:=x.fresh D;by_cases B:b=a
 ·subst B;rw[ae]at e;cases e;exact new
 ·rw[ag B]at e;exact(x b u e).Ae (λc v _ q=>k c v q) (λc q=>by rw[ag (ak q R)];exact q) λc E q=>by rw[ag (ak q R)];exact q
end
def Rd(H:Hp)(a:QX)(u:HO):Prop:=H a=Z u\/∃o,H a=Z (.Av o u)
def Rd.ok{H:Hp}{u:HO}(r:Rd H a u)(x:fq P w H h):bp P w H h a u:=by
 rcases r with r|⟨o,r⟩
 ·exact x a u r
 ·obtain⟨_,q⟩:=x a _ r;exact q
def Mut:Option HO->Prop
 | some (.lst _)=>True
 | some (.dK _)=>True
 | some (.dT _)=>True
 | some (.set _ _)=>True
 | some (.ins _ _ _)=>True
 | some (.ext _)=>True
 | _=>False
section
variable{H:Hp}{x e:QX}{o':HO}
def fq.write(ok:fq P w H h)(d:Mut (H x))(R:e=x\/H e=Z (.own x))(k:∀b u,b≠e->h.get? b=Z u->h'.get? b=Z u)(f:∃u,h'.get? e=Z u)(new:bp P w (upd H x o') h' x o'):fq P w (upd H x o') h':=λb u q=>by
 have g:∀c y,H c=Z (.own y)->c≠x:=λc y r z=>by subst z;rw[r]at d;exact d
 have i:∀c E,H c=Z (.tup E)->c≠x:=λc E r z=>by subst z;rw[r]at d;exact d
 by_cases B:b=x
 ·subst B;rw[ae]at q;cases q;exact new
 ·rw[ag B]at q;by_cases a:b=e
  ·have N:H b=Z (.own x):=by
    rcases R with z|z
    ·exact absurd (a.trans z) B
    ·rw[a];exact z
   rw[q]at N;cases N;obtain⟨v,M⟩:=f;exact⟨v,by rw[a];exact M⟩
  ·refine(ok b u q).Ae (λc v O r=>k c v ?_ r) (λc r=>by rw[ag (g c b r)];exact r) λc E r=>by rw[ag (i c E r)];exact r
   rcases O with rfl|O
   ·exact a
   ·rintro rfl;rcases R with z|z
    ·exact g c b O z
    ·rw[O]at z;cases z;exact B rfl
end
structure Un(fs ex:List QX)(H H':Hp)(h h':Heap):Prop where
 keep:∀b o,h.get? b=Z o->H b=Y->b∉fs->b∉ex->h'.get? b=Z o
 slot:∀b o,h.get? b=Z o->H b=Y->b∈fs->b∉ex->∃sl,h'.get? b=Z {o with slots:=sl}
 free:∀b o,h.get? b=Z o->H b=Y->b∉ex->H' b=Y
 there:∀b o,h.get? b=Z o->b∉ex->∃o',h'.get? b=Z o'
 tups:∀b xs,H b=Z #[39]->H' b=Z #[39]
 frzs:∀b o u,H b=Z (.Av o u)->H' b=Z (.Av o u)
 tbls:∀b ps,H b=Z (.Cw ps)->∃more,H' b=Z (.Cw (ps++more))
section
variable{fs ex:List QX}{H H1:Hp}{h1:Heap}{x e:QX}{o:HO}
def Un.any(u:Un fs ex H H1 h h1)(q:h.get? b=Z ob)(n:H b=Y)(J:b∉ex):∃P,h1.get? b=Z {ob with slots:=P}:=by
 by_cases B:b∈fs
 ·exact u.slot b ob q n B J
 ·exact⟨ob.slots,u.keep b ob q n B J⟩
def Un.kept(k:∀b u,h.get? b=Z u->h'.get? b=Z u):Un fs ex H H h h':=
 ⟨λb ob q _ _ _=>k b ob q,λb ob q _ _ _=>⟨ob.slots,k b ob q⟩,λ_ _ _ n _=>n,λb ob q _=>⟨ob,k b ob q⟩,λ_ _ q=>q,λ_ _ _ q=>q,λ_ ps q=>⟨#[],by rw[q];simp⟩⟩
def Un.refl:Un fs ex H H h h:=Un.kept λ_ _ q=>q
theorem Un.laid(k:∀b u,h.get? b=Z u->h'.get? b=Z u)(D:h.objs.size<=a)(R:H a=Y):Un fs ex H (upd H a o) h h' where
 keep:=λb u q _ _ _=>k b u q
 slot:=λb u q _ _ _=>⟨u.slots,k b u q⟩
 free:=λb u q n _=>by rw[ag (jM (jS (jI q) D))];exact n
 there:=λb u q _=>⟨u,k b u q⟩
 tups:=λb E q=>by rw[ag (ak q R)];exact q
 frzs:=λb u E q=>by rw[ag (ak q R)];exact q
 tbls:=λb ps q=>⟨#[],by rw[ag (ak q R),q];simp⟩
def Un.write(d:Mut (H x))(R:e=x\/H e=Z (.own x))(k:∀b u,b≠e->h.get? b=Z u->h'.get? b=Z u)(f:∃u,h'.get? e=Z u):Un fs ex H (upd H x o) h h':=by
 have J:∀b,H b=Y->b≠x:=λb n z=>by subst z;rw[n]at d;exact d
 have B:∀b,H b=Y->b≠e:=λb n z=>by
  subst z;rcases R with r|r
  ·exact J b n r
  ·rw[n]at r;cases r
 have N:∀b u,H b=Z u->¬ Mut (Z u)->b≠x:=λb u q I z=>by subst z;rw[q]at d;exact I d
 refine⟨λb u q n _ _=>k b u (B b n) q,λb u q n _ _=>⟨u.slots,k b u (B b n) q⟩,λb u q n _=>by rw[ag (J b n)];exact n,λb u q _=>?_,
  λb E q=>by rw[ag (N b _ q λz=>z)];exact q,λb u E q=>by rw[ag (N b _ q λz=>z)];exact q,λb ps q=>⟨#[],by rw[ag (N b _ q λz=>z),q];simp⟩⟩
 by_cases a:b=e
 ·subst a;exact f
 ·exact⟨u,k b u a q⟩
end
def trk(h:Heap)(H:Hp):List QX:=(ji h.objs.size).filter λa=>(H a).isSome
def IW(h:Heap)(H:Hp):Heap:=xZ h (trk h H)
def abq(h:Heap)(H:Hp):(IW h H).objs.size=h.objs.size:=PySem.W.hideAll_size _ _
def adj{H:Hp}{o:Obj}(e:h.get? b=Z o)(n:H b=Y):(IW h H).get? b=Z o:=
 yW _ e λN=>by have q:(H b).isSome=true:=(js.mp N).2;rw[n]at q;simp at q
def agN{H:Hp}{o:Obj}(e:(IW h H).get? b=Z o):h.get? b=Z o/\H b=Y:=by
 have l:h.get? b=Z o:=Xy (trk h H) e;exists l;cases q:H b with
 | none=>rfl
 | some x=>
  have N:b∈trk h H:=js.mpr ⟨JC.mpr (jI l),by simp[q]⟩;have z:(IW h H).get? b=Y:=yo (trk h H) N;rw[z]at e;cases e
def afT(g h:Heap)(L:QX):List #[51]:=(ji h.objs.size).filterMap λa=>if a=L\/(g.get? a).isSome=true then Y else(h.get? a).map λo=>(a,o)
def rest(g h:Heap)(L d:QX):List #[51]:=(afT g h L).filter λp=>decide (p.1≠d)
variable{xs vs eN:List V}{H H':Hp}{o o':HO}{v y:V}
structure Mod(K:YW)(mg:Str->Option Value)(base:Heap):Prop where
 kin:K.In base
 glob:base.Ns qW mg
 blt:∃mb,base.Ns builtinsNs mb/\∀x:Str,x ≠ "__name__" -> mb x=qF x
 nolimit:base.NoLimit
structure Cx where
 prog:Qv
 w:World
 K:YW
 mg:Str->Option Value
 base:Heap
 A:Around
 N:List Str
 s₀:Qz
 H₀:Hp
 env:Qg
 outer:List Qg
 stack:List Qg
 ex:List QX
 fn:Str->Bool
 calm:Bool
 pn:List #[51]
 xe:Value->Qz->Prop
def De(l:List Qg):List QX:=l.filterMap (·.frame)
abbrev Cx.fs(X:Cx):List QX:=De X.outer
def Vis(sc:Scope)(x:Str):Prop:=sc.names.lookup x=Z .local\/sc.names.lookup x=Z .cell\/sc.names.lookup x=Z .free
def Loc(sc:Scope)(x:Str):Prop:=sc.names.lookup x=Z .local\/sc.names.lookup x=Z .cell
def Look(env:Qg)(h:Heap)(m:Str->Option Value)(x:Str)(u:Value):Prop:=
 (env.kindOf x=Z .local/\m x=Z u)\/((env.kindOf x=Z .cell\/env.kindOf x=Z .free)/\∃c,env.cells.lookup x=Z c/\h.IsCell c (Z u))
structure Cx.Ok(X:Cx):Prop where
 mod:Mod X.K X.mg X.base
 kind:X.env.scope.kind=.function
 glob:X.env.globals=qW
 blt:X.env.builtins=builtinsNs
 above:X.s₀.heap.objs.size<=X.env.locals
 inj:∀x y c,X.env.cells.lookup x=Z c->X.env.cells.lookup y=Z c->x=y
 has:∀x,(X.env.kindOf x=Z .cell\/X.env.kindOf x=Z .free)->∃c,X.env.cells.lookup x=Z c
 cab:∀x c,X.fn x=true->X.env.cells.lookup x=Z c->X.s₀.heap.objs.size<=c
 hd:X.calm=true->X.A.handled=Y
 frames:X.A.frames=Z X.stack
 stk:X.stack=X.outer\/(X.stack=X.env::X.outer/\X.env.frame=Z X.env.locals)
 exf:∀b∈X.ex,b≠X.env.locals/\∀x c,X.env.cells.lookup x=Z c->c≠b
 bs:∀b o,X.base.get? b=Z o->X.s₀.heap.get? b=Z o/\X.H₀ b=Y
 bsz:X.base.objs.size<=X.s₀.heap.objs.size
 noex:∀b o,X.base.get? b=Z o->b∉X.ex
 exfs:∀b∈X.ex,b∉X.fs
 tT:X.s₀.heap.FunFrames X.base X.outer
 frf:∀b∈X.fs,X.H₀ b=Y
structure Inv(X:Cx)(y3:List (QX×Obj))(σ:List (Option V))(H:Hp)(s:Qz):Prop where
 ok:X.Ok
 os:s.os=X.s₀.os
 bare:QY s.gens
 base:Un X.fs X.ex X.H₀ H X.s₀.heap s.heap
 loc:∃m,s.heap.Ns X.env.locals m/\∀(i:Nat) (x:Str) (v:V),X.N[i]?=Z x->σ[i]?=Z (Z v)->Vis X.env.scope x->∃u,RelV v u/\Look X.env s.heap m x u
 cell:∀x c,X.env.cells.lookup x=Z c->∃v,s.heap.IsCell c v
 free:H X.env.locals=Y
 freeC:∀x c,X.env.cells.lookup x=Z c->H c=Y
 pin:∀p∈X.pn++y3,s.heap.get? p.1=Z p.2/\H p.1=Y/\p.1≠X.env.locals/\p.1∉X.fs/\∀v,p.2.data≠.cell v
 hok:fq X.prog X.w H s.heap
 len:σ.length=X.N.length
section
variable{X:Cx}{σ:List (Option V)}
def Cx.Ok.as0(ok:X.Ok){o:Obj}(e:X.base.get? b=Z o):b∉X.fs:=λB=>by have:=(ok.tT.mem B).1;rw[e]at this;cases this
theorem Inv.bs(I:Inv X y3 σ H s):∀b o,X.base.get? b=Z o->s.heap.get? b=Z o/\H b=Y:=λb o e=>
 ⟨I.base.keep b o (I.ok.bs b o e).1 (I.ok.bs b o e).2 (I.ok.as0 e) (I.ok.noex b o e),I.base.free b o (I.ok.bs b o e).1 (I.ok.bs b o e).2 (I.ok.noex b o e)⟩
def Inv.bk(I:Inv X y3 σ H s):∀b o,X.base.get? b=Z o->s.heap.get? b=Z o:=λb o e=>(I.bs b o e).1
theorem Inv.mod(I:Inv X y3 σ H s):Mod X.K X.mg X.base:=I.ok.mod
def Inv.pW(I:Inv X y3 σ H s):X.K.In s.heap:=I.ok.mod.kin.keeps I.bk
theorem Inv.lt(I:Inv X y3 σ H s):X.env.locals<s.heap.objs.size:=let ⟨_,hn,_⟩:=I.loc;hn.lt
def Inv.sz(I:Inv X y3 σ H s):X.s₀.heap.objs.size<=s.heap.objs.size:=jW I.ok.above (JL I.lt)
def Inv.as1(I:Inv X y3 σ H s)(h:s.heap.objs.size<=a):a∉X.fs:=λB=>by obtain⟨_,o,V,_⟩:=I.ok.tT.mem B;exact absurd (jS (jI V) (jW I.sz h)) (JT _)
def Inv.cne(I:Inv X y3 σ H s):∀x c,X.env.cells.lookup x=Z c->c≠X.env.locals:=λx c e z=>by obtain⟨v,o,V,j⟩:=I.cell x c e;obtain⟨m,⟨o',es,i,t,f,_⟩,_⟩:=I.loc;rw[z,t]at V;cases V;rw[f]at j;cases j
theorem Inv.tT(I:Inv X y3 σ H s):s.heap.FunFrames X.base X.outer:=by
 have all:∀(l:List Qg),(∀b∈De l,b∈X.fs)->X.s₀.heap.FunFrames X.base l->s.heap.FunFrames X.base l:=by
  intro l
  induction l with
  | nil=>intro _ _;trivial
  | cons env r K=>
   intro hs c;obtain⟨C,⟨L,o,a,R,V,j⟩,S⟩:=c;have u:L∈X.fs:=hs L (by unfold De;rw[zH,a];exact jC);obtain⟨P,e⟩:=I.base.slot L o V (I.ok.frf L u) u λz=>I.ok.exfs L z u;exact⟨C,⟨L,_,a,R,e,j⟩,K (λb B=>hs b (by unfold De;rw[zH,a];exact jJ _ B)) S⟩
 exact all X.outer (λ_ B=>B) I.ok.tT
theorem Inv.stack(I:Inv X y3 σ H s):s.heap.FunFrames X.base X.stack:=by
 rcases I.ok.stk with e|⟨e,l⟩
 ·rw[e];exact I.tT
 ·rw[e];obtain⟨m,R,_⟩:=I.loc;refine .cons (by rw[I.ok.kind];decide) l R ?_ I.tT;exact zY (jW I.ok.bsz I.ok.above)
def Inv.Io(I:Inv X y3 σ H s):∀b∈De X.stack,b∈X.env.locals::X.fs:=λb B=>by
 rcases I.ok.stk with e|⟨e,l⟩
 ·rw[e]at B;exact jJ _ B
 ·rw[e]at B;unfold De at B;rw[zH,l]at B;exact B
def Inv.OC(I:Inv X y3 σ H s):∀b∈De X.stack,H b=Y:=λb B=>by
 rcases jL.mp (I.Io b B)with e|B
 ·rw[e];exact I.free
 ·obtain⟨_,o,V,_⟩:=I.ok.tT.mem B;exact I.base.free b o V (I.ok.frf b B) λz=>I.ok.exfs b z B
def Inv.step{g':Array Qi}{t':Nat}{d':Qe}(I:Inv X y3 σ H s)(a:∀b∈ch,(b∈X.ex\/X.s₀.heap.objs.size<=b)/\b≠X.env.locals/\#[108]/\∀p∈X.pn++y3,p.1≠b)(keep:∀b o,b≠X.env.locals->b∉X.fs->b∉ch->s.heap.get? b=Z o->H b=Y->h'.get? b=Z o)(y:∀b o,b≠X.env.locals->b∈X.fs->b∉ch->s.heap.get? b=Z o->H b=Y->∃P,h'.get? b=Z {o with slots:=P})(free:∀b o,b∉ch->s.heap.get? b=Z o->H b=Y->H' b=Y)(there:∀b o,b∉ch->s.heap.get? b=Z o->∃o',h'.get? b=Z o')(t:∀b xs,H b=Z #[39]->H' b=Z #[39])(C:∀b o u,H b=Z (.Av o u)->H' b=Z (.Av o u))(M:∀b ps,H b=Z (.Cw ps)->∃more,H' b=Z (.Cw (ps++more)))(ns:∀m,s.heap.Ns X.env.locals m->h'.Ns X.env.locals m)(E:fq X.prog X.w H' h')(L:QY g'):
  Inv X y3 σ H' {s with heap:=h',gens:=g',drawn:=d',toks:=t'}:=by
 have N:∀b o,X.s₀.heap.get? b=Z o->b≠X.env.locals:=λb o e=>jM (jS (jI e) I.ok.above);have K:∀b o,X.s₀.heap.get? b=Z o->b∉X.ex->b∉ch:=λb o e J B=>by
  rcases(a b B).1 with z|z
  ·exact J z
  ·exact absurd (jS (jI e) z) (JT _)
 have f:∀x c,X.env.cells.lookup x=Z c->∀v,s.heap.IsCell c v->h'.IsCell c v:=λx c e v ⟨o,V,j⟩=>by
  have h:c∉ch:=λz=>(a c z).2.2.1 x c e rfl;by_cases O:c∈X.fs
  ·obtain⟨P,q⟩:=y c o (I.cne x c e) O h V (I.freeC x c e);exact⟨_,q,j⟩
  ·exact⟨o,keep c o (I.cne x c e) O h V (I.freeC x c e),j⟩
 refine⟨I.ok,I.os,L,⟨λb o e n B J=>?_,λb o e n B J=>?_,λb o e n J=>?_,λb o e J=>?_,λb xs e=>t b xs (I.base.tups b xs e),λb o xs e=>C b o xs (I.base.frzs b o xs e),λb ps e=>?_⟩,?_,λx c e=>?_,?_,λx c e=>?_,λp D=>?_,E,I.len⟩
 ·exact keep b o (N b o e) B (K b o e J) (I.base.keep b o e n B J) (I.base.free b o e n J)
 ·obtain⟨P,T⟩:=I.base.slot b o e n B J;obtain⟨A,g⟩:=y b _ (N b o e) B (K b o e J) T (I.base.free b o e n J);exact⟨A,g⟩
 ·obtain⟨o',T⟩:=I.base.there b o e J;exact free b o' (K b o e J) T (I.base.free b o e n J)
 ·obtain⟨o',T⟩:=I.base.there b o e J;exact there b o' (K b o e J) T
 ·obtain⟨Q,T⟩:=I.base.tbls b ps e;obtain⟨R,g⟩:=M b _ T;exact⟨Q++R,by rw[g,Array.append_assoc]⟩
 ·obtain⟨m,S,W⟩:=I.loc;refine⟨m,ns m S,λi x v T g e3=>?_⟩;obtain⟨u,r,l⟩:=W i x v T g e3;exists u,r;rcases l with l|⟨k,c,e,z⟩
  ·exact .inl l
  ·exact .inr ⟨k,c,e,f x c e _ z⟩
 ·obtain⟨v,z⟩:=I.cell x c e;exact⟨v,f x c e v z⟩
 ·obtain⟨m,⟨o,_,_,V,_⟩,_⟩:=I.loc;exact free _ o (λz=>(a _ z).2.1 rfl) V I.free
 ·obtain⟨v,o,V,j⟩:=I.cell x c e;exact free c o (λz=>(a c z).2.2.1 x c e rfl) V (I.freeC x c e)
 ·obtain⟨e,n,G,F,d⟩:=I.pin p D;have h:p.1∉ch:=λz=>(a p.1 z).2.2.2 p D rfl;exact⟨keep p.1 p.2 G F h e n,free p.1 p.2 h e n,G,F,d⟩
def Inv.un{t':Nat}(I:Inv X y3 σ H s)(u:Un X.fs [] H H' s.heap h')(E:fq X.prog X.w H' h'):Inv X y3 σ H' {s with heap:=h',toks:=t'}:=by obtain⟨m,⟨o,es,i,V,r⟩,_⟩:=id I.loc;obtain⟨P,a⟩:=u.any V I.free #[8];exact I.step (g':=s.gens) (d':=s.drawn) (ch:=[]) (λ_ z=>nomatch z) (λb o _ B _ e n=>u.keep b o e n B #[8]) (λb o _ B _ e n=>u.slot b o e n B #[8]) (λb o _ e n=>u.free b o e n #[8]) (λb o _ e=>u.there b o e #[8]) u.tups u.frzs u.tbls (λM N=>by obtain⟨o',f,d,t,D⟩:=N;rw[V]at t;cases t;exact⟨_,f,d,a,D⟩) E I.bare
def Inv.call{g':Array Qi}{t':Nat}{d':Qe}(I:Inv X y3 σ H s)(u:Un (De X.stack) ch H H' s.heap h')(E:fq X.prog X.w H' h')(g:QY g')(a:∀b∈ch,(b∈X.ex\/X.s₀.heap.objs.size<=b)/\b≠X.env.locals/\#[108]/\∀p∈X.pn++y3,p.1≠b):
  Inv X y3 σ H' {s with heap:=h',gens:=g',drawn:=d',toks:=t'}:=by
 obtain⟨m,⟨o,es,i,V,r⟩,_⟩:=id I.loc;obtain⟨P,d⟩:=u.any V I.free λz=>(a _ z).2.1 rfl;exact I.step (ch:=ch) a (λb o d B O e n=>u.keep b o e n (λz=>(jL.mp (I.Io b z)).elim d B) O) (λb o _ _ O e n=>u.any e n O) (λb o O e n=>u.free b o e n O) (λb o O e=>u.there b o e O) u.tups u.frzs u.tbls (λM N=>by obtain⟨o',h,f,t,D⟩:=N;rw[V]at t;cases t;exact⟨_,h,f,d,D⟩) E g
def Inv.turned{t':Nat}(I:Inv X y3 σ H s)(k:∀b o,b≠it->s.heap.get? b=Z o->h'.get? b=Z o)(R:H it=Y)(d:it≠X.env.locals)(h1:it∈X.ex\/X.s₀.heap.objs.size<=it)(M:∀x c,X.env.cells.lookup x=Z c->c≠it)(J:∀p∈X.pn++y3,p.1≠it):Inv X y3 σ H {s with heap:=h',toks:=t'}:=by
 have a:∀b u,H b=Z u->b≠it:=λb u e z=>by rw[z,R]at e;cases e
 refine I.step (g':=s.gens) (d':=s.drawn) (ch:=[it]) (λb B=>?_) (λb o _ _ O e _=>k b o #[141] e) (λb o _ _ O e _=>⟨o.slots,k b o #[141] e⟩) (λ_ _ _ _ n=>n)
  (λb o O e=>⟨o,k b o #[141] e⟩) (λ_ _ e=>e) (λ_ _ _ e=>e) (λb ps e=>⟨#[],by rw[e];simp⟩) (λm N=>?_) (λb u e=>?_) I.bare
 ·have e:b=it:=by simpa using B
  subst e;exact⟨h1,d,M,J⟩
 ·obtain⟨o,es,i,V,r⟩:=N;exact⟨o,es,i,k _ o (Ne.symm d) V,r⟩
 ·refine(I.hok b u e).Ae (λc v O q=>k c v ?_ q) (λ_ q=>q) λ_ _ q=>q;rcases O with z|z
  ·rw[z];exact a b u e
  ·exact a c _ z
def Inv.tok(I:Inv X y3 σ H s)(t:Nat):Inv X y3 σ H {s with toks:=t}:=I.un (h':=s.heap) (t':=t) Un.refl I.hok
theorem Inv.kept{t':Nat}(I:Inv X y3 σ H s)(k:∀b u,s.heap.get? b=Z u->h'.get? b=Z u):Inv X y3 σ H {s with heap:=h',toks:=t'}:=I.un (Un.kept k) (I.hok.kept k)
theorem Inv.laid{t':Nat}(I:Inv X y3 σ H s)(k:∀b u,s.heap.get? b=Z u->h'.get? b=Z u)(D:s.heap.objs.size<=a)(new:bp X.prog X.w (upd H a o) h' a o):
  Inv X y3 σ (upd H a o) {s with heap:=h',toks:=t'}:=I.un (Un.laid k D (I.hok.fresh D)) (I.hok.laid k D new)
theorem Inv.write{x e:QX}{t':Nat}(I:Inv X y3 σ H s)(d:Mut (H x))(R:e=x\/H e=Z (.own x))(k:∀b u,b≠e->s.heap.get? b=Z u->h'.get? b=Z u)(f:∃u,h'.get? e=Z u)(new:bp X.prog X.w (upd H x o) h' x o):Inv X y3 σ (upd H x o) {s with heap:=h',toks:=t'}:=I.un (Un.write d R k f) (I.hok.write d R k f new)
def Inv.aaq(I:Inv X y3 σ H s)(h:∀p∈aik,s.heap.get? p.1=Z p.2/\H p.1=Y/\p.1≠X.env.locals/\p.1∉X.fs/\∀v,p.2.data≠.cell v):Inv X aik σ H s:=
 ⟨I.ok,I.os,I.bare,I.base,I.loc,I.cell,I.free,I.freeC,λp D=>(Jb.mp D).elim (λz=>I.pin p (JB _ z)) (h p),I.hok,I.len⟩
def HL(c:N.Nodup)(a:N[i]?=Z x)(b:N[j]?=Z x):i=j:=by obtain⟨G,T⟩:=jb.mp a;obtain⟨M,g⟩:=jb.mp b;exact(JJ c).mp (T.trans g.symm)
def Mh{M:Model}{Q:Unit->Qz->Prop}(I:Inv X y3 σ H s)(hN:X.N.Nodup)(W:X.N[i]?=Z x)(J:Loc X.env.scope x)(r:RelV v u)(h:∀s',Inv X y3 (σ.set i (Z v)) H s'->(∃a,Yf a s.heap s'.heap/\(a=X.env.locals\/X.env.cells.lookup x=Z a))->Q () s')(hf:X.fn x=true\/X.env.scope.names.lookup x=Z .local:=by first|exact .inl rfl|exact .inr rfl|assumption):wpAny M A (storeName X.env x u) Q E s:=by
 obtain⟨m,L,hl⟩:=id I.loc;have P:(X.env.scope.kind==.class||(X.env.scope.kind==.module&&X.env.locals != X.env.globals))=false:=by rw[I.ok.kind];rfl
 have l:i<σ.length:=by rw[I.len];exact(jb.mp W).1
 have cne:=I.cne;have V:∀{a:QX} {h':Heap},(∃o,s.heap.get? a=Z o/\H a=Y)->Yf a s.heap h'->fq X.prog X.w H h':=λ{a h'} ha hs b ob e=>by
  obtain⟨_,_,F⟩:=ha;refine(I.hok b ob e).Ae (λc S O q=>(hs.2 c ?_).trans q) (λ_ q=>q) λ_ _ q=>q;rintro rfl;rcases O with rfl|O
  ·rw[F]at e;cases e
  ·rw[F]at O;cases O
 rcases J with C|C
 ·refine wpAny_storeName_local C L (λh' j5 hs=>?_) P;obtain⟨oL,_,_,o5,_⟩:=id L;refine h _ ⟨I.ok,I.os,I.bare,⟨λb o e n B J=>?_,λb o e n B J=>?_,I.base.free,λb o e J=>?_,I.base.tups,I.base.frzs,I.base.tbls⟩,⟨_,j5,λj y v' T g e3=>?_⟩,λy c e=>?_,I.free,I.freeC,λp hp=>?_,V ⟨oL,o5,I.free⟩ hs,by simpa using I.len⟩ ⟨_,hs,.inl rfl⟩
  ·exact(hs.2 b (jM (jS (jI e) I.ok.above))).trans (I.base.keep b o e n B J)
  ·obtain⟨sl,T⟩:=I.base.slot b o e n B J;exact⟨sl,(hs.2 b (jM (jS (jI e) I.ok.above))).trans T⟩
  ·obtain⟨o',T⟩:=I.base.there b o e J;exact⟨o',(hs.2 b (jM (jS (jI e) I.ok.above))).trans T⟩
  ·by_cases f:j=i
   ·subst f;rw[W]at T;cases T;rw[Jf l]at g;cases g;exact⟨u,r,.inl ⟨C,by simp⟩⟩
   ·rw[Jm (Ne.symm f)]at g;obtain⟨u',r',q⟩:=hl j y v' T g e3;exists u',r';rcases q with⟨k,e⟩|⟨k,c,e,z⟩
    ·refine .inl ⟨k,?_⟩;have:y≠x:=λe=>f (HL hN T (e▸W));simp[this,e]
    ·exact .inr ⟨k,c,e,z.sameBut hs (cne y c e)⟩
  ·obtain⟨S,z⟩:=I.cell y c e;exact⟨S,z.sameBut hs (cne y c e)⟩
  ·obtain⟨e,n,G,nf,d⟩:=I.pin p hp;exact⟨(hs.2 p.1 G).trans e,n,G,nf,d⟩
 ·have t:X.fn x=true:=by
   rcases hf with z|z
   ·exact z
   ·rw[z]at C;cases C
  obtain⟨c,O⟩:=I.ok.has x (.inl C);obtain⟨S,z⟩:=I.cell x c O;refine wpAny_storeName_cell I.ok.kind C O z (λh' CF hs=>?_);obtain⟨oc,R,c6⟩:=id z;refine h {s with heap:=h'} ⟨I.ok,I.os,I.bare,⟨λb o e n B J=>?_,λb o e n B J=>?_,I.base.free,λb o e J=>?_,I.base.tups,I.base.frzs,I.base.tbls⟩,⟨m,L.sameBut hs (Ne.symm (cne x c O)),λj y v' T g e3=>?_⟩,λy K e=>?_,I.free,I.freeC,λp hp=>?_,V ⟨oc,R,I.freeC x c O⟩ hs,by simpa using I.len⟩ ⟨c,hs,.inr O⟩
  ·exact(hs.2 b (jM (jS (jI e) (I.ok.cab x c t O)))).trans (I.base.keep b o e n B J)
  ·obtain⟨sl,T⟩:=I.base.slot b o e n B J;exact⟨sl,(hs.2 b (jM (jS (jI e) (I.ok.cab x c t O)))).trans T⟩
  ·obtain⟨o',T⟩:=I.base.there b o e J;exact⟨o',(hs.2 b (jM (jS (jI e) (I.ok.cab x c t O)))).trans T⟩
  ·by_cases f:j=i
   ·subst f;rw[W]at T;cases T;rw[Jf l]at g;cases g;exact⟨u,r,.inr ⟨.inl C,c,O,CF⟩⟩
   ·rw[Jm (Ne.symm f)]at g;obtain⟨u',r',q⟩:=hl j y v' T g e3;exists u',r';rcases q with q|⟨k,K,e,z'⟩
    ·exact .inl q
    ·refine .inr ⟨k,K,e,z'.sameBut hs ?_⟩;rintro rfl;exact f (HL hN T (I.ok.inj _ _ _ e O▸W))
  ·by_cases D:K=c
   ·subst D;exact⟨_,CF⟩
   ·obtain⟨w2,z2⟩:=I.cell y K e;exact⟨w2,z2.sameBut hs D⟩
  ·obtain⟨e,n,G,nf,d⟩:=I.pin p hp;refine⟨(hs.2 p.1 ?_).trans e,n,G,nf,d⟩;intro q;rw[q,R]at e;have q':oc=p.2:=Option.some.inj e;exact d S (by rw[<-q'];exact c6)
def Cu{M:Model}{Q:Unit->Qz->Prop}(I:Inv X y3 σ H s)(a:X.N.Nodup)(W:X.N[i]?=Z x)(J:Loc X.env.scope x)(r:RelV v u)(h:∀s',Inv X y3 (σ.set i (Z v)) H s'->Q () s')(l:X.fn x=true\/X.env.scope.names.lookup x=Z .local:=by first|exact .inl rfl|exact .inr rfl|assumption):wpAny M A (storeName X.env x u) Q E s:=
 Mh I a W J r (λs' d _=>h s' d) l
def Inv.Ll(I:Inv X y3 σ H s)(V:s'.os=s.os)(u:Un (De X.stack) ch H H' s.heap s'.heap)(E:fq X.prog X.w H' s'.heap)(m:QY s'.gens)(a:∀b∈ch,(b∈X.ex\/X.s₀.heap.objs.size<=b)/\b≠X.env.locals/\#[108]/\∀p∈X.pn++y3,p.1≠b):Inv X y3 σ H' s':=by obtain⟨h',q,N,t',o'⟩:=s';have e:o'=s.os:=V;subst e;exact I.call (g':=q) (t':=t') (d':=N) u E m a
end
abbrev XK:=Value->Option QX->Hp->Prop
abbrev St:=List (Option V)
abbrev VK:=V->Hp->Prop
abbrev TE:=St->Hp->VK->Prop
abbrev TT:=St->Hp->(Bool->Hp->Prop)->Prop
abbrev TA:=St->Hp->(List V->Hp->Prop)->Prop
structure Ends where
 nx:St->Hp->Prop
 rt:VK
 bk:St->Hp->Prop:=λ_ _=>False
 ct:St->Hp->Prop:=λ_ _=>False
abbrev TS:=Ends->St->Hp->Prop
def EP(X:Cx)(y3:List #[51])(σ:St)(Q:VK)(u:Value)(s':Qz):Prop:=∃v H',Inv X y3 σ H' s'/\RelV v u/\Q v H'
def TP(X:Cx)(y3:List #[51])(σ:St)(Q:Bool->Hp->Prop)(b:Bool)(s':Qz):Prop:=∃H',Inv X y3 σ H' s'/\Q b H'
def AP(X:Cx)(y3:List #[51])(σ:St)(Q:List V->Hp->Prop)(us:List Value)(s':Qz):Prop:=∃vs H',Inv X y3 σ H' s'/\Vals vs us/\Q vs H'
def SP(X:Cx)(y3:List #[51])(D:Ends)(f:Flow)(s':Qz):Prop:=
 match f with
 | .next=>∃σ' H',Inv X y3 σ' H' s'/\D.nx σ' H'
 | .brk=>∃σ' H',Inv X y3 σ' H' s'/\D.bk σ' H'
 | .cont=>∃σ' H',Inv X y3 σ' H' s'/\D.ct σ' H'
 | .ret u=>∃v σ' H',Inv X y3 σ' H' s'/\RelV v u/\D.rt v H'
def PE(X:Cx)(e:Expr)(t:TE):Prop:=
 ∀(y3:List #[51]) (s:Qz) (σ:St) (H:Hp) (Q:VK),Inv X y3 σ H s->t σ H Q->wpAny #[4] X.A (eval e X.env) #[90] X.xe s
def PT(X:Cx)(e:Expr)(t:TT):Prop:=
 ∀(y3:List #[51]) (s:Qz) (σ:St) (H:Hp) (Q:Bool->Hp->Prop),Inv X y3 σ H s->t σ H Q->wpAny #[4] X.A (isTrue e X.env (eval e X.env)) (TP X y3 σ Q) X.xe s
def PW(X:Cx)(e:Expr)(t:TT):Prop:=
 ∀(whole:Qw Value) (y3:List #[51]) (s:Qz) (σ:St) (H:Hp) (Q:Bool->Hp->Prop),Inv X y3 σ H s->t σ H Q->wpAny #[4] X.A (isTrue e X.env whole) (TP X y3 σ Q) X.xe s
def PW.pt{X:Cx}{t:TT}(h:PW X e t):PT X e t:=h _
def PA(X:Cx)(es:List Expr)(t:TA):Prop:=
 ∀(pos:Pos) (y3:List #[51]) (s:Qz) (σ:St) (H:Hp) (Q:List V->Hp->Prop),Inv X y3 σ H s->t σ H Q->wpAny #[4] X.A (spliced #[20]) (AP X y3 σ Q) X.xe s
def PS(X:Cx)(st:Stmt)(t:TS):Prop:=
 ∀(y3:List #[51]) (s:Qz) (σ:St) (H:Hp) (D:Ends),Inv X y3 σ H s->t D σ H->wpAny #[4] X.A (exec st X.env) (SP X y3 D) X.xe s
def K8(X:Cx)(st:List Stmt)(t:TS):Prop:=
 ∀(y3:List #[51]) (s:Qz) (σ:St) (H:Hp) (D:Ends),Inv X y3 σ H s->t D σ H->wpAny #[4] X.A (execs st X.env) (SP X y3 D) X.xe s
def bR{t:Qw α}{Q F:α->Qz->Prop}{M:Model}(h:wpAny M A t Q E s)(g:∀a s,Q a s->F a s):wpAny M A t F E s:=Wj h g λ_ _ x=>x
variable{X:Cx}{t:TA}{σ:St}{ta te tl:TE}{tb:TS}{D:Ends}{tc:TT}
section
inductive ahH (i:Nat) (σ:St) (H:Hp) (Q:VK):Prop
 | mk (v:_) (_:σ[i]?=Z (Z v)) (_:Q v H)
def tC(v:V):TE:=λ_ H Q=>Q v H
def U2(d:X.N[i]?=Z x)(M:Vis X.env.scope x)(j:#[17]=false:=by decide)(D:(x==("__classdict__" : Str))=false:=by decide):PE X #[175] (ahH i):=by
 exists 2;obtain⟨v,e,h⟩:=h;obtain⟨m,R,L⟩:=I.loc;obtain⟨u,r,l⟩:=L i x v d e M;have a:EP X y3 σ Q u s:=⟨v,H,I,r,h⟩;rcases l with⟨C,f⟩|⟨C,c,O,b⟩
 ·exact WD (wpAny_loadName_local I.ok.kind C R f a) j
 ·rcases C with C|C
  ·exact WD (wpAny_loadName_cell I.ok.kind C O b a) j
  ·exact WD (wpAny_loadName_free I.ok.kind C O b a D) j
def ar{i j pos}:PE X (.Constant (.int i) j pos) (tC (.int i)):=λ_ _ _ H _ I h=>wpAny_Constant_int ⟨.int i,H,I.tok _,⟨_,rfl⟩,h⟩
def mR{b j pos}:PE X (.Constant (.bool b) j pos) (tC (.bl b)):=λ_ _ _ H _ I h=>Constant_bool ⟨.bl b,H,I,rfl,h⟩
def U1{j pos}:PE X (.Constant .none j pos) (tC .non):=λ_ _ _ H _ I h=>Constant_none ⟨.non,H,I,rfl,h⟩
def cz{x j pos}:PE X (.Constant (.str x) j pos) (tC (.str x)):=λ_ _ _ H _ I h=>Xz ⟨.str x,H,I.tok _,⟨_,rfl⟩,h⟩
def Gl(X:Cx)(x:Str):Prop:=X.env.kindOf x=Z .globalImplicit
def oa(I:Inv X y3 σ H s)(m:Gl X x)(N:X.mg x=Z u)(h:Q u s)(j:#[17]=false:=by decide):wpAny #[4] X.A (eval #[175] X.env) Q E s:=
 XF I.ok.kind m (Calls.loadGlobal_global (by rw[I.ok.glob];exact I.mod.glob.keeps I.bk) N h) j
def sH(I:Inv X y3 σ H s)(m:Gl X x)(N:X.mg x=Y)(M:qF x=Z u)(h:Q u s)(R:x ≠ "__name__" :=by decide)(j:#[17]=false:=by decide):wpAny #[4] X.A (eval #[175] X.env) Q E s:=by obtain⟨v,G,a⟩:=I.mod.blt;exact XF I.ok.kind m (Calls.loadGlobal_builtin (by rw[I.ok.glob];exact I.mod.glob.keeps I.bk) N (by rw[I.ok.blt];exact G.keeps I.bk) ((a x R).trans M) h) j
def cJ(m:Gl X x)(N:X.mg x=Z u)(r:RelV v u)(j:#[17]=false:=by decide):PE X #[175] (tC v):=
 λ_ _ _ H _ I h=>oa I m N ⟨v,H,I,r,h⟩ j
def Ca(m:Gl X x)(N:X.mg x=Y)(M:qF x=Z u)(r:RelV v u)(R:x ≠ "__name__" :=by decide)(j:#[17]=false:=by decide):PE X #[175] (tC v):=
 λ_ _ _ H _ I h=>sH I m N M ⟨v,H,I,r,h⟩ R j
variable{a b:Expr}{tb:TE}
def PC(X:Cx)(op:Qb)(a b:Expr)(t:TE):Prop:=
 ∀(y3:List #[51]) (s:Qz) (σ:St) (H:Hp) (Q:VK),Inv X y3 σ H s->t σ H Q ->
  wpAny #[4] X.A (eval a X.env) (λv i4=>wpAny #[4] X.A (eval b X.env) (λu s₂=>wpAny #[4] X.A (qO op v u) #[90] X.xe s₂) X.xe i4) X.xe s
def adM(b:Expr){f:Qb}(h:f≠.In)(M:f≠.NotIn):qE f b=false:=by
 have T:(f==CmpOp.In)=false:=by cases f<;>first|rfl|exact absurd rfl h
 have g:(f==CmpOp.NotIn)=false:=by cases f<;>first|rfl|exact absurd rfl M
 cases b<;>simp[qE,T,g]
inductive atz (Q:Bool->Hp->Prop) (x:V) (H1:Hp):Prop
 | mk (c:_) (_:x=.bl c) (_:Q c H1)
def tB(t:TE):TT:=λσ H Q=>t σ H (atz Q)
def HV{f:Qb}{t:TE}(h:PC X f a b t)(h1:qE f b=false:=by first|exact adM _ #[10] #[10]|rfl):PT X (.Compare a [f] [b] pos) (tB t):=by intro y3 s σ H Q I G;refine Wd (bR (h y3 s σ H _ I G) λv T h1=>bR h1 λu j M=>bR M λc J ⟨x,g,P,F,O⟩=>?_) h1;obtain⟨d,rfl,q⟩:=O;cases F;exact YQ ⟨g,P,q⟩
def Bl{t:TE}(h:PE X e t)(R:∀b,isTrue e X.env b=(do let v <-b;standAt e.pos;holding [v] (truthy v)):=by intro _;rfl):PT X e (tB t):=by intro y3 s σ H Q I G;refine isTrue_plain (bR (h y3 s σ H _ I G) λv T ⟨x,g,P,F,O⟩=>?_) (R _);obtain⟨d,rfl,q⟩:=O;cases F;exact YQ ⟨g,P,q⟩
variable{tA tB':TT}{rest:List Expr}
def aty(t u:TT):TT:=λσ H Q=>t σ H λc H1=>if c=true then u σ H1 Q else Q false H1
def tOr(t u:TT):TT:=λσ H Q=>t σ H λc H1=>if c=true then Q true H1 else u σ H1 Q
def atF(t:TT):TT:=λσ H Q=>t σ H λc H1=>Q (!c) H1
def E1(l:PT X a tA):PW X (.BoolOp .And [a] pos) tA:=by
 intro d y3 s σ H Q I h;refine isTrue_and (bR (l y3 s σ H Q I h) λc T e=>?_);cases c with
 | true=>exact isTrue_and_nil e
 | false=>exact e
def aeB(l:PT X a tA):PW X (.BoolOp .Or [a] pos) tA:=by
 intro d y3 s σ H Q I h;refine isTrue_or (bR (l y3 s σ H Q I h) λc T e=>?_);cases c with
 | false=>exact isTrue_or_nil e
 | true=>exact e
def Oi(l:PT X a tA)(B:PW X (.BoolOp .And (b::rest) pos) tB'):PW X (.BoolOp .And (a::b::rest) pos) (aty tA tB'):=by
 intro d y3 s σ H Q I h;refine isTrue_and (bR #[77] λc T ⟨g,P,O⟩=>?_);cases c with
 | true=>exact B d y3 T σ g Q P O
 | false=>exact⟨g,P,O⟩
def ain(l:PT X a tA)(B:PW X (.BoolOp .Or (b::rest) pos) tB'):PW X (.BoolOp .Or (a::b::rest) pos) (tOr tA tB'):=by
 intro d y3 s σ H Q I h;refine isTrue_or (bR #[77] λc T ⟨g,P,O⟩=>?_);cases c with
 | true=>exact⟨g,P,O⟩
 | false=>exact B d y3 T σ g Q P O
def Dx(l:PT X a tA):PT X (.UnaryOp .Not a pos) (atF tA):=by exists 2;exact isTrue_not (l y3 s σ H (λc g=>Q (!c) g) I h)
inductive ahw (tb:TE) (σ:St) (Q:VK) (x:V) (H1:Hp):Prop
 | mk (c:_) (_:x=.bl c) (_:if c=true then tb σ H1 Q else Q (.bl false) H1)
def aoK(ta tb:TE):TE:=λσ H Q=>ta σ H (ahw tb σ Q)
inductive ahE (Q:VK) (x:V) (H1:Hp):Prop
 | mk (c:_) (_:x=.bl c) (_:Q (.bl (!c)) H1)
def aoU(ta:TE):TE:=λσ H Q=>ta σ H (ahE Q)
def Oe{op}{t:TE}(h:PE X a t):PE X (.BoolOp op [a] pos) t:=λy3 s σ H Q I G=>BoolOp_one (h y3 s σ H Q I G)
def Oa(l:PE X a ta)(B:PE X (.BoolOp .And (b::rest) pos) tb):PE X (.BoolOp .And (a::b::rest) pos) (aoK ta tb):=by
 exists 2;refine BoolOp_and (bR #[77] λv T ⟨x,g,P,F,O⟩=>?_);obtain⟨c,rfl,O⟩:=O;cases F;refine YQ ?_;cases c with
 | true=>exact B y3 T σ g Q P O
 | false=>exact⟨.bl false,g,P,rfl,O⟩
def akv(l:PE X a ta):PE X (.UnaryOp .Not a pos) (aoU ta):=by exists 2;refine UnaryOp_ (bR #[77] λv T ⟨x,g,P,F,O⟩=>?_);obtain⟨c,rfl,O⟩:=O;cases F;exact not_of (YQ ⟨.bl (!c),g,P,U,O⟩)
def tIf(t:TT)(ta tb:TE):TE:=λσ H Q=>t σ H λc H1=>if c=true then ta σ H1 Q else tb σ H1 Q
def Ru(e:PT X c tA)(l:PE X a ta)(B:PE X b tb):PE X (.IfExp c a b pos) (tIf tA ta tb):=by
 exists 2;refine wpAny_IfExp (bR (e y3 s σ H _ I h) λd T ⟨g,P,O⟩=>?_);cases d with
 | true=>exact l y3 T σ g Q P O
 | false=>exact B y3 T σ g Q P O
end
def mw(K:YW)(H:Hp)(a:QX)(xs:List V):Prop:=
 Rd H a #[165] \/
  ∃(o:Obj) (aN:Array Value) (n:Nat),K.lookup a=Z o/\o.cls=.type "list" /\ o.dict=Y/\o.data=.seq aN n/\aN.size<=sizeLine/\Vals xs aN.toList
def lU(K:YW)(H:Hp)(a:QX)(xs:List V):Prop:=
 Rd H a #[39] \/
  ∃(o:Obj) (aN:Array Value) (n:Nat),K.lookup a=Z o/\o.cls=.type "tuple" /\ o.data=.seq aN n/\aN.size<=sizeLine/\Vals xs aN.toList
def aqt:Value->Option V
 | .none=>Z .non
 | .bool b=>Z (.bl b)
 | .int i _=>Z (.int i)
 | .str x _=>Z (.str x)
 | .bytes b _=>Z (.R8 b)
 | .float b _=>Z (.flt b)
 | .ref a=>Z #[72]
 | .type n=>Z (.ty n)
 | _=>Y
def RelV.abs{x:V}(r:RelV x u):aqt u=Z x:=by
 cases x with
 | non=>cases r;rfl
 | bl _=>cases r;rfl
 | int _=>obtain⟨t,rfl⟩:=r;rfl
 | str _=>obtain⟨t,rfl⟩:=r;rfl
 | R8 _=>obtain⟨t,rfl⟩:=r;rfl
 | flt _=>obtain⟨t,rfl⟩:=r;rfl
 | ref _=>cases r;rfl
 | ty _=>cases r;rfl
theorem RelV.inj{x:V}(r:RelV x u)(q:RelV y u):x=y:=Option.some.inj (r.abs.symm.trans q.abs)
theorem Vals.inj:∀{xs ys:List V} {us:List Value},Vals xs us->Vals ys us->xs=ys
 | _,_,_,.nil,.nil=>rfl
 | _,_,_,.cons r t,.cons D t'=>by rw[r.inj D,Vals.inj t t']
section
variable{ys:List V}
def mw.of(h:H a=Z #[165]):mw K H a xs:=.inl (.inl h)
def lU.of(h:H a=Z #[39]):lU K H a xs:=.inl (.inl h)
def Inv.list(I:Inv X y3 σ H s)(h:mw X.K H a xs):∃aN:List Value,Vals xs aN/\PlainL s.heap a aN.toArray/\xs.length<=sizeLine:=by
 rcases h with h|⟨o,aN,n,C,O,j,hs,b,r⟩
 ·obtain⟨z,aN,n,r,e⟩:=h.ok I.hok;exact⟨aN,r,⟨_,n,e,U,U,U⟩,z⟩
 ·refine⟨aN.toList,r,⟨o,n,I.pW a o C,O,j,by simpa using hs⟩,?_⟩;have e:=r.length;simp only[jg]at e;omega
def Inv.tuple(I:Inv X y3 σ H s)(h:lU X.K H a xs):∃aN:List Value,Vals xs aN/\Qm s.heap a aN.toArray/\xs.length<=sizeLine:=by
 rcases h with h|⟨o,aN,n,C,O,hs,b,r⟩
 ·obtain⟨z,aN,r,p⟩:=h.ok I.hok;exact⟨aN,r,p,z⟩
 ·refine⟨aN.toList,r,⟨o,I.pW a o C,O,n,by simpa using hs⟩,?_⟩;have e:=r.length;simp only[jg]at e;omega
def Inv.B4(I:Inv X y3 σ H s)(h:mw X.K H a xs)(h':mw X.K H a ys):xs=ys:=by
 obtain⟨aN,r,⟨o,n,e,_,_,d⟩,_⟩:=I.list h;obtain⟨b,D,⟨o',F,l,_,_,N⟩,_⟩:=I.list h';rw[e]at l;cases l;rw[d]at N;injection N with y _;have:aN=b:=by simpa using congrArg ZI y
 subst this;exact r.inj D
def Inv.DL(I:Inv X y3 σ H s)(h:lU X.K H a xs)(h':lU X.K H a ys):xs=ys:=by
 obtain⟨aN,r,⟨o,e,_,n,d⟩,_⟩:=I.tuple h;obtain⟨b,D,⟨o',l,_,F,N⟩,_⟩:=I.tuple h';rw[e]at l;cases l;rw[d]at N;injection N with y _;have:aN=b:=by simpa using congrArg ZI y
 subst this;exact r.inj D
end
abbrev Cx.bF(X:Cx)(E:Value->Qz->Prop):Cx:={X with xe:=E}
abbrev Cx.eW(X:Cx):Cx:=X.bF λ_ _=>False
theorem Cx.Ok.bF(ok:X.Ok)(E:Value->Qz->Prop):(X.bF E).Ok:=
 ⟨ok.mod,ok.kind,ok.glob,ok.blt,ok.above,ok.inj,ok.has,ok.cab,ok.hd,ok.frames,ok.stk,ok.exf,ok.bs,ok.bsz,ok.noex,ok.exfs,ok.tT,ok.frf⟩
def Cx.Ok.Af(ok:(X.bF E).Ok):X.Ok:=
 ⟨ok.mod,ok.kind,ok.glob,ok.blt,ok.above,ok.inj,ok.has,ok.cab,ok.hd,ok.frames,ok.stk,ok.exf,ok.bs,ok.bsz,ok.noex,ok.exfs,ok.tT,ok.frf⟩
section
theorem Inv.bF(I:Inv X y3 σ H s)(E:Value->Qz->Prop):Inv (X.bF E) y3 σ H s:=⟨I.ok.bF E,I.os,I.bare,I.base,I.loc,I.cell,I.free,I.freeC,I.pin,I.hok,I.len⟩
theorem Inv.Af(I:Inv (X.bF E) y3 σ H s):Inv X y3 σ H s:=⟨I.ok.Af,I.os,I.bare,I.base,I.loc,I.cell,I.free,I.freeC,I.pin,I.hok,I.len⟩
theorem SP.Af{f:Flow}(h:SP (X.bF E) y3 D f s'):SP X y3 D f s':=by
 cases f with
 | next=>obtain⟨O,H',I,q⟩:=h;exact⟨O,H',I.Af,q⟩
 | brk=>obtain⟨O,H',I,q⟩:=h;exact⟨O,H',I.Af,q⟩
 | cont=>obtain⟨O,H',I,q⟩:=h;exact⟨O,H',I.Af,q⟩
 | ret u=>obtain⟨v,O,H',I,r,q⟩:=h;exact⟨v,O,H',I.Af,r,q⟩
theorem K8.eW{t:TS}(h:K8 X.eW st t):K8 X st t:=λy3 s σ H D I G=>
 Wj (h y3 s σ H D (I.bF _) G) (λ_ _ q=>q.Af) λ_ _ z=>False.elim z
end
section
variable{st:Stmt}{rest:List Stmt}{t u:TS}
def bO:TS:=λD σ H=>D.nx σ H
def V8(t u:TS):TS:=λD σ H=>t {D with nx:=u D} σ H
def bq:K8 X [] bO:=λ_ _ σ H _ I h=>WT ⟨σ,H,I,h⟩
def ah(h1:PS X st t)(M:K8 X rest u):K8 X (st::rest) (V8 t u):=by
 exists 18;refine WS (bR (h1 y3 s σ H {D with nx:=u D} I h) λf T q=>?_);cases f with
 | next=>
  obtain⟨O,H',d,q⟩:=q;exact M y3 T O H' D d q
 | ret v=>exact q
 | brk=>exact q
 | cont=>exact q
def aq(h1:PS X st t):K8 X [st] t:=by
 exists 18;refine WS (bR (h1 y3 s σ H D I h) λf T q=>?_);cases f with
 | next=>exact WT q
 | ret v=>exact q
 | brk=>exact q
 | cont=>exact q
def Inv.quiet(I:Inv X y3 σ H s):interactive X.env=false:=by simp[interactive,I.ok.kind]
def aiB(te:TE):TS:=λD σ H=>te σ H λ_ H1=>D.nx σ H1
def aS(R:PE X e te)(hs:qq e Y pos.line X.env=pure false:=by rfl):PS X (.Expr e pos) (aiB te):=by exists 18;exact wpAny_Expr_any (bR #[115] λv T ⟨x,g,P,F,O⟩=>⟨σ,g,P,O⟩) I.quiet hs
def aoX(te:TE):TS:=λD σ H=>te σ H D.rt
def aH(R:PE X e te):PS X (.Return (Z e) pos) (aoX te):=by exists 18;exact wpAny_Return_some (bR #[115] λv T ⟨x,g,P,F,O⟩=>⟨x,σ,g,P,F,O⟩)
def ale(c:TT)(t u:TS):TS:=λD σ H=>c σ H λb H1=>if b=true then t D σ H1 else u D σ H1
def cC{a b:List Stmt}(e:PT X c tc)(l:K8 X a t)(B:K8 X b u):PS X (.If c a b pos) (ale tc t u):=by
 exists 18;refine wpAny_If (bR (e y3 s σ H _ I h) λd T ⟨g,P,O⟩=>?_);cases d with
 | true=>exact l y3 T σ g D P O
 | false=>exact B y3 T σ g D P O
def alh:TS:=λ_ _ _=>False
def fu:PS X st alh:=λ_ _ _ _ _ _ h=>h.elim
end
abbrev TG:=V->St->Hp->(St->Hp->Prop)->Prop
abbrev TGs:=List V->St->Hp->(St->Hp->Prop)->Prop
def PG(X:Cx)(target:Expr)(t:TG):Prop:=
 ∀(y3:List #[51]) (s:Qz) (σ:St) (H:Hp) (v:V) (u:Value) (Q:St->Hp->Prop),Inv X y3 σ H s->RelV v u->t v σ H Q ->
  wpAny #[4] X.A (assign target X.env u) (λ_ s'=>∃σ' H',Inv X y3 σ' H' s'/\Q σ' H') X.xe s
def PGs(X:Cx)(ts:List Expr)(t:TGs):Prop:=
 ∀(y3:List #[51]) (s:Qz) (σ:St) (H:Hp) (vs:List V) (us:List Value) (Q:St->Hp->Prop),Inv X y3 σ H s->Vals vs us->t vs σ H Q ->
  wpAny #[4] X.A (assignInOrder ((qD ts X.env).map (·.2)) us) (λ_ s'=>∃σ' H',Inv X y3 σ' H' s'/\Q σ' H') X.xe s
abbrev aiP:=V->V->V->Hp->(Hp->Prop)->Prop
def amq(X:Cx)(t:aiP):Prop:=
 ∀(y3:List #[51]) (s:Qz) (σ:St) (H:Hp) (o i v:V) (ov iv u:Value) (Q:Hp->Prop),Inv X y3 σ H s->RelV o ov->RelV i iv->RelV v u->t o i v H Q ->
  wpAny #[4] X.A (setItem ov iv u) (λ_ s'=>∃H',Inv X y3 σ H' s'/\Q H') X.xe s
section
def aP(i:Nat):TG:=λv σ H Q=>Q (σ.set i (Z v)) H
def aao(a:X.N.Nodup)(W:X.N[i]?=Z x)(J:Loc X.env.scope x)(l:X.fn x=true\/X.env.scope.names.lookup x=Z .local:=by first|exact .inl rfl|exact .inr rfl|assumption):PG X #[175] (aP i):=by intro y3 s σ H v u Q I r h;exact WG (Cu I a W J r (λs' d=>⟨_,H,d,h⟩) l)
def amN:TGs:=λvs σ H Q=>vs=[]/\Q σ H
def ac2(t:TG)(u:TGs):TGs:=λvs σ H Q=>∃v r,vs=v::r/\t v σ H λσ' H'=>u r σ' H' Q
def oj:PGs X [] amN:=by intro y3 s σ H vs us Q I r h;obtain⟨e,h⟩:=h;subst e;cases r;exact assignInOrder_nil ⟨σ,H,I,h⟩
def cy{t:TG}{u:TGs}(h1:PG X e t)(M:PGs X es u)(hs:(qD (e::es) X.env).map (·.2)=assign e X.env::(qD es X.env).map (·.2):=by rfl):PGs X (e::es) (ac2 t u):=by
 intro y3 s σ H vs us Q I r h;obtain⟨v,b,T,h⟩:=h;subst T;cases r with
 | cons r d=>
  rw[hs];refine assignInOrder_cons (bR (h1 y3 s σ H _ _ _ I r h) λ_ a ⟨i,g,P,O⟩=>?_);exact M y3 a i g _ _ Q P d O
def ai8(K:YW)(n:Nat)(t:TGs):TG:=λv σ H Q=>∃a xs,v=.ref a/\lU K H a xs/\xs.length=n/\t xs σ H Q
def Dt{k:Nat}{t:TGs}(O:X.calm=true)(h:PGs X es t)(R:(qD es X.env).length=n:=by rfl)(M:(qD es X.env).findIdx? (·.1)=Y:=by rfl):PG X (.Tuple es k pos) (ai8 X.K n t):=by intro y3 s σ H v u Q I r G;obtain⟨a,xs,T,W,L,G⟩:=G;subst T;cases r;obtain⟨aN,f,d,C⟩:=I.tuple W;refine assign_Tuple_tuple #[123] d (by simp[R,<-L,f.length]) M λh' J=>?_;have P:Inv X y3 σ H {s with heap:=h'}:=I.kept (t':=s.toks) λb o e=>J b o (jM (jI e)) e;exact h y3 _ σ H xs _ Q P (by simpa using f) G
def aqX(to ti:TE)(t:aiP):TG:=λv σ H Q=>to σ H λo H1=>ti σ H1 λi H2=>t o i v H2 λH3=>Q σ H3
def akz{o i:Expr}{to a:TE}{t:aiP}(V:PE X o to)(W:PE X i a)(hs:amq X t)(l:∀v,assign (.Subscript o i pos) X.env v=(do
   let D <-holding [v] (eval o X.env)
   let z <-holding [v,D] (eval i X.env)
   standAt pos
   holding [v,D,z] (setItem D z v)
   release [v,D,z] []):=by intro _;rfl):PG X (.Subscript o i pos) (aqX to a t):=by
 intro y3 s σ H v u Q I r h;rw[l];refine WI (WZ (bR #[103] λD T ⟨x,g,P,F,O⟩=>?_));refine WI (WZ (bR (W y3 T σ g _ P O) λz j ⟨y,G,E,b,n⟩=>?_));refine WI (YM (WI (WZ (bR (hs y3 j σ G x y v D z u _ E F b r n) λ_ J ⟨c,q,p⟩=>?_))));exact wpAny_release ⟨σ,c,q,p⟩
def oy(te:TE)(g:TG):TS:=λD σ H=>te σ H λx H1=>g x σ H1 D.nx
def aev{g:TG}(R:PE X e te)(m:PG X tg g)(hs:swapsWithSole [tg] e pos.line X.env=pure false:=by rfl)(G:swappedStores [tg] e X.env=pure Y:=by rfl)(h1:(qD [tg] X.env).map (·.2)=[assign tg X.env]:=by rfl):PS X (.Assign [tg] e pos) (oy te g):=by exists 18;refine wpAny_Assign_stores (bR #[115] λv T ⟨x,a,P,F,O⟩=>?_) hs G;rw[h1];exact bR (m y3 T σ a x v _ P F O) λ_ j q=>q
def aew(a:X.N.Nodup)(W:X.N[i]?=Z x)(J:Loc X.env.scope x)(R:PE X e te)(hs:qq e (Z (.Name x pos')) pos.line X.env=pure false:=by rfl)(l:X.fn x=true\/X.env.scope.names.lookup x=Z .local:=by first|exact .inl rfl|exact .inr rfl|assumption):
  PS X (.Assign [.Name x pos'] e pos) (oy te (aP i)):=by
 exists 18;refine wpAny_Assign_Name (bR #[115] λv T ⟨y,g,P,F,O⟩=>?_) hs;exact Cu P a W J F (λj E=>⟨_,g,E,O⟩) l
end
section
inductive sZ (c:TT) (tb:TS) (D:Ends) (σ:St) (H:Hp):Prop
 | mk (W:Nat->St->Hp->Prop) (_:(∃m,W m σ H)) (_:∀m σ H,W m σ H->c σ H λb H1=>if b=true then ∃N:St->Hp->Prop,(∀σ' H',N σ' H'->∃m',m'<m/\W m' σ' H')/\tb {D with nx:=N,ct:=N,bk:=D.nx} σ H1 else D.nx σ H1)
def oV(e:Qt #[4] X.A X.env X.xe)(l:PT X c tc)(B:K8 X body tb):PS X (.While c body [] pos) (sZ tc tb):=by
 exists 18;obtain⟨W,⟨r,u⟩,t⟩:=h;refine wpAny_While (codeAny_whileLoop (λn s'=>∃O H',Inv X y3 O H' s'/\W n O H') ?_ r ⟨σ,H,I,u⟩);rintro n T ⟨i,g,P,x⟩;refine Wu e (bR (l y3 T i g _ P (t n i g x)) λb y ⟨G,E,a⟩=>?_);cases b with
 | true=>
  obtain⟨N,j,a⟩:=a;rw[if_pos rfl];refine Wu e (bR (B y3 y i G _ E a) λf J p=>?_);cases f with
  | next=>
   obtain⟨k,o,q,m⟩:=p;obtain⟨M,d,V⟩:=j k o m;exact⟨M,d,k,o,q,V⟩
  | cont=>
   obtain⟨k,o,q,m⟩:=p;obtain⟨M,d,V⟩:=j k o m;exact⟨M,d,k,o,q,V⟩
  | brk=>exact p
  | ret v=>exact p
 | false=>
  rw[if_neg jY];exact WT ⟨i,G,E,a⟩
end
structure It where
 go:Nat->Hp->Prop
 yld:Nat->Hp->V->Hp->Prop
 stop:Nat->Hp->Prop
def rn(X:Cx)(y3:List #[51])(H:Hp)(b:QX):Prop:=
 H b=Y/\b≠X.env.locals/\b∉X.fs/\(b∈X.ex\/X.s₀.heap.objs.size<=b)/\#[108]/\∀p∈X.pn++y3,p.1≠b
def Inv.G0(I:Inv X y3 σ H s)(B:s.heap.objs.size<=b)(R:H' b=Y):rn X y3 H' b:=by
 refine⟨R,JW (jS I.lt B),I.as1 B,.inr (jW I.sz B),λx c e z=>?_,λp D z=>?_⟩
 ·obtain⟨v,q⟩:=I.cell x c e;exact absurd (jS q.lt (by rw[z];exact B)) (JT _)
 ·exact absurd (jS (jI (I.pin p D).1) (by rw[z];exact B)) (JT _)
structure Turn(P:Qv)(w:World)(K:YW)(tg:Expr)(J:It)(fp:List QX)(it:QX)(tn:Nat->Heap->Prop):Prop where
 mem:it∈fp
 obj:∀i h,tn i h->∀b∈fp,∃o,h.get? b=Z o/\∀v,o.data≠.cell v
 keep:∀i h h',tn i h->(∀b∈fp,∀o,h.get? b=Z o->h'.get? b=Z o)->tn i h'
 item:∀(X:Cx),X.prog=P->X.w=w->X.K=K->X.calm=true->∀(i:Nat) (y3:List #[51]) (s:Qz) (σ:St) (H:Hp) (E:Value->Qz->Prop),Inv X y3 σ H s->(∀b∈fp,rn X y3 H b)->tn i s.heap->J.go i H ->
  wpAny #[42] X.A (pyNext #[148]) (λr s1=>∃u,r=Z u /\
   wpAny #[42] X.A (letOwnedTupleGo tg #[148] u) (λ_ s2=>∃x H',Inv X y3 σ H' s2/\RelV x u/\J.yld i H x H'/\tn (i+1) s2.heap/\∀b∈fp,H' b=Y) E s1) E s
 done:∀(X:Cx),X.prog=P->X.w=w->X.K=K->X.calm=true->∀(i:Nat) (y3:List #[51]) (s:Qz) (σ:St) (H:Hp) (E:Value->Qz->Prop),Inv X y3 σ H s->(∀b∈fp,rn X y3 H b)->tn i s.heap->J.stop i H ->
  wpAny #[42] X.A (pyNext #[148]) (λr s1=>r=Y/\Inv X y3 σ H s1) E s
 self:∀(A:Around) (i:Nat) (s:Qz) (Q:Value->Qz->Prop) (E:Value->Qz->Prop),tn i s.heap->Q #[148] s->wpAny #[42] A (pyIter #[148]) Q E s
abbrev TI:=St->Hp->(It->Hp->Prop)->Prop
def PIE(X:Cx)(y3:List #[51])(σ:St)(tg:Expr)(R:It->Hp->Prop)(itv:Value)(s2:Qz):Prop:=
 ∃(it:QX) (fp:List QX) (tn:Nat->Heap->Prop) (J:It) (H':Hp),itv=.ref it/\Inv X y3 σ H' s2/\Turn X.prog X.w X.K tg J fp it tn/\tn 0 s2.heap/\(∀b∈fp,rn X y3 H' b)/\R J H'
def PI(X:Cx)(tg iter:Expr)(wi:TI):Prop:=
 ∀(y3:List #[51]) (s:Qz) (σ:St) (H:Hp) (R:It->Hp->Prop),Inv X y3 σ H s->wi σ H R ->
  wpAny #[4] X.A (eval iter X.env) (λv s1=>wpAny #[4] X.A (pyIter v) (PIE X y3 σ tg R) X.xe s1) X.xe s
def Ly{M:Model}{o:Obj}{n:String}{vs:Array Value}{Q:Unit->Qz->Prop}(V:s.heap.get? it=Z o)(O:o.cls=.type n)(j:o.data=.fields vs)(R:["enumerate","zip","dict_itemiterator","dict_reverseitemiterator","odict_iterator","itertools.zip_longest","itertools.pairwise"].contains n=false)(g:Q () s):wpAny M A (letOwnedTupleGo tg #[148] u) Q E s:=by
 unfold letOwnedTupleGo;cases tg<;>first
  | exact Wv g
  | (cases u<;>first
    | exact Wv g
    | (refine WI (Wf V ?_)
       rw[O,j];show wpAny M A (if (["enumerate","zip","dict_itemiterator","dict_reverseitemiterator","odict_iterator","itertools.zip_longest","itertools.pairwise"].contains n&&vs[0]?==Z (rawInt _))=true then _ else _) Q E s;rw[if_neg (by intro h;rw[R,QL]at h;cases h)];exact Wv g))
def Itl(K:YW)(a:QX):It:=
 ⟨λi H=>∃xs x,mw K H a xs/\xs[i]?=Z x,λi H x H'=>H'=H/\∀xs,mw K H a xs->xs[i]?=Z x,λi H=>∃xs,mw K H a xs/\xs.length<=i⟩
def Itt(K:YW)(a:QX):It:=
 ⟨λi H=>∃xs x,lU K H a xs/\xs[i]?=Z x,λi H x H'=>H'=H/\∀xs,lU K H a xs->xs[i]?=Z x,λi H=>∃xs,lU K H a xs/\xs.length<=i⟩
def Itr(lo:Int)(n:Nat):It:=⟨λi _=>i<n,λi H x H'=>H'=H/\x=.int (lo+i),λi _=>n<=i⟩
theorem ace(a it:QX):Turn P w K tg (Itl K a) [it] it (λi h=>h.IsListIter it a i) where
 mem:=by simp
 obj:=λi h st b B=>by
  have e:b=it:=by simpa using B
  subst e;obtain⟨o,e,c,d⟩:=st;exists 5
 keep:=λi h h' st k=>st.at λo e=>k it #[8] o e
 item:=by exists 4;subst j G g;obtain⟨xs,x,W,J⟩:=m;obtain⟨aN,f,p,C⟩:=I.list W;obtain⟨u,r,t⟩:=f.get J;exists 15;refine YD st p.isList (x:=u) (by simpa using r) λh' n y=>?_;have A:Inv X y3 σ H {s with heap:=h'}:=I.turned (t':=s.toks) (λb o B e=>(y.2 b B).trans e) R L q D T;obtain⟨o,e,c,d⟩:=id n;exact⟨u,U,Ly (s:={s with heap:=h'}) e c d #[10] ⟨x,H,A,t,⟨U,λQ N=>by rw[I.B4 N W];exact J⟩,n,λb B=>(l b B).1⟩⟩
 done:=by exists 4;subst j G g;obtain⟨xs,W,J⟩:=m;obtain⟨aN,f,p,C⟩:=I.list W;exists 15;have S:=f.length;exact YC #[123] st p.isList (by simp;omega) λh' M=>⟨U,I.turned (t':=s.toks) (λb o B e=>M b o B e) R L q D T⟩
 self:=λ_ _ _ _ _ st h=>wpAny_pyIter_listiter st h
theorem W6(a it:QX):Turn P w K tg (Itt K a) [it] it (λi h=>h.IsTupleIter it a i) where
 mem:=by simp
 obj:=λi h st b B=>by
  have e:b=it:=by simpa using B
  subst e;obtain⟨o,e,c,d⟩:=st;exists 5
 keep:=λi h h' st k=>st.at λo e=>k it #[8] o e
 item:=by exists 4;subst j G g;obtain⟨xs,x,W,J⟩:=m;obtain⟨aN,f,p,C⟩:=I.tuple W;obtain⟨u,r,t⟩:=f.get J;exists 15;refine wpAny_pyNext_tuple_item st (show s.heap.IsTuple a aN.toArray from p) (x:=u) (by simpa using r) λh' n y=>?_;have A:Inv X y3 σ H {s with heap:=h'}:=I.turned (t':=s.toks) (λb o B e=>(y.2 b B).trans e) R L q D T;obtain⟨o,e,c,d⟩:=id n;exact⟨u,U,Ly (s:={s with heap:=h'}) e c d #[10] ⟨x,H,A,t,⟨U,λQ N=>by rw[I.DL N W];exact J⟩,n,λb B=>(l b B).1⟩⟩
 done:=by exists 4;subst j G g;obtain⟨xs,W,J⟩:=m;obtain⟨aN,f,p,C⟩:=I.tuple W;exists 15;have S:=f.length;exact wpAny_pyNext_tuple_end #[123] st (show s.heap.IsTuple a aN.toArray from p) (by simp;omega) λh' M=>⟨U,I.turned (t':=s.toks) (λb o B e=>M b o B e) R L q D T⟩
 self:=λ_ _ _ _ _ st h=>wpAny_pyIter_tupleiter st h
theorem W5(it:QX)(lo:Int)(n:Nat):Turn P w K tg (Itr lo n) [it] it (λi h=>IsRangeIter h it (lo+(i:Nat)*1) ((n:Int)-(i:Nat)) 1) where
 mem:=by simp
 obj:=λi h st b B=>by
  have e:b=it:=by simpa using B
  subst e;exact⟨_,st,λv z=>by have Q:Data.fields _=Data.cell v:=z;cases Q⟩
 keep:=λi h h' st k=>k it #[8] _ st
 item:=by exists 4;subst j G g;exists 15;have W:=Walks.range (prog:=X.prog) (w:=X.w) #[123] it lo 1 n;refine W.item i s _ _ m st λv h' tk M x S=>?_;obtain⟨t,rfl⟩:=M;have a:Inv X y3 σ H {s with heap:=h',toks:=tk}:=I.turned (λb o B e=>S b o (by simpa using B) e) R L q D T;refine⟨_,U,Ly (s:={s with heap:=h',toks:=tk}) (n:="range_iterator") x rfl rfl #[10] ⟨.int (lo+i),H,a,⟨t,?_⟩,⟨rfl,rfl⟩,x,λb B=>(l b B).1⟩⟩;rw[QQ]
 done:=by exists 4;subst j G g;exists 15;exact wpAny_pyNext_range_end #[123] st (by have:n<=i:=m;omega) λh' c=>⟨U,I.turned (t':=s.toks) (λb o B e=>c b o B e) R L q D T⟩
 self:=λ_ _ _ _ _ st h=>wpAny_pyIter_rangeiter st h
variable{wi:TI}
section
def anL(K:YW)(tl:TE):TI:=λσ H R=>tl σ H λx H1=>∃a,x=.ref a/\(∃xs,mw K H1 a xs)/\R (Itl K a) H1
def anN(K:YW)(tl:TE):TI:=λσ H R=>tl σ H λx H1=>∃a,x=.ref a/\(∃xs,lU K H1 a xs)/\R (Itt K a) H1
def cu(L:PE X l tl):PI X tg l (anL X.K tl):=by exists 24;exists 7;obtain⟨a,e,⟨xs,W⟩,q⟩:=O;subst e;cases F;obtain⟨aN,f,p,C⟩:=P.list W;refine Wx p.isList ?_;refine⟨T.heap.objs.size,[T.heap.objs.size],_,_,g,U,P.kept (t':=T.toks) λb o e=>jA _ e,ace a _,⟨_,jF _ rfl,U,U⟩,λb B=>?_,q⟩;exists 12;subst e;exists 19
def eS(L:PE X l tl):PI X tg l (anN X.K tl):=by exists 24;exists 7;obtain⟨a,e,⟨xs,W⟩,q⟩:=O;subst e;cases F;obtain⟨aN,f,p,C⟩:=P.tuple W;refine YA (show T.heap.IsTuple a aN.toArray from p) ?_;refine⟨T.heap.objs.size,[T.heap.objs.size],_,_,g,U,P.kept (t':=T.toks) λb o e=>jA _ e,W6 a _,⟨_,jF _ rfl,U,U⟩,λb B=>?_,q⟩;exists 12;subst e;exists 19
def aeH{R:It->Hp->Prop}{W:Int}{t u v:Tok}{tk:Nat}(I:Inv X y3 σ H s)(h1 : -(2^62)<=lo)(M:lo<2^62)(J : -(2^62)<=W)(k:W<2^62)(q:R (Itr lo (W-lo).toNat) H):wpAny #[4] X.A (pyIter #[23]) (PIE X y3 σ tg R) E {s with heap:=s.heap.push {cls:=.type "range",data:=.fields #[.int lo t,.int W u,.int 1 v]},toks:=tk}:=by
 refine wpAny_pyIter_range (IsRange.new ..) (small_one h1 M J k) ?_;have P:Inv X y3 σ H {s with heap:=s.heap.push {cls:=.type "range",data:=.fields #[.int lo t,.int W u,.int 1 v]},toks:=tk}:=I.kept λb o e=>jA _ e;refine⟨(s.heap.push {cls:=.type "range",data:=.fields #[.int lo t,.int W u,.int 1 v]}).objs.size,[(s.heap.push {cls:=.type "range",data:=.fields #[.int lo t,.int W u,.int 1 v]}).objs.size],_,_,H,rfl,
  P.kept (t':=tk) λb o e=>jA _ e,W5 _ lo (W-lo).toNat,?_,λb B=>?_,q⟩
 ·have T:lo+((0:Nat):Int)*1=lo:=by simp
  have g:(((W-lo).toNat:Nat):Int)-((0:Nat):Int)=Gg lo W 1:=by rw[rangeSize_one];split<;>omega
  show IsRangeIter _ _ (lo+((0:Nat):Int)*1) ((((W-lo).toNat:Nat):Int)-((0:Nat):Int)) 1;rw[T,g];exact jF _ rfl
 ·have e:b=(s.heap.push {cls:=.type "range",data:=.fields #[.int lo t,.int W u,.int 1 v]}).objs.size:=by simpa using B
  subst e;exists 19
def anM(ta:TA):TI:=λσ H R=>ta σ H λvs H1=>∃j:Int,vs=[.int j]/\-(2^62)<=j/\j<2^62/\R (Itr 0 j.toNat) H1
def de{a:Expr}{ta:TA}(m:Gl X "range")(N:X.mg "range" = Y)(l:PA X [a] ta)(hs:qh [a] X.env=[(false,eval a X.env)]:=by rfl):PI X tg (.Call (.Name "range" p) [a] [] pos) (anM ta):=by
 exists 24;refine Call_ (sH I m N boot_range (Yl (bR #[109] λus T ⟨vs,g,P,F,O⟩=>?_) hs rfl));obtain⟨j,e,O,n,q⟩:=O;subst e;cases F with
 | cons r d=>
  cases d;obtain⟨t,rfl⟩:=r;exact call_range_1 (aeH P #[2] #[2] O n (by simpa using q))
def rl(wi:TI)(g:TG)(tb:TS):TS:=λD σ H=>wi σ H λJ H1=>∃W:Nat->Nat->St->Hp->Prop,(∃m,W 0 m σ H1)/\∀i m σ H,W i m σ H ->
 (J.stop i H/\D.nx σ H)\/(J.go i H/\∃N:St->Hp->Prop,(∀σ' H',N σ' H'->∃m',m'<m/\W (i+1) m' σ' H')/\∀x H',J.yld i H x H'->g x σ H' λσ2 H2=>tb {D with nx:=N,ct:=N,bk:=D.nx} σ2 H2)
def HS(fp:List QX)(h:Heap):List #[51]:=fp.filterMap λb=>(h.get? b).map λo=>(b,o)
def Bh{o:Obj}(B:b∈fp)(e:h.get? b=Z o):(b,o)∈HS fp h:=zu.mpr ⟨b,B,by rw[e];rfl⟩
def abD{p:QX×Obj}(D:p∈HS fp h):p.1∈fp/\h.get? p.1=Z p.2:=by
 obtain⟨b,B,e⟩:=zu.mp D;cases q:h.get? b with
 | none=>rw[q]at e;cases e
 | some o=>
  rw[q]at e;have l:(b,o)=p:=Option.some.inj e;subst l;exact⟨B,q⟩
def Inv.pinned(I:Inv X y3 σ H s)(a:∀b∈fp,rn X y3 H b)(V:∀b∈fp,∃o,s.heap.get? b=Z o/\∀v,o.data≠.cell v):Inv X (y3++HS fp s.heap) σ H s:=
 I.aaq λp D=>(Jb.mp D).elim (λz=>I.pin p (jh _ z)) λz=>by obtain⟨B,e⟩:=abD z;obtain⟨R,L,F,_⟩:=a p.1 B;obtain⟨o,l,d⟩:=V p.1 B;rw[e]at l;cases l;exact⟨e,R,L,F,d⟩
def Inv.Cy(I:Inv X (y3++pl) σ H s):Inv X y3 σ H s:=I.aaq λp D=>I.pin p (jh _ (JB _ D))
def bL{g:TG}(a:Qt #[4] X.A X.env X.xe)(G:X.calm=true)(hi:PI X tg iter wi)(hg:PG X tg g)(B:K8 X body tb)(hs:∀x,foldedSetIterable iter X.env x=pure x:=by intro _;rfl):PS X (.For tg iter body [] pos) (rl wi g tb):=by
 exists 18;refine wpAny_For (bR (hi y3 s σ H _ I h) λv s1 h1=>bR h1 λj5 s2 h2=>?_) hs;obtain⟨it,fp,R,J,H2,e,I2,T,V,f2,W,⟨m0,w0⟩,t⟩:=h2;subst e;have j:∀{H':Hp},#[149]->∀b∈fp,rn X y3 H' b:=λhn b B=>⟨hn b B,(f2 b B).2⟩;refine codeAny_forLoop_any (λn s'=>∃i O H',Inv X y3 O H' s'/\R i s'.heap/\#[149]/\W i n O H') ?_ m0 ⟨0,σ,H2,I2,V,λb B=>(f2 b B).1,w0⟩;rintro n s3 ⟨i,k,c,I3,Q,p,w3⟩;rcases t i n k c w3 with⟨F,qn⟩|⟨go,N,hN,step⟩
 ·refine Wu a (bR (T.done X rfl rfl rfl G i y3 s3 k c X.xe I3 (j p) Q F) λr s4 ⟨S,I4⟩=>?_);subst S;exact WT ⟨k,c,I4,qn⟩
 ·refine Wu a (bR (T.item X rfl rfl rfl G i y3 s3 k c X.xe I3 (j p) Q go) λr s4 ⟨u,S,h4⟩=>?_);subst S;refine Wu a (bR h4 λ_ s5 ⟨x,H5,I5,r5,y5,L,q⟩=>?_);have M:=I5.pinned (j q) (T.obj _ _ L);refine Wu a (bR (hg _ s5 k H5 x u _ M r5 (step x H5 y5)) λ_ s6 ⟨E,H6,I6,q6⟩=>?_);refine Wu a (bR (B _ s6 E H6 _ I6 q6) λf C K=>?_);have again:∀{y:St} {l:Hp},Inv X (y3++HS fp s5.heap) y l C->N y l->∃m,m<n/\∃i O H',Inv X y3 O H' C/\R i C.heap/\#[149]/\W i m O H':=λ{y l} z P=>by obtain⟨m',hm,w7⟩:=hN y l P;refine⟨m',hm,i+1,y,l,z.Cy,T.keep _ _ _ L λb B o e=>(z.pin (b,o) (jh _ (jh _ (Bh B e)))).1,λb B=>?_,w7⟩;obtain⟨o,e,d⟩:=T.obj _ _ L b B;exact(z.pin (b,o) (jh _ (jh _ (Bh B e)))).2.1
  cases f with
  | next=>obtain⟨y,l,z,P⟩:=K;exact again z P
  | cont=>obtain⟨y,l,z,P⟩:=K;exact again z P
  | brk=>obtain⟨y,l,z,K⟩:=K;exact⟨y,l,z.Cy,K⟩
  | ret v=>obtain⟨x7,y,l,z,r7,K⟩:=K;exact⟨x7,y,l,z.Cy,r7,K⟩
end
def dH{g:TG}(d:Nat->St->Hp->Prop)(I:d 0 σ H)(L:∀i σ H,i<=xs.length->d i σ H->mw K H a xs)(hs:∀i x σ H,xs[i]?=Z x->d i σ H->g x σ H λb G=>tb {D with nx:=d (i+1),ct:=d (i+1),bk:=D.nx} b G)(j:∀σ H,d xs.length σ H->D.nx σ H):
  ∃W:Nat->Nat->St->Hp->Prop,#[119]/\∀i m σ H,W i m σ H ->
   ((Itl K a).stop i H/\D.nx σ H)\/((Itl K a).go i H/\∃N:St->Hp->Prop,#[31]/\∀x H',(Itl K a).yld i H x H'->g x σ H' λb G=>tb {D with nx:=N,ct:=N,bk:=D.nx} b G):=by
 exists 3;exists 21;have q:=L i σ H c p;exists 23
 ·refine .inr ⟨⟨xs,xs[i],q,by simp[f]⟩,d (i+1),λO H' n=>⟨xs.length-(i+1),by omega,U,f,n⟩,λx H' y=>?_⟩;obtain⟨e,y⟩:=y;subst e;exact hs i x σ _ (y xs q) p
 ·exists 17;subst e;exact .inl ⟨⟨xs,q,jD _⟩,j σ H p⟩
def pH{g:TG}(d:Nat->St->Hp->Prop)(I:d 0 σ H)(L:∀i σ H,i<=xs.length->d i σ H->lU K H a xs)(hs:∀i x σ H,xs[i]?=Z x->d i σ H->g x σ H λb G=>tb {D with nx:=d (i+1),ct:=d (i+1),bk:=D.nx} b G)(j:∀σ H,d xs.length σ H->D.nx σ H):
  ∃W:Nat->Nat->St->Hp->Prop,#[119]/\∀i m σ H,W i m σ H ->
   ((Itt K a).stop i H/\D.nx σ H)\/((Itt K a).go i H/\∃N:St->Hp->Prop,#[31]/\∀x H',(Itt K a).yld i H x H'->g x σ H' λb G=>tb {D with nx:=N,ct:=N,bk:=D.nx} b G):=by
 exists 3;exists 21;have q:=L i σ H c p;exists 23
 ·refine .inr ⟨⟨xs,xs[i],q,by simp[f]⟩,d (i+1),λO H' n=>⟨xs.length-(i+1),by omega,U,f,n⟩,λx H' y=>?_⟩;obtain⟨e,y⟩:=y;subst e;exact hs i x σ _ (y xs q) p
 ·exists 17;subst e;exact .inl ⟨⟨xs,q,jD _⟩,j σ H p⟩
def ie{g:TG}(d:Nat->St->Hp->Prop)(I:d 0 σ H)(hs:∀i σ H,i<n->d i σ H->g (.int (lo+i)) σ H λb G=>tb {D with nx:=d (i+1),ct:=d (i+1),bk:=D.nx} b G)(j:∀σ H,d n σ H->D.nx σ H):
  ∃W:Nat->Nat->St->Hp->Prop,#[119]/\∀i m σ H,W i m σ H ->
   ((Itr lo n).stop i H/\D.nx σ H)\/((Itr lo n).go i H/\∃N:St->Hp->Prop,#[31]/\∀x H',(Itr lo n).yld i H x H'->g x σ H' λb G=>tb {D with nx:=N,ct:=N,bk:=D.nx} b G):=by
 refine⟨λi m σ H=>m=n-i/\i<=n/\d i σ H,⟨n,by simp,je _,I⟩,?_⟩;exists 21;by_cases f:i<n
 ·refine .inr ⟨f,d (i+1),λO H' a=>⟨n-(i+1),by omega,U,f,a⟩,λx H' y=>?_⟩;obtain⟨e,y⟩:=y;subst e y;exact hs i σ _ f p
 ·have e:i=n:=by omega
  subst e;exact .inl ⟨jD _,j σ H p⟩
abbrev R2:=V->V->Hp->VK->Prop
def BH(X:Cx)(f:Value->Value->Qw Value)(r:R2):Prop:=
 ∀(y3:List #[51]) (s:Qz) (σ:St) (H:Hp) (x y:V) (v u:Value) (Q:VK),Inv X y3 σ H s->RelV x v->RelV y u->r x y H Q ->
  wpAny #[4] X.A (f v u) #[90] X.xe s
def UnR(X:Cx)(f:Value->Qw Value)(r:V->Hp->VK->Prop):Prop:=
 ∀(y3:List #[51]) (s:Qz) (σ:St) (H:Hp) (x:V) (v:Value) (Q:VK),Inv X y3 σ H s->RelV x v->r x H Q ->
  wpAny #[4] X.A (f v) #[90] X.xe s
def hX(X:Cx)(f:Value)(r:List V->Hp->VK->Prop):Prop:=
 ∀(y3:List #[51]) (s:Qz) (σ:St) (H:Hp) (xs:List V) (us:List Value) (Q:VK),Inv X y3 σ H s->Vals xs us->r xs H Q ->
  wpAny #[4] X.A (call f us) #[90] X.xe s
def aqp(X:Cx)(r:V->Hp->(Bool->Hp->Prop)->Prop):Prop:=
 ∀(y3:List #[51]) (s:Qz) (σ:St) (H:Hp) (x:V) (v:Value) (Q:Bool->Hp->Prop),Inv X y3 σ H s->RelV x v->r x H Q ->
  wpAny #[4] X.A (truthy v) (TP X y3 σ Q) X.xe s
def tOp(r:R2)(ta tb:TE):TE:=λσ H Q=>ta σ H λx H1=>tb σ H1 λy H2=>r x y H2 Q
def tUn(r:V->Hp->VK->Prop)(ta:TE):TE:=λσ H Q=>ta σ H λx H1=>r x H1 Q
inductive rI (C:Int->Int->Prop) (g:Int->Int->V) (x:V) (y:V) (H:Hp) (Q:VK):Prop
 | mk (i:_) (j:_) (_:x=.int i) (_:y=.int j) (_:C i j) (_:Q (g i j) H)
inductive rI0 (g:Int->Int->V) (x:V) (y:V) (H:Hp) (Q:VK):Prop
 | mk (i:_) (j:_) (_:x=.int i) (_:y=.int j) (_:Q (g i j) H)
inductive rU (g:Int->V) (x:V) (H:Hp) (Q:VK):Prop
 | mk (i:_) (_:x=.int i) (_:Q (g i) H)
section
variable{a b:Expr}{tb:TE}
def aiV(l:PE X a ta)(B:PE X b tb){R:V->V->Hp->Prop}(I:Inv X y3 σ H s)(h:ta σ H λx g=>tb σ g λy G=>R x y G){f:Value->Value->Qw Value}(c:∀v u j x y G,Inv X y3 σ G j->RelV x v->RelV y u->R x y G->wpAny #[4] X.A (f v u) Q X.xe j):
  wpAny #[4] X.A (eval a X.env) (λv O=>wpAny #[4] X.A (eval b X.env) (λu d=>wpAny #[4] X.A (f v u) Q X.xe d) X.xe O) X.xe s:=by
 refine bR #[77] λv T ⟨x,g,P,F,e⟩=>?_;refine bR (B y3 T σ g _ P e) λu j ⟨y,G,E,i,n⟩=>?_;exact c v u j x y G E F i n
def aD{f:Operator}{r:R2}(V:BH X (binaryOp f) r)(l:PE X a ta)(B:PE X b tb):PE X (.BinOp a f b pos) (tOp r ta tb):=by exists 2;exact wpAny_BinOp (aiV l B I h λv u j x y G E F N q=>V y3 j σ G x y v u Q E F N q)
def ael{f:UnaryOp}{r:V->Hp->VK->Prop}(b:UnR X (unaryOp f) r)(l:PE X a ta):PE X (.UnaryOp f a pos) (tUn r ta):=by exists 2;exact UnaryOp_ (bR #[77] λv T ⟨x,g,P,F,O⟩=>b y3 T σ g x v Q P F O)
def opI{f:Value->Value->Qw Value}{C:Int->Int->Prop}{g:Int->Int->Int}(rule:∀(i j:Int) (t u:Tok) (s:Qz) (Q:Value->Qz->Prop) (E:Value->Qz->Prop),C i j->Q (.int (g i j) s.toks) {s with toks:=s.toks+1}->wpAny #[4] X.A (f (.int i t) (.int j u)) Q E s):
  BH X f (rI C λi j=>.int (g i j)):=by
 exists 8;obtain⟨i,j,rfl,rfl,O,q⟩:=h;exists 9;exists 32;exact rule i j t t' s _ _ O ⟨.int (g i j),H,I.tok _,⟨_,U⟩,q⟩
def aoj{f:Value->Value->Qw Value}{g:Int->Int->Int}(rule:∀(i j:Int) (t u:Tok) (s:Qz) (Q:Value->Qz->Prop) (E:Value->Qz->Prop),Q (.int (g i j) s.toks) {s with toks:=s.toks+1}->wpAny #[4] X.A (f (.int i t) (.int j u)) Q E s):
  BH X f (rI0 λi j=>.int (g i j)):=by
 exists 8;obtain⟨i,j,rfl,rfl,q⟩:=h;exists 9;exists 32;exact rule i j t t' s _ _ ⟨.int (g i j),H,I.tok _,⟨_,U⟩,q⟩
def ag0{f:Value->Value->Qw Value}{g:Int->Int->Bool}(rule:∀(i j:Int) (t u:Tok) (s:Qz) (Q:Value->Qz->Prop) (E:Value->Qz->Prop),Q (.bool (g i j)) s->wpAny #[4] X.A (f (.int i t) (.int j u)) Q E s):
  BH X f (rI0 λi j=>.bl (g i j)):=by
 exists 8;obtain⟨i,j,rfl,rfl,q⟩:=h;exists 9;exists 32;exact rule i j t t' s _ _ ⟨.bl (g i j),H,I,U,q⟩
def aqd(i j:Int):Prop:=0<j/\j<1073741824
def aqe(i j:Int):Prop:=0<=j/\j<=1000000/\i.natAbs<2^64
def aiG(i j:Int):Prop:=(-(2^64)<i/\i<2^64)\/(-(2^64)<j/\j<2^64)
def aiG.ok{i j:Int}(h:aiG i j):IntMulOk i j:=by
 rcases h with⟨G,M⟩|⟨G,M⟩
 ·exact .of_left (intBits_le_64 G M)
 ·exact .of_right (intBits_le_64 G M)
def cV:BH X (binaryOp .Add) (rI0 λi j=>.int (i+j)):=aoj λ_ _ _ _ _ _ _ q=>add_int q
def ako:BH X (binaryOp .Sub) (rI0 λi j=>.int (i-j)):=aoj λ_ _ _ _ _ _ _ q=>sub_int q
def wK:BH X (binaryOp .Mult) (rI aiG λi j=>.int (i*j)):=opI λ_ _ _ _ _ _ _ O q=>mul_int q O.ok
def cF:BH X (binaryOp .FloorDiv) (rI aqd λi j=>.int (i / j)):=opI λi j _ _ _ _ _ O q=>by have G:(0:Int)<j:=O.1;have M:j<1073741824:=O.2;exact floordiv_int #[2] (by rw[zy i #[2]];exact q) (.inl (PyProof.noPylong_small #[2]))
def cq:BH X (binaryOp .Mod) (rI (λ_ j=>0<j) λi j=>.int (i%j)):=opI λi j _ _ _ _ _ O q=>by have G:(0:Int)<j:=O;exact mod_int' #[2] (by rw[Int.fmod_eq_emod_of_nonneg i #[2]];exact q)
def akn:BH X (binaryOp .Pow) (rI aqe λi j=>.int (i^j.toNat)):=opI λ_ _ _ _ _ _ _ O q=>pow_int_small O.1 O.2.1 O.2.2 q
def unI{f:Value->Qw Value}{g:Int->Int}(rule:∀(i:Int) (t:Tok) (s:Qz) (Q:Value->Qz->Prop) (E:Value->Qz->Prop),Q (.int (g i) s.toks) {s with toks:=s.toks+1}->wpAny #[4] X.A (f (.int i t)) Q E s):
  UnR X f (rU λi=>.int (g i)):=by
 intro y3 s σ H x v Q I F h;obtain⟨i,rfl,q⟩:=h;exists 9;exact rule i t s _ _ ⟨.int (g i),H,I.tok _,⟨_,U⟩,q⟩
def W7:UnR X (unaryOp .USub) (rU λi=>.int (-i)):=unI λ_ _ _ _ _ q=>neg_int q
end
def aoF:V->V->Bool
 | .non,.non=>true|.non,.int _=>true|.int _,.non=>true|.non,.bl _=>true|.bl _,.non=>true|.non,.str _=>true|.str _,.non=>true
 | .int _,.int _=>true|.bl _,.bl _=>true|.str _,.str _=>true|.R8 _,.R8 _=>true
 | .int _,.str _=>true|.str _,.int _=>true|.bl _,.str _=>true|.str _,.bl _=>true
 | _,_=>false
structure rEq(x:V)(y:V)(H:Hp)(Q:VK):Prop where
 h0:aoF x y=true
 h1:Q (.bl (decide (x=y))) H
structure rNe(x:V)(y:V)(H:Hp)(Q:VK):Prop where
 h0:aoF x y=true
 h1:Q (.bl (!decide (x=y))) H
def Y4{i j:Int}:decide (V.int i=V.int j)=(i==j):=by rw[zZ];simp
def acS{i j:Bool}:decide (V.bl i=V.bl j)=(i==j):=by rw[zZ];simp
def Y5{i j:Str}:decide (V.str i=V.str j)=(i==j):=by rw[zZ];simp
def Y3{i j:Array UInt8}:decide (V.R8 i=V.R8 j)=(i.toList==j.toList):=by rw[zZ];cases i;cases j;simp
section
variable{a b:Expr}{tb tc:TE}
def bX{Q:VK}{k S:Bool}(I:Inv X y3 σ H s)(q:Q (.bl k) H)(e:k=S):EP X y3 σ Q (.bool S) s:=by subst e;exact⟨.bl k,H,I,U,q⟩
def mQ:BH X (qO .Eq) rEq:=by
 exists 8;obtain⟨hs,q⟩:=h;cases x with
 | non=>
  cases F;cases y with
  | non=>cases N;exact xx #[64]
  | bl j=>cases N;exact xy #[64]
  | int j=>obtain⟨t',rfl⟩:=N;exact GO #[64]
  | str j=>obtain⟨t',rfl⟩:=N;exact GP #[64]
  | _=>exact absurd (show false=true from hs) jY
 | bl i=>
  cases F;cases y with
  | non=>cases N;exact GA #[64]
  | bl j=>cases N;exact eq_bool (bX I q acS)
  | str j=>obtain⟨t',rfl⟩:=N;exact GB #[64]
  | _=>exact absurd (show false=true from hs) jY
 | int i=>
  exists 9;cases y with
  | non=>cases N;exact GQ #[64]
  | int j=>obtain⟨t',rfl⟩:=N;exact eq_int (bX I q Y4)
  | str j=>obtain⟨t',rfl⟩:=N;exact GR #[64]
  | _=>exact absurd (show false=true from hs) jY
 | str i=>
  exists 9;cases y with
  | non=>cases N;exact GS #[64]
  | bl j=>cases N;exact GC #[64]
  | int j=>obtain⟨t',rfl⟩:=N;exact GU #[64]
  | str j=>obtain⟨t',rfl⟩:=N;exact eq_str (bX I q Y5)
  | _=>exact absurd (show false=true from hs) jY
 | R8 i=>
  exists 9;cases y with
  | R8 j=>obtain⟨t',rfl⟩:=N;exact PySem.W.eq_bytes (bX I q Y3)
  | _=>exact absurd (show false=true from hs) jY
 | _=>cases y<;>exact absurd (show false=true from hs) jY
def aol:BH X (qO .NotEq) rNe:=by
 exists 8;obtain⟨hs,q⟩:=h;cases x with
 | non=>
  cases F;cases y with
  | non=>cases N;exact GD #[64]
  | bl j=>cases N;exact GF #[64]
  | int j=>obtain⟨t',rfl⟩:=N;exact GV #[64]
  | str j=>obtain⟨t',rfl⟩:=N;exact GW #[64]
  | _=>exact absurd (show false=true from hs) jY
 | bl i=>
  cases F;cases y with
  | non=>cases N;exact GG #[64]
  | bl j=>cases N;exact ne_bool (bX I q (congrArg not acS))
  | str j=>obtain⟨t',rfl⟩:=N;exact GH #[64]
  | _=>exact absurd (show false=true from hs) jY
 | int i=>
  exists 9;cases y with
  | non=>cases N;exact GX #[64]
  | int j=>obtain⟨t',rfl⟩:=N;exact ne_int (bX I q (congrArg not Y4))
  | str j=>obtain⟨t',rfl⟩:=N;exact GY #[64]
  | _=>exact absurd (show false=true from hs) jY
 | str i=>
  exists 9;cases y with
  | non=>cases N;exact GZ #[64]
  | bl j=>cases N;exact GI #[64]
  | int j=>obtain⟨t',rfl⟩:=N;exact Ga #[64]
  | str j=>obtain⟨t',rfl⟩:=N;exact ne_str (bX I q (congrArg not Y5))
  | _=>exact absurd (show false=true from hs) jY
 | R8 i=>
  exists 9;cases y with
  | R8 j=>obtain⟨t',rfl⟩:=N;exact PySem.W.ne_bytes (bX I q (congrArg not Y3))
  | _=>exact absurd (show false=true from hs) jY
 | _=>cases y<;>exact absurd (show false=true from hs) jY
def aok:BH X (qO .Lt) (rI0 λi j=>.bl (decide (i<j))):=ag0 λ_ _ _ _ _ _ _ q=>lt_int q
def L4:BH X (qO .LtE) (rI0 λi j=>.bl (decide (i<=j))):=ag0 λ_ _ _ _ _ _ _ q=>le_int q
def Rp:BH X (qO .Gt) (rI0 λi j=>.bl (decide (j<i))):=ag0 λ_ _ _ _ _ _ _ q=>gt_int q
def aih:BH X (qO .GtE) (rI0 λi j=>.bl (decide (j<=i))):=ag0 λ_ _ _ _ _ _ _ q=>ge_int q
structure aea(x:V)(y:V)(H:Hp)(Q:VK):Prop where
 h0:y=.non
 h1:Q (.bl (decide (x=.non))) H
def ad9:BH X (qO .Is) (aea):=by
 exists 8;obtain⟨rfl,q⟩:=h;cases N;refine is_none_gen (bX I q ?_);cases x<;>first
  |(cases F;rfl)
  |(obtain⟨t,rfl⟩:=F;rfl)
def bK(b:Expr){f:Qb}(h:f≠.In:=by decide)(M:f≠.NotIn:=by decide):qE f b=false:=by
 have T:(f==CmpOp.In)=false:=by cases f<;>first|rfl|exact absurd rfl h
 have g:(f==CmpOp.NotIn)=false:=by cases f<;>first|rfl|exact absurd rfl M
 cases b<;>simp[qE,T,g]
def Cb{f:Qb}{r:R2}(V:BH X (qO f) r)(l:PE X a ta)(B:PE X b tb)(N:qE f b=false):PE X (.Compare a [f] [b] pos) (tOp r ta tb):=by exists 2;exact wpAny_Compare1 (aiV l B I h λv u j x y G E F c q=>V y3 j σ G x y v u Q E F c q) N
inductive ahG (Q:Bool->Hp->Prop) (x:V) (H':Hp):Prop
 | mk (k:_) (_:x=.bl k) (_:Q k H')
def aoY(t:TE):TT:=λσ H Q=>t σ H (ahG Q)
def aX{f:Qb}{r:R2}(V:BH X (qO f) r)(l:PE X a ta)(B:PE X b tb)(N:qE f b=false):PT X (.Compare a [f] [b] pos) (aoY (tOp r ta tb)):=by
 exists 2;refine Wd (bR #[77] λv T ⟨x,g,P,F,O⟩=>bR (B y3 T σ g _ P O) λu j ⟨y,G,E,i,n⟩=>
  bR (V y3 j σ G x y v u _ E F i n) λc J ⟨z,o,q,A,k,e,p⟩=>?_) N
 subst e;cases A;exact YQ ⟨o,q,p⟩
def ak4(r r':R2)(ta tb tc:TE):TE:=λσ H Q=>ta σ H λx H1=>tb σ H1 λy H2=>r x y H2 λz H3=>∃k,z=.bl k /\
 (if k=true then tc σ H3 λw' H4=>r' y w' H4 Q else Q (.bl false) H3)
def aef{f m:Qb}{r D:R2}(V:BH X (qO f) r)(t:BH X (qO m) D)(l:PE X a ta)(B:PE X b tb)(O:PE X c tc)(N:lastMarks [f,m] [b,c]=false:=by with_unfolding_all rfl):PE X (.Compare a [f,m] [b,c] pos) (ak4 r D ta tb tc):=by
 exists 2;refine Compare_chain (bR #[77] λv T ⟨x,g,P,F,j⟩=>chain_link (bR (B y3 T σ g _ P j) λu n ⟨y,G,E,i,w⟩=>
  bR (V y3 n σ G x y v u _ E F i w) λd J ⟨z,o,q,A,k,e,p⟩=>?_)) N
 subst e;cases A;refine YQ ?_;cases k with
 | false=>exact ite_ff ⟨.bl false,o,q,rfl,p⟩
 | true=>exact ite_tt (chain_last (bR (O y3 J σ o _ q p) λS C ⟨K,L,M,R,W⟩=>t y3 C σ L y K u S Q M i R W))
def amv(K:YW)(x:V)(H:Hp)(k:Bool):Prop:=
 match x with
 | .non=>k=false
 | .bl b=>k=b
 | .int i=>k=(i != 0)
 | .str y=>y.length<=sizeLine/\k=((y.length:Int) != 0)
 | .R8 y=>y.size<=sizeLine/\k=((y.size:Int) != 0)
 | .ref p=>(∃xs,mw K H p xs/\k=!xs.isEmpty)\/(∃xs,lU K H p xs/\k=!xs.isEmpty)\/∃kvs,H p=Z #[57]/\k=!kvs.isEmpty
 | _=>False
def Tt{kvs:List (κ×V)}{vs:List (κ×Value)}(r:KV kvs vs):(!vs.isEmpty)=!kvs.isEmpty:=by cases r<;>rfl
def Hn(r:Vals xs aN):(!aN.toArray.isEmpty)=!xs.isEmpty:=by cases r<;>simp
def Bg:(sizeLine:Nat)<2^63:=by rw[qg];decide
def alm:aqp X (λx H Q=>∃k,amv X.K x H k/\Q k H):=by
 intro y3 s σ H x v Q I F h;obtain⟨k,e,q⟩:=h;have L:=Bg;have hs:sizeLine=16777216:=qg;cases x with
 | non=>
  cases F;have l:k=false:=e;subst l;exact truthy_none ⟨H,I,q⟩
 | bl b=>
  cases F;have l:k=b:=e;subst l;exact YQ ⟨H,I,q⟩
 | int i=>
  exists 9;have l:k=(i != 0):=e;subst l;exact PySem.P.truthy_int ⟨H,I,q⟩
 | str y=>
  exists 9;obtain⟨N,l⟩:y.length<=sizeLine/\k=((y.length:Int) != 0):=e;subst l;exact PySem.P.truthy_str #[2] ⟨H,I.tok _,q⟩
 | R8 y=>
  exists 9;obtain⟨N,l⟩:y.size<=sizeLine/\k=((y.size:Int) != 0):=e;subst l;exact PySem.W.truthy_bytes #[2] ⟨H,I.tok _,q⟩
 | ref p=>
  cases F;have l:(∃xs,mw X.K H p xs/\k=!xs.isEmpty)\/(∃xs,lU X.K H p xs/\k=!xs.isEmpty)\/∃B,H p=Z (.dK B)/\k=!B.isEmpty:=e;rcases l with⟨xs,J,l⟩|⟨xs,J,l⟩|⟨B,J,l⟩
  ·subst l;obtain⟨aN,r,pl,C⟩:=I.list J;have S:=r.length;exact wpAny_truthy_list pl.isList (by simp only[jP];omega) ⟨H,I.tok _,by rw[Hn r];exact q⟩
  ·subst l;obtain⟨aN,r,pl,C⟩:=I.tuple J;have S:=r.length;exact truthy_tuple pl (by simp only[jP];omega) ⟨H,I.tok _,by rw[Hn r];exact q⟩
  ·subst l;obtain⟨C,a,vs,r,m⟩:B.length<=sizeLine/\(p==qu)=false/\∃vs,KV B vs/\s.heap.DictOf #[154] p vs:=I.hok p _ J;have S:B.length=vs.length:=Paired.length r;exact wpAny_truthy_dict a m #[2] ⟨H,I.tok _,by rw[Tt r];exact q⟩
 | _=>exact(show False from e).elim
def wO(l:PE X a ta)(R:∀b,isTrue a X.env b=(do let v <-b;standAt a.pos;holding [v] (truthy v))):
  PT X a (λσ H Q=>ta σ H λx H'=>∃k,amv X.K x H' k/\Q k H'):=by
 exists 2;exact isTrue_plain (bR #[77] λv T ⟨x,g,P,F,O⟩=>alm y3 T σ g x v Q P F O) (R _)
inductive N9 (x:V) (y:V) (H:Hp) (Q:VK):Prop
 | mk (i:_) (j:_) (_:x=.str i) (_:y=.str j) (_:i.length+j.length<=sizeLine) (_:Q (.str (i++j)) H)
def Bk:BH X (binaryOp .Add) (N9):=by exists 8;obtain⟨i,j,rfl,rfl,C,q⟩:=h;exists 9;exists 32;exact add_str (λt' tk=>⟨.str (i++j),H,I.tok _,⟨_,U⟩,q⟩) C
def vals1{x:V}(r:Vals [x] us):∃u,us=[u]/\RelV x u:=by
 cases r with
 | cons F i=>cases i;exact⟨_,rfl,F⟩
theorem vals2{x:V}(r:Vals [x,y] us):∃u S,us=[u,S]/\RelV x u/\RelV y S:=by
 cases r with
 | cons F i=>
  cases i with
  | cons A C=>cases C;exact⟨_,_,rfl,F,A⟩
inductive Pm (xs:List V) (H:Hp) (Q:VK):Prop
 | mk (i:_) (j:_) (_:xs=[.int i,.int j]) (_:Q (.int (if j<i then j else i)) H)
def aa3(O:X.calm=true):hX X (.builtin "min") (Pm):=by
 intro y3 s σ H xs us Q I r h;obtain⟨i,j,rfl,q⟩:=h;obtain⟨u,S,rfl,⟨t,rfl⟩,⟨t',rfl⟩⟩:=vals2 r;refine min_two_ints #[123] λh' tk k=>⟨_,H,I.kept k,?_,q⟩;by_cases f:j<i
 ·rw[if_pos f,if_pos f];exact⟨_,rfl⟩
 ·rw[if_neg f,if_neg f];exact⟨_,rfl⟩
def aqi(K:YW)(x:V)(H:Hp)(n:Nat):Prop:=
 match x with
 | .str y=>y.length<=sizeLine/\n=y.length
 | .R8 y=>y.size<=sizeLine/\n=y.size
 | .ref p=>(∃xs,mw K H p xs/\n=xs.length)\/∃xs,lU K H p xs/\n=xs.length
 | _=>False
inductive SK (K0:YW) (xs:List V) (H:Hp) (Q:VK):Prop
 | mk (x:_) (n:_) (_:xs=[x]) (_:aqi K0 x H n) (_:Q (.int n) H)
def acL:hX X (.builtin "len") (SK X.K):=by
 intro y3 s σ H xs us Q I r h;obtain⟨x,n,rfl,e,q⟩:=h;exists 11;have L:=Bg;have hs:sizeLine=16777216:=qg;cases x with
 | str y=>
  exists 9;obtain⟨N,l⟩:y.length<=sizeLine/\n=y.length:=e;subst l;exact len_str #[2] ⟨.int _,H,I.tok _,⟨_,U⟩,q⟩
 | R8 y=>
  exists 9;obtain⟨N,l⟩:y.size<=sizeLine/\n=y.size:=e;subst l;exact PySem.W.len_bytes #[2] ⟨.int _,H,I.tok _,⟨_,U⟩,q⟩
 | ref p=>
  cases F;have l:(∃xs,mw X.K H p xs/\n=xs.length)\/∃xs,lU X.K H p xs/\n=xs.length:=e;rcases l with⟨xs,J,l⟩|⟨xs,J,l⟩
  ·subst l;obtain⟨aN,D,pl,C⟩:=I.list J;have S:=D.length;exact Xq pl.isList (by simp only[jP];omega) ⟨.int xs.length,H,I.tok _,⟨_,by simp only[jP];rw[S]⟩,q⟩
  ·subst l;obtain⟨aN,D,pl,C⟩:=I.tuple J;have S:=D.length;exact len_tuple pl (by simp only[jP];omega) ⟨.int xs.length,H,I.tok _,⟨_,by simp only[jP];rw[S]⟩,q⟩
 | _=>exact(show False from e).elim
end
variable{r:R2}
structure Sm(h:Heap)(x dx C:QX)(mA:Str->Option Value):Prop where
 obj:h.get? x=Z (yA C dx)
 ns:h.Ns1 dx mA
 ne:dx≠x
def LS(n:h.Ns1 dx mA):∃od,h.get? dx=Z od/\∀name,yz name od=Z (mA name):=by
 obtain⟨o,es,i,V,j,C,_,N⟩:=n;refine⟨o,V,λname=>?_⟩;have e:=N name;unfold nsFind findBy at e;rw[<-Zk]at e;unfold yz;rw[j];dsimp only;split
 ·rename_i y q;rw[q]at e;exact congrArg Z e
 ·rename_i q;rw[q]at e;have a:es.toList.any (·.refKey)=false:=by rw[List.any_eq_false];intro y b;obtain⟨z,t,H⟩:=C y (Array.mem_toList_iff.mp b);simp[DictEntry.refKey,H]
  have f:¬ es.toList.any (·.refKey)=true:=by rw[a];exact jY
  rw[if_neg f];exact congrArg Z e
def Sm.look{x:QX}(I:Sm h x dx C mA):∃od,PySem.W.InstAt h x (yA C dx) C (Z od)/\∀name,yz name od=Z (mA name):=
 let ⟨od,ho,hl⟩:=LS I.ns
 ⟨od,⟨I.obj,rfl,rfl,ho⟩,hl⟩
section
variable{x f:QX}{v:Value}
def get_map(X:K.In s.heap)(I:Sm s.heap x dx C mA)(m:yj K C name=true)(H:yP K C=true)(l:YZ K #[30] name=Z Y)(M:mA name=Z v)(a:xV v=true)(h:Q v {s with toks:=s.toks+1}):
  wpAny #[5] A (getAttr #[105] name expr) Q E s:=by
 obtain⟨od,J,L⟩:=I.look;exact PySem.W.get_value X J (yx m).1 (PySem.W.findObj_own H l rfl (by rw[L,M])) a h
def ac5{pl:Qw Bool}{Q:Value×List Value->Qz->Prop}(X:K.In s.heap)(I:Sm s.heap x dx C mA)(m:yj K C name=true)(l:YZ K #[30] name=Z (Z #[58]))(d:yK K #[58]=true)(M:mA name=Y)(h:Q (.ref f,[.ref x]) s):
  wpAny #[5] A (getMethod #[105] name pl) Q E s:=by
 obtain⟨od,J,L⟩:=I.look;exact PySem.W.method_fn X J (yx m).1 (yx m).2 l (beq_iff_eq.mp d) (by show(yz name od).map (·.isSome)=Z false;rw[L,M];rfl) h
def aho{Q:Unit->Qz->Prop}(X:K.In s.heap)(I:Sm s.heap x dx C mA)(hs:YZ K #[30] "__setattr__" = Z (Z #[92]))(D:xI K C=true)(d:XY K C name=Z Y)(H:yP K C=true)(G:Xx mA ns)(hsz:ns.length<=sizeLine)(h:∀h',Sm h' x dx C (λy=>if y=name then Z v else mA y)->Yf dx s.heap h'->Q () {s with heap:=h',toks:=s.toks+2}):
  wpAny #[5] A (setAttr #[105] name v) Q E s:=by
 obtain⟨od,J,L⟩:=I.look;refine PySem.W.set_plain X J hs (PySem.W.osa_open (s:={s with toks:=s.toks+1}) (r:=Y) X J D d λb=>?_);obtain⟨cd,O,f⟩:=PySem.W.any_some H;have c:s.heap.get? x=Z ⟨.ref C,Z dx,.plain,#[]⟩:=I.obj;refine WI (Wv (WI (WI (Wg c (WI (xA (s:={s with toks:=s.toks+1}) (PySem.W.looks_clsIn X O) ?_))))));rw[f];refine Wv (a:=Z dx) (WI (Wv (WI ?_)));refine wpAny_nsSet1 (s:={s with toks:=s.toks+1}) I.ns λh' u M=>?_;obtain⟨S,z,P,l,m,p⟩:=u.count (gI name v G);refine WI (Wi l (by rw[m];exact qX (jW p (by rw[jX];omega))) ?_);exact Wv (h _ ⟨(M.2 _ (Ne.symm I.ne)).trans I.obj,u,I.ne⟩ M)
def adH{vs:List Value}{a:List #[162]}(X:K.In s.heap)(N:XZ K C=true)(b:YZ K #[30] "__init__" = Z (Z #[58]))(l:yJ K #[58]=Z (.type "function"))(h:codeAny #[5] (A.under (.builtin "type.__call__" ⟨.ref C::vs,a⟩)) (.call #[58] ⟨.ref #[11]::vs,a⟩) (PySem.W.InitBack #[11] R)
   {s with heap:=(s.heap.push Yt).push (yA C s.heap.objs.size)}):
  codeAny #[5] A (.call #[30] ⟨vs,a⟩) R s:=by
 obtain⟨H,g,d,t,os⟩:=s;exact PySem.W.make_core (PySem.W.makes_of X N) (PySem.W.looks_findIn X b) (λself=>PySem.W.bind_fn X self l) #[93] h
end
def rN(f:Str)(v:V):List (Str×V)->List (Str×V)
 |[]=>[(f,v)]
 |(g,x)::r=>if g=f then(g,v)::r else(g,x)::rN f v r
theorem Ea(f g:Str)(v:V):∀fs:List (Str×V),(rN f v fs).lookup g=if g=f then Z v else fs.lookup g
 |[]=>by
  show JZ g [(f,v)]=_;by_cases h:g=f
  ·have B:(g==f)=true:=beq_iff_eq.mpr h;simp only[JZ,B,if_pos h]
  ·have B:(g==f)=false:=beq_eq_false_iff_ne.mpr h;simp only[JZ,B,if_neg h]
 |(k,x)::r=>by
  have K:=Ea f g v r;rw[show rN f v ((k,x)::r)=(if k=f then(k,v)::r else(k,x)::rN f v r)from rfl];by_cases C:k=f
  ·rw[if_pos C];by_cases h:g=k
   ·have B:(g==k)=true:=beq_iff_eq.mpr h;simp only[JZ,B,if_pos (h.trans C)]
   ·have B:(g==k)=false:=beq_eq_false_iff_ne.mpr h;simp only[JZ,B,if_neg (λe:g=f=>h (e.trans C.symm))]
  ·rw[if_neg C];by_cases h:g=k
   ·have B:(g==k)=true:=beq_iff_eq.mpr h;simp only[JZ,B,if_neg (λe:g=f=>C (h.symm.trans e))]
   ·have B:(g==k)=false:=beq_eq_false_iff_ne.mpr h;simp only[JZ,B];exact K
theorem Dk(f:Str)(v:V):∀fs:List (Str×V),f∈(rN f v fs).map (·.1)/\∀g,g∈fs.map (·.1)->g∈(rN f v fs).map (·.1)
 |[]=>⟨by simp[rN],λg h=>by simp at h⟩
 |(k,x)::r=>by
  obtain⟨p,n⟩:=Dk f v r;rw[show rN f v ((k,x)::r)=(if k=f then(k,v)::r else(k,x)::rN f v r)from rfl];by_cases C:k=f
  ·rw[if_pos C];subst C;exact⟨by simp,λg h=>by simpa using h⟩
  ·rw[if_neg C];refine⟨?_,λg h=>?_⟩
   ·rw[jy];exact jJ _ p
   ·rw[jy]at h ⊢;rcases jL.mp h with e|e
    ·exact jL.mpr (.inl e)
    ·exact jJ _ (n g e)
theorem D9(f:Str)(v:V):∀fs:List (Str×V),(rN f v fs).length<=fs.length+1
 |[]=>by simp[rN]
 |(k,x)::r=>by
  have K:=D9 f v r;rw[show rN f v ((k,x)::r)=(if k=f then(k,v)::r else(k,x)::rN f v r)from rfl];by_cases C:k=f
  ·rw[if_pos C,jX,jX];omega
  ·rw[if_neg C,jX,jX];omega
def pA.some_of{o:Option Value}(r:pA (Z v) o):∃u,o=Z u/\RelV v u:=by
 cases o with
 | none=>exact(show False from r).elim
 | some u=>exact⟨u,rfl,r⟩
def pA.none_of{o:Option Value}(r:pA Y o):o=Y:=by
 cases o with
 | none=>rfl
 | some u=>exact(show False from r).elim
def LC(r:RelV v u):xV u=true:=by
 cases v with
 | non=>cases(show u=Yc from r);rfl
 | bl b=>cases(show u=yU b from r);rfl
 | int i=>obtain⟨t,e⟩:=(show ∃t,u=Yj i t from r);cases e;rfl
 | str x=>obtain⟨t,e⟩:=(show ∃t,u=yF x t from r);cases e;rfl
 | R8 b=>obtain⟨t,e⟩:=(show ∃t,u=Gj b t from r);cases e;rfl
 | flt b=>obtain⟨t,e⟩:=(show ∃t,u=xT b t from r);cases e;rfl
 | ref a=>cases(show u=YX a from r);rfl
 | ty n=>cases(show u=yn n from r);rfl
section
variable{fs:List (Str×V)}
def EU(E:fq P w H h)(e:H a=Z #[126]):∃mA,Sm h a dx C mA/\(∀f,pA (fs.lookup f) (mA f))/\Xx mA (fs.map (·.1))/\fs.length<=1000/\H dx=Z (.own a):=by obtain⟨d,z,G,ob,mA,n,r,q⟩:=(show bp P w H h a #[126]from E a _ e);exact⟨mA,⟨ob,n,G⟩,r,q,z,d⟩
end
structure EJ(K:YW)(C:QX):Prop where
 pg:yj K C Str.empty=true
 hd:yP K C=true
 po:xI K C=true
 sa:YZ K #[30] "__setattr__" = Z (Z #[92])
def EJ.get(c:EJ K C)(f:Str):yj K C f=true:=c.pg
def dG(K:YW)(C:QX)(f:Str):Prop:=YZ K #[30] f=Z Y
def dG.ao1(n:dG K C f):XY K C f=Z Y:=by unfold XY;rw[show YZ K #[30] f=Z Y from n];rfl
structure Meth(K:YW)(C:QX)(m:Str)(f:QX):Prop where
 at_:YZ K #[30] m=Z (Z #[58])
 fn:yK K #[58]=true
 kp:Yd K #[58]=true
section
variable{fs:List (Str×V)}
def Tc{b:Bool}(I:Inv X y3 σ H s)(e:H a=Z #[126])(c:EJ X.K C)(n:dG X.K C f)(l:fs.lookup f=Z v)(h:∀u s',Inv X y3 σ H s'->RelV v u->Q u s'):wpAny #[4] A (getAttr #[72] f b) Q E s:=by obtain⟨mA,O,r,_,_,_⟩:=EU I.hok e;obtain⟨u,R,m⟩:=pA.some_of (v:=v) (o:=mA f) (by rw[<-l];exact r f);exact get_map I.pW O (c.get f) c.hd n R (LC m) (h u _ (I.tok _) m)
def Ha{g:QX}{pl:Qw Bool}{Q:Value×List Value->Qz->Prop}(I:Inv X y3 σ H s)(e:H a=Z #[126])(c:EJ X.K C)(k:Meth X.K C m g)(l:fs.lookup m=Y)(h:Q (.ref g,[.ref a]) s):wpAny #[4] A (getMethod #[72] m pl) Q E s:=by obtain⟨mA,O,r,_,_,_⟩:=EU I.hok e;have R:mA m=Y:=pA.none_of (by rw[<-l];exact r m);exact ac5 I.pW O (c.get m) k.at_ k.fn R h
def V2{Q:Unit->Qz->Prop}(I:Inv X y3 σ H s)(e:H a=Z #[126])(c:EJ X.K C)(n:dG X.K C f)(L:fs.length<1000)(N:RelV y u)(h:∀s',Inv X y3 σ (upd H a (.ins C dx (rN f y fs))) s'->Q () s'):wpAny #[4] A (setAttr #[72] f u) Q E s:=by
 obtain⟨mA,O,r,wi,_,V⟩:=EU I.hok e;have i:(fs.map (·.1)).length<=sizeLine:=by rw[jQ,qg];omega
 refine aho I.pW O c.sa c.po n.ao1 c.hd wi i λh' d j=>h _ ?_;have k:∃o,h'.get? dx=Z o:=let ⟨o,_,_,e',_⟩:=d.ns;⟨o,e'⟩;refine I.write (x:=a) (e:=dx) #[91] (.inr V) (λb q B z=>(j.2 b B).trans z) k ?_;refine⟨by rw[ag O.ne];exact V,?_,O.ne,d.obj,_,d.ns,λg=>?_,λg m=>?_⟩
 ·have:=D9 f y fs;omega
 ·show pA ((rN f y fs).lookup g) (if g=f then Z u else mA g);rw[Ea];by_cases q:g=f
  ·rw[if_pos q,if_pos q];exact N
  ·rw[if_neg q,if_neg q];exact r g
 ·by_cases q:g=f
  ·rw[q];exact(Dk f y fs).1
  ·refine(Dk f y fs).2 g (wi g λz=>m ?_);show(if g=f then Z u else mA g)=Y;rw[if_neg q];exact z
def Inv.made(I:Inv X y3 σ H s):Inv X y3 σ (upd (upd H s.heap.objs.size (.own #[11])) #[11] (.ins C s.heap.objs.size []))
  {s with heap:=(s.heap.push Yt).push (yA C s.heap.objs.size)}:=by
 have T:(s.heap.push Yt).get? s.heap.objs.size=Z Yt:=jF s.heap rfl;have g:((s.heap.push Yt).push (yA C s.heap.objs.size)).get? #[11]=Z (yA C s.heap.objs.size):=by have:=jF (s.heap.push Yt) (o:=yA C s.heap.objs.size) rfl;rwa[jc]at this
 have j:(s.heap.push Yt).Ns s.heap.objs.size (λ_=>Y):=⟨Yt,#[],_,T,rfl,(λe R=>absurd R #[8]),λ_=>rfl⟩;have P:=I.laid (a:=s.heap.objs.size) (o:=.own #[11]) (h':=s.heap.push Yt) (t':=s.toks) (λb u q=>jA _ q) (jD _) ⟨_,T⟩;refine P.laid (a:=s.heap.objs.size+1) (o:=.ins C s.heap.objs.size []) (t':=s.toks) (λb u q=>jA _ q) (zb (jc _ _)) ?_;have G:s.heap.objs.size≠s.heap.objs.size+1:=jM (JK _);refine⟨by rw[ag G,ae],je _,G,g,λ_=>Y,(xJ j).at λo q=>jA _ q,λ_=>True.intro,λy N=>absurd rfl N⟩
def X8(B:attributeBase e f env (eval e env)=eval e env)(h:wpAny #[5] A (eval e env) (λo O=>wpAny #[5] A (getAttr o f true) Q E O) E s):wpAny #[5] A (eval (.Attribute e f pos) env) Q E s:=
 Attribute_any_ h (by rw[arm_eval_Attribute,B])
end
inductive ald (K:YW) (f:Str) (Q:VK) (x:V) (H1:Hp):Prop
 | mk (a:_) (C:_) (dx:_) (fs:_) (v:_) (_:x=.ref a) (_:H1 a=Z #[126]) (_:EJ K C) (_:dG K C f) (_:fs.lookup f=Z v) (_:Q v H1)
def atB(K:YW)(ta:TE)(f:Str):TE:=λσ H Q=>ta σ H (ald K f Q)
def atx(K:YW)(ta tv:TE)(f:Str):TS:=λD σ H=>tv σ H λy H1=>ta σ H1 λx H2=>∃a C dx fs,x=.ref a/\H2 a=Z #[126]/\EJ K C/\dG K C f/\fs.length<1000 /\
 D.nx σ (upd H2 a (.ins C dx (rN f y fs)))
section
variable{o value:Expr}{tv:TE}
def bC(R:PE X e ta)(B:attributeBase e f X.env (eval e X.env)=eval e X.env):PE X (.Attribute e f pos) (atB X.K ta f):=by exists 2;refine X8 B (bR #[115] λu T ⟨x,g,P,F,a,C,dx,fs,v,ex,L,c,n,l,q⟩=>?_);subst ex;obtain rfl:u=YX a:=F;exact Tc P L c n l λb j E m=>⟨v,g,E,m,q⟩
def iH(b:PE X o ta)(M:PE X value tv)(hs:qq value (Z (.Attribute o f pos')) pos.line X.env=pure false):PS X (.Assign [.Attribute o f pos'] value pos) (atx X.K ta tv f):=by exists 18;refine qZ (bR (M y3 s σ H _ I h) λu T ⟨y,g,P,N,q⟩=>bR (b y3 T σ g _ P q) λd j ⟨x,G,E,F,a,C,dx,fs,ex,L,c,n,l,e⟩=>?_) hs;subst ex;obtain rfl:d=YX a:=F;exact V2 E L c n l N λJ i=>⟨σ,_,i,e⟩
end
section
variable{c:Value}{b:Bool}
inductive sh (K:YW) (H:Hp):V->Value->Prop where
 | non:sh K H .non (.type "NoneType")
 | bl (x:Bool):sh K H (.bl x) (.type "bool")
 | int (i:Int):sh K H (.int i) (.type "int")
 | str (x:Str):sh K H (.str x) (.type "str")
 | flt (x:UInt64):sh K H (.flt x) (.type "float")
 | lst {a:QX} {xs:List V} (e:H a=Z #[165]):sh K H #[72] (.type "list")
 | Av {a:QX} {o:Obj} {xs:List V} (e:H a=Z (.Av o #[165])):sh K H #[72] (.type "list")
 | tup {a:QX} {xs:List V} (e:H a=Z #[39]):sh K H #[72] #[179]
 | dK {a:QX} {kvs:List #[167]} (e:H a=Z #[57]):sh K H #[72] #[124]
 | dT {a:QX} {kvs:List #[98]} (e:H a=Z (.dT kvs)):sh K H #[72] #[124]
 | ins {a C dx:QX} {fs:List (Str×V)} (e:H a=Z #[126]) (cl:EJ K C) (ha:YZ K #[30] "__class__" = Z (Z #[33]))
   (hn:yQ K #[33] "__get__" = Z (Z #[40])) (htk:xb K #[33]=Z true)
   (hm:Yp K C #[87]=Z true):sh K H #[72] #[30]
theorem abw{x:V}{t:Value}(I:Inv X y3 σ H s)(F:RelV x u)(ty:sh X.K H x t)(e:Ye X.K t c=Z b)(h:∀tk,Q (.bool b) {s with toks:=tk}):
  wpAny #[4] A (call (.builtin "isinstance") [u,c]) Q E s:=by
 cases ty with
 | non=>cases(show u=Yc from F);exact Ym PySem.W.kitx_none I.pW True.intro e #[73] h
 | bl y=>cases(show u=yU y from F);exact Ym PySem.W.kitx_bool I.pW True.intro e #[73] h
 | int i=>obtain⟨t,q⟩:=(show ∃t,u=Yj i t from F);cases q;exact Ym PySem.W.kitx_int I.pW True.intro e #[73] h
 | str y=>obtain⟨t,q⟩:=(show ∃t,u=yF y t from F);cases q;exact Ym PySem.W.kitx_str I.pW True.intro e #[73] h
 | flt y=>obtain⟨t,q⟩:=(show ∃t,u=xT y t from F);cases q;exact Ym PySem.W.kitx_float I.pW True.intro e #[73] h
 | @lst a xs L=>
  exists 29;obtain⟨_,_,n,_,G⟩:=(show bp X.prog X.w H s.heap a #[165]from I.hok a _ L);exact Ym xK I.pW ⟨_,G,U⟩ e #[73] h
 | @Av a ob xs L=>
  exists 29;obtain⟨_,_,_,n,_,G⟩:=(show bp X.prog X.w H s.heap a (.Av ob #[165])from I.hok a _ L);exact Ym xK I.pW ⟨_,G,U⟩ e #[73] h
 | @tup a xs L=>
  exists 29;obtain⟨_,_,_,p⟩:=(show bp X.prog X.w H s.heap a #[39]from I.hok a _ L);obtain⟨o,G,M,_⟩:=p;exact Ym PySem.W.kitx_tuple I.pW ⟨o,G,M⟩ e #[73] h
 | @dK a B L=>
  exists 29;obtain⟨_,_,vs,_,p⟩:=(show bp X.prog X.w H s.heap a (.dK B)from I.hok a _ L);obtain⟨o,es,f,G,M,_⟩:=p;exact Ym xM I.pW ⟨o,G,M.1⟩ e #[73] h
 | @dT a B L=>
  exists 29;obtain⟨_,_,xs,_,o,es,f,G,M,_⟩:=(show bp X.prog X.w H s.heap a (.dT B)from I.hok a _ L);exact Ym xM I.pW ⟨o,G,M.1⟩ e #[73] h
 | @ins a C dx fs L r l R d N=>
  exists 29;obtain⟨mA,O,_⟩:=EU I.hok L;obtain⟨od,J,_⟩:=O.look;exact Ym (PySem.W.kitx_own (r.get _) r.hd l R d N) I.pW J e #[73] h
end
structure cL(k:Nat)(A:Around):Prop where
 hd:A.handled=Y
 dp:A.depth+3*k+5<recursionLimit
 un:A.units+16*k+200<cLine
def cL.mono{k:Nat}(r:cL k A)(h:j<=k):cL j A:=⟨r.hd,by have:=r.dp;omega,by have:=r.un;omega⟩
theorem cL.deeper{k:Nat}(r:cL (k+1) A)(env:Qg):cL k (A.deeper env):=
 ⟨r.hd,by have:=r.dp;show A.depth+1+3*k+5<_;omega,by have:=r.un;show A.units+3+16*k+200<_;omega⟩
def TM{a:List #[162]}:#[75].depth=A.depth+1:=by first|rfl|simp[Around.under,Code.weight,Code.isCreation,Code.isGuard,Code.isCaller,Code.frames,Code.isFrame,guardIds]
def TN{a:List #[162]}:#[75].units=A.units+1:=by first|rfl|simp[Around.under,Code.cUnits,Code.frames,Code.isFrame]
def cL.make{k:Nat}(r:cL (k+1) A)(C:QX)(us:List Value)(a:List #[162]):cL k #[75]:=
 ⟨r.hd,by have:=r.dp;rw[TM];omega,by have:=r.un;rw[TN];omega⟩
theorem cL.depth{k:Nat}(r:cL k A):A.depth<recursionLimit:=by have:=r.dp;omega
theorem cL.units{k:Nat}(r:cL k A):A.units+64<cLine:=by have:=r.un;omega
def cL.alp{k:Nat}(r:cL k A):A.units<cLine:=by have:=r.un;omega
def ae9:TA:=λ_ H Q=>Q [] H
def aaM(ta:TE)(tr:TA):TA:=λσ H Q=>ta σ H λx H1=>tr σ H1 λxs H2=>Q (x::xs) H2
section
def af:PA X [] ae9:=λ_ _ _ _ H Q I h=>yD ⟨[],H,I,.nil,h⟩
def aa(l:PE X e te)(S:PA X es t)(hs:qh (e::es) X.env=#[18]::qh es X.env:=by rfl):PA X (e::es) (aaM te t):=by intro pos y3 s σ H Q I h;rw[hs];show wpAny _ _ (spliced (#[18]::backTo pos (qh es X.env))) _ _ s;refine Yn (bR #[77] λu T ⟨x,g,P,F,O⟩=>?_);exact bR (S pos y3 T σ g _ P O) λus j ⟨xs,G,E,i,n⟩=>⟨x::xs,G,E,.cons F i,n⟩
structure ali(Q:VK)(xs:List V)(H1:Hp):Prop where
 h0:xs.length<=sizeLine
 h1:∀p,H1 p=Y->Q (.ref p) (upd H1 p #[39])
def ao0(t:TA):TE:=λσ H Q=>t σ H (ali Q)
structure alg(Q:VK)(xs:List V)(H1:Hp):Prop where
 h0:xs.length<=sizeLine
 h1:∀p,H1 p=Y->Q (.ref p) (upd H1 p #[165])
def aoT(t:TA):TE:=λσ H Q=>t σ H (alg Q)
def ck{x1}(h:PA X es t):PE X (.Tuple es x1 pos) (ao0 t):=by intro y3 s σ H Q I W;refine wpAny_Tuple_spliced (bR (h pos y3 s σ H _ I W) λus T ⟨xs,g,P,r,z,q⟩=>⟨by rw[<-r.length];exact z,?_⟩);have l:g T.heap.objs.size=Y:=P.hok.fresh (jD _);refine⟨.ref T.heap.objs.size,upd g T.heap.objs.size #[39],P.laid (t':=T.toks) (λb u e=>jA _ e) (jD _) ?_,U,q _ l⟩;exact⟨z,us,r,⟨_,jF _ rfl,U,_,U⟩⟩
def bI(h:PA X es t):PE X (.List es pos) (aoT t):=by intro y3 s σ H Q I W;refine wpAny_List_spliced (bR (h pos y3 s σ H _ I W) λus T ⟨xs,g,P,r,z,q⟩=>⟨by rw[<-r.length];exact z,?_⟩);have l:g T.heap.objs.size=Y:=P.hok.fresh (jD _);refine⟨.ref T.heap.objs.size,upd g T.heap.objs.size #[165],P.laid (t':=T.toks) (λb u e=>jA _ e) (jD _) ?_,U,q _ l⟩;exact⟨z,us,0,r,jF _ rfl⟩
end
abbrev Sp:=List V->Hp->VK->XK->Prop
abbrev OM:=List Qg->Hp->Qz->XK->Value->Qz->Prop
structure Ei(P:Qv)(w:World)(K:YW)(mg:Str->Option Value)(base:Heap)(A:Around)(outer:List Qg)(s:Qz)(H:Hp):Prop where
 frames:A.frames=Z outer
 mod:Mod K mg base
 bs:∀b o,base.get? b=Z o->s.heap.get? b=Z o/\H b=Y
 bsz:base.objs.size<=s.heap.objs.size
 tT:s.heap.FunFrames base outer
 frf:∀b∈De outer,H b=Y
 hok:fq P w H s.heap
 bare:QY s.gens
def CE(outer:List Qg)(P:Qv)(w:World)(H:Hp)(s:Qz)(Q:VK)(u:Value)(s':Qz):Prop:=
 ∃v H',s'.os=s.os/\QY s'.gens/\Un (De outer) [] H H' s.heap s'.heap/\fq P w H' s'.heap/\RelV v u/\Q v H'
def CR(CX:OM)(outer:List Qg)(P:Qv)(w:World)(H:Hp)(s:Qz)(Q:VK)(E:XK)(r:Result)(s':Qz):Prop:=
 match r with
 | .ok (.ret u)=>CE outer P w H s Q u s'
 | .ok _=>False
 | .error e=>CX outer H s E e s'
structure aR(P:Qv)(w:World)(K:YW)(mg:Str->Option Value)(base:Heap)(CX:OM)(k:Nat)(f:QX)(fd:Qh)(ps:List Str)(sp:Sp):Prop where
 len:∀vs H Q E,sp vs H Q E->vs.length=ps.length
 run:∀(A:Around) (outer:List Qg) (s:Qz) (H:Hp) (args:Args) (us:List Value) (vs:List V) (Q:VK) (E:XK),cL k A->Ei P w K mg base A outer s H->Qa s fd args #[130]->Vals vs us->sp vs H Q E ->
  codeAny #[42] A (.call #[58] args) (CR CX outer P w H s Q E) s
def Ei.make(e:Ei P w K mg base A outer s H)(C:QX)(us:List Value)(a:List #[162]):
  Ei P w K mg base #[75] outer s H:=⟨by first|exact e.frames|(simpa[Around.under,Code.envs,Code.isFrame,pushEnvs]using e.frames),e.mod,e.bs,e.bsz,e.tT,e.frf,e.hok,e.bare⟩
section
def Inv.S7(I:Inv X y3 σ H s):Ei X.prog X.w X.K X.mg X.base X.A X.stack s H:=
 ⟨I.ok.frames,I.ok.mod,I.bs,jW I.ok.bsz I.sz,I.stack,I.OC,I.hok,I.bare⟩
def Inv.after{Q:VK}(I:Inv X y3 σ H s)(h:CE X.stack X.prog X.w H s Q u s'):EP X y3 σ Q u s':=by obtain⟨v,H',os,p,un,E,r,q⟩:=h;obtain⟨a,g,d,t,j⟩:=s';obtain rfl:j=s.os:=os;exact⟨v,H',I.call (h':=a) (g':=g) (d':=d) (t':=t) (ch:=[]) un E p (λb z=>absurd z #[8]),r,q⟩
end
def Mi(sp:Sp)(eN:List V)(E:XK)(t:TA):TE:=λσ H Q=>t σ H λvs H1=>sp (vs++eN) H1 Q E
inductive ahC (C:QX) (m:Str) (sp:Sp) (eN:List V) (E:XK) (t:TA) (σ:St) (Q:VK) (x:V) (H1:Hp):Prop
 | mk (a:_) (dx:_) (fs:_) (_:x=.ref a) (_:H1 a=Z #[126]) (_:fs.lookup m=Y) (_:t σ H1 λvs H2=>sp (x::(vs++eN)) H2 Q E)
def R0(C:QX)(m:Str)(sp:Sp)(eN:List V)(E:XK)(ta:TE)(t:TA):TE:=λσ H Q=>ta σ H (ahC C m sp eN E t σ Q)
def aiC(C:QX)(sp:Sp)(eN:List V)(E:XK)(t:TA):TE:=λσ H Q=>t σ H λvs H1=>∀x dx,H1 x=Y->H1 dx=Y->dx≠x ->
 sp (.ref x::(vs++eN)) (upd (upd H1 dx (.own x)) x (.ins C dx [])) (λv H2=>v=.non/\Q #[105] H2) E
def Binds(K:YW)(fd:Qh)(ps:List Str)(ds:List Value):Prop:=
 ∀(s:Qz) (us:List Value),K.In s.heap->(us++ds).length=ps.length->Qa s fd ⟨us,[]⟩ (ps.zip (us++ds))
def Binds.all{ps:List Str}(h:∀us:List Value,us.length=ps.length->bindArgs fd ⟨us,[]⟩=pure #[130]):Binds K fd ps []:=λs us _ L=>by rw[jZ]at L ⊢;exact .of_eq (h us L)
def Passes(CX:OM)(X:Cx)(E:XK):Prop:=∀(y3:List #[51]) (σ:St) (H:Hp) (s:Qz) (e:Value) (s':Qz),Inv X y3 σ H s->CX X.stack H s E e s'->X.xe e s'
section
variable{CX:OM}{k:Nat}{f:QX}{ps:List Str}{sp:Sp}{E:XK}{o:Expr}
def Oq{Q:VK}(F:aR X.prog X.w X.K X.mg X.base CX k f fd ps sp)(S:cL k X.A)(B:Binds X.K fd ps ds)(j:Vals eN ds)(J:Passes CX X E)(I:Inv X y3 σ H s)(r:Vals vs us)(h:sp (vs++eN) H Q E):wpAny #[4] X.A (call #[58] us) #[90] X.xe s:=by
 have i:Vals (vs++eN) (us++ds):=r.append j;have L:(us++ds).length=ps.length:=by rw[<-i.length];exact F.len _ _ _ _ h
 refine WJ (qM (F.run X.A X.stack s H ⟨us,[]⟩ (us++ds) (vs++eN) Q E S I.S7 (B s us I.pW L) i h) λr s' W=>?_);cases r with
 | error e=>exact J y3 σ H s e s' I W
 | ok G=>
  cases G with
  | ret u=>exact I.after W
  | next=>exact False.elim W
  | brk=>exact False.elim W
  | cont=>exact False.elim W
def Ob(F:aR X.prog X.w X.K X.mg X.base CX k f fd ps sp)(S:cL k X.A)(m:Gl X x)(N:X.mg x=Z #[58])(C:Yd X.K #[58]=true)(B:Binds X.K fd ps ds)(j:Vals eN ds)(J:Passes CX X E)(l:PA X (e::es) t)(b:#[17]=false:=by decide)(R:qh (e::es) X.env=#[18]::qh es X.env:=by rfl)(a:#[20].any (·.1)=false:=by rfl):
  PE X #[16] (Mi sp eN E t):=by
 exists 2;refine WB (oa I m N ?_ b);refine Yu (h₀:=X.base) I.ok.mod.kin C (bR #[109] λus T ⟨vs,g,P,r,q⟩=>⟨P.pW,?_⟩) R a;exact Oq F S B j J P r q
def aan{pl:Qw Bool}(R:PE X o ta)(c:EJ X.K C)(N:Meth X.K C m f)(F:aR X.prog X.w X.K X.mg X.base CX k f fd ps sp)(S:cL k X.A)(B:Binds X.K fd ps ds)(j:Vals eN ds)(J:Passes CX X E)(d:PA X (e::es) t)(M:qh (e::es) X.env=#[18]::qh es X.env:=by rfl)(g:#[20].any (·.1)=false:=by rfl)(i:eval #[101] X.env=(do
   let D <-eval o X.env
   standAt y4.atName
   let (f,first) <-holding [D] (getMethod D m pl)
   callWith pos f first (backTo pos (qh (e::es) X.env)) #[70]):=by rfl):
  PE X #[101] (R0 C m sp eN E ta t):=by
 exists 2;refine yk (pl:=pl) (bR #[115] λu T ⟨x,n,P,p,a,dx,fs,ex,L,l,q⟩=>?_) i;subst ex;obtain rfl:u=YX a:=p;refine Ha P L c N l ?_;refine Yu (first:=[.ref a]) (h₀:=X.base) I.ok.mod.kin N.kp (bR (d pos y3 T σ n _ P q) λus y ⟨vs,G,b,r,v⟩=>⟨b.pW,?_⟩) M g;exact Oq (us:=.ref a::us) (vs:=.ref a::vs) F S B j J b (.cons rfl r) v
def aek{pl:Qw Bool}(R:PE X o ta)(c:EJ X.K C)(N:Meth X.K C m f)(F:aR X.prog X.w X.K X.mg X.base CX k f fd ps sp)(S:cL k X.A)(B:Binds X.K fd ps ds)(j:Vals eN ds)(J:Passes CX X E)(d:eval (.Call (.Attribute o m y4) [] [] pos) X.env=(do
   let D <-eval o X.env
   standAt y4.atName
   let (f,first) <-holding [D] (getMethod D m pl)
   callWith pos f first (backTo pos (qh [] X.env)) #[70]):=by rfl):
  PE X (.Call (.Attribute o m y4) [] [] pos) (R0 C m sp eN E ta ae9):=by
 exists 2;refine yk (pl:=pl) (bR #[115] λu T ⟨x,g,P,b,a,dx,fs,ex,L,l,q⟩=>?_) d;subst ex;obtain rfl:u=YX a:=b;refine Ha P L c N l ?_;exact PySem.W.callWith_K0 (first:=[.ref a]) P.pW N.kp (Oq (us:=[.ref a]) (vs:=[.ref a]) F S B j J P (.cons rfl .nil) q)
structure Mk(K:YW)(C f:QX):Prop where
 makes:XZ K C=true
 init:YZ K #[30] "__init__" = Z (Z #[58])
 fn:yK K #[58]=true
 kp:Yd K #[30]=true
theorem aeM{Q:VK}(M:Mk X.K C f)(F:aR X.prog X.w X.K X.mg X.base CX k f fd ps sp)(S:cL (k+1) X.A)(B:Binds X.K fd ps ds)(j:Vals eN ds)(J:Passes CX X E)(I:Inv X y3 σ H s)(r:Vals vs us)(h:∀x dx,H x=Y->H dx=Y->dx≠x->sp (.ref x::(vs++eN)) (upd (upd H dx (.own x)) x (.ins C dx [])) (λv G=>v=.non/\Q #[105] G) E):
  wpAny #[4] X.A (call #[30] us) #[90] X.xe s:=by
 have W:=h #[11] s.heap.objs.size (I.hok.fresh (JE _)) #[60] (jM (JK _));have b:=Inv.made (C:=C) I;have i:Vals (V.ref #[11]::(vs++eN)) (YX #[11]::(us++ds)):=.cons rfl (r.append j);have L:(YX #[11]::us++ds).length=ps.length:=by have e:=i.length;rw[F.len _ _ _ _ W]at e;exact e.symm
 refine WJ (adH (f:=f) I.pW M.makes M.init (beq_iff_eq.mp M.fn) (qM (F.run _ X.stack _ _ ⟨YX #[11]::us,[]⟩ (YX #[11]::(us++ds)) _ _ E (S.make C us [])
  (b.S7.make C us []) (B _ (YX #[11]::us) b.pW L) i W) λr s' a=>?_))
 cases r with
 | error e=>exact J y3 σ _ _ e s' b a
 | ok c=>
  cases c with
  | ret u=>
   obtain⟨v,H',q,d,N,p⟩:=b.after a;subst N;exact⟨d,⟨V.ref #[11],H',q,U,p⟩⟩
  | next=>exact False.elim a
  | brk=>exact False.elim a
  | cont=>exact False.elim a
def ag6(M:Mk X.K C f)(F:aR X.prog X.w X.K X.mg X.base CX k f fd ps sp)(S:cL (k+1) X.A)(m:Gl X x)(N:X.mg x=Z #[30])(B:Binds X.K fd ps ds)(j:Vals eN ds)(J:Passes CX X E)(l:PA X (e::es) t)(b:#[17]=false:=by decide)(R:qh (e::es) X.env=#[18]::qh es X.env:=by rfl)(a:#[20].any (·.1)=false:=by rfl):
  PE X #[16] (aiC C sp eN E t):=by
 exists 2;refine WB (oa I m N ?_ b);refine Yu (h₀:=X.base) I.ok.mod.kin M.kp (bR #[109] λus T ⟨vs,g,P,r,q⟩=>⟨P.pW,?_⟩) R a;exact aeM M F S B j J P r q
end
structure ax(N P:List Str)(sc:Scope):Prop where
 kind:sc.kind=.function
 co:sc.isCoroutine=false
 gen:sc.isGenerator=false
 nd:N.Nodup
 pre:N.take P.length=P
 par:∀x∈P,sc.names.lookup x=Z .local\/sc.names.lookup x=Z .cell
 nofree:∀y∈sc.names,y.2≠.free
theorem Lj{kindOf:Str->Option Qr}:∀{binds:List #[162]} {m:Str->Option Value},(∀v,(x,v)∉binds)->bindL kindOf binds m x=m x
 |[],_,_=>rfl
 |(n,v)::r,m,h=>by
  unfold bindL;rw[Lj λw G=>h w (jJ _ G)];split
  ·have:x≠n:=by rintro rfl;exact h v jC
   simp[this]
  ·rfl
theorem Lh{kindOf:Str->Option Qr}:∀{binds:List #[162]} {m:Str->Option Value},(∀v,(x,v)∉binds)->bindC kindOf binds m x=m x
 |[],_,_=>rfl
 |(n,v)::r,m,h=>by
  unfold bindC;rw[Lh λw G=>h w (jJ _ G)];split
  ·rfl
  ·have:x≠n:=by rintro rfl;exact h v jC
   simp[this]
theorem Li{kindOf:Str->Option Qr}{v:Value}:∀{P:List Str} {vs:List Value} {i:Nat} {m:Str->Option Value},P.Nodup->P[i]?=Z x->vs[i]?=Z v->kindOf x=Z .local ->
  bindL kindOf (P.zip vs) m x=Z v
 |[],_,_,_,_,h,_,_=>by simp at h
 | _::_,[],_,_,_,_,h,_=>by simp at h
 | p::P,w::vs,0,m,O,G,M,C=>by simp at G M;subst G;subst M;show bindL kindOf ((p,w)::P.zip vs) m p=_;unfold bindL;rw[Lj λv a=>(jn.mp O).1 (zI a).1,if_pos C];simp
 | p::P,w::vs,i+1,m,O,G,M,C=>by show bindL kindOf ((p,w)::P.zip vs) m x=_;unfold bindL;exact Li (i:=i) (jn.mp O).2 #[161] #[160] C
theorem Lg{kindOf:Str->Option Qr}{v:Value}:∀{P:List Str} {vs:List Value} {i:Nat} {m:Str->Option Value},P.Nodup->P[i]?=Z x->vs[i]?=Z v->kindOf x≠Z .local ->
  bindC kindOf (P.zip vs) m x=Z v
 |[],_,_,_,_,h,_,_=>by simp at h
 | _::_,[],_,_,_,_,h,_=>by simp at h
 | p::P,w::vs,0,m,O,G,M,C=>by simp at G M;subst G;subst M;show bindC kindOf ((p,w)::P.zip vs) m p=_;unfold bindC;rw[Lh λv a=>(jn.mp O).1 (zI a).1,if_neg C];simp
 | p::P,w::vs,i+1,m,O,G,M,C=>by show bindC kindOf ((p,w)::P.zip vs) m x=_;unfold bindC;exact Lg (i:=i) (jn.mp O).2 #[161] #[160] C
def start(N:List Str)(vs:List V):St:=vs.map Z++Jy (N.length-vs.length) Y
def bE(CX:OM)(P:Qv)(w:World)(K:YW)(mg:Str->Option Value)(base:Heap)(N:List Str)(qual:Str)(scope:Scope)(f:QX)(cd:Value)(A:Around)(outer:List Qg)(s:Qz)(H:Hp)(E:XK):Cx where
 prog:=P
 w:=w
 K:=K
 mg:=mg
 base:=base
 A:=A.deeper #[19]
 N:=N
 s₀:=s
 H₀:=H
 env:=envOfC qual scope s.heap.objs.size f cd
 outer:=outer
 stack:=envOfC qual scope s.heap.objs.size f cd::outer
 ex:=[]
 calm:=true
 fn:=λ_=>true
 pn:=[]
 xe:=λe s'=>wpAny #[42] (A.deeper #[19]) (leaving #[19] e) (λ_ s''=>CX outer H s E e s'') (λe' s''=>CX outer H s E e' s'') s'
def Pn(h:sc.names.lookup x=Z .cell):∃c,(cellsFrom n sc.names []).lookup x=Z c:=by have q:=yh sc.names n [] (.inl h);exact JM.mp q
def LG{CX:OM}{ps:List Str}{f:QX}{T:Qz}{E:XK}(S:ax N ps scope)(l:A.handled=Y)(X:Ei P w K mg base A outer s H)(L:vs.length=ps.length)(r:Vals vs us)(x:InCallC s s.heap.objs.size (bindL #[19].kindOf #[130] λ_=>Y) (cellsFrom #[11] scope.names []) (bindC #[19].kindOf #[130] λ_=>Y) T):
  Inv (bE CX P w K mg base N qual scope f cd A outer s H E) [] #[145] H T:=by
 have t:ps.length<=N.length:=by have:=congrArg Jg S.pre;rw[jT]at this;omega
 obtain⟨G,tk,rfl,C⟩:=x.done;have g:∀b:QX,b∉(bE CX P w K mg base N qual scope f cd A outer s H E).ex:=λb z=>absurd (show b∈([]:List QX)from z) #[8];refine⟨⟨X.mod,S.kind,U,U,jD _,λy z c G M=>?_,λy d=>?_,λy c _ h=>?_,λ_=>l,Around.frames_deeper X.frames,.inr ⟨U,U⟩,λb z=>absurd z (g b),X.bs,X.bsz,λb _ _=>g b,λb z=>absurd z (g b),X.tT,X.frf⟩,
  rfl,X.bare,Un.kept C,⟨_,x.toInCall.ns,λi y v G M J=>?_⟩,λy c h=>⟨_,x.cell y c h⟩,X.hok.fresh (jD _),λy c h=>?_,λp D=>absurd (show p∈([]:List #[51])from D) #[8],X.hok.kept C,?_⟩
 ·exact name_of_addr x.apart (Yi G) (Yi M)
 ·have d:scope.names.lookup y=Z .cell\/scope.names.lookup y=Z .free:=d;rcases d with d|d
  ·exact Pn d
  ·exact absurd rfl (S.nofree _ (Yi d))
 ·exact JL (x.above y c (Yi h))
 ·have W:i<vs.length:=by
   unfold start at M;by_cases W:i<vs.length
   ·exact W
   ·rw[JF (by simpa using W)]at M;rw[List.getElem?_replicate]at M;split at M<;>cases M
  have m:vs[i]?=Z v:=by
   unfold start at M;rw[jq (by simpa using W),jU]at M;cases e:vs[i]? with
   | none=>rw[e]at M;cases M
   | some a=>rw[e]at M;cases M;rfl
  obtain⟨u,R,o⟩:=r.get m;have D:ps[i]?=Z y:=by rw[<-S.pre,List.getElem?_take_of_lt #[2]];exact G
  have j:ps.Nodup:=by rw[<-S.pre];exact S.nd.sublist (ZD _ _)
  exists u,o;rcases S.par y (JS D)with k|k
  ·exact .inl ⟨k,Li j D R k⟩
  ·obtain⟨c,e⟩:=Pn (n:=s.heap.objs.size+1) k;refine .inr ⟨.inl k,c,e,?_⟩;have q:=x.cell y c e;rw[Lg j D R (by show scope.names.lookup y≠_;rw[k];decide)]at q;exact q
 ·exact X.hok.fresh (JL (x.above y c (Yi h)))
 ·unfold start;show _=N.length;rw[jG,jQ,List.length_replicate];omega
theorem ac1{CX:OM}{k:Nat}{f:QX}{F kV p C g ct m:Value}{ps:List Str}{sp:Sp}(M:K.lookup f=Z ⟨m,od,.func (Yh name qual params body scope F kV p C an g ct),HM⟩)(D:Yr K g qual=true)(S:ax N ps scope)(len:∀vs H Q E,sp vs H Q E->vs.length=ps.length)(B:∀(A:Around) (outer:List Qg) (s:Qz) (H:Hp) (vs:List V) (Q:VK) (E:XK),cL k (A.deeper (envOfC qual scope s.heap.objs.size f g))->sp vs H Q E ->
   ∃t,K8 (bE CX P w K mg base N qual scope f g A outer s H E) body t/\t {nx:=λ_ H'=>Q .non H',rt:=Q} #[145] H):
  aR P w K mg base CX (k+1) f (Yh name qual params body scope F kV p C an g ct) ps sp:=by
 refine⟨len,λA outer s H i us vs Q E c X G r j=>?_⟩;have L:=len _ _ _ _ j;have l:K.In s.heap:=X.mod.kin.keeps λb o e=>(X.bs b o e).1;have h:s.heap.NoLimit:=X.mod.nolimit.keeps λb o e=>(X.bs b o e).1;have z:∀y∈ps.zip us,scope.names.lookup y.1=Z .local\/(scope.names.lookup y.1=Z .cell/\((cellsFrom #[11] scope.names []).lookup y.1).isSome=true):=λ⟨n,v⟩ R=>by
  rcases S.par n (zI R).1 with q|q
  ·exact .inl q
  ·exact .inr ⟨q,yh _ _ _ (.inl q)⟩
 refine qL c.depth (l _ _ M) rfl S.co S.gen rfl (xB l D) (G _ _ _ _ ?_);refine Wl S.kind z λenv W T x=>?_;subst W;refine⟨h.keeps x.toInCall.keep,codeAny_func ?_⟩;obtain⟨t,ht,hq⟩:=B A outer s H vs Q E (c.deeper _) j;have I:Inv (bE CX P w K mg base N qual scope f g A outer s H E) [] #[145] H T:=LG S c.hd X L r x;refine Wj (ht [] T #[145] H _ I hq) (λfl s' hs=>?_) λe s' hs=>hs;have a:∀{O:St} {H':Hp} {v:V} {u:Value},Inv (bE CX P w K mg base N qual scope f g A outer s H E) [] O H' s'->RelV v u->Q v H'->CE outer P w H s Q u s':=
  λ{O H' v u} J d q=>⟨v,H',J.os,J.bare,J.base,J.hok,d,q⟩
 cases fl with
 | ret u=>
  obtain⟨v,O,H',J,d,q⟩:=hs;exact a J d q
 | next=>
  obtain⟨O,H',J,q⟩:=hs;exact a (v:=V.non) (u:=Yc) J rfl q
 | brk=>
  obtain⟨_,_,_,q⟩:=hs;exact False.elim q
 | cont=>
  obtain⟨_,_,_,q⟩:=hs;exact False.elim q
section
variable{id T:String}{r:List V->Hp->VK->Prop}
def tCB(r:List V->Hp->VK->Prop)(t:TA):TE:=λσ H Q=>t σ H λvs H1=>r vs H1 Q
def aG(O:hX X #[174] r)(m:Gl X x)(N:X.mg x=Y)(M:qF x=Z #[174])(l:PA X (e::es) t)(R:x ≠ "__name__" :=by decide)(b:#[17]=false:=by decide)(a:qh (e::es) X.env=#[18]::qh es X.env:=by rfl)(c:#[20].any (·.1)=false:=by rfl):PE X #[16] (tCB r t):=by exists 2;refine WB (sH I m N M ?_ R b);exact yp (bR #[109] λus T ⟨vs,g,P,F,d⟩=>O y3 T σ g vs us Q P F d) a c
def aM(O:hX X (.type T) r)(m:Gl X x)(N:X.mg x=Y)(M:qF x=Z (.type T))(l:PA X (e::es) t)(R:x ≠ "__name__" :=by decide)(b:#[17]=false:=by decide)(a:qh (e::es) X.env=#[18]::qh es X.env:=by rfl)(c:#[20].any (·.1)=false:=by rfl):PE X #[16] (tCB r t):=by exists 2;refine WB (sH I m N M ?_ R b);exact Yl (bR #[109] λus d ⟨vs,g,P,F,f⟩=>O y3 d σ g vs us Q P F f) a c
end
end L2
namespace HT
open PySem PyProof.Rows
variable{prog:Qv}{w:World}{A:Around}{E Q:Value→Qz→Prop}{s:Qz}{v vl vu:Value}{sl:QX}{n:Nat}{items:Array Value}
section
open PySem.SeqAt
open PySem.AutoSeq1 (wpAny_loadPart')
open PySem.MeetsSeq PySem.MeetsSeq2 PySem.MeetsSeq3
end
section
def ml(n d:Nat):Option Int->Nat
 | none=>d
 | some v=>if v<0 then(v+(n:Int)).toNat else min v.toNat n
def akQ(n d:Nat)(j:d<=n)(o:Option Int):ml n d o<=n:=by
 cases o with
 | none=>exact j
 | some v=>
  show(if v<0 then(v+(n:Int)).toNat else min v.toNat n)<=n;by_cases M:v<0
  ·rw[if_pos M];omega
  ·rw[if_neg M];exact Nat.min_le_right _ _
def Y0(v:Int)(n d:Nat):(if v<0 then max (v+(n:Int)) 0 else min v (n:Int))=((ml n d (Z v):Nat):Int):=by
 show(if v<0 then max (v+(n:Int)) 0 else min v (n:Int))=(((if v<0 then(v+(n:Int)).toNat else min v.toNat n):Nat):Int);by_cases M:v<0
 ·simp only[if_pos M];omega
 ·simp only[if_neg M];omega
def SA(lo W:Option Int)(n:Nat):yX lo W 1 (n:Int)=(((ml n 0 lo:Nat):Int),((ml n n W:Nat):Int)):=by
 have G:¬ ((1:Int)<0):=by omega
 unfold yX;simp only[G,if_false];refine Prod.ext ?_ ?_
 ·cases lo with
  | none=>rfl
  | some v=>exact Y0 v n 0
 ·cases W with
  | none=>rfl
  | some v=>exact Y0 v n n
def U5(i j:Nat):yI (i:Int) (j:Int) 1=j-i:=by
 unfold yI;have G:(1:Int) > 0:=by omega
 simp only[G,if_true,Int.ediv_one];split<;>omega
def Ie{o:Option Int}{Q:Option Int->Qz->Prop}(p:Ql v o)(h:Q o s):wpAny #[5] A (xo v) Q E s:=by
 cases p with
 | none=>exact slicePart_none h
 | int i t=>exact slicePart_int h
def DH{lo W:Option Int}{Q:Int×Int×Nat->Qz->Prop}(hs:s.heap.IsSliceOf sl vl vu .none)(pl:Ql vl lo)(c:Ql vu W)(h:Q (((ml n 0 lo:Nat):Int),1,ml n n W-ml n 0 lo) s):wpAny #[5] A (XG (.ref sl) (pure (n:Int))) Q E s:=by
 obtain⟨os,b,a,e⟩:=id hs;unfold XG GJ;refine WI (WI (WU b e (x:=vl) rfl (WI (WU b e (x:=vu) rfl (WI (WU b e (x:=.none) rfl (Wv ?_)))))));refine WI (slicePart_none ?_);show wpAny _ _ (if ((1:Int)==0)=true then _ else _) _ _ s;rw[if_neg #[10]];refine WI (Ie pl (WI (Ie c (WI (Wv ?_)))));show wpAny _ _ (match yX lo W 1 (n:Int)with|(lo,W)=>pure (lo,(1:Int),yI lo W 1)) _ _ s
 rw[SA lo W n];show wpAny _ _ (pure (((ml n 0 lo:Nat):Int),(1:Int),yI ((ml n 0 lo:Nat):Int) ((ml n n W:Nat):Int) 1)) _ _ s;rw[U5];exact Wv h
def aes(xs:Array Value)(i k:Nat):((ji k).filterMap λ(m:Nat)=>xs[((i:Int)+(m:Int)*1).toNat]?).toArray=((xs.toList.drop i).take k).toArray:=by
 have e:(λ(m:Nat)=>xs[((i:Int)+(m:Int)*1).toNat]?)=λm=>xs[i+m]?:=by
  funext m;have:((i:Int)+(m:Int)*1).toNat=i+m:=by omega
  rw[this]
 rw[e];have:=pick_run xs i k;rw[List.filterMap_map]at this;have g:((λx=>xs[x]?) ∘ λx=>i+x)=λm=>xs[i+m]?:=rfl;rw[g]at this;rw[this]
def BX{t:QX}{lo W:Option Int}(d:Qm s.heap t items)(hs:s.heap.IsSliceOf sl vl vu .none)(pl:Ql vl lo)(c:Ql vu W)(G:¬ (ml items.size 0 lo=0/\ml items.size items.size W=items.size))(h:Q #[23] {s with heap:=s.heap.push {cls:=.type "tuple",data:=.seq ((items.toList.drop (ml items.size 0 lo)).take #[63]).toArray} })(hsz:items.size<=sizeLine):wpAny #[5] A (getItem (.ref t) (.ref sl)) Q E s:=by
 have g:sizeOk (.seq ((items.toList.drop (ml items.size 0 lo)).take #[63]).toArray):=by show((items.toList.drop (ml items.size 0 lo)).take #[63]).toArray.size<=sizeLine;rw[jP,jT,ZJ,jg];omega
 have f:ml items.size items.size W<=items.size:=akQ _ _ (jD _) W;obtain⟨os,b,a,e⟩:=id hs;have i:s.TypeIs (.ref sl) "slice" :=⟨os,b,a⟩;unfold getItem
 try with_reducible refine WZ ?_
 first|refine WI (Wv ?_)|skip
 refine WI (wpAny_sequenceKey d.typeIs #[10] ?_);refine WI (WK (name:=Str.ofString "__getitem__") d.typeIs ym
  (WL ym d.typeIs entry_tuple_getitem ?_ (args_tuple_getitem _ _)))
 show wpAny _ _ (XH (.ref t)>>=_) _ _ s;refine WI (tupleItemsOf_ d ?_);refine WI (YT i ?_);rw[if_pos #[10]];refine WI (DH hs pl c ?_);have j:¬ ((((ml items.size 0 lo:Nat):Int)==0&&(1:Int)==1&&#[63]==items.size)=true):=by intro q;rw[Ja,Ja]at q;have O:((ml items.size 0 lo:Nat):Int)=0:=eq_of_beq q.1.1;have n:ml items.size items.size W-ml items.size 0 lo=items.size:=eq_of_beq q.2;exact G ⟨by omega,by omega⟩
 show wpAny _ _ (if (((ml items.size 0 lo:Nat):Int)==0&&(1:Int)==1&&#[63]==items.size)=true then _ else _) _ _ s;rw[if_neg j,aes]
 first
  | exact WI (m:=yL _) (Wm (Wv ⟨_,rfl,Wv h⟩) g)
  | exact WI (m:=yL _) (Wm (WI (Wv (Wv ⟨_,rfl,Wv h⟩))) g)
  | exact WI (WI (m:=yL _) (Wm (Wv (Wv ⟨_,rfl,Wv h⟩)) g))
  | exact WI (WI (m:=yL _) (Wm (Wv ⟨_,rfl,Wv h⟩) g))
end
end HT
namespace L2
open PySem PySem.Spec PyProof.Rows
variable{X:Cx}{e:Expr}{te:TE}{pos:Pos}{α:Type}{n j t':Nat}{i:Int}{r:R2}{y3:List (QX×Obj)}{σ:St}{H:Hp}{s:Qz}{p:QX}{xs ys:List V}{aN its' us:List Value}{A:Around}{y x:V}{u v:Value}{es:List Expr}{t:TA}{name:Str}{prog:Qv}{w:World}
abbrev TO:=St->Hp->(Option Int->Hp->Prop)->Prop
def PO(X:Cx)(e:Option Expr)(t:TO):Prop:=
 ∀(y3:List #[51]) (s:Qz) (σ:St) (H:Hp) (Q:Option Int->Hp->Prop),Inv X y3 σ H s->t σ H Q ->
  wpAny #[4] X.A (evalPart e X.env) (λu s'=>∃o H',Inv X y3 σ H' s'/\Ql u o/\Q o H') X.xe s
def ahD:TO:=λ_ H Q=>Q Y H
inductive ahF (Q:Option Int->Hp->Prop) (x:V) (H1:Hp):Prop
 | mk (i:_) (_:x=.int i) (_:Q (Z i) H1)
def aoW(t:TE):TO:=λσ H Q=>t σ H (ahF Q)
section
variable{lo hi:Option Expr}{tl th:TO}{p2:Pos}
def EX:PO X Y ahD:=by exists 2;rw[evalPart_none];exact Wv ⟨Y,H,I,.none,h⟩
def EY(h:PE X e te):PO X (Z e) (aoW te):=by intro y3 s σ H Q I G;rw[evalPart_some];refine bR (h y3 s σ H _ I G) λu T ⟨x,g,P,F,O⟩=>?_;obtain⟨i,rfl,q⟩:=O;exists 9;exact⟨Z i,g,P,.int i t,q⟩
def SlR(X:Cx)(r:V->Option Int->Option Int->Hp->VK->Prop):Prop:=
 ∀(y3:List #[51]) (s:Qz) (σ:St) (H:Hp) (x:V) (v vl vu:Value) (lo hi:Option Int) (sl:QX) (Q:VK),Inv X y3 σ H s->RelV x v->s.heap.IsSliceOf sl vl vu .none->Ql vl lo->Ql vu hi->r x lo hi H Q ->
  ∃T id,typeLookup (.type T) "__getitem__" = pure (Z #[174])/\s.TypeIs v T/\wpAny #[4] X.A (getItem v (.ref sl)) #[90] X.xe s
def tSl(r:V->Option Int->Option Int->Hp->VK->Prop)(te:TE)(tl th:TO):TE:=λσ H Q=>te σ H λx H1=>tl σ H1 λl H2=>th σ H2 λu H3=>r x l u H3 Q
def Cd{r:V->Option Int->Option Int->Hp->VK->Prop}(S:SlR X r)(R:PE X e te)(L:PO X lo tl)(a:PO X hi th):PE X (.Subscript e (.Slice lo hi Y p2) pos) (tSl r te tl th):=by exists 2;refine qB (bR #[115] λv c ⟨x,g,P,F,O⟩=>?_);refine wpAny_Slice (bR (L y3 c σ g _ P O) λf j ⟨l,G,E,n,d⟩=>bR (a y3 j σ G _ E d) λy J ⟨u,o,i,k,p⟩=>?_);rw[evalPart_none];refine Wv ?_;have m:Inv X y3 σ o {J with heap:=J.heap.push {cls:=.type "slice",data:=.fields #[f,y,.none]} }:=i.kept (t':=J.toks) λb C q=>jA _ q;obtain⟨T,id,t,z,B⟩:=S y3 {J with heap:=J.heap.push {cls:=.type "slice",data:=.fields #[f,y,.none]} } σ o x v f y l u J.heap.objs.size Q m F (gF ..) n k p;show wpAny #[4] X.A (subscriptTail e (.Slice lo hi Y p2) v (.ref J.heap.objs.size)) #[90] X.xe {J with heap:=J.heap.push {cls:=.type "slice",data:=.fields #[f,y,.none]} };exact tail_any (ops:=[.ref J.heap.objs.size,v]) z t B #[25]
def Pq(xs:List V)(lo hi:Option Int):List V:=(xs.drop (HT.ml xs.length 0 lo)).take (HT.ml xs.length xs.length hi-HT.ml xs.length 0 lo)
def DV(xs:List V)(lo hi:Option Int):(Pq xs lo hi).length<=xs.length:=by unfold Pq;rw[jT,ZJ];omega
inductive atl (K:YW) (x:V) (lo:Option Int) (hi:Option Int) (H:Hp) (Q:VK):Prop
 | mk (a:_) (xs:_) (_:x=.ref a) (_:lU K H a xs) (_:¬ (HT.ml xs.length 0 lo=0/\HT.ml xs.length xs.length hi=xs.length)) (_:∀p,H p=Y->Q (.ref p) (upd H p (.tup (Pq xs lo hi))))
def akS:SlR X (atl X.K):=by
 intro y3 s σ H x v f y lo hi P Q I F hs n c h;obtain⟨a,xs,rfl,J,G,q⟩:=h;cases F;obtain⟨aN,r,d,C⟩:=I.tuple J;have S:aN.toArray.size=xs.length:=by rw[jP];exact r.length.symm
 exists "tuple",_,PyProof.Rows.slot_tuple_getitem.lookup,d.typeIs;refine HT.BX d hs n c (by rw[S];exact G) ?_ (by rw[S];exact C);rw[S];refine⟨.ref s.heap.objs.size,_,I.laid (t':=s.toks) (o:=.tup (Pq xs lo hi)) (λb t q=>jA _ q) (jD _) ?_,U,q _ #[60]⟩;exact⟨jW (DV xs lo hi) C,_,(r.drop (HT.ml xs.length 0 lo)).take (HT.ml xs.length xs.length hi-HT.ml xs.length 0 lo),IsTup.new _ _⟩
end
def ixN(n:Nat)(i:Int):Option Nat:=if 0<=i then(if i<n then Z i.toNat else Y)else if -(n:Int)<=i then Z (i+n).toNat else Y
def tW(xs:List α)(i:Int):Option α:=(ixN xs.length i).bind λj=>xs[j]?
def aab(h:ixN n i=Z j):seqIndex? i n=Z j/\j<n/\-(n:Int)<=i/\i<n:=by
 unfold ixN at h;by_cases I:0<=i
 ·rw[if_pos I]at h;by_cases G:i<n
  ·rw[if_pos G]at h;have e:i.toNat=j:=Option.some.inj h;exact⟨by rw[qf I G,e],by omega,by omega,G⟩
  ·rw[if_neg G]at h;cases h
 ·rw[if_neg I]at h;by_cases G : -(n:Int)<=i
  ·rw[if_pos G]at h;have e:(i+n).toNat=j:=Option.some.inj h;exact⟨by rw[seqIndex_neg #[2] G,e],by omega,G,by omega⟩
  ·rw[if_neg G]at h;cases h
def ME{xs:List α}{v:α}(h:tW xs i=Z v):∃j,seqIndex? i xs.length=Z j/\xs[j]?=Z v/\j<xs.length/\-(xs.length:Int)<=i/\i<xs.length:=by
 unfold tW at h;cases e:ixN xs.length i with
 | none=>rw[e]at h;cases h
 | some j=>
  rw[e]at h;obtain⟨G,M,J,k⟩:=aab e;exact⟨j,G,h,M,J,k⟩
def Ah{xs:List α}{v:α}(h:xs[j]?=Z v):tW xs (j:Int)=Z v:=by
 have f:j<xs.length:=(jb.mp h).1;have e:ixN xs.length (j:Int)=Z j:=by unfold ixN;rw[if_pos #[2],if_pos #[2]];simp
 unfold tW;rw[e];exact h
def acI(xs:List α)(v:α):tW (xs++[v]) (-1)=Z v:=by
 have L:(xs++[v]).length=xs.length+1:=by simp
 have e:ixN (xs++[v]).length (-1)=Z xs.length:=by unfold ixN;rw[L,if_neg #[10],if_pos #[2]];congr 1;omega
 unfold tW;rw[e];show(xs++[v])[xs.length]?=Z v;simp
def afM(b:Expr):Prop:=∀o i,subscripted b false o i=operate [o,i] (getItem o i)
def IxR(X:Cx)(r:R2):Prop:=
 ∀(value slice:Expr) (y3:List #[51]) (s:Qz) (σ:St) (H:Hp) (x y:V) (v u:Value) (Q:VK),Inv X y3 σ H s->RelV x v->RelV y u->r x y H Q ->
  subscripted slice false v u=operate [v,u] (getItem v u)->wpAny #[4] X.A (subscriptTail value slice v u) #[90] X.xe s
def MtR(X:Cx)(id:String)(r:V->List V->Hp->VK->Prop):Prop:=
 ∀(y3:List #[51]) (s:Qz) (σ:St) (H:Hp) (x:V) (xs:List V) (v:Value) (us:List Value) (Q:VK),Inv X y3 σ H s->RelV x v->Vals xs us->r x xs H Q ->
  wpAny #[4] X.A (call #[174] (v::us)) #[90] X.xe s
section
variable{a b:Expr}{ta tb:TE}
def aB(S:IxR X r)(l:PE X a ta)(B:PE X b tb)(hs:afM b):PE X (.Subscript a b pos) (tOp r ta tb):=by exists 2;exact qB (aiV l B I h λv u j x y G E F N q=>S a b y3 j σ G x y v u Q E F N q (hs _ _))
inductive aos (K:YW) (x:V) (y:V) (H:Hp) (Q:VK):Prop
 | mk (p:_) (xs:_) (i:_) (v:_) (_:x=.ref p) (_:y=.int i) (_:mw K H p xs) (_:tW xs i=Z v) (_:Q v H)
inductive akG (K:YW) (x:V) (y:V) (H:Hp) (Q:VK):Prop
 | mk (p:_) (xs:_) (i:_) (v:_) (_:x=.ref p) (_:y=.int i) (_:lU K H p xs) (_:tW xs i=Z v) (_:Q v H)
inductive ath (x:V) (y:V) (H:Hp) (Q:VK):Prop
 | mk (z:_) (i:_) (c:_) (_:x=.str z) (_:y=.int i) (_:z.length<=sizeLine) (_:tW z.cps.toList i=Z c) (_:Q (.str ⟨#[c]⟩) H)
def cX:IxR X (aos X.K):=by
 intro d b y3 s σ H x y v u Q I F N h hs;obtain⟨p,xs,i,z,rfl,rfl,W,R,q⟩:=h;cases F;obtain⟨t,rfl⟩:=N;obtain⟨aN,r,n,C⟩:=I.list W;obtain⟨j,G,M,J,k,V⟩:=ME R;obtain⟨w,m,B⟩:=r.get M;have L:=r.length;have g:=Bg;have a:EP X y3 σ Q w s:=⟨z,H,I,B,q⟩;by_cases c:0<=i
 ·have f:i.toNat=j:=by rw[qf c V]at G;exact Option.some.inj G
  exact item_listR n.isList c #[2] (by rw[f];simpa using m) a hs
 ·have f:(i+(aN.toArray.size:Int)).toNat=j:=by rw[seqIndex_neg #[2] k]at G;rw[jP,<-L];exact Option.some.inj G
  exact qp (x:=w) n.isList.typeIs slot_list_getitem.lookup
   (wpAny_getItem_list_neg (Q:=λr e=>r=w/\EP X y3 σ Q r e) n.isList #[2] (by rw[jP]<;>omega) #[2] (by rw[f];simpa using m) ⟨rfl,a⟩) hs
def aE:IxR X (akG X.K):=by
 intro d b y3 s σ H x y v u Q I F N h hs;obtain⟨p,xs,i,z,rfl,rfl,W,R,q⟩:=h;cases F;obtain⟨t,rfl⟩:=N;obtain⟨aN,r,n,C⟩:=I.tuple W;obtain⟨j,G,M,J,k,V⟩:=ME R;obtain⟨w,m,B⟩:=r.get M;have L:=r.length;have e:=Bg;have a:EP X y3 σ Q w s:=⟨z,H,I,B,q⟩;exact qp (x:=w) n.typeIs slot_tuple_getitem.lookup
  (getItem_tuple (j:=j) (Q:=λr c=>r=w/\EP X y3 σ Q r c) n #[2] #[2] (by rw[jP,<-L];exact G) (by simpa using m) ⟨rfl,a⟩) hs
def adx:IxR X ath:=by
 intro d b y3 s σ H x y v u Q I F N h hs;obtain⟨z,i,c,rfl,rfl,C,R,q⟩:=h;exists 9;exists 32;obtain⟨j,G,M,J,k,V⟩:=ME R;have L:z.cps.toList.length=z.length:=by simp[Str.length]
 rw[L]at G k V;have a:=Bg;exact tail_any (qx s z t) slot_str_getitem.lookup (getItem_str (c:=c) (by have T:decide (i < -(2^63:Int))=false:=decide_eq_false #[2];have g:decide (i ≥ 2^63)=false:=decide_eq_false #[2];rw[T,g,Bool.or_false]) (by rw[G];simpa using M) ⟨.str ⟨#[c]⟩,H,I.tok _,⟨_,rfl⟩,q⟩) hs
def TQ(aN:List Value)(n j:Nat)(u:Value):Obj.mapSeq (·.setIfInBounds j u) {cls:=.type "list",data:=.seq aN.toArray n}={cls:=.type "list",data:=.seq (aN.set j u).toArray n}:=by simp[Obj.mapSeq]
def Inv.lst{y3:List #[51]}{σ:St}{H:Hp}{s:Qz}{p:QX}{xs:List V}(I:Inv X y3 σ H s)(h:H p=Z #[165]):
  ∃(aN:List Value) (n:Nat),Vals xs aN/\s.heap.get? p=Z {cls:=.type "list",data:=.seq aN.toArray n}/\xs.length<=sizeLine:=by
 obtain⟨z,aN,n,r,e⟩:=I.hok p _ h;exact⟨aN,n,r,e,z⟩
def Inv.akb{F:Nat}{f:Obj->Obj}(I:Inv X y3 σ H s)(h:H p=Z #[165])(V:s.heap.get? p=Z {cls:=.type "list",data:=.seq aN.toArray n})(l:f {cls:=.type "list",data:=.seq aN.toArray n}={cls:=.type "list",data:=.seq its'.toArray F})(r:Vals ys its')(hz:ys.length<=sizeLine)(t:Nat):
  Inv X y3 σ (upd H p #[76]) {s with heap:=s.heap.update p f,toks:=t}:=by
 have e:(s.heap.update p f).get? p=Z {cls:=.type "list",data:=.seq its'.toArray F}:=by rw[jk f V (by rw[l]<;>rfl),l]
 refine I.write (x:=p) (e:=p) (by rw[h];trivial) #[93] (λb u B q=>(jm _ _ (Ne.symm B)).trans q) ⟨_,e⟩ ?_;exact⟨hz,its',F,r,e⟩
inductive aou (o:V) (i:V) (v:V) (H:Hp) (Q:Hp->Prop):Prop
 | mk (p:_) (xs:_) (k:_) (j:_) (_:o=.ref p) (_:i=.int k) (_:H p=Z #[165]) (_:ixN xs.length k=Z j) (_:Q (upd H p (.lst (xs.set j v))))
def set_list:amq X aou:=by
 intro y3 s σ H o i v m z u Q I c e f h;obtain⟨p,xs,k,j,rfl,rfl,D,g,q⟩:=h;cases c;obtain⟨t,rfl⟩:=e;obtain⟨aN,n,r,V,l⟩:=I.lst D;obtain⟨G,M,J,a⟩:=aab g;have L:=r.length;have R:=Bg;have d:Inv X y3 σ (upd H p (.lst (xs.set j v))) {s with heap:=s.heap.update p (Obj.mapSeq (·.setIfInBounds j u))}:=
  I.akb D V (TQ aN n j u) (r.set f j) (by rw[ze];exact l) s.toks
 by_cases b:0<=k
 ·have C:k.toNat=j:=by rw[qf b a]at G;exact Option.some.inj G
  exact PySem.W.ki_setAt V b #[2] (by rw[jP,<-L];exact a) (by rw[C];exact⟨_,d,q⟩)
 ·have C:(k+(aN.toArray.size:Int)).toNat=j:=by rw[seqIndex_neg #[2] J]at G;rw[jP,<-L];exact Option.some.inj G
  exact PySem.W.ki_setBack V #[2] (by rw[jP,<-L];exact J) #[2] (by rw[C];exact⟨_,d,q⟩)
def Oy(lo W:Option Int)(n:Nat):(sliceBounds lo W Y n).1=((HT.ml n 0 lo:Nat):Int)/\(sliceBounds lo W Y n).2.1=((HT.ml n n W:Nat):Int)/\(sliceBounds lo W Y n).2.2=1:=by
 refine⟨?_,?_,U⟩
 ·cases lo with
  | none=>simp[sliceBounds,HT.ml]
  | some i=>
   simp only[sliceBounds,HT.ml,Zx,show(1:Int) > 0 by decide,if_true];by_cases h:i<0
   ·simp only[h,if_true]<;>omega
   ·simp only[h,if_false]<;>omega
 ·cases W with
  | none=>simp[sliceBounds,HT.ml]
  | some i=>
   simp only[sliceBounds,HT.ml,Zx,show(1:Int) > 0 by decide,if_true];by_cases h:i<0
   ·simp only[h,if_true]<;>omega
   ·simp only[h,if_false]<;>omega
def J6(aN:List Value)(lo W:Option Int):slicePick aN.toArray lo W Y=((aN.drop (HT.ml aN.length 0 lo)).take (HT.ml aN.length aN.length W-HT.ml aN.length 0 lo)).toArray:=by obtain⟨G,M,J⟩:=Oy lo W aN.toArray.size;unfold slicePick;rw[G,M,J];simp only[sliceRange_one,pick_run,jP]<;>rfl
inductive atk (K:YW) (x:V) (lo:Option Int) (hi:Option Int) (H:Hp) (Q:VK):Prop
 | mk (a:_) (xs:_) (_:x=.ref a) (_:mw K H a xs) (_:∀p,H p=Y->Q (.ref p) (upd H p (.lst (Pq xs lo hi))))
def ahp:SlR X (atk X.K):=by intro y3 s σ H x v f y lo W P Q I F hs n c h;obtain⟨a,xs,rfl,J,q⟩:=h;cases F;obtain⟨aN,r,d,C⟩:=I.list J;have S:=r.length;exists "list",_,slot_list_getitem.lookup,d.isList.typeIs;refine wpAny_getItem_list_slice d.isList hs n c .none #[8] ?_ (by rw[jP]<;>omega);rw[J6,<-S];refine⟨.ref s.heap.objs.size,_,I.laid (t':=s.toks) (o:=.lst (Pq xs lo W)) (λb t q=>jA _ q) (jD _) ?_,U,q _ #[60]⟩;exact⟨jW (DV xs lo W) C,_,0,(r.drop (HT.ml xs.length 0 lo)).take (HT.ml xs.length xs.length W-HT.ml xs.length 0 lo),jF _ rfl⟩
def tF:V->Bool
 | .non=>true
 | .bl _=>true
 | .int _=>true
 | .str _=>true
 | _=>false
def S8:V->V->Bool
 | .non,.non=>true
 | .bl a,.bl b=>a==b
 | .bl a,.int b=>(if a then 1 else 0)==b
 | .int a,.bl b=>a==(if b then 1 else 0)
 | .int a,.int b=>a==b
 | .str a,.str b=>a==b
 | _,_=>false
def acX(N:RelV y u)(F:RelV x v)(d:tF y=true)(c:tF x=true):yO A s u v (S8 y x):=by
 cases y with
 | non=>
  cases N;cases x with
  | non=>cases F;exact Xa _
  | bl b=>cases F;exact Gp b
  | int b=>obtain⟨t,rfl⟩:=F;exact Gv b t
  | str b=>obtain⟨t,rfl⟩:=F;exact Gw b t
  | _=>exact absurd (show false=true from c) jY
 | bl a=>
  cases N;cases x with
  | non=>cases F;exact Gq a
  | bl b=>cases F;exact Gr a b
  | int b=>obtain⟨t,rfl⟩:=F;exact Gx a b t
  | str b=>obtain⟨t,rfl⟩:=F;exact Gy a b t
  | _=>exact absurd (show false=true from c) jY
 | int a=>
  exists 32;cases x with
  | non=>cases F;exact Gz a t'
  | bl b=>cases F;exact gA a t' b
  | int b=>obtain⟨t,rfl⟩:=F;exact xC a t' b t
  | str b=>obtain⟨t,rfl⟩:=F;exact Xv a t' b t
  | _=>exact absurd (show false=true from c) jY
 | str a=>
  exists 32;cases x with
  | non=>cases F;exact gB a t'
  | bl b=>cases F;exact gC a t' b
  | int b=>obtain⟨t,rfl⟩:=F;exact Xw a t' b t
  | str b=>obtain⟨t,rfl⟩:=F;exact xD a t' b t
  | _=>exact absurd (show false=true from c) jY
 | _=>exact absurd (show false=true from d) jY
def eqU(x:V)(u:Value):Bool:=match u with
 | .none=>S8 .non x
 | .bool b=>S8 (.bl b) x
 | .int i _=>S8 (.int i) x
 | .str z _=>S8 (.str z) x
 | _=>false
def acY(r:RelV y u)(f:tF y=true):eqU x u=S8 y x:=by
 cases y with
 | non=>cases r;rfl
 | bl b=>cases r;rfl
 | int i=>obtain⟨t,rfl⟩:=r;rfl
 | str z=>obtain⟨t,rfl⟩:=r;rfl
 | _=>exact absurd (show false=true from f) jY
theorem MD:∀{xs:List V} {us:List Value},Vals xs us->xs.all tF=true->us.any (eqU x)=xs.any λy=>S8 y x
 | _,_,.nil,_=>rfl
 | y::xs,u::us,.cons r t,f=>by rw[Za,Ja]at f;rw[zV,zV,acY r f.1,MD t f.2]
theorem HF(F:RelV x v)(c:tF x=true):∀{xs:List V} {us:List Value},Vals xs us->xs.all tF=true->∀u∈us,yO A s u v (eqU x u)
 | _,_,.nil,_=>λu R=>by cases R
 | y::xs,u::us,.cons r t,f=>λK R=>by
  rw[Za,Ja]at f;rcases jL.mp R with rfl|R
  ·rw[acY r f.1];exact acX r F f.1 c
  ·exact HF F c t f.2 K R
def inV(x:V)(xs:List V):Bool:=xs.any λy=>S8 y x
inductive rIn (K:YW) (neg:Bool) (x:V) (y:V) (H:Hp) (Q:VK):Prop
 | mk (p:_) (xs:_) (_:y=.ref p) (_:(mw K H p xs\/lU K H p xs)) (_:tF x=true) (_:xs.all tF=true) (_:Q (.bl (if neg then !inV x xs else inV x xs)) H)
def eX:BH X (qO .In) (rIn X.K false):=by
 exists 8;obtain⟨p,xs,rfl,W,c,fs,q⟩:=h;cases N;rcases W with W|W
 ·obtain⟨aN,r,n,C⟩:=I.list W;refine SeqAt.in_listAt (eqU x) n.isList (λw G=>HF F c r fs w #[161]) ⟨.bl _,H,I,U,?_⟩;rw[show aN.toArray.any (eqU x)=aN.any (eqU x) by simp,MD r fs];exact q
 ·obtain⟨aN,r,n,C⟩:=I.tuple W;refine SeqAt.in_tupleAt (eqU x) n (λw G=>HF F c r fs w #[161]) ⟨.bl _,H,I,U,?_⟩;rw[show aN.toArray.any (eqU x)=aN.any (eqU x) by simp,MD r fs];exact q
inductive FV (K0:YW) (xs:List V) (H:Hp) (Q:VK):Prop
 | mk (p:_) (ys:_) (_:xs=[.ref p]) (_:(mw K0 H p ys\/lU K0 H p ys)) (_:Q (.int ys.length) H)
def bw:hX X (.builtin "len") (FV X.K):=by
 intro y3 s σ H xs us Q I r h;obtain⟨p,ys,rfl,W,q⟩:=h;exists 11;cases F;have R:=Bg;rcases W with W|W
 ·obtain⟨aN,D,n,C⟩:=I.list W;have S:=D.length;exact Xq n.isList (by simp only[jP]<;>omega) ⟨.int ys.length,H,I.tok _,⟨s.toks+1,by rw[jP,S]⟩,q⟩
 ·obtain⟨aN,D,n,C⟩:=I.tuple W;have S:=D.length;exact len_tuple n (by simp only[jP]<;>omega) ⟨.int ys.length,H,I.tok _,⟨s.toks+1,by rw[jP,S]⟩,q⟩
inductive Et (K0:YW) (xs:List V) (H:Hp) (Q:VK):Prop
 | mk (p:_) (ys:_) (_:xs=[.ref p]) (_:((mw K0 H p ys/\∀l,H l=Y->Q #[181] (upd H l (.tup ys)))\/(lU K0 H p ys/\Q (.ref p) H)))
def aK:hX X #[179] (Et X.K):=by
 intro y3 s σ H xs us Q I r h;obtain⟨p,ys,rfl,h⟩:=h;exists 11;cases F;rcases h with⟨W,q⟩|⟨W,q⟩
 ·obtain⟨aN,D,n,C⟩:=I.list W;have S:=D.length;refine call_tuple_list n.isList (λy c=>?_) (by simp only[jP]<;>omega);have P:Inv X y3 σ H {s with heap:=y}:=I.kept (t':=s.toks) c;have E:Inv X y3 σ (upd H y.objs.size (.tup ys)) {s with heap:=y.push {cls:=.type "tuple",data:=.seq aN.toArray} }:=
   P.laid (t':=s.toks) (λb o e=>jA _ e) (jD _) (show bp X.prog X.w _ _ _ (.tup ys)from⟨C,aN,D,IsTup.new _ _⟩)
  exact⟨.ref y.objs.size,_,E,U,q _ (P.hok.fresh (jD _))⟩
 ·obtain⟨aN,D,n,C⟩:=I.tuple W;exact call_tuple_same n ⟨.ref p,H,I,U,q⟩
def tyV(K:YW)(T:String)(x:V)(H:Hp):Prop:=match x with
 | .str _=>T = "str"
 | .int _=>T = "int"
 | .ref p=>(T = "list" /\ ∃xs,mw K H p xs)\/(T = "tuple" /\ ∃o,K.lookup p=Z o/\o.cls=.type "tuple" /\ o.dict=Y) \/
   (T = "dict" /\ ((∃kvs,H p=Z #[57])\/∃kvs,H p=Z (.dT kvs)))\/(T = "set" /\ ∃S n,H p=Z (.set S n))
 | _=>False
theorem afd{T:String}(I:Inv X y3 σ H s)(r:RelV x v)(ty:tyV X.K T x H):
  s.TypeIs v T/\∀a,v=.ref a->∃b,s.heap.get? a=Z b/\b.dict=Y:=by
 cases x with
 | str z=>
  obtain⟨t,rfl⟩:=r;cases(show T = "str" from ty);exact⟨qx s z t,λ_ e=>nomatch e⟩
 | int i=>
  obtain⟨t,rfl⟩:=r;cases(show T = "int" from ty);exact⟨typeIs_int s i t,λ_ e=>nomatch e⟩
 | ref p=>
  cases r;rcases ty with⟨rfl,xs,W⟩|⟨rfl,o,C,O,j⟩|⟨rfl,C⟩|⟨rfl,S,n,C⟩
  ·obtain⟨aN,_,d,_⟩:=I.list W;refine⟨d.isList.typeIs,λa e=>?_⟩;cases e;obtain⟨o,n,e,c,j,_⟩:=d;exact⟨o,e,j⟩
  ·refine⟨⟨o,I.pW p o C,O⟩,λa e=>?_⟩;cases e;exact⟨o,I.pW _ o C,j⟩
  ·have z:∃o,s.heap.get? p=Z o/\o.ExactDict:=by
    rcases C with⟨B,C⟩|⟨B,C⟩
    ·obtain⟨_,_,_,_,o,_,_,e,ex,_⟩:=I.hok p _ C;exact⟨o,e,ex⟩
    ·obtain⟨_,_,_,_,o,_,_,e,ex,_⟩:=I.hok p _ C;exact⟨o,e,ex⟩
   obtain⟨o,e,ex⟩:=z;refine⟨⟨o,e,ex.1⟩,λa g=>?_⟩;cases g;exact⟨o,e,ex.2.1⟩
  ·obtain⟨o,_,_,_,e,ex,_⟩:=I.hok p _ C;refine⟨⟨o,e,ex.1⟩,λa g=>?_⟩;cases g;exact⟨o,e,ex.2.1⟩
 | _=>exact False.elim ty
structure ak0(K:YW)(T:String)(r:V->List V->Hp->VK->Prop)(Q:VK)(x:V)(H1:Hp):Prop where
 h0:tyV K T x H1
 h1:r x [] H1 Q
def aoL(K:YW)(T:String)(r:V->List V->Hp->VK->Prop)(to:TE):TE:=λσ H Q=>to σ H (ak0 K T r Q)
structure aoM(K:YW)(T:String)(r:V->List V->Hp->VK->Prop)(t:TA)(σ:St)(Q:VK)(x:V)(H1:Hp):Prop where
 h0:tyV K T x H1
 h1:t σ H1 λxs H2=>r x xs H2 Q
def tBM(K:YW)(T:String)(r:V->List V->Hp->VK->Prop)(to:TE)(t:TA):TE:=λσ H Q=>to σ H (aoM K T r t σ Q)
variable{o:Expr}{to:TE}{y4 dv:Pos}{T id:String}{r:V->List V->Hp->VK->Prop}
def Dr(p:Qu T)(y:Slot T name id)(b:typeOf #[174]=pure (.type "method_descriptor"))(N:MtR X id r)(V:PE X o to)(c:attributeBase o name X.env (eval o X.env)=eval o X.env:=by rfl)(d:(y4.endLine==dv.line)=true:=by rfl):PE X (.Call (.Attribute o name y4) [] [] dv) (aoL X.K T r to):=by exists 2;refine wpAny_Call_method0_late c d (bR #[103] λv a ⟨x,g,P,F,ty,O⟩=>?_);obtain⟨G,M⟩:=afd P F ty;exact⟨T,id,p,y,b,G,M,Ys rfl (PySem.evalArgs_none (N y3 a σ g x [] v [] Q P F .nil O))⟩
def dN(p:Qu T)(y:Slot T name id)(b:typeOf #[174]=pure (.type "method_descriptor"))(N:MtR X id r)(V:PE X o to)(l:PA X (e::es) t)(c:attributeBase o name X.env (eval o X.env)=eval o X.env:=by rfl)(f:((backTo dv (qh (e::es) X.env)).all (λx=>!x.1)&&(backToKw dv (keywordEach [] X.env)).all (λx=>x.1.isSome)
   && decide ((e::es).length+([]:List Qq).length+(if ([]:List Qq).isEmpty then 0 else 1)<30))=true:=by rfl)(d:(y4.endLine==dv.line)=true:=by rfl)(hs:qh (e::es) X.env=#[18]::qh es X.env:=by rfl)(k:(backTo dv (qh es X.env)).any (·.1)=false:=by rfl):
  PE X (.Call (.Attribute o name y4) (e::es) [] dv) (tBM X.K T r to t):=by
 exists 2;refine wpAny_Call_method_late c f d rfl (bR #[103] λv g ⟨x,i,P,F,ty,O⟩=>?_);obtain⟨G,M⟩:=afd P F ty;exists T,id,p,y,b,G,M;have B:=l dv y3 g σ i _ P O;rw[hs]at B ⊢;refine Ys (by show(false||(backTo dv (qh es X.env)).any (·.1))=false;rw[k]<;>rfl) (yB ?_);exact bR B λus j ⟨n,q,E,u,w⟩=>N y3 j σ q x n v us Q E F u w
/- xs.append(e),list.index on a an5 tuple .. are MtR facts of 06m -/
end
def MtM(X:Cx)(id:String)(r:V->List V->Hp->VK->Prop):Prop:=
 ∀(y3:List #[51]) (s:Qz) (σ:St) (H:Hp) (x:V) (xs:List V) (v:Value) (us:List Value) (Q:VK),Inv X y3 σ H s->RelV x v->Vals xs us->r x xs H Q ->
  wpAny #[4] X.A (call #[174] (v::us)) #[90] X.xe s
theorem Vals.one:∀{x:V} {us:List Value},Vals [x] us->∃u,us=[u]/\RelV x u
 | _,_,.cons r .nil=>⟨_,rfl,r⟩
theorem Vals.two:∀{x y:V} {us:List Value},Vals [x,y] us->∃u v,us=[u,v]/\RelV x u/\RelV y v
 | _,_,_,.cons r (.cons q .nil)=>⟨_,_,rfl,r,q⟩
theorem Vals.zero:∀{us:List Value},Vals [] us->us=[]
 | _,.nil=>rfl
theorem Vals.dropLast(h:Vals xs us):Vals xs.dropLast us.dropLast:=by
 induction h with
 | nil=>exact .nil
 | cons r t K=>
  cases t with
  | nil=>exact .nil
  | cons q t'=>exact .cons r K
def S9(l:List α):l.eraseIdx (l.length-1)=l.dropLast:=by
 induction l with
 | nil=>rfl
 | cons a r K=>
  cases r with
  | nil=>rfl
  | cons b r=>
   have e:(a::b::r).length-1=((b::r).length-1)+1:=by have G:(a::b::r).length=r.length+2:=rfl;have M:(b::r).length=r.length+1:=rfl;omega
   rw[e,List.eraseIdx_cons_succ,K]
   all_goals rfl
section
variable{l:QX}
def Inv.agH{f:Array Value->Array Value}{t':Nat}(I:Inv X y3 σ H s)(a:H l=Z #[165])(e:s.heap.get? l=Z {cls:=.type "list",data:=.seq aN.toArray n})(b:f aN.toArray=its'.toArray)(M:Vals ys its')(hz:ys.length<=sizeLine):
  Inv X y3 σ (upd H l #[76]) {s with heap:=s.heap.update l (Obj.mapSeq f),toks:=t'}:=by
 have q:=gJ e f;rw[b]at q;refine I.write (x:=l) (e:=l) (by rw[a];exact trivial) #[93] (λm u B R=>(jm s.heap (Obj.mapSeq f) (Ne.symm B)).trans R) ⟨_,q⟩ ?_;exact⟨hz,its',_,M,q⟩
def Inv.asB{t':Nat}(I:Inv X y3 σ H s)(M:Vals ys aN)(hz:ys.length<=sizeLine):
  Inv X y3 σ (upd H s.heap.objs.size #[76]) {s with heap:=s.heap.push {cls:=.type "list",data:=.seq aN.toArray},toks:=t'}:=
 I.laid (λ_ _ q=>jA _ q) (jD _) ⟨hz,aN,0,M,jF _ rfl⟩
theorem Inv.fresh(I:Inv X y3 σ H s):H s.heap.objs.size=Y:=I.hok.fresh (jD _)
def Inv.EC(I:Inv X y3 σ H s)(a:H l=Z #[165]):xs.length<=sizeLine/\∃(aN:List Value) (n:Nat),Vals xs aN/\xs.length=aN.length/\s.heap.get? l=Z {cls:=.type "list",data:=.seq aN.toArray n}:=by obtain⟨z,aN,n,r,e⟩:=I.hok l _ a;exact⟨z,aN,n,r,r.length,e⟩
def Rh(h:n<=sizeLine):yC n=false:=by unfold yC;exact decide_eq_false #[2]
end
section
inductive ahh (x:V) (vs:List V) (H:Hp) (Q:VK):Prop
 | mk (l:_) (xs:_) (y:_) (_:x=.ref l) (_:vs=[y]) (_:H l=Z #[165]) (_:xs.length<sizeLine) (_:Q .non (upd H l (.lst (xs++[y]))))
def bu:MtM X "list.append" ahh:=by intro y3 s σ H x c v us Q I b f h;obtain⟨l,xs,y,rfl,rfl,a,C,q⟩:=h;cases b;obtain⟨u,rfl,m⟩:=f.one;obtain⟨z,aN,n,r,L,e⟩:=I.EC a;refine qH F.slot_list_append ⟨_,e,U⟩ F.entry_list_append (F.args_list_append_2 _ _) (PySem.list_append l aN.toArray n u (by rw[jP];omega)) ⟨e,?_⟩;refine⟨.non,_,I.agH (its':=aN++[u]) a e #[8] (r.append (.cons m .nil)) ?_,U,q⟩;rw[jG,ja];omega
inductive aat (x:V) (vs:List V) (H:Hp) (Q:VK):Prop
 | mk (l:_) (b:_) (xs:_) (zs:_) (_:x=.ref l) (_:vs=[.ref b]) (_:H l=Z #[165]) (_:H b=Z (.lst zs)) (_:xs.length+zs.length<=sizeLine) (_:Q .non (upd H l (.lst (xs++zs))))
def abB:MtM X "list.extend" aat:=by
 intro y3 s σ H x d v us Q I F f h;obtain⟨l,b,xs,w,rfl,rfl,a,o,C,q⟩:=h;cases F;obtain⟨u,rfl,m⟩:=f.one;cases m;obtain⟨z,aN,n,r,L,e⟩:=I.EC a;obtain⟨y,p,O,i,c,g⟩:=I.EC o;have G:aN.toArray.size+p.toArray.size<=sizeLine:=by rw[jP,jP];omega
 have k:¬ (!aN.toArray.isEmpty&&yC (aN.toArray.size+p.toArray.size))=true:=by rw[Rh G,ZT];exact jY
 refine qH xE ⟨_,e,U⟩ Xr (Xl _ _)
  (AutoSeq1.list_extend_list_list_0 l aN.toArray n b p.toArray O k (by rw[jP];omega) #[2]) ⟨e,g,?_⟩
 refine⟨.non,_,I.agH (its':=aN++p) a e #[8] (r.append i) ?_,U,q⟩;rw[jG];omega
inductive ati (x:V) (vs:List V) (H:Hp) (Q:VK):Prop
 | mk (l:_) (xs:_) (y:_) (_:x=.ref l) (_:vs=[]) (_:H l=Z #[165]) (_:xs[xs.length-1]?=Z y) (_:Q y (upd H l (.lst xs.dropLast)))
def N8:MtM X "list.pop" ati:=by
 intro y3 s σ H x d v us Q I b f h;obtain⟨l,xs,y,rfl,rfl,a,N,q⟩:=h;cases b;have g:=f.zero;subst g;obtain⟨z,aN,n,r,L,e⟩:=I.EC a;obtain⟨u,c,m⟩:=r.get N;have R:aN.toArray[aN.toArray.size-1]?=Z u:=by show aN.toArray[aN.length-1]?=Z u;rw[<-JV,<-L];exact c
 refine qH F.slot_list_pop ⟨_,e,U⟩ F.entry_list_pop (F.args_list_pop_1 _) (MeetsSeq.list_pop_last l aN.toArray n u R (by rw[jP];omega)) ⟨e,?_⟩;refine⟨y,_,I.agH (its':=aN.dropLast) a e ?_ r.dropLast ?_,m,q⟩
 ·show aN.toArray.eraseIdxIfInBounds (aN.toArray.size-1)=aN.dropLast.toArray;rw[jP,List.eraseIdxIfInBounds_toArray,S9]
 ·rw[ZX];omega
inductive atc (x:V) (y:V) (H:Hp) (Q:VK):Prop
 | mk (l:_) (b:_) (xs:_) (zs:_) (_:x=.ref l) (_:y=.ref b) (_:H l=Z #[165]) (_:H b=Z (.lst zs)) (_:xs.length+zs.length<=sizeLine) (_:∀p,H p=Y->Q (.ref p) (upd H p (.lst (xs++zs))))
def T9:BH X (binaryOp .Add) atc:=by
 exists 8;obtain⟨l,b,xs,w,rfl,rfl,a,o,C,q⟩:=h;cases F;cases N;obtain⟨z,aN,n,r,c,e⟩:=I.EC a;obtain⟨d,p,O,i,m,g⟩:=I.EC o;refine PySem.P.add_list e g ?_ (by rw[jP,jP];omega);have L:aN.toArray++p.toArray=(aN++p).toArray:=by simp
 rw[L];exact⟨.ref _,_,I.asB (t':=s.toks) (r.append i) (by rw[jG];omega),U,q _ I.fresh⟩
end
end L2
namespace Att
open PySem PySem.W PySem.Calls PyProof.Rows
variable{h:Heap}{n:Nat}{vals:List Value}{q prog:Qv}{loose:List Str}{w:World}
def Ez{P:Params}:∀(ns:List Int) (vs:List Value),WellAll P h vs (ns.map WData.int)->Qj vs ns:=by
 intro ns
 induction ns with
 | nil=>
  intro vs w;rw[ZK]at w;cases w;exact .nil
 | cons n ns K=>
  intro vs w;rw[jy]at w;cases w with
  | cons a b=>
   cases a;exact .cons _ _ (K _ b)
theorem ab2{l:OpenLaw}(R:l.most=Z n){P:Params}{args:List WData}(b:l.row.toRowW.claim.pre args=true)(X:WellAll P h vals args):
  ∃a vs ns,vals=[YX a]/\args=[WData.list (ns.map WData.int)]/\h.get? a=Z {cls:=.type "list",data:=.seq vs.toArray}/\Qj vs ns/\ns.length<=n:=by
 have c:WShape.hasAll [] args [.list .int]=true:=(pre_splitW b).1;have O:l.pre.holds [] {args:=args}=true:=(pre_splitW b).2;obtain⟨d,r,rfl,G,M⟩:=hasAllW_cons c;obtain rfl:=hasAllW_nil M;obtain⟨E,rfl,J⟩:=hasW_list G;obtain⟨ns,rfl⟩:=items_int J;have S:ns.length<=n:=by
  unfold OpenLaw.pre at O;have k:(WTm.not (.lt (.lit (.int (n:Int))) (.len (.arg 0)))).holds [] {args:=[.list (ns.map .int)]}=true:=by have k:=(holds_andW O).1;rw[R]at k;exact k
  have V:=condW_of k (w_not (w_lt w_lit (w_len_list (w_arg rfl))));rw[jQ]at V;refine Jo λq=>?_;have N:(n:Int)<((ns.length:Nat):Int):=by omega
  first
   |(rw[decide_eq_true N]at V;exact absurd V #[10])
   |(simp at V;omega)
 cases X with
 | cons e B=>
  cases B;cases e with
  | list f p=>exact⟨_,_,ns,rfl,rfl,f,Ez ns _ p,S⟩
def abW(l:OpenLaw)(args:List WData):l.row.toRowW.claim.post args (.bool true) args=true:=
 postW_of (r:=l.row.toRowW) (X:=(true==true))
  (show WShape.has [] (.bool true) .bool=true by first|rfl|decide|simp[WShape.has,WShape.arms,WShape.armsAll])
  (show(WTm.eq .res (.lit (.bool true))).value [] {args:=args,res:=Z (.bool true),after:=args}=Z (.bool (true==true))from w_eq_bool (w_res rfl) w_lit) rfl
def Pf{l:OpenLaw}{e:(Str->Option Value)->Heap->Prop}{t:World->Heap->Prop}{d:DefRec}(R:l.most=Z n)(y:d.params.defaults=[])(call:∀(w:World) (s₀ O:Qz) (mg v:Str->Option Value) (A:QX) (o:Obj) (C cd p:Value) (a:QX) (vs:List Value) (ns:List Int),
   Ground q loose [] e w s₀ mg v O.heap->t w O.heap ->
   O.heap.get? A=Z o->o.data=.func (docDef d.name d.params d.body d.scope C cd p)->O.heap.CodeRec cd d.name->mg d.name=Z (.ref A)->
   O.heap.get? a=Z {cls:=.type "list",data:=.seq vs.toArray}->Qj vs ns->ns.length<=n->O.gens=#[] ->
   codeAny (model l.prog w) callerA (.call (.ref A) ⟨[.ref a],[]⟩) (λr c=>r=.ok (.ret (.bool true))/\OldK O.heap c.heap/\c.os=O.os/\QY c.gens) O):
  WalkO q loose e t l.row.toRowW d [] (λf vs=>xg f vs):=by
 intro w s₀ O mg v G Q A o C cd p F kV V j D g L m i vals z b h u X k;obtain rfl:F=.none:=Dflts.none g y;obtain rfl:kV=.none:=Dflts.noKw g;obtain⟨a,vs,ns,rfl,rfl,M,E,S⟩:=ab2 R b X;refine enter_call (qM (call w s₀ O mg v A o C cd p a vs ns G Q V (fd_plain j) D L M E S m) λr c W=>?_);obtain⟨rfl,s,J,x⟩:=W;exact⟨.inl ⟨.bool true,.bool true,[],U,λ_=>rfl,.bool true,abW l _,λ_=>⟨List.Pairwise.nil,λ_ N=>(nomatch N)⟩⟩,s,J,x⟩
section
def ledger(h:Heap)(L d:QX):List #[51]:=(ji h.objs.size).filterMap λa=>if a=L\/a=d then Y else(h.get? a).map λo=>(a,o)
end
end Att
namespace L2
open PySem PySem.Spec PyProof.Rows
variable{X:Cx}{prog:Qv}{w:World}{K:YW}{mg m:Str→Option Value}{base h':Heap}{A:Around}{n i m0:Nat}{x y:Str}{pos py:Pos}{H H':Hp}{l a c D C it t:QX}{xs:List V}{scope:Scope}{env:Qg}{y3:List (QX×Obj)}{σ:St}{s s1:Qz}{N:List Str}{ix:List (Option Nat)}{fp:List QX}{R:Result→Qz→Prop}{E:Value→Qz→Prop}{elt iter:Expr}{ifs elts es:List Expr}{tc:TT}{te:TE}{wi:TI}{Qd:QX→Hp→Prop}{lo:Int}{items:Array Value}{Q:Unit→Qz→Prop}
theorem Ml:∀{vs:List Value} {ns:List Int},Qj vs ns->Vals #[67] vs
 | _,_,.nil=>.nil
 | _,_,.cons n t h=>.cons ⟨t,rfl⟩ (Ml h)
def inClass(s:Stmt)(j:Nat):Stmt:=match s with
 | .ClassDef _ _ _ body _ _ _ _ _ _ _=>body.getD j (.Pass ⟨0,0,0,0⟩)
 | _=>.Pass ⟨0,0,0,0⟩
def dh(s:Stmt):QZ:=match s with
 | .FunctionDef _ a _ _ _ _ _ _ _ _=>a
 | _=>{posonlyargs:=[],args:=[],vararg:=Y,kwonlyargs:=[],kw_defaults:=[],kwarg:=Y,defaults:=[]}
def cw(s:Stmt):List Stmt:=match s with
 | .FunctionDef _ _ b _ _ _ _ _ _ _=>b
 | _=>[]
def ao(s:Stmt):Scope:=match s with
 | .FunctionDef _ _ _ _ _ _ sc _ _ _=>sc
 | _=>{kind:=.function,names:=[],isGenerator:=false,isCoroutine:=false}
abbrev dy:OM:=λ_ _ _ _ _ _=>False
abbrev E0:XK:=λ_ _ _=>False
def aec:Passes dy X E0:=λ_ _ _ _ _ _ _ h=>h.elim
def mh{k:Nat}(S:cL k A):A.units+1<cLine:=zK (Nat.add_le_add_left (by decide:1<=64) _) S.units
def ay(h:n<=1000):n<sizeLine:=zK h #[10]
section
def pv(i:Nat)(a:X.N[i]?=Z x:=by rfl)(M:Vis X.env.scope x:=by first|exact Or.inl rfl|exact Or.inr #[135]|exact Or.inr (Or.inr rfl))(j:#[17]=false:=by decide)(D:(x==("__classdict__" : Str))=false:=by decide):PE X #[175] (ahH i):=U2 a M j D
end
def tV{A B:Prop}(h:B):if false=true then A else B:=by rw[if_neg jY];exact h
def Dj{A B:Prop}(h:A):if true=true then A else B:=by rw[if_pos rfl];exact h
def adv{c A B:Prop}[Decidable c](h1:c->A)(M:¬ c->B):if c then A else B:=by
 by_cases h:c
 ·rw[if_pos h];exact h1 h
 ·rw[if_neg h];exact M h
def anR{c A B:Prop}[Decidable c](O:c)(h:B):if (!decide c)=true then A else B:=by rw[decide_eq_true O];exact tV h
def av(H H':Hp):Prop:=∀b o,H b=Z o->H' b=Z o
def av.refl(H:Hp):av H H:=λ_ _ h=>h
def av.trans{g G:Hp}(a:av H g)(b:av g G):av H G:=λc o h=>b c o (a c o h)
def av.free(e:av H H')(h:H' l=Zv):H l=Zv:=by
 cases q:H l with
 | none=>rfl
 | some o=>
  rw[e l o q]at h;cases h
def av.seq(e:av H H')(h:mw K H a xs):mw K H' a xs:=by
 rcases h with(h|⟨o,h⟩)|h
 ·exact .inl (.inl (e _ _ h))
 ·exact .inl (.inr ⟨o,e _ _ h⟩)
 ·exact .inr h
def cM(cells:List #[156]):List (Str×Qr)->List #[156]->List #[156]
 |[],cs=>cs
 |(n,k)::r,cs=>cM cells r (if k==.free then(n,(cells.lookup n).getD 0)::cs else cs)
def AF(h:∀y∈scope.names,y.2=.free->∃c,env.cells.lookup y.1=Z c):
  closureFor scope env=pure (cM env.cells scope.names []):=by
 have all:∀(ns:List (Str×Qr)) (b:List #[156]),(∀y∈ns,y.2=.free->∃c,env.cells.lookup y.1=Z c)->
   (forIn ns b (λ(x:Str×Qr) (r:List #[156])=>(match x with
    | (a,d)=>if (d==NameKind.free)=true then(do let c <-cellOf env a;pure (ForInStep.yield ((a,c)::r)))else pure (ForInStep.yield r):Qw (ForInStep (List #[156])))):Qw (List #[156]))
   = pure (cM env.cells ns b):=by
  intro ns
  induction ns with
  | nil=>intro b _;rfl
  | cons y r K=>
   intro b N;obtain⟨n,k⟩:=y;rw[zJ];by_cases f:k=.free
   ·subst f;obtain⟨c,e⟩:=N (n,.free) jC rfl;have l:env.cells.lookup n=Z c:=e;have T:cellOf env n=pure c:=by unfold cellOf;rw[l]
    simp only[beq_self_eq_true,if_true,T,pure_bind];rw[K _ λz C=>N z (jJ _ C)];simp only[cM,beq_self_eq_true,if_true,l,ZL]
   ·have B:(k==NameKind.free)=false:=by simpa using f
    simp only[B,jw,if_false,pure_bind];rw[K _ λz C=>N z (jJ _ C)];simp only[cM,B,jw,if_false]
 unfold closureFor;have q:=all scope.names [] h;simp only[bind_pure];exact q
theorem AE(cells:List #[156]):∀(ns:List (Str×Qr)) (b:List #[156]),(cM cells ns b).lookup x=Z c ->
  ((x,NameKind.free)∈ns/\(cells.lookup x).getD 0=c)\/b.lookup x=Z c
 |[],_,h=>.inr h
 |(n,k)::r,b,h=>by
  rcases AE cells r _ h with⟨G,M⟩|G
  ·exact .inl ⟨jJ _ G,M⟩
  ·by_cases C:k=.free
   ·subst C;simp only[beq_self_eq_true,if_true]at G;by_cases J:x=n
    ·subst J;simp only[jd,beq_self_eq_true]at G;exact .inl ⟨jC,Option.some.inj G⟩
    ·have B:(x==n)=false:=by simpa using J
     simp only[jd,B]at G;exact .inr G
   ·have B:(k==NameKind.free)=false:=by simpa using C
    simp only[B,jw,if_false]at G;exact .inr G
theorem sj(cells:List #[156])(e:cells.lookup x=Z c):∀(ns:List (Str×Qr)) (b:List #[156]),((x,NameKind.free)∈ns\/b.lookup x=Z c)->
  (cM cells ns b).lookup x=Z c
 |[],_,h=>by
  rcases h with h|h
  ·cases h
  ·exact h
 |(n,k)::r,b,h=>by
  refine sj cells e r _ ?_;rcases h with h|h
  ·rcases jL.mp h with z|z
   ·cases z;right;simp only[beq_self_eq_true,if_true,jd,e,ZL]
   ·exact .inl z
  ·right;by_cases C:(k==NameKind.free)=true
   ·rw[if_pos C];by_cases J:x=n
    ·subst J;simp only[jd,beq_self_eq_true,e,ZL]
    ·have B:(x==n)=false:=by simpa using J
     simp only[jd,B];exact h
   ·rw[if_neg C];exact h
theorem sP{env:Qg}:∀{names:List (Str×Qr)} {x:Str},names.lookup x=Z .free ->
  #[68].lookup x=Z .cell \/
  #[68].lookup x=Z .free
 |[],_,h=>by simp at h
 |(n,k)::r,x,h=>by
  have K:=@sP env r x;show JZ x (#[96]::_)=_ \/
   JZ x (#[96]::_)=_
  cases J:x==n with
  | true=>
   simp only[jd,J]at h;cases h;by_cases O:(NameKind.free==NameKind.free&&env.scope.kind==.function&&env.kindOf n==Z .cell)=true
   ·rw[if_pos O];simp only[jd,J];first|exact .inl trivial|exact .inl rfl
   ·rw[if_neg O];simp only[jd,J];first|exact .inr trivial|exact .inr rfl
  | false=>
   simp only[jd,J]at h;by_cases O:#[6]=true
   ·rw[if_pos O];simp only[jd,J];exact K h
   ·rw[if_neg O];simp only[jd,J];exact K h
theorem pZ{env:Qg}:∀{names:List (Str×Qr)} {x:Str} {S:Qr},S=.cell\/S=.free ->
  #[68].lookup x=Z S->(x,NameKind.free)∈names\/(x,NameKind.cell)∈names
 |[],_,_,_,h=>by simp at h
 |(n,k)::r,x,S,g,h=>by
  have K:=@pZ env r x S g;have h':JZ x (#[96]::(r.map λ(n,k)=>if #[6]then(n,NameKind.cell)else(n,k)))=Z S:=h;cases J:x==n with
  | true=>
   have a:x=n:=by simpa using J
   subst a;by_cases O:(k==NameKind.free&&env.scope.kind==.function&&env.kindOf x==Z .cell)=true
   ·have C:k=.free:=by simp only[Ja,beq_iff_eq]at O;exact O.1.1
    subst C;exact .inl jC
   ·rw[if_neg O]at h';simp only[jd,beq_self_eq_true]at h';have C:k=S:=Option.some.inj h';rcases g with z|z
    ·rw[C,z];exact .inr jC
    ·rw[C,z];exact .inl jC
  | false=>
   have up:(x,NameKind.free)∈r\/(x,NameKind.cell)∈r:=by
    refine K ?_;by_cases O:#[6]=true
    ·rw[if_pos O]at h';simpa only[jd,J]using h'
    ·rw[if_neg O]at h';simpa only[jd,J]using h'
   rcases up with z|z
   ·exact .inl (jJ _ z)
   ·exact .inr (jJ _ z)
def aF(ix:List (Option Nat))(σ:St):St:=ix.map λo=>match o with
 | none=>Y
 | some i=>(σ[i]?).join
structure aO(NX:List Str)(scX:Scope)(N:List Str)(ix:List (Option Nat))(sc:Scope):Prop where
 kind:sc.kind=.function
 nd:N.Nodup
 nocell:∀y∈sc.names,y.2≠.cell
 locs:∀y∈sc.names,y.2=.local->sc.names.lookup y.1=Z .local
 free:∀y∈sc.names,y.2=.free->scX.names.lookup y.1=Z .cell\/scX.names.lookup y.1=Z .free
 len:ix.length=N.length
 at_:∀p∈N.zip ix,∀i,p.2=Z i->NX[i]?=Z p.1/\sc.names.lookup p.1=Z .free
def mz(X:Cx)(N:List Str)(scope:Scope)(fp:List QX)(s:Qz)(H:Hp)(C:QX):Cx:=
 {prog:=X.prog,w:=X.w,K:=X.K,mg:=X.mg,base:=X.base,A:=X.A,N:=N,s₀:=s,H₀:=H,env:=compEnvC scope (cM X.env.cells scope.names []) C X.env,outer:=X.stack,stack:=X.stack,ex:=fp,fn:=λ_=>false,calm:=X.calm,pn:=X.pn,xe:=λ_ _=>False}
def ED{names:List (Str×Qr)}(h:names.lookup x=Z .free):(x,NameKind.free)∈names:=Yi h
section
def aO.aZ(S:aO X.N X.env.scope N ix scope)(ok:X.Ok):∀y∈scope.names,y.2=.free->∃c,X.env.cells.lookup y.1=Z c:=λy a l=>ok.has y.1 (S.free y a l)
def cxC(X:Cx)(N:List Str)(fp:List QX)(s:Qz)(H:Hp)(env:Qg)(fn:Str->Bool):Cx:=
 {prog:=X.prog,w:=X.w,K:=X.K,mg:=X.mg,base:=X.base,A:=X.A,N:=N,s₀:=s,H₀:=H,env:=env,outer:=X.stack,stack:=X.stack,ex:=fp,fn:=fn,calm:=X.calm,pn:=X.pn,xe:=λ_ _=>False}
def Hm{tk:Nat}{own:List #[156]}{fn:Str->Bool}(I:Inv X y3 σ H s)(kind:scope.kind=.function)(free:∀y∈scope.names,y.2=.free->X.env.scope.names.lookup y.1=Z .cell\/X.env.scope.names.lookup y.1=Z .free)(len:ix.length=N.length)(at_:∀p∈N.zip ix,∀i,p.2=Z i->X.N[i]?=Z p.1/\scope.names.lookup p.1=Z .free)(Z0:∀y,(y,NameKind.cell)∈scope.names->∃d,own.lookup y=Z d)(x:∀y,(y,NameKind.free)∈scope.names->own.lookup y=Y)(W:∀y,fn y=true->∃d,own.lookup y=Z d)(j5:∀y z d,own.lookup y=Z d->own.lookup z=Z d->y=z)(O:∀y d,own.lookup y=Z d->s.heap.objs.size<=d/\d≠D/\d≠C/\h'.get? d=Z {cls:=.type "cell",data:=.cell Y})(l:∀b∈fp,rn X y3 H b)(o5:∀b∈fp,∃o,s.heap.get? b=Z o/\∀v,o.data≠.cell v)(P:s.heap.objs.size<=D)(hC:s.heap.objs.size<=C)(c6:D≠C)(F:∀b o,s.heap.get? b=Z o->h'.get? b=Z o)(d6:h'.Ns C m)(hl:∃n,h'.get? D=Z {cls:=.type "list",data:=.seq ([]:List Value).toArray n}):
  Inv (cxC X N fp s H (compEnvC scope (own++cM X.env.cells scope.names []) C X.env) fn) y3 #[47] #[50] {s with heap:=h',toks:=tk}:=by
 have aZ:∀y∈scope.names,y.2=.free->∃c,X.env.cells.lookup y.1=Z c:=λy f l=>I.ok.has y.1 (free y f l);have fresh:∀{a:QX},s.heap.objs.size<=a->H a=Y:=λh=>I.hok.fresh h;have g6:∀y d,(cM X.env.cells scope.names []).lookup y=Z d->X.env.cells.lookup y=Z d:=λy d e=>by
  rcases AE _ _ _ e with⟨h1,h2⟩|h1
  ·obtain⟨c',e'⟩:=aZ _ h1 rfl;have G:X.env.cells.lookup y=Z c':=e';rw[G]at h2;rw[G];exact congrArg Z h2
  ·simp at h1
 have M:∀y d,(own++cM X.env.cells scope.names []).lookup y=Z d->own.lookup y=Z d\/(own.lookup y=Y/\X.env.cells.lookup y=Z d):=λy d e=>by
  rw[zv]at e;cases q:own.lookup y with
  | none=>rw[q]at e;exact .inr ⟨rfl,g6 y d e⟩
  | some d'=>rw[q]at e;exact .inl e
 have i6:∀{y d},own.lookup y=Z d->(own++cM X.env.cells scope.names []).lookup y=Z d:=λ{y d} e=>by rw[zv,e];rfl
 have K:∀{y d},own.lookup y=Y->(cM X.env.cells scope.names []).lookup y=Z d->(own++cM X.env.cells scope.names []).lookup y=Z d:=λ{y d} f e=>by rw[zv,f];exact e
 have t:∀{b:QX} {o:Obj},s.heap.get? b=Z o->b<s.heap.objs.size:=λe=>jI e;have L:∀{b:QX} {o:Obj},s.heap.get? b=Z o->b≠C:=λe=>jM (jS (t e) hC);have Q:∀{b:QX} {o:Obj},s.heap.get? b=Z o->b≠D:=λe=>jM (jS (t e) P);have w:∀{b c y:_} {o:Obj},s.heap.get? b=Z o->own.lookup y=Z c->b≠c:=λe q=>jM (jS (t e) (O _ _ q).1);have A:∀y d,X.env.cells.lookup y=Z d->∃o,s.heap.get? d=Z o:=λy d e=>by obtain⟨v,o,V,_⟩:=I.cell y d e;exact⟨o,V⟩
 refine⟨⟨I.ok.mod,?_,I.ok.glob,I.ok.blt,hC,λy z d e1 S=>?_,λy f=>?_,λy d h e=>?_,I.ok.hd,I.ok.frames,.inl rfl,λb B=>?_,I.bs,jW I.ok.bsz I.sz,λb o e B=>?_,λb B l6=>?_,I.stack,I.OC⟩,
  rfl,I.bare,Un.laid F P (fresh P),⟨m,d6,λj y v e1 S e3=>?_⟩,λy d e=>?_,?_,λy d e=>?_,λp hp=>?_,I.hok.laid F P ?_,?_⟩
 ·exact kind
 ·rcases M y d e1 with a|⟨_,a⟩
  ·rcases M z d S with b|⟨_,b⟩
   ·exact j5 y z d a b
   ·obtain⟨o,V⟩:=A z d b;exact absurd rfl (w V a)
  ·rcases M z d S with b|⟨_,b⟩
   ·obtain⟨o,V⟩:=A y d a;exact absurd rfl (w V b)
   ·exact I.ok.inj y z d a b
 ·have m6:(y,NameKind.free)∈scope.names\/(y,NameKind.cell)∈scope.names:=by
   rcases f with f|f
   ·exact pZ #[93] f
   ·exact pZ (.inr rfl) f
  rcases m6 with z|z
  ·obtain⟨d,e⟩:=aZ _ z rfl;exact⟨d,K (x _ z) (sj _ e _ _ (.inl z))⟩
  ·obtain⟨d,e⟩:=Z0 _ z;exact⟨d,i6 e⟩
 ·obtain⟨d',q⟩:=W y h;rcases M y d e with a|⟨a,_⟩
  ·exact(O _ _ a).1
  ·rw[q]at a;cases a
 ·obtain⟨f0,f1,f2,f3,f4,f5⟩:=l b B;obtain⟨o,e,_⟩:=o5 b B;refine⟨L e,λy d ec=>?_⟩;rcases M y d ec with a|⟨_,a⟩
  ·exact Ne.symm (w e a)
  ·exact f4 y d a
 ·obtain⟨f0,f1,f2,f3,f4,f5⟩:=l b B;rcases f3 with z|z
  ·exact I.ok.noex b o e z
  ·exact absurd (jS (jI (I.ok.bs b o e).1) z) (JT _)
 ·obtain⟨f0,f1,f2,f3,f4,f5⟩:=l b B;rcases jL.mp (I.Io b l6)with z|z
  ·exact f1 z
  ·exact f2 z
 ·-- a asW value
  obtain⟨mX,f7,o6⟩:=id I.loc;have g:#[47][j]?=Z (Z v):=S;unfold aF at g;rw[jU]at g;cases ej:ix[j]? with
  | none=>rw[ej]at g;cases g
  | some o=>
   rw[ej]at g;cases o with
   | none=>cases g
   | some i=>
    have J:(σ[i]?).join=Z v:=Option.some.inj g;have hz:(y,Z i)∈N.zip ix:=JD.mpr ⟨j,by rw[ZF];exact⟨e1,ej⟩⟩;obtain⟨u6,PV⟩:=at_ _ hz i rfl;have E:=ED PV;have y6:σ[i]?=Z (Z v):=by
     cases q:σ[i]? with
     | none=>rw[q]at J;cases J
     | some w'=>
      rw[q]at J;have q':w'=Z v:=J;rw[q']
    have R:X.env.scope.names.lookup y=Z .cell\/X.env.scope.names.lookup y=Z .free:=free _ E rfl;obtain⟨u,r,z6⟩:=o6 i y v u6 y6 (.inr R);refine⟨u,r,.inr ⟨?_,?_⟩⟩
    ·exact sP PV
    ·rcases z6 with⟨k,_⟩|⟨k,d,ec,ci⟩
     ·have T:X.env.scope.names.lookup y=Z .local:=k;rcases R with z|z
      ·rw[z]at T;cases T
      ·rw[z]at T;cases T
     ·obtain⟨oc,c7,d7⟩:=ci;exact⟨d,K (x _ E) (sj _ ec _ _ (.inl E)),oc,F d oc c7,d7⟩
 ·rcases M y d e with a|⟨_,a⟩
  ·exact⟨Y,_,(O _ _ a).2.2.2,U⟩
  ·obtain⟨v,o,V,hd⟩:=I.cell y d a;exact⟨v,o,F d o V,hd⟩
 ·show upd H D #[188] C=Y;rw[ag (Ne.symm c6)];exact fresh hC
 ·rcases M y d e with a|⟨_,a⟩
  ·have q:=O _ _ a;rw[ag q.2.1];exact fresh q.1
  ·obtain⟨o,V⟩:=A y d a;rw[ag (Q V)];exact I.freeC y d a
 ·obtain⟨e,n,ne,nf,d⟩:=I.pin p hp;refine⟨F _ _ e,by rw[ag (Q e)];exact n,L e,λz=>?_,d⟩;rcases jL.mp (I.Io p.1 z)with q|q
  ·exact ne q
  ·exact nf q
 ·obtain⟨n,hl⟩:=hl;exact⟨je _,[],n,.nil,hl⟩
 ·show#[47].length=N.length;unfold aF;rw[jQ];exact len
def abv{tk:Nat}(I:Inv X y3 σ H s)(S:aO X.N X.env.scope N ix scope)(l:∀b∈fp,rn X y3 H b)(W:∀b∈fp,∃o,s.heap.get? b=Z o/\∀v,o.data≠.cell v)(a:s.heap.objs.size<=D)(P:s.heap.objs.size<=C)(w:D≠C)(c:∀b o,s.heap.get? b=Z o->h'.get? b=Z o)(Q:h'.Ns C m)(L:∃n,h'.get? D=Z {cls:=.type "list",data:=.seq ([]:List Value).toArray n}):
  Inv #[59] y3 #[47] #[50] {s with heap:=h',toks:=tk}:=
 Hm (own:=[]) (fn:=λ_=>false) I S.kind S.free S.len S.at_ (λy d=>absurd rfl (S.nocell _ d)) #[3] (λ_ h=>by cases h) (λ_ _ _ h=>by cases h) (λ_ _ h=>by cases h) l W a P w c Q L
end
theorem SR{a:Expr}{it P:Value}(k:∀v s,¬ E v s)(I:Nat->Qz->Prop)(t:∀n s,I n s->wpAny #[5] A (pyNext it) (λr O=>match r with
   | none=>R (.ok .next) O
   | some v=>wpAny #[5] A (letOwnedTupleGo a it v) (λ_ g=>wpAny #[5] A (assign a env v) (λ_ d=>wpAny #[5] A (forIn ifs true λc r=>if r=true then do let ok <-isTrue c env (eval c env);pure (ForInStep.yield ok)else pure (ForInStep.yield r)) (λok o=>
     if ok=true then wpAny #[5] A (eval elt env) (λx e=>
     wpAny #[5] A (call (.builtin "list.append") [P,x]) (λ_ b=>∃m,m<n/\I m b) E e)
     E o else ∃m,m<n/\I m o) E d) E g) E O) E s)(n:Nat)(h:I n s):
  codeAny #[5] A (.compLoop (.ListComp elt [⟨a,iter,ifs,0⟩] scope pos) 0 it P env) R s:=by
 have no:∀{F:Value->Qz->Prop} v s,E v s->F v s:=λv s h=>absurd h (k v s);refine codeAny_loop rfl I (λn s B=>?_) n h;show wpAny _ _ ((compTurn (.ListComp elt [⟨a,iter,ifs,0⟩] scope pos) 0 it P env).onRaise (λx=>do noteFrame x env;theTreesLotGoes x)) _ _ s;refine wpAny_noted ?_;rw[compTurn_list];refine WI (YM (WI (Wj (t n s B) (λr O j=>?_) no)));cases r with
 | none=>exact Wv j
 | some v=>
  refine WI (Wj j (λ_ g p=>?_) no);refine WI (Wj p (λ_ d l=>WI (Wj l (λok e q=>?_) no)) no);cases ok with
  | false=>exact Wv ⟨rfl,q⟩
  | true=>exact WI (WI (Wj q (λx b i=>WI (Wj i (λ_ u f=>Wv (Wv ⟨rfl,f⟩)) no)) no))
def PTs(X:Cx)(ifs:List Expr)(t:TT):Prop:=
 ∀(y3:List #[51]) (s:Qz) (σ:St) (H:Hp) (Q:Bool->Hp->Prop),Inv X y3 σ H s->t σ H Q->wpAny #[4] X.A (forIn ifs true λc r=>if r=true then do let ok <-isTrue c X.env (eval c X.env);pure (ForInStep.yield ok)else pure (ForInStep.yield r)) (TP X y3 σ Q) X.xe s
def tc0:TT:=λ_ H Q=>Q true H
def PTs.no:PTs X [] tc0:=λy3 s σ H Q I h=>wpAny_tests_nil ⟨H,I,h⟩
def PT.one{c:Expr}{t:TT}(h:PT X c t):PTs X [c] t:=λy3 s σ H Q I q=>wpAny_tests_one (h y3 s σ H Q I q)
def AK(J:It)(ix:List (Option Nat))(g:TG)(tc:TT)(te:TE)(σ:St)(H:Hp)(Qd:QX->Hp->Prop):Prop:=
 ∀D,H D=Y->∃W:Nat->Nat->St->Hp->Prop,(∃m,W 0 m #[47] #[50])/\∀i m σ' H',W i m σ' H' ->
  (J.stop i H'/\Qd D H')\/(J.go i H'/\∀x H2,J.yld i H' x H2->g x σ' H2 λσ3 H3=>tc σ3 H3 λb H4=>if b=true then te σ3 H4 λy H5=>∃ys,H5 D=Z #[76]/\ys.length<sizeLine/\∃m',m'<m/\W (i+1) m' σ3 (upd H5 D (.lst (ys++[y])))else ∃m',m'<m/\W (i+1) m' σ3 H4)
def Bz(J:It)(ix:List (Option Nat))(g:TG)(te:TE)(σ:St)(H:Hp)(Qd:QX->Hp->Prop):Prop:=
 ∀D,H D=Y->∃W:Nat->Nat->St->Hp->Prop,(∃m,W 0 m #[47] #[50])/\∀i m σ' H',W i m σ' H' ->
  (J.stop i H'/\Qd D H')\/(J.go i H'/\∀x H2,J.yld i H' x H2->g x σ' H2 λσ3 H3=>te σ3 H3 λy H4=>∃ys,H4 D=Z #[76]/\ys.length<sizeLine/\∃m',m'<m/\W (i+1) m' σ3 (upd H4 D (.lst (ys++[y]))))
section
variable{Yq0:Cx}{tg:Expr}{ab5:Pos}{J:It}{tn:Nat->Heap->Prop}{g:TG}
def aa7{Qd:Hp->Prop}{W:Nat->Nat->St->Hp->Prop}(hx:∀v s,¬ Yq0.xe v s)(hc:Yq0.calm=true)(T:Turn Yq0.prog Yq0.w Yq0.K tg J fp it tn)(I0:Inv Yq0 y3 σ H s)(st:tn 0 s.heap)(V:∀b∈fp,H b=Y)(j:∀H':Hp,#[149]->∀b∈fp,rn Yq0 y3 H' b)(hg:PG Yq0 tg g)(ht:PTs Yq0 ifs tc)(he:PE Yq0 elt te)(w0:W 0 m0 σ H)(t:∀i m O H',W i m O H'->(J.stop i H'/\Qd H')\/(J.go i H'/\∀x H2,J.yld i H' x H2->g x O H2 λk a=>tc k a λb H4=>if b=true then te k H4 λy C=>∃ys,C D=Z #[76]/\ys.length<sizeLine/\∃M,M<m/\W (i+1) M k (upd C D (.lst (ys++[y])))else ∃M,M<m/\W (i+1) M k H4))(hR:∀O H' c,Inv Yq0 y3 O H' c->Qd H'->R (.ok .next) c):codeAny (model Yq0.prog Yq0.w) Yq0.A (.compStart #[27] 0 #[148] #[81] Yq0.env) R s:=by
 have loop:codeAny (model Yq0.prog Yq0.w) Yq0.A (.compLoop #[27] 0 #[148] #[81] Yq0.env) R s:=by
  refine SR hx (λn c=>∃i O H',Inv Yq0 y3 O H' c/\tn i c.heap/\#[149]/\W i n O H') ?_ m0 ⟨0,_,_,I0,st,V,w0⟩;rintro n s3 ⟨i,k,a,I3,Q,p,w3⟩;rcases t i n k a w3 with⟨F,qn⟩|⟨go,step⟩
  ·refine bR (T.done Yq0 rfl rfl rfl hc i y3 s3 k a _ I3 (j _ p) Q F) λr s4 ⟨S,I4⟩=>?_;subst S;exact hR _ _ _ I4 qn
  ·refine bR (T.item Yq0 rfl rfl rfl hc i y3 s3 k a _ I3 (j _ p) Q go) λr s4 ⟨u,S,h4⟩=>?_;subst S;refine bR h4 λ_ l ⟨x,C,I5,r5,y5,L,q⟩=>?_;have f:∀{N:Qz} {G:St} {P:Hp} {M:Nat},Inv Yq0 (y3++HS fp l.heap) G P N->M<n->W (i+1) M G P->∃m,m<n/\∃i O H',Inv Yq0 y3 O H' N/\tn i N.heap/\#[149]/\W i m O H':=λ{N G P M} I h z=>
    have pn:∀b∈fp,∀o,l.heap.get? b=Z o->_:=λb B o e=>I.pin (b,o) (jh _ (jh _ (Bh B e)))
    ⟨M,h,i+1,_,_,I.Cy,T.keep _ _ _ L λb B o e=>(pn b B o e).1,λb B=>by obtain⟨o,e,d⟩:=T.obj _ _ L b B;exact(pn b B o e).2.1,z⟩
   refine bR (hg _ l k C x u _ (I5.pinned (j _ q) (T.obj _ _ L)) r5 (step x C y5)) λ_ s6 ⟨E,H6,I6,q6⟩=>?_;refine bR (ht _ s6 E H6 _ I6 q6) λok s7 ⟨H7,I7,q7⟩=>?_;cases ok with
   | false=>
    obtain⟨M,h,w7⟩:=q7;exact f I7 h w7
   | true=>
    refine bR (he _ s7 E H7 _ I7 q7) λyv N ⟨y,P,I,r8,ys,hD,hz,M,h,z⟩=>?_;exact bR (bu (X:=Yq0) _ N E P #[81] [y] #[81] [yv] (λ_ H9=>W (i+1) M E H9) I rfl (.cons r8 .nil) ⟨_,ys,y,U,U,hD,hz,z⟩) λ_ s9 ⟨_,H9,I9,_,w9⟩=>f I9 h w9
 exact codeAny_compStart_list loop (T.self _ _ _ _ _ st loop)
def Po{fn:Str->Bool}{RR:Value->QX->Result->Qz->Prop}(I:Inv X y3 σ H s)(O:X.calm=true)(T:Turn X.prog X.w X.K tg J fp it tn)(F:∀b∈fp,rn X y3 H b)(k:∀b∈fp,∃o,s.heap.get? b=Z o/\∀v,o.data≠.cell v)(P:env.locals=s.heap.objs.size+1)(u:AK J ix g tc te σ H Qd)(Q:∀D C c H' m,Inv X y3 σ H' c->c.heap.Ns C m->rn X y3 H' C->Qd D H'->RR #[81] C (.ok .next) c)(y:Inv (cxC X N fp s H env fn) y3 #[47] (upd H s.heap.objs.size #[188]) s1)(st:tn 0 s1.heap)(n:PG (cxC X N fp s H env fn) tg g)(p:PTs (cxC X N fp s H env fn) ifs tc)(R:PE (cxC X N fp s H env fn) elt te):
  codeAny #[4] X.A (.compStart #[27] 0 #[148] #[23] env) (RR #[23] env.locals) s1:=by
 obtain⟨W,⟨m0,q⟩,t⟩:=u s.heap.objs.size #[60];have lt:∀b∈fp,b<s.heap.objs.size:=λb B=>by obtain⟨o,e,_⟩:=k b B;exact jI e
 have l:s.heap.objs.size<=env.locals:=by rw[P];exact JE _
 refine aa7 (Yq0:=cxC X N fp s H env fn) (λ_ _ h=>h) O T y st (λb B=>?_) (λH' r b B=>?_) n p R q t λx H' z i E=>?_
 ·rw[ag (jM (lt b B))];exact(F b B).1
 ·obtain⟨G,L,M,d,f,a⟩:=F b B;exact⟨r b B,jM (jS (lt b B) l),y.ok.exfs b B,.inl B,(y.ok.exf b B).2,a⟩
 ·obtain⟨S,j,_⟩:=id i.loc;exact Q _ _ z H' S (I.Ll (ch:=fp) i.os i.base i.hok i.bare λb B=>by obtain⟨G,L,M,d,f,a⟩:=F b B;exact⟨d,L,f,a⟩) j (I.G0 l i.free) E
def IE(X:Cx)(elt tg iter:Expr)(ifs:List Expr)(scope:Scope)(pos:Pos)(ix:List (Option Nat))(g:TG)(tc:TT)(te:TE):Prop:=∀{y3:List #[51]} {σ:St} {H:Hp} {s:Qz} {J:It} {fp:List QX} {it:QX} {tn:Nat->Heap->Prop} {Qd:QX->Hp->Prop} {RR:Value->QX->Result->Qz->Prop} {E:Value->Qz->Prop},Inv X y3 σ H s->Turn X.prog X.w X.K tg J fp it tn->tn 0 s.heap->(∀b∈fp,rn X y3 H b)->AK J ix g tc te σ H Qd ->
  (∀D C s' H' m,Inv X y3 σ H' s'->s'.heap.Ns C m->rn X y3 H' C->Qd D H'->RR #[81] C (.ok .next) s')->
  wpAny #[4] X.A (newList []) (λo4 s₃=>wpAny #[4] X.A (newFunctionEnv scope X.env.globals (cM X.env.cells scope.names []) [] X.env.qual Y .none (Z X.env)) (λamz s₄=>
   codeAny #[4] X.A (.compStart #[27] 0 #[148] o4 {amz with scope:=relabel scope X.env}) (RR o4 amz.locals) s₄) E s₃) E s
def C6(O:X.calm=true)(S:aO X.N X.env.scope N ix scope)(m:∀fp s H C,PG #[59] tg g)(d:∀fp s H C,PTs #[59] ifs tc)(R:∀fp s H C,PE #[59] elt te):IE X elt tg iter ifs scope pos ix g tc te:=by
 intro y3 σ H s J fp it tn Qd M E I T st F u Q;refine Wm (Wk S.nocell (by intro y f;simp at f) (λj q c=>?_) S.kind);dsimp only at q c ⊢;generalize a:s.heap.push {cls:=.type "list",dict:=Y,data:=.seq ([]:List Value).toArray}=H2 at q c ⊢;have P:H2.objs.size=s.heap.objs.size+1:=by rw[<-a,jc]
 have w:s.heap.objs.size≠H2.objs.size:=by rw[P];exact jM (JK _)
 have l:s.heap.objs.size<=H2.objs.size:=by rw[P];exact JE _
 have below:∀b,b<s.heap.objs.size->b≠H2.objs.size:=λb B=>by rw[P];exact jM (Jl B)
 have old:∀b o,s.heap.get? b=Z o->j.get? b=Z o:=λb o e=>c.extBut b o (below b (jI e)) (jA _ (a▸jA _ e));have K:∃n,j.get? s.heap.objs.size=Z {cls:=.type "list",data:=.seq ([]:List Value).toArray n}:=⟨_,c.extBut _ _ w (jA _ (a▸jF _ rfl))⟩;have k:=T.obj _ _ st;have h:Inv (mz X N scope fp s H H2.objs.size) y3 #[47] (upd H s.heap.objs.size #[188]) {s with heap:=j,toks:=s.toks+([]:List #[162]).length}:=
  abv I S F k (jD _) l w old q K
 exact Po (N:=N) I O T F k P u Q h (T.keep _ _ _ st λb _ o e=>old b o e) (m _ _ _ _) (d _ _ _ _) (R _ _ _ _)
def IE.pe(R:IE X elt tg iter ifs scope pos ix g tc te)(a:scope.kind=.function)(L:∀y∈scope.names,y.2=.local->scope.names.lookup y.1=Z .local)(r:X.Ok->∀y∈scope.names,y.2=.free->∃c,X.env.cells.lookup y.1=Z c)(W:PI X tg iter wi)(hs:∀x,foldedSetIterable iter X.env x=pure x):PE X #[27] (λσ H Q=>wi σ H λJ d=>AK J ix g tc te σ d λD H'=>Q #[81] H'):=by exists 2;rw[eval_ListComp];refine WM (use:=Y) rfl hs (AF (r I.ok)) a L (bR (W y3 s σ H _ I h) λv s1 G=>bR G λS l M=>?_);obtain⟨it,fp,tn,J,n,e,E,T,V,F,u⟩:=M;subst e;refine R (RR:=λP C=>compPost #[4] X.A X.xe Y #[90] P C) E T V F u ?_;intro D C i H' m j k f q;exact⟨m,k,λh' K=>⟨.ref D,H',j.turned (t':=i.toks) (λb o B e=>(K.2 b B).trans e) f.1 f.2.1 f.2.2.2.1 f.2.2.2.2.1 f.2.2.2.2.2,U,q⟩⟩
def IE.ps(R:IE X elt tg iter ifs scope pos ix g tc te)(r:scope.kind=.function)(L:∀y∈scope.names,y.2=.local->scope.names.lookup y.1=Z .local)(u:X.Ok->∀y∈scope.names,y.2=.free->∃c,X.env.cells.lookup y.1=Z c)(W:PI X tg iter wi)(hs:∀x,foldedSetIterable iter X.env x=pure x)(B:X.N.Nodup)(p:X.N[i]?=Z y)(E:Loc X.env.scope y)(t:qq #[27] (Z (.Name y py)) ab5.line X.env=pure true)(F:X.fn y=true\/X.env.scope.names.lookup y=Z .local):
  PS X (.Assign [.Name y py] #[27] ab5) (oy (λσ H Q=>wi σ H λJ G=>AK J ix g tc te σ G λD H'=>Q #[81] H') (aP i)):=by
 exists 18;rw[exec_Assign_Name_used _ _ _ _ t];refine WI (YM (WI ?_));show wpAny _ X.A (do let _ <-comprehension #[27] scope X.env _ (newList []) false (eval iter X.env) (Z (assign (.Name y py) X.env))) _ _ s;refine WI (Wj (WM (use:=Z (assign (.Name y py) X.env)) (Q:=λ_ d=>SP X y3 D .next d) rfl hs (AF (u I.ok)) r L
  (bR (W y3 s σ H _ I h) λv s1 K=>bR K λS k M=>?_)) (λ_ d P=>Wv (Wv P)) λ_ _ e=>e)
 obtain⟨it,fp,tn,J,H2,e,I2,T,V,f2,hW⟩:=M;subst e;refine R (RR:=λo4 C=>compPost #[4] X.A X.xe (Z (assign (.Name y py) X.env)) (λ_ d=>SP X y3 D .next d) o4 C) I2 T V f2 hW ?_;intro l C d H' m I' hn f q;show wpAny _ X.A (assign (.Name y py) X.env #[181]) _ _ d;refine WG (Mh I' B p E (v:=.ref l) rfl (λk O n=>?_) F);obtain⟨a,sb,ha⟩:=n;refine⟨m,hn.sameBut sb ?_,λh3 j=>⟨_,H',O.turned (t':=k.toks) (λb o hb e=>(j.2 b hb).trans e) f.1 f.2.1 f.2.2.2.1 f.2.2.2.2.1 f.2.2.2.2.2,q⟩⟩;rcases ha with z|z
 ·rw[z];exact f.2.1
 ·exact Ne.symm (f.2.2.2.2.1 _ _ z)
def ae3(ix:List (Option Nat))(wi:TI)(g:TG)(te:TE):TE:=λσ H Q=>wi σ H λJ H1=>Bz J ix g te σ H1 λD H'=>Q #[81] H'
def ak5(ix:List (Option Nat))(wi:TI)(g:TG)(tc:TT)(te:TE):TE:=λσ H Q=>wi σ H λJ H1=>AK J ix g tc te σ H1 λD H'=>Q #[81] H'
def dB(O:X.calm=true)(S:aO X.N X.env.scope N ix scope)(W:PI X tg iter wi)(m:∀fp s H C,PG #[59] tg g)(R:∀fp s H C,PE #[59] elt te)(hs:∀x,foldedSetIterable iter X.env x=pure x:=by intro _;rfl):PE X #[94] (ae3 ix wi g te):=
 IE.pe (C6 O S m (λ_ _ _ _=>PTs.no) R) S.kind S.locs S.aZ W hs
def fX(O:X.calm=true)(a:X.N.Nodup)(p:X.N[i]?=Z y)(b:Loc X.env.scope y)(S:aO X.N X.env.scope N ix scope)(W:PI X tg iter wi)(m:∀fp s H C,PG #[59] tg g)(R:∀fp s H C,PE #[59] elt te)(t:qq #[94] (Z (.Name y py)) ab5.line X.env=pure true:=by rfl)(l:X.fn y=true\/X.env.scope.names.lookup y=Z .local:=by first|exact .inl rfl|exact .inr rfl|assumption)(hs:∀x,foldedSetIterable iter X.env x=pure x:=by intro _;rfl):PS X (.Assign [.Name y py] #[94] ab5) (oy (ae3 ix wi g te) (aP i)):=
 IE.ps (C6 O S m (λ_ _ _ _=>PTs.no) R) S.kind S.locs S.aZ W hs a p b t l
end
def sk(d:QX->Nat->List V->Hp->Prop)(I:∀D,H D=Y->d D 0 [] #[50])(hs:∀D i ys H' (F:VK),H D=Y->i<n->H' D=Z #[76]->d D i ys H'->#[7] ->
   te (#[47].set 0 (Z (.int (lo+i)))) H' F)(j:∀D ys H',H D=Y->H' D=Z #[76]->d D n ys H'->Qd D H'):Bz (Itr lo n) ix (aP 0) te σ H Qd:=by
 intro D X;refine⟨λi m O H'=>m=n-i/\i<=n/\#[83]/\∃ys,H' D=Z #[76]/\d D i ys H',⟨n,by simp,je _,.inl rfl,[],ae,I D X⟩,?_⟩;exists 6;by_cases f:i<n
 ·refine .inr ⟨f,λx G y=>?_⟩;obtain⟨T,g⟩:=y;subst T;subst g;have es:O.set 0 (Z (V.int (lo+i)))=#[47].set 0 (Z (V.int (lo+i))):=by
   exists 30
   ·rw[z]
   ·rw[z,Jp]
  show te (O.set 0 (Z (V.int (lo+i)))) _ _;rw[es];refine hs D i ys _ _ X f N p λy B k C h=>⟨ys,k,C,n-(i+1),by omega,U,f,.inr ⟨_,U⟩,ys++[y],ae,h⟩
 ·have e:i=n:=by omega
  subst e;exact .inl ⟨jD _,j D ys H' X N p⟩
def dZ(d:QX->Nat->List V->Hp->Prop)(I:∀D,H D=Y->d D 0 [] #[50])(L:∀D i ys H',i<=xs.length->d D i ys H'->mw K H' a xs)(hs:∀D i x ys H' (F:VK),H D=Y->xs[i]?=Z x->H' D=Z #[76]->d D i ys H'->#[7] ->
   te (#[47].set 0 (Z x)) H' F)(j:∀D ys H',H D=Y->H' D=Z #[76]->d D xs.length ys H'->Qd D H'):Bz (Itl K a) ix (aP 0) te σ H Qd:=by
 intro D X;refine⟨λi m O H'=>m=xs.length-i/\i<=xs.length/\#[83]/\∃ys,H' D=Z #[76]/\d D i ys H',⟨xs.length,by simp,je _,.inl rfl,[],ae,I D X⟩,?_⟩;exists 6;have q:=L D i ys H' W p;exists 23
 ·exists 13;obtain⟨T,g⟩:=y;subst T;have ex:=g xs q;have es:O.set 0 (Z x)=#[47].set 0 (Z x):=by
   exists 30
   ·rw[z]
   ·rw[z,Jp]
  show te (O.set 0 (Z x)) _ _;rw[es];refine hs D i x ys _ _ X ex N p λy B k C h=>⟨ys,k,C,xs.length-(i+1),by omega,U,f,.inr ⟨_,U⟩,ys++[y],ae,h⟩
 ·exists 17;subst e;exact .inl ⟨⟨xs,q,jD _⟩,j D ys H' X N p⟩
section
inductive atg (K:YW) (xs:List V) (H:Hp) (Q:VK):Prop
 | mk (x:_) (n:_) (t:_) (b:_) (_:xs=[x,.ty n]) (_:sh K H x t) (_:Ye K t (.type n)=Z b) (_:Q (.bl b) H)
def BU:hX X (.builtin "isinstance") (atg X.K):=by intro y3 s σ H xs S Q I r h;obtain⟨x,n,t,b,rfl,ty,e,q⟩:=h;obtain⟨u,v,rfl,m,f⟩:=r.two;cases(show v=yn n from f);exact abw I m ty e λtk=>⟨.bl b,H,I.tok tk,U,q⟩
end
section
theorem Lr(K:t≠it):∀(n i:Nat) (s:Qz) (Q:List Value->Qz->Prop),s.heap.IsListIter it t i->s.heap.IsList t items->i+n<=items.size ->
  (∀h',h'.IsListIter it t (i+n)->Yf it s.heap h'->Q ((items.toList.drop i).take n) {s with heap:=h'})->wpAny #[5] A (draw #[148] n) Q E s
 | 0,i,s,Q,hit,_,_,g=>by show wpAny _ _ (pure []) Q E s;exact Wv (by simpa using g s.heap hit (xN ..))
 | n+1,i,s,Q,hit,d,k,g=>by
  have f:i<items.size:=by omega
  show wpAny _ _ (pyNext #[148]>>=_) Q E s;refine WI (YD hit d (x:=items[i]) (by simp[f]) λj a u=>?_);refine WI (WZ (Lr K n (i+1) _ _ a (d.extBut u.extBut K) #[2] λl b H=>Wv ?_));have c:items.toList.drop i=items[i]::items.toList.drop (i+1):=by simp[ZG,f]
  have:=g l (by rw[show i+(n+1)=i+1+n by omega];exact b) (u.trans H);rw[c,List.take_succ_cons]at this;exact this
def DN{Q:List Value->Qz->Prop}(H:A.handled=Y)(d:s.heap.IsList t items)(g:∀h',yV s.heap.objs.size s.heap h'->Q items.toList {s with heap:=h'}):wpAny #[5] A (unpackItems (.ref t) items.size Y) Q E s:=by
 have f:t≠s.heap.objs.size:=by obtain⟨o,V,_⟩:=d;exact jM (jI V)
 unfold unpackItems;exists 34
 ·unfold notIterableAtAll;refine WI (YL d.typeIs slot_list_iter.lookup ?_);refine Wv ?_;simp only[jw,if_false];refine WI (WZ (Wx d ?_));refine WI (WZ (Lr f items.size 0 _ _ ⟨_,jF _ rfl,U,U⟩ (d.push _) #[2] λj a u=>?_));have p:List.take items.size (List.drop 0 items.toList)=items.toList:=by rw[List.drop_zero];exact Jh #[8]
  rw[p];exists 31;have c:j.IsList t items:=(d.push _).extBut u.extBut f;refine WI (WZ (YC H a c #[8] λl h=>?_));simp only[Option.isSome_none,jw,if_false];refine Wv (g l λb o B e=>h b o B (u.extBut b o B (jA _ e)))
def BO{x1}(H:A.handled=Y)(d:s.heap.IsList t items)(R:(qD elts env).length=items.size)(a:(qD elts env).findIdx? (·.1)=Y)(h:∀h',yV s.heap.objs.size s.heap h'->wpAny #[5] A (assignInOrder ((qD elts env).map (·.2)) items.toList) Q E {s with heap:=h'}):
  wpAny #[5] A (assign (.Tuple elts x1 pos) env (.ref t)) Q E s:=by
 rw[GK];refine WI (YM ?_);unfold unpack;rw[R,a];exact WI (WZ (DN H d h))
end
section
def aqW(K:YW)(n:Nat)(t:TGs):TG:=λv σ H Q=>∃a xs,v=.ref a/\mw K H a xs/\xs.length=n/\t xs σ H Q
def aky{k:Nat}{t:TGs}(O:X.calm=true)(h:PGs X es t)(R:(qD es X.env).length=n:=by rfl)(M:(qD es X.env).findIdx? (·.1)=Y:=by rfl):PG X (.Tuple es k pos) (aqW X.K n t):=by intro y3 s σ H v u Q I r G;obtain⟨a,xs,T,W,L,G⟩:=G;subst T;cases r;obtain⟨c,f,d,C⟩:=I.list W;refine BO #[123] d.isList (by simp[R,<-L,f.length]) M λh' J=>?_;have P:Inv X y3 σ H {s with heap:=h'}:=I.kept (t':=s.toks) λb o e=>J b o (jM (jI e)) e;exact h y3 _ σ H xs _ Q P (by simpa using f) G
def IT:List V->List V->Bool
 |[],[]=>true
 | x::xs,y::ys=>S8 x y&&IT xs ys
 | _,_=>false
theorem PH:∀{xs ys:List V},xs.length≠ys.length->IT xs ys=false
 |[],[],h=>absurd rfl h
 |[],_::_,_=>rfl
 | _::_,[],_=>rfl
 | x::xs,y::ys,h=>by have:=@PH xs ys #[113];simp[IT,this]
theorem PD:∀{xs ys:List V},xs.length=ys.length->IT xs ys=(ji xs.length).all λj=>S8 (xs.getD j .non) (ys.getD j .non)
 |[],[],_=>rfl
 |[],_::_,h=>by simp at h
 | _::_,[],h=>by simp at h
 | x::xs,y::ys,h=>by have K:=@PD xs ys #[113];rw[jX,List.range_succ_eq_map,Za,List.all_map];show(S8 x y&&IT xs ys)=(S8 x y&&_);rw[K];rfl
inductive atd (K:YW) (x:V) (y:V) (H:Hp) (Q:VK):Prop
 | mk (a:_) (b:_) (xs:_) (ys:_) (_:x=.ref a) (_:y=.ref b) (_:mw K H a xs) (_:mw K H b ys) (_:xs.all tF=true) (_:ys.all tF=true) (_:Q (.bl (IT xs ys)) H)
def akl(R:X.A.units<cLine):BH X (qO .Eq) (atd X.K):=by
 intro y3 s σ H x y v u Q I F g h;obtain⟨a,b,xs,c,rfl,rfl,l,B,n,o,q⟩:=h;cases F;cases g;obtain⟨t,f,d,hz⟩:=I.list l;obtain⟨p,w,k,z⟩:=I.list B;have C:=f.length;have l2:=w.length;by_cases L:xs.length=c.length
 ·refine SeqAt.eq_listAt (e:=λj=>S8 (xs.getD j .non) (c.getD j .non)) d.isList k.isList (by simp;omega) R (λj G h2=>?_) ?_
  ·have m:j<xs.length:=by simp at G;omega
   have r:j<c.length:=by omega
   obtain⟨D,T,O⟩:=f.get (i:=j) (x:=xs[j]) (by simp[m]);obtain⟨E,J,M⟩:=w.get (i:=j) (x:=c[j]) (by simp[r]);have N:tF xs[j]=true:=ZM.mp n _ (jV m);have P:tF c[j]=true:=ZM.mp o _ (jV r);have S:t.toArray[j]=D:=by have:=(jb.mp T).2;exists 33
   have W:p.toArray[j]=E:=by have:=(jb.mp J).2;exists 33
   rw[S,W];have d1:xs.getD j V.non=xs[j]:=by simp[m]
   have d2:c.getD j V.non=c[j]:=by simp[r]
   show yO _ _ _ _ (S8 (xs.getD j V.non) (c.getD j V.non));rw[d1,d2];exact acX O M N P
  ·refine⟨.bl (IT xs c),H,I,?_,q⟩;show yU _=yU _;rw[PD L];simp[C]
 ·refine SeqAt.eq_list_lengthsAt d.isList k.isList ?_ R ?_
  ·simp;omega
  ·refine⟨.bl (IT xs c),H,I,?_,q⟩;rw[PH L];rfl
end
end L2
namespace HT
open PySem PySem.Spec PyProof.Rows
end HT
namespace L2
open PySem PySem.Spec PyProof.Rows
variable{X:Cx}{P:Qv}{w:World}{K:YW}{mg:Str→Option Value}{base:Heap}{x qual:Str}{st:Stmt}{dV oc:Value}{f:QX}{fd:Qh}{sp:Sp}{ds:List Value}{o:Obj}{items:Array Value}{n:Nat}{od an:Option QX}{HM:Array (Option Value)}{eN xs:List V}{p pos:Pos}{e tg a:Expr}{es:List Expr}{t ta:TA}{H:Hp}{tb:TS}{D:Ends}{σ:St}{c:TT}{y3:List (QX×Obj)}{s:Qz}
structure aY(K:YW)(x qual:Str)(st:Stmt)(dV:Value)(f:QX)(fd:Qh):Prop where
 ex:∃(oc:Value) (od:Option QX) (kV doc pm:Value) (an:Option QX) (bP ct:Value) (HM:Array (Option Value)),
  fd=Yh x qual (dh st) (cw st) (ao st) dV kV doc pm an bP ct/\K.lookup f=Z ⟨oc,od,.func fd,HM⟩/\Yr K bP qual=true
 kp:Yd K #[58]=true
section
def aY.ok{N ps:List Str}{k:Nat}(F:aY K x qual st dV f fd)(S:ax N ps (ao st))(len:∀vs H Q E,sp vs H Q E->vs.length=ps.length)(m:∀(g:Value) (A:Around) (outer:List Qg) (s:Qz) (H:Hp) (vs:List V) (Q:VK) (E:XK),cL k (A.deeper (envOfC qual (ao st) s.heap.objs.size f g))->sp vs H Q E ->
   ∃t,K8 (bE dy P w K mg base N qual (ao st) f g A outer s H E).eW (cw st) t/\t {nx:=λ_ H'=>Q .non H',rt:=Q} #[145] H):aR P w K mg base dy (k+1) f fd ps sp:=by
 obtain⟨oc,od,kV,p,C,an,g,b,HM,rfl,M,D⟩:=F.ex;refine ac1 M D S len λA outer s H vs Q E a j=>?_;obtain⟨t,h,q⟩:=m g A outer s H vs Q E a j;exact⟨t,h.eW,q⟩
def aY.binds{ps:List Str}(F:aY K x qual st .none f fd)(h:∀(kV p C:Value) (an:Option QX) (g ct:Value) (us:List Value),us.length=ps.length->bindArgs (Yh x qual (dh st) (cw st) (ao st) .none kV p C an g ct) ⟨us,[]⟩=pure #[130]):Binds K fd ps []:=by obtain⟨oc,od,kV,p,C,an,g,ct,HM,rfl,M,D⟩:=F.ex;exact .all (h kV p C an g ct)
def aY.MG{T:QX}{ps:List Str}(F:aY K x qual st #[164] f fd)(V:K.lookup T=Z o)(hs:o.data=.seq items n)(m:Nat)(N:m+ds.length=ps.length)(h:∀(kV p C:Value) (an:Option QX) (g ct:Value) (us:List Value),us.length=m->∃k:Option (Array Value)->Qw (List #[162]),
   bindArgs (Yh x qual (dh st) (cw st) (ao st) #[164] kV p C an g ct) ⟨us,[]⟩=seqItems? #[164]>>=k/\k (Z items)=pure (ps.zip (us++ds))):Binds K fd ps ds:=by
 obtain⟨oc,od,kV,p,C,an,g,ct,HM,rfl,a,D⟩:=F.ex;intro s us X L;obtain⟨k,G,M⟩:=h kV p C an g ct us (by rw[jG]at L;omega);exact BindsTo.of_defaults (fd:=Yh x qual (dh st) (cw st) (ao st) #[164] kV p C an g ct) rfl (X _ _ V) hs G M
def su{kV p C g ct:Value}(l:K.lookup f=Z ⟨oc,od,.func (Yh x qual (dh st) (cw st) (ao st) dV kV p C an g ct),HM⟩)(c:Yr K g qual=true)(k:Yd K #[58]=true):aY K x qual st dV f (Yh x qual (dh st) (cw st) (ao st) dV kV p C an g ct):=⟨⟨oc,od,kV,p,C,an,g,ct,HM,rfl,l,c⟩,k⟩
structure bc(P:Qv)(w:World)(K:YW)(mg:Str->Option Value)(base:Heap)(x:Str)(k:Nat)(ps:List Str)(eN:List V)(sp:Sp):Prop where
 ex:∃(f:QX) (fd:Qh) (ds:List Value),mg x=Z #[58]/\Yd K #[58]=true/\Vals eN ds/\Binds K fd ps ds/\aR P w K mg base dy k f fd ps sp
end
section
variable{j k:Nat}{ps:List Str}
def aU(G:bc X.prog X.w X.K X.mg X.base x k ps eN sp)(S:cL j X.A)(l:PA X (e::es) t)(J:∀e s,X.xe e s=False:=by intro _ _;rfl)(hkj:k<=j:=by decide)(m:Gl X x:=by rfl)(b:#[17]=false:=by decide)(R:qh (e::es) X.env=#[18]::qh es X.env:=by rfl)(a:#[20].any (·.1)=false:=by rfl):
  PE X #[16] (Mi sp eN E0 t):=by
 obtain⟨f,fd,ds,N,C,c,B,F⟩:=G.ex;exact Ob F #[163] m N C B c (λ_ _ _ _ _ _ _ h=>h.elim) l b R a
end
def Q6(K:YW):Ye K (.type "int") (.type "int")=Z true:=by with_unfolding_all rfl
def N2(K:YW):Ye K (.type "int") (.type "bool")=Z false:=by with_unfolding_all rfl
def aj{p:QX}(h:H p=Y)(o:HO):av H (upd H p o):=λb u q=>by rw[ag (ak q h)];exact q
def small(h:n<=1000):n<=sizeLine:=JL (ay h)
def cU:qF "len" = Z (.builtin "len"):=by decide +kernel
def aiX:qF "min" = Z (.builtin "min"):=by decide +kernel
def br:qF "isinstance" = Z (.builtin "isinstance"):=by decide +kernel
def acK:qF "sum" = Z (.builtin "sum"):=by decide +kernel
def C1:qF "sorted" = Z (.builtin "sorted"):=by decide +kernel
def aiW:qF "int" = Z (.type "int"):=by decide +kernel
def afU:qF "bool" = Z (.type "bool"):=by decide +kernel
def bH:qF "tuple" = Z #[179]:=by decide +kernel
def BS:qF "list" = Z (.type "list"):=by decide +kernel
def BR:qF "dict" = Z #[124]:=by decide +kernel
def acJ:qF "set" = Z (.type "set"):=by decide +kernel
def Pj:qF "reversed" = Z (.type "reversed"):=by decide +kernel
def BIG:Int:=2^4000
def Pg{k:Int}(I:0<=k)(h:k<BIG):k.natAbs.log2<4000:=by
 rcases zL k.natAbs with z|D
 ·rw[z];decide +kernel
 ·refine(QR #[2]).mpr ?_;have e:BIG=((2^4000:Nat):Int):=by unfold BIG;norm_cast
  rw[e]at h;omega
def acv(i j:Int):Prop:=(0<=i/\i<BIG)/\(0<=j/\j<BIG)
def acv.ok{i j:Int}(h:acv i j):IntMulOk i j:=by
 have one:∀{k:Int},0<=k->k<BIG->Xs k<=2^20:=λ{k} I G=>by unfold Xs;have:=Pg I G;split<;>omega
 exact .of_bits (one h.1.1 h.1.2) (one h.2.1 h.2.2)
def amc(i j:Int):Prop:=0<j/\j<BIG
section
def aak:BH X (binaryOp .Mult) (rI acv λi j=>.int (i*j)):=opI λ_ _ _ _ _ _ _ O q=>Gs q O.ok
def ad8:BH X (binaryOp .FloorDiv) (rI amc λi j=>.int (i / j)):=opI λi j _ _ _ _ _ O q=>by have G:(0:Int)<j:=O.1;have M:j<BIG:=O.2;have J:=Pg (Jz G) M;exact floordiv_int #[2] (by rw[zy i #[2]];exact q) (.inl (PyProof.noPylong_of_log2 #[2]))
end
def Itv(K:YW)(a:QX)(n:Nat):It:=
 ⟨λi H=>i<n/\∃xs,mw K H a xs/\xs.length=n,λi H x H'=>H'=H/\∀xs,mw K H a xs->xs[n-1-i]?=Z x,λi H=>i=n⟩
theorem afc(a N:QX)(n:Nat):Turn P w K tg (Itv K a n) [N] N (λi h=>i<=n/\Xm h N a ((n:Int)-1-(i:Int))) where
 mem:=by simp
 obj:=λi h st b B=>by
  have e:b=N:=by simpa using B
  subst e;obtain⟨_,o,e,c,d⟩:=st;exists 5
 keep:=λi h y st k=>⟨st.1,st.2.at λo e=>k N #[8] o e⟩
 item:=by
  exists 4;subst j G g;obtain⟨hi,xs,W,hn⟩:=m;obtain⟨aN,t,p,hz⟩:=I.list W;have f:n-1-i<xs.length:=by omega
  obtain⟨u,A,C⟩:=t.get (i:=n-1-i) (x:=xs[n-1-i]) (by simp[f]);obtain⟨R,L,F,q,D,T⟩:=l N #[8];have e:(n:Int)-1-(i:Int)=((n-1-i:Nat):Int):=by omega
  have V:=st.2;rw[e]at V;refine wpAny_pyNext_rev_item V p.isList (x:=u) (by simpa using A) λy r J=>?_;have M:Inv X y3 σ H {s with heap:=y}:=I.turned (t':=s.toks) (λb o B e=>(J.2 b B).trans e) R L q D T;obtain⟨o,Q,c,d⟩:=id r;refine⟨u,U,Ly (s:={s with heap:=y}) Q c d #[10] ⟨xs[n-1-i],H,M,C,⟨U,λys S=>by rw[I.B4 S W];simp[f]⟩,⟨by omega,?_⟩,λb B=>(l b B).1⟩⟩;have e2:(n:Int)-1-((i+1:Nat):Int)=((n-1-i:Nat):Int)-1:=by omega
  rw[e2];exact r
 done:=by
  exists 4;subst j G g;have j5:i=n:=m;obtain⟨R,L,F,q,D,T⟩:=l N #[8];have e:(n:Int)-1-(i:Int) = -1:=by omega
  have V:=st.2;rw[e]at V;exact wpAny_pyNext_rev_end #[123] V λy eb=>⟨U,I.turned (t':=s.toks) (λb o B e=>eb b o B e) R L q D T⟩
 self:=λ_ _ _ _ _ st h=>Wy st.2 h
section
def asi(K:YW)(ta:TA):TI:=λσ H R=>ta σ H λvs H1=>∃a xs,vs=[.ref a]/\mw K H1 a xs/\R (Itv K a xs.length) H1
def akA(m:Gl X "reversed")(N:X.mg "reversed" = Y)(c:PA X [a] ta)(hs:qh [a] X.env=[(false,eval a X.env)]:=by rfl):PI X tg (.Call (.Name "reversed" p) [a] [] pos) (asi X.K ta):=by
 exists 24;refine Call_ (sH I m N Pj (Yl (bR (c pos y3 s σ H _ I h) λi T ⟨j,g,P,F,O⟩=>?_) hs rfl));obtain⟨l,xs,e,W,q⟩:=O;subst e;cases F with
 | cons r d=>
  cases d;cases r;obtain⟨t,f,n,C⟩:=P.list W;have S:=f.length;refine call_reversed_list n.isList ?_;have E:Inv X y3 σ g {T with heap:=T.heap.push (revObj l ((t.toArray.size:Int)-1))}:=P.kept (t':=T.toks) λb o e=>jA _ e;have hit:Xm (T.heap.push (revObj l ((t.toArray.size:Int)-1))) T.heap.objs.size l ((xs.length:Int)-1-((0:Nat):Int)):=by
   refine⟨_,jF _ rfl,U,?_⟩;have e:((t.toArray.size:Int)-1)=(xs.length:Int)-1-((0:Nat):Int):=by rw[jP];omega
   rw[<-e];rfl
  refine Wy hit ?_;refine⟨T.heap.objs.size,[T.heap.objs.size],_,_,g,U,E,afc l _ xs.length,⟨je _,hit⟩,λb B=>?_,q⟩;exists 12;subst e;exists 19
end
def af5{a:QX}{g:TG}(d:Nat->St->Hp->Prop)(I:d 0 σ H)(L:∀i σ H,i<=xs.length->d i σ H->mw K H a xs)(hs:∀i x σ H,i<xs.length->xs[xs.length-1-i]?=Z x->d i σ H->g x σ H λb G=>tb {D with nx:=d (i+1),ct:=d (i+1),bk:=D.nx} b G)(j:∀σ H,d xs.length σ H->D.nx σ H):
  ∃W:Nat->Nat->St->Hp->Prop,#[119]/\∀i m σ H,W i m σ H ->
   ((Itv K a xs.length).stop i H/\D.nx σ H)\/((Itv K a xs.length).go i H/\∃N:St->Hp->Prop,#[31]/\∀x H',(Itv K a xs.length).yld i H x H'->g x σ H' λb G=>tb {D with nx:=N,ct:=N,bk:=D.nx} b G):=by
 exists 3;exists 21;have q:=L i σ H c p;exists 23
 ·refine .inr ⟨⟨f,xs,q,U⟩,d (i+1),λO H' n=>⟨xs.length-(i+1),by omega,U,f,n⟩,λx H' y=>?_⟩;obtain⟨e,y⟩:=y;subst e;exact hs i x σ _ f (y xs q) p
 ·exists 17;subst e;exact .inl ⟨U,j σ H p⟩
def tq(d:Nat->St->Hp->Prop)(I:∃m,d m σ H)(hs:∀m σ H,d m σ H->c σ H λb g=>if b=true then ∃N:St->Hp->Prop,(∀O H',N O H'->∃M,M<m/\d M O H')/\tb {D with nx:=N,ct:=N,bk:=D.nx} σ g else D.nx σ g):sZ c tb D σ H:=⟨d,I,hs⟩
end L2
namespace PySem
end PySem
namespace L2
open PySem PySem.Spec PyProof.Rows
variable{X:Cx}{pos:Pos}{e value:Expr}{d y v:V}{td te tv:TE}{prog P:Qv}{w:World}{A:Around}{E Q:Value→Qz→Prop}{s:Qz}{K:YW}{a b:QX}{xs:List V}{ix:List (Option Nat)}{σ:St}{H H':Hp}{Qd:QX→Hp→Prop}{κ:Type}{o:Option V}{d' u r:Value}{kvs:List (List Key×V)}{h h':Heap}{ks:List Key}{y3:List (QX×Obj)}{t':Nat}{ob:HO}{env:Qg}{vs values:List Expr}
def rD(d:QX->Nat->List V->Hp->Prop)(I:∀D,H D=Y->d D 0 [] #[50])(L:∀D i ys H',i<=xs.length->d D i ys H'->lU K H' a xs)(hs:∀D i x ys H' (F:VK),H D=Y->xs[i]?=Z x->H' D=Z #[76]->d D i ys H'->#[7] ->
   te (#[47].set 0 (Z x)) H' F)(j:∀D ys H',H D=Y->H' D=Z #[76]->d D xs.length ys H'->Qd D H'):Bz (Itt K a) ix (aP 0) te σ H Qd:=by
 intro D X;refine⟨λi m O H'=>m=xs.length-i/\i<=xs.length/\#[83]/\∃ys,H' D=Z #[76]/\d D i ys H',⟨xs.length,by simp,je _,.inl rfl,[],ae,I D X⟩,?_⟩;exists 6;have q:=L D i ys H' W p;exists 23
 ·exists 13;obtain⟨T,g⟩:=y;subst T;have ex:=g xs q;have r:O.set 0 (Z x)=#[47].set 0 (Z x):=by
   exists 30
   ·rw[z]
   ·rw[z,Jp]
  show te (O.set 0 (Z x)) _ _;rw[r];refine hs D i x ys _ _ X ex N p λy B k C h=>⟨ys,k,C,xs.length-(i+1),by omega,U,f,.inr ⟨_,U⟩,ys++[y],ae,h⟩
 ·exists 17;subst e;exact .inl ⟨⟨xs,q,jD _⟩,j D ys H' X N p⟩
section
def Hq(K:YW)(h:X.K=K:=by rfl):IxR X (aos K):=by subst h;exact cX
def pK(K:YW)(h:X.K=K:=by rfl):IxR X (akG K):=by subst h;exact aE
end
section
variable[DecidableEq κ]
def cI(kvs:List (κ×V))(k:κ):Option V:=(kvs.find? λkv=>decide (kv.1=k)).map (·.2)
def putK(kvs:List (κ×V))(k:κ)(v:V):List (κ×V):=
 if (kvs.any λkv=>decide (kv.1=k))=true then kvs.map (λkv=>if kv.1=k then(kv.1,v)else kv)else kvs++[(k,v)]
def AG(kvs:List (κ×V))(k:κ):List (κ×V):=kvs.filter λkv=>decide (kv.1≠k)
def aff{k:κ}:cI ([]:List (κ×V)) k=Y:=rfl
def dk{p:κ×V}{r:List (κ×V)}{k:κ}(e:p.1=k):cI (p::r) k=Z p.2:=by simp[cI,Js,e]
def cW{p:κ×V}{r:List (κ×V)}{k:κ}(e:¬ p.1=k):cI (p::r) k=cI r k:=by simp[cI,Js,e]
theorem Cz(k:κ):∀kvs:List (κ×V),(kvs.any λl=>decide (l.1=k))=(cI kvs k).isSome
 |[]=>rfl
 | p::r=>by
  rw[zV];by_cases e:p.1=k
  ·simp only[dk e,decide_eq_true e,Bool.true_or,Zl]
  ·rw[cW e,decide_eq_false e,Bool.false_or];exact Cz k r
theorem R4(k j:κ)(y:V):∀kvs:List (κ×V),cI (kvs.map λl=>if l.1=k then(l.1,y)else l) j=(cI kvs j).map λx=>if j=k then y else x
 |[]=>rfl
 | p::r=>by
  have K:=R4 k j y r;rw[jy];by_cases h:p.1=k
  ·rw[if_pos h];by_cases e:p.1=j
   ·rw[dk (p:=(p.1,y)) e,dk e,zg,if_pos (e.symm.trans h)]
   ·rw[cW (p:=(p.1,y)) e,cW e,K]
  ·rw[if_neg h];by_cases e:p.1=j
   ·rw[dk (p:=p) e,dk e,zg,if_neg (λz=>h (e.trans z))]
   ·rw[cW (p:=p) e,cW e,K]
theorem Mj(k j:κ)(y:V):∀kvs:List (κ×V),cI kvs k=Y->cI (kvs++[(k,y)]) j=if j=k then Z y else cI kvs j
 |[],_=>by
  by_cases e:k=j
  ·rw[if_pos e.symm];exact dk (p:=(k,y)) e
  ·rw[if_neg (λz=>e z.symm)];exact cW (p:=(k,y)) e
 | p::r,R=>by
  rw[zW];have C:¬ p.1=k:=λz=>by rw[dk z]at R;cases R
  rw[cW C]at R;have K:=Mj k j y r R;by_cases e:p.1=j
  ·rw[dk e,dk e,if_neg (λz=>C (e.trans z))]
  ·rw[cW e,cW e,K]
def R5(kvs:List (κ×V))(k j:κ)(y:V):cI (putK kvs k y) j=if j=k then Z y else cI kvs j:=by
 unfold putK;by_cases a:(kvs.any λl=>decide (l.1=k))=true
 ·rw[if_pos a,R4];rw[Cz]at a;by_cases e:j=k
  ·obtain⟨x,J⟩:=JM.mp a;rw[if_pos e,e,J,zg,if_pos rfl]
  ·rw[if_neg e];cases cI kvs j with
   | none=>rfl
   | some x=>rw[zg,if_neg e]
 ·rw[if_neg a];refine Mj k j y kvs ?_;rw[Cz]at a;cases q:cI kvs k with
  | none=>rfl
  | some x=>rw[q]at a;exact(a rfl).elim
def mi(kvs:List (κ×V))(k:κ)(v:V):(putK kvs k v).length<=kvs.length+1:=by
 unfold putK;split
 ·rw[jQ];omega
 ·rw[jG,jX,Jc];omega
def pA.rG{u:Option Value}(r:pA o u):o.isSome=u.isSome:=by
 cases o with
 | none=>cases u with
  | none=>rfl
  | some _=>exact(show False from r).elim
 | some _=>cases u with
  | none=>exact(show False from r).elim
  | some _=>rfl
theorem pA.getD{u:Option Value}(r:pA o u)(f:RelV d d'):RelV (o.getD d) (u.getD d'):=by
 cases o with
 | none=>cases u with
  | none=>exact f
  | some _=>exact(show False from r).elim
 | some _=>cases u with
  | none=>exact(show False from r).elim
  | some _=>exact r
def KV.val{kvs:List (κ×V)}{vs:List (κ×Value)}(r:KV kvs vs)(k:κ):pA (cI kvs k) (valueAt vs k):=by
 unfold KV at r
 induction r with
 | nil=>exact True.intro
 | @cons p q ps D h t K=>
  obtain⟨G,M⟩:=h;by_cases e:p.1=k
  ·have l:q.1=k:=G.symm.trans e;have b:valueAt (q::D) k=Z q.2:=by simp[valueAt,Js,l]
   rw[dk e,b];exact M
  ·have l:¬ q.1=k:=λz=>e (G.trans z);have b:valueAt (q::D) k=valueAt D k:=by simp[valueAt,Js,l]
   rw[cW e,b];exact K
theorem KV.any{kvs:List (κ×V)}{vs:List (κ×Value)}(r:KV kvs vs)(k:κ):(kvs.any λl=>decide (l.1=k))=vs.any λl=>decide (l.1=k):=by
 unfold KV at r
 induction r with
 | nil=>rfl
 | cons h t K=>rw[zV,zV,K,h.1]
theorem KV.akJ{kvs:List (κ×V)}{vs:List (κ×Value)}(r:KV kvs vs)(k:κ)(N:RelV y u):
  KV (kvs.map λl=>if l.1=k then(l.1,y)else l) (vs.map λl=>if l.1=k then(l.1,u)else l):=by
 unfold KV at r ⊢
 induction r with
 | nil=>exact .nil
 | @cons p q ps D h t K=>
  rw[jy,jy];refine .cons ?_ K;obtain⟨G,M⟩:=h;by_cases e:p.1=k
  ·rw[if_pos e,if_pos (G.symm.trans e)];exact⟨G,N⟩
  ·rw[if_neg e,if_neg (λz=>e (G.trans z))];exact⟨G,M⟩
def KV.put{kvs:List (κ×V)}{vs:List (κ×Value)}(r:KV kvs vs)(k:κ)(N:RelV y u):KV (putK kvs k y) (stored vs k u):=by
 unfold putK stored;rw[r.any k];by_cases e:(vs.any λl=>decide (l.1=k))=true
 ·rw[if_pos e,if_pos e];exact r.akJ k N
 ·rw[if_neg e,if_neg e];exact Paired.snoc r ⟨rfl,N⟩
def KV.drop{kvs:List (κ×V)}{vs:List (κ×Value)}(r:KV kvs vs)(k:κ):KV (AG kvs k) (without vs k):=by
 unfold KV at r ⊢;unfold AG without
 induction r with
 | nil=>exact .nil
 | @cons p q ps D h t K=>
  obtain⟨G,M⟩:=h;rw[Zy,Zy];by_cases e:p.1=k
  ·have a:¬ decide (p.1≠k)=true:=by simp[e]
   have b:¬ decide (q.1≠k)=true:=by simp[G.symm.trans e]
   rw[if_neg a,if_neg b];exact K
  ·have l:¬ q.1=k:=λz=>e (G.trans z);have a:decide (p.1≠k)=true:=by simp[e]
   have b:decide (q.1≠k)=true:=by simp[l]
   rw[if_pos a,if_pos b];exact .cons ⟨G,M⟩ K
theorem KV.length{kvs:List (κ×V)}{vs:List (κ×Value)}(r:KV kvs vs):kvs.length=vs.length:=Paired.length r
def acU(kvs:List (κ×V))(k:κ):(AG kvs k).length<=kvs.length:=JI _ _
end
def wH{k:Key}(r:RelV (kV k) u):(bx P w).is k u=true:=by
 cases k with
 | inl i=>obtain⟨t,e⟩:=(show ∃t,u=Yj i t from r);subst e;exact Rb P w i t
 | inr x=>obtain⟨t,e⟩:=(show ∃t,u=yF x t from r);subst e;exact Rc P w x t
theorem LJ:∀{ks:List Key} {us:List Value},Vals (ks.map kV) us->ItemsAre (bx P w) ks us
 |[],_,r=>by rw[ZK]at r;cases r;exact .nil
 | k::ks,_,r=>by
  rw[jy]at r;cases r with
  | cons h t=>exact .cons (wH h) (LJ t)
abbrev KT(H:Hp):List #[98]->List #[71]->Prop:=Qs λp q=>p.1=q.1/\H q.2.1=Z (.tup (p.1.map kV))/\RelV p.2 q.2.2
def KT.val{xs:List #[71]}(r:KT H kvs xs)(k:List Key):pA (cI kvs k) ((atKey xs k).map (·.2)):=by
 induction r with
 | nil=>exact True.intro
 | @cons p q ps D h t K=>
  obtain⟨G,_,M⟩:=h;by_cases e:p.1=k
  ·have l:q.1=k:=G.symm.trans e;have b:atKey (q::D) k=Z q.2:=by simp[atKey,Js,l]
   rw[dk e,b];exact M
  ·have l:¬ q.1=k:=λz=>e (G.trans z);have b:atKey (q::D) k=atKey D k:=by simp[atKey,Js,l]
   rw[cW e,b];exact K
theorem KT.akJ{xs:List #[71]}(r:KT H kvs xs)(k:List Key)(N:RelV y u):
  KT H (kvs.map λl=>if l.1=k then(l.1,y)else l) (xs.map (putAt k u)):=by
 induction r with
 | nil=>exact .nil
 | @cons p q ps D h t K=>
  rw[jy,jy];refine .cons ?_ K;obtain⟨G,M,J⟩:=h;unfold putAt;by_cases e:p.1=k
  ·rw[if_pos e,if_pos (G.symm.trans e)];exact⟨G,M,N⟩
  ·rw[if_neg e,if_neg (λz=>e (G.trans z))];exact⟨G,M,J⟩
def KT.put{xs:List #[71]}(r:KT H kvs xs)(k:List Key)(B:H b=Z (.tup (k.map kV)))(N:RelV y u):
  KT H (putK kvs k y) (storedH xs k b u):=by
 have e:(kvs.any λl=>decide (l.1=k))=(atKey xs k).isSome:=by rw[Cz,(r.val k).rG,ZE]
 unfold putK storedH;rw[e];by_cases q:(atKey xs k).isSome=true
 ·rw[if_pos q,if_pos q];exact r.akJ k N
 ·rw[if_neg q,if_neg q];exact Paired.snoc r ⟨rfl,B,N⟩
def KT.keeps{xs:List #[71]}(r:KT H kvs xs)(d:∀b ys,H b=Z (.tup ys)->H' b=Z (.tup ys)):KT H' kvs xs:=
 Paired.rH r λ_ _ z=>⟨z.1,d _ _ z.2.1,z.2.2⟩
section
def aiq{u:HO}(ok:fq P w H h)(e:Rd H a u):bp P w H h a u:=e.ok ok
def wy{kvs:List #[167]}(ok:fq P w H h)(e:Rd H a #[57]):kvs.length<=sizeLine/\(a==qu)=false/\∃vs,KV kvs vs/\h.DictOf (bx P w) a vs:=
 show bp P w H h a #[57]from aiq ok e
def Py{kvs:List #[167]}(ok:fq P w H h)(e:H a=Z #[57]):kvs.length<=sizeLine/\(a==qu)=false/\∃vs,KV kvs vs/\h.DictOf (bx P w) a vs:=wy ok (.inl e)
def Bf(ok:fq P w H h)(e:H a=Z (.tup (ks.map kV))):(qv (bx P w)).is h ks a:=by obtain⟨_,t,r,o,G,M,n,J⟩:=(show bp P w H h a (.tup (ks.map kV))from ok a _ e);exact⟨o,t.toArray,n,G,M,J,by simpa using LJ r⟩
def F5(ok:fq P w H h)(e:Rd H a (.dT kvs)):kvs.length<=sizeLine/\(a==qu)=false /\
  ∃xs,KT H kvs xs/\h.DictOfH (qv (bx P w)) a xs:=by
 obtain⟨z,y,xs,r,o,b,i,G,M,c,k,d⟩:=(show bp P w H h a (.dT kvs)from aiq ok e);refine⟨z,y,xs,r,o,b,i,G,M,c,k,λx J=>?_,d⟩;have all:∀{l:List #[98]} {m:List #[71]},KT H l m->∀x∈m,(qv (bx P w)).is h x.1 x.2.1:=by
  intro l m q
  induction q with
  | nil=>intro x J;exact nomatch J
  | @cons p q ps D W t K=>
   intro x J;rcases jL.mp J with e|J
   ·subst e;exact Bf ok (by rw[<-W.1];exact W.2.1)
   ·exact K x J
 exact all r x J
def amE(ok:fq P w H h)(e:H a=Z (.dT kvs)):kvs.length<=sizeLine/\(a==qu)=false /\
  ∃xs,KT H kvs xs/\h.DictOfH (qv (bx P w)) a xs:=F5 ok (.inl e)
end
def mS(H:Hp)(a:QX)(y:V)(r:Option V):Prop:=
 (∃kvs k,Rd H a #[57]/\y=kV k/\r=cI kvs k)\/∃kvs k b,Rd H a (.dT kvs)/\y=.ref b/\H b=Z (.tup (k.map kV))/\r=cI kvs k
def Mo(H:Hp)(a:QX)(y v:V)(H':Hp):Prop:=
 (∃kvs k,H a=Z #[57]/\y=kV k/\kvs.length<sizeLine/\H'=upd H a (.dK (putK kvs k v))) \/
 ∃kvs k b,H a=Z (.dT kvs)/\y=.ref b/\H b=Z (.tup (k.map kV))/\kvs.length<sizeLine/\H'=upd H a (.dT (putK kvs k v))
theorem mS.k{kvs:List #[167]}{k:Key}(e:H a=Z #[57]):mS H a (kV k) (cI kvs k):=.inl ⟨kvs,k,.inl e,rfl,rfl⟩
theorem Mo.k{kvs:List #[167]}{k:Key}(e:H a=Z #[57])(L:kvs.length<sizeLine):Mo H a (kV k) v (upd H a (.dK (putK kvs k v))):=.inl ⟨kvs,k,e,rfl,L,rfl⟩
section
def Inv.big(I:Inv X y3 σ H s):qu<s.heap.objs.size:=by have h:qW<s.heap.objs.size:=(I.mod.glob.keeps I.bk).lt;exact zA #[10] h
def abb(R:A.units+1<cLine)(I:Inv X y3 σ H s)(g:mS H a y (Z v))(N:RelV y u)(h:∀S c,Inv X y3 σ H c->RelV v S->Q S c):
  wpAny #[4] A (getItem #[72] u) Q E s:=by
 rcases g with⟨kvs,k,e,K,l⟩|⟨kvs,k,b,e,K,M,l⟩
 ·subst K;obtain⟨z,d,vs,rel,dd⟩:=wy I.hok e;obtain⟨S,G,B⟩:=pA.some_of (v:=v) (o:=valueAt vs k) (by rw[l];exact rel.val k);exact wpAny_getItem_of (wH N) dd.mapOf G (h S _ (I.tok _) B)
 ·subst K;cases(show u=YX b from N);obtain⟨z,d,xs,rel,dd⟩:=F5 I.hok e;obtain⟨S,G,B⟩:=pA.some_of (v:=v) (o:=(atKey xs k).map (·.2)) (by rw[l];exact rel.val k);obtain⟨p,D,j⟩:=Ju.mp G;refine wpAny_getItem_heap (qw R) (Bf I.hok M) dd D ?_;rw[j];exact h S _ (I.tok _) B
def aqy(R:A.units+1<cLine)(I:Inv X y3 σ H s)(g:mS H a y o)(N:RelV y u)(h:∀c,Inv X y3 σ H c->Q (.bool o.isSome) c):
  wpAny #[4] A (qO .In u #[72]) Q E s:=by
 rcases g with⟨kvs,k,e,K,l⟩|⟨kvs,k,b,e,K,M,l⟩
 ·subst K;exists 20;refine wpAny_in_of (wH N) j dd.mapOf ?_;rw[<-(rel.val k).rG,<-l];exact h _ (I.tok _)
 ·subst K;cases(show u=YX b from N);obtain⟨z,j,xs,rel,dd⟩:=F5 I.hok e;refine wpAny_in_heap (qw R) (Bf I.hok M) j dd ?_;have q:=(rel.val k).rG;rw[ZE]at q;rw[<-q,<-l];exact h _ (I.tok _)
def afW(R:A.units+1<cLine)(I:Inv X y3 σ H s)(g:mS H a y o)(N:RelV y u)(h:∀c,Inv X y3 σ H c->Q (.bool (!o.isSome)) c):
  wpAny #[4] A (qO .NotIn u #[72]) Q E s:=by
 rcases g with⟨kvs,k,e,K,l⟩|⟨kvs,k,b,e,K,M,l⟩
 ·subst K;exists 20;refine wpAny_notIn_of (wH N) j dd.mapOf ?_;rw[<-(rel.val k).rG,<-l];exact h _ (I.tok _)
 ·subst K;cases(show u=YX b from N);obtain⟨z,j,xs,rel,dd⟩:=F5 I.hok e;refine Wo (qw R) (Bf I.hok M) j dd ?_;have q:=(rel.val k).rG;rw[ZE]at q;rw[<-q,<-l];exact h _ (I.tok _)
def sr{t':Nat}(I:Inv X y3 σ H s)(d:Mut (H a))(hs:Yf a s.heap h')(R:∃q,h'.get? a=Z q)(new:bp X.prog X.w (upd H a ob) h' a ob):
  Inv X y3 σ (upd H a ob) {s with heap:=h',toks:=t'}:=
 I.write (x:=a) (e:=a) d #[93] (λb q B z=>(hs.2 b B).trans z) R new
def Dc{kvs:List #[167]}{vs:List (Key×Value)}(z:kvs.length<=sizeLine)(j:(a==qu)=false)(rel:KV kvs vs)(dd:h'.DictOf (bx P w) a vs):
  bp P w H' h' a #[57]:=⟨z,j,vs,rel,dd⟩
def abc{Q:Unit->Qz->Prop}(R:A.units+1<cLine)(I:Inv X y3 σ H s)(g:Mo H a y v H')(N:RelV y u)(f:RelV v r)(h:∀d,Inv X y3 σ H' d->Q () d):
  wpAny #[4] A (setItem #[72] u r) Q E s:=by
 rcases g with⟨kvs,k,e,K,l,n⟩|⟨kvs,k,b,e,K,M,l,n⟩
 ·subst K n;obtain⟨z,j,vs,rel,dd⟩:=Py I.hok e;have C:vs.length<=sizeLine:=by rw[<-rel.length];exact z
  have L:(putK kvs k v).length<=sizeLine:=by have:=mi kvs k v;omega
  refine wpAny_setItem_pairs (hsz:=C) (wH N) dd λh' m hs=>h _ ?_;have i:∃q,h'.get? a=Z q:=let ⟨q,_,_,W,_⟩:=m;⟨q,W⟩;exact sr I #[91] hs i (Dc L j (rel.put k f) m)
 ·subst K n;cases(show u=YX b from N);obtain⟨z,j,xs,rel,dd⟩:=amE I.hok e;have C:xs.length<=sizeLine:=by rw[<-Paired.length rel];exact z
  have L:(putK kvs k v).length<=sizeLine:=by have:=mi kvs k v;omega
  refine YJ (hsz:=C) (qw R) (Bf I.hok M) dd λh' m hs=>h _ ?_;obtain⟨q,o,p,W,t,J,x,_,V⟩:=m;refine sr I #[91] hs ⟨q,W⟩ ⟨L,j,_,(rel.put k M f).keeps λc B P=>?_,q,o,p,W,t,J,x,V⟩;rw[ag (aA P e #[73])];exact P
end
section
variable{kvs:List (Key×V)}{k:Key}
def ahP{more:List Value}(I:Inv X y3 σ H s)(e:H a=Z #[57])(N:RelV (kV k) u)(l:cI kvs k=Z v)(b:more=[]\/∃x,more=[x])(h:∀S c,Inv X y3 σ (upd H a (.dK (AG kvs k))) c->RelV v S->Q S c):wpAny #[4] A (call (.builtin "dict.pop") (.ref a::u::more)) Q E s:=by
 obtain⟨z,j,vs,rel,dd⟩:=Py I.hok e;obtain⟨S,G,B⟩:=pA.some_of (v:=v) (o:=valueAt vs k) (by rw[<-l];exact rel.val k);have D:(keyPart u).isSome=true:=by
  cases k with
  | inl i=>obtain⟨t,q⟩:=(show ∃t,u=Yj i t from N);subst q;rfl
  | inr x=>obtain⟨t,q⟩:=(show ∃t,u=yF x t from N);subst q;rfl
 have d:argsOk "dict.pop" ⟨.ref a::u::more,[]⟩:=by
  rcases b with q|⟨x,q⟩
  ·subst q;exact PySem.F.args_dict_pop_2 _ _
  ·subst q;exact XR _ _ _
 refine qI yR dd.typeIs Xd d (meets_dict_pop_there #[154] a (wH N) more b D)
  ⟨vs,S,dd,by rw[<-rel.length];exact z,G,λh' m hs=>h S _ ?_ B⟩
 have R:∃q,h'.get? a=Z q:=let ⟨q,_,_,hq,_⟩:=m;⟨q,hq⟩;exact sr I #[91] hs R (Dc (jW (acU kvs k) z) j (rel.drop k) m)
def ai0(I:Inv X y3 σ H s)(e:H a=Z #[57])(N:RelV (kV k) u)(l:cI kvs k=Y)(h:∀c,Inv X y3 σ H c->Q r c):
  wpAny #[4] A (call (.builtin "dict.pop") [.ref a,u,r]) Q E s:=by
 obtain⟨z,j,vs,rel,dd⟩:=Py I.hok e;have R:valueAt vs k=Y:=pA.none_of (by rw[<-l];exact rel.val k);have D:(keyPart u).isSome=true:=by
  cases k with
  | inl i=>obtain⟨t,q⟩:=(show ∃t,u=Yj i t from N);subst q;rfl
  | inr x=>obtain⟨t,q⟩:=(show ∃t,u=yF x t from N);subst q;rfl
 exact qI yR dd.typeIs Xd (XR _ _ _) (meets_dict_pop_default #[154] a (wH N) j D r) ⟨vs,dd,R,h _ (I.tok _)⟩
def amC(I:Inv X y3 σ H s)(e:Rd H a #[57])(h:∀t c,Inv X y3 σ H c->Q (.int kvs.length t) c):wpAny #[4] A (call (.builtin "len") [.ref a]) Q E s:=by exists 20;refine call_len_dict j dd (by rw[<-rel.length];rw[qg]at z;omega) ?_;rw[<-rel.length];exact h _ _ (I.tok _)
end
def amk(i:Expr):Prop:=∀ov iv,subscripted i false ov iv=operate [ov,iv] (getItem ov iv)
def ahu{b:Expr}{T id:String}(L:typeLookup (.type T) "__getitem__" = pure (Z #[174]))(hs:amk b)(h:wpAny #[5] A (eval value env) (λo O=>wpAny #[5] A (eval b env) (λi d=>d.TypeIs o T/\wpAny #[5] A (getItem o i) Q E d) E O) E s):
  wpAny #[5] A (eval (.Subscript value b pos) env) Q E s:=by
 refine qB (Wj h (λo O j=>Wj j (λi d l=>?_) λ_ _ x=>x) λ_ _ x=>x);obtain⟨c,l⟩:=l;unfold subscriptTail;exists 34;rw[getitemInPython_of_ne c.not_modules];refine WI (YL c L ?_);have a:wpAny #[5] A (subscripted b false o i) (λr e=>wpAny #[5] A (letTemporaryGo value o r>>=λ_=>pure r) Q E e) E d:=by rw[hs o i];exact wpAny_operating (Wj l (λr e q=>WI (wpAny_letTemporaryGo (Wv q))) λ_ _ x=>x)
 first
  | exact Wv (WI a)
  | exact WI (Wv (WI a))
  | exact WI a
def Pw(I:Inv X y3 σ H s)(g:mS H a y o):s.TypeIs #[72] "dict" :=by
 rcases g with⟨kvs,k,e,_,_⟩|⟨kvs,k,b,e,_,_,_⟩
 ·obtain⟨_,_,vs,_,dd⟩:=wy I.hok e;exact dd.typeIs
 ·obtain⟨_,_,xs,_,dd⟩:=F5 I.hok e;exact dd.typeIs
inductive ahx (Q:VK) (x:V) (y:V) (H2:Hp):Prop
 | mk (a:_) (v:_) (_:x=.ref a) (_:mS H2 a y (Z v)) (_:Q v H2)
def aoN(td ty:TE):TE:=λσ H Q=>td σ H λx H1=>ty σ H1 (ahx Q x)
inductive ak7 (Q:VK) (y:V) (x:V) (H2:Hp):Prop
 | mk (a:_) (o:_) (_:x=.ref a) (_:mS H2 a y o) (_:Q (.bl o.isSome) H2)
def atA(ty td:TE):TE:=λσ H Q=>ty σ H λy H1=>td σ H1 (ak7 Q y)
inductive aca (Q:VK) (y:V) (x:V) (H2:Hp):Prop
 | mk (a:_) (o:_) (_:x=.ref a) (_:mS H2 a y o) (_:Q (.bl (!o.isSome)) H2)
def ahy(ty td:TE):TE:=λσ H Q=>ty σ H λy H1=>td σ H1 (aca Q y)
def aoC(td ty tv:TE):TS:=λD σ H=>tv σ H λv H1=>td σ H1 λx H2=>ty σ H2 λy H3=>∃a H4,x=.ref a/\Mo H3 a y v H4/\D.nx σ H4
section
variable{o i:Expr}{pos':Pos}{ty:TE}
def Cc(R:X.A.units+1<cLine)(V:PE X o td)(W:PE X i ty)(hs:amk i):PE X (.Subscript o i pos) (aoN td ty):=by exists 2;refine ahu PySem.F.slot_dict_getitem.lookup hs (bR #[103] λu T ⟨x,b,P,c,O⟩=>bR (W y3 T σ b _ P O) λz j ⟨y,G,E,N,a,v,ex,g,n⟩=>?_);subst ex;obtain rfl:u=YX a:=c;exact⟨Pw E g,abb R E g N λS J q B=>⟨v,G,q,B,n⟩⟩
def akq(R:X.A.units+1<cLine)(W:PE X i ty)(V:PE X o td):PC X .In i o (atA ty td):=by exists 2;refine bR (W y3 s σ H _ I h) λz T ⟨y,b,P,N,O⟩=>bR (V y3 T σ b _ P O) λu j ⟨x,G,E,F,a,D,ex,g,n⟩=>?_;subst ex;obtain rfl:u=YX a:=F;exact aqy R E g N λJ q=>⟨.bl D.isSome,G,q,U,n⟩
def Dq(R:X.A.units+1<cLine)(W:PE X i ty)(V:PE X o td):PC X .NotIn i o (ahy ty td):=by exists 2;refine bR (W y3 s σ H _ I h) λz T ⟨y,b,P,N,O⟩=>bR (V y3 T σ b _ P O) λu j ⟨x,G,E,F,a,D,ex,g,n⟩=>?_;subst ex;obtain rfl:u=YX a:=F;exact afW R E g N λJ q=>⟨.bl (!D.isSome),G,q,U,n⟩
def Ci(R:X.A.units+1<cLine)(V:PE X o td)(W:PE X i ty)(M:PE X value tv)(hs:qq value (Z (.Subscript o i pos')) pos.line X.env=pure false):
  PS X (.Assign [.Subscript o i pos'] value pos) (aoC td ty tv):=by
 exists 18;refine qz (bR (M y3 s σ H _ I h) λr T ⟨v,b,P,f,O⟩=>bR (V y3 T σ b _ P O) λu j ⟨x,G,E,F,n⟩=>bR (W y3 j σ G _ E n) λz J ⟨y,d,q,N,a,B,ex,g,p⟩=>?_) hs;subst ex;obtain rfl:u=YX a:=F;exact abc R q g N f λe c=>⟨σ,B,c,p⟩
end
def Px(h:Heap)(B:qu<h.objs.size):bp P w H (h.push {cls:=.type "dict",data:=.dict #[]}) h.objs.size (.dK []):=
 ⟨je _,beq_eq_false_iff_ne.mpr (Ne.symm (jM B)),[],.nil,xh h⟩
def ak8:TE:=λ_ H Q=>∀p,H p=Y->Q (.ref p) (upd H p (.dK []))
section
def oU:PE X (.Dict [] [] pos) ak8:=λy3 s σ H Q I h=>
 wpAny_Dict_empty ⟨.ref s.heap.objs.size,_,I.laid (a:=s.heap.objs.size) (o:=.dK []) (t':=s.toks) (λ_ _ q=>jA _ q) (jD _) (Px s.heap I.big),rfl,h _ #[60]⟩
end
def OE:List (TE×TE)->St->Hp->(List (V×V)->Hp->Prop)->Prop
 |[],_,H,Q=>Q [] H
 |(tk,tv)::r,σ,H,Q=>tk σ H λx H1=>tv σ H1 λy H2=>OE r σ H2 λps H3=>Q ((x,y)::ps) H3
abbrev VV:List (V×V)->List (Value×Value)->Prop:=Qs λp q=>RelV p.1 q.1/\RelV p.2 q.2
def PPs(X:Cx)(pos:Pos)(keys:List (Option Expr))(values:List Expr)(trs:List (TE×TE)):Prop:=
 ∀(y3:List #[51]) (s:Qz) (σ:St) (H:Hp) (Q:List (V×V)->Hp->Prop),Inv X y3 σ H s->OE trs σ H Q ->
  wpAny #[4] X.A (evalPairs (pairTrees keys values X.env pos)) (λvs s'=>∃ps H',Inv X y3 σ H' s'/\VV ps vs/\Q ps H') X.xe s
def EZ:PPs X pos [] [] []:=λy3 s σ H Q I h=>pairTrees_nil_walk ⟨[],H,I,.nil,h⟩
def wN{k v:Expr}{ks:List (Option Expr)}{tk:TE}{f:List (TE×TE)}(C:PE X k tk)(M:PE X v tv)(S:PPs X pos ks vs f):
  PPs X pos (Z k::ks) (v::vs) ((tk,tv)::f):=λy3 s σ H Q I h=>
 pairTrees_cons_walk (bR (C y3 s σ H _ I h) λu T ⟨x,g,P,F,O⟩=>bR (M y3 T σ g _ P O) λB j ⟨y,G,E,N,n⟩=>
  bR (S y3 j σ G _ E n) λa J ⟨ps,o,q,rel,p⟩=>⟨(x,y)::ps,o,q,.cons ⟨F,N⟩ rel,p⟩)
def dw(kvs more:List #[167]):List #[167]:=more.foldl (λo4 kv=>putK o4 kv.1 kv.2) kvs
def KV.merge:∀{more:List #[167]} {d:List (Key×Value)} {kvs:List #[167]} {vs:List (Key×Value)},KV more d->KV kvs vs->KV (dw kvs more) (merged vs d):=by
 intro more d kvs vs r;unfold KV at r
 induction r generalizing kvs vs with
 | nil=>intro q;exact q
 | @cons p q ps D h t K=>
  intro b;have e:KV (putK kvs p.1 p.2) (stored vs q.1 q.2):=by have:=b.put p.1 h.2;rw[<-h.1];exact this
  exact K e
theorem pX:∀(more kvs:List #[167]),(dw kvs more).length<=kvs.length+more.length
 |[],kvs=>by show kvs.length<=kvs.length+0;omega
 | p::r,kvs=>by have G:=pX r (putK kvs p.1 p.2);have M:=mi kvs p.1 p.2;show(dw (putK kvs p.1 p.2) r).length<=_;rw[jX];omega
theorem FX{P:Qv}{w:World}:∀{kvs:List #[167]} {C:List (Value×Value)},VV (kvs.map λl=>(kV l.1,l.2)) C->∃d,Carries (bx P w) C d/\KV kvs d
 |[],_,r=>by rw[ZK]at r;cases r;exact⟨[],True.intro,.nil⟩
 | p::kvs,_,r=>by
  rw[jy]at r;cases r with
  | @cons a b s bs h t=>
   obtain⟨d,c,q⟩:=FX (P:=P) (w:=w) t;obtain⟨X,N⟩:=b;exact⟨(p.1,N)::d,⟨wH h.1,U,c⟩,.cons ⟨U,h.2⟩ q⟩
def aoP(trs:List (TE×TE)):TE:=λσ H Q=>∀p,H p=Y->OE trs σ (upd H p (.dK [])) λps H2=>H2 p=Z (.dK [])/\∃kvs:List #[167],ps=kvs.map (λkv=>(kV kv.1,kv.2))/\kvs.length<=15/\Q (.ref p) (upd H2 p (.dK (dw [] kvs)))
def aam{keys:List (Option Expr)}{f:List (TE×TE)}(h:PPs X pos keys values f)(p:keys.all (·.isSome)=true)(L:keys.length=values.length)(b:keys≠[])(g:keys.length<=15):PE X (.Dict keys values pos) (aoP f):=by
 intro y3 s σ H Q I q;have R:=I.hok.fresh (jD s.heap.objs.size);have d:=I.laid (a:=s.heap.objs.size) (o:=.dK []) (h':=s.heap.push {cls:=.type "dict",data:=.dict #[]}) (t':=s.toks) (λ_ _ q=>jA _ q) (jD _) (Px s.heap I.big);refine wpAny_Dict_walk (knd:=bx X.prog X.w) p L b g (bR (h y3 _ σ _ _ d (q _ R)) λv x ⟨ps,y,E,rel,e,kvs,i,M,n⟩=>?_);subst i;obtain⟨j,c,l⟩:=FX (P:=X.prog) (w:=X.w) rel;obtain⟨z,k,r,t,dd⟩:=Py E.hok e;cases t;refine⟨j,c,dd,λh' m hs=>⟨.ref s.heap.objs.size,_,?_,U,n⟩⟩;have C:(dw [] kvs).length<=sizeLine:=by have G:=pX kvs [];rw[Jc]at G;rw[qg];omega
 have u:∃q,h'.get? s.heap.objs.size=Z q:=let ⟨q,_,_,hq,_⟩:=m;⟨q,hq⟩;exact sr E #[91] hs u (Dc C k (l.merge .nil) m)
structure M1(X:Cx)(o:Expr)(m:Str)(y4:Pos)(e:Expr)(dv:Pos):Prop where
 base:attributeBase o m X.env (eval o X.env)=eval o X.env
 A2:((backTo dv (qh [e] X.env)).all (λx=>!x.1)&&(backToKw dv (keywordEach [] X.env)).all (λx=>x.1.isSome)
  && decide (([e]:List Expr).length+([]:List Qq).length+(if ([]:List Qq).isEmpty then 0 else 1)<30))=true
 line:(y4.endLine==dv.line)=true
 trees:backTo dv (qh [e] X.env)=[#[18]]
structure M2(X:Cx)(o:Expr)(m:Str)(y4:Pos)(e f:Expr)(dv:Pos):Prop where
 base:attributeBase o m X.env (eval o X.env)=eval o X.env
 A2:((backTo dv (qh [e,f] X.env)).all (λx=>!x.1)&&(backToKw dv (keywordEach [] X.env)).all (λx=>x.1.isSome)
  && decide (([e,f]:List Expr).length+([]:List Qq).length+(if ([]:List Qq).isEmpty then 0 else 1)<30))=true
 line:(y4.endLine==dv.line)=true
 trees:backTo dv (qh [e,f] X.env)=[#[18],(false,eval f X.env)]
def IsD(H:Hp)(a:QX):Prop:=(∃kvs,Rd H a #[57])\/∃kvs,Rd H a (.dT kvs)
def MZ(I:Inv X y3 σ H s)(d:IsD H a):
  s.TypeIs #[72] "dict" /\ (∀b,YX a=.ref b->∃ob,s.heap.get? b=Z ob/\ob.dict=Y)/\(a==qu)=false:=by
 rcases d with⟨kvs,e⟩|⟨kvs,e⟩
 ·obtain⟨_,j,vs,_,dd⟩:=wy I.hok e;refine⟨dd.typeIs,λb q=>?_,j⟩;cases q;obtain⟨ob,_,_,G,M,_⟩:=dd;exact⟨ob,G,M.2.1⟩
 ·obtain⟨_,j,xs,_,dd⟩:=F5 I.hok e;refine⟨dd.typeIs,λb q=>?_,j⟩;cases q;obtain⟨ob,_,_,G,M,_⟩:=dd;exact⟨ob,G,M.2.1⟩
section
def aiZ(R:A.units+1<cLine)(I:Inv X y3 σ H s)(g:mS H a y o)(N:RelV y u)(f:RelV d r)(h:∀S c,Inv X y3 σ H c->RelV (o.getD d) S->Q S c):
  wpAny #[4] A (call (.builtin "dict.get") [.ref a,u,r]) Q E s:=by
 rcases g with⟨kvs,k,e,K,l⟩|⟨kvs,k,b,e,K,M,l⟩
 ·subst K;exists 20;refine qI yG dd.typeIs yi (XS _ _ _) (meets_dict_get_default #[154] a (wH N) j r) ⟨_,dd.mapOf,h _ _ (I.tok _) ?_⟩;rw[l];exact(rel.val k).getD f
 ·subst K;cases(show u=YX b from N);obtain⟨z,j,xs,rel,dd⟩:=F5 I.hok e;refine qI yG dd.typeIs yi (XS _ _ _) (meetsH_dict_get_default (qv #[154]) a b j r) ⟨qw R,k,xs,Bf I.hok M,dd,h _ _ (I.tok _) ?_⟩;rw[l];exact(rel.val k).getD f
end
inductive ae4 (ty:TE) (tx:TE) (σ:St) (Q:VK) (x:V) (H1:Hp):Prop
 | mk (a:_) (_:x=.ref a) (_:IsD H1 a) (_:ty σ H1 λy H2=>tx σ H2 λz H3=>∃o,mS H3 a y o/\Q (o.getD z) H3)
def ak6(td ty tx:TE):TE:=λσ H Q=>td σ H (ae4 ty tx σ Q)
inductive ae5 (ty:TE) (σ:St) (Q:VK) (x:V) (H1:Hp):Prop
 | mk (a:_) (_:x=.ref a) (_:IsD H1 a) (_:ty σ H1 λy H2=>∃kvs k v,H2 a=Z #[57]/\y=kV k/\cI kvs k=Z v/\Q v (upd H2 a (.dK (AG kvs k))))
def ak9(td ty:TE):TE:=λσ H Q=>td σ H (ae5 ty σ Q)
inductive ae6 (ty:TE) (tx:TE) (σ:St) (Q:VK) (x:V) (H1:Hp):Prop
 | mk (a:_) (_:x=.ref a) (_:IsD H1 a) (_:ty σ H1 λy H2=>tx σ H2 λz H3=>∃kvs k,H3 a=Z #[57]/\y=kV k/\(∀v,cI kvs k=Z v->Q v (upd H3 a (.dK (AG kvs k))))/\(cI kvs k=Y->Q z H3))
def ala(td ty tx:TE):TE:=λσ H Q=>td σ H (ae6 ty tx σ Q)
section
variable{o f:Expr}{y4 dv:Pos}{ty tx:TE}
def aeh(R:X.A.units+1<cLine)(V:PE X o td)(b:PE X e ty)(l:PE X f tx)(m:M2 X o "get" y4 e f dv):PE X (.Call (.Attribute o "get" y4) [e,f] [] dv) (ak6 td ty tx):=by
 exists 2;refine WC m.base m.A2 m.line Yw yG Xf (bR #[103] λu T ⟨x,c,P,F,a,ex,d,O⟩=>?_);subst ex;obtain rfl:u=YX a:=F;obtain⟨t,S,_⟩:=MZ P d;exists t,S;rw[m.trees];refine Ys rfl (yB (Yn (bR (b y3 T σ c _ P O) λr j ⟨y,G,E,N,n⟩=>
  Yn (bR (l y3 j σ G _ E n) λv J ⟨z,i,q,W,D,g,p⟩=>yD ?_))))
 exact aiZ R q g N W λw C k B=>⟨_,i,k,B,p⟩
def Rt(V:PE X o td)(R:PE X e ty)(m:M1 X o "pop" y4 e dv):PE X (.Call (.Attribute o "pop" y4) [e] [] dv) (ak9 td ty):=by exists 2;refine WC m.base m.A2 m.line Yw yR Xg (bR #[103] λu T ⟨x,g,P,F,a,ex,d,O⟩=>?_);subst ex;obtain rfl:u=YX a:=F;obtain⟨t,S,_⟩:=MZ P d;exists t,S;rw[m.trees];refine Ys rfl (yB (Yn (bR (R y3 T σ g _ P O) λz j ⟨y,G,E,N,kvs,k,v,L,K,l,n⟩=>yD ?_)));subst K;exact ahP E L N l #[93] λb J q B=>⟨v,_,q,B,n⟩
def aei(V:PE X o td)(R:PE X e ty)(b:PE X f tx)(m:M2 X o "pop" y4 e f dv):PE X (.Call (.Attribute o "pop" y4) [e,f] [] dv) (ala td ty tx):=by
 exists 2;refine WC m.base m.A2 m.line Yw yR Xg (bR #[103] λu T ⟨x,g,P,F,a,ex,d,O⟩=>?_);subst ex;obtain rfl:u=YX a:=F;obtain⟨t,S,_⟩:=MZ P d;exists t,S;rw[m.trees];refine Ys rfl (yB (Yn (bR (R y3 T σ g _ P O) λC j ⟨y,G,E,N,n⟩=>
  Yn (bR (b y3 j σ G _ E n) λc J ⟨z,p,q,W,kvs,k,L,K,r,w⟩=>yD ?_))))
 subst K;cases l:cI kvs k with
 | some v=>exact ahP q L N l (.inr ⟨c,rfl⟩) λD A i B=>⟨v,_,i,B,r v l⟩
 | none=>exact ai0 q L N l λA i=>⟨z,p,i,W,w l⟩
end
section
variable{kvs:List (Key×V)}
def acR(I:Inv X y3 σ H s)(e:Rd H a #[57])(h:∀p c,H p=Y->Inv X y3 σ (upd H p #[57]) c->Q (.ref p) c):wpAny #[4] A (call #[124] [.ref a]) Q E s:=by exists 20;refine kt_call_dict j dd (by rw[<-rel.length];exact z) λh' m hs=>?_;refine h _ _ #[60] (I.laid (a:=s.heap.objs.size) (o:=.dK kvs) (t':=s.toks) (λb q W=>?_) (jD _) (Dc z (beq_eq_false_iff_ne.mpr (Ne.symm (jM I.big))) rel m));exact(hs.2 b (jM (jI W))).trans (jA _ W)
end
section
variable[DecidableEq κ]
theorem B5:∀{l:List κ} {k:κ},l.Nodup->¬ k∈l->(l++[k]).Nodup
 |[],k,_,_=>by simp
 | a::r,k,h,C=>by
  obtain⟨G,M⟩:=jn.mp h;show(a::(r++[k])).Nodup;refine jn.mpr ⟨λm=>?_,B5 M λm=>C (jL.mpr (Or.inr m))⟩;rcases Jb.mp m with q|q
  ·exact G q
  ·exact C (jL.mpr (Or.inl (jH.mp q).symm))
end
end L2
namespace PySem
open Sem (wp)
open Builtin
end PySem
namespace L2
open PySem PySem.Spec PyProof.Rows
variable{X:Cx}{a f:QX}{b body:List Stmt}{e c:Expr}{es:List Expr}{tb u:TS}{te:TE}{t:TA}{pos pos' p:Pos}{st:Stmt}{i j n:Nat}{x qual:Str}{tc:TT}{wi:TI}{P:Qv}{w:World}{H:Hp}{h B base:Heap}{K:YW}{mg:Str→Option Value}{N:List Str}{scope:Scope}{cd:Value}{A:Around}{outer:List Qg}{s:Qz}{eN:List V}{sp:Sp}
structure ER(X:Cx)(e:Expr)(t:TE):Prop where
 out:PE X e t
structure PAW(X:Cx)(es:List Expr)(t:TA):Prop where
 out:PA X es t
structure PTW(X:Cx)(e:Expr)(t:TT):Prop where
 out:PT X e t
structure iU(X:Cx)(s:Stmt)(t:TS):Prop where
 out:PS X s t
structure OZ(X:Cx)(s:List Stmt)(t:TS):Prop where
 out:K8 X s t
section
variable{a b:Expr}{tb:TE}
def DP:PAW X [] ae9:=⟨af⟩
def dq(l:ER X e te)(S:PAW X es t)(hs:qh (e::es) X.env=#[18]::qh es X.env:=by rfl):PAW X (e::es) (aaM te t):=⟨aa l.out S.out hs⟩
def afh(h:PAW X es t):ER X (.List es pos) (aoT t):=⟨bI h.out⟩
def afi{x1}(h:PAW X es t):ER X (.Tuple es x1 pos) (ao0 t):=⟨ck h.out⟩
variable{rest:List Stmt}{ts us:TS}
def afj:OZ X [] bO:=⟨bq⟩
def aJ(h1:iU X st ts)(M:OZ X rest us):OZ X (st::rest) (V8 ts us):=⟨ah h1.out M.out⟩
def mJ(h1:iU X st ts):OZ X [st] ts:=⟨aq h1.out⟩
def ao8(R:ER X e te):iU X (.Return (Z e) pos) (aoX te):=⟨aH R.out⟩
def alq(R:ER X e te)(hs:qq e Y pos.line X.env=pure false:=by rfl):iU X (.Expr e pos) (aiB te):=⟨aS R.out hs⟩
def R6(a:X.N.Nodup)(W:X.N[i]?=Z x)(J:Loc X.env.scope x)(R:ER X e te)(hs:qq e (Z (.Name x pos')) pos.line X.env=pure false:=by rfl)(l:X.fn x=true\/X.env.scope.names.lookup x=Z .local:=by first|exact .inl rfl|exact .inr rfl|assumption):
  iU X (.Assign [.Name x pos'] e pos) (oy te (aP i)):=⟨aew a W J R.out hs l⟩
def ao7{a b:List Stmt}(O:PTW X c tc)(l:OZ X a ts)(B:OZ X b u):iU X (.If c a b pos) (ale tc ts u):=⟨cC O.out l.out B.out⟩
def ao6{a iter:Expr}{g:TG}{tb:TS}(D:Qt #[4] X.A X.env X.xe)(O:X.calm=true)(W:PI X a iter wi)(m:PG X a g)(B:OZ X body tb)(hs:∀x,foldedSetIterable iter X.env x=pure x:=by intro _;rfl):iU X (.For a iter body [] pos) (rl wi g tb):=⟨bL D O W m B.out hs⟩
def si{b:List Stmt}{R:TS->Prop}(h:OZ X b ts)(r:R ts):∃t,K8 X b t/\R t:=⟨ts,h.out,r⟩
end
theorem bp.ex:∀{o:HO},bp P w H h a o->∃t,h.get? a=Z t
 | .lst _,⟨_,_,_,_,e⟩=>⟨_,e⟩
 | .tup _,⟨_,_,_,o,e,_⟩=>⟨o,e⟩
 | .dK _,⟨_,_,_,_,o,_,_,e,_⟩=>⟨o,e⟩
 | .dT _,⟨_,_,_,_,o,_,_,e,_,_,_,_⟩=>⟨o,e⟩
 | .set _ _,⟨o,_,_,_,e,_⟩=>⟨o,e⟩
 | .ins _ _ _,⟨_,_,_,e,_⟩=>⟨_,e⟩
 | .own _,⟨o,e⟩=>⟨o,e⟩
 | .xd _,⟨_,⟨o,_,_,e,_⟩,_⟩=>⟨o,e⟩
 | .rng _ _,⟨_,_,_,e⟩=>⟨_,e⟩
 | .Av _ _,⟨e,_⟩=>⟨_,e⟩
 | .Cw _,e=>⟨_,e⟩
 | .met _ _,e=>⟨_,e⟩
 | .ext _,⟨_,⟨o,e⟩,_⟩=>⟨o,e⟩
theorem fq.none(x:fq P w H h)(e:h.get? a=Y):H a=Y:=by
 cases q:H a with
 | none=>rfl
 | some o=>
  obtain⟨t,l⟩:=(x a o q).ex;rw[e]at l;cases l
def fq.less(x:fq P w H h)(k:∀b u,(∃o,H b=Z o)->h.get? b=Z u->B.get? b=Z u):fq P w H B:=λa o e=>
 (x a o e).Ae (λb u c q=>k b u (by
  rcases c with z|z
  ·rw[z];exact⟨o,e⟩
  ·exact⟨_,z⟩) q) (λ_ z=>z) λ_ _ z=>z
theorem Un.fly{fs:List QX}{g:Hp}{h1 M:Heap}(u:Un fs [] H g h h1)(c:B.StaysIn M)(f:∀b o d,h.get? b=Z o->h1.get? b=Z d->b∉fs->B.get? b=Z d)(frame:∀b o,b∈fs->h1.get? b=Z o->∃P,M.get? b=Z {o with slots:=P}):Un fs [] H g h M where
 keep:=λb o q n a J=>c b o (f b o o q (u.keep b o q n a J) a)
 slot:=λb o q n a J=>by obtain⟨P,e⟩:=u.slot b o q n a J;obtain⟨A,l⟩:=frame b _ a e;exact⟨A,l⟩
 free:=u.free
 there:=λb o q J=>by
  obtain⟨r,e⟩:=u.there b o q J;by_cases a:b∈fs
  ·obtain⟨P,l⟩:=frame b _ a e;exact⟨_,l⟩
  ·exact⟨r,c b r (f b o r q e a)⟩
 tups:=u.tups
 frzs:=u.frzs
 tbls:=u.tbls
section
def wL(b:QX):b∈De (envOfC qual scope s.heap.objs.size f cd::outer)↔b=s.heap.objs.size\/b∈De outer:=by unfold De;rw[zH];show b∈(s.heap.objs.size::_)↔_;rw[jL]
end
abbrev VEm:List Value:=[.type "ValueError",.type "Exception",.type "BaseException",.type "object"]
section
variable{k:Nat}{ps:List Str}
def aal(G:bc X.prog X.w X.K X.mg X.base x k ps eN sp)(S:cL j X.A)(l:PA X (e::es) t)(hkj:k<=j:=by decide)(m:Gl X x:=by rfl)(b:#[17]=false:=by decide)(R:qh (e::es) X.env=#[18]::qh es X.env:=by rfl)(a:#[20].any (·.1)=false:=by rfl):
  PE X #[16] (Mi sp eN E0 t):=by
 obtain⟨f,v,d,N,C,c,B,F⟩:=G.ex;exact Ob F #[163] m N C B c (λ_ _ _ _ _ _ _ h=>h.elim) l b R a
end
section
variable{v1 v2:Expr}{rest:List Expr}
abbrev TF:=St->Hp->(Str->Hp->Prop)->Prop
def PF(X:Cx)(e:Expr)(t:TF):Prop:=∀(y3:List #[51]) (s:Qz) (σ:St) (H:Hp) (Q:Str->Hp->Prop),Inv X y3 σ H s->t σ H Q ->
 wpAny #[4] X.A (eval e X.env) (λu s'=>∃x tk H',u=.str x tk/\Inv X y3 σ H' s'/\x.length<=1000/\Q x H') X.xe s
def akx{k:Nat}(J:x.length<=1000:=by decide):PF X (.Constant (.str x) k pos) (λ_ H Q=>Q x H):=λV s m H Q I q=>
 Xz (show _ from⟨x,_,H,rfl,I.tok _,J,q⟩)
def atD(te:TE):TF:=λσ H Q=>te σ H λv H1=>(∃x,v=.str x/\x.length<=1000/\Q x H1)\/∃i:Int,v=.int i/\i.natAbs.log2<1920/\(Str.ofString (toString i)).length<=1000/\Q (Str.ofString (toString i)) H1
def akw(R:PE X e te):PF X (.FormattedValue e (-1) Y pos) (atD te):=by
 intro V s m H Q I h;refine FormattedValue_plain (bR (R V s m H _ I h) λu T ⟨v,g,P,r,q⟩=>?_);rcases q with⟨x,rfl,J,q⟩|⟨i,rfl,j,J,q⟩
 ·obtain⟨tk,rfl⟩:=(show ∃t,u=yF x t from r);exact formatField_str (λl f=>⟨x,l,g,U,P.tok _,J,q⟩) (jW J #[10])
 ·obtain⟨tk,rfl⟩:=(show ∃t,u=Yj i t from r);exact formatField_int_small j ⟨_,_,g,U,P.tok _,J,q⟩
def PFs(X:Cx)(n:Nat)(es:List Expr)(t:TF):Prop:=∀(y3:List #[51]) (s:Qz) (σ:St) (H:Hp) (Q:Str->Hp->Prop) (out:Str),out.length<=n->Inv X y3 σ H s->t σ H Q ->
 wpAny #[4] X.A (joinParts out (evalEach es X.env)) (λu s'=>∃x tk H',u=.str x tk/\Inv X y3 σ H' s'/\Q x H') X.xe s
def aoR:TF:=λ_ H Q=>∀x,Q x H
def alc(t1 t2:TF):TF:=λσ H Q=>t1 σ H λ_ H1=>t2 σ H1 Q
def ag7(R:n<=sizeLine:=by decide):PFs X n [] aoR:=λa s m H Q c V I h=>joinParts_nil ⟨c,_,H,rfl,I.tok _,h c⟩ (jW V R)
def Rv{t S:TF}(h1:PF X e t)(M:PFs X (n+1000) es S)(R:n+1000<=sizeLine:=by decide):PFs X n (e::es) (alc t S):=by
 intro V s m H Q c b I h;refine joinParts_cons (bR (h1 V s m H _ I h) λu T ⟨x,tk,g,a,P,J,q⟩=>?_);subst a;have L:(c++x).length<=n+1000:=by rw[strLen_append];omega
 exact⟨jW L R,M V T m g Q (c++x) L P q⟩
def aoS(t:TF):TE:=λσ H Q=>t σ H λx H1=>Q (.str x) H1
def ag5{t:TF}(h:PFs X 0 (v1::v2::rest) t):PE X (.JoinedStr (v1::v2::rest) pos) (aoS t):=by intro V s m H Q I q;exact JoinedStr_many (bR (h V s m H _ Str.empty #[10] I q) λu T ⟨x,tk,g,R,P,O⟩=>⟨.str x,g,P,⟨tk,R⟩,O⟩)
end
end L2
namespace L2
open PySem PySem.Spec PySem.W PySem.Builtin PySem.Builtin.Getset_descriptor
variable{prog:Qv}{w:World}{A:Around}{E:Value→Qz→Prop}{s:Qz}{K:YW}{ob:Obj}{h hh:Heap}{tp aie:Value}{R:Result→Qz→Prop}{t:Nat}{Q:Option Value→Qz→Prop}
structure FK(K:YW)(C:QX):Prop where
 ga:findIn K #[30] "__getattribute__" = Z (Z (.builtin "BaseException.__getattribute__"))
 gt:findIn K #[30] "__getattr__" = Z Y
 cl:findIn K #[30] "__class__" = Z (Z #[33])
 gg:specialIn K #[33] "__get__" = Z (Z #[40])
 tk:takesIn K #[33]=Z true
 ob:mroIn K C #[87]=Z true
 be:mroIn K C #[86]=Z true
 ci:(clsIn K C).isSome=true
section
variable{ea C:QX}
def acZ{M:Model}(c:FK K C)(X:K.In h):Looks M h (XT #[192] #[30] "__class__") (.bind #[40] #[33]):=by have B:=looks_findIn (M:=M) X c.cl;have W:Looks M h (Gb (Z #[33])) (Z #[40]):=looks_specialIn (M:=M) X c.gg;have o:=looks_takesIn (M:=M) X c.tk;have a:Looks M h (xO (Z #[33]) (Z #[40])) (Z (.builtin "getset_descriptor.__get__",.builtin "object.__class__")):=o.andThen .now;unfold XT;exact B.andThen (W.andThen (a.andThen (Looks.tag .now)))
def af0(X:K.In s.heap)(LT:Looks #[5] s.heap (typeOf #[192]) #[30])(N:mroIn K C #[87]=Z true)(q:R (.ok (.ret #[30])) s):
  codeAny #[5] A (.call #[40] ⟨[.builtin "object.__class__",.ref ea,tp],[]⟩) R s:=by
 have a:=qV (M:=model prog w) X N;obtain⟨D,b,n,tk,os⟩:=s;dsimp only at LT a;refine qK KF.slot_gs.plain KF.entry_gs (KF.slot_gs.check _ _ _ _ _ _ _ _ KF.type_class (KF.args_gs _ _ _) ?_);unfold Builtin.«getset_descriptor.__get__» descrGet;rw[dga_obj];refine WI (Wv ?_);unfold descrGetter descrCheckInstance descrNameAndClass isInstance;simp only[KF.owner_class];repeat lk
 refine⟨Code.quiet_builtin _ #[1],qJ KF.entry_class ?_⟩;unfold Builtin.«object.__class__» shownTypeOf
 repeat lk
 exact q
def Lu{M:Model}{g:Array Qi}{d:Qe}{os:OsState}{Q:Unit->Qz->Prop}(e:Looks M hh (isInstance #[192] #[86]) true)(W:Q () ⟨hh,g,d,t,os⟩):
  wpAny M A (checkBuiltinCall "BaseException.__getattribute__" ⟨[.ref ea,aie],[]⟩) Q E ⟨hh,g,d,t,os⟩:=by
 have C:builtinKind "BaseException.__getattribute__" = Z .slot:=by decide +kernel
 have a:splitId "BaseException.__getattribute__" = Z ("BaseException","__getattribute__"):=by decide +kernel
 have l:=Xn #[192] aie;simp only[checkBuiltinCall,C,a];refine WI (e.at ?_);simp only[Zb,jw,if_false];exists 16
def abe(c:FK K C)(X:K.In s.heap)(LT:∀M:Model,Looks M s.heap (typeOf #[192]) #[30])(h:Q (Z #[30]) {s with toks:=s.toks+1}):
  wpAny #[5] A (getAttr? #[192] "__class__") Q E s:=by
 obtain⟨hh,g,d,t,os⟩:=s;have b:=LT #[5];have q:=looks_findIn (M:=model prog w) X c.ga;have j:=looks_findIn (M:=model prog w) X c.gt;have k:=acZ (M:=model prog w) (ea:=ea) c X;have e:Looks #[5] hh (isInstance #[192] #[86]) true:=b.andThen (qV (M:=model prog w) X c.be);unfold getAttr? getAttrBy? getAttrBy;refine WI (wpAny_mkText (WI (WH (WZ (WI (b.at (WI (q.at ?_))))))));have G:(onTheHeap (YX C)&&Yq "BaseException.__getattribute__" == Yq "object.__getattribute__")=false:=by
  have:(Yq "BaseException.__getattribute__" == Yq "object.__getattribute__")=false:=by decide +kernel
  rw[this];rfl
 dsimp only;rw[G];simp only[jw,if_false];unfold getAttrByItsOwn hookBefore;rw[if_pos (show onTheHeap (YX C)=true from rfl)];refine WI (j.at ?_);refine WI (WH (WZ ?_));unfold callGetattribute;simp only[QL,jw,if_false];unfold boundAndCalled;rw[PySem.F.attrBase_ValueError.ga.bind #[192]];refine WI (Wv ?_);have f:builtinKind "BaseException.__getattribute__" = Z .slot:=by decide +kernel
 have a:splitId "BaseException.__getattribute__" = Z ("BaseException","__getattribute__"):=by decide +kernel
 have l:=Xn #[192] (.str "__class__" t);refine WJ (qK PySem.F.attrBase_ValueError.ga.plain Xh ?_);refine Lu e ?_;unfold Builtin.«object.__getattribute__»;refine WI (Wv ?_);dsimp only;exists 34;refine(show wpAny _ _ (pure _) _ _ _ from Wv ?_);refine WI (b.at ?_);refine WI (k.at ?_);dsimp only;show wpAny _ _ (holding [Yq "object.__class__"] (call #[40] [.builtin "object.__class__",.ref ea,.ref C])>>=ret) _ _ _;refine WI (WZ (WJ (af0 (s:=⟨hh,g,d,t+1,os⟩) X b c.ob ?_)));refine Wv ?_;exact handed_on rfl (Wv h)
def afF(ea C:QX)(h:Heap):Prop:=∃ob vs,h.get? ea=Z ob/\ob.cls=.ref C/\ob.data=.fields vs
def afF.ty{M:Model}(p:afF ea C h):Looks M h (typeOf #[192]) #[30]:=by obtain⟨ob,n,e,c,_⟩:=p;exact c▸(Looks.ld e).andThen .now
theorem adz(c:FK K C):KitX K #[192] #[30] (afF ea C) where
 ty:=λM h _ p=>p.ty
 it:=λM h X _=>by
  obtain⟨L,e⟩:=JM.mp c.ci;unfold clsIn at e;split at e
  ·rename_i V;intro b F i d k q;unfold isType loadHead;exact WI (Wg (k _ _ (X _ _ V)) (Wv q))
  ·cases e
 ne:=λh tp dd t n P X a=>by
  obtain⟨L,e⟩:=JM.mp c.ci;refine Bool.eq_false_iff.mpr λq=>?_;cases(show C=tp from Xo (beq_iff_eq.mp q));unfold clsIn at e;split at e
  ·rename_i V;cases(X _ _ V).symm.trans a
  ·cases e
 ca:=λX p k=>abe c X (λM=>p.ty) k
end
end L2
namespace L2
open PySem PySem.Spec PyProof.Rows
variable{X:Cx}{y3:List (QX×Obj)}{σ:St}{H H':Hp}{s:Qz}{E:XK}{ea C f:QX}{A:Around}{x qual:Str}{j i:Nat}{eN vs xs:List V}{sp:Sp}{p pos:Pos}{e a tg elt iter:Expr}{es:List Expr}{t:TA}{P prog:Qv}{w:World}{o:HO}{EE:Value→Qz→Prop}{v c:V}{Q:Unit→Qz→Prop}{body:List Stmt}{st:Stmt}{h5 B base:Heap}{CX:OM}{K:YW}{mg:Str→Option Value}{N:List Str}{scope:Scope}{cd dV:Value}{outer:List Qg}{us:List Value}{params:QZ}{an od:Option QX}{HM:Array (Option Value)}{fd:Qh}{ix:List (Option Nat)}{fp:List QX}{tc:TT}{te:TE}{wi:TI}{Qd:QX→Hp→Prop}
abbrev Cx.held(X:Cx)(ea:QX):Cx:={X with A:=X.A.mark (Z #[192]),calm:=false,xe:=λ_ _=>False}
section
def Q9{v:Option Value}:(A.mark v).frames=A.frames:=by first|rfl|simp[Around.mark]
theorem Cx.Ok.held(ok:X.Ok):(X.held ea).Ok:=
 ⟨ok.mod,ok.kind,ok.glob,ok.blt,ok.above,ok.inj,ok.has,ok.cab,(λz=>by cases z),Q9.trans ok.frames,ok.stk,ok.exf,ok.bs,ok.bsz,ok.noex,ok.exfs,ok.tT,ok.frf⟩
theorem Inv.held(I:Inv X y3 σ H s):Inv (X.held ea) y3 σ H s:=⟨I.ok.held,I.os,I.bare,I.base,I.loc,I.cell,I.free,I.freeC,I.pin,I.hok,I.len⟩
def Inv.alo(ok:X.Ok)(I:Inv (X.held ea) y3 σ H s):Inv X y3 σ H s:=⟨ok,I.os,I.bare,I.base,I.loc,I.cell,I.free,I.freeC,I.pin,I.hok,I.len⟩
abbrev TXE:=St->Hp->VK->XK->Prop
abbrev TX:=Ends->XK->St->Hp->Prop
end
section
def alj(sp:Sp)(eN:List V)(t:TA):TXE:=λσ H Q E=>t σ H λvs H1=>sp (vs++eN) H1 Q E
def aln(t:TXE):TX:=λD E σ H=>t σ H (λ_ H1=>D.nx σ H1) E
end
section
variable{fs:List QX}{H1:Hp}{h h1:Heap}
theorem Un.more(u:Un fs [] H H1 h h1)(n:h.get? ea=Y)(z:H ea=Y):Un fs [] H (upd H1 ea o) h h1 where
 keep:=u.keep
 slot:=u.slot
 free:=λb t q e J=>by rw[ag (λc=>by rw[c,n]at q;cases q)];exact u.free b t q e J
 there:=u.there
 tups:=λb xs q=>by rw[ag (ak q z)];exact u.tups b xs q
 frzs:=λb t v q=>by rw[ag (ak q z)];exact u.frzs b t v q
 tbls:=λb ps q=>by rw[ag (ak q z)];exact u.tbls b ps q
end
section
def acg{M:Model}{v:V}(I:Inv X y3 σ H s)(r:X.N.Nodup)(W:X.N[i]?=Z x)(J:X.env.scope.names.lookup x=Z .local)(h:∀t,Inv X y3 (σ.set i Y) H t->Q () t):wpAny M A (do bindName X.env x .none;unbindBehindTheSuite X.env x pos) Q EE s:=by
 have E:(X.env.scope.kind==.class||(X.env.scope.kind==.module&&X.env.locals != X.env.globals))=false:=by rw[I.ok.kind];rfl
 have w:i<σ.length:=by rw[I.len];exact(jb.mp W).1
 refine WI (wpAny_bindName (Cu I r W (.inl J) (v:=.non) rfl (λs1 P=>?_) (.inr J)));unfold unbindBehindTheSuite;refine Ws ?_;obtain⟨m,R,L⟩:=id P.loc;have D:m x=Z .none:=by
  obtain⟨u,F,K⟩:=L i x .non W (Jf w) (.inl J);cases(show u=Yc from F);rcases K with⟨_,e⟩|⟨k,_⟩
  ·exact e
  ·have k0:X.env.kindOf x=Z .local:=J;rw[k0]at k;rcases k with k|k<;>cases k
 refine wpAny_unbindName_local J R D E λh' u l hs=>h _ ?_;have cne:=P.cne;obtain⟨oL,_,_,j5,_⟩:=id R;refine⟨P.ok,P.os,P.bare,⟨λb o e n B C=>?_,λb o e n B C=>?_,P.base.free,λb o e C=>?_,P.base.tups,P.base.frzs,P.base.tbls⟩,⟨_,l,λj y v' T g e3=>?_⟩,λy c e=>?_,P.free,P.freeC,λp hp=>?_,λb ob e=>?_,?_⟩
 ·exact(hs.2 b (jM (jS (jI e) P.ok.above))).trans (P.base.keep b o e n B C)
 ·obtain⟨sl,f⟩:=P.base.slot b o e n B C;exact⟨sl,(hs.2 b (jM (jS (jI e) P.ok.above))).trans f⟩
 ·obtain⟨o',f⟩:=P.base.there b o e C;exact⟨o',(hs.2 b (jM (jS (jI e) P.ok.above))).trans f⟩
 ·by_cases a:j=i
  ·subst a;rw[Jf w]at g;cases g
  ·rw[Jm (Ne.symm a)]at g;obtain⟨u',r',q⟩:=L j y v' T (by rw[Jm (Ne.symm a)];exact g) e3;exists u',r';rcases q with⟨k,e⟩|⟨k,c,e,z⟩
   ·refine .inl ⟨k,?_⟩;have:y≠x:=λe=>a (HL r T (e▸W));simp[this,e]
   ·exact .inr ⟨k,c,e,z.sameBut hs (cne y c e)⟩
 ·obtain⟨S,z⟩:=P.cell y c e;exact⟨S,z.sameBut hs (cne y c e)⟩
 ·obtain⟨e,n,G,nf,d⟩:=P.pin p hp;exact⟨(hs.2 p.1 G).trans e,n,G,nf,d⟩
 ·refine(P.hok b ob e).Ae (λc S O q=>(hs.2 c ?_).trans q) (λ_ q=>q) λ_ _ q=>q;rintro rfl;rcases O with rfl|O
  ·rw[P.free]at e;cases e
  ·rw[P.free]at O;cases O
 ·rw[ze];exact I.len
end
section
variable{s':Qz}
def land(I:Inv X y3 σ H s)(os:s'.os=s.os)(p:QY s'.gens)(un:Un (De X.stack) [] H H' s.heap s'.heap)(E:fq X.prog X.w H' B)(there:∀b o,s.heap.get? b=Z o->b∉De X.stack->∃r,B.get? b=Z r)(R:B.StaysIn s'.heap)(T:B.StaysIn h5)(e:s'.heap.UpToSlots h5):Un (De X.stack) [] H H' s.heap h5/\fq X.prog X.w H' h5:=by
 have S:fq X.prog X.w H' s'.heap:=E.kept λb u q=>R b u q;have J:Inv X y3 σ H' s':=I.Ll (ch:=[]) os un S p (λb z=>by cases z);refine⟨Un.fly un T (λb o c q O a=>?_) λb o a q=>?_,E.kept λb u q=>T b u q⟩
 ·obtain⟨r,l⟩:=there b o q a;have:=R b r l;rw[O]at this;cases this;exact l
 ·obtain⟨_,r,l,j⟩:=J.stack.mem a;rw[q]at l;cases l;exact e b o q j
end
structure rB(k:Nat)(A:Around):Prop where
 dp:A.depth+3*k+5<recursionLimit
 un:A.units+16*k+200<cLine
def rB.mono{k:Nat}(r:rB k A)(h:j<=k):rB j A:=⟨by have:=r.dp;omega,by have:=r.un;omega⟩
theorem rB.deeper{k:Nat}(r:rB (k+1) A)(env:Qg):rB k (A.deeper env):=
 ⟨by have:=r.dp;show A.depth+1+3*k+5<_;omega,by have:=r.un;show A.units+3+16*k+200<_;omega⟩
theorem rB.depth{k:Nat}(r:rB k A):A.depth<recursionLimit:=by have:=r.dp;omega
def cL.held{k:Nat}{v:Option Value}(r:cL k A):rB k (A.mark v):=
 ⟨by have:=r.dp;first|exact this|(simp only[Around.mark];exact this),by have:=r.un;first|exact this|(simp only[Around.mark];exact this)⟩
structure OS(P:Qv)(w:World)(K:YW)(mg:Str->Option Value)(base:Heap)(CX:OM)(k:Nat)(f:QX)(fd:Qh)(ps:List Str)(sp:Sp):Prop where
 len:∀vs H Q E,sp vs H Q E->vs.length=ps.length
 run:∀(A:Around) (outer:List Qg) (s:Qz) (H:Hp) (args:Args) (us:List Value) (vs:List V) (Q:VK) (E:XK),rB k A->Ei P w K mg base A outer s H->Qa s fd args #[130]->Vals vs us->sp vs H Q E ->
  codeAny #[42] A (.call #[58] args) (CR CX outer P w H s Q E) s
abbrev Pr(CX:OM)(P:Qv)(w:World)(K:YW)(mg:Str->Option Value)(base:Heap)(N:List Str)(qual:Str)(scope:Scope)(f:QX)(cd:Value)(A:Around)(outer:List Qg)(s:Qz)(H:Hp)(E:XK):Cx:=
 {bE CX P w K mg base N qual scope f cd A outer s H E with calm:=false}
def Ts{ps:List Str}{T:Qz}(S:ax N ps scope)(X:Ei P w K mg base A outer s H)(L:vs.length=ps.length)(r:Vals vs us)(x:InCallC s s.heap.objs.size (bindL #[19].kindOf #[130] λ_=>Y) (cellsFrom #[11] scope.names []) (bindC #[19].kindOf #[130] λ_=>Y) T):
  Inv (Pr CX P w K mg base N qual scope f cd A outer s H E) [] #[145] H T:=by
 have a:Ei P w K mg base {A with handled:=Y} outer s H:=⟨X.frames,X.mod,X.bs,X.bsz,X.tT,X.frf,X.hok,X.bare⟩;have I:=LG (CX:=CX) (E:=E) (qual:=qual) (f:=f) (cd:=cd) S rfl a L r x;have ok:=I.ok;exact⟨⟨ok.mod,ok.kind,ok.glob,ok.blt,ok.above,ok.inj,ok.has,ok.cab,(λz=>by cases z),Around.frames_deeper X.frames,ok.stk,ok.exf,ok.bs,ok.bsz,ok.noex,ok.exfs,ok.tT,ok.frf⟩,I.os,I.bare,I.base,I.loc,I.cell,I.free,I.freeC,I.pin,I.hok,I.len⟩
theorem ai6{k:Nat}{name:Str}{kV p C g ct B:Value}{ps:List Str}(M:K.lookup f=Z ⟨B,od,.func (Yh name qual params body scope dV kV p C an g ct),HM⟩)(D:Yr K g qual=true)(S:ax N ps scope)(len:∀vs H Q E,sp vs H Q E->vs.length=ps.length)(F:∀(A:Around) (outer:List Qg) (s:Qz) (H:Hp) (vs:List V) (Q:VK) (E:XK),rB k (A.deeper (envOfC qual scope s.heap.objs.size f g))->sp vs H Q E ->
   ∃t,K8 (Pr CX P w K mg base N qual scope f g A outer s H E) body t/\t {nx:=λ_ H'=>Q .non H',rt:=Q} #[145] H):
  OS P w K mg base CX (k+1) f (Yh name qual params body scope dV kV p C an g ct) ps sp:=by
 refine⟨len,λA outer s H i us vs Q E j X G r l=>?_⟩;have L:=len _ _ _ _ l;have m:K.In s.heap:=X.mod.kin.keeps λb o e=>(X.bs b o e).1;have h:s.heap.NoLimit:=X.mod.nolimit.keeps λb o e=>(X.bs b o e).1;have z:∀y∈ps.zip us,scope.names.lookup y.1=Z .local\/(scope.names.lookup y.1=Z .cell/\((cellsFrom #[11] scope.names []).lookup y.1).isSome=true):=λ⟨n,v⟩ R=>by
  rcases S.par n (zI R).1 with q|q
  ·exact .inl q
  ·exact .inr ⟨q,yh _ _ _ (.inl q)⟩
 refine qL j.depth (m _ _ M) rfl S.co S.gen rfl (xB m D) (G _ _ _ _ ?_);refine Wl S.kind z λW he T x=>?_;subst he;refine⟨h.keeps x.toInCall.keep,codeAny_func ?_⟩;obtain⟨t,ht,hq⟩:=F A outer s H vs Q E (j.deeper _) l;have I:Inv (Pr CX P w K mg base N qual scope f g A outer s H E) [] #[145] H T:=Ts S X L r x;refine Wj (ht [] T #[145] H _ I hq) (λfl c hs=>?_) λe c hs=>hs;have a:∀{O:St} {H':Hp} {v:V} {u:Value},Inv (Pr CX P w K mg base N qual scope f g A outer s H E) [] O H' c->RelV v u->Q v H'->CE outer P w H s Q u c:=
  λ{O H' v u} J d q=>⟨v,H',J.os,J.bare,J.base,J.hok,d,q⟩
 cases fl with
 | ret u=>
  obtain⟨v,O,H',J,d,q⟩:=hs;exact a J d q
 | next=>
  obtain⟨O,H',J,q⟩:=hs;exact a (v:=V.non) (u:=Yc) J rfl q
 | brk=>
  obtain⟨_,_,_,q⟩:=hs;exact False.elim q
 | cont=>
  obtain⟨_,_,_,q⟩:=hs;exact False.elim q
structure aiI(P:Qv)(w:World)(K:YW)(mg:Str->Option Value)(base:Heap)(x:Str)(k:Nat)(ps:List Str)(eN:List V)(sp:Sp):Prop where
 ex:∃(f:QX) (fd:Qh) (ds:List Value),mg x=Z #[58]/\Yd K #[58]=true/\Vals eN ds/\Binds K fd ps ds/\OS P w K mg base dy k f fd ps sp
section
def aY.okH{ps:List Str}{k:Nat}(F:aY K x qual st dV f fd)(S:ax N ps (ao st))(len:∀vs H Q E,sp vs H Q E->vs.length=ps.length)(m:∀(g:Value) (A:Around) (outer:List Qg) (s:Qz) (H:Hp) (vs:List V) (Q:VK) (E:XK),rB k (A.deeper (envOfC qual (ao st) s.heap.objs.size f g))->sp vs H Q E ->
   ∃t,K8 (Pr dy P w K mg base N qual (ao st) f g A outer s H E).eW (cw st) t/\t {nx:=λ_ H'=>Q .non H',rt:=Q} #[145] H):OS P w K mg base dy (k+1) f fd ps sp:=by
 obtain⟨l,od,kV,p,C,an,g,b,HM,rfl,M,D⟩:=F.ex;refine ai6 M D S len λA outer s H vs Q E a j=>?_;obtain⟨t,h,q⟩:=m g A outer s H vs Q E a j;exact⟨t,h.eW,q⟩
end
section
variable{k:Nat}{ps:List Str}
theorem aoq(G:aiI X.prog X.w X.K X.mg X.base x k ps eN sp)(S:rB j X.A)(l:PA X (e::es) t)(hkj:k<=j:=by decide)(m:Gl X x:=by rfl)(b:#[17]=false:=by decide)(R:qh (e::es) X.env=#[18]::qh es X.env:=by rfl)(a:#[20].any (·.1)=false:=by rfl):
  PE X #[16] (Mi sp eN E0 t):=by
 obtain⟨f,fd,d,N,C,c,B,F⟩:=G.ex;exists 2;refine WB (oa I m N ?_ b);refine Yu (h₀:=X.base) I.ok.mod.kin C (bR #[109] λus T ⟨vs,g,P,r,q⟩=>⟨P.pW,?_⟩) R a;have i:Vals (vs++eN) (us++d):=r.append c;have L:(us++d).length=ps.length:=by rw[<-i.length];exact F.len _ _ _ _ q
 refine WJ (qM (F.run X.A X.stack T g ⟨us,[]⟩ (us++d) (vs++eN) Q E0 #[163] P.S7 (B T us P.pW L) i q) λD o W=>?_);cases D with
 | error v=>exact False.elim W
 | ok n=>
  cases n with
  | ret u=>exact P.after W
  | next=>exact False.elim W
  | brk=>exact False.elim W
  | cont=>exact False.elim W
end
section
def amB:V->Option Value
 | .ref a=>Z #[72]
 | .ty n=>Z (.type n)
 | _=>Y
def acN{cv u:Value}(e:amB c=Z cv)(r:RelV c u):u=cv:=by
 cases c<;>first|cases e
 ·exact r
 ·exact r
end
theorem mj{α c:Type}{F:α->c->Prop}:∀{l₁:List α} {l₂:List c} {j:Nat} {q:c},Qs F l₁ l₂->l₂[j]?=Z q->∃p,l₁[j]?=Z p/\F p q
 | _,_,_,_,.nil,e=>by simp at e
 | _,_,0,_,.cons r _,e=>by simp at e;subst e;exact⟨_,rfl,r⟩
 | _,_,j+1,_,.cons _ t,e=>by obtain⟨p,G,M⟩:=mj (j:=j) t (by simpa using e);exact⟨p,by simpa using G,M⟩
section
theorem LP:∀{ks:List Key} {us:List Value},us.length=ks.length->(∀(j:Nat) (v:Value),us[j]?=Z v->∃k,ks[j]?=Z k/\DZ k v=true)->Vals (ks.map kV) us
 |[],[],_,_=>.nil
 |[],_::_,h,_=>by simp at h
 | _::_,[],h,_=>by simp at h
 | k::ks,u::us,h,q=>by
  obtain⟨S,e,i⟩:=q 0 u rfl;cases(show k=S from by simpa using e);refine .cons ?_ (LP #[113] λj v e=>by simpa using q (j+1) v (by simpa using e));rcases cH i with⟨n,t,rfl,rfl⟩|⟨x,t,rfl,rfl⟩
  ·exact⟨t,U⟩
  ·exact⟨t,U⟩
inductive akH (xs:List V) (H:Hp) (Q:VK):Prop
 | mk (p:_) (kvs:_) (_:xs=[.ref p]) (_:H p=Z #[57]) (_:∀l,H l=Y->Q #[181] (upd H l (.lst (kvs.map λq=>kV q.1))))
def AY(O:X.calm=true):hX X (.type "list") akH:=by
 intro y3 s σ H xs us Q I r h;obtain⟨p,B,rfl,D,q⟩:=h;exists 11;cases F;obtain⟨C,lo,vs,l,a⟩:=(show bp X.prog X.w H s.heap p (.dK B)from I.hok p _ D);obtain⟨i,b⟩:=a.dictAt;have S:B.length=vs.length:=Paired.length l;refine xW (PySem.W.kdl_dict (knd:=bx X.prog X.w) (kvs:=vs) (ep:=i) lo) #[123] b (by rw[<-S];exact C) λy tk P c d e K=>?_;have f:Vals ((B.map (·.1)).map kV) P.toList:=LP (by rw[jg,K.1,jQ,S]) λj v E=>by obtain⟨k,x,T,g⟩:=K.2 j v (by rw[<-JV];exact E);refine⟨k,?_,g⟩;obtain⟨pv,L,m⟩:=mj l T;rw[jU,L];exact congrArg Z m.1
 rw[JN]at f;have t:bp X.prog X.w (upd H s.heap.objs.size (.lst (B.map λq=>kV q.1))) y s.heap.objs.size (.lst (B.map λq=>kV q.1)):=by
  exists by rw[jQ];exact C,P.toList,c,f
  rw[zh];exact e
 exact⟨.ref _,_,I.laid (t':=tk) d (jD _) t,U,q _ #[60]⟩
end
section
variable{cond:Expr}{g:TG}
def HP(O:X.calm=true)(S:aO X.N X.env.scope N ix scope)(W:PI X tg iter wi)(m:∀fp s H C,PG #[59] tg g)(d:∀fp s H C,PT #[59] cond tc)(R:∀fp s H C,PE #[59] elt te)(hs:∀x,foldedSetIterable iter X.env x=pure x:=by intro _;rfl):PE X (.ListComp elt [⟨tg,iter,[cond],0⟩] scope pos) (ak5 ix wi g tc te):=
 IE.pe (C6 O S m (λfp s H C=>(d fp s H C).one) R) S.kind S.locs S.aZ W hs
end
def Lq{a:QX}(d:QX->Nat->List V->Hp->Prop)(I:∀D,H D=Y->d D 0 [] #[50])(L:∀D i ys H',i<=xs.length->d D i ys H'->lU K H' a xs)(hs:∀D i x ys H' (R:VK) (J:Hp->Prop),H D=Y->xs[i]?=Z x->H' D=Z #[76]->d D i ys H'->(∀y B,B D=Z #[76]->ys.length<sizeLine->d D (i+1) (ys++[y]) (upd B D (.lst (ys++[y])))->R y B)->
   (∀B,B D=Z #[76]->d D (i+1) ys B->J B)->tc (#[47].set 0 (Z x)) H' λb B=>if b=true then te (#[47].set 0 (Z x)) B R else J B)(j:∀D ys H',H D=Y->H' D=Z #[76]->d D xs.length ys H'->Qd D H'):AK (Itt K a) ix (aP 0) tc te σ H Qd:=by
 intro D X;refine⟨λi m O H'=>m=xs.length-i/\i<=xs.length/\#[83]/\∃ys,H' D=Z #[76]/\d D i ys H',⟨xs.length,by simp,je _,.inl rfl,[],ae,I D X⟩,?_⟩;exists 6;have q:=L D i ys H' W p;exists 23
 ·exists 13;obtain⟨T,g⟩:=y;subst T;have ex:=g xs q;have es:O.set 0 (Z x)=#[47].set 0 (Z x):=by
   exists 30
   ·rw[z]
   ·rw[z,Jp]
  show tc (O.set 0 (Z x)) _ _;rw[es];exact hs D i x ys _ _ _ X ex N p (λy B k C h=>⟨ys,k,C,xs.length-(i+1),by omega,U,f,.inr ⟨_,U⟩,ys++[y],ae,h⟩) λB k h=>⟨xs.length-(i+1),by omega,U,f,.inr ⟨_,U⟩,ys,k,h⟩
 ·exists 17;subst e;exact .inl ⟨⟨xs,q,jD _⟩,j D ys H' X N p⟩
end L2
namespace L2
open PySem PySem.Spec PySem.W PySem.Builtin PySem.Builtin.ObjectAttr PyProof.Rows
variable{prog:Qv}{w:World}{A:Around}{E Q:Value→Qz→Prop}{s:Qz}{K:YW}{x C N f fI tp:QX}{vs:Array Value}{name:Str}{v u:Value}{as:List QX}{h:Heap}{R:Result→Qz→Prop}{t:Nat}{hdct ab:Bool}{sn:List Str}{sub:List Value}{mN:Str→Option Value}{oI:Obj}
abbrev ff(C:QX)(dx:Option QX)(vs:Array Value):Obj:={cls:=.ref C,dict:=dx,data:=.fields vs}
def mroIs(K:YW)(C:QX)(as:List QX):Bool:=(clsIn K C).any λcd=>cd.mro==as.map YX++VEm
theorem Ee(self:Value):∀as:List QX,refuseLoop self "__setattr__" (as.map YX++VEm)=pure ()
 |[]=>PySem.F.store_ValueError.passes self
 | a::r=>by rw[jy,zW,refuseLoop_ref];exact Ee self r
section
def P8(J:h.get? x=Z (ff C Y vs)):InstAt h x (ff C Y vs) C Y:=⟨J,rfl,rfl,trivial⟩
def ag2{tk:Tok}(X:K.In s.heap)(J:s.heap.get? x=Z (ff C Y vs))(N:mroIs K C as=true)(t:mroIn K C #[87]=Z true)(d:findIn K #[30] name=Z Y)(h:wpAny #[5] A.in1 (storeInOwnDict #[105] #[30] (.str name tk) name v false)
   (λa c=>match a with|.done f=>R (.ok f) c|.again B=>B.quiet=true/\codeAny #[5] A B R c) (λe c=>R (.error e) c) s):
  codeAny #[5] A (.call #[92] ⟨[.ref x,.str name tk,v],[]⟩) R s:=by
 have b:=PySem.F.store_object;have I:=P8 J;obtain⟨L,O,V⟩:=any_some N;have em:L.mro=as.map YX++VEm:=by simpa using V
 have sub:Looks #[5] s.heap (isInstance #[105] #[87]) true:=I.type.andThen (qV X t);refine qK b.slot.plain b.entry (@check_slot #[5] _ _ s "object.__setattr__" "object" "__setattr__" #[105] [.str name tk,v] [] _ b.kind b.split sub (b.args #[105] (.str name tk) v) ?_);have D:Looks #[5] s.heap (mroOf #[30]) L.mro:=(looks_clsIn X O).andThen .now;rw[osa_eq,refuse_eq];refine WI (WI (I.type.here (WI (D.here ?_))));rw[em,Ee];refine Wv (WI (I.type.here (WI ((looks_findIn X d).here (WI (Wv ?_))))));exact h
def ahn{Q:Unit->Qz->Prop}(X:K.In s.heap)(a:s.heap.get? x=Z (ff C Y vs))(hs:findIn K #[30] "__setattr__" = Z (Z #[92]))(N:mroIs K C as=true)(t:mroIn K C #[87]=Z true)(c:findIn K #[30] name=Z Y)(H:hasDictIn K C=true)(h:∀h' d,h'.get? x=Z (ff C (Z d) vs)->h'.Ns1 d (λy=>if y=name then Z v else Y)->s.heap.objs.size<=d->(∀b o,b≠x->s.heap.get? b=Z o->h'.get? b=Z o)->Q () {s with heap:=h',toks:=s.toks+2}):
  wpAny #[5] A (setAttr #[105] name v) Q E s:=by
 have J:=P8 a;refine set_plain X J hs (ag2 (s:={s with toks:=s.toks+1}) X a N t c ?_);obtain⟨M,g,f⟩:=any_some H;refine WI (Wv (WI (WI (Wg a (WI (xA (s:={s with toks:=s.toks+1}) (looks_clsIn X g) ?_))))));rw[f];rw[if_neg #[10],if_neg (by simp[typeHasDict])];have W:#[41].get? x=Z (ff C Y vs):=jA _ a;have n:x≠s.heap.objs.size:=jM (jI a);refine WI (wpAny_alloc' (WI (wpAny_update' W (Wv ?_))));have u:(#[41].update x λo=>{cls:=o.cls,dict:=Z s.heap.objs.size,data:=o.data,slots:=o.slots}).get? s.heap.objs.size=Z {cls:=.type "dict",data:=.dict #[]}:=
  (Ze _ _ _ _ n.symm).trans (Heap.get?_push_at rfl rfl)
 have O:(#[41].update x λo=>{cls:=o.cls,dict:=Z s.heap.objs.size,data:=o.data,slots:=o.slots}).Ns s.heap.objs.size (λ_=>Y):=
  ⟨_,#[],_,u,rfl,λe R=>absurd R #[8],λ_=>rfl⟩
 dsimp only;unfold storeInDict newKeyGuard;refine WI (Wv (WI (wpAny_nsSet1 (xJ O) λh' k D=>?_)));obtain⟨S,z,P,l,m,p⟩:=k.count (Within.cons name v Within.nil);refine WI (Wi l (by rw[m];exact qX (jW p (by rw[jX,Jc,qg];omega))) ?_);refine Wv (h h' s.heap.objs.size ?_ ?_ (jD _) λb o B q=>?_)
 ·exact(D.2 x n).trans (jk _ W rfl)
 ·obtain⟨r,i,j,T,F,G,I,L⟩:=k;exact⟨r,i,j,T,F,G,I,λy=>by rw[L y]⟩
 ·exact(D.2 b (jM (jI q))).trans ((Ze _ _ _ _ B).trans (jA _ q))
end
def A0(K:YW)(C:QX)(f:QX):Bool:=match K.lookup C with
 | some ⟨.type "type",_,.cls cd,sl⟩=>(match cd.mro,sl.toList with
  | .ref C'::tl,[_,_,_,_,Z (.builtin n),_]=>C'==C&&n == "ValueError.__new__" && !cd.hasDel&&tailIn K VEm tl&&nsOkIn K cd.ns&&nsIn K cd.ns "__init__" == Z (Z #[58])
  | _,_=>false)
 | _=>false
def Ri{x:Str}(X:K.In h)(e:nsOkIn K N=true)(q:nsIn K N x=Z (Z v)):h.nsMap N x=Z v:=by
 have G:=Gn (isNs_of_in X e);obtain⟨o,r,i,V,j,_,l⟩:=id G;unfold nsIn at q;split at q
 ·rename_i c d f F P z;have y:=X _ _ z;rw[V]at y;cases y;cases j;split at q
  ·rename_i T R;cases q;rw[<-l];unfold nsFind findBy;rw[<-Zk,R];rfl
  ·split at q<;>cases q
 ·cases q
theorem MO(X:K.In h)(q:A0 K C f=true):
  ∃k N nm z bs j sn sub ab col dd k0 k1 k2 k3 k5 mN,h.get? C=Z (excClassObj nm z C N bs k j sn sub ab col dd k0 k1 k2 k3 k5 "ValueError.__new__")/\h.Ns N mN/\mN "__init__" = Z #[58]/\OwnTail h VEm k:=by
 unfold A0 at q;cases e:K.lookup C with
 | none=>rw[e]at q;cases q
 | some t=>
  rw[e]at q;obtain⟨i,m,o,P⟩:=t;split at q
  ·rename_i dd L A R;cases R;split at q
   ·rename_i V k k0 k1 k2 k3 n k5 b d;simp only[Ja,beq_iff_eq,Bool.not_eq_true']at q;obtain⟨⟨⟨⟨⟨rfl,rfl⟩,y⟩,c⟩,a⟩,p⟩:=q;obtain⟨nm,bs,mro,ns,z,j,sn,sub,ab,col,g⟩:=L;dsimp only at b y a p;subst b y;have r:P=#[k0,k1,k2,k3,Z (.builtin "ValueError.__new__"),k5]:=by
     cases P with
     | mk l=>exact congrArg Array.mk d
    subst r;exact⟨k,ns,nm,z,bs,j,sn,sub,ab,col,_,k0,k1,k2,k3,k5,_,X _ _ e,.of_isNs (isNs_of_in X a),Ri X a p,tail_of_in X c⟩
   ·cases q
  ·cases q
section
variable{g:Array Qi}{d:Qe}{os:OsState}
variable{nm q:Str}{bs bm:List Value}{col:Option Bool}{dd:Option QX}{k0 k1 k2 k3 k5:Option Value}
def EI(T:OwnTail h VEm bm){rest:List Value}{Q:Fin->Qz->Prop}(P:h.get? C=Z (excClassObj nm q C N bs bm hdct sn sub ab col dd k0 k1 k2 k3 k5 "ValueError.__new__"))(R:h.Ns N mN)(W:mN "__init__" = Z (.ref fI))(u:h.get? fI=Z oI)(j:oI.cls=.type "function")(l:∀h' e tp,h'.get? e=Z (ff C Y #[.ref tp,.none,.none,.none,.bool false,.none])->h.get? e=Y->h.objs.size<=e->(∀b o,h.get? b=Z o->h'.get? b=Z o)->
   wpAny #[5] A (call (.ref fI) (.ref e::rest)) (λr c=>r=.none/\Q (.done (.ret (.ref e))) c) E ⟨h',g,d,t,os⟩)(y:rest.length<=sizeLine):
  wpAny #[5] A (Builtin.«type.__call__» ⟨.ref C::rest,[]⟩) Q E ⟨h,g,d,t,os⟩:=by
 have p:=XI
 repeat (first|with_reducible refine Wh P ?_|with_reducible refine wpAny_madeBy_exc P ?_|wp_step)
 refine codeAny_call_builtin_code (Code.quiet_builtin _ p.quiet) (wpAny_check_new_subU p #[10] T P ?_);refine codeAny_exc_new_subU p #[10] p T P ?_ y;show wpAny _ _ _ _ _ _;generalize k:({cls:=.ref C,data:=.fields #[.ref h.objs.size,.none,.none,.none,.bool false,.none]}:Obj)=oE;generalize v:({cls:=.type "tuple",data:=.seq rest.toArray}:Obj)=oT;have keep:∀b o,h.get? b=Z o->((h.push oT).push oE).get? b=Z o:=λb o e=>jA _ (jA _ e);have a:=keep _ _ P;have n:((h.push oT).push oE).Ns N mN:=let ⟨o,es,ep,e,r⟩:=R;⟨o,es,ep,keep _ _ e,r⟩;have f:((h.push oT).push oE).get? (h.objs.size+1)=Z (ff C Y #[.ref h.objs.size,.none,.none,.none,.bool false,.none]):=by have q:=jF (h.push oT) (o:=oE) (by rw[<-k];rfl);rw[jc]at q;rw[q,<-k]
 have i:(YX C::bm).contains #[30]=true:=by simp
 have m:=T.keeps (h':=(h.push oT).push oE) keep;unfold isInstance
 repeat (first|with_reducible refine Wh f ?_|(with_reducible refine Wc a ?_;rw[i])|wp_step)
 show wpAny _ _ (typeLookup #[30] _) _ _ _;refine wpAny_typeLookup_tail a n m p.mroIs p.init.lookup ?_;rw[W];refine WZ (WI ?_);unfold bindSpecial;refine WI (YT (T:="function") ⟨_,keep _ _ u,j⟩ ?_);rw[if_pos #[10]];refine Wv (WI (Wj (l _ (h.objs.size+1) h.objs.size f (zY (JE _)) (JE _) keep) (λr c S=>?_) λ_ _ x=>x));obtain⟨rfl,s⟩:=S
 wp_walk
 exact s
end
section
def SJ{rest:List Value}(X:K.In s.heap)(J:A0 K C f=true)(l:isFn K #[58]=true)(W:∀h' e tp,h'.get? e=Z (ff C Y #[.ref tp,.none,.none,.none,.bool false,.none])->s.heap.get? e=Y->s.heap.objs.size<=e->#[44] ->
   wpAny #[5] (A.under (.builtin "type.__call__" ⟨.ref C::rest,[]⟩)) (call #[58] (.ref e::rest)) (λr c=>r=.none/\Q (.ref e) c) E {s with heap:=h'})(y:rest.length<=sizeLine):
  wpAny #[5] A (call #[30] rest) Q E s:=by
 obtain⟨k,N,I,z,bs,p,sn,sub,ab,B,dd,G,R,x,F,H,mN,P,a,h,T⟩:=MO X J;obtain⟨oI,u,j⟩:∃oI,s.heap.get? f=Z oI/\oI.cls=.type "function" :=by have q:(K.lookup f).map (·.cls)=Z (.type "function"):=beq_iff_eq.mp l;obtain⟨o,V,e⟩:=Ju.mp q;exact⟨o,X _ _ V,e⟩
 obtain⟨D,g,d,t,os⟩:=s;have L:=tc_lookup;have M:=tc_bind #[30];have O:(⟨D,g,d,t,os⟩:Qz).TypeIs #[30] "type" :=⟨_,P,rfl⟩;refine WJ (qN ?_);show wpAny _ _ (callAny #[30] _) _ _ _
 repeat (any_goals (first|assumption|with_reducible refine Wh P ?_|wp_step))
 exists rfl;refine codeAny_call_builtin_at (Code.quiet_builtin _ #[1]) entry_typeCall (wpAny_check_type_call_sub P (EI T P a h u j (λh' e tp i v n m=>?_) y));exact W h' e tp i v n m
abbrev U6(tp:QX):Array Value:=#[.ref tp,.none,.none,.none,.bool false,.none]
def IM(X:K.In s.heap)(i:A0 K C f=true)(J:s.heap.get? x=Z (ff C Y (U6 tp)))(h:∀h' l,h'.get? x=Z (ff C Y (U6 l))->(∀b o,b≠x->s.heap.get? b=Z o->h'.get? b=Z o)->Q .none {s with heap:=h'}):
  wpAny #[5] A (call (.builtin "ValueError.__init__") [.ref x,u]) Q E s:=by
 obtain⟨k,N,I,z,bs,j,sn,sub,ab,B,dd,G,R,v,c,H,mN,P,e,n,T⟩:=MO X i;have p:=XI;obtain⟨D,g,d,t,os⟩:=s;refine WJ (qK p.init.plain p.initEntry (wpAny_check_init_subU p T P J rfl ?_));unfold Builtin.«BaseException.__init__»;dsimp only;rw[if_neg #[10]];refine WI (Wn ?_);have W:(D.push (seqObj "tuple" [u].toArray 0)).get? x=Z (ff C Y (U6 tp)):=jA _ J;refine WI (m:=BaseException.bexcPut #[105] 0 _) ?_;unfold BaseException.bexcPut;refine WI (WU W rfl (x:=.ref tp) rfl ?_);refine WI (YH W rfl #[8] ?_);refine We (Wv ?_);have y:=Obj.data_mapFields (o:=ff C Y (U6 tp)) rfl (·.setIfInBounds 0 (YX D.objs.size));refine h _ D.objs.size (jk _ W (Obj.isFreed_of_fields y)) λb o a q=>?_;exact(jm _ _ (Ne.symm a)).trans (jA _ q)
end
end L2
namespace L2
open PySem PySem.Spec PyProof.Rows
variable{X:Cx}{fd:Qh}{sp:Sp}{es:List Expr}{t:TA}{pos':Pos}
def mL(x C:QX)(h:Heap):Prop:=∃tp,h.get? x=Z (ff C Y (U6 tp))
def iu(x C d:QX)(h:Heap):Prop:=∃tp,h.get? x=Z (ff C (Z d) (U6 tp))
structure DT(K:YW)(C f:QX):Prop where
 ex:A0 K C f=true
 fn:yK K #[58]=true
 kp:Yd K #[30]=true
 sa:YZ K #[30] "__setattr__" = Z (Z #[92])
 hd:yP K C=true
 mr:∃as,mroIs K C as=true
 xc:FK K C
section
variable{f C B:QX}{x y fl:Str}{p pos y4:Pos}{e o value:Expr}{ta tv:TE}
inductive RZ (K:YW) (Q:VK) (vs:List V) (H1:Hp):Prop
 | mk (x C f:QX) (v:V) (_:vs=[.ref x,v]) (_:H1 x=Z (.ext (mL x C))) (_:A0 K C f=true) (_:Q .non H1)
def ab9(K:YW)(t:TA):TE:=λσ H Q=>t σ H (RZ K Q)
def Rq(n:Gl X y)(N:X.mg y=Z (.ref B))(k:yQ X.K (.ref B) "__getattribute__" = Z (Z (.builtin "type.__getattribute__")))(u:Xb X.K B #[118]=true)(j:Xc X.K (.ref B) #[118] "__init__" = Z (.val (.builtin "ValueError.__init__")))(A:PA X (e::es) t){pl:Qw Bool}(F:eval (.Call (.Attribute (.Name y p) "__init__" y4) (e::es) [] pos) X.env=(do
   let D <-eval (.Name y p) X.env
   standAt y4.atName
   let (f,first) <-holding [D] (getMethod D "__init__" pl)
   callWith pos f first (backTo pos (qh (e::es) X.env)) #[70]):=by rfl)(R:(y==("__debug__" : Str))=false:=by decide)(S:qh (e::es) X.env=#[18]::qh es X.env:=by rfl)(rF:#[20].any (·.1)=false:=by rfl):
  PE X (.Call (.Attribute (.Name y p) "__init__" y4) (e::es) [] pos) (ab9 X.K t):=by
 intro V s m H Q I h;refine yk (pl:=pl) (oa I n N ?_ R) F;refine PySem.W.method_cls I.pW k (PySem.W.cls_value I.pW u j rfl ?_);refine yp (bR (A pos V _ m H _ (I.tok _) h) λus T ⟨vs,g,P,r,L,C,f,v,ev,J,i,q⟩=>?_) S rF;subst ev;obtain⟨u1,u2,rfl,r1,r2⟩:=vals2 r;cases r1;obtain⟨⟨O,z⟩,_,_⟩:=(show bp X.prog X.w g T.heap L (.ext (mL L C))from P.hok L _ J);refine IM P.pW i z λa l d keep=>?_;have E:Inv X V m (upd g L (.ext (mL L C))) {T with heap:=a}:=P.write (x:=L) (e:=L) (t':=T.toks) (by rw[J];exact trivial) #[93] keep ⟨_,d⟩
  (show mL L C a/\(∃o,a.get? L=Z o)/\∀G M:Heap,mL L C G->(∀o,G.get? L=Z o->M.get? L=Z o)->mL L C M from⟨⟨l,d⟩,⟨_,d⟩,λG M ⟨O,z⟩ kk=>⟨O,kk _ z⟩⟩)
 have eH:upd g L (.ext (mL L C))=g:=by
  funext b;by_cases c:b=L
  ·rw[c,ae,J]
  ·rw[ag c]
 rw[eH]at E;exact⟨.non,g,E,U,q⟩
def aoD(K:YW)(ta tv:TE)(fl:Str):TS:=λD σ H=>tv σ H λy H1=>ta σ H1 λv H2=>∃x C f:QX,v=.ref x/\H2 x=Z (.ext (mL x C))/\DT K C f/\YZ K #[30] fl=Z Y /\
 ∀d,H2 d=Y->d≠x->D.nx σ (upd (upd H2 x (.ext (iu x C d))) d (.xd [(fl,y)]))
def ahc(N:PE X o ta)(P:PE X value tv)(hs:qq value (Z (.Attribute o fl pos')) pos.line X.env=pure false:=by rfl):PS X (.Assign [.Attribute o fl pos'] value pos) (aoD X.K ta tv fl):=by
 intro V s m H D I h;refine qZ (bR (P V s m H _ I h) λu T ⟨p,R,S,ry,q⟩=>bR (N V T m R _ S q) λov j ⟨xv,G,E,rx,L,C,f,ex,J,M,na,q2⟩=>?_) hs;subst ex;obtain rfl:ov=YX L:=rx;obtain⟨⟨O,z⟩,_,_⟩:=(show bp X.prog X.w G j.heap L (.ext (mL L C))from E.hok L _ J);obtain⟨as,mr⟩:=M.mr;refine ahn E.pW z M.sa mr M.xc.ob na M.hd λy d t hn k keep=>?_;have B:G d=Y:=E.hok.fresh k;have l:d≠L:=λc=>by rw[c,J]at B;cases B
 have Q:fq X.prog X.w #[120] y:=E.hok.write (x:=L) (e:=L) (by rw[J];exact trivial) #[93] keep ⟨_,t⟩
  (show iu L C d y/\(∃o,y.get? L=Z o)/\∀i n:Heap,iu L C d i->(∀o,i.get? L=Z o->n.get? L=Z o)->iu L C d n from⟨⟨O,t⟩,⟨_,t⟩,λi n ⟨O,z⟩ kk=>⟨O,kk _ z⟩⟩)
 have F:#[120] d=Y:=by rw[ag l];exact B
 have W:fq X.prog X.w (upd #[120] d (.xd [(fl,p)])) y:=by
  intro a uo r;by_cases c:a=d
  ·subst c;rw[ae]at r;cases r;refine⟨_,hn,λg=>?_⟩;show pA ([(fl,p)].lookup g) (if g=fl then Z u else Y);by_cases A:g=fl
   ·subst A;rw[if_pos rfl];simp[JZ];exact ry
   ·rw[if_neg A];have:(g==fl)=false:=beq_eq_false_iff_ne.mpr A;simp[JZ,this];exact trivial
  ·rw[ag c]at r;exact(Q a uo r).Ae (λb v _ f=>f) (λb f=>by rw[ag (ak f F)];exact f) λb xs f=>by rw[ag (ak f F)];exact f
 have u1:Un X.fs [] G #[120] j.heap y:=Un.write (by rw[J];exact trivial) #[93] keep ⟨_,t⟩;have u2:Un X.fs [] G (upd #[120] d (.xd [(fl,p)])) j.heap y:=u1.more (zY k) B;exact⟨m,_,E.un (t':=j.toks+2) u2 W,q2 d B l⟩
end
structure afD(P:Qv)(w:World)(K:YW)(mg:Str->Option Value)(base:Heap)(x:Str)(C f:QX)(k:Nat)(ps:List Str)(sp:Sp):Prop where
 m:mg x=Z #[30]
 M:DT K C f
 F:∃fd,Binds K fd ps []/\aR P w K mg base dy k f fd ps sp
end L2
set_option maxHeartbeats 4000000
namespace L2
open PySem PySem.Spec PyProof.Rows
variable{A:Around}{E:Value→Qz→Prop}{s:Qz}{base h:Heap}{env:Qg}{outer l:List Qg}{L a C f:QX}{e:Expr}{a0 head cls cd:Value}{Q:Unit→Qz→Prop}{oe:Obj}{vs:Array Value}{hn hdct ab:Bool}{d:Option QX}{H:Hp}{N sn:List Str}{sub ds:List Value}{P:Qv}{w:World}{K:YW}{mg:Str→Option Value}{qual x:Str}{scope:Scope}{X:Cx}{fd:Qh}{sp:Sp}{eN:List V}{p pos:Pos}{es:List Expr}{t:TA}
structure Ay(h base:Heap)(e:QX)(cls a0 fl:Value)(d:Option QX):Prop where
 ex:∃(oe:Obj) (vs:Array Value) (T:QX) (oT:Obj) (ts:Array Value),h.get? e=Z oe/\oe.cls=cls/\oe.dict=d/\oe.data=.fields vs/\vs[0]?=Z a0/\vs[1]?=Z #[164]/\base.get? T=Y/\T≠e/\h.get? T=Z oT/\oT.data=.fields ts/\ts[3]?=Z fl
def Pu(g:Array Value->Array Value)(o:Obj):(Obj.mapFields g o).dict=o.dict:=by unfold Obj.mapFields;split<;>rfl
section
variable{M:Model}{e:QX}
def acW(J:A.frames=Z (env::outer))(fr:s.heap.FunFrames base (env::outer))(l:env.frame=Z L)(xe:s.heap.get? e=Z oe)(st:base.StaysIn s.heap)(G:base.get? e=Y)(m:oe.data=.fields vs)(two:1<vs.size)(w:vs[0]?=Z a0)(g:∀h',base.StaysIn h'->h'.FunFrames base (env::outer)->Ay h' base e oe.cls a0 .none oe.dict->s.heap.UpToSlots h'->Q () {s with heap:=h'}):
  wpAny M A (do let c <-frameOf env;let a <-entryPlaceOf L hn;let i <-EntryCells.newEntry head c .none (rawInt L) .none a;setField (.ref e) 1 i) (λ_ t=>wpAny M A (setFlight (.ref e) Y) Q E t) E s:=by
 have B:e∉(env::outer).filterMap (·.frame):=λz=>by obtain⟨_,o,q,F⟩:=fr.mem z;rw[xe]at q;cases q;exact F vs m
 refine WI (WW J fr l λD only=>?_);refine WI (WR λa r=>?_);unfold EntryCells.newEntry newFields;refine WI (Wm ?_ (r.sizeOk5 _ _ _ _ _));generalize u:({cls:=.type "traceback",dict:=Y,data:=.fields #[32].toArray}:Obj)=i;have v:i.data=.fields #[32].toArray:=by rw[<-u]
 have H:i.isFreed=false:=by rw[<-u];rfl
 have O:D.get? e=Z oe:=(only.2.1 e B).trans xe;have k:base.StaysIn D:=λb o z=>(only.2.1 b λy=>by rw[(fr.mem y).1]at z;cases z).trans (st b o z);have n:(D.push i).get? e=Z oe:=jA i O;refine YH n m two ?_;have d:D.objs.size≠e:=JW (jI O);have I:=Obj.data_mapFields m #[29];have p:=jk #[131] n (Obj.isFreed_of_fields I);have R:((D.push i).update e #[131]).get? D.objs.size=Z i:=by rw[jm _ _ (Ne.symm d)];exact jF D H
 unfold setFlight;refine WI (WU p I (x:=.ref D.objs.size) (by simp[two]) ?_);rw[if_pos (show(YX D.objs.size != Yc)=true by simp)];have h:3<#[32].toArray.size:=by simp only[jP,jG,jX,Jc];omega
 obtain⟨V,j⟩:∃V,((D.push i).update e #[131]).update D.objs.size (Obj.mapFields #[45])=V:=⟨_,rfl⟩;have rest:∀b o,b≠e->D.get? b=Z o->V.get? b=Z o:=λb o N z=>by have T:D.objs.size≠b:=JW (jI z);rw[<-j,jm _ _ T,jm _ _ (Ne.symm N)];exact jA _ z
 have plain:∀b o,s.heap.get? b=Z o->#[122]->b≠e:=λb o z F y=>by rw[y,xe]at z;cases z;exact F vs m
 refine YH R v h ?_;dsimp only;rw[j];refine g V ?_ ?_ ?_ ?_
 ·exact λb o z=>rest b o (λy=>by rw[y,G]at z;cases z) (k b o z)
 ·refine fr.of_keeps λb o z F=>?_;obtain⟨P,y⟩:=only.2.2 b o z;exact⟨_,rest b _ (plain b o z F) y,U⟩
 ·have S:V.get? e=Z (Obj.mapFields #[29] oe):=by rw[<-j,jm _ _ d];exact p
  have K:=Obj.data_mapFields v #[45];have W:V.get? D.objs.size=Z (Obj.mapFields #[45] i):=by rw[<-j];exact jk _ R (Obj.isFreed_of_fields K)
  refine⟨_,_,D.objs.size,_,_,S,Obj.cls_mapFields _ _,Pu _ _,I,by rw[zX #[10]];exact w,by simp[two],k.fresh,d,W,K,?_⟩;rw[zE h];rfl
 ·intro b o z F;obtain⟨P,y⟩:=only.2.2 b o z;exact⟨P,rest b _ (plain b o z F) y⟩
def J0(J:A.frames=Z (env::outer))(fr:s.heap.FunFrames base (env::outer))(l:env.frame=Z L)(xe:s.heap.get? e=Z oe)(st:base.StaysIn s.heap)(G:base.get? e=Y)(m:oe.data=.fields vs)(u:vs[1]?=Z .none)(w:vs[0]?=Z a0)(g:∀h',base.StaysIn h'->h'.FunFrames base outer->Ay h' base e oe.cls a0 .none oe.dict->s.heap.UpToSlots h'->Q () {s with heap:=h'}):wpAny M A (leaving env (.ref e)) Q E s:=by unfold leaving noteFrame;simp only[l];refine WI (WI (WU xe m u ?_));rw[if_neg #[10]];exact acW J fr l xe st G m (JU.mp u).1 w λh' R ⟨_,_,v⟩ c h=>g h' R v c h
def N5(J:A.frames=Z (env::outer))(fr:s.heap.FunFrames base (env::outer))(l:env.frame=Z L)(w:Ay s.heap base e cls a0 .none d)(st:base.StaysIn s.heap)(G:base.get? e=Y)(g:∀h',base.StaysIn h'->h'.FunFrames base outer->Ay h' base e cls a0 .none d->s.heap.UpToSlots h'->Q () {s with heap:=h'}):wpAny M A (leaving env (.ref e)) Q E s:=by
 obtain⟨oe,vs,T,X,x,u,rfl,rfl,i,j,r,q,t,k,p,a⟩:=w.ex;unfold leaving noteFrame;simp only[l];refine WI (WI (WU u i r ?_));rw[if_pos (show(YX T != Yc)=true by simp)];refine WI (WU k p a ?_);rw[if_neg (show ¬ ((Yc==rawInt L)=true) by simp[rawInt])];refine WI (YH k p (JU.mp a).1 ?_);have m:∀b,b≠T->(s.heap.update T (Obj.mapFields (·.setIfInBounds 3 Yc))).get? b=s.heap.get? b:=λb y=>jm _ _ (Ne.symm y);have n:∀b o,s.heap.get? b=Z o->#[122]->b≠T:=λb o z F y=>by rw[y,k]at z;cases z;exact F x p
 refine acW J (fr.of_keeps λb o z F=>⟨o,#[177].trans z,U⟩) l ((m e (Ne.symm t)).trans u) (λb o z=>(m b λy=>by rw[y,q]at z;cases z).trans (st b o z)) G i (JU.mp r).1 j
  λh' R ⟨_,_,v⟩ c h=>g h' R v c λb o z F=>h b o (#[177].trans z) F
end
def but(H:Hp)(a:QX):Hp:=λb=>if b=a then Y else H b
def FU:but H a a=Y:=if_pos rfl
def mW{b:QX}(h:b≠a):but H a b=H b:=if_neg h
def IG(P:Qv)(w:World):OM:=λouter H s E e s'=>∃(ea t C d:QX) (B:Heap) (H':Hp),e=.ref ea/\s'.os=s.os/\QY s'.gens/\Un (De outer) [] H H' s.heap s'.heap/\fq P w H' B /\
 (B.StaysIn s'.heap/\B.get? ea=Y/\s'.heap.FunFrames B outer/\Ay s'.heap B ea #[30] (.ref t) .none (Z d))/\(∀b o,s.heap.get? b=Z o->b∉De outer->∃o',B.get? b=Z o')/\H' ea=Y/\E #[30] (Z d) H'
def ahj{M:Model}{nm q:Str}{N:QX}{bs bm:List Value}{col:Option Bool}{dd:Option QX}{k0 k1 k2 k3 k5:Option Value}{newId:String}{x:Qw Value}{Q:Flow->Qz->Prop}(c:bm.contains #[86]=true)(H:A.handled=Y)(h:wpAny M A x (λv O=>∃e t d,v=.ref e/\O.heap.get? C=Z (excClassObj nm q C N bs bm hdct sn sub ab col dd k0 k1 k2 k3 k5 newId)/\O.heap.get? e=Z (ff C d (U6 t))/\E (.ref e) O) E s):
  wpAny M A (raiseStmt env (Z x) Y) Q E s:=by
 have f:(YX C::bm).contains #[86]=true:=by rw[List.contains_cons,c,Bool.or_true]
 unfold raiseStmt;refine WI (Wj h (λv O j=>?_) λ_ _ y=>y);obtain⟨e,t,d,rfl,a,b,k⟩:=j;obtain⟨D,g,n,tk,os⟩:=O
 repeat (first|with_reducible refine Wh b ?_|with_reducible refine Wh a ?_|(with_reducible refine Wc a ?_;rw[f])|wp_step)
 exact wpAny_raiseNew_none H k
def aiS(X:Cx)(E:XK):Prop:=∀(y3:List #[51]) (σ:St) (H:Hp) (s:Qz) (ea C d:QX),Inv X y3 σ H s->H ea=Z (.ext (iu ea C d))->X.s₀.heap.get? ea=Y->E #[30] (Z d) (but H ea)->X.xe #[192] s
theorem fq.but{T:Heap->Prop}(x:fq P w H h)(e:H a=Z (.ext T)):fq P w (L2.but H a) h:=λb u q=>by
 have B:b≠a:=λz=>by rw[z,FU]at q;cases q
 rw[mW B]at q;refine(x b u q).Ae (λ_ _ _ y=>y) (λc y=>?_) λc E y=>?_<;>rw[mW]<;>first|exact y|(intro z;rw[z,e]at y;cases y)
theorem Un.but{fs:List QX}{g:Hp}{h1:Heap}{T:Heap->Prop}(u:Un fs [] H g h h1)(e:g a=Z (.ext T)):Un fs [] H (L2.but g a) h h1 where
 keep:=u.keep
 slot:=u.slot
 free:=λb o q n J=>by
  by_cases z:b=a
  ·rw[z];exact FU
  ·rw[mW z];exact u.free b o q n J
 there:=u.there
 tups:=λb E q=>by have y:=u.tups b E q;rw[mW λz=>by rw[z,e]at y;cases y];exact y
 frzs:=λb o v q=>by have y:=u.frzs b o v q;rw[mW λz=>by rw[z,e]at y;cases y];exact y
 tbls:=λb ps q=>by obtain⟨more,y⟩:=u.tbls b ps q;exact⟨more,by rw[mW λz=>by rw[z,e]at y;cases y];exact y⟩
section
variable{E:XK}
def afb:aiS (bE (IG P w) P w K mg base N qual scope f cd A outer s H E) E:=by
 intro V D g T L C d I X i k;have i:s.heap.get? L=Y:=i;obtain⟨⟨O,z⟩,_,_⟩:=(show bp P w g T.heap L (.ext (iu L C d))from I.hok L _ X);show wpAny #[42] (A.deeper #[19]) (leaving #[19] #[143]) _ _ _;have a:∀env∈(envOfC qual scope s.heap.objs.size f cd::outer),∀b,env.frame=Z b->b∈L::De (envOfC qual scope s.heap.objs.size f cd::outer):=λenv c b B=>jJ _ (zu.mpr ⟨env,c,B⟩);have x:=I.stack;have M:∀{b},b∈De (envOfC qual scope s.heap.objs.size f cd::outer)->∃o,T.heap.get? b=Z o/\∀vs,o.data≠.fields vs:=λ{b} B=>(x.mem B).2;have old:∀b o,s.heap.get? b=Z o->b≠L:=λb o q y=>by rw[y,i]at q;cases q
 refine J0 (base:=xZ T.heap (L::De (envOfC qual scope s.heap.objs.size f cd::outer))) I.ok.frames (PySem.W.funFrames_hide x a) rfl z (λb o q=>Xy _ q) (yo _ jC) rfl rfl rfl λG R v h j=>?_;refine⟨L,O,C,d,_,L2.but g L,U,I.os,I.bare,?_,?_,⟨R,yo _ jC,v,h⟩,λb o q B=>?_,FU,k⟩
 ·refine Un.fly (h1:=T.heap) (I.base.but X) R (λb o J q m B=>yW _ m λy=>?_) λb o B q=>?_
  ·rcases jL.mp y with y|y
   ·exact old b o q y
   ·rcases(wL b).mp y with e|e
    ·exact JT _ (e▸jI q)
    ·exact B e
  ·obtain⟨r,l,t⟩:=M ((wL (qual:=qual) (scope:=scope) (s:=s) (f:=f) (cd:=cd) b).mpr (.inr B));rw[q]at l;cases l;exact j b o q t
 ·exact(fq.but I.hok X).less λb u ⟨o,e⟩ q=>yW _ q λy=>by
   rcases jL.mp y with y|y
   ·rw[y,FU]at e;cases e
   ·have n:=I.OC b y;have F:L2.but g L b=Y:=by
     by_cases p:b=L
     ·rw[p];exact FU
     ·rw[mW p];exact n
    rw[e]at F;cases F
 ·obtain⟨r,l⟩:=I.base.there b o q #[0];exact⟨r,yW _ l λy=>by
   rcases jL.mp y with y|y
   ·exact old b o q y
   ·rcases(wL b).mp y with e|e
    ·exact JT _ (e▸jI q)
    ·exact B e⟩
def L6:Passes (IG P w) (bE (IG P w) P w K mg base N qual scope f cd A outer s H E) E:=by
 intro V m H1 s1 e g I O;obtain⟨j,t,C,d,B,h,rfl,os,p,un,c,⟨L,F,n,D⟩,there,hn,v⟩:=O;have S:fq P w h g.heap:=c.kept λb u q=>L b u q;have J:Inv (bE (IG P w) P w K mg base N qual scope f cd A outer s H E) V m h g:=I.Ll (ch:=[]) os un S p (λb z=>by cases z);have x:=J.stack;have M:∀{b},b∈De (envOfC qual scope s.heap.objs.size f cd::outer)->∃o,g.heap.get? b=Z o/\∀vs,o.data≠.fields vs:=λ{b} a=>(x.mem a).2;show wpAny #[42] (A.deeper #[19]) (leaving #[19] (.ref j)) _ _ _;have i:∀b o,s.heap.get? b=Z o->b∉De outer->∃r,B.get? b=Z r:=λb o q a=>by
  obtain⟨k,T⟩:=I.base.there b o q #[0];exact there b k T λz=>by
   rcases(wL b).mp z with e|e
   ·exact JT _ (e▸jI q)
   ·exact a e
 refine N5 I.ok.frames n rfl D L F λG R Q W X=>?_;refine⟨j,t,C,d,B,h,U,J.os,J.bare,?_,c,⟨R,F,Q,W⟩,i,hn,v⟩;refine Un.fly (h1:=g.heap) J.base R (λb o k q q1 a=>?_) λb o a q=>?_
 ·obtain⟨r,l⟩:=i b o q a;have y:=L b r l;rw[q1]at y;cases y;exact l
 ·obtain⟨r,l,hd⟩:=M ((wL (qual:=qual) (scope:=scope) (s:=s) (f:=f) (cd:=cd) b).mpr (.inr a));rw[q]at l;cases l;exact X b o q hd
end
section
variable{k:Nat}{ps:List Str}{y fl:Str}{dv:Pos}{E:XK}
structure acb(C:QX)(sp:Sp)(eN:List V)(E:XK)(vs:List V)(H1:Hp):Prop where
 h0:vs.length<=8
 h1:∀x,H1 x=Y->sp (.ref x::(vs++eN)) (upd H1 x (.ext (mL x C))) (λv H2=>v=.non/\∃d,H2 x=Z (.ext (iu x C d))/\E #[30] (Z d) (L2.but H2 x)) E0
def aaN(C:QX)(sp:Sp)(eN:List V)(E:XK)(t:TA):TS:=λ_ σ H=>t σ H (acb C sp eN E)
theorem abZ(M:DT X.K C f)(F:aR X.prog X.w X.K X.mg X.base dy k f fd ps sp)(hr:cL (k+1) X.A)(hc:X.calm=true)(hm:X.mg x=Z #[30])(hb:Binds X.K fd ps ds)(hd:Vals eN ds)(ht:aiS X E)(ha:PA X (e::es) t)(hex:X.ex=[]:=by rfl)(hg:Gl X x:=by rfl)(B1:#[17]=false:=by decide)(he:qh (e::es) X.env=#[18]::qh es X.env:=by rfl)(rF:(backTo dv (qh es X.env)).any (·.1)=false:=by rfl):
  PS X (.Raise (Z (.Call (.Name x p) (e::es) [] dv)) Y pos) (aaN C sp eN E t):=by
 intro b s m H D I h;obtain⟨tl,N,nm,qn,bs,c,sn,sub,ab,B,dd,k0,k1,k2,k3,k5,mN,hC,hN,j5,T⟩:=MO I.ok.mod.kin M.ex;show wpAny _ X.A (do standAt pos;raiseStmt X.env (Z (do let v <-eval (.Call (.Name x p) (e::es) [] dv) X.env;standAt pos;pure v)) Y) _ _ s;refine WI (YM (ahj (C:=C) (nm:=nm) (q:=qn) (N:=N) (bs:=bs) (bm:=tl) (hdct:=c) (sn:=sn) (sub:=sub) (ab:=ab) (col:=B) (dd:=dd) (k0:=k0) (k1:=k1) (k2:=k2) (k3:=k3) (k5:=k5) (newId:="ValueError.__new__") (T.hasType #[10]) (I.ok.hd hc) (WI ?_)));refine WB (oa I hg hm ?_ B1);refine Yu (h₀:=X.base) I.ok.mod.kin M.kp (bR (ha dv b s m H _ I h) λS Q ⟨vs,H1,P,r,l8,q⟩=>⟨P.pW,?_⟩) he rF;refine SJ P.pW M.ex M.fn (λg L O R a2 W a4=>?_) (by show S.length<=sizeLine;rw[<-r.length];exact jW l8 #[10]);have hq:=q L (P.hok.fresh W);have i:Inv X b m (upd H1 L (.ext (mL L C))) {Q with heap:=g}:=P.laid (o:=.ext (mL L C)) (t':=Q.toks) a4 W
  (show mL L C g/\(∃o,g.get? L=Z o)/\∀G j:Heap,mL L C G->(∀o,G.get? L=Z o->j.get? L=Z o)->mL L C j from⟨⟨O,R⟩,⟨_,R⟩,λG j ⟨O,z⟩ kk=>⟨O,kk _ z⟩⟩)
 have r2:Vals (V.ref L::(vs++eN)) (YX L::(S++ds)):=.cons rfl (r.append hd);have hl:(YX L::S++ds).length=ps.length:=by have z:=r2.length;rw[F.len _ _ _ _ hq]at z;exact z.symm
 have l:X.s₀.heap.get? L=Y:=by
  cases z:X.s₀.heap.get? L with
  | none=>rfl
  | some o=>
   obtain⟨o',z'⟩:=P.base.there L o z (by rw[hex];intro y;cases y);rw[a2]at z';cases z'
 refine WJ (qM (F.run _ X.stack _ _ ⟨YX L::S,[]⟩ (YX L::(S++ds)) _ _ E0 (hr.make C S []) (i.S7.make C S []) (hb _ (YX L::S) i.pW hl) r2 hq) λr s' a=>?_);cases r with
 | error e=>exact a.elim
 | ok fl=>
  cases fl with
  | ret u=>
   obtain⟨v,H',n,rv,ev,d,hx,hE⟩:=i.after a;subst ev;refine⟨rv,WI (YM (Wv ?_))⟩;obtain⟨⟨J,z⟩,_,_⟩:=(show bp X.prog X.w H' s'.heap L (.ext (iu L C d))from n.hok L _ hx);exact⟨L,J,Z d,U,n.bk _ _ hC,z,ht b m H' s' L C d n hx l hE⟩
  | next=>exact False.elim a
  | brk=>exact False.elim a
  | cont=>exact False.elim a
end
structure BB(P:Qv)(w:World)(K:YW)(mg:Str->Option Value)(base:Heap)(x:Str)(k:Nat)(ps:List Str)(eN:List V)(sp:Sp):Prop where
 ex:∃(f:QX) (fd:Qh) (ds:List Value),mg x=Z #[58]/\Yd K #[58]=true/\Vals eN ds/\Binds K fd ps ds/\aR P w K mg base (IG P w) k f fd ps sp
section
variable{j k:Nat}{ps:List Str}{E:XK}
def aks(G:BB X.prog X.w X.K X.mg X.base x k ps eN sp)(S:cL j X.A)(J:Passes (IG X.prog X.w) X E)(l:PA X (e::es) t)(hkj:k<=j:=by decide)(m:Gl X x:=by rfl)(b:#[17]=false:=by decide)(R:qh (e::es) X.env=#[18]::qh es X.env:=by rfl)(a:#[20].any (·.1)=false:=by rfl):
  PE X #[16] (Mi sp eN E t):=by
 obtain⟨f,fd,ds,N,C,c,B,F⟩:=G.ex;exact Ob F #[163] m N C B c J l b R a
end
section
variable{M:Model}{e:QX}
def ai3(J:A.frames=Z (env::outer))(fr:s.heap.FunFrames base (env::outer))(l:env.frame=Z L)(xe:s.heap.get? e=Z oe)(st:base.StaysIn s.heap)(G:base.get? e=Y)(m:oe.data=.fields vs)(two:1<vs.size)(w:vs[0]?=Z a0)(g:∀h',base.StaysIn h'->h'.FunFrames base (env::outer)->Ay h' base e oe.cls a0 (rawInt L) oe.dict->s.heap.UpToSlots h'->Q () {s with heap:=h'}):
  wpAny M A (do let c <-frameOf env;let a <-entryPlaceOf L hn;let i <-EntryCells.newEntry head c .none (rawInt L) .none a;setField (.ref e) 1 i) Q E s:=by
 have B:e∉(env::outer).filterMap (·.frame):=λz=>by obtain⟨_,o,q,F⟩:=fr.mem z;rw[xe]at q;cases q;exact F vs m
 refine WI (WW J fr l λD only=>?_);refine WI (WR λa r=>?_);unfold EntryCells.newEntry newFields;refine WI (Wm ?_ (r.sizeOk5 _ _ _ _ _));generalize u:({cls:=.type "traceback",dict:=Y,data:=.fields #[32].toArray}:Obj)=i;have v:i.data=.fields #[32].toArray:=by rw[<-u]
 have H:i.isFreed=false:=by rw[<-u];rfl
 have O:D.get? e=Z oe:=(only.2.1 e B).trans xe;have k:base.StaysIn D:=λb o z=>(only.2.1 b λy=>by rw[(fr.mem y).1]at z;cases z).trans (st b o z);have n:(D.push i).get? e=Z oe:=jA i O;have d:D.objs.size≠e:=JW (jI O);have I:=Obj.data_mapFields m #[29];have p:=jk #[131] n (Obj.isFreed_of_fields I);have R:((D.push i).update e #[131]).get? D.objs.size=Z i:=by rw[jm _ _ (Ne.symm d)];exact jF D H
 obtain⟨V,j⟩:∃V,(D.push i).update e #[131]=V:=⟨_,rfl⟩;have rest:∀b o,b≠e->D.get? b=Z o->V.get? b=Z o:=λb o N z=>by rw[<-j,jm _ _ (Ne.symm N)];exact jA _ z
 have plain:∀b o,s.heap.get? b=Z o->#[122]->b≠e:=λb o z F y=>by rw[y,xe]at z;cases z;exact F vs m
 refine YH n m two ?_;dsimp only;rw[j];refine g V ?_ ?_ ?_ ?_
 ·exact λb o z=>rest b o (λy=>by rw[y,G]at z;cases z) (k b o z)
 ·refine fr.of_keeps λb o z F=>?_;obtain⟨P,y⟩:=only.2.2 b o z;exact⟨_,rest b _ (plain b o z F) y,U⟩
 ·have t:V.get? e=Z (Obj.mapFields #[29] oe):=by rw[<-j];exact p
  have S:V.get? D.objs.size=Z i:=by rw[<-j];exact R
  refine⟨_,_,D.objs.size,_,_,t,Obj.cls_mapFields _ _,Pu _ _,I,by rw[zX #[10]];exact w,by simp[two],k.fresh,d,S,v,?_⟩;simp
 ·intro b o z F;obtain⟨P,y⟩:=only.2.2 b o z;exact⟨P,rest b _ (plain b o z F) y⟩
def aj7(J:A.frames=Z (env::outer))(fr:s.heap.FunFrames base (env::outer))(l:env.frame=Z L)(w:Ay s.heap base e cls a0 .none d)(st:base.StaysIn s.heap)(G:base.get? e=Y)(g:∀h',base.StaysIn h'->h'.FunFrames base (env::outer)->Ay h' base e cls a0 (rawInt L) d->s.heap.UpToSlots h'->Q () {s with heap:=h'}):wpAny M A (noteFrame (.ref e) env) Q E s:=by
 obtain⟨oe,vs,T,X,x,u,rfl,rfl,i,j,r,q,t,k,p,a⟩:=w.ex;unfold noteFrame;simp only[l];refine WI (WU u i r ?_);rw[if_pos (show(YX T != Yc)=true by simp)];refine WI (WU k p a ?_);rw[if_neg (show ¬ ((Yc==rawInt L)=true) by simp[rawInt])];refine WI (YH k p (JU.mp a).1 ?_);have m:∀b,b≠T->(s.heap.update T (Obj.mapFields (·.setIfInBounds 3 Yc))).get? b=s.heap.get? b:=λb y=>jm _ _ (Ne.symm y);have n:∀b o,s.heap.get? b=Z o->#[122]->b≠T:=λb o z F y=>by rw[y,k]at z;cases z;exact F x p
 refine ai3 J (fr.of_keeps λb o z F=>⟨o,#[177].trans z,U⟩) l ((m e (Ne.symm t)).trans u) (λb o z=>(m b λy=>by rw[y,q]at z;cases z).trans (st b o z)) G i (JU.mp r).1 j
  λh' R v c h=>g h' R v c λb o z F=>h b o (#[177].trans z) F
def adB{G:Value}(st:base.StaysIn s.heap)(fr:s.heap.FunFrames base l)(w:Ay s.heap base e cls a0 G d)(g:∀h',base.StaysIn h'->h'.FunFrames base l->Ay h' base e cls a0 .none d->s.heap.UpToSlots h'->Q () {s with heap:=h'}):wpAny M A (setFlight (.ref e) Y) Q E s:=by
 obtain⟨oe,vs,T,X,x,u,v,c,i,j,r,q,t,k,p,a⟩:=w.ex;have h:3<x.size:=(JU.mp a).1;have m:∀b,b≠T->(s.heap.update T (Obj.mapFields #[45])).get? b=s.heap.get? b:=λb y=>jm _ _ (Ne.symm y);have n:∀b o,s.heap.get? b=Z o->#[122]->b≠T:=λb o z F y=>by rw[y,k]at z;cases z;exact F x p
 unfold setFlight;refine WI (WU u i r ?_);rw[if_pos (show(YX T != Yc)=true by simp)];have K:=Obj.data_mapFields p #[45];refine YH k p h (g _ (λb o z=>(m b λy=>by rw[y,q]at z;cases z).trans (st b o z)) (fr.of_keeps λb o z F=>⟨o,#[177].trans z,U⟩) ?_ λb o z F=>⟨o.slots,#[177].trans z⟩);refine⟨oe,vs,T,_,_,(m e (Ne.symm t)).trans u,v,c,i,j,r,q,t,jk _ k (Obj.isFreed_of_fields K),K,?_⟩;rw[zE h];rfl
end
open AutoSeq1 (wpAny_loadPart')
variable{prog:Qv}{w:World}{A:Around}{E Q:Value→Qz→Prop}{s:Qz}{it t l:QX}{i:Nat}{items:Array Value}{x:Value}
section
def B6(hit:s.heap.IsTupleIter it t i)(d:s.heap.IsTuple t items)(J:items[i]?=Z x)(g:∀h',h'.IsTupleIter it t (i+1)->Yf it s.heap h'->Q x {s with heap:=h'}):wpAny #[5] A (Yk #[148]) Q E s:=by
 obtain⟨o,V,O,j⟩:=id hit;obtain⟨u,q,_,y,n⟩:=d;unfold Yk;refine WI (WK (name:=Str.ofString "__next__") hit.typeIs yH
  (WL yH hit.typeIs XD ?_ (XA _)))
 show wpAny _ _ (field #[148] 0>>=_) _ _ s;refine WI (WU V j (x:=.ref t) rfl ?_);show wpAny _ _ (if (YX t==Yc)=true then _ else _) _ _ s;rw[if_neg (show ¬ ((YX t==Yc)=true)from jY)];show wpAny _ _ (field #[148] 1>>=_) _ _ s;refine WI (WU V j (x:=.int i 0) rfl ?_);show wpAny _ _ (seqItems? (.ref t)>>=_) _ _ s;refine WI (YG q n ?_);simp only[jN,J];refine WI (YH V j #[8] (Wv ⟨x,U,Wv (g _ ?_ (Yg ..))⟩));exact⟨_,jk _ V (Obj.isFreed_of_fields (Obj.data_mapFields j _)),(Obj.cls_mapFields ..).trans O,by rw[Obj.data_mapFields j];simp[rawInt]⟩
def rJ(H:A.handled=Y)(hit:s.heap.IsTupleIter it t i)(d:s.heap.IsTuple t items)(J:items[i]?=Y)(k:∀h' e,yV it s.heap h'->(∃o,h'.get? e=Z o/\o.cls=.type "StopIteration")->E (.ref e) {s with heap:=h'}):wpAny #[5] A (Yk #[148]) Q E s:=by
 obtain⟨o,V,O,j⟩:=id hit;obtain⟨u,q,_,y,n⟩:=d;unfold Yk;refine WI (WK (name:=Str.ofString "__next__") hit.typeIs yH
  (WL yH hit.typeIs XD ?_ (XA _)))
 show wpAny _ _ (field #[148] 0>>=_) _ _ s;refine WI (WU V j (x:=.ref t) rfl ?_);show wpAny _ _ (if (YX t==Yc)=true then _ else _) _ _ s;rw[if_neg (show ¬ ((YX t==Yc)=true)from jY)];show wpAny _ _ (field #[148] 1>>=_) _ _ s;refine WI (WU V j (x:=.int i 0) rfl ?_);show wpAny _ _ (seqItems? (.ref t)>>=_) _ _ s;refine WI (YG q n ?_);simp only[jN,J];refine WI (YF (WI (YH V j #[8] ?_)));show wpAny _ _ (newExc (.type "StopIteration") []>>=_) _ _ _;exists 34;simp only[newExc,newTuple];refine WI (Wm ?_ #[170]);refine WI (m:=firstArgMember _ _) (Wr (a:=Yc) (by first|rfl|(simp only[firstArgMember];rfl)) ?_);refine Wm ?_ #[170];simp only[raiseNew];refine WI (WY ?_)
 first|rw[show A.in1.handled=Y from H]|rw[H]
 refine WI (Wv (YO ?_));exact k _ _ (((Yg ..).extBut.push _).push _) ⟨_,jF _ rfl,U⟩
end
theorem FZ(H:A.handled=Y)(it t:QX)(K:t≠it)(items:Array Value):
  Draws prog w A it [it,t] items.size (λi v=>items[i]?=Z v) (λi h=>h.IsTupleIter it t i/\h.IsTuple t items) where
 live:=λ_ _ st=>let ⟨o,ho,_⟩:=st.1;⟨o,ho⟩
 frame:=λ_ _ _ st C=>⟨st.1.at λo e=>C it #[8] o e,st.2.at λo e=>C t #[8] o e⟩
 item:=λi s Q E W st g=>by refine B6 st.1 st.2 (x:=items[i]) (by simp[W]) λy a D=>?_;exact g _ y s.toks (by simp[W]) ⟨a,st.2.at λo e=>(D.2 t K).trans e⟩ D
 done:=λs Q E st k=>rJ H st.1 st.2 #[8] k
def wI(l:QX)(items:Array Value)(n:Nat)(a:Option QX)(P:Array (Option Value)):
  Meets (Builtin.«enumerate.__new__» ⟨[.type "enumerate",.ref l],[]⟩) (λ_ R s=>s.heap.get? l=Z {cls:=.type "tuple",dict:=a,data:=.seq items n,slots:=P} /\
   R (.ok (.ret (.ref #[28].objs.size)))
    {s with heap:=#[28].push {cls:=.type "enumerate",data:=.fields #[.none,.bool false,.ref s.heap.objs.size,rawInt 0,.none,.none]} }):=
 .of_wp λprog w A R s h=>by
  obtain⟨D,g,d,tk,os⟩:=s;obtain⟨L,h⟩:=h;have k:=sub_enumerate;have u:xF (Shared.heap ⟨D,g,d,tk,os⟩) l items:=⟨_,L,rfl,n,rfl⟩
  wp_walk using wpAny_loadPart' L
  refine wpAny_stack_any λst=>Wv ?_;split
  ·rename_i c _ _ _ _ _;cases(c==yn "enumerate")
   ·wp_walk using wpAny_loadPart' L,YA u
    exact⟨_,U,h⟩
   ·wp_walk using wpAny_loadPart' L,YA u
    exact⟨_,U,h⟩
  ·wp_walk using wpAny_loadPart' L,YA u
   exact⟨_,U,h⟩
def wx(u:s.heap.IsTuple l items)(h:∀h',IsEnum h' #[11] s.heap.objs.size 0 .none->h'.IsTupleIter s.heap.objs.size l 0->h'.objs.size=s.heap.objs.size+2 ->
   #[44]->Q (.ref #[11]) {s with heap:=h'}):
  wpAny #[5] A (call (.type "enumerate") [.ref l]) Q E s:=by
 obtain⟨⟨c,a,g,P⟩,L,O,n,j⟩:=u;replace O:c=.type "tuple" :=O;replace j:g=.seq items n:=j;subst O j;refine callType_new F.called_enumerate #[10] (F.typeCall_enumerate_1 _) (F.newCall_enumerate_1 _) (λobj=>F.args_object_init_2 obj _) F.entry_enumerate_new
  (wI l items n a P) ⟨L,?_⟩
 have C:#[28].objs.size=s.heap.objs.size+1:=jc ..;show _/\_;rw[C];have R:IsEnum (#[28].push
   {cls:=.type "enumerate",data:=.fields #[.none,.bool false,.ref s.heap.objs.size,rawInt 0,.none,.none]}) #[11] s.heap.objs.size 0 .none:=by
  have:=jF #[28]
   (o:={cls:=.type "enumerate",data:=.fields #[.none,.bool false,.ref s.heap.objs.size,rawInt 0,.none,.none]}) rfl
  rw[C]at this;exact this
 refine⟨⟨_,R,U⟩,h _ R ⟨_,jA _ (jF _ rfl),U,U⟩ (by rw[jc,C]) λb o x=>jA _ (jA _ x)⟩
variable{X:Cx}{y3:List (QX×Obj)}{σ B:St}{H:Hp}{s:Qz}{h':Heap}{t' n j:Nat}{e l:Expr}{P prog:Qv}{w:World}{K:YW}{elts es:List Expr}{pos OG p:Pos}{tl ta t:TA}{a C i1 i2:QX}{xs:List V}{tb:TS}{D:Ends}{o4:Array Value}{x m:Str}{sp:Sp}{A:Around}{E Q:Value→Qz→Prop}{ch:List QX}{ns:List Int}{us:List Value}{ix:List (Option Nat)}{te:TE}{Qd:QX→Hp→Prop}{v:Value}
section
def Inv.ahJ{t':Nat}{e it:QX}(I:Inv X y3 σ H s)(k:∀b o,b≠e->b≠it->s.heap.get? b=Z o->h'.get? b=Z o)(t:rn X y3 H e)(M:rn X y3 H it):Inv X y3 σ H {s with heap:=h',toks:=t'}:=by
 have A:∀b u,H b=Z u->b≠e/\b≠it:=λb u q=>⟨λz=>(by rw[z,t.1]at q;cases q),λz=>(by rw[z,M.1]at q;cases q)⟩;have S:∀b o,b∉[e,it]->s.heap.get? b=Z o->h'.get? b=Z o:=λb o O q=>k b o #[141] #[141] q;refine I.step (g':=s.gens) (d':=s.drawn) (ch:=[e,it]) (λb B=>?_) (λb o _ _ O q _=>S b o O q) (λb o _ _ O q _=>⟨o.slots,S b o O q⟩) (λ_ _ _ _ n=>n)
  (λb o O q=>⟨o,S b o O q⟩) (λ_ _ q=>q) (λ_ _ _ q=>q) (λb ps q=>⟨#[],by rw[q];simp⟩) (λm N=>?_) (λb u q=>?_) I.bare
 ·have q:b=e\/b=it:=by simpa using B
  rcases q with rfl|rfl
  ·exact⟨t.2.2.2.1,t.2.1,t.2.2.2.2.1,t.2.2.2.2.2⟩
  ·exact⟨M.2.2.2.1,M.2.1,M.2.2.2.2.1,M.2.2.2.2.2⟩
 ·obtain⟨o,es,i,V,r⟩:=N;exact⟨o,es,i,k _ o (Ne.symm t.2.1) (Ne.symm M.2.1) V,r⟩
 ·refine(I.hok b u q).Ae (λc v O z=>k c v ?_ ?_ z) (λ_ z=>z) λ_ _ z=>z
  ·rcases O with z|z
   ·rw[z];exact(A b u q).1
   ·exact(A c _ z).1
  ·rcases O with z|z
   ·rw[z];exact(A b u q).2
   ·exact(A c _ z).2
end
structure afE(K:YW)(Sq:Hp->QX->List V->Prop)(Ir:Heap->QX->QX->Nat->Prop)(Is:Heap->QX->Array Value->Prop):Prop where
 val:∀{X:Cx} {y3:List #[51]} {σ:St} {H:Hp} {s:Qz} {a:QX} {xs:List V},X.K=K->Inv X y3 σ H s->Sq H a xs->∃aN,Vals xs aN/\Is s.heap a aN.toArray
 inj:∀{X:Cx} {y3:List #[51]} {σ:St} {H:Hp} {s:Qz} {a:QX} {xs ys:List V},X.K=K->Inv X y3 σ H s->Sq H a xs->Sq H a ys->xs=ys
 obj:∀{h:Heap} {it a:QX} {i:Nat},Ir h it a i->∃o c,h.get? it=Z o/\o.cls=.type c/\c ≠ "enumerate" /\ ∀v,o.data≠.cell v
 src:∀{h:Heap} {a:QX} {aN:Array Value},Is h a aN->∃o c,h.get? a=Z o/\o.cls=.type c/\c ≠ "enumerate"
 ne:∀{h:Heap} {it a:QX} {i:Nat} {aN:Array Value},Is h a aN->Ir h it a i->a≠it
 at_:∀{h h':Heap} {it a:QX} {i:Nat},Ir h it a i->(∀o,h.get? it=Z o->h'.get? it=Z o)->Ir h' it a i
 draws:∀{prog:Qv} {w:World} {A:Around},A.handled=Y->∀(it a:QX),a≠it->∀items:Array Value,Draws prog w A it [it,a] items.size (λi v=>items[i]?=Z v) (λi h=>Ir h it a i/\Is h a items)
 fin:∀{prog:Qv} {w:World} {A:Around} {s:Qz} {it a:QX} {i:Nat} {items:Array Value} {Q:Value->Qz->Prop} {E:Value->Qz->Prop},A.handled=Y->Ir s.heap it a i->Is s.heap a items->items[i]?=Y->(∀h' e,yV it s.heap h'->(∃o,h'.get? e=Z o/\o.cls=.type "StopIteration")->E (.ref e) {s with heap:=h'})->wpAny #[5] A (Yk #[148]) Q E s
 call:∀{prog:Qv} {w:World} {A:Around} {E:Value->Qz->Prop} {s:Qz} {l:QX} {items:Array Value} {Q:Value->Qz->Prop},Is s.heap l items->(∀h',IsEnum h' #[11] s.heap.objs.size 0 .none->Ir h' s.heap.objs.size l 0->h'.objs.size=s.heap.objs.size+2->#[44]->Q (.ref #[11]) {s with heap:=h'})->wpAny #[5] A (call (.type "enumerate") [.ref l]) Q E s
def Sk(Sq:Hp->QX->List V->Prop)(a:QX):It:=
 ⟨λi H=>∃xs x,Sq H a xs/\xs[i]?=Z x,λi H v H'=>∃T x,v=.ref T/\H T=Y/\H'=upd H T #[112]/\∀xs,Sq H a xs->xs[i]?=Z x,λi H=>∃xs,Sq H a xs/\xs.length<=i⟩
theorem W3{Sq:Hp->QX->List V->Prop}{Ir:Heap->QX->QX->Nat->Prop}{Is:Heap->QX->Array Value->Prop}{x1:_}(S:afE K Sq Ir Is)(a e it:QX):Turn P w K (.Tuple elts x1 pos) (Sk Sq a) [e,it] e (λi h=>(∃old,IsEnum h e it i old)/\Ir h it a i) where
 mem:=by simp
 obj:=λi h st b B=>by
  have q:b=e\/b=it:=by simpa using B
  rcases q with rfl|rfl
  ·obtain⟨⟨old,st⟩,_⟩:=st;exact⟨_,st,λv z=>by have z':Data.fields _=Data.cell v:=z;cases z'⟩
  ·obtain⟨o,c,e,_,_,d⟩:=S.obj st.2;exact⟨o,e,d⟩
 keep:=λi h h' st k=>⟨let ⟨old,z⟩:=st.1;⟨old,k e #[8] _ z⟩,S.at_ st.2 λo z=>k it #[8] o z⟩
 item:=by
  intro X j G m O i y3 s σ H E I l st p;subst j G m;obtain⟨xs,x,W,J⟩:=p;obtain⟨t,C,n⟩:=S.val rfl I W;obtain⟨u,hu,ru⟩:=C.get J;obtain⟨⟨old,R⟩,hit⟩:=st;have fe:=l e #[8];have fi:=l it #[8];have no:∀{x:QX},(∃o c,s.heap.get? x=Z o/\o.cls=.type c/\c ≠ "enumerate")->e≠x:=λq z=>by obtain⟨o,c,f,L,Q⟩:=q;rw[<-z,R]at f;cases f;exact Q (yb L).symm
  have ne:e≠it:=no (let ⟨o,c,f,L,Q,_⟩:=S.obj hit;⟨o,c,f,L,Q⟩);have j5:a≠e:=Ne.symm (no (S.src n));have o5:a≠it:=S.ne n hit;have hi:i<t.toArray.size:=by have:i<t.length:=(jb.mp hu).1;exists 33
  have D:=S.draws (prog:=X.prog) (w:=X.w) (A:=X.A.in1) (show X.A.in1.handled=Y from I.ok.hd O) it a o5 t.toArray;refine wpAny_pyNext_enum_itemD D R ⟨hit,n⟩ hi ne (by simp[ne,Ne.symm j5]) λy h1 tk N ho c6 r l6 hk=>?_;have ey:y=u:=by
   have:t.toArray[i]?=Z u:=by simpa using hu
   rw[this]at N;exact(Option.some.inj N).symm
  subst ey;refine⟨_,U,wpAny_letOwnedTupleGo_enum ho λh2 d6 M=>?_⟩;have fr:H s.heap.objs.size=Y:=I.hok.fresh (jD _);have I1:Inv X y3 σ (upd H s.heap.objs.size #[112]) {s with heap:=s.heap.push {cls:=.type "tuple",data:=.seq #[.int i tk,y]},toks:=tk+1}:=
   I.laid (o:=.tup [.int i,x]) (λb ob q=>jA _ q) (jD _) ⟨by show 2<=sizeLine;decide,[.int i tk,y],.cons ⟨tk,rfl⟩ (.cons ru .nil),⟨_,jF _ rfl,rfl,_,rfl⟩⟩
  have lt:∀b∈[e,it],b<s.heap.objs.size:=λb B=>by
   have q:b=e\/b=it:=by simpa using B
   rcases q with rfl|rfl
   ·exact jI R
   ·obtain⟨o,c,f,_⟩:=S.obj hit;exact jI f
  have g:∀b∈[e,it],rn X y3 (upd H s.heap.objs.size #[112]) b:=λb B=>by refine⟨?_,(l b B).2⟩;rw[ag (jM (lt b B))];exact(l b B).1
  have I2:Inv X y3 σ (upd H s.heap.objs.size #[112]) {s with heap:=h2,toks:=tk+1}:=by
   refine I1.ahJ (t':=tk+1) (h':=h2) (λb o b1 b2 q=>?_) (g e #[8]) (g it #[8]);refine(M.2 b b1).trans ?_;rcases zi (show(s.heap.push {cls:=.type "tuple",data:=.seq #[.int i tk,y]}).get? b=Z o from q)with⟨rfl,rfl⟩|z
   ·exact r
   ·exact hk b o b1 b2 z
  refine⟨.ref s.heap.objs.size,_,I2,U,⟨s.heap.objs.size,x,U,fr,U,λys N=>by rw[S.inj rfl I N W];exact J⟩,⟨⟨y,?_⟩,?_⟩,λb B=>(g b B).1⟩
  ·have:((i+1:Nat):Int)=(i:Int)+1:=by push_cast;rfl
   rw[this];exact d6
  ·exact S.at_ c6.1 λo z=>(M.2 it (Ne.symm ne)).trans z
 done:=by
  intro X j G m O i y3 s σ H E I l st p;subst j G m;obtain⟨xs,W,J⟩:=p;obtain⟨t,C,n⟩:=S.val rfl I W;obtain⟨⟨old,R⟩,hit⟩:=st;obtain⟨f0,f1,g,f3,f4,f5⟩:=l it #[8];have hl:=C.length;have r:s.TypeIs (.ref e) "enumerate" :=⟨_,R,rfl⟩;unfold pyNext;refine WI (WH (WK (name:=Str.ofString "__next__") r Xi
   (WL Xi r F.entry_enumerate_next ?_ (F.args_enumerate_next_1 _))))
  show wpAny _ _ (field (.ref e) 2>>=_) _ _ _;refine WI (WU R rfl (x:=.ref it) rfl ?_);refine WI (S.fin (show X.A.in1.handled=Y from I.ok.hd O) hit n (by simp;omega) λh' x g6 MY=>?_);obtain⟨o,ho,i6⟩:=MY;refine WI (Wa (T:="StopIteration") (b:=true) ⟨o,ho,i6⟩ qU ?_);exact Wv ⟨U,I.turned (t':=s.toks) (λb o B z=>g6 b o B z) f0 f1 f3 f4 f5⟩
 self:=λ_ _ _ _ _ st h=>let ⟨_,z⟩:=st.1;Ww z h
section
def MH:qF "enumerate" = Z (.type "enumerate"):=by decide +kernel
theorem Rx{Q:Hp->QX->List V->Prop}{L:Heap->QX->QX->Nat->Prop}{d:Heap->QX->Array Value->Prop}(S:afE X.K Q L d){u:_}(m:Gl X "enumerate")(N:X.mg "enumerate" = Y)(f:PA X [l] tl)(hs:qh [l] X.env=[(false,eval l X.env)]):
  PI X (.Tuple elts u OG) (.Call (.Name "enumerate" p) [l] [] pos) (λσ H R=>tl σ H λvs g=>∃a,vs=[.ref a]/\(∃xs,Q g a xs)/\R (Sk Q a) g):=by
 exists 24;refine Call_ (sH I m N MH (Yl (bR (f pos y3 s σ H _ I h) λus T ⟨vs,g,P,F,O⟩=>?_) hs rfl));obtain⟨a,e,⟨xs,W⟩,q⟩:=O;subst e;cases F with
 | cons r i=>
  cases i;cases r;obtain⟨t,j,p⟩:=S.val rfl P W;refine S.call p λh' c hit G C=>?_;refine Ww c ?_;refine⟨T.heap.objs.size+1,[T.heap.objs.size+1,T.heap.objs.size],_,_,g,U,P.kept (t':=T.toks) C,W3 S a _ T.heap.objs.size,⟨⟨_,c⟩,hit⟩,λb B=>?_,q⟩;have e:b=T.heap.objs.size+1\/b=T.heap.objs.size:=by simpa using B
  rcases e with rfl|rfl
  ·exact P.G0 (JE _) (P.hok.fresh (JE _))
  ·exists 19
end
def Lv{Q:Hp->QX->List V->Prop}{g:TG}(d:Nat->St->Hp->Prop)(I:d 0 σ H)(L:∀i σ H,i<=xs.length->d i σ H->Q H a xs)(hs:∀i x σ H T,xs[i]?=Z x->d i σ H->H T=Y->g #[164] σ (upd H T #[112]) λb G=>tb {D with nx:=d (i+1),ct:=d (i+1),bk:=D.nx} b G)(j:∀σ H,d xs.length σ H->D.nx σ H):
  ∃W:Nat->Nat->St->Hp->Prop,#[119]/\∀i m σ H,W i m σ H ->
   ((Sk Q a).stop i H/\D.nx σ H)\/((Sk Q a).go i H/\∃N:St->Hp->Prop,#[31]/\∀x H',(Sk Q a).yld i H x H'->g x σ H' λb G=>tb {D with nx:=N,ct:=N,bk:=D.nx} b G):=by
 exists 3;exists 21;have q:=L i σ H c p;exists 23
 ·refine .inr ⟨⟨xs,xs[i],q,by simp[f]⟩,d (i+1),λO H' n=>⟨xs.length-(i+1),by omega,U,f,n⟩,λx H' y=>?_⟩;obtain⟨T,w,rfl,r,rfl,y⟩:=y;exact hs i w σ _ T (y xs q) p r
 ·exists 17;subst e;exact .inl ⟨⟨xs,q,jD _⟩,j σ H p⟩
theorem amI:afE K (lU K) Heap.IsTupleIter xF where
 val:=λe I q=>by subst e;obtain⟨t,f,p,_⟩:=I.tuple q;exact⟨t,f,p⟩
 inj:=λe I q N=>by subst e;exact I.DL q N
 obj:=λ⟨o,e,c,d⟩=>⟨o,_,e,c,by decide,λv z=>by rw[d]at z;cases z⟩
 src:=λ⟨o,e,c,_⟩=>⟨o,_,e,c,by decide⟩
 ne:=λ⟨o,e,c,_⟩ ⟨r,l,B,_⟩ z=>by rw[z,l]at e;cases e;rw[B]at c;exact absurd (yb c) #[10]
 at_:=λx k=>x.at k
 draws:=FZ
 fin:=rJ
 call:=wx
def Ite(K:YW):QX->It:=Sk (lU K)
section
def ajS(K:YW)(tl:TA):TI:=λσ H R=>tl σ H λvs H1=>∃a,vs=[.ref a]/\(∃xs,lU K H1 a xs)/\R (Ite K a) H1
def aeq{u:_}(m:Gl X "enumerate")(N:X.mg "enumerate" = Y)(L:PA X [l] tl)(hs:qh [l] X.env=[(false,eval l X.env)]:=by rfl):
  PI X (.Tuple elts u OG) (.Call (.Name "enumerate" p) [l] [] pos) (ajS X.K tl):=Rx amI m N L hs
end
def abg{g:TG}(d:Nat->St->Hp->Prop)(I:d 0 σ H)(L:∀i σ H,i<=xs.length->d i σ H->lU K H a xs)(hs:∀i x σ H T,xs[i]?=Z x->d i σ H->H T=Y->g #[164] σ (upd H T #[112]) λb G=>tb {D with nx:=d (i+1),ct:=d (i+1),bk:=D.nx} b G)(j:∀σ H,d xs.length σ H->D.nx σ H):
  ∃W:Nat->Nat->St->Hp->Prop,#[119]/\∀i m σ H,W i m σ H ->
   ((Ite K a).stop i H/\D.nx σ H)\/((Ite K a).go i H/\∃N:St->Hp->Prop,#[31]/\∀x H',(Ite K a).yld i H x H'->g x σ H' λb G=>tb {D with nx:=N,ct:=N,bk:=D.nx} b G):=Lv d I L hs j
def Tu(h:ItemsOf (λi v=>∃t,v=.int (0+(i:Int)*1) t) o4 n):Vals ((ji n).map λi:Nat=>V.int i) o4.toList:=by
 have g:∀(n:Nat) (us:List Value),us.length=n->(∀(j:Nat) (v:Value),us[j]?=Z v->∃t,v=Yj (0+(j:Int)*1) t)->Vals ((ji n).map λi:Nat=>V.int i) us:=by
  intro n
  induction n with
  | zero=>
   intro us L _;cases us with
   | nil=>exact .nil
   | cons a r=>cases L
  | succ n K=>
   intro us L M;have G:us≠[]:=λz=>by rw[z]at L;cases L
   have e:=zB G;rw[<-e,JP,jB];have b:us.dropLast.length=n:=by rw[ZX,L];rfl
   refine(K us.dropLast b λj v f=>?_).append (.cons ?_ .nil)
   ·refine M j v ?_;have lt:=(jb.mp f).1;rw[<-e,jq lt];exact f
   ·obtain⟨t,d⟩:=M n (us.getLast G) (by rw[List.getLast_eq_getElem,jE #[2]];simp[L]);rw[d];exact⟨t,by rw[zj,QQ]⟩
 exact g n o4.toList (by rw[jg,h.1]) λj v f=>h.2 j v (by rw[<-JV];exact f)
section
variable{a:Expr}{p2 abV:Pos}
inductive V7 (Q:VK) (vs:List V) (H1:Hp):Prop
 | mk (n:Nat) (_:vs=[.int n]) (_:n<=sizeLine) (_:∀l,H1 l=Y->Q #[181] (upd H1 l (.lst ((ji n).map λi:Nat=>V.int i))))
def ae8(ta:TA):TE:=λσ H Q=>ta σ H (V7 Q)
theorem U0(O:X.calm=true)(j:Gl X "list")(k:X.mg "list" = Y)(m:Gl X "range")(N:X.mg "range" = Y)(l:PA X [a] ta)(hs:qh [a] X.env=[(false,eval a X.env)]:=by rfl)(M:qh [.Call (.Name "range" p2) [a] [] abV] X.env=[(false,eval (.Call (.Name "range" p2) [a] [] abV) X.env)]:=by rfl):
  PE X (.Call (.Name "list" p) [.Call (.Name "range" p2) [a] [] abV] [] pos) (ae8 ta):=by
 exists 2;refine WB (sH I j k BS ?_);refine Yl ?_ M rfl;rw[M];refine Yn ?_;refine Call_ (sH I m N boot_range (Yl (bR (l abV y3 s σ H _ I h) λus T ⟨vs,g,P,F,c⟩=>?_) hs rfl));obtain⟨n,e,hn,q⟩:=c;subst e;cases F with
 | cons r d=>
  cases d;obtain⟨t,rfl⟩:=r;have big:sizeLine<=2^24:=by decide
  have v:((sizeLine:Nat):Int)<2^62:=by decide
  have u:(n:Int)<2^62:=by omega
  refine call_range_1 ?_;refine yD ?_;have sz:(T.heap.push {cls:=.type "range",data:=.fields #[.int 0 T.toks,.int n t,.int 1 (T.toks+1)]}).objs.size=T.heap.objs.size+1:=jc _ _;refine PySem.call_list_range (s:={T with heap:=T.heap.push {cls:=.type "range",data:=.fields #[.int 0 T.toks,.int n t,.int 1 (T.toks+1)]},toks:=T.toks+1+1}) (n:=n) (P.ok.hd O) (IsRange.new ..) (small_one #[2] #[2] #[2] u)
   (by rw[rangeSize_one];split<;>omega) #[2] λh' tk J B x e K=>?_
  have z:∀b o,T.heap.get? b=Z o->h'.get? b=Z o:=λb o f=>x b o (jA _ f);have y:bp X.prog X.w (upd g (T.heap.push {cls:=.type "range",data:=.fields #[.int 0 T.toks,.int n t,.int 1 (T.toks+1)]}).objs.size (.lst ((ji n).map λi:Nat=>V.int i))) h' (T.heap.push {cls:=.type "range",data:=.fields #[.int 0 T.toks,.int n t,.int 1 (T.toks+1)]}).objs.size (.lst ((ji n).map λi:Nat=>V.int i)):=by
   exists by rw[jQ,jt];exact hn,J.toList,B,Tu K
   exact e
  exact⟨.ref _,_,P.laid (t':=tk) z (by rw[sz];exact JE _) y,U,q _ (P.hok.fresh (by rw[sz];exact JE _))⟩
end
structure K6(P:Qv)(w:World)(K:YW)(mg:Str->Option Value)(base:Heap)(x:Str)(C:QX)(k:Nat)(ps:List Str)(sp:Sp):Prop where
 m:mg x=Z #[30]
 cl:EJ K C
 ex:∃(f:QX) (fd:Qh),Mk K C f/\Binds K fd ps []/\aR P w K mg base dy k f fd ps sp
def Od{k:Nat}{ps:List Str}(G:K6 X.prog X.w X.K X.mg X.base x C k ps sp)(S:cL j X.A)(l:PA X (e::es) t)(hkj:k+1<=j:=by decide)(a:Gl X x:=by rfl)(b:#[17]=false:=by decide)(R:qh (e::es) X.env=#[18]::qh es X.env:=by rfl)(c:#[20].any (·.1)=false:=by rfl):PE X #[16] (aiC C sp [] E0 t):=by obtain⟨f,fd,M,B,F⟩:=G.ex;exact ag6 M F #[163] a G.m B .nil aec l b R c
structure cT(P:Qv)(w:World)(K:YW)(mg:Str->Option Value)(base:Heap)(C:QX)(m:Str)(k:Nat)(ps:List Str)(sp:Sp):Prop where
 cl:EJ K C
 ex:∃(f:QX) (fd:Qh),Meth K C m f/\Binds K fd ps []/\aR P w K mg base dy k f fd ps sp
def pN{k:Nat}{ps:List Str}{b:Pos}{o:Expr}{ta:TE}{pl:Qw Bool}(G:cT X.prog X.w X.K X.mg X.base C m k ps sp)(S:cL j X.A)(V:PE X o ta)(l:PA X (e::es) t)(hkj:k<=j:=by decide)(M:qh (e::es) X.env=#[18]::qh es X.env:=by rfl)(a:#[20].any (·.1)=false:=by rfl)(d:eval (.Call (.Attribute o m b) (e::es) [] pos) X.env=(do
   let D <-eval o X.env
   standAt b.atName
   let (f,first) <-holding [D] (getMethod D m pl)
   callWith pos f first (backTo pos (qh (e::es) X.env)) #[70]):=by rfl):
  PE X (.Call (.Attribute o m b) (e::es) [] pos) (R0 C m sp [] E0 ta t):=by
 obtain⟨f,fd,N,B,F⟩:=G.ex;exact aan V G.cl N F #[163] B .nil aec l M a d
section
structure Sz(z TI TO i1 i2:QX)(fp1 fp2:List QX):Prop where
 TIz:TI≠z
 TOz:TO≠z
 TITO:TI≠TO
 i1z:i1≠z
 i2z:i2≠z
 TIi1:TI≠i1
 TIi2:TI≠i2
 TOi1:TO≠i1
 TOi2:TO≠i2
 i12:i1≠i2
 z1:z∉fp1
 TO1:TO∉fp1
 i21:i2∉fp1
 z2:z∉fp2
 TO2:TO∉fp2
 i12':i1∉fp2
variable{z TI TO:QX}{fp1 fp2:List QX}{n1 n2 k:Nat}{P1 P2:Nat->Value->Prop}{St1 St2:Nat->Heap->Prop}{a b:Value}
def ack(K:Draws prog w A.in1 i1 fp1 n1 P1 St1)(r:Draws prog w A.in1 i2 fp2 n2 P2 St2)(F:Sz z TI TO i1 i2 fp1 fp2)(hz:Qp s.heap z TI TO .none)(MS:Qk s.heap TI (.ref i1) (.ref i2))(P:Qk s.heap TO a b)(s1:St1 k s.heap)(s2:St2 k s.heap)(l1:k<n1)(l2:k<n2)(hQ:∀x y h' tk,P1 k x->P2 k y->Qp h' z TI TO (rawInt s.heap.objs.size)->Qk h' TO x y->St1 (k+1) h'->St2 (k+1) h'->Qk h' s.heap.objs.size x y ->
   (∀c o,c≠z->c≠TO->c≠i1->c≠i2->s.heap.get? c=Z o->h'.get? c=Z o)->Q #[23] {s with heap:=h',toks:=tk}):
  wpAny #[5] A.in1 (Builtin.«zip.__next__» ⟨[.ref z],[]⟩) (λj5 s'=>∃v,j5=.done (.ret v)/\Q v s') E s:=by
 obtain⟨hp,g,d,d6,os⟩:=s;show wpAny _ _ (field (.ref z) 2>>=_) _ _ _;refine WI (WU hz rfl (x:=.bool false) rfl ?_);show wpAny _ _ (field (.ref z) 3>>=_) _ _ _;refine WI (WU hz rfl (x:=.ref TI) rfl ?_);refine WI (YG MS rfl ?_);show wpAny _ _ (Yv (.ref z)>>=_) _ _ _;exists 34;unfold Yv;refine WI (WU hz rfl (x:=.none) rfl (Wv ?_));simp only[if_true];refine WI (YF ?_);refine WI (WU hz rfl (x:=.ref TO) rfl ?_);refine WI (YI hz #[8] λj Hk u=>?_);replace Hk:Qp j z TI TO .ellipsis:=Hk;replace u:Yf z hp j:=u;exists 34;simp only[Zz,QD,zJ,zr];refine WI (WI (Ws ?_));show wpAny _ _ (Yk (.ref i1)>>=_) _ _ _;have q1:St1 k j:=K.frame _ _ _ s1 λc O o e=>u.extBut c o (λx=>F.z1 (x▸O)) e;refine WI (K.item k _ _ _ l1 q1 λx l I hx q2 H=>Wv ?_);replace H:Yf i1 j l:=H;have X:Qk l TO a b:=H.extBut _ _ F.TOi1 (u.extBut _ _ F.TOz P);refine WI (YG (s:=⟨l,g,d,I,os⟩) X rfl ?_);refine WI (YV (s:=⟨l,g,d,I,os⟩) X λq Tf J=>?_);replace Tf:Qk q TO x b:=Tf;replace J:Yf TO l q:=J;refine WI (We (Wv ?_));refine WI (WI (Ws ?_));show wpAny _ _ (Yk (.ref i2)>>=_) _ _ _;have r3:St2 k q:=r.frame _ _ _ s2 λc O o e=>J.extBut c o (λx=>F.TO2 (x▸O)) (H.extBut c o (λx=>F.i12' (x▸O)) (u.extBut c o (λx=>F.z2 (x▸O)) e));refine WI (r.item k _ _ _ l2 r3 λy i n hy r4 S=>Wv ?_);replace S:Yf i2 q i:=S;have B:Qk i TO x b:=S.extBut _ _ F.TOi2 Tf;refine WI (YG (s:=⟨i,g,d,n,os⟩) B rfl ?_);refine WI (YV (s:=⟨i,g,d,n,os⟩) B λf m h=>?_);replace m:Qk f TO x y:=m;replace h:Yf TO i f:=h;refine WI (We (Wv (Wv ?_)));refine WI (YG (s:=⟨f,g,d,n,os⟩) m rfl ?_);refine WI (Wn ?_);have G:f.objs.size=hp.objs.size:=by rw[h.1,S.1,J.1,H.1,u.1]
 have L:Qp f z TI TO .ellipsis:=h.extBut _ _ F.TOz.symm (S.extBut _ _ F.i2z.symm (J.extBut _ _ F.TOz.symm (H.extBut _ _ F.i1z.symm Hk)));have o5:∀c o,c≠z->c≠TO->c≠i1->c≠i2->hp.get? c=Z o->f.get? c=Z o:=λc o p R c3 c4 e=>
  h.extBut _ _ R (S.extBut _ _ c4 (J.extBut _ _ R (H.extBut _ _ c3 (u.extBut _ _ p e))))
 have q5:St1 (k+1) f:=K.frame _ _ _ q2 λc O o e=>h.extBut c o (λx=>F.TO1 (x▸O)) (S.extBut c o (λx=>F.i21 (x▸O)) (J.extBut c o (λx=>F.TO1 (x▸O)) e));have r5:St2 (k+1) f:=r.frame _ _ _ r4 λc O o e=>h.extBut c o (λx=>F.TO2 (x▸O)) e;have T:z<f.objs.size:=jI L;show wpAny _ _ (yZ (.ref z) (.ref f.objs.size)>>=_) _ _ _;exists 34;unfold yZ;have c6:Qp (f.push {cls:=.type "tuple",data:=.seq #[x,y]}) z TI TO .ellipsis:=jA _ L;refine WI (YI (s:=⟨f.push {cls:=.type "tuple",data:=.seq #[x,y]},g,d,n,os⟩) c6 #[8] λC V D=>?_);replace V:Qp C z TI TO (rawInt f.objs.size):=V;replace D:Yf z (f.push {cls:=.type "tuple",data:=.seq #[x,y]}) C:=D;refine YI (s:=⟨C,g,d,n,os⟩) V #[8] λt M N=>?_;replace M:Qp t z TI TO (rawInt f.objs.size):=M;replace N:Yf z C t:=N;have up:∀c o,c≠z->f.get? c=Z o->t.get? c=Z o:=λc o p e=>N.extBut _ _ p (D.extBut _ _ p (jA _ e));have W:Qk t f.objs.size x y:=N.extBut _ _ (JW T) (D.extBut _ _ (JW T) (jF _ rfl));rw[G]at M W;refine Wv ⟨_,U,?_⟩;show Q (.ref f.objs.size) _;rw[G];exact hQ x y t n hx hy M (up _ _ F.TOz m) (K.frame _ _ _ q5 λc O o e=>up c o (λx=>F.z1 (x▸O)) e) (r.frame _ _ _ r5 λc O o e=>up c o (λx=>F.z2 (x▸O)) e) W λc o p R c3 c4 e=>up c o p (o5 c o p R c3 c4 e)
def afp{Q:PySem.Fin->Qz->Prop}(K:Draws prog w A.in1 i1 fp1 n1 P1 St1)(F:Sz z TI TO i1 i2 fp1 fp2)(hz:Qp s.heap z TI TO .none)(L:Qk s.heap TI (.ref i1) (.ref i2))(T:St1 n1 s.heap)(k:∀h' e,(∀c o,c≠z->c≠TO->c≠i1->c≠i2->s.heap.get? c=Z o->h'.get? c=Z o)->(∃o,h'.get? e=Z o/\o.cls=.type "StopIteration")->E (.ref e) {s with heap:=h'}):
  wpAny #[5] A.in1 (Builtin.«zip.__next__» ⟨[.ref z],[]⟩) Q E s:=by
 obtain⟨D,g,d,b,os⟩:=s;show wpAny _ _ (field (.ref z) 2>>=_) _ _ _;refine WI (WU hz rfl (x:=.bool false) rfl ?_);show wpAny _ _ (field (.ref z) 3>>=_) _ _ _;refine WI (WU hz rfl (x:=.ref TI) rfl ?_);refine WI (YG L rfl ?_);show wpAny _ _ (Yv (.ref z)>>=_) _ _ _;exists 34;unfold Yv;refine WI (WU hz rfl (x:=.none) rfl (Wv ?_));simp only[if_true];refine WI (YF ?_);refine WI (WU hz rfl (x:=.ref TO) rfl ?_);refine WI (YI hz #[8] λj P u=>?_);replace P:Qp j z TI TO .ellipsis:=P;replace u:Yf z D j:=u;exists 34;simp only[Zz,QD,zJ,zr];refine WI (WI (Ws ?_));show wpAny _ _ (Yk (.ref i1)>>=_) _ _ _;have O:St1 n1 j:=K.frame _ _ _ T λc m o e=>u.extBut c o (λx=>F.z1 (x▸m)) e;refine WI (K.done _ _ _ O λl e H R=>?_);obtain⟨oe,a,f⟩:=R;have h:Qp l z TI TO .ellipsis:=H _ _ F.i1z.symm P;have i:e≠z:=λx=>by subst x;rw[h]at a;cases a;simp at f
 exact YI (s:=⟨l,g,d,b,os⟩) h #[8] λq _ J=>k q e (λc o p _ n _ x=>Xt J _ _ p (H _ _ n (u.extBut _ _ p x))) ⟨oe,Xt J _ _ i a,f⟩
end
section
def Inv.aaP{t':Nat}(I:Inv X y3 σ H s)(k:∀b o,b∉ch->s.heap.get? b=Z o->h'.get? b=Z o)(a:∀b∈ch,rn X y3 H b)(g:∀b∈ch,∀o,s.heap.get? b=Z o->True):Inv X y3 σ H {s with heap:=h',toks:=t'}:=by
 have A:∀b u,H b=Z u->b∉ch:=λb u q z=>by have:=(a b z).1;rw[q]at this;cases this
 refine I.step (g':=s.gens) (d':=s.drawn) (ch:=ch) (λb B=>?_) (λb o _ _ O q _=>k b o O q) (λb o _ _ O q _=>⟨o.slots,k b o O q⟩) (λ_ _ _ _ n=>n)
  (λb o O q=>⟨o,k b o O q⟩) (λ_ _ q=>q) (λ_ _ _ q=>q) (λb ps q=>⟨#[],by rw[q];simp⟩) (λm N=>?_) (λb u q=>?_) I.bare
 ·exact⟨(a b B).2.2.2.1,(a b B).2.1,(a b B).2.2.2.2.1,(a b B).2.2.2.2.2⟩
 ·obtain⟨o,es,i,V,r⟩:=N;exact⟨o,es,i,k _ o (λz=>(a _ z).2.1 rfl) V,r⟩
 ·refine(I.hok b u q).Ae (λc v O z=>k c v ?_ z) (λ_ z=>z) λ_ _ z=>z;rcases O with z|z
  ·rw[z];exact A b u q
  ·exact A c _ z
end
def ac0{z TI TO b:QX}(h1:TI≠z)(M:TO≠z)(J:TI≠TO)(k:i1≠z)(V:i2≠z)(e:TI≠i1)(h:TI≠i2)(o:TO≠i1)(d:TO≠i2)(f:i1≠i2)(l:∀c∈[z,TO,i1,i2],a≠c)(B:∀c∈[z,TO,i1,i2],b≠c):
  Sz z TI TO i1 i2 [i1,a] [i2,b]:=by
 have i:=l z #[8];have v:=l TO #[8];have n:=l i2 #[8];have X:=B z #[8];have N:=B TO #[8];have C:=B i1 #[8];exact⟨h1,M,J,k,V,e,h,o,d,f,by simp[Ne.symm k,Ne.symm i],by simp[o,Ne.symm v],by simp[Ne.symm f,Ne.symm n],by simp[Ne.symm V,Ne.symm X],by simp[d,Ne.symm N],by simp[f,Ne.symm C]⟩
section
def aiY:qF "zip" = Z (.type "zip"):=by decide +kernel
end
section
def afg(r:Vals #[67] us):∀(j:Nat) (u:Value),us[j]?=Z u->∃n t,ns[j]?=Z n/\u=Yj n t:=by intro j u R;have a:j<us.length:=(jb.mp R).1;have L:=r.length;rw[jQ]at L;obtain⟨v,M,f⟩:=r.get (i:=j) (x:=V.int (ns[j]'#[2])) (by rw[jU,jE #[2]];rfl);rw[R]at M;cases M;obtain⟨t,rfl⟩:=(show ∃t,u=Yj _ t from f);exact⟨_,t,jE #[2],U⟩
end
theorem amH:afE K (mw K) Heap.IsListIter xU where
 val:=λe I q=>by subst e;obtain⟨t,f,p,_⟩:=I.list q;exact⟨t,f,p.isList⟩
 inj:=λe I q N=>by subst e;exact I.B4 q N
 obj:=λ⟨o,e,c,d⟩=>⟨o,_,e,c,by decide,λv z=>by rw[d]at z;cases z⟩
 src:=λ⟨o,e,c,_⟩=>⟨o,_,e,c,by decide⟩
 ne:=λ⟨o,e,c,_⟩ ⟨r,l,B,_⟩ z=>by rw[z,l]at e;cases e;rw[B]at c;exact absurd (yb c) #[10]
 at_:=λx k=>x.at k
 draws:=Draws.list
 fin:=wpAny_nextOf_list_end
 call:=call_enumerate_list
def acA(K:YW):QX->It:=Sk (mw K)
section
def ajR(K:YW)(tl:TA):TI:=λσ H R=>tl σ H λvs H1=>∃a,vs=[.ref a]/\(∃xs,mw K H1 a xs)/\R (acA K a) H1
def HR{u:_}(m:Gl X "enumerate")(N:X.mg "enumerate" = Y)(L:PA X [l] tl)(hs:qh [l] X.env=[(false,eval l X.env)]:=by rfl):
  PI X (.Tuple elts u OG) (.Call (.Name "enumerate" p) [l] [] pos) (ajR X.K tl):=Rx amH m N L hs
end
def Lx{g:TG}(d:Nat->St->Hp->Prop)(I:d 0 σ H)(L:∀i σ H,i<=xs.length->d i σ H->mw K H a xs)(hs:∀i x σ H T,xs[i]?=Z x->d i σ H->H T=Y->g #[164] σ (upd H T #[112]) λb G=>tb {D with nx:=d (i+1),ct:=d (i+1),bk:=D.nx} b G)(j:∀σ H,d xs.length σ H->D.nx σ H):
  ∃W:Nat->Nat->St->Hp->Prop,#[119]/\∀i m σ H,W i m σ H ->
   ((acA K a).stop i H/\D.nx σ H)\/((acA K a).go i H/\∃N:St->Hp->Prop,#[31]/\∀x H',(acA K a).yld i H x H'->g x σ H' λb G=>tb {D with nx:=N,ct:=N,bk:=D.nx} b G):=Lv d I L hs j
def Ic{t u a b:Option V}:((((B.set 0 t).set 1 u).set 0 a).set 1 b)=(B.set 0 a).set 1 b:=by rw[List.set_comm u a (l:=B.set 0 t) (by decide:(1:Nat)≠0),Jp,Jp]
def SU{J:It}{item:Nat->V}{g:TG}(d:QX->Nat->List V->Hp->Prop)(a:∀(T:QX) (σ:St) (H:Hp) (Q:St->Hp->Prop) (i:Int) (x:V),H T=Z #[112]->Q ((σ.set 0 (Z (.int i))).set 1 (Z x)) H->g #[164] σ H Q)(I:∀D,H D=Y->d D 0 [] #[50])(L:∀D i ys H',i<n->d D i ys H'->J.go i H'/\∀x G,J.yld i H' x G->∃T,x=.ref T/\H' T=Y/\G=upd H' T (.tup [.int i,item i]))(M:∀D ys H',d D n ys H'->J.stop n H')(hs:∀D i ys H' T (F:VK),H D=Y->i<n->H' D=Z #[76]->d D i ys H'->H' T=Y->#[7] ->
   te ((#[47].set 0 (Z (.int i))).set 1 (Z (item i))) (upd H' T (.tup [.int i,item i])) F)(j:∀D ys H',H D=Y->H' D=Z #[76]->d D n ys H'->Qd D H'):Bz J ix g te σ H Qd:=by
 intro D X;refine⟨λi m O H'=>m=n-i/\i<=n/\(O=aF ix σ\/∃t u,O=(#[47].set 0 t).set 1 u)/\∃ys,H' D=Z #[76]/\d D i ys H',⟨n,by simp,je _,.inl rfl,[],ae,I D X⟩,?_⟩;exists 6;by_cases f:i<n
 ·obtain⟨b,v⟩:=L D i ys H' f p;refine .inr ⟨b,λx G y=>?_⟩;obtain⟨T,rfl,r,rfl⟩:=v x G y;refine a T O _ _ i (item i) ae ?_;have es:((O.set 0 (Z (V.int i))).set 1 (Z (item i)))=(#[47].set 0 (Z (V.int i))).set 1 (Z (item i)):=by
   rcases A with z|⟨t,u,z⟩
   ·rw[z]
   ·rw[z,Ic]
  show te ((O.set 0 (Z (V.int i))).set 1 (Z (item i))) _ _;rw[es];refine hs D i ys _ T _ X f N p r λy B k C h=>⟨ys,k,C,n-(i+1),by omega,U,f,.inr ⟨_,_,U⟩,ys++[y],ae,h⟩
 ·have e:i=n:=by omega
  subst e;exact .inl ⟨M D ys H' p,j D ys H' X N p⟩
def aac{k:Key}(h:DZ k v=true):RelV (kV k) v:=by
 rcases cH h with⟨n,t,rfl,rfl⟩|⟨x,t,rfl,rfl⟩
 ·exact⟨t,U⟩
 ·exact⟨t,U⟩
section
abbrev BG(v d:QX):HO:=.ext λh=>h.IsItemsView v d
inductive akF (x:V) (vs:List V) (H:Hp) (Q:VK):Prop
 | mk (d:_) (kvs:_) (_:x=.ref d) (_:vs=[]) (_:H d=Z #[57]) (_:∀v,H v=Y->Q (.ref v) (upd H v (BG v d)))
def adJ:MtM X "dict.items" akF:=by intro y3 s σ H x vs v us Q I c f h;obtain⟨d,B,rfl,rfl,j,q⟩:=h;cases c;have g:=f.zero;subst g;obtain⟨z,lo,vs,l,a⟩:=(show bp X.prog X.w H s.heap d (.dK B)from I.hok d _ j);refine qI XU a.typeIs PySem.F.entry_dict_items (PySem.F.args_dict_items_1 _) (meets_dict_items #[154] d lo) ⟨⟨vs,a⟩,?_⟩;refine⟨.ref _,_,I.laid (o:=BG s.heap.objs.size d) (t':=s.toks) (λb o e=>jA _ e) (jD _) ?_,U,q _ #[60]⟩;exact⟨⟨_,jF _ rfl,U,U⟩,⟨_,jF _ rfl⟩,λG M ⟨o,V,x⟩ i=>⟨o,i o V,x⟩⟩
def ahv(ns:List Int):Int:=ns.foldl (·+·) 0
theorem Cg(ns:List Int):∀n,n<=ns.length->preSum (λi=>ns.getD i 0) n=(ns.take n).foldl (·+·) 0
 | 0,_=>rfl
 | n+1,h=>by have hn:n<ns.length:=h;show preSum _ n+ns.getD n 0=_;rw[Cg ns n (JL hn),jO,jE hn,ju];simp[hn]
end
end L2
namespace PySem
open PyProof.Rows
namespace F
end F
end PySem
namespace L2
open PySem PySem.Spec PyProof.Rows
variable{X:Cx}{o:Expr}{es:List Expr}{pos:Pos}{n:Nat}{m:Str}{C:QX}{sp:Sp}{ta:TE}{prog:Qv}{w:World}{A:Around}{s:Qz}{D:Ends}{σ:St}{H:Hp}
section
def Og(K:YW){k:Nat}{t:TGs}(O:X.calm=true)(h:PGs X es t)(g:X.K=K:=by rfl)(R:(qD es X.env).length=n:=by rfl)(M:(qD es X.env).findIdx? (·.1)=Y:=by rfl):PG X (.Tuple es k pos) (ai8 K n t):=by subst g;exact Dt O h R M
def HQ{j k:Nat}{ps:List Str}{b:Pos}{pl:Qw Bool}(G:cT X.prog X.w X.K X.mg X.base C m k ps sp)(S:cL j X.A)(V:PE X o ta)(hkj:k<=j:=by decide)(d:eval (.Call (.Attribute o m b) [] [] pos) X.env=(do
   let D <-eval o X.env
   standAt b.atName
   let (f,first) <-holding [D] (getMethod D m pl)
   callWith pos f first (backTo pos (qh [] X.env)) #[70]):=by rfl):
  PE X (.Call (.Attribute o m b) [] [] pos) (R0 C m sp [] E0 ta ae9):=by
 obtain⟨f,v,N,B,F⟩:=G.ex;exact aek V G.cl N F #[163] B .nil aec d
inductive aip (K:YW) (xs:List V) (H:Hp) (Q:VK):Prop
 | mk (a:QX) (ns:List Int) (_:xs=[.ref a]) (_:mw K H a #[67]) (_:Q (.int (ahv ns)) H)
def Lm(O:X.calm=true):hX X (.builtin "sum") (aip X.K):=by
 intro V s σ H E p Q I r h;obtain⟨a,ns,rfl,J,q⟩:=h;obtain⟨u,rfl,m⟩:=r.one;cases(show u=YX a from m);obtain⟨c,f,F,x⟩:=I.list J;have d:s.heap.IsList a c.toArray:=F.isList;have S:=f.length;rw[jQ]at S;have g:a<s.heap.objs.size:=by obtain⟨_,e,_⟩:=d;exact jI e
 refine call_sum_walkG (Wx d ?_);have W:=Walks.list (prog:=X.prog) (w:=X.w) (A:=X.A.in1) #[123] s.heap.objs.size a (jM g) c.toArray;refine⟨_,_,_,_,_,_,λi=>ns.getD i 0,U,W,⟨⟨_,jF _ rfl,U,U⟩,d.at λo e=>jA _ e⟩,λb B=>?_,λi v M=>?_,λy tk l C=>?_⟩
 ·rcases jL.mp B with z|z
  ·rw[z];show _<(QV _ _).objs.size;rw[jc];exact JK _
  ·rw[jH.mp z];show _<(QV _ _).objs.size;rw[jc];exact Jl g
 ·have j:c[i]?=Z v:=by simpa using M
  obtain⟨n,t,T,k⟩:=afg f i v j;exact⟨t,by rw[k];show Yj n t=Yj (ns.getD i 0) t;rw[jf,T];rfl⟩
 ·have P:Inv X V σ H {s with heap:=y,toks:=tk}:=I.kept (t':=tk) λb o e=>C b o (λN=>by rw[jH.mp N]at e;exact JT _ (jI e)) (jA _ e)
  refine⟨.int (ahv ns),H,P,⟨l,?_⟩,q⟩;show Yj _ _=Yj _ _;rw[jP,<-S,Cg ns _ (jD _),jR];rfl
end
def bM{t u:TS}(R:St->Hp->Prop)(h1:∀O H',R O H'->u D O H')(M:∀k:Ends,(∀O H',R O H'->k.nx O H')->t k σ H):V8 t u D σ H:=
 M {D with nx:=u D} h1
inductive Pl (xs:List V) (H:Hp) (Q:VK):Prop
 | mk (a:_) (kvs:_) (_:xs=[.ref a]) (_:H a=Z #[57]) (_:Q (.int kvs.length) H)
def Ai:hX X (.builtin "len") (Pl):=by intro V s σ H E S Q I r h;obtain⟨a,B,rfl,l,q⟩:=h;exists 11;cases F;exact amC I (.inl l) λt c d=>⟨.int B.length,H,d,⟨t,U⟩,q⟩
def J2(l b:QX)(a c:Array Value)(n O:Nat)(y:Option QX)(P:Array (Option Value))(I:¬(!a.isEmpty&&yC (a.size+c.size))=true)(h1:a.size<=sizeLine)(M:a.size+c.size<=sizeLine+1):
  Meets (Builtin.«list.extend» ⟨[.ref l,.ref b],[]⟩) (λ_ R s=>s.heap.get? l=Z {cls:=.type "list",dict:=Y,data:=.seq a n,slots:=#[]}/\s.heap.get? b=Z {cls:=.type "tuple",dict:=y,data:=.seq c O,slots:=P}/\R (.ok (.ret Yc)) {s with heap:=s.heap.update l (Obj.mapSeq (·++c))}):=
 .of_wp λprog w A R s h=>by
  obtain⟨D,g,d,tk,os⟩:=s;obtain⟨L,B,h⟩:=h;have e:=AutoSeq1.idx_int;have F:=AutoSeq1.sub_tuple_tuple;have q:=AutoSeq1.sub_list_list;have f:=AutoSeq1.sub_tuple_list;have T:=AutoSeq1.sub_list_tuple;have t:(a++c).size<=sizeLine+1:=by rw[Array.size_append];exact M
  wp_walk using (YU L rfl (hz:=h1) (_hz':=t)),wpAny_loadPart' L,wpAny_loadPart' B
  exact⟨_,U,h⟩
section
inductive RB (x:V) (vs:List V) (H:Hp) (Q:VK):Prop
 | mk (l:_) (b:_) (xs:_) (zs:_) (_:x=.ref l) (_:vs=[.ref b]) (_:H l=Z #[165]) (_:H b=Z (.tup zs)) (_:xs.length+zs.length<=sizeLine) (_:Q .non (upd H l (.lst (xs++zs))))
def Bi:MtM X "list.extend" RB:=by
 intro V s σ H x B v S Q I F f h;obtain⟨l,b,E,C,rfl,rfl,a,o,D,q⟩:=h;cases F;obtain⟨u,rfl,m⟩:=f.one;cases m;obtain⟨z,t,n,r,L,e⟩:=I.EC a;obtain⟨p,i,d,g⟩:=I.tuple (lU.of (K:=X.K) o);have j:=i.length;obtain⟨⟨c,y,J,P⟩,w,R,O,A⟩:=d;cases R;cases A;have G:t.toArray.size+p.toArray.size<=sizeLine:=by rw[jP,jP];omega
 have k:¬ (!t.toArray.isEmpty&&yC (t.toArray.size+p.toArray.size))=true:=by rw[Rh G,ZT];exact jY
 refine qH xE ⟨_,e,U⟩ Xr (Xl _ _)
  (J2 l b t.toArray p.toArray n O y P k (by rw[jP];omega) #[2]) ⟨e,w,?_⟩
 refine⟨.non,_,I.agH (its':=t++p) a e #[8] (r.append i) ?_,U,q⟩;rw[jG];omega
def aeG:V->List V->Hp->VK->Prop:=λx vs H Q=>aat x vs H Q\/RB x vs H Q
def HI:MtM X "list.extend" aeG:=by
 intro V s σ H x n v S Q I F f h;rcases h with h|h
 ·exact abB V s σ H x n v S Q I F f h
 ·exact Bi V s σ H x n v S Q I F f h
end
end L2
namespace PySem
open PyProof.Rows
variable{prog:Qv}{w:World}{A:Around}{E Q:Value→Qz→Prop}{s:Qz}{a x l:QX}{xs:Array Value}{sl:Array (Option Value)}{K α:Type}{R:Result→Qz→Prop}{o:Obj}{ts:List QX}{c:Nat}
def Hs:typeLookup (.type "list") "keys" = pure Y:=by rw[qy,qG];kernel_rfl
def Hr{k:Nat}{Q:Option Value->Qz->Prop}(J:s.heap.get? a=Z {cls:=.type "list",dict:=Y,data:=.seq xs k,slots:=sl})(B:A.handled=Y)(h:∀h' tk,#[44]->Q Y {s with heap:=h',toks:=tk}):wpAny #[5] A (getAttr? #[72] "keys") Q E s:=by
 obtain⟨D,g,d,tk,os⟩:=s;have r:∀f,(⟨D,g,d,f,os⟩:Qz).TypeIs #[72] "list" :=λ_=>⟨_,J,rfl⟩;have L:=sub_AttributeError;have q:=F.slot_list_getattribute.lookup;have j:=F.slot_list_getattribute.bind #[72];have T:=am_list_getattr_none;have c:=Hs;have i:(["__module__","__name__","__qualname__","__doc__","__annotations__"]:List Str).contains (Str.ofString "keys")=false:=by decide +kernel
 unfold getAttr? getAttrBy? getAttrBy
 repeat (any_goals (first|assumption|exact r _|((with_reducible show wpAny _ _ (call (Yq "list.__getattribute__") _ _) _ _ _);refine qH F.slot_list_getattribute (r _) am_entry_list_getattribute (F.args_list_getattribute_2 _ _) (meets_getattribute_miss_list a xs k sl (Str.ofString "keys") _ c i #[10]) ⟨J,B,λh' f e t=>?_⟩)|wp_step))
 obtain⟨l,K,R⟩:=t.there;show wpAny _ _ (getattributeRaised _ _ _ _ _ _ _) _ _ _;unfold getattributeRaised;exists 16;exact h h' f t.keeps
section
variable[DecidableEq K]{knd:KeyKind prog w K}
def pF:entryFor table "dict.update.loop" = Z Builtin.«dict.update.loop»:=qQ #[153]
def eD:plainId "dict.update.loop" = true:=by decide +kernel
def O0(knd:KeyKind prog w K)(h:Heap)(ts:List QX)(ps:List (K×Value)):Prop:=∀(j:Nat) (t:QX) (p:K×Value),ts[j]?=Z t->ps[j]?=Z p->∃key,knd.is p.1 key=true/\Qm h t #[key,p.2]
def Fu(h h':Heap):Prop:=∀b o,h.get? b=Z o->o.cls=.type "tuple" -> h'.get? b=Z o
def Fu.but{h h':Heap}(e:h.get? x=Z o)(c:o.cls≠.type "tuple")(k:∀b o,b≠x->h.get? b=Z o->h'.get? b=Z o):Fu h h':=λb r l B=>k b r (λz=>by rw[z,e]at l;cases l;exact c B) l
structure amw(prog:Qv)(w:World)(A:Around)(D:QX)(val:α->Value)(put:List α->α->List α)(Ds:Heap->List α->Prop)(Ky:Heap->α->Value->Prop):Prop where
 ds:∀{h h':Heap} {o4:List α},Ds h o4->(∀o,h.get? D=Z o->h'.get? D=Z o)->Fu h h'->Ds h' o4
 ty:∀{h:Heap} {o4:List α},Ds h o4->∃o,h.get? D=Z o/\o.cls=.type "dict"
 ky:∀{h h':Heap} {p:α} {k:Value},Ky h p k->Fu h h'->Ky h' p k
 set:∀{s:Qz} {o4:List α} {p:α} {k:Value} {Q:Unit->Qz->Prop} {E:Value->Qz->Prop},Ky s.heap p k->Ds s.heap o4->o4.length<sizeLine->(∀h' tk,Ds h' (put o4 p)->(∀b o,b≠D->s.heap.get? b=Z o->h'.get? b=Z o)->Q () {s with heap:=h',toks:=tk})->wpAny #[5] A (dictSet D k (val p)) Q E s
 len:∀o4 p,(put o4 p).length<=o4.length+1
section
variable{D I:QX}{val:α->Value}{put:List α->α->List α}{Ds:Heap->List α->Prop}{Ky:Heap->α->Value->Prop}{ps:List α}
theorem OH(e:amw prog w A.in1 D val put Ds Ky)(W:Walks prog w A.in1 I [I,l] [I] ts.length (λi v=>#[182].toArray[i]?=Z v) (λi h=>h.IsListIter I l i/\h.IsList l #[182].toArray))(hl:ts.length=ps.length)(S:D≠I)(u:D≠l)(c:∀t∈ts,t≠D/\t≠I)(hz:ps.length<=sizeLine):
  ∀(k i:Nat) (s:Qz) (P:List α),ts.length-i=k->i<=ts.length->(s.heap.IsListIter I l i/\s.heap.IsList l #[182].toArray)->Ds s.heap P->P.length<=i->(∀(j:Nat) (t:QX) (p:α),ts[j]?=Z t->ps[j]?=Z p->∃J,Ky s.heap p J/\Qm s.heap t #[J,val p])->
  (∀h' tk,(∀b o,b≠D->b≠I->s.heap.get? b=Z o->h'.get? b=Z o)->Ds h' ((ps.drop i).foldl put P)->R (.ok (.ret .none)) {s with heap:=h',toks:=tk})->
  codeAny #[5] A (.builtin "dict.update.loop" ⟨[.ref D,.ref I,rawInt (i:Int),.none],[]⟩) R s:=by
 intro k;have L:∀{h h':Heap} {i:Nat},h.IsListIter I l i->(∀b o,b≠I->h.get? b=Z o->h'.get? b=Z o)->Fu h h':=λx kp=>by obtain⟨o,ho,hc,_⟩:=x;exact Fu.but ho (by rw[hc];intro z;exact absurd (yb z) #[10]) kp
 induction k with
 | zero=>
  intro i s P hk hi M X wF m Q;have Di:i=ts.length:=by omega
  subst Di;refine qJ pF ?_;rw[Around.under_plainId eD _];show wpAny _ A.in1 (pyNext (.ref I)>>=_) _ _ s;refine WI (W.done s _ _ M λh' tk N=>?_);show wpAny _ _ (Gd D []>>=_) _ _ _;refine WI (Wr (a:=()) rfl ?_);have keep:∀b o,b≠I->s.heap.get? b=Z o->h'.get? b=Z o:=λb o B q=>N b o (by simpa using B) q;refine Wv (Q h' tk (λb o _ B q=>keep b o B q) ?_);rw[hl,QA];exact e.ds X (λo q=>keep D o S q) (L M.1 keep)
 | succ k ih=>
  intro i s P hk hi M X wF m Q;have f:i<ts.length:=by omega
  have O:i<ps.length:=by omega
  refine qJ pF ?_;rw[Around.under_plainId eD _];show wpAny _ A.in1 (pyNext (.ref I)>>=_) _ _ s;refine WI (W.item i s _ _ f M λv h' tk hv E N=>?_);have ev:v=.ref ts[i]:=by
   have:#[182].toArray[i]?=Z (.ref ts[i]):=by simp[f]
   rw[this]at hv;exact(Option.some.inj hv).symm
  subst ev;have keep:∀b o,b≠I->s.heap.get? b=Z o->h'.get? b=Z o:=λb o B q=>N b o (by simpa using B) q;have T:=L M.1 keep;obtain⟨J,H,ht⟩:=m i ts[i] ps[i] (jE f) (jE O);have tn:=c ts[i] (jV f);have F:Qm h' ts[i] #[J,val ps[i]]:=ht.extBut (b:=I) keep tn.2;have G:=e.ds X (λo q=>keep D o S q) T;obtain⟨ot,n,l6,nt,V⟩:=id F
  try dsimp only
  refine WI (WZ ?_);refine WI (wpAny_tryCatch ?_);unfold Gk;refine WI (YT (s:={s with heap:=h',toks:=tk}) F.typeIs ?_);rw[if_pos #[10]];refine WI (YG (s:={s with heap:=h',toks:=tk}) n V ?_);refine Wv ?_;show wpAny _ _ (holding [J,val ps[i]] (dictSet D J (val ps[i]))) _ _ _;refine WZ (e.set (s:={s with heap:=h',toks:=tk}) (e.ky H T) G #[2] (λh2 r ET d=>?_));refine Wv ⟨qY eD _,?_⟩;have ri:rawInt ((i:Int)+1)=rawInt (((i+1:Nat)):Int):=by push_cast;rfl
  rw[ri];obtain⟨od,C,K⟩:=e.ty G;refine ih (i+1) {s with heap:=h2,toks:=r} (put P ps[i]) #[2] f ⟨E.1.at λo q=>d I o (Ne.symm S) q,E.2.at λo q=>d l o (Ne.symm u) q⟩ ET (by have:=e.len P ps[i];omega) (λj t p h1 j5=>?_) (λh3 o5 c6 OJ=>?_)
  ·obtain⟨d6,g6,i6⟩:=m j t p h1 j5;have g:=c t (JS h1);exact⟨d6,e.ky (e.ky g6 T) (Fu.but C (by rw[K];intro z;exact absurd (yb z) #[10]) d),(i6.extBut (b:=I) keep g.2).extBut (b:=D) d g.1⟩
  ·refine Q h3 o5 (λb o B y q=>c6 b o B y (d b o B (keep b o y q))) ?_;rw[ZG O];exact OJ
def DU(e:amw prog w A.in1.in1 s.heap.objs.size val put Ds Ky)(H:A.handled=Y)(u:s.heap.get? l=Z {cls:=.type "list",dict:=Y,data:=.seq #[182].toArray c,slots:=#[]})(L:ts.length=ps.length)(a:∀(j:Nat) (t:QX) (p:α),ts[j]?=Z t->ps[j]?=Z p->∃J,Ky s.heap p J/\Qm s.heap t #[J,val p])(hz:ps.length<=sizeLine)(M:Ds #[41] [])(g:∀h' tk,#[44]->Ds h' (ps.foldl put [])->Q #[23] {s with heap:=h',toks:=tk}):
  wpAny #[5] A (call #[124] [.ref l]) Q E s:=by
 refine callType_codes (Q₁:=λobj O=>obj=.ref s.heap.objs.size/\O={s with heap:=s.heap.push {cls:=.type "dict",data:=.dict #[]} }) F.kt_called_dict (F.kt_typeCall_dict_1 _) F.entry_dict_init (kt_code_dict_new _ ⟨rfl,rfl⟩) ?_;rintro obj O ⟨rfl,rfl⟩;have D:({s with heap:=s.heap.push {cls:=.type "dict",data:=.dict #[]} }:Qz).TypeIs #[23] "dict" :=⟨_,jF s.heap rfl,rfl⟩;have i:l<s.heap.objs.size:=jI u;have h:#[41].get? l=Z {cls:=.type "list",dict:=Y,data:=.seq #[182].toArray c,slots:=#[]}:=jA _ u;exists D,F.args_dict_init_2 _ _;unfold Builtin.«dict.__init__»;exists 34;unfold Ge;refine WI (Wq D ?_);show wpAny _ _ (pure (s.heap.objs.size,[YX l])) _ _ _;refine Wv ?_;show wpAny _ _ (XW "dict.__init__" s.heap.objs.size #[181] [] .none) _ _ _;unfold XW;refine WI (YT (T:="list") ⟨_,h,rfl⟩ ?_);rw[if_pos #[10]];refine WI (Hr h H λG I z=>?_);rw[if_pos #[43]];refine WI (YF ?_);have x:=z _ _ h;have K:xU G l #[182].toArray:=⟨_,x,rfl,c,rfl⟩;refine WI (Wx (s:={s with heap:=G,toks:=I}) K ?_);refine Wv ⟨qY eD _,?_⟩;have N:(G.push {cls:=.type "list_iterator",data:=.fields #[.ref l,.int 0 0]}).get? G.objs.size=Z {cls:=.type "list_iterator",data:=.fields #[.ref l,.int 0 0]}:=jF _ rfl;have B:l<G.objs.size:=jI x;have y:s.heap.objs.size<G.objs.size:=jI (z _ _ (jF s.heap rfl));have W:=Walks.list (prog:=prog) (w:=w) (A:=A.in1.in1) H G.objs.size l (jM B) #[182].toArray;have sz:#[182].toArray.size=ts.length:=by simp
 rw[sz]at W;have m:∀b o,s.heap.get? b=Z o->(G.push {cls:=.type "list_iterator",data:=.fields #[.ref l,.int 0 0]}).get? b=Z o:=λb o q=>jA _ (z _ _ (jA _ q));refine OH (A:=A.in1) (ps:=ps) e W L (jM y) (JW i) (λt d=>?_) hz ts.length 0 {s with heap:=G.push {cls:=.type "list_iterator",data:=.fields #[.ref l,.int 0 0]},toks:=I} [] rfl (je _) ⟨⟨_,N,rfl,rfl⟩,K.at λo q=>jA _ q⟩ ?_ (je _) (λj t p n v=>?_) (λP C r R=>?_)
 ·obtain⟨j,f⟩:=JD.mp d;have S:j<ps.length:=by rw[<-L];exact(jb.mp f).1
  obtain⟨J,_,o,V,_⟩:=a j t ps[j] f (jE S);have k:=jI V;exact⟨jM k,jM (zA k y)⟩
 ·exact e.ds M (λo q=>jA _ (z _ _ q)) λb o q _=>jA _ (z _ _ q)
 ·obtain⟨J,X,d⟩:=a j t p n v;exact⟨J,e.ky X λb o q _=>m b o q,d.keeps m⟩
 ·exact⟨U,g P C (λb o q=>r b o (jM (jI q)) (jM (zA (jI q) y)) (m b o q)) R⟩
end
def Es{ps:List (K×Value)}(H:A.handled=Y)(u:s.heap.get? l=Z {cls:=.type "list",dict:=Y,data:=.seq #[182].toArray c,slots:=#[]})(L:ts.length=ps.length)(j:O0 knd s.heap ts ps)(hz:ps.length<=sizeLine)(g:∀h' tk,#[44]->h'.DictOf knd s.heap.objs.size (merged [] ps)->Q #[23] {s with heap:=h',toks:=tk}):
  wpAny #[5] A (call #[124] [.ref l]) Q E s:=
 DU (α:=K×Value) (Ds:=λh P=>h.DictOf knd s.heap.objs.size P) (Ky:=λ_ p k=>knd.is p.1 k=true) (val:=λp:K×Value=>p.2) (put:=λP p=>stored P p.1 p.2)
  ⟨λ{h h' P} x X _=>by
   obtain⟨o,r⟩:=x;exact⟨o,r.imp λ_ r=>r.imp λ_ r=>⟨X _ r.1,r.2⟩⟩,λ{h P} x=>by
   obtain⟨o,_,_,G,M,_⟩:=x;exact⟨o,G,M.1⟩,λx _=>x,λC X hz k=>wpAny_dictSet_pairs (knd:=knd) C X (λM T d=>k M _ T λb o B q=>d.extBut b o B q) (JL hz),λP p=>stored_length_le P p.1 p.2⟩ H u L j hz (xh s.heap) g
end
end PySem
namespace L2
open PySem PySem.Spec PyProof.Rows
variable{X:Cx}{P:Qv}{w:World}{y3:List (QX×Obj)}{σ:St}{H:Hp}{s:Qz}{a I:QX}{z:V}{A:Around}{E Q Q₁:Value→Qz→Prop}{kvs:List (Key×V)}{o:Obj}{h:Int}{K:YW}{tg l:Expr}{tl:TE}{elts:List Expr}{pos OG:Pos}{tb:TS}{D:Ends}{i j n:Nat}{α:Type}{t:Qx}{b:Bool}{R:Result→Qz→Prop}
section
def lF(H:Hp):List QX->List #[167]->Prop:=Qs λa p=>H a=Z #[151]
theorem HH:∀{kvs:List #[167]} {x:List QX} {H:Hp} {h:Heap},lF H x kvs->fq P w H h->∃ps:List (Key×Value),KV kvs ps/\ps.length=x.length/\O0 (bx P w) h x ps
 |[],[],_,_,.nil,_=>⟨[],.nil,rfl,λj t p h=>by simp at h⟩
 | _,_,_,_,.cons (a:=a) (b:=p) (l₁:=x) (l₂:=kvs) q t,ok=>by
  obtain⟨ps,F,i,A⟩:=HH t ok;obtain⟨z,c,f,d⟩:=ok a _ q;obtain⟨u,v,rfl,m,C⟩:=Vals.two f;refine⟨(p.1,v)::ps,.cons ⟨U,C⟩ F,by simp[i],λj l n G M=>?_⟩;cases j with
  | zero=>
   simp at G M;subst G M;exact⟨u,wH m,by simpa using d⟩
  | succ j=>exact A j l n #[161] #[160]
inductive ahi (xs:List V) (H:Hp) (Q:VK):Prop
 | mk (l:_) (ts:_) (kvs:_) (_:xs=[.ref l]) (_:H l=Z (.lst #[168])) (_:lF H ts kvs) (_:∀D,H D=Y->Q #[81] (upd H D (.dK (dw [] kvs))))
theorem Aq:∀{x:List QX} {us:List Value},Vals (x.map V.ref) us->us=x.map YX
 |[],_,.nil=>rfl
 | t::x,_,.cons r q=>by cases r;rw[jy,Aq q]
def wu(O:X.calm=true):hX X #[124] ahi:=by
 intro y3 s σ H E d Q I r h;obtain⟨l,x,kvs,rfl,L,D,q⟩:=h;obtain⟨u,rfl,a⟩:=vals1 r;cases a;obtain⟨z,j,n,f,g,e⟩:=I.EC L;have v:=Aq f;subst v;obtain⟨ps,F,i,A⟩:=HH D I.hok;have S:kvs.length=ps.length:=Paired.length F;have b:ps.length<=sizeLine:=by rw[i];rw[jQ]at z;exact z
 refine Es (knd:=bx X.prog X.w) #[123] e i.symm A b λy tk c dd=>?_;have t:bp X.prog X.w (upd H s.heap.objs.size (.dK (dw [] kvs))) y s.heap.objs.size (.dK (dw [] kvs)):=by refine Dc ?_ (beq_eq_false_iff_ne.mpr (Ne.symm (jM I.big))) (KV.merge F .nil) dd;have:=pX kvs [];simp only[Jc]at this;omega
 exact⟨.ref _,_,I.laid (t':=tk) c (jD _) t,U,q _ #[60]⟩
end
section
variable{u r:Value}{k:Key}
def MM(I:Inv X y3 σ H s)(e:H a=Z #[57])(hz:kvs.length<sizeLine)(N:RelV (kV k) u)(W:RelV z r)(h1:∀v S c,cI kvs k=Z v->Inv X y3 σ H c->RelV v S->Q S c)(b:∀c,cI kvs k=Y->Inv X y3 σ (upd H a (.dK (putK kvs k z))) c->Q r c):
  wpAny #[4] A (call (.builtin "dict.setdefault") [.ref a,u,r]) Q E s:=by
 obtain⟨d,j,n,rel,dd⟩:=Py I.hok e;have f:=rel.val k;refine qI XB dd.typeIs PySem.F.entry_dict_setdefault (PySem.F.args_dict_setdefault_3 _ _ _) (kt_meets_setdefault #[154] a (wH N) j r) ⟨n,dd,by rw[<-rel.length];exact d,λv M=>?_,λR y m K=>?_⟩
 ·cases C:cI kvs k with
  | none=>rw[C,M]at f;exact f.elim
  | some x=>
   rw[C,M]at f;exact h1 x v _ C (I.tok _) f
 ·have C:cI kvs k=Y:=by
   cases C:cI kvs k with
   | none=>rfl
   | some x=>rw[C,R]at f;exact f.elim
  refine b _ C (sr (t':=s.toks+1) I (by rw[e];trivial) K ?_ (Dc (kvs:=putK kvs k z) (by have:=mi kvs k z;omega) j (rel.put k W) m));obtain⟨t,_,_,g,_⟩:=m;exact⟨t,g⟩
end
inductive ahz (ty:TE) (tx:TE) (σ:St) (Q:VK) (x:V) (H1:Hp):Prop
 | mk (a:_) (_:x=.ref a) (_:IsD H1 a) (_:ty σ H1 λy H2=>tx σ H2 λz H3=>∃kvs k,H3 a=Z #[57]/\y=kV k/\kvs.length<sizeLine/\(∀v,cI kvs k=Z v->Q v H3)/\(cI kvs k=Y->Q z (upd H3 a (.dK (putK kvs k z)))))
def aoO(td ty tx:TE):TE:=λσ H Q=>td σ H (ahz ty tx σ Q)
section
variable{o e f:Expr}{y4 dv:Pos}{td ty tx:TE}
def Oc(V:PE X o td)(R:PE X e ty)(l:PE X f tx)(m:M2 X o "setdefault" y4 e f dv):PE X (.Call (.Attribute o "setdefault" y4) [e,f] [] dv) (aoO td ty tx):=by
 exists 2;refine WC m.base m.A2 m.line Yw XB PySem.F.type_dict_setdefault (bR #[103] λu T ⟨x,g,P,b,a,ex,d,O⟩=>?_);subst ex;obtain rfl:u=YX a:=b;obtain⟨t,S,_⟩:=MZ P d;exists t,S;rw[m.trees];refine Ys rfl (yB (Yn (bR (R y3 T σ g _ P O) λD j ⟨y,G,E,N,n⟩=>
  Yn (bR (l y3 j σ G _ E n) λJ s3 ⟨z,c,q,W,kvs,k,L,K,C,p,w⟩=>yD ?_))))
 subst K;exact MM q L C N W (λv w' r M i A=>⟨v,c,i,A,p v M⟩) λr B i=>⟨z,_,i,W,w B⟩
end
section
def Inv.freeze(I:Inv X y3 σ H s)(e:H a=Z #[57])(V:s.heap.get? a=Z o):Inv X y3 σ (upd H a #[129]) s:=by
 have f:∀b u,H b=Z u->(u=.dK kvs->False)->b≠a:=λb u q d=>aA q e d;refine I.un (t':=s.toks) ⟨λb u q _ _ _=>q,λb u q _ _ _=>⟨u.slots,q⟩,λb u q n _=>?_,λb u q _=>⟨u,q⟩,λb E q=>?_,λb u E q=>?_,λb ps q=>⟨#[],?_⟩⟩ (λb u q=>?_)
 ·rw[ag (λz=>by rw[z,e]at n;cases n)];exact n
 ·rw[ag (f b _ q #[0])];exact q
 ·rw[ag (f b _ q #[0])];exact q
 ·rw[ag (f b _ q #[0]),q];simp
 ·by_cases B:b=a
  ·subst B;rw[ae]at q;cases q;exact⟨V,(I.hok b _ e)⟩
  ·rw[ag B]at q;exact(I.hok b u q).Ae (λc v _ z=>z) (λc z=>by rw[ag (f c _ z (by intro y;cases y))];exact z) λc E z=>by rw[ag (f c _ z (by intro y;cases y))];exact z
end
def mY(o:Obj):Nat:=match o.data with
 | .dict _ ep=>ep
 | _=>0
def Itd(a:QX)(o:Obj)(kvs:List #[167]):It:=
 ⟨λi H=>i<kvs.length/\H a=Z #[129],λi H x H'=>H'=H/\∀p,kvs[i]?=Z p->x=kV p.1,λi H=>kvs.length<=i/\H a=Z #[129]⟩
def Iti(a:QX)(o:Obj)(kvs:List #[167]):It:=
 ⟨λi H=>i<kvs.length/\H a=Z #[129],λi H x H'=>∃T p,x=.ref T/\H T=Y/\H'=upd H T #[151]/\kvs[i]?=Z p,λi H=>kvs.length<=i/\H a=Z #[129]⟩
def rQ{h:Heap}(ok:fq P w H h)(e:H a=Z #[129]):∃vs,KV kvs vs/\h.DictAt (bx P w) a vs (mY o)/\(a==qu)=false/\h.get? a=Z o:=by
 obtain⟨V,z,lo,vs,rel,t,r,i,m,J,j,rest⟩:=ok a _ e;rw[V]at m;cases m;have y:mY o=i:=by unfold mY;rw[j]
 exact⟨vs,rel,⟨o,r,V,J,by rw[y];exact j,rest⟩,lo,V⟩
theorem acd(a N:QX)(o:Obj)(kvs:List #[167]):Turn P w K tg (Itd a o kvs) [N] N (λi h=>h.IsKeyIter N a i kvs.length (mY o)) where
 mem:=by simp
 obj:=λi h st b B=>by
  have e:b=N:=by simpa using B
  subst e;obtain⟨o,e,c,d⟩:=st;exists 5
 keep:=λi h y st k=>by obtain⟨t,e,r⟩:=st;exact⟨t,k N #[8] t e,r⟩
 item:=by
  exists 4;subst j G g;obtain⟨W,C⟩:=m;obtain⟨n,rel,f,lo,ho⟩:=rQ I.hok C;exists 10;have M:i<n.length:=by omega
  obtain⟨R,L,f2,q,D,T⟩:=l N #[8];rw[S]at st;refine wpAny_pyNext_dict_item (knd:=bx X.prog X.w) st f (k:=(n[i]).1) (v:=(n[i]).2) (jE M) λJ y hk x sb=>?_;have I1:Inv X y3 σ H {s with heap:=y}:=I.turned (t':=s.toks) (λb o B e=>(sb.2 b B).trans e) R L q D T;obtain⟨p,e1,e2⟩:=mj rel (jE M);rw[<-S]at x;obtain⟨t,e,c,d⟩:=id x;refine⟨J,U,Ly (s:={s with heap:=y}) e c d #[10] ⟨kV p.1,H,I1,?_,⟨U,λp' u=>by rw[e1]at u;cases u;rfl⟩,x,λb B=>(l b B).1⟩⟩;rw[e2.1];exact aac hk
 done:=by exists 4;subst j G g;obtain⟨W,C⟩:=m;obtain⟨n,rel,f,lo,ho⟩:=rQ I.hok C;exists 10;obtain⟨R,L,f2,q,D,T⟩:=l N #[8];rw[S]at st;exact wpAny_pyNext_dict_end #[123] st f (JO #[2]) λy eb=>⟨U,I.turned (t':=s.toks) (λb o B e=>eb b o B e) R L q D T⟩
 self:=λA i s Q E st h=>by refine Wz st.typeIs Yy (WL Yy st.typeIs yc ?_ (ya _));show wpAny _ _ (ret (.ref N)) _ _ s;exact Wv ⟨_,U,"dict_keyiterator",_,st.typeIs,PySem.F.slot_dict_keyiterator_next.lookup,h⟩
section
def anK(tl:TE):TI:=λσ H R=>tl σ H λx H1=>∃a kvs,x=.ref a/\((H1 a=Z #[57]/\∀o,R (Itd a o kvs) (upd H1 a #[129]))\/∃o,H1 a=Z #[129]/\R (Itd a o kvs) H1)
def ag8(L:PE X l tl):PI X tg l (anK tl):=by
 exists 24;exists 7;obtain⟨a,kvs,e,q⟩:=O;subst e;cases F;have c:∀(o:Obj) (G:Hp),Inv X y3 σ G T->G a=Z #[129]->R (Itd a o kvs) G->wpAny #[4] X.A (pyIter #[72]) (PIE X y3 σ tg R) X.xe T:=λo G E d i=>by obtain⟨n,rel,f,lo,V⟩:=rQ E.hok d;exists 10;refine wpAny_pyIter_dict lo f ?_;refine⟨T.heap.objs.size,[T.heap.objs.size],_,_,G,U,E.kept (t':=T.toks) λb o e=>jA _ e,acd a _ o kvs,⟨_,jF _ rfl,U,by rw[S];rfl⟩,λb B=>?_,i⟩;exists 12;subst e;exact E.G0 (jD _) (E.hok.fresh (jD _))
 rcases q with⟨j,q⟩|⟨o,j,q⟩
 ·obtain⟨z,lo,n,rel,t,r,k,m,rest⟩:=P.hok a _ j;exact c t _ (P.freeze j m) ae (q t)
 ·exact c o g P j q
end
def Eu:entryFor table "dict_itemiterator.__iter__" = Z Builtin.«dict_keyiterator.__iter__»:=
 qP (id':="dict_keyiterator.__iter__") #[153] (by first|rfl|decide +kernel|(unfold String.splitOn;simp +decide [String.splitOnAux])) #[1] #[153]
theorem W4{x1:_}(a N:QX)(o:Obj)(kvs:List #[167]):Turn P w K (.Tuple elts x1 pos) (Iti a o kvs) [N] N (λi h=>∃ok D,IsItemIter h N a i kvs.length (mY o) ok D) where
 mem:=by simp
 obj:=λi h st b B=>by
  have e:b=N:=by simpa using B
  subst e;obtain⟨ok,D,st⟩:=st;exact⟨_,st,λv z=>by have z':Data.fields _=Data.cell v:=z;cases z'⟩
 keep:=λi h y st k=>by obtain⟨ok,D,st⟩:=st;exact⟨ok,D,k N #[8] _ st⟩
 item:=by
  intro X j G g hc i y3 s σ H E I l st m;subst j G g;obtain⟨hi,C⟩:=m;obtain⟨ok,D,st⟩:=st;obtain⟨n,rel,f,lo,ho⟩:=rQ I.hok C;exists 10;have hv:i<n.length:=by omega
  obtain⟨R,L,f2,r,t,T⟩:=l N #[8];rw[S]at st;have W:N<s.heap.objs.size:=jI st;refine wpAny_pyNext_items_item (knd:=bx X.prog X.w) st f (k:=(n[i]).1) (v:=(n[i]).2) (jE hv) λJ y hk Fg ht o5 kp=>?_;obtain⟨p,e1,e2⟩:=mj rel (jE hv);refine⟨.ref s.heap.objs.size,U,wpAny_letOwnedTupleGo_items (s:={s with heap:=y}) Fg λM x d=>?_⟩;have O:∀b u,s.heap.get? b=Z u->b≠N->M.get? b=Z u:=λb u e B=>(d.2 b B).trans (kp b u B e);have nT:s.heap.objs.size≠N:=JW W;have j5:M.get? s.heap.objs.size=Z {cls:=.type "tuple",data:=.seq #[J,(n[i]).2]}:=(d.2 _ nT).trans ht;have fr:H s.heap.objs.size=Y:=I.hok.fresh (jD _);have c:rn X y3 (upd H s.heap.objs.size #[151]) N:=⟨by rw[ag (Ne.symm nT)];exact R,L,f2,r,t,T⟩;have I0:Inv X y3 σ (upd H s.heap.objs.size #[151]) {s with heap:=s.heap.push {cls:=.type "tuple",data:=.seq #[J,(n[i]).2]} }:=
   I.laid (t':=s.toks) (o:=.tup [kV p.1,p.2]) (λb ob q=>jA _ q) (jD _) ⟨by show 2<=sizeLine;decide,[J,(n[i]).2],.cons (by rw[e2.1];exact aac hk) (.cons e2.2 .nil),⟨_,jF _ rfl,rfl,_,rfl⟩⟩
  have I2:Inv X y3 σ (upd H s.heap.objs.size #[151]) {s with heap:=M}:=by
   refine I0.turned (t':=s.toks) (h':=M) (λb ob B q=>?_) c.1 c.2.1 c.2.2.2.1 c.2.2.2.2.1 c.2.2.2.2.2;rcases zi (show(s.heap.push {cls:=.type "tuple",data:=.seq #[J,(n[i]).2]}).get? b=Z ob from q)with⟨rfl,rfl⟩|z
   ·exact j5
   ·exact O b ob z B
  refine⟨.ref s.heap.objs.size,_,I2,U,⟨s.heap.objs.size,p,U,fr,U,e1⟩,⟨_,_,by rw[S];exact x⟩,λb B=>?_⟩;have e:b=N:=by simpa using B
  subst e;exact c.1
 done:=by intro X j G g hc i y3 s σ H E I l st m;subst j G g;obtain⟨hi,C⟩:=m;obtain⟨ok,D,st⟩:=st;obtain⟨n,rel,f,lo,ho⟩:=rQ I.hok C;exists 10;obtain⟨R,L,f2,r,t,T⟩:=l N #[8];rw[S]at st;exact wpAny_pyNext_items_end (I.ok.hd hc) st f (JO #[2]) λy eb=>⟨U,I.turned (t':=s.toks) (λb o B e=>eb b o B e) R L r t T⟩
 self:=λA i s Q E st h=>by obtain⟨ok,D,st⟩:=st;have hT:s.TypeIs (.ref N) "dict_itemiterator" :=⟨_,st,rfl⟩;refine Wz hT yd (WL yd hT Eu ?_ (PySem.F.args_dict_itemiterator_iter_1 _));show wpAny _ _ (ret (.ref N)) _ _ s;exact Wv ⟨_,U,"dict_itemiterator",_,hT,PySem.F.slot_dict_itemiterator_next.lookup,h⟩
section
def ajT(tl:TE):TI:=λσ H R=>tl σ H λx H1=>∃v d kvs,x=.ref v/\H1 v=Z (BG v d)/\H1 d=Z #[57]/\∀o,R (Iti d o kvs) (upd H1 d #[129])
def aer{u:_}(L:PE X l tl):PI X (.Tuple elts u OG) l (ajT tl):=by exists 24;exists 7;obtain⟨v,a,kvs,e,M,j,q⟩:=O;subst e;cases F;obtain⟨c,_,_⟩:=(show bp X.prog X.w g T.heap v (BG v a)from P.hok v _ M);obtain⟨z,lo,k,d,t,r,i,m,rest⟩:=P.hok a _ j;have E:=P.freeze j m;obtain⟨n,rel,f,p,V⟩:=rQ E.hok ae;exists 10;refine wpAny_pyIter_items c f ?_;refine⟨T.heap.objs.size,[T.heap.objs.size],_,_,_,U,E.kept (t':=T.toks) λb o e=>jA _ e,W4 a _ t kvs,⟨_,_,by rw[S];exact jF _ rfl⟩,λb B=>?_,q t⟩;exists 12;subst e;exact E.G0 (jD _) (E.hok.fresh (jD _))
end
def abh{g:TG}(d:Nat->St->Hp->Prop)(I:d 0 σ H)(L:∀i σ H,i<=kvs.length->d i σ H->H a=Z #[129])(hs:∀i p σ H T,kvs[i]?=Z p->d i σ H->H T=Y->g #[164] σ (upd H T #[151]) λb G=>tb {D with nx:=d (i+1),ct:=d (i+1),bk:=D.nx} b G)(j:∀σ H,d kvs.length σ H->D.nx σ H):
  ∃W:Nat->Nat->St->Hp->Prop,#[119]/\∀i m σ H,W i m σ H ->
   ((Iti a o kvs).stop i H/\D.nx σ H)\/((Iti a o kvs).go i H/\∃N:St->Hp->Prop,#[31]/\∀x H',(Iti a o kvs).yld i H x H'->g x σ H' λb G=>tb {D with nx:=N,ct:=N,bk:=D.nx} b G):=by
 refine⟨λi m σ H=>m=kvs.length-i/\i<=kvs.length/\d i σ H,⟨kvs.length,by simp,je _,I⟩,?_⟩;exists 21;have q:=L i σ H c p;by_cases f:i<kvs.length
 ·refine .inr ⟨⟨f,q⟩,d (i+1),λO H' n=>⟨kvs.length-(i+1),by omega,U,f,n⟩,λx H' y=>?_⟩;obtain⟨T,w,rfl,r,rfl,y⟩:=y;exact hs i w σ _ T y p r
 ·have e:i=kvs.length:=by omega
  subst e;exact .inl ⟨⟨jD _,q⟩,j σ H p⟩
abbrev BJ(xs:Array Nat):Prop:=xs.toList.Pairwise (·<·)
def BJ.lt{xs:Array Nat}(r:BJ xs)(W:i<j)(f:j<xs.size):xs[i]<xs[j]:=by have:=List.pairwise_iff_getElem.mp r i j (by simpa using zA W f) (by simpa using f) W;exists 33
theorem FP{xs:Array Nat}(r:BJ xs):∀(a lo W:Nat),W-lo<=a->lo<=W->W<=xs.size->(∀i (h:i<xs.size),i<lo->xs[i]<j)->(∀i (h:i<xs.size),W<=i->j<=xs[i])->
  (SetTable.below.go xs j a lo W<=xs.size/\(∀i (h:i<xs.size),i<SetTable.below.go xs j a lo W->xs[i]<j)/\∀i (h:i<xs.size),SetTable.below.go xs j a lo W<=i->j<=xs[i])
 | 0,lo,W,l,L,hs,G,M=>by
  have e:lo=W:=by omega
  subst e;exact⟨hs,G,M⟩
 | a+1,lo,W,l,L,hs,G,M=>by
  unfold SetTable.below.go;by_cases c:lo<W
  ·rw[if_pos c];dsimp only;have N:(lo+W) / 2<xs.size:=by omega
   have f:xs.getD ((lo+W) / 2) j=xs[(lo+W) / 2]:=by simp[QE,N]
   by_cases d:xs.getD ((lo+W) / 2) j<j
   ·rw[if_pos d];refine FP r a _ _ #[2] #[2] hs (λi h g=>?_) M;rcases zC i ((lo+W) / 2)with z|z
    ·exact zA (r.lt z N) (by rw[f]at d;exact d)
    ·have e:i=(lo+W) / 2:=by omega
     subst e;rw[f]at d;exact d
   ·rw[if_neg d];refine FP r a _ _ #[2] #[2] #[2] G (λi h g=>?_);rw[f]at d;rcases zC ((lo+W) / 2) i with z|z
    ·exact jW (Jo d) (JL (r.lt z h))
    ·have e:i=(lo+W) / 2:=by omega
     subst e;exact Jo d
  ·rw[if_neg c];have e:lo=W:=by omega
   subst e;exact⟨hs,G,M⟩
def FQ{xs:Array Nat}(r:BJ xs)(j:Nat):SetTable.below xs j<=xs.size/\(∀i (h:i<xs.size),i<SetTable.below xs j->xs[i]<j)/\∀i (h:i<xs.size),SetTable.below xs j<=i->j<=xs[i]:=
 FP r xs.size 0 xs.size #[2] (je _) (jD _) (λi h z=>by omega) (λi h z=>by omega)
def SG{xs:Array Nat}(r:BJ xs):SetTable.below xs 0=0:=by
 obtain⟨I,G,_⟩:=FQ r 0;rcases zL (SetTable.below xs 0)with z|z
 ·exact z
 ·exact absurd (G 0 (jS z I) z) (Jd _)
def SE{xs:Array Nat}(r:BJ xs)(W:i<xs.size):SetTable.below xs (xs[i]+1)=i+1:=by
 obtain⟨I,G,M⟩:=FQ r (xs[i]+1);rcases Nat.lt_trichotomy (SetTable.below xs (xs[i]+1)) (i+1)with z|z|z
 ·have:=M i W #[2];omega
 ·exact z
 ·have F:i+1<xs.size:=by omega
  have a:=G (i+1) F z;have v:xs[i]<xs[i+1]:=r.lt (JK i) F;omega
def toList_insertAt(xs:Array α)(p:Nat)(x:α):(SetTable.insertAt xs p x).toList=xs.toList.take p++x::xs.toList.drop p:=by unfold SetTable.insertAt;simp;rw[Jh #[8]]
def BJ.put{xs:Array Nat}(r:BJ xs)(f:xs[SetTable.below xs j]?≠Z j):BJ (SetTable.insertAt xs (SetTable.below xs j) j):=by
 obtain⟨I,G,M⟩:=FQ r j;unfold BJ;rw[toList_insertAt,List.pairwise_append];have tk:∀a∈xs.toList.take (SetTable.below xs j),a<j:=λa l=>by
  obtain⟨i,W,rfl⟩:=ZH.mp l;have:i<SetTable.below xs j/\i<xs.size:=by simp at W;omega
  simpa using G i this.2 this.1
 have n:∀b∈xs.toList.drop (SetTable.below xs j),j<b:=λb B=>by
  obtain⟨i,W,rfl⟩:=List.mem_drop_iff_getElem.mp B;have hs:i+SetTable.below xs j<xs.size:=by simpa using W
  have k:=M (i+SetTable.below xs j) hs #[2];have c:SetTable.below xs j<xs.size:=by omega
  have K:xs[SetTable.below xs j]≠j:=λz=>f (by rw[jx c,z]);have J:=M (SetTable.below xs j) c (jD _);have:j<xs[i+SetTable.below xs j]:=by
   rcases zL i with z|z
   ·subst z;simp only[Jj];omega
   ·have:=r.lt (i:=SetTable.below xs j) (j:=i+SetTable.below xs j) #[2] hs;omega
  simpa[Nat.add_comm]using this
 refine⟨List.Pairwise.sublist (ZD _ _) r,Jt.mpr ⟨n,List.Pairwise.sublist (List.drop_sublist _ _) r⟩,λa l b B=>?_⟩;rcases jL.mp B with e|B
 ·rw[e];exact tk a l
 ·exact zA (tk a l) (n b B)
def U7(n:Nat):BJ (Array.range n):=by unfold BJ;rw[Array.toList_range];exact ZR
structure ic(t:Qx)(led:Bool):Prop where
 rise:BJ t.place
 nod:t.dummies=#[]
 led:t.led=led
theorem ic.standIn{led:Bool}(k:ic t led)(n:Nat):ic (t.standIn n) led:=⟨U7 n,rfl,k.led⟩
theorem ic.orStandIn{led:Bool}(k:ic t led)(n:Nat):ic (t.orStandIn n) led:=by
 unfold SetTable.orStandIn;split
 ·exact k
 ·exact k.standIn n
def Y9(j:Nat):SetTable.has #[] j=false:=by unfold SetTable.has;simp
theorem HU{led:Bool}(k:ic t led):∀(fuel:Nat) (p:SetTable.Probe) (j:Nat) (a:Option Nat),p.dummy=Y->SetTable.probe.go t (λ_=>h+1) h fuel p=Z (.empty j a)->t.slot j=.empty/\a=Y
 | 0,p,j,a,_,e=>by cases e
 | fuel+1,p,j,a,D,e=>by
  unfold SetTable.probe.go at e;cases hs:t.slot p.j with
  | empty=>
   rw[hs]at e;cases e;exact⟨hs,D⟩
  | dummy=>
   exfalso;unfold SetTable.slot at hs;dsimp only at hs;split at hs
   ·cases hs
   ·rw[k.nod,Y9]at hs;simp at hs
  | live i=>
   rw[hs]at e;dsimp only at e;rw[if_neg (by simp;omega)]at e;refine HU k fuel _ j a ?_ e;unfold SetTable.advance;split
   ·exact D
   ·exact D
def abi{led:Bool}(k:ic t led)(e:t.freeSlot h=Z (j,b)):t.place[SetTable.below t.place j]?≠Z j/\b=false:=by
 unfold SetTable.freeSlot SetTable.probe at e;split at e
 ·rename_i c a l;obtain⟨G,rfl⟩:=HU k _ _ _ _ rfl l;simp at e;obtain⟨rfl,rfl⟩:=e;refine⟨λz=>?_,U⟩;unfold SetTable.slot at G;dsimp only at G;rw[if_pos (by rw[z];simp)]at G;cases G
 ·cases e
def TB{led:Bool}(k:ic t led)(es:Array (Int×Value))(h:Int)(x:Value):ic (layNew t es h x).2.1 led:=by
 unfold layNew;split
 ·rename_i y C e;obtain⟨f,rfl⟩:=abi k e;have R:ic (t.put y).1 led:=by refine⟨k.rise.put f,?_,k.led⟩;show(if SetTable.has t.dummies y=true then _ else t.dummies)=#[];rw[k.nod,Y9];rfl
  exact R.orStandIn _
 ·exact k.standIn _
def Om{led:Bool}(k:ic t led)(es:Array (Int×Value))(n:Nat):ic (relayAll t es n).2.1 led:=by
 unfold relayAll;split
 ·rename_i l c e;dsimp only;split
  ·unfold SetTable.relaid SetTable.laid at e;simp only[Option.bind_eq_bind,zP]at e;obtain⟨d,_,e⟩:=e;cases e;refine⟨?_,U,k.led⟩;unfold BJ;dsimp only;rw[List.map_filterMap];refine List.Pairwise.filterMap _ (λa f S b B m g=>?_) ZR;simp only[Option.map_map,Option.mem_def,Ju,Function.comp]at B g;obtain⟨_,_,rfl⟩:=B;obtain⟨_,_,rfl⟩:=g;exact S
  ·exact k.standIn _
 ·exact k.standIn _
abbrev Pk(w:World):Bool:=w.params.followText "set-order"
section
def eO(w:World):Obj:={cls:=.type "set",dict:=Y,data:=.set #[] 0 (.fresh 0 0 (!Pk w))}
def aa5(a:Value)(h:Q₁ #[23] {s with heap:=s.heap.push (eO w)}):
  codeAny #[42] A (.call (.builtin "set.__new__") ⟨[.type "set",a],[]⟩) (wants Q₁ E) s:=by
 refine qN ?_;show wpAny _ A.in1 (do checkBuiltinCall "set.__new__" ⟨[.type "set",a],[]⟩;again (.builtin "set.__new__" ⟨[.type "set",a],[]⟩)) _ _ s;refine WI (Wr (F.newCall_set_1 a) (Wv ⟨qY xj _,qJ F.entry_set_new ?_⟩));rw[Around.under_plainId xj _];unfold Builtin.«set.__new__» xu;have k:=sub_set_self;obtain⟨D,g,d,tk,os⟩:=s;dsimp only
 wp_walk
 refine WE (Wv ?_);dsimp only;simp only[newObj];exact WI (wpAny_alloc (Wv (Wv h)))
end
namespace SF
def S0:entryFor table "set.__iter__" = Z Builtin.«frozenset.__iter__»:=qP (id':="frozenset.__iter__") #[153] rfl #[1] #[153]
def slot_next:Slot "set_iterator" "__next__" "set_iterator.__next__" :=
 .of (owner:="set_iterator") (n:="__next__") (by rw[qy,qG];kernel_rfl) #[1] #[1] #[1] (by first|exact .inl #[1]|exact .inr #[1])
  (by rw[isSubtype_type];kernel_rfl)
def entry_next:entryFor table "set_iterator.__next__" = Z Builtin.«set_iterator.__next__»:=qQ #[153]
def args_next(a:Value):argsOk "set_iterator.__next__" ⟨[a],[]⟩:=by unfold argsOk;kernel_rfl
def Ad:Slot "set_iterator" "__iter__" "set_iterator.__iter__" :=
 .of (owner:="set_iterator") (n:="__iter__") (by rw[qy,qG];kernel_rfl) #[1] #[1] #[1] (by first|exact .inl #[1]|exact .inr #[1])
  (by rw[isSubtype_type];kernel_rfl)
end SF
theorem AZ{α:Type}:∀(l:List α) (i:Nat) (h:i<l.length),(l[i]::l.eraseIdx i).Perm l
 | x::r,0,_=>List.Perm.refl _
 | x::r,i+1,h=>(List.Perm.swap _ _ _).trans (List.Perm.cons _ (AZ r i (Jv h)))
theorem aap{α:Type}(next:Nat->Nat):∀(a k:Nat) (left:List α) (out:Array α),left.length=a->(pickOrder.go next a k left out).toList.Perm (out.toList++left)
 | 0,k,left,out,h=>by rw[zQ.mp h,jZ];exact List.Perm.refl _
 | a+1,k,left,out,h=>by
  unfold pickOrder.go;have f:next k%left.length<left.length:=QF _ #[2]
  rw[jE f];dsimp only;refine(aap next a (k+1) _ _ (by rw[zF f];omega)).trans ?_;rw[Zq,jv];refine List.Perm.append_left _ ?_;exact AZ _ _ f
def Du{α:Type}(next:Nat->Nat)(xs:Array α):(pickOrder next xs).toList.Perm xs.toList:=by
 have q:=aap next xs.size 0 xs.toList #[] #[8]
 unfold pickOrder;simpa using q
def K2{M:Model}{A:Around}{E:Value->Qz->Prop}{s:Qz}{a:Source}{n:Nat}{Q:Nat->Qz->Prop}(R:n≠0)(h:∀i d',i<n->Q i {s with drawn:=d'}):wpAny M A (choose a n) Q E s:=
 λ_ _ _=>⟨R,h _ _ (QF _ (zw R))⟩
theorem Ls{M:Model}{A:Around}{E:Value->Qz->Prop}{α:Type}:∀(n:Nat) (xs:List α) (s:Qz) (Q:List α->Qz->Prop),xs.length=n->(∀ys d',ys.Perm xs->Q ys {s with drawn:=d'})->wpAny M A (drawOrder n xs) Q E s
 | 0,xs,s,Q,L,h=>by have e:xs=[]:=zQ.mp L;subst e;unfold drawOrder;exact Wv (h [] s.drawn (List.Perm.refl _))
 | n+1,[],s,Q,L,h=>by cases L
 | n+1,x::r,s,Q,L,h=>by unfold drawOrder;refine WI (K2 #[8] λi d' W=>?_);rw[jE W];dsimp only;refine WI (Ls n _ _ _ (by rw[zF W];omega) λys j p=>Wv ?_);exact h _ _ ((List.Perm.cons _ p).trans (AZ _ _ W))
def lC(h:Heap)(I S:QX)(first:Value)(i n ep:Nat):Prop:=∃o,h.get? I=Z o/\o.cls=.type "set_iterator" /\ o.data=.fields #[first,.int i 0,.ref S,.int n 0,.int ep 0]
def lC.typeIs{s:Qz}{I S:QX}{first:Value}{i n ep:Nat}(x:lC s.heap I S first i n ep):s.TypeIs (.ref I) "set_iterator" :=let ⟨o,ho,hc,_⟩:=x;⟨o,ho,hc⟩
def aiT(w:World)(es:Array (Int×Value))(ep:Nat)(t:Qx)(S T:QX)(L:List Value)(h:Heap)(i:Nat)(first:Value):Prop:=
 (Pk w=true/\(∃z:Nat,first=.int z 0)/\L=#[62].toList.map (·.2)) \/
 (Pk w=false/\(t.plain=true\/es.size<=1)/\(∃z:Nat,first=.int z 0/\SetTable.below t.place z=i)/\L=es.toList.map (·.2)) \/
 (Pk w=false/\first=.ref T/\∃pl:List Nat,pl.Perm (ji es.size)/\(∃o e,h.get? T=Z o/\o.data=.seq (pl.map λp:Nat=>Yj (p:Int) 0).toArray e)/\L=pl.map λp=>(es.getD p (0,.none)).2)
structure Lc(w:World)(es:Array (Int×Value))(ep:Nat)(t:Qx)(S T I:QX)(L:List Value)(i:Nat)(h:Heap):Prop where
 set:∃o,h.get? S=Z o/\o.data=.set es ep t
 it:∃first,lC h I S first i es.size ep/\aiT w es ep t S T L h i first
section
variable{P:Qv}{w:World}{A:Around}{E:Value->Qz->Prop}{s:Qz}{es:Array (Int×Value)}{ep:Nat}{t:Qx}{S T I:QX}{L:List Value}{i:Nat}
def next_item(l:t.fits es.size=true)(hk:ic t (!Pk w))(hL:L.length=es.size)(MS:T≠I)(x:S≠I)(st:Lc w es ep t S T I L i s.heap)(W:i<es.size){Q:Option Value->Qz->Prop}(h:∀h',Yf I s.heap h'->Lc w es ep t S T I L (i+1) h'->Q (Z (L.getD i .none)) {s with heap:=h'}):wpAny #[42] A (pyNext (.ref I)) Q E s:=by
 obtain⟨⟨oS,J,d⟩,first,hit,C3⟩:=st;obtain⟨o,V,hc,j⟩:=id hit;have H:L.getD i .none=L[i]'#[2]:=by simp[QW,hL,W]
 unfold pyNext;refine WI (WH (WK (name:=Str.ofString "__next__") hit.typeIs SF.slot_next (WL SF.slot_next hit.typeIs SF.entry_next ?_ (SF.args_next _))));unfold Builtin.«set_iterator.__next__»;refine WI (m:=slotArgs "__next__" 0 _) (Wv ?_);refine WI (WV V j ?_);dsimp only;unfold setEntries;refine WI (WI (YK J d l (Wv ?_)));exists 31;have j5:∀(f:Array Value->Array Value),(s.heap.update I (Obj.mapFields f)).get? I=Z (Obj.mapFields f o):=λf=>jk _ V (Obj.isFreed_of_fields (Obj.data_mapFields j _));have r:∀(f:Array Value->Array Value) b,b≠I->(s.heap.update I (Obj.mapFields f)).get? b=s.heap.get? b:=λf b hb=>jm _ _ (Ne.symm hb);have u:∀(G:Heap) (M:Value),lC G I S M i es.size ep->lC (G.update I #[34]) I S M (i+1) es.size ep:=by rintro G M ⟨a,X,e,y⟩;exact⟨_,jk _ X (Obj.isFreed_of_fields (Obj.data_mapFields y _)),(Obj.cls_mapFields ..).trans e,by rw[Obj.data_mapFields y];simp[rawInt]⟩
 have F:∀(G:Heap) (M:Value) (c:Nat),lC G I S M i es.size ep->lC (G.update I (Obj.mapFields (·.setIfInBounds 0 (rawInt c)))) I S (.int c 0) i es.size ep:=by rintro G M c ⟨a,X,e,y⟩;exact⟨_,jk _ X (Obj.isFreed_of_fields (Obj.data_mapFields y _)),(Obj.cls_mapFields ..).trans e,by rw[Obj.data_mapFields y];simp[rawInt]⟩
 have B:∀G,Yf I s.heap G->∃o,G.get? S=Z o/\o.data=.set es ep t:=λG K=>⟨oS,(K.2 S x).trans J,d⟩;rcases C3 with⟨g,⟨z,rfl⟩,N⟩|⟨g,n,⟨z,rfl,hz⟩,N⟩|⟨g,rfl,n,k,⟨oT,eT,hT,R⟩,N⟩
 ·have px:=Du (w.params.setOrder S ep) es;have hx:i<#[62].size:=by rw[<-jg,px.length_eq,jg];exact W
  exists 34;unfold setNext;refine WI (YK J d l ?_);unfold setsByText;exists 25;rw[if_pos (show#[42].w.params.followText "set-order" = true from g),if_neg #[8]];unfold setWalk setsByText;refine WI (WI (YK J d l ?_));exists 25;rw[if_pos (show#[42].w.params.followText "set-order" = true from g)];refine WI (WE (Wv (Wv ?_)));have ex:(pickOrder (#[42].w.params.setOrder S ep) es)[((i:Nat):Int).toNat]?=Z #[62][i]:=by rw[jN];exact jx hx
  rw[ex];dsimp only[QU];refine WI (YH V j #[8] ?_);obtain⟨a,X,e,y⟩:=F _ _ z hit;rw[show((z:Nat):Int).toNat=z from jN z];refine WI (YH X y #[8] (Wv ⟨_,U,Wv ?_⟩));have K:Yf I s.heap ((s.heap.update I (Obj.mapFields (·.setIfInBounds 0 (rawInt z)))).update I #[34]):=(Yg ..).trans (Yg ..);have q:=h _ K ⟨B _ K,_,u _ _ (F _ _ z hit),.inl ⟨g,⟨z,rfl⟩,N⟩⟩;rw[H]at q;have v:L[i]'#[2]=#[62][i].2:=by simp[N]
  rw[v]at q;exact q
 ·have o5:t.place.size=es.size:=by simp only[SetTable.fits,Ja,beq_iff_eq,decide_eq_true_eq]at l;exact l.1
  have D:i<t.place.size:=by omega
  exists 34;unfold setNext;refine WI (YK J d l ?_);unfold setsByText;exists 25;rw[if_neg (show ¬ (#[42].w.params.followText "set-order" = true)from by rw[show#[42].w.params.followText "set-order" = false from g];exact jY)];show wpAny _ _ (if (!t.plain&&decide (es.size > 1))=true then _ else _) _ _ _;rw[if_neg (by
   rcases n with q|q
   ·rw[q];simp
   ·simp;omega)]
  show wpAny _ _ ((if (!t.led&&!es.isEmpty)=true then _ else pure ())>>=_) _ _ _;rw[if_neg (by rw[hk.led,g];simp)];refine WI (Wv (Wv ?_));rw[jN,hz,jx W,jx D];dsimp only;refine WI (YH V j #[8] ?_);obtain⟨a,X,e,y⟩:=F _ _ (t.place[i]+1) hit;refine WI (YH X y #[8] (Wv ⟨_,U,Wv ?_⟩));have K:Yf I s.heap ((s.heap.update I (Obj.mapFields (·.setIfInBounds 0 (rawInt (t.place[i]+1:Nat))))).update I #[34]):=(Yg ..).trans (Yg ..);have q:=h _ K ⟨B _ K,_,u _ _ (F _ _ (t.place[i]+1) hit),.inr (.inl ⟨g,n,⟨_,rfl,SE hk.rise D⟩,N⟩)⟩;rw[H]at q;have v:L[i]'#[2]=es[i].2:=by simp[N]
  rw[v]at q;exact q
 ·have O:n.length=es.size:=by rw[k.length_eq,jt]
  have rF:n[i]'#[2]<es.size:=JC.mp (k.mem_iff.mp (jV _));show wpAny _ _ (seqItems? #[164]>>=_) _ _ _;unfold seqItems?;refine WI (WI (Wf hT ?_));rw[R];refine Wv ?_;dsimp only;have C:(n.map λp:Nat=>Yj (p:Int) 0).toArray[((i:Nat):Int).toNat]?=Z (Yj ((n[i]'#[2]:Nat):Int) 0):=by rw[jN];simp[O,W]
  rw[C];dsimp only;unfold setNextDrawn;refine WI (WI (YK J d l ?_));dsimp only;rw[if_neg #[8],jN,jx rF];dsimp only;refine Wv (WI (YH V j #[8] (Wv ⟨_,U,Wv ?_⟩)));have K:Yf I s.heap (s.heap.update I #[34]):=Yg ..;have q:=h _ K ⟨B _ K,_,u _ _ hit,.inr (.inr ⟨g,rfl,n,k,⟨oT,eT,(K.2 T MS).trans hT,R⟩,N⟩)⟩;rw[H]at q;have v:L[i]'#[2]=es[n[i]'#[2]].2:=by simp[N,QE,rF]
  rw[v]at q;exact q
def next_end(H:A.handled=Y)(l:t.fits es.size=true)(C:ic t (!Pk w))(x:S≠I)(st:Lc w es ep t S T I L es.size s.heap){Q:Option Value->Qz->Prop}(h:∀h',yV I s.heap h'->Q Y {s with heap:=h'}):wpAny #[42] A (pyNext (.ref I)) Q E s:=by
 obtain⟨⟨X,J,d⟩,first,hit,D⟩:=st;obtain⟨o,V,hc,j⟩:=id hit;unfold pyNext;refine WI (WH (WK (name:=Str.ofString "__next__") hit.typeIs SF.slot_next (WL SF.slot_next hit.typeIs SF.entry_next ?_ (SF.args_next _))));unfold Builtin.«set_iterator.__next__»;refine WI (m:=slotArgs "__next__" 0 _) (Wv ?_);refine WI (WV V j ?_);dsimp only;unfold setEntries;refine WI (WI (YK J d l (Wv ?_)));exists 31;have F:∀G,yV I s.heap G->wpAny #[42] A.in1 (do let e <-newExc (.type "StopIteration") [];raiseNew e:Qw Fin) (λc f=>∃v,c=Fin.done (Flow.ret v)/\wpAny #[42] A (pure (Z v)) Q E f)
   (λe f=>wpAny #[42] A (do if <-isInstance e (.type "StopIteration")then pure Y else throw e) Q E f) {s with heap:=G}:=by
  intro G k;exists 34;simp only[newExc,newTuple];refine WI (Wm ?_ #[170]);refine WI (m:=firstArgMember _ _) (Wr (a:=Yc) (by first|rfl|(simp only[firstArgMember];rfl)) ?_);refine Wm ?_ #[170];simp only[raiseNew];refine WI (WY ?_);rw[show A.in1.handled=Y from H];refine WI (Wv (YO ?_));refine WI (Wa (T:="StopIteration") (b:=true) ⟨_,jF _ rfl,rfl⟩ qU ?_);exact Wv (h _ ((k.push _).push _))
 rcases D with⟨g,⟨z,rfl⟩,N⟩|⟨g,n,⟨z,rfl,r⟩,N⟩|⟨g,rfl,n,u,⟨oT,eT,y,R⟩,N⟩
 ·have K:=Du (w.params.setOrder S ep) es;have M:#[62].size=es.size:=by rw[<-jg,K.length_eq,jg]
  exists 34;unfold setNext;refine WI (YK J d l ?_);unfold setsByText;exists 25;rw[if_pos (show#[42].w.params.followText "set-order" = true from g),if_neg #[8]];unfold setWalk setsByText;refine WI (WI (YK J d l ?_));exists 25;rw[if_pos (show#[42].w.params.followText "set-order" = true from g)];refine WI (WE (Wv (Wv ?_)));have ex:(pickOrder (#[42].w.params.setOrder S ep) es)[((es.size:Nat):Int).toNat]?=Y:=by rw[jN];exact zU (zb M)
  rw[ex];dsimp only[QU];refine WI (YH V j #[8] ?_);exact F _ (Yg ..).extBut
 ·have W:t.place.size=es.size:=by simp only[SetTable.fits,Ja,beq_iff_eq,decide_eq_true_eq]at l;exact l.1
  exists 34;unfold setNext;refine WI (YK J d l ?_);unfold setsByText;exists 25;rw[if_neg (show ¬ (#[42].w.params.followText "set-order" = true)from by rw[show#[42].w.params.followText "set-order" = false from g];exact jY)];show wpAny _ _ (if (!t.plain&&decide (es.size > 1))=true then _ else _) _ _ _;rw[if_neg (by
   rcases n with q|q
   ·rw[q];simp
   ·simp;omega)]
  show wpAny _ _ ((if (!t.led&&!es.isEmpty)=true then _ else pure ())>>=_) _ _ _;rw[if_neg (by rw[C.led,g];simp)];refine WI (Wv (Wv ?_));rw[jN,r,zU (jD _)];dsimp only;refine WI (YH V j #[8] ?_);exact F _ (Yg ..).extBut
 ·have O:n.length=es.size:=by rw[u.length_eq,jt]
  show wpAny _ _ (seqItems? #[164]>>=_) _ _ _;unfold seqItems?;refine WI (WI (Wf y ?_));rw[R];refine Wv ?_;dsimp only;have i:(n.map λp:Nat=>Yj (p:Int) 0).toArray[((es.size:Nat):Int).toNat]?=Y:=by rw[jN];simp[O]
  rw[i];dsimp only;refine WI (YH V j #[8] ?_);have B:=Obj.data_mapFields j (·.setIfInBounds 0 (rawInt 0));refine WI (YH (jk _ V (Obj.isFreed_of_fields B)) B #[8] ?_);exact F _ ((Yg ..).trans (Yg ..)).extBut
end
end L2
namespace L2
open PySem PySem.Spec PyProof.Rows
namespace SF
def Ew:entryFor table "set_iterator.__iter__" = Z Builtin.«dict_keyiterator.__iter__»:=qP (id':="dict_keyiterator.__iter__") #[153] rfl #[1] #[153]
def FO(a:Value):argsOk "set_iterator.__iter__" ⟨[a],[]⟩:=by unfold argsOk;kernel_rfl
end SF
section
variable{P:Qv}{w:World}{A:Around}{E:Value->Qz->Prop}{s:Qz}{es:Array (Int×Value)}{ep:Nat}{t:Qx}{S T I:QX}{L:List Value}
theorem ao9(H:A.handled=Y)(l:t.fits es.size=true)(C:ic t (!Pk w))(u:L.length=es.size)(c:T≠I)(x:S≠I):
  WalksS P w A I [I,S,T] [I] (λa b=>b=a) es.size (λi v=>v=L.getD i .none) (λi s=>Lc w es ep t S T I L i s.heap) where
 sub:=λb B=>by simp at B;simp[B]
 grefl:=λ_=>rfl
 gtrans:=λ_ _ _ G M=>M.trans G
 frame:=λi s y tk st _ k=>by
  obtain⟨⟨h,J,d⟩,first,⟨o,V,r,F⟩,D⟩:=st;refine⟨⟨h,k S #[8] _ J,d⟩,first,⟨o,k I #[8] _ V,r,F⟩,?_⟩;rcases D with z|z|⟨b,e,n,f,⟨X,j,m,R⟩,N⟩
  ·exact .inl z
  ·exact .inr (.inl z)
  ·exact .inr (.inr ⟨b,e,n,f,⟨X,j,k T #[8] _ m,R⟩,N⟩)
 item:=λi s Q E W st g=>next_item l C u c x st W λy K p=>g _ _ rfl p ⟨λb o B e=>(K.2 b λz=>B (by simp[z])).trans e,rfl,rfl,rfl,jD _⟩
 done:=λs Q E st g=>next_end H l C x st λy q=>g _ ⟨λb o B e=>q b o (λz=>B (by simp[z])) e,rfl,rfl,rfl,jD _⟩
 self:=λi s Q E st g=>by obtain⟨_,first,hit,_⟩:=st;refine Wz hit.typeIs SF.Ad (WL SF.Ad hit.typeIs SF.Ew ?_ (SF.FO _));show wpAny _ _ (ret (.ref I)) _ _ s;exact Wv ⟨_,U,"set_iterator",_,hit.typeIs,SF.slot_next.lookup,g⟩
def anS{o:Obj}{Q:Value->Qz->Prop}(V:s.heap.get? S=Z o)(hex:o.ExactSet)(j:o.data=.set es ep t)(B:es.size<scanBound)(l:t.fits es.size=true)(C:ic t (!Pk w))(h:∀(h':Heap) (d':Qe) (I T:QX) (L:List Value),L.Perm (es.toList.map (·.2))->Lc w es ep t S T I L 0 h'->(∀b u,s.heap.get? b=Z u->h'.get? b=Z u)->s.heap.objs.size<=I->I<h'.objs.size->T≠I->(T=S\/s.heap.objs.size<=T)->Q (.ref I) {s with heap:=h',drawn:=d'}):
  wpAny #[42] A (pyIter (.ref S)) Q E s:=by
 have r:s.TypeIs (.ref S) "set" :=⟨o,V,hex.1⟩;have H:S<s.heap.objs.size:=jI V;refine Wz r xk (WL xk r SF.S0 ?_ (F.args_set_iter_1 _));unfold Builtin.«frozenset.__iter__» Gh Gf setEntries;refine WI (WI (m:=slotArgs "__iter__" 0 _) (Wv (Wv ?_)));refine WI (WI (WI (YK V j l (Wv (Wv ?_)))));exists 34;unfold setDrawn setsByText;refine WI (YK V j l ?_);refine WI (WI (WE (Wv (Wv ?_))));show wpAny _ _ (if (!Pk w&&(!t.plain&&decide (es.size > 1)))=true then _ else _) _ _ _;by_cases c:(!Pk w&&(!t.plain&&decide (es.size > 1)))=true
 ·rw[if_pos c];have g:Pk w=false:=by
   cases b:Pk w with
   | false=>rfl
   | true=>rw[b]at c;simp at c
  refine WI (Ls _ _ _ _ #[8] λn d' k=>WI ?_);have a:n.length=es.size:=by rw[k.length_eq,jt]
  refine Wn (hsz:=by rw[jQ,a];exact qR B) ?_;have O:n.length=es.size:=by rw[k.length_eq,jt]
  have X:(s.heap.push (seqObj "tuple" (n.map λi:Nat=>rawInt i).toArray 0)).get? S=Z o:=jA _ V;unfold setEpoch;refine WI (WI (YK (s:={s with heap:=s.heap.push (seqObj "tuple" (n.map λi:Nat=>rawInt i).toArray 0),drawn:=d'}) X j l (Wv ?_)));unfold newFields;refine WI (Wm (Wv ⟨_,U,"set_iterator",_,⟨_,jF _ rfl,rfl⟩,SF.slot_next.lookup,?_⟩) #[170]);refine h _ d' _ s.heap.objs.size (n.map λp=>(es.getD p (0,.none)).2) ?_ ⟨⟨o,jA _ X,j⟩,_,⟨_,jF _ rfl,U,U⟩,.inr (.inr ⟨g,U,n,k,⟨_,0,jA _ (jF _ rfl),U⟩,U⟩)⟩
   (λb u q=>jA _ (jA _ q)) ?_ ?_ ?_ ?_
  ·refine(k.map _).trans ?_;rw[show(ji es.size).map (λp=>(es.getD p (0,.none)).2)=es.toList.map (·.2)from by
    refine ZN #[8] λi G M=>?_;have W:i<es.size:=by simpa using G
    simp[QE,W]]
  ·rw[jc];exact JE _
  ·exact jI (jF _ rfl)
  ·rw[jc];exact jM (JK _)
  ·exact .inr (jD _)
 ·rw[if_neg c];refine WI (Wv ?_);unfold setEpoch;refine WI (WI (YK V j l (Wv ?_)));unfold newFields;refine WI (Wm (Wv ⟨_,U,"set_iterator",_,⟨_,jF _ rfl,rfl⟩,SF.slot_next.lookup,?_⟩) #[170]);cases g:Pk w with
  | true=>
   refine h _ s.drawn _ S (#[62].toList.map (·.2)) ((Du _ es).map _) ⟨⟨o,jA _ V,j⟩,_,⟨_,jF _ rfl,U,U⟩,.inl ⟨g,⟨0,U⟩,U⟩⟩
    (λb u q=>jA _ q) (jD _) ?_ (jM H) ?_
   ·rw[jc];exact JK _
   ·exact .inl rfl
  | false=>
   rw[g]at c;have n:t.plain=true\/es.size<=1:=by
    cases q:t.plain with
    | true=>exact .inl rfl
    | false=>
     rw[q]at c;simp at c;exact .inr c
   refine h _ s.drawn _ S (es.toList.map (·.2)) (List.Perm.refl _) ⟨⟨o,jA _ V,j⟩,_,⟨_,jF _ rfl,U,U⟩,.inr (.inl ⟨g,n,⟨0,U,SG C.rise⟩,U⟩)⟩
    (λb u q=>jA _ q) (jD _) ?_ (jM H) ?_
   ·rw[jc];exact JK _
   ·exact .inl rfl
end
end L2
namespace L2
open PySem PySem.Spec PyProof.Rows
variable{s:Qz}{ns:List Int}
theorem Iv:∀{ns:List Int} {us:List Value},Vals #[67] us->Qj us ns
 |[],_,.nil=>.nil
 | n::r,_,.cons ⟨t,e⟩ z=>by subst e;exact .cons n t (Iv z)
def bB(ns:List Int):List Int:=ns.foldl step_dedup []
def abd{s:List Int}{v k:Int}:k∈step_dedup s v↔k∈s\/k=v:=by
 unfold step_dedup;split
 ·rename_i h;have M:v∈s:=by simpa using h
  exact⟨.inl,λz=>z.elim id λe=>e▸M⟩
 ·simp
theorem Ec:∀(ns s:List Int) (k:Int),k∈ns.foldl step_dedup s↔k∈s\/k∈ns
 |[],s,k=>by simp
 | n::r,s,k=>by
  rw[JQ,Ec r,abd,jL];constructor
  ·rintro((h|h)|h)
   ·exact .inl h
   ·exact .inr (.inl h)
   ·exact .inr (.inr h)
  ·rintro(h|h|h)
   ·exact .inl (.inl h)
   ·exact .inl (.inr h)
   ·exact .inr h
def rL{k:Int}:k∈bB ns↔k∈ns:=by unfold bB;rw[Ec];simp
theorem ij:∀(ns s:List Int),(ns.foldl step_dedup s).length<=s.length+ns.length
 |[],s=>jD _
 | n::r,s=>by
  refine jW (ij r _) ?_;have:(step_dedup s n).length<=s.length+1:=by
   unfold step_dedup;split
   ·exact JE _
   ·rw[jG];exact jD _
  rw[jX];omega
def rK(ns:List Int):(bB ns).length<=ns.length:=by have q:=ij ns [];unfold bB;simpa using q
end L2
namespace PySem
open PyProof.Rows
end PySem
namespace L2
open PySem PySem.Spec PyProof.Rows
variable{X:Cx}{a elt iter tg:Expr}{p pos:Pos}{N NX:List Str}{scope scX sc:Scope}{ix:List (Option Nat)}{te:TE}{wi:TI}{c C globals it:QX}{env:Qg}{y3:List (QX×Obj)}{σ:St}{H:Hp}{s:Qz}{fp:List QX}{x qual:Str}{h':Heap}{m:Str→Option Value}{A:Around}{E:Value→Qz→Prop}{i:Nat}{o:Obj}{kvs:List (Key×V)}{Qd:QX→Hp→Prop}
theorem sN{env:Qg}:∀{names:List (Str×Qr)} {x:Str},names.lookup x=Z .cell ->
  #[68].lookup x=Z .cell
 |[],_,h=>by simp at h
 |(n,k)::r,x,h=>by
  have K:=@sN env r x;show JZ x (#[96]::_)=_;cases J:x==n with
  | true=>
   simp only[jd,J]at h;cases h;exists 31;simp[jd,J]
  | false=>
   simp only[jd,J]at h;by_cases O:#[6]=true
   ·rw[if_pos O];simp only[jd,J];exact K h
   ·rw[if_neg O];simp only[jd,J];exact K h
def aO.rel(S:aO NX scX N ix sc):aO NX (relabel scX env) N ix sc:=
 ⟨S.kind,S.nd,S.nocell,S.locs,λy a l=>by
  rcases S.free y a l with z|z
  ·exact .inl (sN z)
  ·exact sP z,S.len,S.at_⟩
structure oA(NX:List Str)(scX:Scope)(N:List Str)(ix:List (Option Nat))(sc:Scope)(x:Str):Prop where
 kind:sc.kind=.function
 nd:N.Nodup
 cell:sc.names.lookup x=Z .cell
 only:∀y∈sc.names,y.2=.cell->y.1=x
 lay:∀n cl,cellsFrom n sc.names cl=(x,n)::cl
 lays:∀h,pushCells h sc.names=h.push {cls:=.type "cell",data:=.cell Y}
 locs:∀y∈sc.names,y.2=.local->sc.names.lookup y.1=Z .local
 free:∀y∈sc.names,y.2=.free->scX.names.lookup y.1=Z .cell\/scX.names.lookup y.1=Z .free
 nofree:∀y∈sc.names,y.2=.free->y.1≠x
 len:ix.length=N.length
 at_:∀p∈N.zip ix,∀i,p.2=Z i->NX[i]?=Z p.1/\sc.names.lookup p.1=Z .free
def pE(X:Cx)(N:List Str)(scope:Scope)(x:Str)(fp:List QX)(s:Qz)(H:Hp)(C c:QX):Cx:=
 {prog:=X.prog,w:=X.w,K:=X.K,mg:=X.mg,base:=X.base,A:=X.A,N:=N,s₀:=s,H₀:=H,env:=compEnvC scope ((x,c)::cM X.env.cells scope.names []) C X.env,outer:=X.stack,stack:=X.stack,ex:=fp,fn:=λy=>y==x,calm:=X.calm,pn:=X.pn,xe:=λ_ _=>False}
section
def oA.aZ(S:oA X.N X.env.scope N ix scope x)(ok:X.Ok):∀y∈scope.names,y.2=.free->∃c,X.env.cells.lookup y.1=Z c:=λy a l=>ok.has y.1 (S.free y a l)
def Tr{D:QX}{tk:Nat}(I:Inv X y3 σ H s)(S:oA X.N X.env.scope N ix scope x)(l:∀b∈fp,rn X y3 H b)(W:∀b∈fp,∃o,s.heap.get? b=Z o/\∀v,o.data≠.cell v)(j:s.heap.objs.size<=D)(P:s.heap.objs.size<=C)(O:s.heap.objs.size<=c)(w:D≠C)(p:c≠D)(i:c≠C)(k:∀b o,s.heap.get? b=Z o->h'.get? b=Z o)(Q:h'.Ns C m)(L:∃n,h'.get? D=Z {cls:=.type "list",data:=.seq ([]:List Value).toArray n})(f:h'.get? c=Z {cls:=.type "cell",data:=.cell Y}):
  Inv #[107] y3 #[47] #[50] {s with heap:=h',toks:=tk}:=by
 have g:∀{y d},[(x,c)].lookup y=Z d->y=x/\d=c:=λ{y d} e=>by
  cases a:y==x with
  | true=>simp only[jd,a]at e;exact⟨by simpa using a,(Option.some.inj e).symm⟩
  | false=>simp[jd,a]at e
 exact Hm (own:=[(x,c)]) (fn:=λy=>y==x) I S.kind S.free S.len S.at_ (λy a=>⟨c,by simp[show y=x from S.only _ a rfl]⟩) (λy a=>by simp[jd,beq_false_of_ne (S.nofree _ a rfl)]) (λy h=>⟨c,by simp[show y=x from beq_iff_eq.mp h]⟩) (λy z d h M=>(g h).1.trans (g M).1.symm) (λy d h=>by obtain⟨_,rfl⟩:=g h;exact⟨O,p,i,f⟩) l W j P w k Q L
def agK{M:Model}{r:List #[156]}{Q:Qg->Qz->Prop}(g:∀n r,cellsFrom n scope.names r=(x,n)::r)(c:∀h,pushCells h scope.names=h.push {cls:=.type "cell",data:=.cell Y})(h:Q {scope,locals:=s.heap.objs.size,globals,cells:=(x,s.heap.objs.size+1)::r,qual,func:=Y,code:=env.code,frame:=env.frame,builtins:=env.builtins}
   {s with heap:=#[41].push {cls:=.type "cell",data:=.cell Y} }):
  wpAny M A (newFunctionEnv scope globals r [] qual Y .none (Z env)) Q E s:=by
 simp only[newFunctionEnv,Zl,if_true];refine WI (wpAny_alloc ?_);refine WI (wpAny_layCells _ (λa d F=>by cases b:d==NameKind.cell<;>simp[b]) _ _ _ _ ?_);rw[g,c,show({s with heap:=s.heap.push {cls:=.type "dict",data:=.dict #[]} }:Qz).heap.objs.size=s.heap.objs.size+1 from jc ..];exact WI (Wv (Wv h))
variable{J:It}{tn:Nat->Heap->Prop}{g:TG}
def aa9(O:X.calm=true)(S:oA X.N X.env.scope N ix scope x)(m:∀fp s H C c,PG #[107] tg g)(R:∀fp s H C c,PE #[107] elt te):IE X elt tg iter [] scope pos ix g tc0 te:=by
 intro y3 σ H s J fp it tn Qd M E I T st F u Q;refine Wm (agK S.lay S.lays ?_);dsimp only;generalize a:s.heap.push {cls:=.type "list",dict:=Y,data:=.seq ([]:List Value).toArray}=H2;have P:H2.objs.size=s.heap.objs.size+1:=by rw[<-a,jc]
 generalize d:H2.push {cls:=.type "dict",data:=.dict #[]}=H3;have r:H3.objs.size=H2.objs.size+1:=by rw[<-d,jc]
 generalize h:H3.push {cls:=.type "cell",data:=.cell Y}=j;have w:s.heap.objs.size≠H2.objs.size:=by rw[P];exact jM (JK _)
 have l:s.heap.objs.size<=H2.objs.size:=by rw[P];exact JE _
 have t:s.heap.objs.size<=H2.objs.size+1:=Nat.le_succ_of_le l;have up:∀b o,H2.get? b=Z o->j.get? b=Z o:=λb o e=>by rw[<-h,<-d];exact jA _ (jA _ e)
 have old:∀b o,s.heap.get? b=Z o->j.get? b=Z o:=λb o e=>up b o (a▸jA _ e);have K:∃n,j.get? s.heap.objs.size=Z {cls:=.type "list",data:=.seq ([]:List Value).toArray n}:=⟨_,up _ _ (a▸jF _ rfl)⟩;have q:j.Ns H2.objs.size (λ_=>Y):=by rw[<-h,<-d];exact(Heap.Ns.new H2 #[124]).keeps λb o e=>jA _ e
 have f:j.get? (H2.objs.size+1)=Z {cls:=.type "cell",data:=.cell Y}:=by rw[<-h,<-r];exact jF _ rfl
 have k:=T.obj _ _ st;have p:H2.objs.size+1≠s.heap.objs.size:=by rw[P];exact JW (Jl (JK _))
 have i:H2.objs.size+1≠H2.objs.size:=Nat.succ_ne_self _;have y:Inv (pE X N scope x fp s H H2.objs.size (H2.objs.size+1)) y3 #[47] (upd H s.heap.objs.size #[188]) {s with heap:=j}:=
  Tr (tk:=s.toks) I S F k (jD _) l t w p i old q K f
 exact Po (N:=N) I O T F k P u Q y (T.keep _ _ _ st λb _ o e=>old b o e) (m _ _ _ _ _) PTs.no (R _ _ _ _ _)
def aeg(O:X.calm=true)(S:oA X.N X.env.scope N ix scope x)(W:PI X tg iter wi)(m:∀fp s H C c,PG #[107] tg g)(R:∀fp s H C c,PE #[107] elt te)(hs:∀x,foldedSetIterable iter X.env x=pure x:=by intro _;rfl):PE X #[94] (ae3 ix wi g te):=
 IE.pe (aa9 O S m R) S.kind S.locs S.aZ W hs
def aem(a:N.Nodup)(W:N[i]?=Z x)(J:scope.names.lookup x=Z .cell):PG #[107] #[175] (aP i):=
 aao (X:=pE X N scope x fp s H C c) a W (.inr (sN J)) (.inl (by show(x==x)=true;simp))
end
def aa8{a:QX}(d:QX->Nat->List V->Hp->Prop)(I:∀D,H D=Y->d D 0 [] #[50])(L:∀D i ys H',i<=kvs.length->d D i ys H'->H' a=Z #[129])(hs:∀D i p ys H' (F:VK),H D=Y->kvs[i]?=Z p->H' D=Z #[76]->d D i ys H'->#[7] ->
   te (#[47].set 0 (Z (kV p.1))) H' F)(j:∀D ys H',H D=Y->H' D=Z #[76]->d D kvs.length ys H'->Qd D H'):Bz (Itd a o kvs) ix (aP 0) te σ H Qd:=by
 intro D X;refine⟨λi m O H'=>m=kvs.length-i/\i<=kvs.length/\#[83]/\∃ys,H' D=Z #[76]/\d D i ys H',⟨kvs.length,by simp,je _,.inl rfl,[],ae,I D X⟩,?_⟩;exists 6;have q:=L D i ys H' W p;by_cases f:i<kvs.length
 ·refine .inr ⟨⟨f,q⟩,λx G y=>?_⟩;obtain⟨T,g⟩:=y;subst T;have ex:=g kvs[i] (jE f);subst ex;have r:O.set 0 (Z (kV (kvs[i]).1))=#[47].set 0 (Z (kV (kvs[i]).1)):=by
   exists 30
   ·rw[z]
   ·rw[z,Jp]
  show te (O.set 0 (Z (kV (kvs[i]).1))) _ _;rw[r];refine hs D i kvs[i] ys _ _ X (jE f) N p λy B k C h=>⟨ys,k,C,kvs.length-(i+1),by omega,U,f,.inr ⟨_,U⟩,ys++[y],ae,h⟩
 ·have e:i=kvs.length:=by omega
  subst e;exact .inl ⟨⟨jD _,q⟩,j D ys H' X N p⟩
end L2
namespace PySem
open PyProof.Rows
variable{prog:Qv}{w:World}{K:Type}{A:Around}{E Q:Value→Qz→Prop}{s:Qz}{h h':Heap}{a D l:QX}{ts:List QX}{c:Nat}
section
variable[DecidableEq K]{knd:KeyKind prog w K}
def IsTupleKey.there{ks:List K}(x:Qo knd h ks a)(k:∀o,h.get? a=Z o->h'.get? a=Z o):Qo knd h' ks a:=let ⟨o,it,n,ho,r⟩:=x;⟨o,it,n,k _ ho,r⟩
def K9(knd:KeyKind prog w K)(h:Heap)(ts:List QX)(ps:List #[150]):Prop:=∀(j:Nat) (t:QX) (p:List K×QX×Value),ts[j]?=Z t->ps[j]?=Z p->Qo knd h p.1 p.2.1/\Qm h t #[.ref p.2.1,p.2.2]
def N7(xs ps:List #[150]):List #[150]:=ps.foldl (λo4 p=>storedH o4 p.1 p.2.1 p.2.2) xs
def acT{xs:List #[150]}(x:h.DictOfH (qv knd) D xs)(X:∀o,h.get? D=Z o->h'.get? D=Z o)(C:∀p∈xs,∀o,h.get? p.2.1=Z o->h'.get? p.2.1=Z o):h'.DictOfH (qv knd) D xs:=by obtain⟨o,r,i,V,O,j,R,a,c⟩:=x;exact⟨o,r,i,X _ V,O,j,R,λp b=>IsTupleKey.there (a p b) (C p b),c⟩
def RX(xs:List #[150])(k:List K)(a:QX)(v:Value):(storedH xs k a v).length<=xs.length+1:=by
 unfold storedH;split
 ·rw[jQ];omega
 ·rw[jG];exact jD _
def C4{ps:List #[150]}(R:A.units+2<cLine)(H:A.handled=Y)(u:s.heap.get? l=Z {cls:=.type "list",dict:=Y,data:=.seq #[182].toArray c,slots:=#[]})(L:ts.length=ps.length)(e:K9 knd s.heap ts ps)(hz:ps.length<=sizeLine)(g:∀h' tk,#[44]->h'.DictOfH (qv knd) s.heap.objs.size (N7 [] ps)->Q #[23] {s with heap:=h',toks:=tk}):
  wpAny #[5] A (call #[124] [.ref l]) Q E s:=
 DU (α:=List K×QX×Value) (Ds:=λh P=>h.DictOfH (qv knd) s.heap.objs.size P) (Ky:=λh p k=>k=.ref p.2.1/\Qo knd h p.1 p.2.1) (val:=λp=>p.2.2) (put:=λP p=>storedH P p.1 p.2.1 p.2.2)
  ⟨λ{h h' P} x X C=>by
   obtain⟨_,_,_,_,_,_,_,a,_⟩:=id x;refine acT x X λp D o q=>?_;obtain⟨f,_,_,V,O,_⟩:=a p D;rw[V]at q;cases q;exact C _ _ V O,λ{h P} x=>by
   obtain⟨o,_,_,G,M,_⟩:=x;exact⟨o,G,M.1⟩,λ{h h' p k} x C=>⟨x.1,by
   obtain⟨o,N,n,V,O,r⟩:=x.2;exact⟨o,N,n,C _ _ V O,O,r⟩⟩,λ{s P p k Q E} C X hz q=>by
   obtain⟨rfl,C⟩:=C;exact WQ (knd:=qv knd) (k:=p.1) (by exact R) C X (λM T d=>q M _ T λb o B z=>d.extBut b o B z) (JL hz),λP p=>RX P p.1 p.2.1 p.2.2⟩ H u L (λj t p G M=>⟨_,⟨U,(e j t p G M).1⟩,(e j t p G M).2⟩) hz (gK s.heap) g
end
end PySem
namespace L2
open PySem PySem.Spec PyProof.Rows
variable{X:Cx}{P:Qv}{w:World}{H:Hp}{A:Around}
section
def So(H:Hp):List QX->List #[98]->Prop:=Qs λt p=>∃b,H t=Z (.tup [.ref b,p.2])/\H b=Z (.tup (p.1.map kV))
theorem Eb:∀{kvs:List #[98]} {x:List QX} {H:Hp} {h:Heap},So H x kvs->fq P w H h->∃ps:List #[71],KT H kvs ps/\ps.length=x.length/\K9 (bx P w) h x ps
 |[],[],_,_,.nil,_=>⟨[],.nil,rfl,λj t p h=>by simp at h⟩
 | _,_,_,_,.cons (a:=a) (b:=p) (l₁:=x) (l₂:=kvs) q t,ok=>by
  obtain⟨ps,F,i,A⟩:=Eb t ok;obtain⟨b,r,c⟩:=q;obtain⟨z,e,f,d⟩:=ok a _ r;obtain⟨u,v,rfl,m,C⟩:=Vals.two f;cases(show u=YX b from m);refine⟨(p.1,b,v)::ps,.cons ⟨U,c,C⟩ F,by simp[i],λj l n G M=>?_⟩;cases j with
  | zero=>
   simp at G M;subst G M;exact⟨Bf ok c,by simpa using d⟩
  | succ j=>exact A j l n #[161] #[160]
def mB(o4 kvs:List #[98]):List #[98]:=kvs.foldl (λa p=>putK a p.1 p.2) o4
theorem pY:∀(kvs P:List #[98]),(mB P kvs).length<=P.length+kvs.length
 |[],P=>jD _
 | p::kvs,P=>by have G:=pY kvs (putK P p.1 p.2);have M:=mi P p.1 p.2;show(mB (putK P p.1 p.2) kvs).length<=_;rw[jX];omega
theorem KT.merge:∀{kvs:List #[98]} {ps:List #[71]} {P:List #[98]} {xs:List #[71]},KT H kvs ps->KT H P xs->KT H (mB P kvs) (N7 xs ps)
 |[],[],_,_,.nil,r=>r
 | p::kvs,q::ps,P,xs,.cons h t,r=>by obtain⟨e,B,f⟩:=h;have s:=r.put p.1 B f;rw[e]at s;have i:=KT.merge t s;show KT H (mB (putK P p.1 p.2) kvs) (N7 (storedH xs q.1 q.2.1 q.2.2) ps);rw[e];exact i
inductive aeF (xs:List V) (H:Hp) (Q:VK):Prop
 | mk (l:_) (ts:_) (kvs:_) (_:xs=[.ref l]) (_:H l=Z (.lst #[168])) (_:So H ts kvs) (_:∀D,H D=Y->Q #[81] (upd H D (.dT (mB [] kvs))))
def MJ(O:X.calm=true)(R:X.A.units+2<cLine):hX X #[124] aeF:=by
 intro x s C H E K Q I r h;obtain⟨l,N,B,rfl,L,D,q⟩:=h;obtain⟨u,rfl,a⟩:=vals1 r;cases a;obtain⟨z,T,n,f,g,e⟩:=I.EC L;have v:=Aq f;subst v;obtain⟨ps,F,i,b⟩:=Eb D I.hok;have S:B.length=ps.length:=Paired.length F;have d:ps.length<=sizeLine:=by rw[i];rw[jQ]at z;exact z
 refine C4 (knd:=bx X.prog X.w) R #[123] e i.symm b d λy tk j dd=>?_;have t:bp X.prog X.w (upd H s.heap.objs.size (.dT (mB [] B))) y s.heap.objs.size (.dT (mB [] B)):=by
  obtain⟨o,k,m,G,M,J,p,_,V⟩:=dd;refine⟨?_,beq_eq_false_iff_ne.mpr (Ne.symm (jM I.big)),_,(KT.merge F .nil).keeps λc W P=>?_,o,k,m,G,M,J,p,V⟩
  ·have:=pY B [];simp only[Jc]at this;omega
  ·rw[ag (ak P #[60])];exact P
 exact⟨.ref _,_,I.laid (t':=tk) j (jD _) t,U,q _ #[60]⟩
end
def Tp{k:Nat}(S:cL k A):A.units+2<cLine:=by have:=S.un;omega
end L2
namespace PySem
variable{prog:Qv}{w:World}{A:Around}{E:Value→Qz→Prop}{s:Qz}{d it:QX}{es:Array Qc}{ep:Nat}{Q:Option Value→Qz→Prop}
section
def Fx(h:Heap)(d:QX)(es:Array Qc)(ep:Nat):Prop:=∃o,h.get? d=Z o/\o.ExactDict/\o.data=.dict es ep
def Fx.ty(x:Fx s.heap d es ep):s.TypeIs (.ref d) "dict" :=let ⟨o,h1,h2,_⟩:=x;⟨o,h1,h2.1⟩
def Fx.to{h h':Heap}(x:Fx h d es ep)(k:∀o,h.get? d=Z o->h'.get? d=Z o):Fx h' d es ep:=let ⟨o,h1,r,r1⟩:=x;⟨o,k _ h1,r,r1⟩
def Q4{Q:Value->Qz->Prop}(lo:(d==qu)=false)(x:Fx s.heap d es ep)(q:Q #[23] {s with heap:=s.heap.push {cls:=.type "dict_keyiterator",data:=.fields #[.ref d,.int 0 0,.int es.size 0,.int ep 0]} }):wpAny #[5] A (pyIter (.ref d)) Q E s:=by have ty:=x.ty;obtain⟨t,D,v,V⟩:=x;refine Wz ty xX (WL xX ty F.entry_dict_iter ?_ (F.args_dict_iter_1 _));unfold Builtin.«dict.__iter__» GL;refine WI (WI (Wq ty ?_));show wpAny _ _ (pure (YX d)) _ _ s;refine Wv ?_;show wpAny _ _ (Xj d>>=_) _ _ s;unfold Xj;rw[if_neg (λz=>by rw[lo]at z;cases z)];refine WI (Wv (WI (WN D V (WI (WO D V ?_)))));refine WI (Wm (Wv ⟨_,U,"dict_keyiterator",_,⟨_,jF _ rfl,rfl⟩,F.slot_dict_keyiterator_next.lookup,?_⟩));simpa[rawInt]using q
def Rf{i:Nat}(y:s.heap.IsKeyIter it d i es.size ep)(x:Fx s.heap d es ep)(W:i<es.size)(q:∀h',h'.IsKeyIter it d (i+1) es.size ep->Yf it s.heap h'->Q (Z es[i].key) {s with heap:=h'}):wpAny #[5] A (pyNext #[148]) Q E s:=by
 have ty:=y.typeIs;obtain⟨f,p,n,c⟩:=id y;obtain⟨t,D,v,V⟩:=x;unfold pyNext;refine WI (WH (WK (name:=Str.ofString "__next__") ty yE (WL yE ty yw ?_ (yq _))));refine WI (Wv (WI (WI ?_)));exists 14;refine WI (WV p c ?_);have e:XC "dict_keyiterator" = false:=by decide
 simp only[e,jw,if_false];show wpAny _ _ (if (YX d==Yc)=true then _ else _) _ _ s;rw[if_neg #[0]];refine WI (Wv (WI (WN D V ?_)));exists 31;refine WI (Wv (WI (WO D V ?_)));exists 31;refine Wv ?_;simp only[show ¬ ((i:Int)<0)from by omega,if_false,jN,jx W];exists 34;exists 14;refine WI (Wb ty ?_);show wpAny _ _ (setField #[148] 1 (rawInt ((i:Int)+1))>>=_) _ _ s;refine WI (YH p c #[8] ?_);have P:(s.heap.update it #[34]).IsKeyIter it d (i+1) es.size ep:=⟨_,jk _ p (Obj.isFreed_of_fields (Obj.data_mapFields c _)),(Obj.cls_mapFields ..).trans n,by rw[Obj.data_mapFields c];simp[rawInt]⟩;refine WI (WZ (WI (Wb (s:={s with heap:=s.heap.update it #[34]}) P.typeIs ?_)));show wpAny _ _ (pure es[i].key) _ _ _;exact Wv (Wv ⟨_,U,Wv (q _ P (Yg ..))⟩)
def Y6(H:A.handled=Y)(y:s.heap.IsKeyIter it d es.size es.size ep)(x:Fx s.heap d es ep)(q:∀h',yV it s.heap h'->Q Y {s with heap:=h'}):wpAny #[5] A (pyNext #[148]) Q E s:=by
 have ty:=y.typeIs;obtain⟨f,p,n,c⟩:=id y;obtain⟨t,D,v,V⟩:=x;unfold pyNext;refine WI (WH (WK (name:=Str.ofString "__next__") ty yE (WL yE ty yw ?_ (yq _))));refine WI (Wv (WI (WI ?_)));exists 14;refine WI (WV p c ?_);have e:XC "dict_keyiterator" = false:=by decide
 simp only[e,jw,if_false];show wpAny _ _ (if (YX d==Yc)=true then _ else _) _ _ s;rw[if_neg #[0]];refine WI (Wv (WI (WN D V ?_)));exists 31;refine WI (Wv (WI (WO D V ?_)));exists 31;refine Wv ?_;simp only[show ¬ ((es.size:Int)<0)from by omega,if_false,jN,zU (jD es.size)];exists 34;exists 14;show wpAny _ _ (setField #[148] 0 .none>>=_) _ _ s;refine WI (YH p c #[8] ?_);show wpAny _ _ (newExc (.type "StopIteration") []>>=_) _ _ _;exists 34;simp only[newExc,newTuple];refine WI (Wm (WI (m:=firstArgMember _ _) (Wr (a:=Yc) (by first|rfl|(simp only[firstArgMember];rfl)) (Wm ?_ #[170]))) #[170]);simp only[raiseNew];refine WI (WY ?_);rw[show A.in1.handled=Y from H];refine(WI (Wv (YO ?fin)));refine(WI (Wa (T:="StopIteration") (b:=true) ⟨_,(jF _ rfl),rfl⟩ qU ?_));exact Wv (q _ (((Yg ..).extBut.push _).push _))
theorem acj(H:A.handled=Y)(I d:QX)(G:d≠I)(es:Array Qc)(ep:Nat):
  Walks prog w A I [I,d] [I] es.size (λi v=>∃W:i<es.size,v=es[i].key) (λi h=>h.IsKeyIter I d i es.size ep/\Fx h d es ep) where
 sub:=λb B=>by simp at B;simp[B]
 frame:=λ_ _ _ st C=>⟨st.1.at λo e=>C I #[8] o e,st.2.to λo e=>C d #[8] o e⟩
 item:=λi s Q E W st g=>Rf st.1 st.2 W λy P K=>g _ y s.toks ⟨W,rfl⟩ ⟨P,st.2.to λo e=>K.extBut d o G e⟩ λb o B e=>K.extBut b o (λh=>B (by simp[h])) e
 done:=λs Q E st g=>Y6 H st.1 st.2 λy R=>g y s.toks λb o B e=>R b o (λh=>B (by simp[h])) e
 self:=λ_ _ _ _ st g=>wpAny_pyIter_keyiter st.1 g
end
theorem PySem.W.agB(lo:(d==qu)=false):PySem.W.KdlSrc prog w "dict" d d es.size (λi v=>∃b:i<es.size,v=es[i].key) (λh=>Fx h d es ep) where
 type:=λ_ x=>x.ty
 there:=λ_ x=>let ⟨_,h1,_,_⟩:=x;⟨jI h1,jI h1⟩
 keep:=λ_ _ x C=>x.to λo e=>C d #[93] o e
 notList:=by decide
 notTuple:=by decide
 hint:=λ_ _ _ _ x a=>PySem.W.kdl_hint_dict x.ty a
 iter:=λ_ s H x=>⟨_,_,(λ_ _ q=>Q4 lo x q),acj H _ d (let ⟨_,h1,_,_⟩:=x;jM (jI h1)) es ep,⟨⟨_,jF _ rfl,rfl,rfl⟩,x.to λo e=>jA _ e⟩⟩
end PySem
namespace L2
open PySem PySem.Spec PyProof.Rows
variable{X:Cx}{H:Hp}{K:YW}{a f d:QX}{xs:List V}{ix:List (Option Nat)}{te tl:TE}{σ:St}{Qd:QX→Hp→Prop}{P prog:Qv}{w:World}{mg:Str→Option Value}{base:Heap}{CX:OM}{fd:Qh}{y3:List (QX×Obj)}{s:Qz}{tg:Expr}{o:Obj}{kvs:List (List Key×V)}{A:Around}{E:Value→Qz→Prop}
section
def X6(H:Hp):List QX->List #[98]->Prop:=Qs λb p=>H b=Z (.tup (p.1.map kV))
theorem KT.keys:∀{kvs:List #[98]} {xs:List #[71]},KT H kvs xs->X6 H (xs.map λq=>q.2.1) kvs
 |[],[],.nil=>.nil
 | _::_,_::_,.cons h t=>.cons h.2.1 (KT.keys t)
inductive akI (xs:List V) (H:Hp) (Q:VK):Prop
 | mk (p:_) (kvs:_) (_:xs=[.ref p]) (_:H p=Z (.dT kvs)) (_:∀l bs,H l=Y->X6 H bs kvs->Q #[181] (upd H l (.lst (bs.map V.ref))))
def SM(O:X.calm=true):hX X (.type "list") akI:=by
 intro y3 s σ H xs v Q I r h;obtain⟨p,kvs,rfl,D,q⟩:=h;exists 11;cases F;obtain⟨C,lo,xs,T,o,c,i,G,M,J,k,x⟩:=(show bp X.prog X.w H s.heap p (.dT kvs)from I.hok p _ D);have S:kvs.length=xs.length:=Paired.length T;have sz:c.size=xs.length:=by have:=congrArg Jg k;rw[jQ]at this;exists 33
 refine xW (PySem.W.agB (es:=c) (ep:=i) lo) #[123] ⟨o,G,M,J⟩ (by rw[sz,<-S];exact C) λy tk P B d e K=>?_;have L:P.toList=(xs.map λq=>q.2.1).map YX:=by
  refine Zr λj=>?_;rcases zC j c.size with f|f
  ·have a:j<P.size:=by rw[K.1];exact f
   obtain⟨z,N⟩:=K.2 j P[j] (jx a);have g:c[j]=entryOfKey (qv #[154]) (xs[j]'(by rw[<-sz];exact f)):=by have:=congrArg (λl=>l[j]?) k;simp only[JV,jU]at this;rw[jx f,jE (by rw[<-sz];exact f)]at this;exact Option.some.inj this
   rw[JV,jx a,N,g,jU,jU,jE (by rw[<-sz];exact f)];rfl
  ·rw[JO (by rw[jg,K.1];exact f),JO (by rw[jQ,jQ,<-sz];exact f)]
 have m:∀bs:List QX,Vals (bs.map V.ref) (bs.map YX):=λbs=>by
  induction bs with
  | nil=>exact .nil
  | cons b bs n=>exact .cons rfl n
 have t:bp X.prog X.w (upd H s.heap.objs.size (.lst ((xs.map λq=>q.2.1).map V.ref))) y s.heap.objs.size (.lst ((xs.map λq=>q.2.1).map V.ref)):=by refine⟨by rw[jQ,jQ,<-S];exact C,P.toList,B,by rw[L];exact m _,?_⟩;rw[zh];exact e
 exact⟨.ref _,_,I.laid (t':=tk) d (jD _) t,U,q _ _ #[60] (KT.keys T)⟩
end
def SV{g:TG}(d:QX->Nat->List V->Hp->Prop)(m:∀(T:QX) (σ:St) (H:Hp) (Q:St->Hp->Prop) (i:Int) (x:V),H T=Z #[112]->Q ((σ.set 0 (Z (.int i))).set 1 (Z x)) H->g #[164] σ H Q)(I:∀D,H D=Y->d D 0 [] #[50])(L:∀D i ys H',i<=xs.length->d D i ys H'->mw K H' a xs)(hs:∀D i x ys H' T (F:VK),H D=Y->xs[i]?=Z x->H' D=Z #[76]->d D i ys H'->H' T=Y->#[7] ->
   te ((#[47].set 0 (Z (.int i))).set 1 (Z x)) (upd H' T #[112]) F)(j:∀D ys H',H D=Y->H' D=Z #[76]->d D xs.length ys H'->Qd D H'):Bz (acA K a) ix g te σ H Qd:=by
 refine SU (n:=xs.length) (item:=λi=>xs.getD i .non) d m I (λD i ys H' W p=>?_) (λD ys H' p=>⟨xs,L D _ ys H' (jD _) p,jD _⟩) (λD i ys H' T F X W N p r k=>?_) j
 ·have q:=L D i ys H' (JL W) p;refine⟨⟨xs,xs[i],q,jE W⟩,λx G y=>?_⟩;obtain⟨T,w,rfl,r,rfl,y⟩:=y;have e:=y xs q;exists T,rfl,r;show _=upd H' T (.tup [.int i,xs.getD i .non]);rw[jf,e];rfl
 ·have e:xs.getD i .non=xs[i]:=by rw[jf,jE W];rfl
  show te ((#[47].set 0 (Z (.int i))).set 1 (Z (xs.getD i .non))) (upd H' T (.tup [.int i,xs.getD i .non])) F;rw[e];exact hs D i xs[i] ys H' T F X (jE W) N p r k
def aR.or{k:Nat}{ps:List Str}{sp a:Sp}(F:aR P w K mg base CX k f fd ps sp)(b:aR P w K mg base CX k f fd ps a):
  aR P w K mg base CX k f fd ps (λvs H Q E=>sp vs H Q E\/a vs H Q E):=
 ⟨λvs H Q E q=>q.elim (F.len vs H Q E) (b.len vs H Q E),λA I s H i S vs Q E c R B M hs=>hs.elim (F.run A I s H i S vs Q E c R B M) (b.run A I s H i S vs Q E c R B M)⟩
theorem lJ{α c:Type}{F:α->c->Prop}:∀{xs:List α} {ys:List c} {j:Nat} (h1:j<xs.length) (M:j<ys.length),Qs F xs ys->F xs[j] ys[j]
 | _,_,j,h1,_,.nil=>absurd h1 (Jd _)
 | _,_,0,_,_,.cons a _=>a
 | _,_,j+1,h1,M,.cons _ t=>lJ (j:=j) (by simpa using h1) #[160] t
def ag9(K:YW){l:Expr}(L:PE X l tl)(h:X.K=K:=by rfl):PI X tg l (anN K tl):=by subst h;exact eS L
section
open Classical in
noncomputable def isR(H:Hp)(ns:List Int)(u:Value):Bool:=decide (∃b,u=YX b/\H b=Z (.tup #[67]))
end
def ab7{u r:Value}{Q:PUnit->Qz->Prop}(h:wpAny #[5] A (dictSet d u r) (λ_ c=>Q PUnit.unit c) E s):wpAny #[5] A (storeAll d [(u,r)]) Q E s:=by unfold storeAll;simp only[zJ,zr];exact WI (WI (Wj h (λ_ c q=>Wv (Wv q)) λ_ _ e=>e))
end L2
namespace PySem
variable{prog:Qv}{w:World}{A:Around}{E Q:Value→Qz→Prop}{s:Qz}{d:QX}{n:Nat}
def J3(d:QX)(n:Nat)(j:(d==qu)=false):
  MeetsIn prog w (Builtin.«dict.__len__» {pos:=[YX d]}) λ_ R s=>(∃o es ep,s.heap.get? d=Z o/\o.data=Data.dict es ep/\es.size=n)/\R (.ok (.ret (Yj (n:Int) s.toks))) {s with toks:=s.toks+1}:=
 MeetsIn.of_wp λA R s ⟨⟨o,es,ep,G,M,J⟩,h⟩=>by
  show wpAny #[5] A.in1 (do
   let a <-dictSize d
   let O <-GN d
   retInt ((a:Int)+(O:Int))) _ _ _
  refine WI (WI (WN G M (Wv (WI (wpAny_pendingCount_other j (YE ?_))))));rw[Nat.add_zero,J];exact h
def agF(j:(d==qu)=false)(ty:s.TypeIs (.ref d) "dict")(J:∃o es ep,s.heap.get? d=Z o/\o.data=Data.dict es ep/\es.size=n)(a:(n:Int)<2^63)(h:Q (Yj (n:Int) (s.toks+1)) {s with toks:=s.toks+1+1}):
  wpAny #[5] A (call (Yq "len") [YX d]) Q E s:=by
 refine XM kind_len plain_len entry_len (args_len1 (YX d)) ?_;show wpAny _ _ _ _ _ _;refine WI (Wv (WI (WK ty xn (qI xn ty F.entry_dict_len (F.args_dict_len_1 _) (J3 d n j) ⟨J,?_⟩))));show wpAny _ _ _ _ _ _;refine WI (WZ (Wv (WI (We ?_))));show wpAny _ _ (if _ then _ else _) _ _ _;rw[if_neg #[2]];show wpAny _ _ (if _ then _ else _) _ _ _;rw[if_neg #[2]];exact WI (wpAny_mkInt (Wv ⟨_,U,h⟩))
end PySem
namespace L2
open PySem PySem.Spec PyProof.Rows
end L2
namespace PySem
variable{prog:Qv}{w:World}{A:Around}{E:Value→Qz→Prop}{s:Qz}{n m:Nat}{a:QX}{o:Obj}{items:Array Value}{i:Int}
section
def L7{Q:Bool->Qz->Prop}(b:s.TypeIs #[72] "tuple")(V:s.heap.get? a=Z o)(j:o.data=.seq items m)(W:∀y∈items.toList,∀Q:Bool->Qz->Prop,Q true s->wpAny #[5] A (eqIsQuiet n y) Q E s)(h:Q true s):wpAny #[5] A (eqIsQuiet (n+1) #[72]) Q E s:=by
 rw[eqIsQuiet.eq_def];refine WI (YL b F.slot_tuple_eq.lookup ?_);refine WI (Wa b isSubtype_tuple_tuple ?_);simp only[Zb,jw,if_false];refine WI (YG V j ?_);exists 34;show wpAny _ _ (forIn items _ _) _ _ _;rw[<-Zm];refine wpAny_forIn_list _ (λrest r c=>r.fst=Y/\c=s/\∀y∈rest,y∈items.toList) _ ?_ ?_ _ _ ⟨U,U,λy N=>N⟩
 ·rintro v rest ⟨d,i⟩ c ⟨S,rfl,p⟩;refine WI (W v (p v jC) _ ?_);simp only[Zb,jw,if_false];exact Wv ⟨U,U,λy N=>p y (jJ _ N)⟩
 ·rintro⟨d,i⟩ c ⟨S,rfl,_⟩;cases(show d=Y from S);exact Wv h
def X0{Q:Int->Qz->Prop}(h:Q (reduceHash i) s):wpAny #[5] A (pyHashByItsType.reduced i) Q E s:=by
 unfold pyHashByItsType.reduced;unfold reduceHash at h;by_cases c:(decide (-2^63<=i)&&decide (i<2^63))=true
 ·rw[if_pos c];rw[if_pos c]at h;exact Wv h
 ·rw[if_neg c];rw[if_neg c]at h;exact WI (YF (Wv h))
end
end PySem
namespace L2
open PySem PySem.Spec PyProof.Rows
variable{P:Qv}{w:World}{h:Heap}{c a d C:QX}{aN:List Value}{ns:List Int}{xs ys:Array Value}{o:Obj}{es:Array Qc}{ep n i:Nat}{A:Around}{E:Value→Qz→Prop}{s:Qz}{y:Value}{X:Cx}{y3:List (QX×Obj)}{σ:St}{H:Hp}{pos:Pos}{x:Str}{eN:List V}{sp:Sp}{e:Expr}{t:TA}{st b₀:Stmt}{body ae0:List Stmt}{ts:TS}
theorem Q3:∀{ns:List Int} {aN:List Value},Qj aN ns->PySem.ItemsAre (qS P w) ns aN
 | _,_,.nil=>.nil
 | _,_,.cons n t r=>.cons (intKind_is P w n t) (Q3 r)
def Ft(h:Heap)(k:Int×List Int)(a:QX):Prop:=∃(t:Tok) (c:QX) (aN:List Value),h.IsTuple a #[.int k.1 t,.ref c]/\h.IsTuple c aN.toArray/\Qj aN k.2
def Ft.tk(p:h.IsTuple c aN.toArray)(q:Qj aN ns):Qo (qS P w) h ns c:=by obtain⟨o,G,M,n,J⟩:=p;exact⟨o,aN.toArray,n,G,M,J,by simpa using Q3 q⟩
def DM(p:h.IsTuple a xs)(q:h.IsTuple a ys):xs=ys:=by obtain⟨o,G,_,n,J⟩:=p;obtain⟨r,O,_,F,b⟩:=q;rw[G]at O;cases O;rw[J]at b;cases b;rfl
def Ef{h':Heap}(p:h.IsTuple a xs)(V:h.get? d=Z o)(j:o.data=Data.dict es ep)(hs:Yf d h h'):h'.IsTuple a xs:=by
 obtain⟨r,G,M,n,J⟩:=p;have b:a≠d:=λz=>by subst z;rw[G]at V;cases V;rw[J]at j;cases j
 exact⟨r,(hs.2 a b).trans G,M,n,J⟩
theorem Q1:∀{aN:List Value} {ns ms:List Int},Qj aN ns->Qj aN ms->ns=ms
 | _,_,_,.nil,.nil=>rfl
 | _,_,_,.cons n t r,.cons _ _ D=>by rw[Q1 r D]
def adu(h:Qj aN ns):∀y∈aN,carriedByValue y=true:=by
 induction h with
 | nil=>intro y N;cases N
 | cons n t r K=>
  intro y N;rcases jL.mp N with rfl|z
  ·rfl
  ·exact K y z
def ab1(N:carriedByValue y=true)(Q:Bool->Qz->Prop)(h:Q true s):wpAny #[42] A (eqIsQuiet n y) Q E s:=by rw[eqIsQuiet_byValue n N];exact Wv h
abbrev NK:=Int×List Int
def BC(x C d:QX)(h:Heap):Prop:=∃(o:Obj) (vs:Array Value),h.get? x=Z o/\o.cls=.ref C/\o.dict=Z d/\o.data=.fields vs
def BC.at{x:QX}(z:BC x C d h):afF x C h:=let ⟨o,vs,a,b,_,c⟩:=z;⟨o,vs,a,b,c⟩
def fq.amK{ea:QX}(x:fq P w H h)(z:H ea=Zv)(p:BC ea C d h):fq P w (upd H ea (.ext (BC ea C d))) h:=by
 intro a u e;by_cases q:a=ea
 ·subst q;rw[ae]at e;cases e;obtain⟨t,n,T,g,j,c⟩:=p;exists ⟨t,n,T,g,j,c⟩,⟨t,T⟩;rintro G M ⟨i,l,L,F,m,D⟩ k;exact⟨i,l,k _ L,F,m,D⟩
 ·rw[ag q]at e;exact(x a u e).Ae (λb v _ f=>f) (λb f=>by rw[ag (ak f z)];exact f) λb xs f=>by rw[ag (ak f z)];exact f
section
def aiH(X:Cx)(y3:List #[51])(σ:St)(E:XK)(e:Value)(s':Qz):Prop:=∃s H,Inv X y3 σ H s/\IG X.prog X.w X.stack H s E e s'
def ams(X:Cx)(e:Expr)(t:TXE):Prop:=∀(y3:List #[51]) (s:Qz) (σ:St) (H:Hp) (Q:VK) (E:XK),Inv X y3 σ H s->t σ H Q E->wpAny #[4] X.A (eval e X.env) #[90] (aiH X y3 σ E) s
def amr(X:Cx)(st:Stmt)(t:TX):Prop:=∀(y3:List #[51]) (s:Qz) (σ:St) (H:Hp) (D:Ends) (E:XK),Inv X y3 σ H s->t D E σ H->wpAny #[4] X.A (exec st X.env) (SP X y3 D) (aiH X y3 σ E) s
def PX2(X:Cx)(st:List Stmt)(t:TX):Prop:=∀(y3:List #[51]) (s:Qz) (σ:St) (H:Hp) (D:Ends) (E:XK),Inv X y3 σ H s->t D E σ H->wpAny #[4] X.A (execs st X.env) (SP X y3 D) (aiH X y3 σ E) s
end
section
variable{j k:Nat}{ps:List Str}{p:Pos}{es:List Expr}{E:XK}
theorem ab0(G:BB X.prog X.w X.K X.mg X.base x k ps eN sp)(a:cL j X.A)(b:PA X (e::es) t)(J:∀e s,X.xe e s=False:=by intro _ _;rfl)(hkj:k<=j:=by decide)(m:Gl X x:=by rfl)(o:#[17]=false:=by decide)(R:qh (e::es) X.env=#[18]::qh es X.env:=by rfl)(v:#[20].any (·.1)=false:=by rfl):
  ams X #[16] (alj sp eN t):=by
 obtain⟨f,O,d,N,C,y,B,F⟩:=G.ex;intro y3 s σ H Q E I h;refine WB (oa I m N ?_ o);refine Yu (h₀:=X.base) I.ok.mod.kin C (Wj (b pos y3 s σ H _ I h) (λS T ⟨n,g,P,r,q⟩=>⟨P.pW,?_⟩) λl c z=>((J l c).mp z).elim) R v;have i:Vals (n++eN) (S++d):=r.append y;have L:(S++d).length=ps.length:=by rw[<-i.length];exact F.len _ _ _ _ q
 refine WJ (qM (F.run X.A X.stack T g ⟨S,[]⟩ (S++d) (n++eN) Q E (a.mono hkj) P.S7 (B T S P.pW L) i q) λD c W=>?_);cases D with
 | error l=>exact⟨T,g,P,W⟩
 | ok M=>
  cases M with
  | ret u=>exact P.after W
  | next=>exact False.elim W
  | brk=>exact False.elim W
  | cont=>exact False.elim W
def aeE{t:TXE}(R:ams X e t)(hs:qq e Y pos.line X.env=pure false:=by rfl):amr X (.Expr e pos) (aln t):=by intro y3 s σ H D E I h;exact wpAny_Expr_any (bR (R y3 s σ H _ E I h) λv T ⟨y,g,P,F,O⟩=>⟨σ,g,P,O⟩) I.quiet hs
def ahg{t:TX}(h:amr X st t):PX2 X [st] t:=by
 intro y3 s σ H D E I q;refine WS (bR (h y3 s σ H D E I q) λf c hs=>?_);cases f with
 | next=>exact WT hs
 | brk=>exact hs
 | cont=>exact hs
 | ret u=>exact hs
end
section
variable{F:QX}{n:Str}{np ajJ:Pos}{tb:TX}
def aoZ(C:QX)(i:Nat)(tb:TX)(ts:TS):TS:=λD σ H=>tb D (λc dd H1=>c=.ref C/\∃d,dd=Z d/\∀ea,H1 ea=Y ->
 ts {nx:=λσ' H'=>D.nx (σ'.set i Y) H',rt:=D.rt,bk:=λσ' H'=>D.bk (σ'.set i Y) H',ct:=λσ' H'=>D.ct (σ'.set i Y) H'} (σ.set i (Z #[192])) (upd H1 ea (.ext (BC ea C d)))) σ H
theorem ahd(hN:X.N.Nodup)(hi:X.N[i]?=Z n)(hx:X.env.scope.names.lookup n=Z .local)(hm:X.mg x=Z (.ref F))(hq:ye X.K #[30] (.ref F)=Z true)(L:PX2 X body tb)(hs:∀ea,K8 (X.held ea) (b₀::ae0) ts)(fU:X.stack=X.env::X.outer:=by rfl)(PV:X.env.frame=Z X.env.locals:=by rfl)(hg:Gl X x:=by rfl)(B1:#[17]=false:=by decide):
  PS X (.Try body [.ExceptHandler (Z (.Name x np)) (Z n) (b₀::ae0) ajJ] [] [] pos) (aoZ C i tb ts):=by
 exists 18;refine wpAny_Try_except (Wj (L y3 s σ H D _ I h) (λf T q=>?_) λe T q=>?_)
 ·cases f with
  | next=>exact WT q
  | brk=>exact q
  | cont=>exact q
  | ret u=>exact q
 obtain⟨s0,H0,y,ea,t,V,d,B,R,rfl,os,p,un,E,⟨S,f2,f3,f4⟩,there,hn,hc,d',ed,k⟩:=q;cases ed;obtain rfl:V=C:=Xo hc;have j:=f3;rw[fU]at j;have O:s0.heap.get? ea=Y:=by
  cases q:s0.heap.get? ea with
  | none=>rfl
  | some o=>
   by_cases L:ea∈De X.stack
   ·exfalso;obtain⟨oe,vs,_,_,_,he,_,_,hd,_⟩:=f4.ex;have j5:fq X.prog X.w R T.heap:=E.kept λb u q=>S b u q;have J:Inv X y3 σ R T:=y.Ll (ch:=[]) os un j5 p (λb z=>by cases z);obtain⟨_,o',l,o5⟩:=J.stack.mem L;rw[he]at l;cases l;exact o5 _ hd
   ·obtain⟨o',l⟩:=there ea o q L;rw[f2]at l;cases l
 have c6:H0 ea=Y:=y.hok.none O;refine aj7 (y.ok.frames.trans (by rw[fU])) j PV f4 S f2 λh4 a4 b4 w4 d6=>?_;refine adB a4 b4 w4 λh5 a5 b5 w5 g6=>?_;have sm:=d6.trans g6;obtain⟨i6,l6⟩:=land y os p un E there S a5 sm;have I5:Inv X y3 σ R {T with heap:=h5}:=y.Ll (ch:=[]) os i6 l6 p (λb z=>by cases z);refine wpAny_handleBy_cons (codeAny_handlers_test ?_) (by intro q;cases q);refine oa (X:=X.held ea) I5.held hg hm ?_ B1;have m6:PySem.W.Looks #[4] h5 (typeOf #[192]) (.ref V):=by obtain⟨ob,_,_,_,_,e1,e2,_⟩:=w5.ex;exact e2▸(gL e1).andThen .now
 refine(PySem.W.exm_one (M:=model X.prog X.w) I5.pW m6 hq).here ?_;refine codeAny_handlers_suite_as (adB a5 b5 w5 λh6 a6 b6 w6 o6=>?_);obtain⟨u6,y6⟩:=land y os p un E there S a6 (sm.trans o6);have z6:BC ea V d h6:=by obtain⟨oe,vs,_,_,_,he,c7,d7,hd,_⟩:=w6.ex;exact⟨oe,vs,he,c7,d7,hd⟩
 have I6:Inv X y3 σ (upd R ea (.ext (BC ea V d))) {T with heap:=h6}:=y.Ll (ch:=[]) os (u6.more O c6) (y6.amK hn z6) p (λb z=>by cases z);refine Cu (X:=X.held ea) I6.held hN hi (.inl hx) (v:=.ref ea) rfl (λs7 I7=>?_) (.inr hx);refine Wj (hs ea y3 s7 _ _ _ I7 (k ea hn)) (λf s8 q8=>?_) λ_ _ z=>z.elim;have a:∀{G:St} {P:Hp} {Q:Unit->Qz->Prop},Inv (X.held ea) y3 G P s8->(∀c,Inv X y3 (G.set i Y) P c->Q () c)->wpAny #[4] X.A (do bindName X.env n .none;unbindBehindTheSuite X.env n ajJ) Q X.xe s8:=
  λ{G P Q} J g=>acg (v:=.non) (J.alo I.ok) hN hi hx g
 cases f with
 | next=>obtain⟨G,P,J,q⟩:=q8;exact a J λc m=>⟨_,P,m,q⟩
 | brk=>obtain⟨G,P,J,q⟩:=q8;exact a J λc m=>⟨_,P,m,q⟩
 | cont=>obtain⟨G,P,J,q⟩:=q8;exact a J λc m=>⟨_,P,m,q⟩
 | ret u=>obtain⟨v,G,P,J,r,q⟩:=q8;exact a J λc m=>⟨v,_,P,m,r,q⟩
end
end L2
namespace L2
variable{prog P:Qv}{w:World}{A:Around}{E Q:Value→Qz→Prop}{s:Qz}{K:YW}{x name:Str}{C d f:QX}{vs:Array Value}{v dV:Value}{o:Obj}{mA mg:Str→Option Value}{base:Heap}{st:Stmt}{fd:Qh}{sp:Sp}{eN:List V}{X:Cx}{e:Expr}{es:List Expr}{t:TA}{ta:TE}{j:Nat}
section
open PySem PySem.Spec PySem.W PySem.Builtin PySem.Builtin.ObjectAttr PyProof.Rows
variable{x:QX}
def ac4(c:FK K C)(X:K.In s.heap)(a:s.heap.get? x=Z o)(O:o.cls=.ref C)(f:o.dict=Z d)(V:o.data=.fields vs)(R:s.heap.Ns1 d mA)(e:findIn K #[30] name=Z Y)(H:hasDictIn K C=true)(j:mA name=Z v)(p:handedIn v=true)(h:Q v {s with toks:=s.toks+1}):wpAny #[5] A (getAttr #[105] name true) Q E s:=by
 obtain⟨i,m,L⟩:=LS R;have J:InstAt s.heap x o C (Z i):=⟨a,O,by unfold notCls;rw[V],by rw[f];exact m⟩;have l:findObj K C (Z i) name=Z (.value v):=findObj_own H e rfl (by rw[L,j]);obtain⟨D,g,u,t,os⟩:=s;have b:=J.type (M:=model prog w);have q:=looks_findIn (M:=model prog w) X c.ga;have k:=looks_findIn (M:=model prog w) X c.gt;have n:=looks_find (M:=model prog w) X J l;have r:Looks #[5] D (isInstance #[105] #[86]) true:=b.andThen (qV (M:=model prog w) X c.be);unfold getAttr getAttrBy;refine WI (wpAny_mkText (WZ (WI (b.at (WI (q.at ?_))))));have G:(onTheHeap (YX C)&&Yq "BaseException.__getattribute__" == Yq "object.__getattribute__")=false:=by
  have:(Yq "BaseException.__getattribute__" == Yq "object.__getattribute__")=false:=by decide +kernel
  rw[this];rfl
 dsimp only;rw[G];simp only[jw,if_false];unfold getAttrByItsOwn hookBefore;rw[if_pos (show onTheHeap (YX C)=true from rfl)];refine WI (k.at ?_);refine WI (WH (WZ ?_));unfold callGetattribute;rw[show(true&&onTheHeap (Yq "BaseException.__getattribute__"))=false from rfl];simp only[jw,if_false];unfold boundAndCalled;rw[PySem.F.attrBase_ValueError.ga.bind #[105]];refine WI (Wv ?_);refine WJ (qK PySem.F.attrBase_ValueError.ga.plain Xh ?_);refine Lu r ?_;unfold Builtin.«object.__getattribute__»;refine WI (Wv ?_);dsimp only;exists 34;refine(show wpAny _ _ (pure _) _ _ _ from Wv ?_);refine WI (b.at ?_);refine WI (n.at ?_);dsimp only;refine Wv ?_;exact handed_on p h
end
open PySem PySem.Spec PyProof.Rows
section
def aY.aoh{qual:Str}{N ps:List Str}{k:Nat}(F:aY K x qual st dV f fd)(S:ax N ps (ao st))(len:∀vs H Q E,sp vs H Q E->vs.length=ps.length)(m:∀(g:Value) (A:Around) (outer:List Qg) (s:Qz) (H:Hp) (vs:List V) (Q:VK) (E:XK),cL k (A.deeper (envOfC qual (ao st) s.heap.objs.size f g))->sp vs H Q E ->
   ∃t,K8 (bE (IG P w) P w K mg base N qual (ao st) f g A outer s H E) (cw st) t/\t {nx:=λ_ H'=>Q .non H',rt:=Q} #[145] H):aR P w K mg base (IG P w) (k+1) f fd ps sp:=by
 obtain⟨l,i,kV,p,C,b,g,c,d,rfl,M,D⟩:=F.ex;exact ac1 M D S len λA outer s H vs Q E a j=>m g A outer s H vs Q E a j
def aR.calm{k:Nat}{ps:List Str}(F:aR P w K mg base (IG P w) k f fd ps sp):aR P w K mg base dy k f fd ps (λvs H Q _=>sp vs H Q λ_ _ _=>False):=
 ⟨λvs H Q E h=>F.len vs H Q _ h,λA I s H i S vs Q E a R B M hs=>qM (F.run A I s H i S vs Q (λ_ _ _=>False) a R B M hs) λr c q=>by
  cases r with
  | ok G=>cases G<;>exact q
  | error e=>
   obtain⟨_,_,_,_,_,_,_,_,_,_,_,_,_,_,z⟩:=q;exact z⟩
theorem BB.calm{k:Nat}{ps:List Str}(G:BB P w K mg base x k ps eN sp):bc P w K mg base x k ps eN (λvs H Q _=>sp vs H Q λ_ _ _=>False):=by obtain⟨f,fd,d,a,M,J,b,F⟩:=G.ex;exact⟨f,fd,d,a,M,J,b,F.calm⟩
end
section
variable{k:Nat}{ps:List Str}{y fl:Str}{p pos dv:Pos}{E:XK}
def abY(G:afD X.prog X.w X.K X.mg X.base x C f k ps sp)(S:cL j X.A)(O:X.calm=true)(d:aiS X E)(l:PA X (e::es) t)(hkj:k+1<=j:=by decide)(hex:X.ex=[]:=by rfl)(a:Gl X x:=by rfl)(b:#[17]=false:=by decide)(R:qh (e::es) X.env=#[18]::qh es X.env:=by rfl)(c:(backTo dv (qh es X.env)).any (·.1)=false:=by rfl):
  PS X (.Raise (Z (.Call (.Name x p) (e::es) [] dv)) Y pos) (aaN C sp [] E t):=by
 obtain⟨fd,B,F⟩:=G.F;exact abZ G.M F #[163] O G.m B .nil d l hex a b R c
inductive ahA (K:YW) (fl:Str) (Q:VK) (v:V) (H1:Hp):Prop
 | mk (x C d f:QX) (fs:List (Str×V)) (y:V) (_:v=.ref x) (_:H1 x=Z (.ext (BC x C d))) (_:H1 d=Z (.xd fs)) (_:DT K C f) (_:YZ K #[30] fl=Z Y) (_:fs.lookup fl=Z y) (_:Q y H1)
def aoQ(K:YW)(ta:TE)(fl:Str):TE:=λσ H Q=>ta σ H (ahA K fl Q)
def ag4(K:YW)(R:PE X e ta)(a:X.K=K:=by rfl)(B:attributeBase e fl X.env (eval e X.env)=eval e X.env:=by rfl):PE X (.Attribute e fl pos) (aoQ K ta fl):=by subst a;intro V s m H Q I h;refine X8 B (bR (R V s m H _ I h) λu T ⟨v,g,P,c,L,C,d,f,fs,p,N,J,j,M,i,l,q⟩=>?_);subst N;obtain rfl:u=YX L:=c;obtain⟨⟨o,vs,z,k,n,r⟩,_,_⟩:=(show bp X.prog X.w g T.heap L (.ext (BC L C d))from P.hok L _ J);obtain⟨mA,t,S⟩:=(show bp X.prog X.w g T.heap d (.xd fs)from P.hok d _ j);obtain⟨x,G,b⟩:=pA.some_of (v:=p) (o:=mA fl) (by rw[<-l];exact S fl);exact ac4 M.xc P.pW z k n r t i M.hd G (LC b) ⟨p,g,P.tok _,b,q⟩
inductive atf (K:YW) (xs:List V) (H:Hp) (Q:VK):Prop
 | mk (a C d:QX) (c:V) (cv:Value) (b:Bool) (_:xs=[.ref a,c]) (_:H a=Z (.ext (BC a C d))) (_:FK K C) (_:amB c=Z cv) (_:Ye K #[30] cv=Z b) (_:Q (.bl b) H)
def ft(K:YW)(g:X.K=K:=by rfl):hX X (.builtin "isinstance") (atf K):=by subst g;intro V s j H E S Q I r h;obtain⟨a,C,d,c,k,b,rfl,l,f,O,e,q⟩:=h;obtain⟨u,v,rfl,m,i⟩:=r.two;cases(show u=YX a from m);cases acN O i;obtain⟨p,_⟩:=(show bp X.prog X.w H s.heap a (.ext (BC a C d))from I.hok a _ l);exact Ym (adz f) I.pW p.at e #[73] λtk=>⟨.bl b,H,I.tok tk,U,q⟩
end
end L2
namespace L2
open PySem PySem.Spec PyProof.Rows
variable{h h' base:Heap}{c Pt f c' b:QX}{P q:Qv}{w:World}{H H':Hp}{qual x y:Str}{params:QZ}{body e:Expr}{scope:Scope}{X:Cx}{y3:List (QX×Obj)}{σ:St}{s i4:Qz}{pos p:Pos}{v u:Value}{o:Obj}{α β:Type}{cs Ps ts:List QX}{us ds:List Value}{i:Nat}{K:YW}{mg mb:Str→Option Value}{R9 vs eN:List V}{A:Around}{outer:List Qg}{Q:VK}{t:TA}{es:List Expr}{tf te:TE}{sp:Sp}{CX:OM}{fd:Qh}{ns:List Int}{loose:List Str}
def ML(x:PySem.W.CodeHd h c Pt):isCodeTable h Pt:=by obtain⟨o,vs,_,_,_,_,_,_,_,G,M,J,k,_⟩:=x;exact⟨c,o,vs,G,M,J,k⟩
def Fi(h:Heap)(mg:Str->Option Value):Prop:=∃bm o,mg "__builtins__" = Z (.ref bm)/\bm≠builtinsNs/\bm≠qW/\h.get? bm=Z o/\o.cls=.type "module" /\ o.dict=Z builtinsNs/\o.data=.plain
def pS(c:QX)(qual:Str)(h:Heap):Prop:=∃o vs t,h.get? c=Z o/\o.data=.fields vs/\vs[1]?=Z (.str qual t)
def rA(f:QX)(qual:Str)(params:QZ)(body:Expr)(scope:Scope)(aZ:List #[156])(c':QX)(h:Heap):Prop:=∃pm Pp,h.get? f=Z (yr "<lambda>" qual params body scope aZ pm c' Pp)
def eC(H:Hp)(Pt:QX)(qual:Str)(pos:Pos):Prop:=H Pt=Z (.Cw #[])\/∃c',H Pt=Z (.Cw #[rawInt pos.line,rawInt pos.col,.ref c'])/\H c'=Z (.ext (pS c' qual))
def pS.ok(x:pS c qual h):bp P w H h c (.ext (pS c qual)):=
 ⟨x,let ⟨o,_,_,e,_,_⟩:=x;⟨o,e⟩,λG M ⟨o,vs,t,e,r,F⟩ k=>⟨o,vs,t,k o e,r,F⟩⟩
def rA.ok{aZ:List #[156]}(x:rA f qual params body scope aZ c' h):bp P w H h f #[106]:=
 ⟨x,let ⟨_,_,e⟩:=x;⟨_,e⟩,λG M ⟨C,T,e⟩ k=>⟨C,T,k _ e⟩⟩
structure aiN(K:YW)(mg:Str->Option Value)(base:Heap)(c Pt:QX):Prop where
 hd:XN K c Pt=true
 bm:Fi base mg
structure atE(qual:Str)(params:QZ)(body:Expr)(scope:Scope)(aZ:List (Str×QX))(pos:Pos)(Pt:QX)(σ:St)(H:Hp)(Q:VK):Prop where
 h0:eC H Pt qual pos
 h1:∀(f c':QX) (H':Hp),H f=Y->H' f=Z #[106]->H' Pt=Z (.Cw #[rawInt pos.line,rawInt pos.col,.ref c'])->H' c'=Z (.ext (pS c' qual))->(∀b u,b≠Pt->H b=Z u->H' b=Z u)->Q #[58] H'
def Inv.table{tk:Nat}{ps more:Array Value}(I:Inv X y3 σ H s)(j:H Pt=Z (.Cw ps))(k:∀b o,b≠Pt->s.heap.get? b=Z o->h'.get? b=Z o)(f:h'.get? Pt=Z {cls:=.none,data:=.fields (ps++more)})(d:H' Pt=Z (.Cw (ps++more)))(a:∀b,b≠Pt->b<s.heap.objs.size->H' b=H b)(new:∀b u,s.heap.objs.size<=b->H' b=Z u->bp X.prog X.w H' h' b u):Inv X y3 σ H' {s with heap:=h',toks:=tk}:=by
 have keep:∀b u,b≠Pt->H b=Z u->H' b=Z u:=λb u V e=>by rw[a b V (I.hok.lt e)];exact e
 have r:∀b,H b=Y->b≠Pt:=λb n z=>by rw[z,j]at n;cases n
 refine I.un ⟨λb o e n _ _=>k b o (r b n) e,λb o e n _ _=>⟨o.slots,k b o (r b n) e⟩,λb o e n _=>by rw[a b (r b n) (jI e)];exact n,λb o e _=>?_,λb E e=>keep b _ (λz=>by rw[z,j]at e;cases e) e,λb o u e=>keep b _ (λz=>by rw[z,j]at e;cases e) e,λb D e=>?_⟩ λb u e=>?_
 ·by_cases B:b=Pt
  ·exact⟨_,by rw[B];exact f⟩
  ·exact⟨o,k b o B e⟩
 ·by_cases B:b=Pt
  ·subst B;rw[j]at e;cases e;exact⟨more,d⟩
  ·exact⟨#[],by rw[keep b _ B e];simp⟩
 ·by_cases B:b=Pt
  ·subst B;rw[d]at e;cases e;exact f
  ·by_cases L:b<s.heap.objs.size
   ·have l:=e;rw[a b B L]at l;refine(I.hok b u l).Ae (λc v O q=>k c v ?_ q) (λc q=>keep c _ (λz=>by rw[z,j]at q;cases q) q) λc E q=>keep c _ (λz=>by rw[z,j]at q;cases q) q;rcases O with rfl|O
    ·exact B
    ·intro z;rw[z,j]at O;cases O
   ·exact new b u (Jo L) e
def aa1:codeAmong pos [rawInt pos.line,rawInt pos.col,v]=Z v:=by show(if ((pos.line:Int)==(pos.line:Int)&&(pos.col:Int)==(pos.col:Int))=true then Z v else _)=Z v;rw[if_pos #[8]]
section
variable{aZ:List (Str×QX)}
def akt(k:aiN X.K X.mg X.base c Pt)(O:X.env.code=.ref c)(p:closureFor scope X.env=pure aZ)(y:defaultsOf params X.env=([],[]):=by rfl):PE X (.Lambda params body scope pos) (atE #[65] params body scope aZ pos Pt):=by
 exists 2;obtain⟨st,h⟩:=h;refine PySem.W.kla_eval y ?_;have f:∃ps,H Pt=Z (.Cw ps):=by rcases st with z|⟨c',z,_⟩<;>exact⟨_,z⟩
 obtain⟨o5,q⟩:=f;have ns:s.heap.Ns qW X.mg:=I.mod.glob.keeps I.bk;have nG:qW≠Pt:=λz=>by obtain⟨o,es,ep,e,_⟩:=I.mod.glob;have:=(I.bs _ _ e).2;rw[z,q]at this;cases this
 have blt:s.heap.BuiltinsAt X.mg Pt:=by obtain⟨bm,o,d,N,b3,J,b5,b6,b7⟩:=k.bm;refine⟨bm,o,d,N,b3,λz=>?_,I.bk _ _ J,b5,b6,b7⟩;have M:=(I.bs _ _ J).2;rw[z,q]at M;cases M
 have x:=Xu I.pW k.hd;rcases st with j|⟨c',j,S⟩
 ·have B:s.heap.get? Pt=Z (yf #[]):=I.hok Pt _ j;refine PySem.W.kla_makeFunction p I.ok.glob ns O x B trivial rfl nG blt λc' T h' tk ex G h2 cr g=>?_;have r:Pt<s.heap.objs.size:=jI B;have n:s.heap.objs.size<=h'.objs.size:=JL (zK G h2);obtain⟨j5,oc,vs,t,e2,R,hd,hv⟩:=cr;cases e2
  let a:Hp:=upd (upd (upd H Pt (.Cw (#[]++#[rawInt pos.line,rawInt pos.col,.ref c']))) c' (.ext (pS c' #[65]))) h'.objs.size (.ext (rA h'.objs.size #[65] params body scope aZ c'))
  have D:c'≠h'.objs.size:=jM h2;have i:Pt≠h'.objs.size:=jM (jS r n);have l:Pt≠c':=jM (jS r G);have gP:a Pt=Z (.Cw (#[]++#[rawInt pos.line,rawInt pos.col,.ref c'])):=(ag i).trans ((ag l).trans ae);have gc:a c'=Z (.ext (pS c' #[65])):=(ag D).trans ae;have gf:a h'.objs.size=Z (.ext (rA h'.objs.size #[65] params body scope aZ c')):=ae;have m:∀b,b≠Pt->b≠c'->b≠h'.objs.size->a b=H b:=λb v n2 n3=>(ag n3).trans ((ag n2).trans (ag v));have E:=Inv.table (H':=a) (tk:=tk) I j (λb o V e=>jA (yr "<lambda>" #[65] params body scope aZ ((X.mg "__name__").getD .none) c' T) (ex b o V e)) (jA _ g) gP
   (λb v L=>m b v (jM (jS L G)) (jM (jS L n))) λb u L e=>by
    by_cases d:b=h'.objs.size
    ·rw[d,gf]at e;cases e;rw[d];exact rA.ok ⟨_,_,jF _ rfl⟩
    ·by_cases N:b=c'
     ·rw[N,gc]at e;cases e;rw[N];exact pS.ok ⟨oc,vs,t,jA _ R,hd,hv⟩
     ·rw[m b (λz=>absurd L (by rw[z];exact Nat.not_le_of_lt r)) N d,I.hok.fresh L]at e;cases e
  have F:H h'.objs.size=Y:=I.hok.fresh n;have C:H c'=Y:=I.hok.fresh G;exact⟨.ref h'.objs.size,a,E,U,h h'.objs.size c' a F gf (by rw[gP];rfl) gc λb u V e=>by rw[m b V (ak e C) (ak e F)];exact e⟩
 ·have B:s.heap.get? Pt=Z (yf #[rawInt pos.line,rawInt pos.col,.ref c']):=I.hok Pt _ j;refine PySem.W.kla_makeFunctionHit (cv:=.ref c') p I.ok.glob ns O x B ?_ ?_ blt λT h' tk kp G=>?_
  ·exact trivial
  ·exact aa1
  ·have F:H h'.objs.size=Y:=I.hok.fresh G;have new:=rA.ok (P:=X.prog) (w:=X.w) (H:=upd H h'.objs.size (.ext (rA h'.objs.size #[65] params body scope aZ c'))) (h:=h'.push (yr "<lambda>" #[65] params body scope aZ ((X.mg "__name__").getD .none) c' T)) ⟨_,_,jF _ rfl⟩;have A:∀b o,s.heap.get? b=Z o->(h'.push (yr "<lambda>" #[65] params body scope aZ ((X.mg "__name__").getD .none) c' T)).get? b=Z o:=λb o e=>jA _ (kp b o e);have E:=I.un (t':=tk) (Un.laid A G F) (fq.laid I.hok A G new);exact⟨.ref h'.objs.size,_,E,U,h h'.objs.size c' _ F ae (by rw[ag (ak j F)];exact j) (by rw[ag (ak S F)];exact S) λb u _ e=>by rw[ag (ak e F)];exact e⟩
end
def cY(c:QX)(o:Obj)(h:Heap):Prop:=h.get? c=Z o
def cY.ok(x:cY c o h):bp P w H h c #[121]:=
 ⟨x,⟨o,x⟩,λ_ _ e k=>k _ e⟩
def aqj(H:Hp)(c:QX)(v:V):Prop:=∃o u,H c=Z #[121]/\o.data=.cell (Z u)/\RelV v u
structure wm(H:Hp)(f c':QX)(qual:Str)(params:QZ)(body:Expr)(scope:Scope)(aZ:List (Str×QX))(R9:List V):Prop where
 fn:H f=Z #[106]
 cd:H c'=Z (.ext (pS c' qual))
 cl:Qs (λ(p:Str×QX) v=>aqj H p.2 v) aZ R9
 nd:#[97].Nodup
theorem Paired.lookup{F:(Str×α)->β->Prop}:∀{l₁:List (Str×α)} {l₂:List β},Qs F l₁ l₂->∀{x:Str} {c:α},l₁.lookup x=Z c->∃v,F (x,c) v
 | _,_,.nil,_,_,e=>by simp at e
 | _,_,.cons (a:=(y,d)) r t,x,c,e=>by
  rw[jd]at e;by_cases h:x=y
  ·subst h;simp at e;subst e;exact⟨_,r⟩
  ·rw[show(x==y)=false from beq_false_of_ne h]at e;exact Paired.lookup t e
def less(H:Hp)(cs:List QX):Hp:=λb=>if b∈cs then Y else H b
def back(H:Hp)(cs:List QX)(H':Hp):Hp:=λb=>if b∈cs then H b else H' b
def pM(h:b∈cs):less H cs b=Y:=if_pos h
def bU(h:b∉cs):less H cs b=H b:=if_neg h
def X9(h:b∈cs):back H cs H' b=H b:=if_pos h
def oM(h:b∉cs):back H cs H' b=H' b:=if_neg h
def aa2:back H cs (less H cs)=H:=by
 funext b;by_cases h:b∈cs
 ·exact X9 h
 ·rw[oM h,bU h]
def Cells(H:Hp)(cs:List QX):Prop:=∀c∈cs,∃o,H c=Z #[121]
section
variable{fs:List QX}
def fq.aic(x:fq P w H h)(k:Cells H cs):fq P w (L2.less H cs) h:=λb u e=>by
 have B:b∉cs:=λz=>by rw[pM z]at e;cases e
 rw[bU B]at e;refine(x b u e).Ae (λ_ _ _ q=>q) (λc q=>?_) λc E q=>?_<;>rw[bU]<;>first|exact q|(intro z;obtain⟨o,r⟩:=k _ z;rw[r]at q;cases q)
theorem Un.back(u:Un fs [] (less H cs) H' h h')(k:Cells H cs)(x:fq P w H h)(j:fq P w H' h')(F:∀c∈cs,c∉fs):Un fs [] H (back H cs H') h h'/\fq P w (back H cs H') h':=by
 have V:∀b,H b=Y->b∉cs:=λb n z=>by obtain⟨o,r⟩:=k _ z;rw[n]at r;cases r
 have a:∀c∈cs,∀o,H c=Z #[121]->h'.get? c=Z o:=λc z o e=>u.keep c o (show cY c o h from(x c _ e).1) (pM z) (F c z) #[8];have d:∀c∈cs,H' c=Y:=λc z=>by obtain⟨o,e⟩:=k c z;exact u.free c o (show cY c o h from(x c _ e).1) (pM z) #[8]
 refine⟨⟨λb o e n B _=>u.keep b o e (by rw[bU (V b n)];exact n) B #[8],λb o e n B _=>u.slot b o e (by rw[bU (V b n)];exact n) B #[8],λb o e n _=>by rw[oM (V b n)];exact u.free b o e (by rw[bU (V b n)];exact n) #[8],
  λb o e _=>u.there b o e #[8],λb E e=>?_,λb o v e=>?_,λb ps e=>?_⟩,λb v e=>?_⟩
 ·have B:b∉cs:=λz=>by obtain⟨o,r⟩:=k _ z;rw[e]at r;cases r
  rw[oM B];exact u.tups b E (by rw[bU B];exact e)
 ·have B:b∉cs:=λz=>by obtain⟨o,r⟩:=k _ z;rw[e]at r;cases r
  rw[oM B];exact u.frzs b o v (by rw[bU B];exact e)
 ·have B:b∉cs:=λz=>by obtain⟨o,r⟩:=k _ z;rw[e]at r;cases r
  rw[oM B];exact u.tbls b ps (by rw[bU B];exact e)
 ·by_cases B:b∈cs
  ·rw[X9 B]at e;obtain⟨o,r⟩:=k b B;rw[r]at e;cases e;exact cY.ok (a b B o r)
  ·rw[oM B]at e;refine(j b v e).Ae (λ_ _ _ q=>q) (λc q=>?_) λc E q=>?_<;>rw[oM]<;>first|exact q|(intro z;rw[d _ z]at q;cases q)
end
def Y2(P:Qv)(w:World)(K:YW)(mg:Str->Option Value)(base:Heap)(N:List Str)(qual:Str)(scope:Scope)(f:QX)(cd:Value)(aZ:List #[156])(A:Around)(outer:List Qg)(s:Qz)(H:Hp):Cx where
 prog:=P
 w:=w
 K:=K
 mg:=mg
 base:=base
 A:=A.deeper (XO qual scope s.heap.objs.size f cd aZ)
 N:=N
 s₀:=s
 H₀:=H
 env:=XO qual scope s.heap.objs.size f cd aZ
 outer:=outer
 stack:=XO qual scope s.heap.objs.size f cd aZ::outer
 ex:=[]
 calm:=true
 fn:=λ_=>false
 pn:=[]
 xe:=λ_ _=>False
structure Fv(ps fr:List Str)(sc:Scope):Prop where
 kind:sc.kind=.function
 co:sc.isCoroutine=false
 gen:sc.isGenerator=false
 nd:(ps++fr).Nodup
 par:∀x∈ps,sc.names.lookup x=Z .local
 fre:∀x∈fr,sc.names.lookup x=Z .free
 nocell:∀y∈sc.names,y.2≠.cell
 all:∀y∈sc.names,y.2=.free->y.1∈fr
theorem lookup_mem:∀{l:List (Str×α)} {x:Str},x∈l.map (·.1)->∃c,l.lookup x=Z c
 |[],x,h=>by simp at h
 |(y,d)::r,x,h=>by
  rw[jd];by_cases e:x=y
  ·subst e;simp
  ·rw[show(x==y)=false from beq_false_of_ne e];exact lookup_mem (by simpa[e]using h)
def TL{l:List #[156]}(O:(l.map (·.2)).Nodup)(h1:l.lookup x=Z c)(M:l.lookup y=Z c):x=y:=by
 have j:=Yi h1;have d:=Yi M;have J:∀{l:List #[156]},(l.map (·.2)).Nodup->(x,c)∈l->(y,c)∈l->x=y:=by
  intro l
  induction l with
  | nil=>intro _ h;simp at h
  | cons p r K=>
   intro O j d;obtain⟨A,a⟩:=jn.mp (show(p.2::r.map (·.2)).Nodup from O);rcases jL.mp j with T|j
   ·rcases jL.mp d with g|d
    ·rw[<-T]at g;cases g;rfl
    ·exact absurd (jK.mpr ⟨(y,c),d,by rw[<-T]⟩) A
   ·rcases jL.mp d with g|d
    ·exact absurd (jK.mpr ⟨(x,c),j,by rw[<-g]⟩) A
    ·exact K a j d
 exact J O j d
theorem Paired.at{F:α->β->Prop}:∀{l₁:List α} {l₂:List β},Qs F l₁ l₂->∀{i:Nat} {b:β},l₂[i]?=Z b->∃a,l₁[i]?=Z a/\F a b
 | _,_,.nil,i,b,e=>by simp at e
 | _,_,.cons r t,0,b,e=>by simp at e;subst e;exact⟨_,U,r⟩
 | _,_,.cons r t,i+1,b,e=>by obtain⟨a,G,M⟩:=Paired.at t (i:=i) (by simpa using e);exact⟨a,by simpa using G,M⟩
theorem sI:∀{l:List (Str×α)} {x:Str} {c:α},(l.map (·.1)).Nodup->(x,c)∈l->l.lookup x=Z c
 |[],_,_,_,h=>by simp at h
 |(y,d)::r,x,c,O,h=>by
  obtain⟨A,a⟩:=jn.mp (show(y::r.map (·.1)).Nodup from O);rw[jd];rcases jL.mp h with e|h
  ·cases e;simp
  ·have G:x≠y:=λe=>A (by rw[<-e];exact jK.mpr ⟨(x,c),h,rfl⟩);rw[show(x==y)=false from beq_false_of_ne G];exact sI a h
theorem aaR:∀{ps:List Str} {us:List Value},(#[130].map (·.1)).Sublist ps
 |[],_=>by simp
 | _::_,[]=>by simp
 | p::ps,u::us=>by show(p::#[130].map (·.1)).Sublist (p::ps);exact aaR.cons₂ p
def Hy{ps:List Str}(O:ps.Nodup)(h1:ps[i]?=Z x)(M:us[i]?=Z u):#[130].reverse.lookup x=Z u:=by
 refine sI ?_ (List.mem_reverse.mpr (JS (i:=i) ?_))
 ·rw[List.map_reverse];refine List.pairwise_reverse.mpr (List.Pairwise.imp (λh=>Ne.symm h) (List.Nodup.sublist ?_ O));exact aaR
 ·rw[ZF];exact⟨h1,M⟩
section
variable{k:Nat}{aZ:List (Str×QX)}{ps:List Str}{t:TE}
def agD(S:Fv ps (aZ.map (·.1)) scope)(L:wm H f c' qual params body scope aZ R9)(hr:cL (k+1) A)(X:Ei P w K mg base A outer s H)(r:Vals vs us)(l:vs.length=ps.length)(PU:∀pm Pp,bindArgs (xp "<lambda>" qual params body scope aZ pm (.ref c') Pp) ⟨us,[]⟩=pure #[130])(B:PE (Y2 P w K mg base (ps++aZ.map (·.1)) qual scope f (.ref c') aZ A outer s (less H #[97])) body t)(ht:t ((vs++R9).map Z) (less H #[97]) λv H'=>Q v (back H #[97] H')):
  codeAny #[42] A (.call #[58] ⟨us,[]⟩) (λr m=>∃u,r=.ok (.ret u)/\CE outer P w H s Q u m) s:=by
 obtain⟨pm,Pp,ef⟩:rA f qual params body scope aZ c' s.heap:=(X.hok f _ L.fn).1;obtain⟨oc,cv,tc,e1,e2,e3⟩:pS c' qual s.heap:=(X.hok c' _ L.cd).1;have F:Cells H #[97]:=λc O=>by
  obtain⟨⟨y,R⟩,hm,rfl⟩:=jK.mp O;obtain⟨i,d⟩:=List.getElem?_of_mem hm;have x:i<R9.length:=by rw[<-L.cl.length];exact(jb.mp d).1
  obtain⟨a,G,o,u,M,_⟩:=Paired.at L.cl (jE x);rw[d]at G;cases G;exact⟨o,M⟩
 have D:s.heap.NoLimit:=X.mod.nolimit.keeps λb o e=>(X.bs b o e).1;have E:∀c∈aZ.map (·.2),c∉De outer:=λc O z=>by obtain⟨o,e⟩:=F c O;rw[X.frf c z]at e;cases e
 refine PySem.W.kla_callFunE hr.depth ef rfl S.co S.gen rfl ⟨c',oc,cv,tc,U,e1,e2,e3⟩ ?_;rw[PU];refine Wv (Wk S.nocell (λy N=>S.par y.1 (zI (show(y.1,y.2)∈ps.zip us from N)).1) (λj T n=>⟨D.fresh _ n,?_⟩) S.kind);have C:∀b o,s.heap.get? b=Z o->j.get? b=Z o:=λb o e=>n.extBut b o (jM (jI e)) (jA _ e);have g:∀b:QX,b∉([]:List QX):=λb z=>absurd z #[8];have I:Inv (Y2 P w K mg base (ps++aZ.map (·.1)) qual scope f (.ref c') aZ A outer s (less H #[97])) [] ((vs++R9).map Z) (less H #[97]) {s with heap:=j,toks:=s.toks+#[130].length}:=by
  refine⟨⟨X.mod,S.kind,U,U,jD _,λy z c G M=>TL L.nd G M,λy N=>?_,λy c h=>(nomatch h),λ_=>hr.hd,Around.frames_deeper X.frames,.inr ⟨U,U⟩,λb z=>absurd z (g b),λb o e=>⟨(X.bs b o e).1,?_⟩,X.bsz,λb _ _=>g b,λb z=>absurd z (g b),X.tT,λb B=>?_⟩,
   rfl,X.bare,Un.kept C,⟨_,T,λi y v G M h3=>?_⟩,λy c h=>?_,?_,λy c h=>pM (jK.mpr ⟨(y,c),Yi h,rfl⟩),λp hp=>absurd (show p∈([]:List #[51])from hp) #[8],(X.hok.aic F).kept C,?_⟩
  ·have N:scope.names.lookup y=Z .cell\/scope.names.lookup y=Z .free:=N;rcases N with N|N
   ·exact absurd rfl (S.nocell _ (Yi N))
   ·exact lookup_mem (S.all _ (Yi N) rfl)
  ·show less H #[97] b=Y;by_cases z:b∈aZ.map (·.2)
   ·exact pM z
   ·rw[bU z];exact(X.bs b o e).2
  ·show less H #[97] b=Y;by_cases z:b∈aZ.map (·.2)
   ·exact pM z
   ·rw[bU z];exact X.frf b B
  ·have G:(ps++aZ.map (·.1))[i]?=Z y:=G;rw[jU]at M;by_cases d:i<vs.length
   ·rw[jq d]at M;have V:vs[i]?=Z v:=by
     cases e:vs[i]? with
     | none=>rw[e]at M;cases M
     | some a=>rw[e]at M;cases M;rfl
    rw[jq (by rw[<-l];exact d)]at G;obtain⟨u,hu,rv⟩:=r.get V;have j5:ps.Nodup:=(JH.mp S.nd).1;refine⟨u,rv,.inl ⟨S.par y (JS G),?_⟩⟩;show#[130].reverse.lookup y=Z u;exact Hy j5 G hu
   ·rw[JF (Jo d)]at M;rw[JF (by rw[<-l];exact Jo d),<-l]at G;have V:R9[i-vs.length]?=Z v:=by
     cases e:R9[i-vs.length]? with
     | none=>rw[e]at M;cases M
     | some a=>rw[e]at M;cases M;rfl
    obtain⟨⟨y2,R⟩,g1,o,u,g2,g3,g4⟩:=Paired.at L.cl V;rw[jU,g1]at G;cases G;refine⟨u,g4,.inr ⟨.inr (S.fre y2 (jK.mpr ⟨(y2,R),JS g1,U⟩)),R,?_,o,C _ _ (show cY R o s.heap from(X.hok R _ g2).1),g3⟩⟩;exact sI (JH.mp S.nd).2.1 (JS g1)
  ·obtain⟨v,o,u,g2,g3,g4⟩:=Paired.lookup L.cl h;exact⟨Z u,o,C _ _ (show cY c o s.heap from(X.hok c _ g2).1),g3⟩
  ·show less H #[97] s.heap.objs.size=Y;by_cases z:s.heap.objs.size∈aZ.map (·.2)
   ·exact pM z
   ·rw[bU z];exact X.hok.fresh (jD _)
  ·show((vs++R9).map Z).length=(ps++aZ.map (·.1)).length;rw[jQ,jG,jG,jQ,l,L.cl.length]
 refine PySem.W.kla_codeExpr (Wj (B [] _ _ _ _ I ht) (λu m ⟨v,H',J,rv,q⟩=>?_) λe m z=>False.elim z);obtain⟨un,o5⟩:=Un.back J.base F X.hok J.hok E;exact⟨u,U,v,_,J.os,J.bare,un,o5,rv,q⟩
end
def FnV(v:V)(H:Hp):Prop:=∃f qual params body scope aZ c',v=.ref f/\H f=Z #[106]
def LR(X:Cx)(R:V->List V->Hp->VK->Prop):Prop:=∀(y3:List #[51]) (s:Qz) (σ:St) (H:Hp) (f:QX) (vs:List V) (us:List Value) (Q:VK),Inv X y3 σ H s->Vals vs us->R #[58] vs H Q->wpAny #[4] X.A (call #[58] us) #[90] X.xe s
def ak3(R:V->List V->Hp->VK->Prop)(tf:TE)(t:TA):TE:=λσ H Q=>tf σ H λv H1=>FnV v H1/\t σ H1 λvs H2=>FnV v H2/\R v vs H2 Q
section
variable{R:V->List V->Hp->VK->Prop}
def FnV.at{v:V}(F:FnV v H)(E:fq P w H h)(r:RelV v u):∃f,v=.ref f/\u=.ref f/\PySem.W.FnAt f h:=by obtain⟨f,qual,params,body,scope,aZ,c',rfl,e⟩:=F;obtain rfl:u=YX f:=r;obtain⟨C,T,z⟩:rA f qual params body scope aZ c' h:=(E f _ e).1;exact⟨f,U,U,_,_,_,_,z⟩
def aee(l:PE X (.Name x p) tf)(a:PA X (e::es) t)(O:LR X R)(b:qh (e::es) X.env=#[18]::qh es X.env:=by rfl)(d:#[20].any (·.1)=false:=by rfl):PE X #[16] (ak3 R tf t):=by exists 2;refine WB (bR #[77] λu T ⟨v,g,P,r,F,q⟩=>?_);obtain⟨f,rfl,rfl,A⟩:=F.at P.hok r;refine PySem.W.callWith_F A (bR (a pos y3 T σ g _ P q) λus j ⟨vs,G,E,i,k,n⟩=>?_) b d;obtain⟨o,m,w,c⟩:=k.at E.hok (show RelV (V.ref f) (YX f)from rfl);cases m;exact⟨c,O y3 j σ G f vs us Q E i n⟩
end
def aj9{k:Nat}{ps fr:List Str}(a:cL (k+1) X.A)(S:Fv ps fr scope)(c:∀(us:List Value),us.length=ps.length->∀qual aZ c' C T,bindArgs (xp "<lambda>" qual params body scope aZ C (.ref c') T) ⟨us,[]⟩=pure #[130])(B:∀(qual:Str) (f c':QX) (aZ:List #[156]) (s:Qz) (H:Hp),aZ.map (·.1)=fr->cL k (X.A.deeper (XO qual scope s.heap.objs.size f (.ref c') aZ))->
   PE (Y2 X.prog X.w X.K X.mg X.base (ps++fr) qual scope f (.ref c') aZ X.A X.stack s H) body te):
  LR X λv vs H Q=>vs.length=ps.length/\∃f c' qual aZ R9,v=.ref f/\aZ.map (·.1)=fr/\wm H f c' qual params body scope aZ R9/\te ((vs++R9).map Z) (less H #[97]) λv H'=>Q v (back H #[97] H'):=by
 intro y3 s σ H R vs us Q I r ⟨b,f,c',qual,aZ,R9,N,J,L,d⟩;cases N;subst J;refine WJ (qM (agD (k:=k) S L a I.S7 r b (λC T=>c us (by rw[<-r.length];exact b) qual aZ c' C T) (B qual R c' aZ s _ rfl (a.deeper _)) d) λr h ⟨u,e,g⟩=>?_);subst e;exact I.after g
def ak2(sp:Sp)(eN:List V)(c:QX)(i:Nat)(t:TA):TE:=λσ H Q=>t σ H λvs H1=>∃v,σ[i]?=Z (Z v) /\
 ∀o u,H1 c=Y->o.data=.cell (Z u)->RelV v u->sp (vs++eN) (upd H1 c #[121]) (λv' H'=>H' c=Z #[121]/\Q v' (less H' [c])) E0
section
variable{j k:Nat}{ps:List Str}
theorem aeL(F:aR X.prog X.w X.K X.mg X.base dy k f fd ps sp)(hr:cL k X.A)(B:Binds X.K fd ps ds)(j:Vals eN ds)(hN:X.N[i]?=Z y)(hv:X.env.scope.names.lookup y=Z .cell)(l:X.fn y=true)(O:X.env.cells.lookup y=Z c)(I:Inv X y3 σ H s)(r:Vals vs us)(h:∃v,σ[i]?=Z (Z v)/\∀o u,H c=Y->o.data=.cell (Z u)->RelV v u->sp (vs++eN) (upd H c #[121]) (λC H'=>H' c=Z #[121]/\Q C (less H' [c])) E0):
  wpAny #[4] X.A (call #[58] us) #[90] X.xe s:=by
 obtain⟨v,E,h⟩:=h;obtain⟨m,_,hl⟩:=I.loc;obtain⟨u,rv,M⟩:=hl i y v hN E (.inr (.inl hv));rcases M with⟨hk,_⟩|⟨_,c2,D,o,V,W⟩
 ·have g:X.env.scope.names.lookup y=Z .local:=hk;rw[hv]at g;cases g
 rw[O]at D;cases D;have R:H c=Y:=I.freeC y c O;have hq:=h o u R W rv;have G:X.s₀.heap.objs.size<=c:=I.ok.cab y c l O;have j5:∀b o,X.base.get? b=Z o->b≠c:=λb o e z=>by have:=jS (jI e) (jW I.ok.bsz G);rw[z]at this;exact JT _ this
 have x:∀b∈De X.stack,b≠c:=λb B z=>by
  rcases jL.mp (I.Io b B)with e|B
  ·exact I.cne y c O (z.symm.trans e)
  ·obtain⟨_,o,V,_⟩:=I.ok.tT.mem B;have:=jS (jI V) G;rw[z]at this;exact JT _ this
 have o5:fq X.prog X.w (upd H c #[121]) s.heap:=λb w e=>by
  by_cases B:b=c
  ·rw[B,ae]at e;cases e;rw[B];exact cY.ok V
  ·rw[ag B]at e;exact(I.hok b w e).Ae (λ_ _ _ q=>q) (λd q=>by rw[ag (ak q R)];exact q) λd xs q=>by rw[ag (ak q R)];exact q
 have T:=I.S7;have e0:Ei X.prog X.w X.K X.mg X.base X.A X.stack s (upd H c #[121]):=⟨T.frames,T.mod,λb o e=>⟨(T.bs b o e).1,by rw[ag (j5 b o e)];exact(T.bs b o e).2⟩,T.bsz,T.tT,λb B=>by rw[ag (x b B)];exact T.frf b B,o5,T.bare⟩;have r2:Vals (vs++eN) (us++ds):=r.append j;have S:(us++ds).length=ps.length:=by rw[<-r2.length];exact F.len _ _ _ _ hq
 refine WJ (qM (F.run X.A X.stack s _ ⟨us,[]⟩ (us++ds) (vs++eN) _ E0 hr e0 (B s us I.pW S) r2 hq) λr s' a=>?_);cases r with
 | error e=>exact False.elim a
 | ok fl=>
  cases fl with
  | next=>exact False.elim a
  | brk=>exact False.elim a
  | cont=>exact False.elim a
  | ret u'=>
   obtain⟨C,H',os,p,un,L,c6,CF,q'⟩:=a;have oc:s'.heap.get? c=Z o:=(L c _ CF).1;have P:∀b,b≠c->b∉[c]:=λb n z=>n (by simpa using z);refine I.after ⟨C,less H' [c],os,p,⟨λb t e n B J=>?_,λb t e n B J=>?_,λb t e n J=>?_,λb t e J=>un.there b t e J,λb xs e=>?_,λb t z e=>?_,λb qs e=>?_⟩,L.aic λd j=>?_,c6,q'⟩
   ·by_cases z:b=c
    ·subst z;rw[V]at e;cases e;exact oc
    ·exact un.keep b t e (by rw[ag z];exact n) B J
   ·exact un.slot b t e (by rw[ag (x b B)];exact n) B J
   ·by_cases z:b=c
    ·exact pM (by simp[z])
    ·rw[bU (P b z)];exact un.free b t e (by rw[ag z];exact n) J
   ·have z:b≠c:=ak e R;rw[bU (P b z)];exact un.tups b xs (by rw[ag z];exact e)
   ·have z':b≠c:=ak e R;rw[bU (P b z')];exact un.frzs b t z (by rw[ag z'];exact e)
   ·have z:b≠c:=ak e R;rw[bU (P b z)];exact un.tbls b qs (by rw[ag z];exact e)
   ·obtain rfl:d=c:=by simpa using j
    exact⟨o,CF⟩
def akr(G:bc X.prog X.w X.K X.mg X.base x k ps eN sp)(S:cL j X.A)(l:PA X (e::es) t)(b:X.N[i]?=Z y)(M:X.env.scope.names.lookup y=Z .cell)(O:X.env.cells.lookup y=Z c)(a:X.fn y=true:=by rfl)(hkj:k<=j:=by decide)(m:Gl X x:=by rfl)(d:#[17]=false:=by decide)(R:qh (e::es) X.env=#[18]::qh es X.env:=by rfl)(g:#[20].any (·.1)=false:=by rfl):
  PE X #[16] (ak2 sp eN c i t):=by
 obtain⟨f,fd,ds,n,C,o,B,F⟩:=G.ex;exists 2;refine WB (oa I m n ?_ d);refine Yu (h₀:=X.base) I.ok.mod.kin C (bR #[109] λus T ⟨vs,u,P,r,q⟩=>⟨P.pW,?_⟩) R g;exact aeL F #[163] B o b M a O P r q
end
open Classical in
noncomputable def avg(cells:List #[156])(h:Heap)(H:Hp):Hp:=λb=>if ∃y,cells.lookup y=Z b then(h.get? b).map λo=>.ext (cY b o)else H b
def Sn(Ps:List QX)(H:Hp):Prop:=(∀b∈Ps,H b=Z (.Cw #[]))/\∀b,b∉Ps->H b=Y\/∃o xs,H b=Z (.Av o #[165])
theorem Tz{k:Nat}{A a:QX}{vs:List Value}(KX:K.In i4.heap)(Q:i4.heap.Ns qW mg)(B:i4.heap.Ns builtinsNs mb)(y:∀x:Str,x ≠ "__name__" -> mb x=qF x)(C:i4.heap.NoLimit)(hg:i4.gens=#[])(g:i4.heap.get? a=Z {cls:=.type "list",data:=.seq vs.toArray})(hi:Qj vs ns)(hl:ns.length<=sizeLine)(hr:cL k callerA)(j:∀b∈Ps,isCodeTable i4.heap b/\i4.heap.get? b=Z (yf #[])/\K.lookup b=Y)(R:Fi i4.heap mg)(F:∀base:Heap,K.In base->base.Ns qW mg->Fi base mg->aR P w K mg base CX k A fd [x] sp)(PU:∀(s:Qz) (u:Value),Qa s fd ⟨[u],[]⟩ [(x,u)])(P6:∀H:Hp,Sn Ps H->mw K H a #[67]->sp [.ref a] H (λv _=>v=.bl true) λ_ _ _=>False)(D:∀H e c,CX [] H i4 (λ_ _ _=>False) e c->False):
  codeAny #[42] callerA (.call (.ref A) ⟨[.ref a],[]⟩) (λr c=>r=.ok (.ret (.bool true))/\OldK i4.heap c.heap/\c.os=i4.os/\QY c.gens) i4:=by
 have rv:=Ml hi;have I:=hi.length;have f:∀H:Hp,Sn Ps H->mw K H a #[67]->fq P w H i4.heap->(∀b,H b≠Y->b=a\/b∈Ps)->(H a≠Y->K.lookup a=Y)->
   codeAny #[42] callerA (.call (.ref A) ⟨[.ref a],[]⟩) (λr c=>r=.ok (.ret (.bool true))/\OldK i4.heap c.heap/\c.os=i4.os/\QY c.gens) i4:=by
  intro H M hS E N hK;have free:∀{b:QX} {o:Obj},i4.heap.get? b=Z o->o.cls≠.none->b≠a->H b=Y:=λ{b o} e d na=>by
   cases q:H b with
   | none=>rfl
   | some u=>
    rcases N b (by rw[q];simp)with l|l
    ·exact absurd l na
    ·rw[(j b l).2.1]at e;cases e;exact absurd rfl d
  have MF:∀{b:QX} {o:Obj},i4.heap.get? b=Z o->H b=Y->(IW i4.heap H).get? b=Z o:=λe n=>adj e n;have j5:∀{b:QX} {o:Obj} {es:Array Qc} {i:Nat},i4.heap.get? b=Z o->o.data=.dict es i->H b=Y:=λ{b o es i} e d=>by
   cases q:H b with
   | none=>rfl
   | some u=>
    rcases N b (by rw[q];simp)with l|l
    ·subst l;rw[g]at e;cases e;have d':Data.seq vs.toArray _=Data.dict es i:=d;cases d'
    ·rw[(j b l).2.1]at e;cases e;have d':Data.fields #[]=Data.dict es i:=d;cases d'
  have X:∀{b:QX} {m:Str->Option Value},i4.heap.Ns b m->(IW i4.heap H).Ns b m:=λ{b m} ⟨o,es,i,e,d,r⟩=>⟨o,es,i,MF e (j5 e d),d,r⟩;have O:K.In (IW i4.heap H):=λb o e=>MF (KX b o e) (by
   cases q:H b with
   | none=>rfl
   | some u=>
    rcases N b (by rw[q];simp)with l|l
    ·subst l;rw[hK (by rw[q];simp)]at e;cases e
    ·rw[(j b l).2.2]at e;cases e)
  have hB:Fi (IW i4.heap H) mg:=by obtain⟨bm,o,b1,b2,b3,J,b5,b6,b7⟩:=R;refine⟨bm,o,b1,b2,b3,MF J (free J (by rw[b5];intro z;cases z) λz=>?_),b5,b6,b7⟩;rw[z,g]at J;cases J;cases b7
  have hM:Mod K mg (IW i4.heap H):=⟨O,X Q,⟨mb,X B,y⟩,let ⟨mc,h1,h2⟩:=C;⟨mc,X h1,h2⟩⟩;have e0:Ei P w K mg (IW i4.heap H) callerA [] i4 H:=⟨rfl,hM,λb o e=>agN e,zb (abq _ _),trivial,λb B=>absurd (show b∈([]:List QX)from B) #[8],E,.of_eq hg⟩;refine qM ((F _ O (X Q) hB).run callerA [] i4 H ⟨[.ref a],[]⟩ [.ref a] [.ref a] _ _ hr e0 (PU i4 #[72]) (.cons rfl .nil) (P6 H M hS)) λr c h=>?_;cases r with
  | error e=>exact(D H e c h).elim
  | ok fl=>
   cases fl with
   | next=>exact False.elim h
   | brk=>exact False.elim h
   | cont=>exact False.elim h
   | ret u=>
    obtain⟨v,H',os,p,un,L,r',q⟩:=h;have q':v=.bl true:=q;subst q';obtain rfl:u=yU true:=r';have o5:∀b o,i4.heap.get? b=Z o->asItWas i4.heap c.heap b o:=λb o e=>by
     by_cases B:b∈Ps
     ·obtain⟨h1,h2,_⟩:=j b B;rw[h2]at e;cases e;obtain⟨more,z⟩:=un.tbls b _ (M.1 b B);have z2:c.heap.get? b=Z {cls:=.none,data:=.fields (#[]++more)}:=L b _ z;exact .inr (.inl ⟨h1,U,#[],more,U,z2⟩)
     ·refine .inl ?_;cases q:H b with
      | none=>exact un.keep b o e q (by intro z;exact absurd (show b∈([]:List QX)from z) #[8]) #[8]
      | some u=>
       rcases M.2 b B with z|⟨ob,xs,z⟩
       ·rw[q]at z;cases z
       ·have z2:=un.frzs b ob _ z;obtain⟨e1,_⟩:=E b _ z;obtain⟨e2,_⟩:=L b _ z2;rw[e]at e1;cases e1;exact e2
    exact⟨U,⟨o5,λb o e=>un.there b o e #[8]⟩,os,p⟩
 have W:a∉Ps:=λz=>by have:=(j a z).2.1;rw[g]at this;cases this
 obtain⟨T,eT⟩:∃T:Hp->Hp,∀G b,T G b=if b∈Ps then Z (.Cw #[])else G b:=⟨λG b=>if b∈Ps then Z (.Cw #[])else G b,λ_ _=>rfl⟩
 have t:∀{G:Hp} {b:QX},b∈Ps->T G b=Z (.Cw #[]):=λ{G b} h=>(eT G b).trans (if_pos h);have S:∀{G:Hp} {b:QX},b∉Ps->T G b=G b:=λ{G b} h=>(eT G b).trans (if_neg h);cases hk:K.lookup a with
 | some o=>
  have e:=KX a o hk;rw[g]at e;cases e;refine f (T λ_=>Y) ⟨λb B=>t B,λb B=>.inl (S B)⟩ (.inr ⟨_,vs.toArray,_,hk,U,U,U,by rw[jP,I];exact hl,by simpa using rv⟩) (λb u z=>?_) (λb z=>?_) λz=>absurd (S W) z
  ·by_cases B:b∈Ps
   ·rw[t B]at z;cases z;exact(j b B).2.1
   ·rw[S B]at z;cases z
  ·by_cases B:b∈Ps
   ·exact .inr B
   ·exact absurd (S B) z
 | none=>
  obtain⟨G,eG⟩:∃G:Hp,∀b,G b=if b=a then Z (.Av {cls:=.type "list",data:=.seq vs.toArray} (.lst #[67]))else Y:=⟨_,λ_=>rfl⟩
  have g1:G a=Z (.Av {cls:=.type "list",data:=.seq vs.toArray} (.lst #[67])):=(eG a).trans (if_pos rfl);have g2:∀{b:QX},b≠a->G b=Y:=λ{b} h=>(eG b).trans (if_neg h);refine f (T G) ⟨λb B=>t B,λb B=>?_⟩ (.inl (.inr ⟨{cls:=.type "list",data:=.seq vs.toArray},(S W).trans g1⟩)) (λb u z=>?_) (λb z=>?_) λ_=>hk
  ·by_cases h:b=a
   ·subst h;exact .inr ⟨_,_,(S B).trans g1⟩
   ·exact .inl ((S B).trans (g2 h))
  ·by_cases B:b∈Ps
   ·rw[t B]at z;cases z;exact(j b B).2.1
   ·rw[S B]at z;by_cases h:b=a
    ·subst h;rw[g1]at z;cases z;exact⟨g,by rw[jQ];exact hl,vs,_,rv,g⟩
    ·rw[g2 h]at z;cases z
  ·by_cases B:b∈Ps
   ·exact .inr B
   ·rw[S B]at z;by_cases h:b=a
    ·exact .inl h
    ·exact absurd (g2 h) z
structure Sx(K:YW)(ts:List QX)(c Pt:QX):Prop where
 hd:XN K c Pt=true
 nl:K.lookup Pt=Y
 tm:Pt∈ts
def aci{l:yt}{n k:Nat}{r:(Str->Option Value)->Heap->Prop}{t:World->Heap->Prop}{d:DefRec}{K:Params->YW}{CX:World->OM}{sp:World->List QX->Sp}(J:l.most=Z n)(N:n<=sizeLine)(y:d.params.defaults=[])(O:cL k callerA)(m:∀(w:World) (h:Heap),t w h->#[136].In h/\∀P,P∈ts->h.get? P=Z (yf #[]))(F:∀(w:World) (mg:Str->Option Value) (A:QX) (h:Heap),#[136].In h->h.Ns qW mg->mg d.name=Z (.ref A)->
   ∃(fd:Qh) (Ps:List QX),(∀b∈Ps,∃c,Sx #[136] ts c b)/\(∀(s:Qz) (u:Value),Qa s fd ⟨[u],[]⟩ [(x,u)]) /\
    ∀base:Heap,#[136].In base->base.Ns qW mg->Fi base mg->aR l.prog w #[136] mg base (CX w) k A fd [x] (sp w Ps))(W:∀(w:World) (Ps:List QX) (H:Hp) (a:QX) (ns:List Int),ns.length<=n->Sn Ps H->mw #[136] H a #[67]->sp w Ps [.ref a] H (λv _=>v=.bl true) λ_ _ _=>False)(D:∀(w:World) (H:Hp) (s:Qz) (e:Value) (i:Qz),CX w [] H s (λ_ _ _=>False) e i->False):
  xw q loose r t l.row.toRowW d [] (λf vs=>xg f vs):=by
 refine Att.Pf J y λw p i4 mg mb A o pm cd X a vs ns G Q ho hd IV L M E S hg=>?_;have I:=(m w _ Q).1;obtain⟨fd,Ps,hT,B,hF⟩:=F w mg A _ I G.T.g L;have R:Fi i4.heap mg:=by obtain⟨bm,ob,b1,b2,C,b4,b5,j⟩:=G.T.bmain;refine⟨bm,ob,b1,b2,λz=>?_,C,b4,b5,j⟩;obtain⟨og,es,ep,e1,e2,_⟩:=G.T.g;rw[z,e1]at C;cases C;rw[e2]at j;cases j
 refine Tz I G.T.g G.T.b G.T.builtins G.T.nolimit hg M E (jW S N) O (λb B=>?_) R hF B (λH hO hS=>W w Ps H a ns S hO hS) λH e i=>D w H i4 e i;obtain⟨c,T⟩:=hT b B;exact⟨ML (Xu I T.hd),(m w _ Q).2 b T.tm,T.nl⟩
end L2
namespace PySem
variable{prog:Qv}{w:World}{A:Around}{s:Qz}{E:Value→Qz→Prop}{us:List Value}{d m:Nat}{a:QX}{o:Obj}
section
inductive Si (prog:Qv) (w:World) (A:Around) (s:Qz):List Value->List Int->Nat->Prop
 | nil:Si prog w A s [] [] 0
 | cons {u:Value} {hu:Int} {du:Nat} {us:List Value} {hs:List Int} {d:Nat} (h:∀(E:Value->Qz->Prop) (t:Nat) (Q:Int->Qz->Prop),Q hu {s with toks:=t+du}->wpAny #[5] A (pyHash u) Q E {s with toks:=t}) (r:Si prog w A s us hs d):Si prog w A s (u::us) (hu::hs) (du+d)
def Si.loop{E:Value->Qz->Prop}{hs:List Int}(x:Si prog w A s us hs d):∀(P:Array Int) (t:Nat) (Q:Array Int->Qz->Prop),Q (P++hs.toArray) {s with toks:=t+d}->wpAny #[5] A (forIn us P λx hs=>do let i <-pyHash x;pure (ForInStep.yield (hs.push i))) Q E {s with toks:=t}:=by
 induction x with
 | nil=>
  intro P t Q h;rw[zr];exact Wv #[113]
 | cons R r K=>
  intro P t Q h;rw[zJ];refine WI (WI (R _ t _ (Wv ?_)));refine K _ _ _ ?_;rw[Zc];simpa using h
def abo{hs:List Int}{Q:Int->Qz->Prop}(S:A.units<cLine)(r:s.TypeIs #[72] "tuple")(V:s.heap.get? a=Z o)(j:o.data=.seq us.toArray m)(x:Si prog w A.in1 s us hs d)(h:Q (reduceHash (yY hs)) {s with toks:=s.toks+(d+1)}):wpAny #[5] A (pyHash #[72]) Q E s:=by
 show wpAny _ _ (pyHashByItsType #[72]) _ _ _;unfold pyHashByItsType;refine WI (wpAny_cRoomFor_or (.inr S) (WI (YL r F.slot_tuple_hash.lookup ?_)));rw[if_neg (by rw[beq_builtin_none "tuple.__hash__"];exact jY)];refine WI (YL r F.slot_tuple_hash.lookup ?_);refine WI (wpAny_callSpecialIfBoundUnlessNone?_slot r xP (WL xP r F.entry_tuple_hash ?_ (F.args_tuple_hash_1 _)));show wpAny #[5] A.in1 (do
  let b <-XH #[72]
  let hs <-forIn b #[] λx hs=>do
   let i <-pyHash x
   pure (ForInStep.yield (hs.push i))
  retInt (yY hs.toList)) _ _ _
 refine WI (wpAny_tupleItemsOf V j (WI ?_));rw[<-Zm];refine x.loop #[] s.toks _ ?_;refine YE ?_;show wpAny _ _ (pyHashByItsType.reduced _) _ _ {s with toks:=s.toks+d+1};rw[Zc];have e:(#[]++hs.toArray).toList=hs:=by simp
 rw[e];exact X0 h
end
end PySem
namespace L2
open PySem PySem.Spec PyProof.Rows
variable{h h' base:Heap}{cs:List QX}{A:Around}{s:Qz}{a b d I S C:QX}{P prog:Qv}{w:World}{H H':Hp}{κ:Type}{v dV:Value}{o:Obj}{X:Cx}{y3:List (QX×Obj)}{σ:St}{pos y4 dv p OG:Pos}{t' n ep j:Nat}{e tg l:Expr}{K:YW}{tl te ta tf:TE}{ix:List (Option Nat)}{Qd:QX→Hp→Prop}{es elts:List Expr}{E Q:Value→Qz→Prop}{vs:List Value}{ss ns:List Str}{u:Tok}{t:TA}{wd:Bool}{R:Result→Qz→Prop}{items ys:Array Value}{m x name:Str}{xs:List V}{sp:Sp}{mg:Str→Option Value}{st:Stmt}{fd:Qh}
abbrev LK:=List (List Int)
inductive ia (h:Heap):List QX->LK->Prop
 | nil:ia h [] []
 | cons {c:QX} {aN:List Value} {ns:List Int} {cs:List QX} {k:LK} (p:h.IsTuple c aN.toArray) (q:Qj aN ns) (r:ia h cs k):ia h (c::cs) (ns::k)
def ia.at(f:∀c xs,h.IsTuple c xs->h'.IsTuple c xs){k:LK}(r:ia h cs k):ia h' cs k:=by
 induction r with
 | nil=>exact .nil
 | cons p q r K=>exact .cons (f _ _ p) q K
theorem ia.one{k:LK}(r:ia h cs k):∀{S:LK},ia h cs S->k=S:=by
 induction r with
 | nil=>intro S D;cases D;rfl
 | cons p q r K=>
  intro S D;cases D with
  | cons n N D=>
   have z:=congrArg ZI (DM p n);simp only at z;subst z;rw[Q1 q N,K D]
def ia.len{k:LK}(r:ia h cs k):cs.length=k.length:=by
 induction r with
 | nil=>rfl
 | cons p q r K=>rw[jX,jX,K]
def Mq(h:Heap)(k:LK)(a:QX):Prop:=∃cs:List QX,h.IsTuple a (cs.map YX).toArray/\ia h cs k
def RC{c:List QX}(z:(cs.map YX).toArray=(c.map YX).toArray):cs=c:=by have:=congrArg ZI z;simp only at this;exact List.map_inj_right (λx y e=>Xo e) |>.mp (by simpa using this)
theorem ia.eq{A:Around}{s:Qz}(hs:s.heap=h)(S:A.units<cLine):∀{cs c:List QX} {x y:LK},ia h cs x->ia h c y->∀(j:Nat) (h1:j<cs.length) (M:j<c.length),yO A s (.ref cs[j]) (.ref c[j]) (decide (x[j]?=y[j]?))
 | _,_,_,_,.nil,_,j,h1,_=>absurd h1 (Jd _)
 | _,_,_,_,.cons _ _ _,.nil,j,_,M=>absurd M (Jd _)
 | _,_,_,_,.cons p q r,.cons n N D,0,_,_=>by subst hs;have e:=λprog w E Q h=>wpAny_eqBool_tuple (A:=A) (E:=E) (s:=s) (Q:=Q) (knd:=qS prog w) S (Ft.tk p q) (Ft.tk n N) h;intro prog w E Q W;refine e prog w E Q ?_;simpa using W
 | _,_,_,_,.cons p q r,.cons n N D,j+1,h1,M=>by have:=ia.eq hs S r D j (Jv h1) (Jv M);exists 33
def all_eq(x y:LK):((ji (min x.length y.length)).all (λj=>decide (x[j]?=y[j]?))&&x.length==y.length)=decide (x=y):=by
 by_cases c:x=y
 ·subst c;simp
 ·rw[decide_eq_false c];by_cases l:x.length=y.length
  ·rw[Bool.and_eq_false_iff];left;rw[<-Bool.not_eq_true,ZM];intro z;refine c (Zr λj=>?_);by_cases f:j<x.length
   ·exact of_decide_eq_true (z j (JC.mpr #[2]))
   ·rw[JO #[2],JO #[2]]
  ·rw[beq_false_of_ne l,ZT]
def agG{x y:LK}(d:A.units+1<cLine)(J:Mq s.heap x a)(N:Mq s.heap y b):yO A s #[72] (.ref b) (decide (x=y)):=by
 obtain⟨cs,S,L⟩:=J;obtain⟨c,O,n⟩:=N;by_cases e:a=b
 ·subst e;have z:=RC (DM S O);subst z;rw[decide_eq_true (L.one n)];exact Xa _
 ·have z:=xQ (A:=A) (e:=λj=>decide (x[j]?=y[j]?)) S O #[2] λj G M=>by
   have D:j<cs.length:=by simpa using G
   have v:j<c.length:=by simpa using M
   have:=ia.eq (A:=A.in1) (s:=s) rfl (by show A.units+1<cLine;exact d) L n j D v;exists 33
  have g:((ji (min ((cs.map YX).toArray).size ((c.map YX).toArray).size)).all (λj=>decide (x[j]?=y[j]?))&&((cs.map YX).toArray).size==((c.map YX).toArray).size)=decide (x=y):=by rw[<-all_eq x y,<-L.len,<-n.len];simp
  rw[g]at z;exact xG e z
def anZ(P:Qv)(w:World)(k:LK):Int:=reduceHash (yY (k.map (tupleKeyHash (qS P w))))
def Tw(k:LK):Nat:=(k.map λns=>ns.length+1).sum
def ia.hs(S:A.units<cLine){k:LK}(r:ia s.heap cs k):Si P w A s (cs.map YX) (k.map (tupleKeyHash (qS P w))) (Tw k):=by
 induction r with
 | nil=>exact .nil
 | cons p q r K=>
  unfold Tw;rw[jy,jy,jy,QM];exact .cons (λE t' Q W=>wpAny_pyHash_tuple (knd:=qS P w) (s:={s with toks:=t'}) S (Ft.tk p q) W) K
def an0(P:Qv)(w:World):HeapKind P w LK where
 is:=Mq
 hash:=anZ P w
 draws:=λk=>Tw k+1
 room:=λA=>A.units+1<cLine
 inj:=λ{h a x y} hx hy=>by obtain⟨cs,p1,p2⟩:=hx;obtain⟨cs',q1,q2⟩:=hy;have z:=RC (DM p1 q1);subst z;exact p2.one q2
 keeps:=λ{h h' k a d o es ep} x ho hd hs=>by obtain⟨cs,p1,p2⟩:=x;exact⟨cs,Ef p1 ho hd hs,p2.at λc xs q=>Ef q ho hd hs⟩
 pyHash:=λ{A E s k a Q} hr hk h=>by
  obtain⟨cs,p1,p2⟩:=hk;have hT:s.TypeIs #[72] "tuple" :=by obtain⟨o,h1,h2,_⟩:=p1;exact⟨o,h1,h2⟩
  obtain⟨o,h1,h2,m,h3⟩:=p1;exact abo #[2] hT h1 h3 (p2.hs (by show A.units+1<cLine;exact hr)) h
 eqBool:=λ{A E s x y a b Q} hr hx hy h=>agG hr hx hy P w E Q h
 quiet:=λ{A E s k a Q} hk h=>by
  obtain⟨cs,p1,p2⟩:=hk;obtain⟨o,h1,h2,m,h3⟩:=p1;refine L7 (n:=7) ⟨o,h1,h2⟩ h1 h3 (λy hy Q hq=>?_) h;have:∀{cs:List QX} {k:LK},ia s.heap cs k->y∈cs.map YX->wpAny #[42] A (eqIsQuiet 7 y) Q E s:=by
   intro cs k r
   induction r with
   | nil=>intro hy;cases hy
   | cons p q r ih=>
    intro hy;rcases jL.mp hy with rfl|z
    ·obtain⟨o',g1,g2,m',g3⟩:=p;exact L7 (n:=6) ⟨o',g1,g2⟩ g1 g3 (λy hy Q hq=>ab1 (adu q y (by simpa using hy)) Q hq) hq
    ·exact ih z
  exact this p2 (by simpa using hy)
def fQ(H:Hp)(k:LK)(b:QX):Prop:=∃cs:List QX,H b=Z (.tup (cs.map V.ref))/\Qs (λc ns=>H c=Z (.tup #[67])) cs k
def fQ.same{k:LK}(h:fQ H k b)(s:∀b xs,H b=Z #[39]->H' b=Z #[39]):fQ H' k b:=by
 obtain⟨c,T,g⟩:=h;exists c,s _ _ T;clear T
 induction g with
 | nil=>exact .nil
 | cons p r K=>exact .cons (s _ _ p) K
def fQ.is{k:LK}(ok:fq P w H h)(x:fQ H k b):Mq h k b:=by
 obtain⟨cs,T,g⟩:=x;obtain⟨C,t,r,p⟩:=(show bp P w H h b (.tup (cs.map V.ref))from ok b _ T);have v:=Aq r;subst v;exists cs,p;clear T r p C
 induction g with
 | nil=>exact .nil
 | cons q r K=>
  obtain⟨_,W,i,L⟩:=(show bp P w H h _ (.tup _)from ok _ _ q);exact .cons L (Iv i) K
structure KK(κ:Type)[DecidableEq κ] where
 kd:∀(P:Qv) (w:World),HeapKind P w κ
 kat:Hp->κ->QX->Prop
 same:∀{H H':Hp} {k:κ} {b:QX},kat H k b->(∀b xs,H b=Z #[39]->H' b=Z #[39])->kat H' k b
 is:∀{P:Qv} {w:World} {H:Hp} {h:Heap} {k:κ} {b:QX},fq P w H h->kat H k b->(kd P w).is h k b
 room:∀(P:Qv) (w:World) (A:Around),A.units+1<cLine->(kd P w).room A
def EA:KK LK:=⟨an0,fQ,fQ.same,fQ.is,λ_ _ _ h=>h⟩
def kkI:KK (List Int):=⟨λP w=>qv (qS P w),λH k b=>H b=Z (.tup (k.map V.int)),λh s=>s _ _ h,λ{P w H h k b} ok x=>by obtain⟨_,IC,r2,p2⟩:=(show bp P w H h _ (.tup _)from ok _ _ x);exact Ft.tk p2 (Iv r2),λP w A h=>by show A.units<cLine;omega⟩
def Pc(vf:Nat->V):Nat->List #[158]->List (κ×QX×Value)->Prop
 | _,[],xs=>xs=[]
 | n,p::ks,xs=>∃v xs',xs=(p.1,p.2,v)::xs'/\RelV (vf n) v/\Pc vf (n+1) ks xs'
section
variable[DecidableEq κ]{vf:Nat->V}{k:κ}
theorem Pc.snoc:∀{ks:List #[158]} {n:Nat} {xs:List (κ×QX×Value)},Pc vf n ks xs->RelV (vf (n+ks.length)) v->Pc vf n (ks++[(k,b)]) (xs++[(k,b,v)])
 |[],n,xs,h,r=>by cases(show xs=[]from h);exact⟨v,[],U,r,U⟩
 | p::ks,n,xs,h,r=>by obtain⟨t',a,rfl,D,h'⟩:=h;refine⟨t',_,U,D,Pc.snoc h' ?_⟩;rw[show n+1+ks.length=n+(p::ks).length by rw[jX];omega];exact r
theorem Pc.keys:∀{ks:List #[158]} {n:Nat} {xs:List (κ×QX×Value)},Pc vf n ks xs->xs.map (λx=>(x.1,x.2.1))=ks
 |[],n,xs,h=>by cases(show xs=[]from h);rfl
 | p::ks,n,xs,h=>by obtain⟨t',a,rfl,D,h'⟩:=h;rw[jy,Pc.keys h']
theorem Pc.none:∀{ks:List #[158]} {n:Nat} {xs:List (κ×QX×Value)},Pc vf n ks xs->k∉ks.map (·.1)->atKey xs k=Y
 |[],n,xs,h,_=>by cases(show xs=[]from h);rfl
 | p::ks,n,xs,h,C=>by obtain⟨t',a,rfl,D,h'⟩:=h;have K:=Pc.none h' λz=>C (jJ _ z);unfold atKey at K ⊢;rw[ZS (by simpa using λz=>C (by rw[<-z];exact jC))];exact K
theorem Pc.there:∀{ks:List #[158]} {n j:Nat} {xs:List (κ×QX×Value)},Pc vf n ks xs->(ks.map (·.1)).Nodup->(ks.map (·.1))[j]?=Z k->∃b v,atKey xs k=Z (b,v)/\RelV (vf (n+j)) v
 |[],n,j,xs,h,_,C=>by cases C
 | p::ks,n,0,xs,h,O,C=>by obtain⟨t',a,rfl,D,h'⟩:=h;cases(show Z p.1=Z k from C);refine⟨p.2,t',?_,D⟩;unfold atKey;rw[List.find?_cons_of_pos #[8]];rfl
 | p::ks,n,j+1,xs,h,O,C=>by obtain⟨t',a,rfl,D,h'⟩:=h;have L:=jn.mp O;have g:(ks.map (·.1))[j]?=Z k:=C;obtain⟨b,t,e,r⟩:=Pc.there h' L.2 g;refine⟨b,t,?_,by rw[show n+(j+1)=n+1+j by omega];exact r⟩;unfold atKey at e ⊢;rw[ZS (by simpa using λz=>L.1 (by show p.1∈_;rw[z];exact JS g)),e]
end
def lD[DecidableEq κ](kk:KK κ)(P:Qv)(w:World)(d:QX)(vf:Nat->V)(ks:List #[158])(o:Obj)(h:Heap):Prop:=(d==qu)=false/\ks.length<=sizeLine/\(ks.map (·.1)).Nodup/\∃xs es ep,Pc vf 0 ks xs/\h.get? d=Z o/\o.ExactDict/\o.data=.dict es ep/\es.toList=xs.map (entryOfKey (kk.kd P w))
def Mr[DecidableEq κ](kk:KK κ)(P:Qv)(w:World)(d:QX)(vf:Nat->V)(ks:List #[158])(h:Heap):Prop:=∃o,lD kk P w d vf ks o h
abbrev bS[DecidableEq κ](kk:KK κ)(P:Qv)(w:World)(d:QX)(vf:Nat->V)(ks:List #[158]):HO:=.ext (Mr kk P w d vf ks)
abbrev pV[DecidableEq κ](kk:KK κ)(P:Qv)(w:World)(d:QX)(vf:Nat->V)(ks:List #[158])(o:Obj):HO:=.ext (lD kk P w d vf ks o)
def lD.keep[DecidableEq κ]{kk:KK κ}{S:Nat->V}{ks:List #[158]}(x:lD kk P w d S ks o h)(k:∀o,h.get? d=Z o->h'.get? d=Z o):lD kk P w d S ks o h':=
 let ⟨a1,a2,a3,xs,es,ep,a4,a5,a6,a7,a8⟩:=x;⟨a1,a2,a3,xs,es,ep,a4,k o a5,a6,a7,a8⟩
def lD.obj[DecidableEq κ]{kk:KK κ}{S:Nat->V}{ks:List #[158]}(x:lD kk P w d S ks o h):h.get? d=Z o:=let ⟨_,_,_,_,_,_,_,a5,_,_,_⟩:=x;a5
def Mr.ok[DecidableEq κ]{kk:KK κ}{S:Nat->V}{ks:List #[158]}(x:lD kk P w d S ks o h):bp P w H h d (bS kk P w d S ks):=
 ⟨⟨o,x⟩,⟨o,x.obj⟩,λG M y k=>let ⟨o,y⟩:=y;⟨o,y.keep k⟩⟩
def lD.ok[DecidableEq κ]{kk:KK κ}{S:Nat->V}{ks:List #[158]}(x:lD kk P w d S ks o h):bp P w H h d (pV kk P w d S ks o):=
 ⟨x,⟨o,x.obj⟩,λG M y k=>y.keep k⟩
def lS[DecidableEq κ](kk:KK κ)(H:Hp)(ks:List #[158]):Prop:=∀p∈ks,kk.kat H p.1 p.2
theorem lS.same[DecidableEq κ]{kk:KK κ}{ks:List #[158]}(h:lS kk H ks)(s:∀b xs,H b=Z #[39]->H' b=Z #[39]):lS kk H' ks:=λp D=>kk.same (h p D) s
section
variable[DecidableEq κ]{kk:KK κ}{vf:Nat->V}{ks:List (κ×QX)}
def aae(ok:fq P w H h)(x:lD kk P w d vf ks o h)(C:lS kk H ks):∃xs,Pc vf 0 ks xs/\h.DictOfH (kk.kd P w) d xs:=by
 obtain⟨i,v,n,xs,es,ep,m,b,c,a,e⟩:=x;have g:=m.keys;refine⟨xs,m,o,es,ep,b,c,a,e,λx J=>?_,?_⟩
 ·exact kk.is ok (C (x.1,x.2.1) (by rw[<-g];exact jK.mpr ⟨x,J,U⟩))
 ·have:xs.map (λx=>x.1)=ks.map (·.1):=by rw[<-g,JN];rfl
  rw[this];exact n
def Hx(I:Inv X y3 σ H s)(e:H d=Z (bS kk X.prog X.w d vf ks)):∃o,lD kk X.prog X.w d vf ks o s.heap:=by obtain⟨⟨o,x⟩,_⟩:=(show bp X.prog X.w H s.heap d (bS kk X.prog X.w d vf ks)from I.hok d _ e);exact⟨o,x⟩
end
def ahB[DecidableEq κ](kk:KK κ)(P:Qv)(w:World)(ty td:TE):TE:=λσ H Q=>ty σ H λy H1=>td σ H1 λx H2=>∃d b k vf ks,x=.ref d/\y=.ref b/\H2 d=Z (bS kk P w d vf ks)/\lS kk H2 ks/\kk.kat H2 k b/\Q (.bl (!decide (k∈ks.map (·.1)))) H2
def aoE[DecidableEq κ](kk:KK κ)(P:Qv)(w:World)(td ty tv:TE):TS:=λD σ H=>tv σ H λv H1=>td σ H1 λx H2=>ty σ H2 λy H3=>∃d b k vf ks,x=.ref d/\y=.ref b/\v=vf ks.length/\H3 d=Z (bS kk P w d vf ks)/\lS kk H3 ks/\kk.kat H3 k b/\k∉ks.map (·.1)/\ks.length<sizeLine/\D.nx σ (upd H3 d (bS kk P w d vf (ks++[(k,b)])))
def alb[DecidableEq κ](kk:KK κ)(P:Qv)(w:World)(trs:List (TE×TE)):TE:=λσ H Q=>∃vf,∀p,H p=Y->OE trs σ (upd H p (bS kk P w p vf [])) λps H2=>H2 p=Z (bS kk P w p vf [])/\∃b k,ps=[(.ref b,vf 0)]/\kk.kat H2 k b/\Q (.ref p) (upd H2 p (bS kk P w p vf [(k,b)]))
section
variable[DecidableEq κ]{kk:KK κ}{pos':Pos}{o i value:Expr}{td ty tv:TE}
def abU(R:X.A.units+2<cLine)(W:PE X i ty)(V:PE X o td):PC X .NotIn i o (ahB kk X.prog X.w ty td):=by
 exists 2;refine bR (W y3 s σ H _ I h) λz T ⟨y,g,P,N,O⟩=>bR (V y3 T σ g _ P O) λu r ⟨x,G,E,F,d,b,k,S,a,ex,K,e,C,B,n⟩=>?_;subst ex K;obtain rfl:u=YX d:=F;obtain rfl:z=YX b:=N;obtain⟨v,lo⟩:=Hx E e;obtain⟨xs,L,dd⟩:=aae E.hok lo C;obtain⟨f,D,l,_⟩:=lo;refine Wo (knd:=kk.kd X.prog X.w) (kk.room _ _ _ (show X.A.units+1+1<cLine by omega)) (kk.is E.hok B) f dd ⟨.bl (!decide (k∈a.map (·.1))),G,E.tok _,?_,n⟩;by_cases c:k∈a.map (·.1)
 ·obtain⟨j,m,p⟩:=jo c;obtain⟨J,t,q,_⟩:=L.there l (j:=j) (by rw[jE m,p]);rw[q,decide_eq_true c];rfl
 ·rw[L.none c,decide_eq_false c];rfl
def adC{S:Nat->V}{k:κ}{ks:List #[158]}{xs:List (κ×QX×Value)}{t':Nat}(I:Inv X y3 σ H s)(e:H d=Z (bS kk X.prog X.w d S ks))(i:(d==qu)=false)(f:(ks.map (·.1)).Nodup)(L:Pc S 0 ks xs)(j:RelV (S ks.length) v)(Q:k∉ks.map (·.1))(l:ks.length<sizeLine)(m:h'.DictOfH (kk.kd X.prog X.w) d (storedH xs k b v))(n:Yf d s.heap h'):Inv X y3 σ (upd H d (bS kk X.prog X.w d S (ks++[(k,b)]))) {s with heap:=h',toks:=t'}:=by
 have g:storedH xs k b v=xs++[(k,b,v)]:=by unfold storedH;rw[L.none Q];rfl
 rw[g]at m;obtain⟨r,es,ep,D,o,p,q,_,_⟩:=m;have h:=L.snoc (k:=k) (b:=b) (v:=v) (by rw[Jj];exact j);refine sr I #[91] n ⟨r,D⟩ (Mr.ok ⟨i,by rw[jG];exact l,?_,_,es,ep,h,D,o,p,q⟩);rw[jB];exact JH.mpr ⟨f,jn.mpr ⟨by simp,Je⟩,λa t c O z=>Q (by have T:c=k:=jH.mp O;rw[<-T,<-z];exact t)⟩
def aas(S:X.A.units+2<cLine)(V:PE X o td)(W:PE X i ty)(M:PE X value tv)(hs:qq value (Z (.Subscript o i pos')) pos.line X.env=pure false):
  PS X (.Assign [.Subscript o i pos'] value pos) (aoE kk X.prog X.w td ty tv):=by
 exists 18;refine qz (bR (M y3 s σ H _ I h) λr T ⟨v,g,P,f,O⟩=>bR (V y3 T σ g _ P O) λu j ⟨x,G,E,F,a⟩=>bR (W y3 j σ G _ E a) λz s3 ⟨y,H3,q,N,d,b,k,vf,ks,ex,K,c,e,C,B,Q,l,p⟩=>?_) hs;subst ex K c;obtain rfl:u=YX d:=F;obtain rfl:z=YX b:=N;obtain⟨ob,lo⟩:=Hx q e;obtain⟨xs,L,dd⟩:=aae q.hok lo C;obtain⟨m,a2,t,_⟩:=lo;have J:xs.length<=sizeLine:=by have:=congrArg Jg L.keys;rw[jQ]at this;omega
 exact YJ (knd:=kk.kd X.prog X.w) (hsz:=J) (kk.room _ _ _ (show X.A.units+1+1<cLine by omega)) (kk.is q.hok B) dd λh' R n=>⟨σ,_,adC q e m t L f Q l R n,p⟩
def Rr{k v:Expr}{f:List (TE×TE)}(l:X.A.units+2<cLine)(h:PPs X pos [Z k] [v] f):PE X (.Dict [Z k] [v] pos) (alb kk X.prog X.w f):=by
 intro y3 s σ H Q I q;obtain⟨S,q⟩:=q;have R:=I.hok.fresh (jD s.heap.objs.size);have P:=I.laid (a:=s.heap.objs.size) (o:=bS kk X.prog X.w s.heap.objs.size S []) (h':=s.heap.push {cls:=.type "dict",data:=.dict #[]}) (t':=s.toks) (λ_ _ q=>jA _ q) (jD _) (Mr.ok ⟨beq_eq_false_iff_ne.mpr (Ne.symm (jM I.big)),je _,Je,[],#[],0,rfl,jF _ rfl,⟨rfl,rfl,rfl⟩,rfl,rfl⟩);refine wpAny_Dict_any rfl rfl #[0] (by show 1<=15;decide) (bR (h y3 _ σ _ _ P (q _ R)) λC x ⟨ps,G,E,rel,e,b,y,ep,B,n⟩=>?_);subst ep;obtain⟨u,d,c,m,N⟩:∃u d,C=[(u,d)]/\RelV (.ref b) u/\RelV (S 0) d:=by
  cases rel with
  | cons r t=>
   cases t;exact⟨_,_,U,r.1,r.2⟩
 subst c;have F:u=YX b:=m;subst F;obtain⟨J,lo⟩:=Hx E e;obtain⟨xs,L,dd⟩:=aae E.hok lo (λp D=>by cases D);obtain⟨i,K,g,_⟩:=lo;cases(show xs=[]from L);exact ab7 (WQ (hsz:=by show 0<=sizeLine;decide) (kk.room _ _ _ (show X.A.units+1<cLine by omega)) (kk.is E.hok B) dd λh' j hs=>⟨.ref s.heap.objs.size,_,adC E e i g L N (λz=>by cases z) (by show 0<sizeLine;decide) j hs,U,n⟩)
inductive ae7 (kk:KK κ) (P:Qv) (w:World) (ty:TE) (σ:St) (Q:VK) (x:V) (H1:Hp):Prop
 | mk (d:_) (vf:_) (ks:_) (_:x=.ref d) (_:H1 d=Z (bS kk P w d vf ks)) (_:ty σ H1 λy H2=>∃b k,y=.ref b/\H2 d=Z (bS kk P w d vf ks)/\lS kk H2 ks/\kk.kat H2 k b/\(∀j:Nat,(ks.map (·.1))[j]?=Z k->Q (vf j) H2)/\(k∉ks.map (·.1)->Q .non H2))
def alf(kk:KK κ)(P:Qv)(w:World)(td ty:TE):TE:=λσ H Q=>td σ H (ae7 kk P w ty σ Q)
def aej(hu:X.A.units+2<cLine)(V:PE X o td)(R:PE X e ty)(m:M1 X o "get" y4 e dv):PE X (.Call (.Attribute o "get" y4) [e] [] dv) (alf kk X.prog X.w td ty):=by
 exists 2;refine WC m.base m.A2 m.line Yw yG Xf (bR #[103] λu T ⟨x,g,P,f,d,S,a,ex,i,O⟩=>?_);subst ex;obtain rfl:u=YX d:=f;obtain⟨M,l1,_,_,_,_,_,_,D,v,_,_⟩:=Hx P i;refine⟨⟨M,D,v.1⟩,λb q=>?_,?_⟩
 ·cases q;exact⟨M,D,v.2.1⟩
 rw[m.trees];refine Ys rfl (yB (Yn (bR (R y3 T σ g _ P O) λz s2 ⟨y,G,E,N,b,k,K,l,C,B,n,p⟩=>yD ?_)));subst K;obtain rfl:z=YX b:=N;obtain⟨ob,lo⟩:=Hx E l;obtain⟨xs,L,dd⟩:=aae E.hok lo C;obtain⟨W,a2,a3,_⟩:=lo;refine qI yG dd.typeIs yi (PySem.F.args_dict_get_2 _ _) (meetsH_dict_get (kk.kd X.prog X.w) d b W) ⟨kk.room _ _ _ (show X.A.units+1+1<cLine by omega),k,xs,kk.is E.hok B,dd,?_⟩;by_cases c:k∈a.map (·.1)
 ·obtain⟨j,hj,ej⟩:=jo c;have J:(a.map (·.1))[j]?=Z k:=by rw[jE hj,ej]
  obtain⟨b',t,e',r⟩:=L.there a3 J;rw[Jj]at r;rw[e'];exact⟨S j,G,E.tok _,r,n j J⟩
 ·rw[L.none c];exact⟨.non,G,E.tok _,U,p c⟩
inductive aot (kk:KK κ) (P:Qv) (w:World) (xs:List V) (H:Hp) (Q:VK):Prop
 | mk (d:_) (vf:_) (ks:_) (_:xs=[.ref d]) (_:H d=Z (bS kk P w d vf ks)) (_:Q (.int ks.length) H)
def C5:hX X (.builtin "len") (aot kk X.prog X.w):=by
 intro y3 s σ H xs S Q I r h;obtain⟨d,b,a,rfl,j,q⟩:=h;exists 11;cases F;obtain⟨o,i,v,n,xs,es,ep,L,G,M,J,k⟩:=Hx I j;have sz:es.size=a.length:=by have T:=congrArg Jg k;have g:=congrArg Jg L.keys;rw[jQ]at T g;rw[<-g,<-T,jg]
 exact agF i ⟨o,G,M.1⟩ ⟨o,es,ep,G,J,sz⟩ (by rw[qg]at v;omega) ⟨.int a.length,H,I.tok _,⟨_,U⟩,q⟩
end
def Inv.af7[DecidableEq κ]{kk:KK κ}{S:Nat->V}{ks:List #[158]}(I:Inv X y3 σ H s)(e:H d=Z (bS kk X.prog X.w d S ks))(x:lD kk X.prog X.w d S ks o s.heap):Inv X y3 σ (upd H d (pV kk X.prog X.w d S ks o)) s:=
 sr (h':=s.heap) (t':=s.toks) I #[91] ⟨rfl,λ_ _=>rfl⟩ ⟨o,x.obj⟩ x.ok
def aiK[DecidableEq κ](kk:KK κ)(P:Qv)(w:World)(a:QX)(vf:Nat->V)(ks:List #[158])(o:Obj):It:=
 ⟨λi H=>i<ks.length/\H a=Z (pV kk P w a vf ks o),λi H x H'=>H'=H/\∀p,ks[i]?=Z p->x=.ref p.2,λi H=>i=ks.length/\H a=Z (pV kk P w a vf ks o)⟩
def DK[DecidableEq κ]{kk:KK κ}{S:Nat->V}{ks:List #[158]}(ok:fq P w H h)(e:H a=Z (pV kk P w a S ks o)):∃es:Array Qc,Fx h a es (mY o)/\(a==qu)=false/\es.size=ks.length/\∀(j:Nat) (f:j<es.size) (B:j<ks.length),(es[j]).key=.ref (ks[j]).2:=by
 obtain⟨⟨i,v,n,xs,es,ep,L,G,M,J,k⟩,_⟩:=(show bp P w H h a (pV kk P w a S ks o)from ok a _ e);have y:mY o=ep:=by unfold mY;rw[J]
 have g:=L.keys;have sz:es.size=xs.length:=by have:=congrArg Jg k;rw[jQ]at this;exists 33
 have F:xs.length=ks.length:=by rw[<-g,jQ]
 refine⟨es,⟨o,G,M,by rw[y];exact J⟩,i,by omega,λj f B=>?_⟩;have E:es[j]=entryOfKey (kk.kd P w) (xs[j]'#[2]):=by have:=congrArg (λl=>l[j]?) k;simp only[JV,jU]at this;rw[jx f,jE #[2]]at this;exact Option.some.inj this
 rw[E];subst g;rw[Jq];rfl
theorem W0[DecidableEq κ]{kk:KK κ}(a N:QX)(o:Obj)(S:Nat->V)(ks:List #[158]):Turn P w K tg (aiK kk P w a S ks o) [N] N (λi h=>h.IsKeyIter N a i ks.length (mY o)) where
 mem:=by simp
 obj:=λi h st b B=>by
  have e:b=N:=by simpa using B
  subst e;obtain⟨o,e,c,d⟩:=st;exists 5
 keep:=λi h h' st k=>by obtain⟨t,e,r⟩:=st;exact⟨t,k N #[8] t e,r⟩
 item:=by
  exists 4;subst j G g;obtain⟨W,C⟩:=m;obtain⟨es,f,lo,sz,n⟩:=DK I.hok C;obtain⟨R,L,u,q,D,T⟩:=l N #[8];rw[<-sz]at st;refine Rf st f #[2] λh' x y=>?_;have J:Inv X y3 σ H {s with heap:=h'}:=I.turned (t':=s.toks) (λb o B e=>(y.2 b B).trans e) R L q D T;rw[sz]at x;obtain⟨t,e,c,d⟩:=id x;refine⟨_,U,Ly (s:={s with heap:=h'}) e c d #[10] ⟨.ref (ks[i]).2,H,J,?_,⟨U,λp' p=>?_⟩,x,λb B=>(l b B).1⟩⟩
  ·rw[n i #[2] W];rfl
  ·rw[jE W]at p;cases p;rfl
 done:=by exists 4;subst j G g;obtain⟨W,C⟩:=m;obtain⟨es,f,lo,sz,n⟩:=DK I.hok C;obtain⟨R,L,u,q,D,T⟩:=l N #[8];subst W;rw[<-sz]at st;exact Y6 #[123] st f λh' M=>⟨U,I.turned (t':=s.toks) (λb o B e=>M b o B e) R L q D T⟩
 self:=λA i s Q E st h=>by refine Wz st.typeIs Yy (WL Yy st.typeIs yc ?_ (ya _));show wpAny _ _ (ret (.ref N)) _ _ s;exact Wv ⟨_,U,"dict_keyiterator",_,st.typeIs,PySem.F.slot_dict_keyiterator_next.lookup,h⟩
section
variable[DecidableEq κ]{kk:KK κ}
def ajQ{κ:Type}[DecidableEq κ](kk:KK κ)(P:Qv)(w:World)(tl:TE):TI:=λσ H R=>tl σ H λx H1=>∃a vf ks,x=.ref a/\H1 a=Z (bS kk P w a vf ks)/\∀o,R (aiK kk P w a vf ks o) (upd H1 a (pV kk P w a vf ks o))
def aep(L:PE X l tl):PI X tg l (ajQ kk X.prog X.w tl):=by exists 24;exists 7;obtain⟨a,S,d,e,j,q⟩:=O;subst e;cases F;obtain⟨t,c⟩:=Hx P j;have E:=P.af7 j c;obtain⟨es,f,lo,sz,C⟩:=DK E.hok ae;refine Q4 lo f ?_;refine⟨T.heap.objs.size,[T.heap.objs.size],_,_,_,U,E.kept (t':=T.toks) λb o e=>jA _ e,W0 a _ t S d,⟨_,jF _ rfl,U,by rw[sz];rfl⟩,λb B=>?_,q t⟩;exists 12;subst e;exact E.G0 (jD _) (E.hok.fresh (jD _))
end
def SS[DecidableEq κ]{kk:KK κ}{S:Nat->V}{ks:List #[158]}(d:QX->Nat->List V->Hp->Prop)(I:∀D,H D=Y->d D 0 [] #[50])(L:∀D i ys H',i<=ks.length->d D i ys H'->H' a=Z (pV kk P w a S ks o))(hs:∀D i p ys H' (F:VK),H D=Y->ks[i]?=Z p->H' D=Z #[76]->d D i ys H'->#[7] ->
   te (#[47].set 0 (Z (.ref p.2))) H' F)(j:∀D ys H',H D=Y->H' D=Z #[76]->d D ks.length ys H'->Qd D H'):Bz (aiK kk P w a S ks o) ix (aP 0) te σ H Qd:=by
 intro D X;refine⟨λi m O H'=>m=ks.length-i/\i<=ks.length/\#[83]/\∃ys,H' D=Z #[76]/\d D i ys H',⟨ks.length,by simp,je _,.inl rfl,[],ae,I D X⟩,?_⟩;exists 6;have q:=L D i ys H' W p;by_cases f:i<ks.length
 ·refine .inr ⟨⟨f,q⟩,λx G y=>?_⟩;obtain⟨T,g⟩:=y;subst T;have ex:=g ks[i] (jE f);subst ex;have es:O.set 0 (Z (.ref (ks[i]).2))=#[47].set 0 (Z (.ref (ks[i]).2)):=by
   exists 30
   ·rw[z]
   ·rw[z,Jp]
  show te (O.set 0 (Z (.ref (ks[i]).2))) _ _;rw[es];refine hs D i ks[i] ys _ _ X (jE f) N p λy B k C h=>⟨ys,k,C,ks.length-(i+1),by omega,U,f,.inr ⟨_,U⟩,ys++[y],ae,h⟩
 ·have e:i=ks.length:=by omega
  subst e;exact .inl ⟨⟨U,q⟩,j D ys H' X N p⟩
theorem CA:∀{ns:List Str} {us:List Value},Vals (ns.map V.str) us->qA us ns
 |[],_,h=>by cases h;exact .nil
 | n::ns,_,h=>by
  cases h with
  | cons r t=>
   obtain⟨tk,rfl⟩:=r;exact .cons n tk (CA t)
theorem Iu:∀{ns:List Str} {us:List Value},qA us ns->Vals (ns.map V.str) us
 | _,_,.nil=>.nil
 | _,_,.cons n t r=>.cons ⟨t,rfl⟩ (Iu r)
section
inductive rJoin (x:V) (vs:List V) (H:Hp) (Q:VK):Prop
 | mk (z:Str) (l:QX) (ys:List Str) (_:x=.str z) (_:vs=[.ref l]) (_:H l=Z (.lst (ys.map V.str))) (_:(ys.map (·.length)).sum+ys.length*z.length<=16777216) (_:Q (.str (Txt.join z ys)) H)
def agJ:MtM X "str.join" rJoin:=by intro y3 s σ H x vs v S Q I F f h;obtain⟨z,l,ys,rfl,rfl,a,ok,q⟩:=h;exists 9;obtain⟨u,rfl,m⟩:=f.one;cases m;obtain⟨j,b,n,r,L,e⟩:=I.EC a;exact join_list ⟨_,e,U,n,U⟩ (by simpa using CA r) ok λt' k=>⟨.str _,H,I.tok _,⟨_,U⟩,q⟩
end
def cR(val:Nat->Str)(i:Nat):List Str:=((ji i).map val).foldl step_dedup []
def wz(val:Nat->Str)(i:Nat):cR val (i+1)=step_dedup (cR val i) (val i):=by unfold cR;rw[JP,jB,ju];rfl
def SX(s:List Str)(v:Str):(step_dedup s v).length<=s.length+1:=by
 unfold step_dedup;split
 ·omega
 ·rw[jG];exact jD _
theorem mP(val:Nat->Str):∀i,(cR val i).length<=i
 | 0=>jD _
 | i+1=>by rw[wz];have:=mP val i;have:=SX (cR val i) (val i);omega
theorem StrsAre.aeZ:∀{vs:List Value} {ns:List Str},qA vs ns->∀(i:Nat) (v:Value),vs[i]?=Z v->∃t,v=.str (ns.getD i Str.empty) t
 | _,_,.nil,i,v,h=>by simp at h
 | _,_,.cons y t r,0,v,h=>⟨t,#[127].symm⟩
 | _,_,.cons y t r,i+1,v,h=>by obtain⟨t',e⟩:=StrsAre.aeZ r i v #[113];exact⟨t',by simpa using e⟩
theorem StrsAre.aag:∀{vs:List Value} {ns:List Str},qA vs ns->vs.length=ns.length
 | _,_,.nil=>rfl
 | _,_,.cons _ _ r=>by simp[StrsAre.aag r]
def N4(a b:Str):Prop:=¬ b.cps.toList<a.cps.toList
def N4.trans{a b c:Str}(h:N4 a b)(h':N4 b c):N4 a c:=zt.mpr (List.le_trans (zt.mp h) (zt.mp h'))
theorem L8:∀(l:List Str) (p:Str),risingS p l=true->(p::l).Pairwise N4
 |[],p,_=>zR ..
 | x::r,p,h=>by
  have h':(!ltCps x.cps.toList p.cps.toList&&risingS x r)=true:=h;obtain⟨G,M⟩:=Bool.and_eq_true_iff.mp h';have i:N4 p x:=by intro z;rw[ltCps_eq,decide_eq_true z]at G;cases G
  have K:=L8 r x M;refine Jt.mpr ⟨λy N=>?_,K⟩;rcases jL.mp N with z|z
  ·rw[z];exact i
  ·exact i.trans ((Jt.mp K).1 y z)
theorem L9:∀(l:List Str),sortedS l=true->l.Pairwise N4
 |[],_=>List.Pairwise.nil
 | x::r,h=>L8 r x h
def EB{P:Fin->Qz->Prop}(V:s.heap.get? a=Z (seqObj "list" vs.toArray n))(J:qA vs ss)(d:vs.length<64)(h:∀(out:Array Value) (b:List Str),qA out.toList b->b.Perm ss->b.Pairwise N4->P (.done (.ret .none)) {s with heap:=sortedHeap s.heap a vs out}):wpAny #[5] A (Builtin.«list.sort» ⟨[.ref a],[]⟩) P E s:=
 list_sort_treeK strKind_oneLt V J.keysOf (λc f rest e=>keyKind_strs (by rw[<-e];exact J)) d λx D hs=>by obtain⟨b,G,M,g⟩:=sorted_out_str J D hs;exact h _ b G M (L9 _ g)
def ib(P:Qv)(w:World)(h:Heap)(a:QX)(ns:List Str):Prop:=
 ∃o es ep t,h.get? a=Z o/\o.ExactSet/\o.data=.set es ep t/\Qf (Yo P w) es.toList/\(∀e∈es.toList,∃n u,e.2=.str n u)/\(es.toList.map λe=>strOf e.2).Perm ns/\es.size<scanBound/\t.fits es.size=true/\ic t (!Pk w)
def ib.keep(x:ib P w h a ns)(k:∀o,h.get? a=Z o->h'.get? a=Z o):ib P w h' a ns:=by obtain⟨o,es,ep,t,V,F,i,A,C,b,e,c,d⟩:=x;exact⟨o,es,ep,t,k o V,F,i,A,C,b,e,c,d⟩
section
def aaa{k n:Str}:(Yo P w).is k (.str n u)=decide (k=n):=KeyKind.is_eq_decide (qj P w n u) k
def aaK{es f:Array (Int×Value)}{t t':Qx}(V:h.get? a=Z o)(hex:o.ExactSet)(j:o.data=.set es ep t)(d:Qf (Yo P w) f.toList)(W:∀e∈f.toList,∃n u,e.2=.str n u)(D:(f.toList.map λe=>strOf e.2).Perm ns)(B:f.size<scanBound)(l:t'.fits f.size=true)(C:ic t' (!Pk w)):
  (h.update a (Obj.putSet f t')).get? a=Z {o with data:=.set f (ep+1) t'}/\ib P w (h.update a (Obj.putSet f t')) a ns:=by
 have m:(h.update a (Obj.putSet f t')).get? a=Z {o with data:=.set f (ep+1) t'}:=by have q:=jk (Obj.putSet f t') V (by rw[putSet_of f t' j];rfl);rw[putSet_of f t' j]at q;exact q
 exact⟨m,_,f,ep+1,t',m,hex,U,d,W,D,B,l,C⟩
def Pd{g:Bool->Qw Unit}(m:∀(b:Bool) (O:Qz) (F:Unit->Qz->Prop),F () O->wpAny #[42] A (g b) F E O){es c:Array (Int×Value)}{t S:Qx}{R:Option Bool->Qz->Prop}(V:s.heap.get? a=Z o)(hex:o.ExactSet)(j:o.data=.set es ep t)(d:Qf (Yo P w) c.toList)(W:∀e∈c.toList,∃n u,e.2=.str n u)(D:(c.toList.map λe=>strOf e.2).Perm ns)(B:c.size<scanBound)(l:S.fits c.size=true)(C:ic S (!Pk w))(h:∀h',Yf a s.heap h'->ib P w h' a ns->R (Z true) {s with heap:=h'}):
  wpAny #[42] A (do
    storeSet a c S
    if (!wd&&S.tooFull)=true then do
      g (relayAll S c #[110]).2.2
      storeSet a (relayAll S c #[110]).1 (relayAll S c #[110]).2.1
      pure (Z true)
     else pure (Z true)) R E s:=by
 refine WI (YN V j ?_ (qR B));obtain⟨X,q⟩:=aaK (P:=P) (w:=w) V hex j d W D B l C;have i:=Yg s.heap a (Obj.putSet c S);split
 ·have f:=relayAll_perm S c #[110];have r:=relayAll_fits S c #[110];have k:=Om C c #[110];generalize relayAll S c #[110]=Rl at f r k ⊢;obtain⟨p,z,I⟩:=Rl;dsimp only at f r k ⊢;have sz:p.size=c.size:=by rw[<-jg,f.length_eq,jg]
  have y:p.size<scanBound:=by rw[sz];exact B
  refine WI (m _ _ _ ?_);refine WI (YN X rfl ?_ (qR y));obtain⟨_,v⟩:=aaK (P:=P) (w:=w) (ns:=ns) X hex rfl (d.perm f) (λe x=>W e (f.mem_iff.mp x)) ((f.map _).trans D) y r k;exact Wv (h _ (i.trans (Yg _ a _)) v)
 ·exact Wv (h _ i q)
def RF{k:Str}{Q:Bool->Qz->Prop}(hS:ib P w s.heap a ns)(N:ns.length+1<scanBound)(h:∀h' b,Yf a s.heap h'->ib P w h' a (step_dedup ns k)->Q b {s with heap:=h'}):wpAny #[42] A (setAddHashed a (.str k u) ((Yo P w).hash k)) Q E s:=by
 obtain⟨o,es,ep,t,V,hex,c,d,W,D,C,l,I⟩:=hS;have G:es.size=ns.length:=by rw[<-D.length_eq,jQ,jg]
 have M:∀z:Str,z∈ns↔∃e∈es.toList,(Yo P w).is z e.2=true:=λz=>by
  rw[<-D.mem_iff,jK];constructor
  ·rintro⟨e,R,rfl⟩;obtain⟨n,v,g⟩:=W e R;exact⟨e,R,by rw[g,aaa];simp[strOf]⟩
  ·rintro⟨e,R,q⟩;obtain⟨n,v,g⟩:=W e R;rw[g,aaa]at q;exact⟨e,R,by rw[g];exact(of_decide_eq_true q).symm⟩
 unfold setAddHashed setAddHashedIn;refine WZ (WI (YK V c l ?_));dsimp only;rw[byScan_of (x:=.str k u) rfl C d];simp only[↓reduceIte];unfold setAddByScan;refine WI (WI (YF ?_));refine WI (wpAny_setScan_of (qj P w k u) V c l d ?_);cases J:List.findIdx? (λe=>(Yo P w).is k e.2) es.toList with
 | some j=>
  dsimp only;obtain⟨hj,pj,_⟩:=List.findIdx?_eq_some_iff_getElem.mp J;have T:k∈ns:=(M k).mpr ⟨es.toList[j],jV hj,pj⟩;refine Wv (Wv ?_);have q:=h s.heap false (xN a s.heap) ⟨o,es,ep,t,V,hex,c,d,W,by unfold step_dedup;rw[if_pos (by simpa using T)];exact D,C,l,I⟩
  cases s;exact q
 | none=>
  dsimp only;have X:k∉ns:=λz=>by obtain⟨e,R,q⟩:=(M k).mp z;have:=List.findIdx?_eq_none_iff.mp J e R;rw[q]at this;cases this
  have B:∀(b:Bool) (O:Qz) (F:Unit->Qz->Prop),F () O->wpAny #[42] A (match b with|true=>rule "set.scan.the-table-gave-way"|false=>pure ()) F E O:=λb O F q=>by
   cases b
   ·exact Wv q
   ·exact YF q
  have p:=layNew_perm t es ((Yo P w).hash k) (.str k u);have i:=layNew_fits t es ((Yo P w).hash k) (.str k u);have lt:=TB I es ((Yo P w).hash k) (.str k u);generalize layNew t es ((Yo P w).hash k) (.str k u)=L at p i lt ⊢;obtain⟨f,t1,wd,j5⟩:=L;dsimp only at p i lt ⊢;rw[Zq]at p;have r:Qf (Yo P w) f.toList:=(d.push (qj P w k u) rfl).perm p;have m:∀e∈f.toList,∃n v,e.2=.str n v:=λe R=>by
   rcases Jb.mp (p.mem_iff.mp R)with z|z
   ·exact W e z
   ·rw[jH.mp z];exact⟨k,u,rfl⟩
  have y:(f.toList.map λe=>strOf e.2).Perm (step_dedup ns k):=by unfold step_dedup;rw[if_neg (by simpa using X)];refine(p.map _).trans ?_;rw[jB];exact D.append (List.Perm.refl _)
  have H:f.size<scanBound:=by rw[<-jg,p.length_eq,jG,jg,G];exact N
  refine WI (B _ _ _ ?_);split
  ·exists 34;rw[hashByValue_scannable 8 (x:=.str k u) rfl];refine Wv ?_;exact Pd (λb O F q=>B b O F q) V hex c r m y H (by split<;>first|exact i|exact SetTable.fits_plain_off i) (by split<;>first|exact lt|exact⟨lt.1,lt.2,lt.3⟩) λh' K S=>Wv (h h' true K S)
  ·refine WI (Wv ?_);simp only[↓reduceIte];exact Pd (λb O F q=>B b O F q) V hex c r m y H i lt λh' K S=>Wv (h h' true K S)
end
section
variable{fp wr:List QX}{G:Array Qi->Array Qi->Prop}{Pz:Nat->Value->Prop}{St:Nat->Qz->Prop}
theorem K1(W:WalksS P w A.in1 I fp wr G n Pz St)(S:QX)(a:S∉fp)(val:Nat->Str)(g:∀i v,Pz i v->∃t,v=.str (val i) t)(B:n+1<scanBound):
  ∀(k i:Nat) (s:Qz),n-i=k->i<=n->St i s->ib P w s.heap S (cR val i)->(∀c,Moved (S::wr) G s c->ib P w c.heap S (cR val n)->R (.ok (.ret .none)) c)->
   codeAny #[42] A (.builtin "set.update.loop" ⟨[.ref S,.ref I],[]⟩) R s:=by
 have l:S∉wr:=λz=>a (W.sub _ z);have up:∀b∈wr,b∈S::wr:=λb z=>jJ _ z;intro k
 induction k with
 | zero=>
  intro i s C h M J Q;obtain rfl:i=n:=by omega
  refine qJ XX ?_;rw[Around.under_plainId yg _];refine WI (m:=pyNext (.ref I)) (W.done s _ _ M λc N=>?_);exact Wv (Q c (N.mono up) (J.keep λo q=>N.heap S o l q))
 | succ k j=>
  intro i s C h M J Q;have f:i<n:=by omega
  refine qJ XX ?_;rw[Around.under_plainId yg _];refine WI (m:=pyNext (.ref I)) (W.item i s _ _ f M λv c p E N=>?_);obtain⟨t,rfl⟩:=g i v p;have D:ib P w c.heap S (cR val i):=J.keep λo q=>N.heap S o l q;refine WI (m:=holding [yF (val i) t] (setAdd S (.str (val i) t))) (WZ ?_);unfold setAdd;refine WZ (WI ((Yo P w).pyHash (k:=val i) (qj _ _ _ _) ?_));have room:(cR val i).length+1<scanBound:=by have:=mP val i;omega
  refine RF (s:={c with toks:=c.toks+1}) D room λh' b K d=>?_;rw[<-wz]at d;refine Wv ⟨qY yg _,j (i+1) _ #[2] f (W.frame _ c _ _ E (JE _) λb B o e=>?_) d λr u L=>?_⟩
  ·rw[K.2 b (λz:b=S=>a (z▸B))];exact e
  ·refine Q r (Moved.trans W.gtrans ((N.mono up).then_heap (JE _) λb o B e=>?_) u) L;rw[K.2 b (λz:b=S=>B (by rw[z];exact jC))];exact e
end
section
def aob(h:Heap)(m:h.get? a=Z (eO w)):ib P w h a []:=
 ⟨_,#[],0,_,m,⟨rfl,rfl,rfl⟩,rfl,(λe R=>by cases R),(λe R=>by cases R),List.Perm.refl _,by decide,rfl,⟨List.Pairwise.nil,rfl,rfl⟩⟩
set_option maxHeartbeats 3200000 in
theorem SN{l:QX}(H:A.handled=Y)(L:s.heap.IsList l items)(W:qA items.toList ns)(B:items.size+1<scanBound)(h:∀(h':Heap) (tk:Nat),ib P w h' s.heap.objs.size (cR (λi=>ns.getD i Str.empty) items.size)->(∀b o,b<s.heap.objs.size->s.heap.get? b=Z o->h'.get? b=Z o)->Q #[23] {s with heap:=h',toks:=tk}):
  wpAny #[42] A (call (.type "set") [.ref l]) Q E s:=by
 obtain⟨c,tl,z⟩:=F.called_set.mro;have G:=F.called_set.made;have K:=F.called_set.sub;refine WJ (qN ?_);show wpAny _ _ (callAny (.type "set") _) _ _ _;refine Wv ⟨Code.quiet_builtin _ #[1],qJ F.entry_type_call ?_⟩;rw[Around.under_plain (weight_type_call_type "set" [.ref l] []) rfl];have h1:=F.called_set.notType;have h2:=F.called_set.canCreate;have M:=F.typeCall_set_1 #[181];exists 16;refine qM (aa5 #[181] (E:=E) (Q₁:=λobj O=>obj=.ref s.heap.objs.size/\O={s with heap:=s.heap.push (eO w)}) ⟨U,U⟩) λr O S=>?_;cases r with
 | error e=>exact S
 | ok fl=>
  cases fl with
  | ret obj=>
   obtain⟨rfl,rfl⟩:=S;have J:#[137].get? s.heap.objs.size=Z (eO w):=jF _ rfl;have hT:Shared.TypeIs {s with heap:=s.heap.push (eO w)} #[23] "set" :=⟨_,J,rfl⟩;have j5:=F.called_set.init.lookup;have o5:=F.called_set.init.bind #[23];exists 16;refine qM (qK (R:=wants (λr d=>r=.none/\∃h' tk,d={s with heap:=h',toks:=tk}/\ib P w h' s.heap.objs.size (cR (λi=>ns.getD i Str.empty) items.size) /\
     (∀b o,b<s.heap.objs.size->s.heap.get? b=Z o->h'.get? b=Z o)) E) F.called_set.init.plain F.entry_set_init (check_set_init_1 hT ?_)) λm d t=>?_
   ·obtain⟨ol,q,p,y,n⟩:=L;obtain⟨c6,C,d6,I⟩:=ol;simp only at p n;subst p;subst n;have T:#[137].get? l=Z {cls:=.type "list",dict:=C,data:=.seq items y,slots:=I}:=jA _ q;have g6:=F.sub_list_set;have i6:=F.sub_list_frozenset;have a:#[137].IsList l items:=⟨_,T,rfl,y,rfl⟩;have l6:(yn "list" == yn "dict")=false:=by decide
    have m6:#[137].get? s.heap.objs.size=Z {cls:=.type "set",dict:=Y,data:=.set #[] 0 (.fresh 0 0 (!Pk w))}:=J;unfold Builtin.«set.__init__» noKeywords xq;generalize V:pyIter=PI
    wp_walk
    subst V;refine Wx a (WI (wpAny_runValue ?_));have x:l<s.heap.objs.size:=jI q;have X:A.in1.in1.in1.handled=Y:=by simp[H]
    have k:l≠#[137].objs.size:=by rw[jc];exact jM (Jl x)
    have nS:s.heap.objs.size∉[#[137].objs.size,l]:=by rw[jc];simp only[jL,jH,jr,or_false,not_or];exact⟨jM (JK _),JW x⟩
    refine K1 ((Walks.list X _ l k items).toS) s.heap.objs.size nS (λi=>ns.getD i Str.empty) (λi v hv=>StrsAre.aeZ W i v (by rw[JV];exact hv)) B (items.size-0) 0 _ #[2] (je _)
     ⟨⟨_,jF _ rfl,rfl,rfl⟩,(a.push _)⟩ ?_ ?_
    ·exact aob (w:=w) _ (jA _ J)
    ·rintro⟨h',g',d',f,j⟩ N D;have eg:g'=s.gens:=N.gens;have ed:d'=s.drawn:=N.drawn;have eo:j=s.os:=N.os;subst eg ed eo;refine Wv ?_;show wpAny _ _ (ret Yc) _ _ _;refine Wv ⟨U,h',f,U,D,λb o B e=>?_⟩;refine N.heap b o ?_ (jA _ (jA _ e));rw[jc];simp only[jL,jH,jr,or_false,not_or];exact⟨jM B,jM (Jl B)⟩
   ·cases m with
    | error e=>exact t
    | ok u=>
     cases u with
     | ret r=>
      obtain⟨rfl,h',tk,rfl,D,g⟩:=t;exists 16;exact h _ _ D g
     | next=>exact t
     | brk=>exact t
     | cont=>exact t
  | next=>exact S
  | brk=>exact S
  | cont=>exact S
end
section
def aa6{Q:List Value->Qz->Prop}(hh:A.handled=Y)(hS:ib P w s.heap S ns)(hQ:∀(vs:List Value) (ms:List Str) (h':Heap) (d':Qe) (tk:Nat),qA vs ms->ms.Perm ns->(∀b u,s.heap.get? b=Z u->h'.get? b=Z u)->s.heap.objs.size<=h'.objs.size->Q vs {s with heap:=h',drawn:=d',toks:=tk}):
  wpAny #[42] A (collect (.ref S)) Q E s:=by
 obtain⟨o,es,ep,t,ho,hex,hd,d6,hi,hp,B,hf,hk⟩:=hS;have H:S<s.heap.objs.size:=jI ho;unfold collect;refine WI (wpAny_runValue (qJ F.entry_proto_collect ?_));rw[Around.under_plainId F.plain_proto_collect _];show wpAny _ A.in1 (newList []>>=λl=>again (.builtin "list.__iadd__" ⟨[l,.ref S],[]⟩)) _ _ s;refine WI (Wm ?_);refine Wv ⟨qY xR _,qJ F.entry_list_iadd ?_⟩;rw[Around.under_plainId xR _];generalize hN:({cls:=.type "list",data:=.seq ([]:List Value).toArray}:Obj)=oN;have X:(s.heap.push oN).get? S=Z o:=jA _ ho;have c:(s.heap.push oN).get? s.heap.objs.size=Z oN:=jF _ (by rw[<-hN];rfl);have d:s.heap.objs.size≠S:=JW H;have hT:(⟨s.heap.push oN,s.gens,s.drawn,s.toks,s.os⟩:Qz).TypeIs (.ref S) "set" :=⟨o,X,hex.1⟩;show wpAny _ A.in1 (XE #[23] (.ref S) #[23]) _ _ ⟨s.heap.push oN,s.gens,s.drawn,s.toks,s.os⟩;unfold XE;refine WI (YT hT ?_);rw[if_neg (by
  have G:XQ #[23] (.ref S)=false:=by simp[XQ,d]
  rw[G];decide)]
 refine WI (anS X hex hd B hf hk λG d1 I T L V st keep p g6 MS M=>?_);have f:G.get? S=Z o:=keep S o X;have k:(⟨G,s.gens,d1,s.toks,s.os⟩:Qz).TypeIs (.ref S) "set" :=⟨o,f,hex.1⟩;refine WI (WZ ?_);unfold xr;refine WI (YL k F.slot_set_len.lookup ?_)
 (generalize y:("set.__len__" : String)=id0;wp_delta;rw[show splitId id0=Z ("set","__len__")from by subst y;decide +kernel];subst y)
 refine WI (Wa (b:=true) k sub_set_self ?_);show wpAny _ _ (typeOf (.ref S)>>=_) _ _ _;refine WI (YT k (Wv ?_));show wpAny _ A.in1 (rule "list.extend.makes-room" >>= λ_=>Gm #[23]>>=λ_=>
  again (.builtin "list.extend.loop" ⟨[.ref s.heap.objs.size,.ref I,.ref s.heap.objs.size],[]⟩)) _ _ _
 refine WI (YF ?_);have Te:G.get? s.heap.objs.size=Z {cls:=.type "list",data:=.seq ([]:List Value).toArray}:=by rw[hN];exact keep _ _ c
 exists 34;show wpAny _ A.in1 (updateSeq s.heap.objs.size (·.push .none)>>=λ_=>updateSeq s.heap.objs.size (·.pop)) _ _ _;refine WI (YU Te rfl ?_);have PN:=jk (Obj.mapSeq (·.push Yc)) Te rfl;refine YU PN rfl ?_;have h:=jk (Obj.mapSeq (·.pop)) PN rfl;have m:∀b u,b≠s.heap.objs.size->G.get? b=Z u->((G.update s.heap.objs.size (Obj.mapSeq (·.push Yc))).update s.heap.objs.size (Obj.mapSeq (·.pop))).get? b=Z u:=
  λb u B q=>(jm _ _ (Ne.symm B)).trans ((jm _ _ (Ne.symm B)).trans q)
 have lL:L.length=es.size:=by rw[V.length_eq,jQ,jg]
 have nI:s.heap.objs.size≠I:=by rw[jc]at p;exact jM p
 have nT:s.heap.objs.size≠T:=by
  rcases M with z|z
  ·rw[z];exact d
  ·rw[jc]at z;exact jM z
 have SI:S≠I:=by rw[jc]at p;exact jM (jS H (jW (JE _) p))
 have W:WalksS P w A.in1 I [I,S,T] [I] (λa b=>b=a) es.size (λi v=>v=L.getD i .none) (λi s=>Lc w es ep t S T I L i s.heap):=ao9 (A:=A.in1) (by simp[hh]) hf hk lL MS SI;have C:s.heap.objs.size∉[I,S,T]:=by simp only[jL,jr,or_false,not_or];exact⟨nI,d,nT⟩
 refine Wv ⟨qY F.plain_extend_loop _,codeAny_extend_loopS W (qR B) _ C _ es.size 0 _ _ _ rfl (je _)
  (W.frame 0 ⟨G,s.gens,d1,s.toks,s.os⟩ _ s.toks st (jD _) λb g u q=>m b u (λz=>C (z▸g)) q) h (ItemsOf.nil _) λs' J c' N D wF=>?_⟩
 show wpAny _ A (load s.heap.objs.size>>=_) _ _ s';refine WI (Wf D (Wv ?_));obtain⟨h',g',d',j,j5⟩:=s';have eg:g'=s.gens:=N.gens;have eo:j5=s.os:=N.os;subst eg eo;have o5:J.toList=L:=by refine ZN (by rw[jg,wF.1,lL]) λi O c6=>?_;have:=wF.2 i J[i] (by simp at O;simp[O]);simp[this,c6]
 rw[o5];have K:∀vs:List Value,(∀v∈vs,∃n u,v=yF n u)->qA vs (vs.map strOf):=by
  intro vs
  induction vs with
  | nil=>intro _;exact .nil
  | cons v r ih=>
   intro al;obtain⟨n,u,rfl⟩:=al v jC;exact .cons n u (ih λx hx=>al x (jJ _ hx))
 refine hQ L (L.map strOf) h' d' j (K L λv hv=>?_) ?_ (λb u q=>?_) (JL (jI D))
 ·obtain⟨e,he,rfl⟩:=jK.mp (V.mem_iff.mp hv);exact hi e he
 ·refine(V.map _).trans ?_;rw[JN];exact hp
 ·have R:b≠s.heap.objs.size:=jM (jI q);refine N.heap b u ?_ (m b u R (keep b u (jA _ q)));simp only[jL,jr,or_false,not_or];refine⟨R,jM (jS (jI q) ?_)⟩;rw[jc]at p;exact jW (JE _) p
def aeO(H:A.handled=Y)(J:ib P w s.heap S ns)(d:ns.length<64)(h:∀(l:QX) (out:List Value) (ms:List Str) (e:Nat) (h':Heap) (d':Qe) (tk:Nat),qA out ms->ms.Perm ns->ms.Pairwise N4->s.heap.objs.size<=l->h'.get? l=Z (seqObj "list" out.toArray e)->(∀b u,s.heap.get? b=Z u->h'.get? b=Z u)->
   Q #[181] {s with heap:=h',drawn:=d',toks:=tk}):wpAny #[42] A (call (.builtin "sorted") [.ref S]) Q E s:=by
 refine XM kind_sorted plain_sorted entry_sorted (args_sorted1 _) ?_;unfold Builtin.«sorted»;refine WI (m:=checkCount "sorted" 1 1 _) (Wv ?_);refine WI (aa6 (by simp[H]) J λvs ms G y I B D keep c=>?_);have a:vs.length<64:=by have T:vs.length=ms.length:=(StrsAre.aag B);have g:=D.length_eq;omega
 refine WI (wpAny_newList (hsz:=jW (JL a) #[10]) ?_);have L:(G.push (seqObj "list" vs.toArray 0)).get? G.objs.size=Z (seqObj "list" vs.toArray 0):=jF _ rfl;refine WI (WZ (WL slot_list_sort ⟨_,L,U⟩ entry_list_sort (EB L B a λout f i v n=>⟨_,U,?_⟩) (args_list_sort _)));obtain⟨e,R⟩:=sortedHeap_at (vs:=vs) (out:=out) L;refine Wv ⟨_,U,?_⟩;refine h G.objs.size out.toList f e _ y I i (v.trans D) n ?_ (by simpa using R) λb u q=>?_
 ·exact c
 ·have O:=keep b u q;have lt:=jI O;rw[sortedHeap_old (jM lt) (by rw[jc];exact Jl lt)];exact jA _ O
end
abbrev CV(P:Qv)(w:World)(S:QX)(ns:List Str):HO:=.ext λh=>ib P w h S ns
def dW(ns:List Str):List Str:=ns.foldl step_dedup []
def F9(ns:List Str):cR (λi=>ns.getD i Str.empty) ns.length=dW ns:=by unfold cR dW;congr 1;refine ZN #[8] λi G M=>?_;simp[QW,M]
def SY{s:List Str}{v k:Str}:k∈step_dedup s v↔k∈s\/k=v:=by
 unfold step_dedup;split
 ·rename_i h;have M:v∈s:=by simpa using h
  exact⟨.inl,λz=>z.elim id λe=>e▸M⟩
 ·simp
def MN{s:List Str}{v:Str}(h:s.Nodup):(step_dedup s v).Nodup:=by
 unfold step_dedup;split
 ·exact h
 ·rename_i c;have M:v∉s:=by simpa using c
  exact JH.mpr ⟨h,by simp,λa l b B e=>M (by rw[<-jH.mp B,<-e];exact l)⟩
theorem B8:∀(ns s:List Str) (k:Str),k∈ns.foldl step_dedup s↔k∈s\/k∈ns
 |[],s,k=>by simp
 | n::r,s,k=>by
  rw[JQ,B8 r,SY,jL];constructor
  ·rintro((h|h)|h)
   ·exact .inl h
   ·exact .inr (.inl h)
   ·exact .inr (.inr h)
  ·rintro(h|h|h)
   ·exact .inl (.inl h)
   ·exact .inl (.inr h)
   ·exact .inr h
def L3{k:Str}:k∈dW ns↔k∈ns:=by unfold dW;rw[B8];simp
theorem wJ:∀(ns s:List Str),s.Nodup->(ns.foldl step_dedup s).Nodup
 |[],s,h=>h
 | n::r,s,h=>wJ r _ (MN h)
def Ed(ns:List Str):(dW ns).Nodup:=wJ ns [] List.Pairwise.nil
theorem B7:∀(ns s:List Str),(ns.foldl step_dedup s).length<=s.length+ns.length
 |[],s=>jD _
 | n::r,s=>by
  refine jW (B7 r _) ?_;have:(step_dedup s n).length<=s.length+1:=by
   unfold step_dedup;split
   ·exact JE _
   ·rw[jG];exact jD _
  rw[jX];omega
def Ao(ns:List Str):(dW ns).length<=ns.length:=by have q:=B7 ns [];unfold dW;simpa using q
section
inductive MK (P0:Qv) (w0:World) (xs:List V) (H:Hp) (Q:VK):Prop
 | mk (a:QX) (ns:List Str) (_:xs=[.ref a]) (_:H a=Z (.lst (ns.map V.str))) (_:ns.length<4000) (_:∀S,H S=Y->Q (.ref S) (upd H S (CV P0 w0 S (dW ns))))
def FW(O:X.calm=true):hX X (.type "set") (MK X.prog X.w):=by
 intro y3 s σ H xs S Q I r h;obtain⟨a,ns,rfl,l,C,q⟩:=h;exists 11;cases F;obtain⟨_,c,n,f,L,e⟩:=I.EC l;have g:c.length=ns.length:=by rw[<-L,jQ]
 refine SN #[123] ⟨_,e,U,n,U⟩ (ns:=ns) (by simpa using CA f) (by simp only[jP];unfold scanBound;omega) λh' tk J keep=>?_;have v:∀b o,s.heap.get? b=Z o->h'.get? b=Z o:=λb o z=>keep b o (jI z) z;have D:ib X.prog X.w h' s.heap.objs.size (dW ns):=by simp only[jP]at J;rw[g,F9]at J;exact J
 refine⟨.ref s.heap.objs.size,_,I.laid (o:=CV X.prog X.w s.heap.objs.size (dW ns)) (t':=tk) v (jD _) (show ib X.prog X.w h' s.heap.objs.size (dW ns)/\(∃o,h'.get? s.heap.objs.size=Z o)/\∀G M:Heap,ib X.prog X.w G s.heap.objs.size (dW ns)->(∀o,G.get? s.heap.objs.size=Z o->M.get? s.heap.objs.size=Z o)->ib X.prog X.w M s.heap.objs.size (dW ns)from⟨D,?_,λG M p d=>p.keep d⟩),U,q _ #[60]⟩;obtain⟨o,es,ep,t,V,_⟩:=D;exact⟨o,V⟩
def AD(O:X.calm=true):hX X (.builtin "sorted") (λxs H Q=>∃(S:QX) (ns:List Str),xs=[.ref S]/\H S=Z (CV X.prog X.w S ns)/\ns.length<64 /\
  ∀(l:QX) (ms:List Str),H l=Y->ms.Perm ns->ms.Pairwise N4->Q #[181] (upd H l (.lst (ms.map V.str)))):=by
 intro y3 s σ H xs a Q I r h;obtain⟨S,ns,rfl,J,d,q⟩:=h;exists 11;cases F;obtain⟨p,_,_⟩:=(show bp X.prog X.w H s.heap S (CV X.prog X.w S ns)from I.hok S _ J);refine aeO #[123] p d λl c ms e h' N tk B D hs k m keep=>?_;have P:Inv X y3 σ (upd H l (.lst (ms.map V.str))) {s with heap:=h',toks:=tk}:=I.laid (t':=tk) keep k ⟨by rw[jQ,D.length_eq];exact jW (JL d) #[10],c,e,Iu B,m⟩
 exact⟨.ref l,_,⟨P.ok,P.os,P.bare,P.base,P.loc,P.cell,P.free,P.freeC,P.pin,P.hok,P.len⟩,U,q l ms (I.hok.fresh k) D hs⟩
end
def pR(K:YW):Nat->Hp->V->V->Prop
 | 0,_,u,v=>(∃x,u=.str x/\v=.str x)\/∃n,u=.int n/\v=.int n
 | d+1,H,u,v=>((∃x,u=.str x/\v=.str x)\/∃n,u=.int n/\v=.int n)\/∃(a b:QX) (us vs:List V),u=.ref a/\v=.ref b/\lU K H a us/\lU K H b vs/\Qs (pR K d H) us vs
section
def aop{R:V->V->Prop}{ys:List V}(h1:j<xs.length)(M:j<ys.length)(p:Qs R xs ys):R xs[j] ys[j]:=by
 induction p generalizing j with
 | nil=>exact absurd h1 (Jd _)
 | cons a t K=>
  cases j with
  | zero=>exact a
  | succ j=>exact K (by simpa using h1) #[160]
def Lf{d:Nat}(e:∀{A:Around} {x y:V} {u v:Value},A.units+d<cLine->pR X.K d H x y->RelV x u->RelV y v->yO A s u v true){us vs:List V}(I:Inv X y3 σ H s)(R:A.units+(d+1)<cLine)(l:lU X.K H a us)(B:lU X.K H b vs)(p:Qs (pR X.K d H) us vs):
  ∃t W:List Value,s.heap.IsTuple a t.toArray/\s.heap.IsTuple b W.toArray/\t.length=W.length/\∀j (h1:j<t.toArray.size) (M:j<W.toArray.size),yO A.in1 s t.toArray[j] W.toArray[j] true:=by
 obtain⟨t,F,S,_⟩:=I.tuple l;obtain⟨W,c,L,_⟩:=I.tuple B;have k:=F.length;have o:=c.length;have q:=p.length;refine⟨t,W,S,L,by omega,λj h1 M=>?_⟩;have m:j<us.length:=by simp at h1;omega
 have r:j<vs.length:=by omega
 obtain⟨f,T,O⟩:=F.get (i:=j) (x:=us[j]) (by simp[m]);obtain⟨z,g,n⟩:=c.get (i:=j) (x:=vs[j]) (by simp[r]);have D:t.toArray[j]=f:=by have:=(jb.mp T).2;exists 33
 have h:W.toArray[j]=z:=by have:=(jb.mp g).2;exists 33
 rw[D,h];exact e (A:=A.in1) (show A.units+1+d<cLine by omega) (aop m r p) O n
def FL{x y:V}{u:Value}(h:(∃z,x=.str z/\y=.str z)\/∃n,x=.int n/\y=.int n)(m:RelV x u)(f:RelV y v):yO A s u v true:=by
 rcases h with⟨z,rfl,rfl⟩|⟨n,rfl,rfl⟩
 ·obtain⟨t,rfl⟩:=(show ∃t,u=yF z t from m);obtain⟨t',rfl⟩:=(show ∃t,v=yF z t from f);have q:=xD (A:=A) (s:=s) z t z t';simpa using q
 ·obtain⟨t,rfl⟩:=(show ∃t,u=Yj n t from m);obtain⟨t',rfl⟩:=(show ∃t,v=Yj n t from f);have q:=xC (A:=A) (s:=s) n t n t';rw[beq_self_eq_true]at q;exact q
def acH{t W:List Value}(l:t.length=W.length):((ji (min t.toArray.size W.toArray.size)).all (λ_=>true)&&t.toArray.size==W.toArray.size)=true:=by simp;omega
theorem Pe(I:Inv X y3 σ H s):∀{d:Nat} {A:Around} {x y:V} {u v:Value},A.units+d<cLine->pR X.K d H x y->RelV x u->RelV y v->yO A s u v true
 | 0,_,_,_,_,_,_,h,m,f=>FL h m f
 | d+1,A,x,y,u,v,R,h,m,f=>by
  rcases h with h|⟨a,b,i,vs,rfl,rfl,g,B,p⟩
  ·exact FL h m f
  ·cases m;cases f;by_cases c:a=b
   ·subst c;exact Xa _
   obtain⟨t,W,S,L,l,q⟩:=Lf (λ{A x y u v} G M J k=>Pe I G M J k) I R g B p;have z:=xQ (A:=A) (e:=λ_=>true) S L #[2] q;rw[acH l]at z;exact xG c z
inductive ate (K:YW) (d:Nat) (b:Bool) (x:V) (y:V) (H:Hp) (Q:VK):Prop
 | mk (a c:QX) (us vs:List V) (_:x=.ref a) (_:y=.ref c) (_:lU K H a us) (_:lU K H c vs) (_:Qs (pR K d H) us vs) (_:Q (.bl b) H)
def akm(d:Nat)(R:X.A.units+(d+1)<cLine):BH X (qO .NotEq) (ate X.K d false):=by intro y3 s σ H x y v u Q I F i h;obtain⟨a,c,f,vs,rfl,rfl,b,O,p,q⟩:=h;cases F;cases i;obtain⟨t,W,S,L,l,z⟩:=Lf (A:=X.A) (λ{A x y u v} G M J k=>Pe I G M J k) I R b O p;refine gD (e:=λ_=>true) S L #[2] z X.prog X.w X.xe _ ⟨.bl false,H,I,?_,q⟩;show yU _=yU _;rw[acH l];rfl
end
section
def adK:MtM X "str.upper" (λx vs H Q=>∃z:Str,x=.str z/\vs=[]/\z.length<=1000/\((Txt.upper z).length<=3*z.length->Q (.str (Txt.upper z)) H)):=by intro y3 s σ H x vs v S Q I F f h;obtain⟨z,rfl,rfl,C,q⟩:=h;exists 9;obtain rfl:=f.zero;exact SCL.upper (jW C #[10]) λl=>⟨.str _,H,I.tok _,⟨_,U⟩,q l⟩
def ag3(K:YW){o:Expr}{to:TE}{T id:String}{r:V->List V->Hp->VK->Prop}(p:Qu T)(y:Slot T name id)(b:typeOf #[174]=pure (.type "method_descriptor"))(N:MtR X id r)(a:PE X o to)(c:attributeBase o name X.env (eval o X.env)=eval o X.env:=by rfl)(d:(y4.endLine==dv.line)=true:=by rfl)(g:X.K=K:=by rfl):PE X (.Call (.Attribute o name y4) [] [] dv) (aoL K T r to):=by subst g;exact Dr p y b N a c d
inductive atm (x:V) (lo:Option Int) (hi:Option Int) (H:Hp) (Q:VK):Prop
 | mk (z:Str) (_:x=.str z) (_:z.length<=sizeLine) (_:∀y:Str,y.length<=z.length->Q (.str y) H)
def aaw:SlR X atm:=by
 intro y3 s σ H x v f y lo W P Q I d hs n c h;obtain⟨z,rfl,C,q⟩:=h;obtain⟨t,rfl⟩:=d;cases n with
 | int _ a=>
  cases c with
  | int _ b=>exact⟨"str",_,F.slot_str_getitem.lookup,qx _ _ _,WX (l:=Z (_,a)) (u:=Z (_,b)) (st:=Y) hs rfl #[26]⟩
  | none=>exact⟨"str",_,F.slot_str_getitem.lookup,qx _ _ _,WX (l:=Z (_,a)) (u:=Y) (st:=Y) hs rfl #[26]⟩
 | none=>
  cases c with
  | int _ b=>exact⟨"str",_,F.slot_str_getitem.lookup,qx _ _ _,WX (l:=Y) (u:=Z (_,b)) (st:=Y) hs rfl #[26]⟩
  | none=>exact⟨"str",_,F.slot_str_getitem.lookup,qx _ _ _,WX (l:=Y) (u:=Y) (st:=Y) hs rfl #[26]⟩
def IP:hX X (.builtin "sorted") (λxs H Q=>∃(a:QX) (ns:List Str),xs=[.ref a]/\H a=Z (.lst (ns.map V.str))/\ns.length<64 /\
  ∀(l:QX) (ms:List Str),H l=Y->ms.Perm ns->ms.Pairwise N4->Q #[181] (upd H l (.lst (ms.map V.str)))):=by
 intro y3 s σ H xs S Q I r h;obtain⟨a,ns,rfl,f,d,q⟩:=h;exists 11;cases F;obtain⟨_,t,n,g,L,e⟩:=I.EC f;have i:t.length=ns.length:=by rw[<-L,jQ]
 refine sorted_strs (l:=a) (vs:=t) (ss:=ns) ⟨_,e,U,n,U⟩ (by simpa using CA g) #[2] λc ms B D hs=>?_;obtain⟨ep,R⟩:=sortedAll_at s.heap t c;have P:Inv X y3 σ (upd H #[11] (.lst (ms.map V.str))) {s with heap:=sortedAll s.heap t c}:=I.laid (t':=s.toks) (λb o z=>sortedAll_old z) (JE _) ⟨by rw[jQ,D.length_eq];exact jW (JL d) #[10],c.toList,ep,Iu B,by rw[zh];exact R⟩
 exact⟨.ref _,_,P,U,q _ ms (I.hok.fresh (JE _)) D (L9 ms hs)⟩
inductive MI (xs:List V) (H:Hp) (Q:VK):Prop
 | mk (a:_) (kvs:_) (_:xs=[.ref a]) (_:H a=Z #[57]) (_:∀p,H p=Y->Q (.ref p) (upd H p #[57]))
def SH:hX X #[124] (MI):=by intro y3 s σ H xs S Q I r h;obtain⟨a,B,rfl,l,q⟩:=h;exists 11;cases F;exact acR I (.inl l) λp c D d=>⟨.ref p,_,d,U,q p D⟩
inductive abS (x:V) (y:V) (H:Hp) (Q:VK):Prop
 | mk (a:_) (b:_) (kvs:_) (_:x=.ref a) (_:y=.ref b) (_:H a=Z #[57]) (_:H b=Z #[57]) (_:(∀p∈kvs,∃r,p.2=.ref r/\cI kvs p.1=Z (.ref r))) (_:Q (.bl true) H)
def ag1(R:X.A.units+1<cLine):BH X (qO .Eq) (abS):=by
 exists 8;obtain⟨a,b,B,rfl,rfl,c,i,M,q⟩:=h;cases F;cases N;obtain⟨z,j,vs,rel,m⟩:=wy I.hok (.inl c);obtain⟨_,G,C,d,n⟩:=wy I.hok (.inl i);have o:vs.length=C.length:=by rw[<-rel.length,d.length]
 refine PySem.W.keq_eq (r:=true) j G m n #[2] (λ_=>?_) ?_
 ·have:∀(l:List #[167]) (S:List (Key×Value)),KV l S->(∀p∈l,∃r,p.2=.ref r/\cI B p.1=Z (.ref r))->PySem.W.KeqHits X.A.in1 s C S true:=by
   intro l S k
   induction k with
   | nil=>exact λ_=>.nil
   | @cons p w l S D _ K=>
    intro M;obtain⟨r,T,g⟩:=M p jC;obtain⟨k,v⟩:=p;obtain⟨E,L⟩:=w;obtain⟨rfl,f⟩:=D;dsimp only at T g f;subst T;cases f;have t:valueAt C k=Z (.ref r):=by
     have:=d.val k;rw[g]at this;cases J:valueAt C k with
     | none=>rw[J]at this;exact this.elim
     | some u=>rw[J]at this;exact congrArg Z this
    exact gE (e:=true) t (.same _) (K λp D=>M p (jJ _ D))
  exact this B vs rel M
 ·rw[o];simp only[beq_self_eq_true,Bool.and_self];exact⟨.bl true,H,I,U,q⟩
end
section
variable{R:V->List V->Hp->VK->Prop}
inductive ae2 (K:YW) (R:V->List V->Hp->VK->Prop) (t:TA) (σ:St) (Q:VK) (v:V) (H1:Hp):Prop
 | mk (f:_) (_:v=.ref f) (_:Yd K #[58]=true) (_:t σ H1 λvs H2=>R v vs H2 Q)
def ak1(K:YW)(R:V->List V->Hp->VK->Prop)(tf:TE)(t:TA):TE:=λσ H Q=>tf σ H (ae2 K R t σ Q)
def aed(K:YW)(l:PE X (.Name x p) tf)(a:PA X (e::es) t)(O:LR X R)(b:qh (e::es) X.env=#[18]::qh es X.env:=by rfl)(c:#[20].any (·.1)=false:=by rfl)(g:X.K=K:=by rfl):PE X #[16] (ak1 K R tf t):=by subst g;exists 2;refine WB (bR #[77] λu T ⟨v,d,P,r,f,N,C,q⟩=>?_);subst N;cases r;exact Yu (h₀:=X.base) I.ok.mod.kin C (bR (a pos y3 T σ d _ P q) λS j ⟨vs,G,E,i,n⟩=>⟨E.pW,O y3 j σ G f vs S Q E i n⟩) b c
def aj8{k:Nat}{ps:List Str}(G:bc X.prog X.w X.K X.mg X.base x k ps [] sp)(S:cL j X.A)(hkj:k<=j:=by decide):LR X (λv vs H Q=>∃f,v=.ref f/\X.mg x=Z #[58]/\sp vs H Q E0):=by intro y3 s σ H f vs c Q I r ⟨m,e,a,h⟩;obtain⟨d,fd,g,N,C,b,B,F⟩:=G.ex;cases e;cases N.symm.trans a;cases b;exact Oq (E:=E0) F #[163] B .nil (λ_ _ _ _ _ _ _ h=>h.elim) I r (by rw[jZ];exact h)
end
structure Mp(P:Qv)(w:World)(K:YW)(mg:Str->Option Value)(base:Heap)(C:QX)(m:Str)(k:Nat)(ps:List Str)(sp:Sp):Prop where
 cl:EJ K C
 ex:∃(f:QX) (fd:Qh),Meth K C m f/\Binds K fd ps []/\aR P w K mg base (IG P w) k f fd ps sp
def aku{k:Nat}{ps:List Str}{o:Expr}{pl:Qw Bool}{E:XK}(G:Mp X.prog X.w X.K X.mg X.base C m k ps sp)(S:cL j X.A)(J:Passes (IG X.prog X.w) X E)(V:PE X o ta)(l:PA X (e::es) t)(hkj:k<=j:=by decide)(M:qh (e::es) X.env=#[18]::qh es X.env:=by rfl)(a:#[20].any (·.1)=false:=by rfl)(d:eval #[101] X.env=(do
   let D <-eval o X.env
   standAt y4.atName
   let (f,first) <-holding [D] (getMethod D m pl)
   callWith pos f first (backTo pos (qh (e::es) X.env)) #[70]):=by rfl):
  PE X #[101] (R0 C m sp [] E ta t):=by
 obtain⟨f,fd,N,B,F⟩:=G.ex;exact aan V G.cl N F #[163] B .nil J l M a d
def aY.aog{qual:Str}{f c:QX}{N ps:List Str}{k:Nat}(F:aY K x qual st dV f fd)(O:fd.code=.ref c)(S:ax N ps (ao st))(len:∀vs H Q E,sp vs H Q E->vs.length=ps.length)(m:∀(A:Around) (outer:List Qg) (s:Qz) (H:Hp) (vs:List V) (Q:VK) (E:XK),cL k (A.deeper (envOfC qual (ao st) s.heap.objs.size f (.ref c)))->sp vs H Q E ->
   ∃t,K8 (bE (IG P w) P w K mg base N qual (ao st) f (.ref c) A outer s H E) (cw st) t/\t {nx:=λ_ H'=>Q .non H',rt:=Q} #[145] H):aR P w K mg base (IG P w) (k+1) f fd ps sp:=by
 obtain⟨l,i,kV,p,C,b,g,d,e,rfl,M,D⟩:=F.ex;obtain rfl:g=.ref c:=O;exact ac1 M D S len λA outer s H vs Q E a j=>m A outer s H vs Q E a j
def Hz(B W:QX)(xs ys:Array Value):
  Meets (Builtin.«zip.__new__» ⟨[.type "zip",.ref B,.ref W],[]⟩) (λ_ R s=>s.heap.IsList B xs/\s.heap.IsTuple W ys /\
   R (.ok (.ret (.ref (s.heap.objs.size+4)))) {s with heap:=((((s.heap.push {cls:=.type "list_iterator",data:=.fields #[.ref B,.int 0 0]}).push {cls:=.type "tuple_iterator",data:=.fields #[.ref W,.int 0 0]}).push {cls:=.type "tuple",data:=.seq #[.ref s.heap.objs.size,.ref #[11]]}).push {cls:=.type "tuple",data:=.seq #[.none,.none]}).push {cls:=.type "zip",data:=.fields #[.none,.bool false,.bool false,.ref #[139],.ref #[138]]} }):=
 .of_wp λprog w A R s h=>by
  obtain⟨D,g,d,tk,os⟩:=s;obtain⟨a,m,h⟩:=h;have k:=sub_zip;have x:xU (Shared.heap ⟨D,g,d,tk,os⟩) B xs:=a;have b:xF (Shared.heap ⟨D.push {cls:=.type "list_iterator",data:=.fields #[.ref B,.int 0 0]},g,d,tk,os⟩) W ys:=m.at λo e=>jA _ e
  wp_walk using Wx x,YA b
  exists _,rfl;simp only[jc]at h ⊢;exact h
def aa4{B W:QX}{xs:Array Value}(b:s.heap.IsList B xs)(m:s.heap.IsTuple W ys)(h:∀h',Qp h' (s.heap.objs.size+4) #[139] #[138] .none->Qk h' #[139] #[23] (.ref #[11])->
   Qk h' #[138] .none .none->h'.IsListIter s.heap.objs.size B 0->h'.IsTupleIter #[11] W 0 ->
   (∀c o,s.heap.get? c=Z o->h'.get? c=Z o)->Q (.ref (s.heap.objs.size+4)) {s with heap:=h'}):
  wpAny #[5] A (call (.type "zip") [.ref B,.ref W]) Q E s:=by
 refine callType_new F.called_zip #[10] (F.typeCall_zip_2 _ _) (F.newCall_zip_2 _ _) (λobj=>F.args_object_init_3 obj _ _) F.entry_zip_new
  (Hz B W xs ys) ⟨b,m,?_⟩
 obtain⟨G,T⟩:∃G,s.heap.push {cls:=.type "list_iterator",data:=.fields #[.ref B,.int 0 0]}=G:=⟨_,rfl⟩;obtain⟨M,g⟩:∃M,G.push {cls:=.type "tuple_iterator",data:=.fields #[.ref W,.int 0 0]}=M:=⟨_,rfl⟩;obtain⟨J,j⟩:∃J,M.push {cls:=.type "tuple",data:=.seq #[.ref s.heap.objs.size,.ref #[11]]}=J:=⟨_,rfl⟩;obtain⟨k,a⟩:∃k,J.push {cls:=.type "tuple",data:=.seq #[.none,.none]}=k:=⟨_,rfl⟩;obtain⟨V,d⟩:∃V,k.push {cls:=.type "zip",data:=.fields #[.none,.bool false,.bool false,.ref #[139],.ref #[138]]}=V:=⟨_,rfl⟩;have i:G.objs.size=s.heap.objs.size+1:=by rw[<-T];exact jc ..
 have y:M.objs.size=s.heap.objs.size+2:=by rw[<-g,jc,i]
 have f:J.objs.size=s.heap.objs.size+3:=by rw[<-j,jc,y]
 have p:k.objs.size=s.heap.objs.size+4:=by rw[<-a,jc,f]
 have r:∀{c o},k.get? c=Z o->V.get? c=Z o:=λe=>by rw[<-d];exact jA _ e
 have n:∀{c o},J.get? c=Z o->V.get? c=Z o:=λe=>r (by rw[<-a];exact jA _ e);have q:∀{c o},M.get? c=Z o->V.get? c=Z o:=λe=>n (by rw[<-j];exact jA _ e);have z:∀{c o},G.get? c=Z o->V.get? c=Z o:=λe=>q (by rw[<-g];exact jA _ e);have l:Qp V (s.heap.objs.size+4) #[139] #[138] .none:=by rw[<-p,<-d];exact jF _ rfl
 have t:Qk V #[138] .none .none:=r (by rw[<-f,<-a];exact jF _ rfl);have u:Qk V #[139] #[23] (.ref #[11]):=n (by rw[<-y,<-j];exact jF _ rfl);have v:V.IsTupleIter #[11] W 0:=⟨_,q (by rw[<-i,<-g];exact jF _ rfl),rfl,rfl⟩;have D:V.IsListIter s.heap.objs.size B 0:=⟨_,z (by rw[<-T];exact jF _ rfl),rfl,rfl⟩;show _/\_;rw[T,g,j,a,d];exact⟨⟨_,l,U⟩,h _ l u t D v λc o x=>z (by rw[<-T];exact jA _ x)⟩
def aiM(K:YW)(a b:QX):It:=
 ⟨λi H=>∃xs ys x y,mw K H a xs/\lU K H b ys/\xs[i]?=Z x/\ys[i]?=Z y,
  λi H v H'=>∃T x y,v=.ref T/\H T=Y/\H'=upd H T (.tup [x,y])/\(∀xs,mw K H a xs->xs[i]?=Z x)/\∀ys,lU K H b ys->ys[i]?=Z y,
  λi H=>∃xs,mw K H a xs/\xs.length=i⟩
theorem acf{x1:_}(a b z TI TO p n:QX)(h1:TI≠z)(h2:TO≠z)(h3:TI≠TO)(h4:p≠z)(h5:n≠z)(h6:TI≠p)(h7:TI≠n)(h8:TO≠p)(h9:TO≠n)(f:p≠n)(S:∀c∈[z,TI,TO,p,n],a≠c)(B:∀c∈[z,TI,TO,p,n],b≠c):
  Turn P w K (.Tuple elts x1 pos) (aiM K a b) [z,TI,TO,p,n] z (λi h=>Qp h z TI TO .none/\Qk h TI (.ref p) (.ref n)/\(∃u v,Qk h TO u v)/\h.IsListIter p a i/\h.IsTupleIter n b i) where
 mem:=by simp
 obj:=λi h st c O=>by
  obtain⟨C,L,⟨u,v,M⟩,m,F⟩:=st;simp only[jL,jr,or_false]at O;rcases O with rfl|rfl|rfl|rfl|rfl
  ·exact⟨_,C,λv z=>by have Q:Data.fields _=Data.cell v:=z;cases Q⟩
  ·exact⟨_,L,λv z=>by have Q:Data.seq _ _=Data.cell v:=z;cases Q⟩
  ·exact⟨_,M,λv z=>by have Q:Data.seq _ _=Data.cell v:=z;cases Q⟩
  ·obtain⟨o,e,c,d⟩:=m;exists 5
  ·obtain⟨o,e,c,d⟩:=F;exists 5
 keep:=λi h h' st k=>by obtain⟨C,L,⟨u,v,M⟩,m,F⟩:=st;exact⟨k z #[8] _ C,k TI #[8] _ L,⟨u,v,k TO #[8] _ M⟩,m.at λo e=>k p #[8] o e,F.at λo e=>k n #[8] o e⟩
 item:=by
  intro X hP hw hK O i y3 s σ H E I V st hg;subst hP hw hK;obtain⟨xs,ys,x,y,l,r,hx,W⟩:=hg;obtain⟨t,rv,g,_⟩:=I.list l;obtain⟨IC,Ot,p2,_⟩:=I.tuple r;have p1:s.heap.IsList a t.toArray:=g.isList;obtain⟨u,hu,ru⟩:=rv.get hx;obtain⟨v,hv,j5⟩:=Ot.get W;obtain⟨C,L,⟨o1,o2,M⟩,m,F⟩:=st;have FF:=ac0 (a:=a) (b:=b) h1 h2 h3 h4 h5 h6 h7 h8 h9 f (λc O=>S c #[52]) (λc O=>B c #[52]);have l1:i<t.toArray.size:=by have:i<t.length:=(jb.mp hu).1;simpa using this
  have l2:i<IC.toArray.size:=by have:i<IC.length:=(jb.mp hv).1;simpa using this
  have hh:X.A.in1.handled=Y:=I.ok.hd O;have D1:=Draws.list (prog:=X.prog) (w:=X.w) (A:=X.A.in1) hh p a (S p #[8]) t.toArray;have D2:=FZ (prog:=X.prog) (w:=X.w) (A:=X.A.in1) hh n b (B n #[8]) IC.toArray;have J:s.TypeIs (.ref z) "zip" :=⟨_,C,rfl⟩;unfold pyNext;refine WI (WH (WK (name:=Str.ofString "__next__") J yu (WL yu J xY ?_ (xS _))));refine ack D1 D2 FF C L M ⟨m,p1⟩ ⟨F,p2⟩ l1 l2 λj G h' tk MY R a1 a2 a3 a4 a5 a7=>Wv ?_;have ex:j=u:=by
   have:t.toArray[i]?=Z u:=by simpa using hu
   rw[this]at MY;exact(Option.some.inj MY).symm
  have ey:G=v:=by
   have:IC.toArray[i]?=Z v:=by simpa using hv
   rw[this]at R;exact(Option.some.inj R).symm
  subst ex ey;refine⟨_,U,wpAny_letOwnedTupleGo_zip (s:={s with heap:=h',toks:=tk}) a1 λN P7 D=>?_⟩;have fr:H s.heap.objs.size=Y:=I.hok.fresh (jD _);have I1:Inv X y3 σ (upd H s.heap.objs.size (.tup [x,y])) {s with heap:=s.heap.push {cls:=.type "tuple",data:=.seq #[j,G]},toks:=tk}:=
   I.laid (o:=.tup [x,y]) (λb ob q=>jA _ q) (jD _) ⟨by show 2<=sizeLine;decide,[j,G],.cons ru (.cons j5 .nil),⟨_,jF _ rfl,rfl,_,rfl⟩⟩
  have lt:∀c∈[z,TI,TO,p,n],c<s.heap.objs.size:=λc O=>by
   simp only[jL,jr,or_false]at O;rcases O with rfl|rfl|rfl|rfl|rfl
   ·exact jI C
   ·exact jI L
   ·exact jI M
   ·obtain⟨o,e1,_⟩:=m;exact jI e1
   ·obtain⟨o,e1,_⟩:=F;exact jI e1
  have f2:∀c∈[z,TI,TO,p,n],rn X y3 (upd H s.heap.objs.size (.tup [x,y])) c:=λc O=>by refine⟨?_,(V c O).2⟩;rw[ag (jM (lt c O))];exact(V c O).1
  have I2:Inv X y3 σ (upd H s.heap.objs.size (.tup [x,y])) {s with heap:=N,toks:=tk}:=by
   refine Inv.aaP (s:={s with heap:=s.heap.push {cls:=.type "tuple",data:=.seq #[j,G]},toks:=tk}) (t':=tk) (h':=N) (ch:=[z,TI,TO,p,n]) I1 (λc o O q=>?_) f2 (λ_ _ _ _=>trivial);simp only[jL,jr,or_false,not_or]at O;refine(D.2 c O.1).trans ?_;rcases zi (show(s.heap.push {cls:=.type "tuple",data:=.seq #[j,G]}).get? c=Z o from q)with⟨rfl,rfl⟩|q
   ·exact a5
   ·exact a7 c o O.1 O.2.2.1 O.2.2.2.1 O.2.2.2.2 q
  refine⟨.ref s.heap.objs.size,_,I2,U,⟨s.heap.objs.size,x,y,U,fr,U,λys W=>by rw[I.B4 W l];exact hx,λys R=>by rw[I.DL R r];exact W⟩,⟨P7,?_,⟨j,G,?_⟩,?_,?_⟩,λb B=>(f2 b B).1⟩
  ·exact(D.2 TI h1).trans (a7 _ _ h1 h3 h6 h7 L)
  ·exact(D.2 TO h2).trans a2
  ·exact a3.1.at λo e=>(D.2 p h4).trans e
  ·exact a4.1.at λo e=>(D.2 n h5).trans e
 done:=by
  intro X hP hw hK O i y3 s σ H E I V st hg;subst hP hw hK;obtain⟨xs,hq,hx⟩:=hg;obtain⟨t,rv,g,_⟩:=I.list hq;have p1:s.heap.IsList a t.toArray:=g.isList;obtain⟨C,L,⟨o1,o2,M⟩,m,F⟩:=st;have FF:=ac0 (a:=a) (b:=b) h1 h2 h3 h4 h5 h6 h7 h8 h9 f (λc O=>S c #[52]) (λc O=>B c #[52]);have hh:X.A.in1.handled=Y:=I.ok.hd O;have D1:=Draws.list (prog:=X.prog) (w:=X.w) (A:=X.A.in1) hh p a (S p #[8]) t.toArray;have hl:=rv.length;have ei:i=t.toArray.size:=by simp;omega
  rw[ei]at m;have J:s.TypeIs (.ref z) "zip" :=⟨_,C,rfl⟩;unfold pyNext;refine WI (WH (WK (name:=Str.ofString "__next__") J yu (WL yu J xY ?_ (xS _))));refine afp D1 FF C L ⟨m,p1⟩ λh' e hk he=>?_;obtain⟨o,ho,o5⟩:=he;refine WI (Wa (T:="StopIteration") (b:=true) ⟨o,ho,o5⟩ qU ?_);refine Wv ⟨U,I.aaP (t':=s.toks) (ch:=[z,TI,TO,p,n]) (λc o O q=>?_) V (λ_ _ _ _=>trivial)⟩;simp only[jL,jr,or_false,not_or]at O;exact hk c o O.1 O.2.2.1 O.2.2.2.1 O.2.2.2.2 q
 self:=λ_ _ _ _ _ st h=>YB st.1 h
section
def anO(K:YW)(tl:TA):TI:=λσ H R=>tl σ H λvs H1=>∃a b,vs=[.ref a,.ref b]/\(∃xs,mw K H1 a xs)/\(∃ys,lU K H1 b ys)/\R (aiM K a b) H1
theorem aha{u:_}{r:Expr}{tl:TA}(m:Gl X "zip")(N:X.mg "zip" = Y)(t:PA X [l,r] tl)(hs:qh [l,r] X.env=[(false,eval l X.env),(false,eval r X.env)]:=by rfl)(M:qh [r] X.env=[(false,eval r X.env)]:=by rfl):
  PI X (.Tuple elts u OG) (.Call (.Name "zip" p) [l,r] [] pos) (anO X.K tl):=by
 exists 24;refine Call_ (sH I m N aiY (Yl (bR (t pos y3 s σ H _ I h) λus T ⟨vs,v,P,F,w⟩=>?_) (by rw[hs,M]) (by rw[M];rfl)));obtain⟨a,b,e,⟨xs,n⟩,⟨ys,x⟩,q⟩:=w;subst e;cases F with
 | cons y d=>
  cases d with
  | cons A d=>
   cases d;cases y;cases A;obtain⟨B,rv,g,_⟩:=P.list n;obtain⟨W,C,L,_⟩:=P.tuple x;have S:T.heap.IsList a B.toArray:=g.isList;have J:a<T.heap.objs.size:=by obtain⟨o,e,_⟩:=S;exact jI e
   have G:b<T.heap.objs.size:=by obtain⟨o,e,_⟩:=L;exact jI e
   refine aa4 S (show T.heap.IsTuple b W.toArray from L) λh' f V D E Q hk=>?_;refine YB f ?_;have le:∀c∈[T.heap.objs.size+4,T.heap.objs.size+2,T.heap.objs.size+3,T.heap.objs.size,T.heap.objs.size+1],T.heap.objs.size<=c:=λc O=>by simp only[jL,jr,or_false]at O;rcases O with rfl|rfl|rfl|rfl|rfl<;>first|exact jD _|exact Nat.le_add_right _ _
   have ad:∀{i j:Nat},i≠j->T.heap.objs.size+i≠T.heap.objs.size+j:=λh z=>h (Zf z);have k:∀{j:Nat},0≠j->T.heap.objs.size≠T.heap.objs.size+j:=λh z=>h (Zf (show T.heap.objs.size+0=_ from z));refine⟨T.heap.objs.size+4,[T.heap.objs.size+4,T.heap.objs.size+2,T.heap.objs.size+3,T.heap.objs.size,T.heap.objs.size+1],_,_,v,U,P.kept (t':=T.toks) hk,
    acf a b (T.heap.objs.size+4) (T.heap.objs.size+2) (T.heap.objs.size+3) T.heap.objs.size (T.heap.objs.size+1) (ad #[10]) (ad #[10]) (ad #[10]) (k #[10]) (ad #[10]) (Ne.symm (k #[10])) (ad #[10]) (Ne.symm (k #[10])) (ad #[10]) (k #[10])
     (λc O=>jM (jS J (le c O))) (λc O=>jM (jS G (le c O))),⟨f,V,⟨_,_,D⟩,E,Q⟩,λc O=>P.G0 (le c O) (P.hok.fresh (le c O)),q⟩
end
def aba{zs:List V}{g:TG}(S:xs.length=zs.length)(d:QX->Nat->List V->Hp->Prop)(h:∀(T:QX) (σ:St) (H:Hp) (Q:St->Hp->Prop) (x y:V),H T=Z (.tup [x,y])->Q ((σ.set 0 (Z x)).set 1 (Z y)) H->g #[164] σ H Q)(I:∀D,H D=Y->d D 0 [] #[50])(L:∀D i ys H',H D=Y->i<=xs.length->H' D=Z #[76]->d D i ys H'->mw K H' a xs/\lU K H' b zs)(hs:∀D i ys H' T x z (F:VK),H D=Y->xs[i]?=Z x->zs[i]?=Z z->H' D=Z #[76]->d D i ys H'->H' T=Y->#[7] ->
   te ((#[47].set 0 (Z x)).set 1 (Z z)) (upd H' T (.tup [x,z])) F)(j:∀D ys H',H D=Y->H' D=Z #[76]->d D xs.length ys H'->Qd D H'):Bz (aiM K a b) ix g te σ H Qd:=by
 intro D X;refine⟨λi m O H'=>m=xs.length-i/\i<=xs.length/\(O=aF ix σ\/∃t u,O=(#[47].set 0 t).set 1 u)/\∃ys,H' D=Z #[76]/\d D i ys H',⟨xs.length,by simp,je _,.inl rfl,[],ae,I D X⟩,?_⟩;exists 6;have q:=L D i ys H' X W N p;exists 23
 ·refine .inr ⟨⟨xs,zs,xs[i],zs[i]'#[2],q.1,q.2,by simp[f],by rw[jE #[2]]⟩,λx G y=>?_⟩;obtain⟨T,w,c,rfl,r,rfl,l,P⟩:=y;have k:=l xs q.1;have n:=P zs q.2;refine h T O _ _ w c ae ?_;have es:((O.set 0 (Z w)).set 1 (Z c))=(#[47].set 0 (Z w)).set 1 (Z c):=by
   rcases A with z|⟨t,u,z⟩
   ·rw[z]
   ·rw[z,Ic]
  show te ((O.set 0 (Z w)).set 1 (Z c)) _ _;rw[es];refine hs D i ys _ T w c _ X k n N p r λy B o C s=>⟨ys,o,C,xs.length-(i+1),by omega,U,f,.inr ⟨_,_,U⟩,ys++[y],ae,s⟩
 ·exists 17;subst e;exact .inl ⟨⟨xs,q.1,U⟩,j D ys H' X N p⟩
end L2
set_option maxHeartbeats 8000000
namespace My
open PySem L2
variable{α β κ:Type}{i N b n t many d4 j most tn:Nat}{K:YW}{H H' H0:Hp}{a p ra f B C go ms wt iw F0 f0 CT TC TJ TH CL rd CP Pt T fa dF dE dY ir bW dX DR DS ON K4 X3 OO OP K5 DQ K3 Fj X4 Au mM:QX}{xs ws R9:List V}{P:Qv}{sc scope:Scope}{ix:List (Option Nat)}{X:Cx}{x m z L qual:Str}{e body:Expr}{te:TE}{pos:Pos}{u:TS}{D:Ends}{σ:St}{o:Obj}{eK ts ds as wa Ps:List QX}{y h q:Int}{w:World}{mg:Str→Option Value}{base:Heap}{fd:Qh}{dV tc oc doc pm bP ct:Value}{kvs:List (Key×V)}{v d:V}{sg d5 abl c φ ψ ru:Int→Int}{zs CD loose:List Str}{sp spB spS spG:Sp}{params:QZ}{Qd:QX→Hp→Prop}{A:Around}{t0 t1 Iq J7 J8:Tok}{st:Stmt}{od an td:Option QX}{HM tsl sl:Array (Option Value)}
abbrev LL:=List (List Int)
abbrev LI:=List Int
abbrev OV:=Option V
def iT{l:List α}{a:α}(h:l[i]?=Z a):∃h:i<l.length,l[i]=a:=jb.mp h
def sM{l:List α}{a:α}(h:l[i]?=Z a):a∈l:=JS h
def sJ{a:α}{s t:List α}:a∈s++t↔a∈s\/a∈t:=Jb
def bg{f:α->β}{l:List α}:(l.map f).length=l.length:=jQ f
def bN(h:H a=Z #[39]):lU K H a xs:=lU.of h
def bz(h:H a=Z #[165]):mw K H a xs:=mw.of h
def top(i:Nat):Stmt:=PySem.Challenge.pw_figuretell_k67_refused_rows.main.body.getD i (.Pass ⟨0,0,0,0⟩)
abbrev Bq:Stmt:=top 12
abbrev mE:Stmt:=top 13
abbrev iL:Stmt:=top 14
abbrev sU:Stmt:=top 15
abbrev Br:Stmt:=top 16
abbrev DA:Stmt:=top 17
abbrev HZ:Stmt:=top 18
abbrev V1:Stmt:=top 21
abbrev mF:Stmt:=top 22
abbrev Cm:Stmt:=top 33
abbrev Cn:Stmt:=top 35
abbrev dS:Stmt:=top 36
abbrev oo:Stmt:=top 37
abbrev di:Stmt:=top 38
abbrev Dz:Stmt:=top 39
abbrev Ap:Stmt:=top 43
abbrev Ov:Stmt:=top 50
abbrev DB:Stmt:=top 51
abbrev wZ:Stmt:=top 52
abbrev mG:Stmt:=top 53
abbrev DC:Stmt:=top 54
abbrev pk:Stmt:=top 55
abbrev Aa:Stmt:=top 57
abbrev sS:Stmt:=top 65
abbrev wX:Stmt:=top 66
abbrev wY:Stmt:=top 67
abbrev rj:Stmt:=top 68
abbrev Ou:Stmt:=top 72
abbrev pO:Stmt:=top 74
abbrev wU:Stmt:=top 76
abbrev iJ:Stmt:=top 77
abbrev wV:Stmt:=top 78
abbrev pf:Stmt:=top 79
abbrev Bp:Stmt:=top 80
abbrev iK:Stmt:=top 81
abbrev sQ:Stmt:=top 82
abbrev wW:Stmt:=top 83
abbrev Bo:Stmt:=top 84
abbrev fz:Stmt:=top 85
abbrev rh:Stmt:=top 86
abbrev pd:Stmt:=top 87
abbrev aav:Stmt:=top 88
abbrev fj:Stmt:=inClass (top 6) 0
abbrev fZ:Stmt:=inClass (top 28) 0
abbrev mD:Stmt:=inClass (top 28) 1
abbrev pb:Stmt:=inClass (top 28) 2
abbrev oZ:Stmt:=inClass (top 28) 3
abbrev cK:Stmt:=inClass (top 40) 0
abbrev lN:Stmt:=inClass (top 40) 1
abbrev dQ:Stmt:=inClass (top 40) 2
abbrev lO:Stmt:=inClass (top 40) 3
abbrev dR:Stmt:=inClass (top 40) 4
abbrev iI:Stmt:=inClass (top 40) 5
abbrev fY:Stmt:=inClass (top 61) 0
abbrev mC:Stmt:=inClass (top 61) 1
abbrev oY:Stmt:=inClass (top 61) 2
abbrev oX:Stmt:=inClass (top 61) 3
abbrev lK:Stmt:=inClass (top 73) 0
abbrev eA:Stmt:=inClass (top 73) 1
abbrev dC:Stmt:=inClass (top 73) 2
abbrev lM:Stmt:=inClass (top 73) 6
abbrev fO:Stmt:=inClass (top 73) 8
def cb{N P:List Str}(h:(sc.kind=.function/\sc.isCoroutine=false/\sc.isGenerator=false)/\N.Nodup/\N.take P.length=P/\(∀x∈P,sc.names.lookup x=Z .local\/sc.names.lookup x=Z .cell)/\∀y∈sc.names,y.2≠.free):ax N P sc:=⟨h.1.1,h.1.2.1,h.1.2.2,h.2.1,h.2.2.1,h.2.2.2.1,h.2.2.2.2⟩
def oh{b N:List Str}{a:Scope}(h:sc.kind=.function/\N.Nodup/\(∀y∈sc.names,y.2≠.cell)/\(∀y∈sc.names,y.2=.local->sc.names.lookup y.1=Z .local)/\(∀y∈sc.names,y.2=.free->a.names.lookup y.1=Z .cell\/a.names.lookup y.1=Z .free)/\ix.length=N.length/\∀p∈N.zip ix,∀i∈p.2,b[i]?=Z p.1/\sc.names.lookup p.1=Z .free):aO b a N ix sc:=⟨h.1,h.2.1,h.2.2.1,h.2.2.2.1,h.2.2.2.2.1,h.2.2.2.2.2.1,λp m i e=>h.2.2.2.2.2.2 p m i e⟩
def az{b:Pos}(a:X.N.Nodup)(R:PE X e te)(W:X.N[i]?=Z x:=by rfl)(J:Loc X.env.scope x:=by first|exact .inl rfl|exact .inr rfl)(hs:qq e (Z (.Name x b)) pos.line X.env=pure false:=by rfl)(l:X.fn x=true\/X.env.scope.names.lookup x=Z .local:=by first|exact .inl rfl|exact .inr rfl|assumption):PS X (.Assign [.Name x b] e pos) (oy te (aP i)):=aew a W J R hs l
def aQ(a:X.N.Nodup)(W:X.N[i]?=Z x:=by rfl)(J:Loc X.env.scope x:=by first|exact .inl rfl|exact .inr rfl)(l:X.fn x=true\/X.env.scope.names.lookup x=Z .local:=by first|exact .inl rfl|exact .inr rfl|assumption):PG X #[175] (aP i):=aao a W J l
def Be{c A B:Prop}[Decidable c](h1:c->A)(M:¬ c->B):if decide c=true then A else B:=adv (λh=>h1 (of_decide_eq_true h)) λh=>M λz=>h (decide_eq_true z)
def adw{c A B:Prop}[Decidable c](h1:¬ c->A)(M:c->B):if (!decide c)=true then A else B:=adv (λh=>h1 λz=>by rw[decide_eq_true z]at h;cases h) λh=>M (Decidable.byContradiction λz=>h (by rw[decide_eq_false z];rfl))
def agz{a b:Int}{A B:Prop}(h1:a=b->A)(M:a≠b->B):if decide (V.int a=V.int b)=true then A else B:=Be (λh=>h1 (V.int.inj h)) λh=>M λz=>h (congrArg V.int z)
def adL{a b m n:Int}(k:0<=a)(i:a<=m)(o:0<=b)(X:b<=n):0<=a*b/\a*b<=m*n:=⟨ZU k o,Jn i X o (zk k i)⟩
def cO{a b:Int}(h:0<b):0<=a%b/\a%b<b:=⟨QG a #[2],Zn a h⟩
def Aj{t:TS}(R:St->Hp->Prop)(M:∀O H',R O H'->u D O H')(h1:(∀O H',R O H'->u D O H')->V8 t u D σ H):V8 t u D σ H:=h1 M
def bM{t:TS}(R:St->Hp->Prop)(h1:∀O H',R O H'->u D O H')(M:∀k:Ends,(∀O H',R O H'->k.nx O H')->t k σ H):V8 t u D σ H:=M {D with nx:=u D} h1
def au{o:HO}(h:av H H')(D:H p=Y):av H (upd H' p o):=λb u e=>by rw[ag (ak e D)];exact h b u e
def HJ{x:Int}(h:0<=x):∃n:Nat,x=(n:Int):=⟨x.toNat,by omega⟩
def getD_at{xs:List α}{d:α}(h:i<xs.length):xs.getD i d=xs[i]:=by simp[h]
def lV{ns:LI}{k:Int}(I:0<=k)(h:k<(ns.length:Int)):tW #[67] k=Z (.int (ns.getD k.toNat 0)):=by
 have C:k.toNat<ns.length:=by omega
 have g:k=((k.toNat:Nat):Int):=by omega
 have q:tW #[67] ((k.toNat:Nat):Int)=Z (.int ns[k.toNat]):=Ah (by rw[jU,jE C]<;>rfl);rw[<-g]at q;rw[q,getD_at C]
def BP{k:Int}(I:0<=k)(h:eK[k.toNat]?=Z ra):tW #[78] k=Z (.ref ra):=by
 have g:k=((k.toNat:Nat):Int):=by omega
 have q:tW #[78] ((k.toNat:Nat):Int)=Z (.ref ra):=Ah (by rw[jU,h]<;>rfl);rw[<-g]at q;exact q
def cj{ns:LI}{y:V}(h:#[67][i]?=Z y):∃z,y=V.int z/\ns[i]?=Z z:=by
 rw[jU]at h;cases e:ns[i]? with
 | none=>rw[e]at h;cases h
 | some z=>rw[e]at h;exact⟨z,#[127].symm,rfl⟩
def tI(K:YW):Ye K #[179] #[179]=Z true:=by with_unfolding_all rfl
def stepI(rows:LL)(h f:Int):Int:=(rows.getD h.toNat []).getD f.toNat 0
def iQ(rows:LL)(row:LI)(h:Int):Int:=row.foldl (stepI rows) h
structure bA(many d4:Nat)(rows:LL):Prop where
 len:rows.length=many
 row:∀r∈rows,r.length=d4
 val:∀r∈rows,∀v∈r,0<=v/\v<(many:Int)
def pz{rows:LL}{f:Int}(R:bA many d4 rows)(I:0<=h)(h1:h<many)(f0:0<=f)(L:f<d4):0<=stepI rows h f/\stepI rows h f<many:=by
 have B:h.toNat<rows.length:=by rw[R.len];omega
 have W:f.toNat<rows[h.toNat].length:=by rw[R.row _ (jV B)];omega
 unfold stepI;rw[getD_at B,getD_at W];exact R.val _ (jV B) _ (jV W)
theorem Iw{rows:LL}(R:bA many d4 rows):∀{ns:LI} {h:Int},(∀f∈ns,0<=f/\f<(d4:Int))->0<=h->h<many->0<=iQ rows ns h/\iQ rows ns h<many
 |[],h,_,I,G=>⟨I,G⟩
 | f::r,h,l,I,G=>by obtain⟨a,b⟩:=pz R I G (l f jC).1 (l f jC).2;exact Iw (ns:=r) R (λg m=>l g (jJ _ m)) a b
def CB(rows:LL)(xs ys:LI)(h:Int):iQ rows (xs++ys) h=iQ rows ys (iQ rows xs h):=by unfold iQ;rw[ju]
def W9{rows:LL}{ns:LI}{z:Int}(e:ns[i]?=Z z):iQ rows (ns.take (i+1)) h=stepI rows (iQ rows (ns.take i) h) z:=by rw[jO,e,CB];rfl
def bj(H:Hp):List QX->LL->Prop:=Qs λa r=>H a=Z (.tup #[183])
theorem bj.length{rows:LL}(h:bj H eK rows):eK.length=rows.length:=Paired.length h
theorem bj.get:∀{H:Hp} {eK:List QX} {rows:LL} {i:Nat},bj H eK rows->(h:i<rows.length)->∃ra,eK[i]?=Z ra/\H ra=Z (.tup (rows[i].map V.int))
 | _,_,_,_,.nil,h=>by simp at h
 | _,_,_,0,.cons (a:=a) r _,_=>⟨a,rfl,r⟩
 | _,_,_,i+1,.cons _ t,h=>by obtain⟨ra,G,M⟩:=bj.get (i:=i) t #[113];exact⟨ra,by simpa using G,by simpa using M⟩
def bj.same{rows:LL}(h:bj H eK rows)(s:∀b xs,H b=Z #[39]->H' b=Z #[39]):bj H' eK rows:=Paired.rH h λ_ _ q=>s _ _ q
theorem bj.snoc:∀{H:Hp} {eK:List QX} {rows:LL} {a:QX} {r:LI},bj H eK rows->H a=Z (.tup #[183])->bj H (eK++[a]) (rows++[r])
 | _,_,_,_,_,.nil,h=>.cons h .nil
 | _,_,_,_,_,.cons q t,h=>.cons q (bj.snoc t h)
structure bQ(H:Hp)(m r g:QX)(d4:Nat)(rows:LL)(signs:LI):Prop where
 tup:H m=Z (.tup [.int d4,.ref r,.ref g])
 rows:∃eK,H r=Z (.tup #[78])/\bj H eK rows
 sgn:H g=Z (.tup (signs.map V.int))
theorem bQ.same{m r g:QX}{rows:LL}{signs:LI}(M:bQ H m r g d4 rows signs)(s:∀b xs,H b=Z #[39]->H' b=Z #[39]):bQ H' m r g d4 rows signs:=by obtain⟨G,⟨eK,a,J⟩,k⟩:=M;exact⟨s _ _ G,⟨eK,s _ _ a,J.same s⟩,s _ _ k⟩
def Cj{rows:LL}{f:Int}(A:bj H eK rows)(R:bA many d4 rows)(I:0<=h)(h1:h<many)(f0:0<=f)(L:f<d4):
  ∃(ra:QX) (r:LI),tW #[78] h=Z (.ref ra)/\H ra=Z (.tup #[183])/\tW #[183] f=Z (.int (stepI rows h f)):=by
 have B:h.toNat<rows.length:=by rw[R.len];omega
 have W:rows[h.toNat].length=d4:=R.row _ (jV B);obtain⟨ra,T,g⟩:=A.get B;exists ra,rows[h.toNat],BP I T,g;rw[lV f0 (by rw[W];exact L)];unfold stepI;rw[getD_at B]
variable{ns r signs ks gs ls col ins mem s dn qs F s1 s2 bZ:LI}{rows j4 Lo r1 r2 aW:LL}
def aV(rows:LL)(ρ:Int->Int)(qs:LI):LL:=qs.map λq=>(rows.getD q.toNat []).map ρ
def bG(signs qs:LI):LI:=qs.map λq=>signs.getD q.toNat 0
def aml(H:Hp)(D:QX)(many:Nat)(rows:LL)(qs:LI)(ρ:Int->Int):Prop:=∃kvs,H D=Z #[57]/\∀q∈qs,∀t∈rows.getD q.toNat [],cI kvs (Sum.inl t)=Z (.int (ρ t))
def amm(H:Hp)(D:QX)(many:Nat)(rows:LL)(qs:LI)(ρ:Int->Int):Prop:=∃ns:LI,H D=Z (.lst #[67])/\∀q∈qs,∀t∈rows.getD q.toNat [],(0<=t/\t<(ns.length:Int))/\ρ t=ns.getD t.toNat 0
inductive Ff (K:YW) (Num:Hp->QX->Nat->LL->LI->(Int->Int)->Prop) (vs:List V) (H:Hp) (Q:VK) (E:XK):Prop
 | mk (m kl D r g:QX) (many d4:Nat) (rows:LL) (signs qs:LI) (ρ:Int->Int) (_:vs=[.ref m,.ref kl,.ref D]) (_:bQ H m r g d4 rows signs) (_:bA many d4 rows) (_:signs.length=many) (_:(many<=1000/\d4<=1000)) (_:H kl=Z (.lst (qs.map V.int))) (_:qs.length<=1000) (_:(∀q∈qs,0<=q/\q<(many:Int))) (_:Num H D many rows qs ρ) (_:∀(m' r' g':QX) (H':Hp),av H H'->bQ H' m' r' g' d4 (aV rows ρ qs) #[155]->Q (.ref m') H')
def bj.kept(A:bj H eK rows)(R:bA many d4 rows)(I:0<=q)(h1:q<(many:Int)):∃ra,tW #[78] q=Z (.ref ra)/\H ra=Z (.tup ((rows.getD q.toNat []).map V.int))/\(rows.getD q.toNat []).length=d4:=by
 have l:q.toNat<rows.length:=by rw[R.len];omega
 obtain⟨ra,T,g⟩:=A.get l;refine⟨ra,?_,by rw[getD_at l];exact g,by rw[getD_at l];exact R.row _ (jV l)⟩;have N:tW #[78] ((q.toNat:Nat):Int)=Z (.ref ra):=Ah (by rw[jU,T];rfl);rw[jz I]at N;exact N
section
def cn:ax ["machine","kept","numbers","rows","signs","kept_rows","here"] ["machine","kept","numbers"] (ao dS):=cb #[1]
def fJ:aO ["machine","kept","numbers","rows","signs","kept_rows","here"] (ao dS) ["there","numbers"] [Y,Z 2] ⟨.function,[#[48],("there",.local),("numbers",.free)],false,false,[]⟩:=oh #[1]
def fK:aO ["machine","kept","numbers","rows","signs","kept_rows","here"] (ao dS) ["here","signs"] [Y,Z 4] ⟨.function,[#[48],("here",.local),("signs",.free)],false,false,[]⟩:=oh #[1]
def abP(F:aY K "with_rooms" "with_rooms" dS dV f fd)(S:mg "tuple" = Y):aR P w K mg base dy 1 f fd ["machine","kept","numbers"] (Ff K aml):=by
 refine F.ok cn #[22] (λbP A j5 s H vs Q E hr h=>?_)
 ·obtain⟨m,W,D,r,g,many,d4,rows,signs,qs,n,rfl,_⟩:=h;rfl
 obtain⟨m,W,D,r,g,many,d4,rows,signs,qs,n,rfl,M,R,l6,⟨n1,w1⟩,a,lq,l,⟨kvs,X,hv⟩,k⟩:=h;obtain⟨hm,⟨eK,Hh,hA⟩,hg⟩:=M;have hu:=mh hr;refine⟨_,(ah (az (i:=3) cn.nd #[12])
   (ah (az (i:=4) cn.nd #[12])
   (ah (az (i:=5) cn.nd (bI af))
   (ah (bL PassesOwn.never rfl (cu (pv 1)) (aQ (i:=6) cn.nd) (aq (aS (dN YY Ya Yb bu (pv 5) (aa (aM aK #[43] S bH (aa (dB rfl fJ (eS (aB aE (pv 3) (pv 6) #[3])) (λ_ _ _ _=>(aQ (i:=0) fJ.nd)) (λ_ _ _ _=>(Cc hu (pv 1) (pv 0) #[3]))) af)) af)))))
   (aq (aH (ck (aa #[12] (aa (aM aK #[43] S bH #[172]) (aa (aM aK #[43] S bH (aa (dB rfl fK (cu (pv 1)) (λ_ _ _ _=>(aQ (i:=0) fK.nd)) (λ_ _ _ _=>(aB (pK K) (pv 1) (pv 0) #[3]))) af)) af)))))))))),?_⟩
 exists 0;exists _,rfl,m,_,_,_,rfl,rfl,bN hm,rfl;exists _,rfl,m,_,_,_,rfl,rfl,bN hm,rfl;refine⟨#[13],λL hL=>?_⟩;have sL:=aj hL #[85];exists 22;refine bM (t:=rl _ _ _) (λO H'=>∃(as:List QX) (v:OV),O=[Z #[147],Z (.ref W),Z #[81],Z (.ref r),Z (.ref g),Z #[143],v]/\av H H'/\H' L=Z #[166]/\bj H' as (aV rows n qs)) ?_ #[46];exists 27
 ·exists _,rfl,W,rfl,⟨_,bz (sL _ _ a)⟩;refine dH (K:=K) (xs:=qs.map V.int) (λi O H'=>∃(as:List QX) (v:OV),O=[Z #[147],Z (.ref W),Z #[81],Z (.ref r),Z (.ref g),Z #[143],v]/\av H H'/\H' L=Z #[166]/\bj H' as (aV rows n #[176])) ⟨[],Y,U,sL,ae,.nil⟩ (λi O H' _ ⟨_,_,_,e,_,_⟩=>bz (e _ _ a)) ?_ ?_
  ·rintro i y O H3 hi ⟨as,v,rfl,J,c,A3⟩;obtain⟨z,rfl,C⟩:=cj hi;have zm:=sM C;have li:=(iT C).1;obtain⟨z0,z1⟩:=l z zm;obtain⟨ra,e1,e2,e3⟩:=hA.kept R z0 z1;have la:as.length=i:=by rw[A3.length];unfold aV;rw[bg,jT];omega
   exists _,rfl,.inl ⟨rfl,_,bz c⟩,_,rfl,_,rfl,r,_,_,_,rfl,rfl,bN (J _ _ Hh),e1,ra,rfl,⟨_,bN (J _ _ e2)⟩;refine rD (K:=K) (xs:=#[100].map V.int) (λD j I H'=>av H3 H'/\I=((#[100].take j).map n).map V.int) #[88] (λD j I H' _ ⟨e,_⟩=>bN (e _ _ (J _ _ e2))) ?_ ?_
   ·rintro T j y I B Q' u hj N ⟨p,rfl⟩ k';obtain⟨t,rfl,d⟩:=cj hj;have tm:=sM d;have lj:=(iT d).1;have o5:=J.trans p;have dg:mS B D (.int t) (Z (.int (n t))):=by rw[<-hv z zm t tm];exact mS.k (k:=Sum.inl t) (o5 _ _ X)
    refine⟨_,U,_,U,D,_,U,dg,k' _ _ N #[102] ⟨au p u,?_⟩⟩;rw[jO,d,jB,jB];rfl
   ·rintro T I B u N ⟨p,rfl⟩;rw[bg,jR]at N;refine⟨T,_,U,.inl ⟨bz N,λt d=>?_⟩⟩;have q:=p _ _ c;have nL:L≠t:=ak q d;refine⟨L,_,_,U,U,by rw[ag nL];exact q,ay #[24],?_⟩;have sT:∀b xs,H3 b=Z #[39]->(upd (upd B t (.tup ((#[100].map n).map V.int))) L (.lst (as.map V.ref++[V.ref t]))) b=Z #[39]:=λb xs e=>by have e4:=p _ _ e;rw[ag (aA e4 q #[0]),ag (ak e4 d)];exact e4
    refine⟨as++[t],_,U,au (au (J.trans p) ((J.trans p).free d)) hL,by rw[ae,jB];rfl,?_⟩;have ek:aV rows n (qs.take (i+1))=aV rows n #[176]++[#[100].map n]:=by unfold aV;rw[jO,C,jB];rfl
    rw[ek];exact bj.snoc (A3.same sT) (by rw[ag (Ne.symm nL),ae])
  ·rintro O H3 ⟨as,v,rfl,J,c,A3⟩;rw[bg,jR]at A3;exact cE _ _ ⟨as,v,U,J,c,A3⟩
 rintro O H1 ⟨as,v,rfl,s1,c6,A1⟩;refine⟨_,U,m,_,_,_,U,U,bN (s1 _ _ hm),U,_,U,L,_,U,.inl ⟨bz c6,λrt d6=>?_⟩⟩;have s2:=aj d6 (HO.tup #[49]);have x:=s1.trans s2;exists _,rfl,W,rfl,⟨_,bz (x _ _ a)⟩;refine dZ (K:=K) (xs:=qs.map V.int) (λD j I H'=>av (upd H1 rt (HO.tup #[49])) H'/\I=(bG signs (qs.take j)).map V.int) #[88] (λD j I H' _ ⟨e,_⟩=>bz (e _ _ (x _ _ a))) ?_ ?_
 ·rintro T j y I B Q' u hj N ⟨p,rfl⟩ k';obtain⟨z,rfl,C⟩:=cj hj;have li:=(iT C).1;obtain⟨z0,z1⟩:=l z (sM C);refine⟨_,U,_,U,g,_,_,_,U,U,bN ((x.trans p) _ _ hg),lV z0 #[2],k' _ _ N (ay (by unfold bG;rw[bg,bg,jT];omega)) ⟨au p u,?_⟩⟩;unfold bG;rw[jO,C,jB,jB];rfl
 rintro G I B hG N ⟨p,rfl⟩;rw[bg,jR]at N;refine⟨G,_,U,.inl ⟨bz N,λgt g6=>⟨#[56],λmm i6=>?_⟩⟩⟩;have s5:=aj g6 (HO.tup (#[155].map V.int));have s6:=aj i6 (HO.tup [V.int d4,V.ref rt,V.ref gt]);have o:=s5.trans s6;exact k mm rt gt _ (x.trans (p.trans o)) ⟨ae,⟨as,(p.trans o) _ _ ae,A1.same λb zs e=>(s2.trans (p.trans o)) _ _ e⟩,s6 _ _ ae⟩
def abQ(F:aY K "with_rooms" "with_rooms" dS dV f fd)(S:mg "tuple" = Y):aR P w K mg base dy 1 f fd ["machine","kept","numbers"] (Ff K amm):=by
 refine F.ok cn #[22] (λbP A j5 s H vs Q E hr h=>?_)
 ·obtain⟨m,W,D,r,g,many,d4,rows,signs,qs,n,rfl,_⟩:=h;rfl
 obtain⟨m,W,D,r,g,many,d4,rows,signs,qs,n,rfl,M,R,l6,⟨n1,w1⟩,a,lq,l,⟨nl,X,hv⟩,k⟩:=h;obtain⟨hm,⟨eK,Hh,hA⟩,hg⟩:=M;have hu:=mh hr;refine⟨_,(ah (az (i:=3) cn.nd #[12])
   (ah (az (i:=4) cn.nd #[12])
   (ah (az (i:=5) cn.nd (bI af))
   (ah (bL PassesOwn.never rfl (cu (pv 1)) (aQ (i:=6) cn.nd) (aq (aS (dN YY Ya Yb bu (pv 5) (aa (aM aK #[43] S bH (aa (dB rfl fJ (eS (aB aE (pv 3) (pv 6) #[3])) (λ_ _ _ _=>(aQ (i:=0) fJ.nd)) (λ_ _ _ _=>(aB (Hq K) (pv 1) (pv 0) #[3]))) af)) af)))))
   (aq (aH (ck (aa #[12] (aa (aM aK #[43] S bH #[172]) (aa (aM aK #[43] S bH (aa (dB rfl fK (cu (pv 1)) (λ_ _ _ _=>(aQ (i:=0) fK.nd)) (λ_ _ _ _=>(aB (pK K) (pv 1) (pv 0) #[3]))) af)) af)))))))))),?_⟩
 exists 0;exists _,rfl,m,_,_,_,rfl,rfl,bN hm,rfl;exists _,rfl,m,_,_,_,rfl,rfl,bN hm,rfl;refine⟨#[13],λL hL=>?_⟩;have sL:=aj hL #[85];exists 22;refine bM (t:=rl _ _ _) (λO H'=>∃(as:List QX) (v:OV),O=[Z #[147],Z (.ref W),Z #[81],Z (.ref r),Z (.ref g),Z #[143],v]/\av H H'/\H' L=Z #[166]/\bj H' as (aV rows n qs)) ?_ #[46];exists 27
 ·exists _,rfl,W,rfl,⟨_,bz (sL _ _ a)⟩;refine dH (K:=K) (xs:=qs.map V.int) (λi O H'=>∃(as:List QX) (v:OV),O=[Z #[147],Z (.ref W),Z #[81],Z (.ref r),Z (.ref g),Z #[143],v]/\av H H'/\H' L=Z #[166]/\bj H' as (aV rows n #[176])) ⟨[],Y,U,sL,ae,.nil⟩ (λi O H' _ ⟨_,_,_,e,_,_⟩=>bz (e _ _ a)) ?_ ?_
  ·rintro i y O H3 hi ⟨as,v,rfl,J,c,A3⟩;obtain⟨z,rfl,C⟩:=cj hi;have zm:=sM C;have li:=(iT C).1;obtain⟨z0,z1⟩:=l z zm;obtain⟨ra,e1,e2,e3⟩:=hA.kept R z0 z1;have la:as.length=i:=by rw[A3.length];unfold aV;rw[bg,jT];omega
   exists _,rfl,.inl ⟨rfl,_,bz c⟩,_,rfl,_,rfl,r,_,_,_,rfl,rfl,bN (J _ _ Hh),e1,ra,rfl,⟨_,bN (J _ _ e2)⟩;refine rD (K:=K) (xs:=#[100].map V.int) (λD j I H'=>av H3 H'/\I=((#[100].take j).map n).map V.int) #[88] (λD j I H' _ ⟨e,_⟩=>bN (e _ _ (J _ _ e2))) ?_ ?_
   ·rintro T j y I B Q' u hj N ⟨p,rfl⟩ k';obtain⟨t,rfl,d⟩:=cj hj;have tm:=sM d;have lj:=(iT d).1;have o5:=J.trans p;obtain⟨⟨t0,t1⟩,et⟩:=hv z zm t tm;have at':tW (nl.map V.int) t=Z (.int (n t)):=by rw[et];exact lV t0 t1
    refine⟨_,U,_,U,D,_,_,_,U,U,bz (o5 _ _ X),at',k' _ _ N #[102] ⟨au p u,?_⟩⟩;rw[jO,d,jB,jB];rfl
   ·rintro T I B u N ⟨p,rfl⟩;rw[bg,jR]at N;refine⟨T,_,U,.inl ⟨bz N,λt d=>?_⟩⟩;have q:=p _ _ c;have nL:L≠t:=ak q d;refine⟨L,_,_,U,U,by rw[ag nL];exact q,ay #[24],?_⟩;have sT:∀b xs,H3 b=Z #[39]->(upd (upd B t (.tup ((#[100].map n).map V.int))) L (.lst (as.map V.ref++[V.ref t]))) b=Z #[39]:=λb xs e=>by have e4:=p _ _ e;rw[ag (aA e4 q #[0]),ag (ak e4 d)];exact e4
    refine⟨as++[t],_,U,au (au (J.trans p) ((J.trans p).free d)) hL,by rw[ae,jB];rfl,?_⟩;have ek:aV rows n (qs.take (i+1))=aV rows n #[176]++[#[100].map n]:=by unfold aV;rw[jO,C,jB];rfl
    rw[ek];exact bj.snoc (A3.same sT) (by rw[ag (Ne.symm nL),ae])
  ·rintro O H3 ⟨as,v,rfl,J,c,A3⟩;rw[bg,jR]at A3;exact cE _ _ ⟨as,v,U,J,c,A3⟩
 rintro O H1 ⟨as,v,rfl,s1,c6,A1⟩;refine⟨_,U,m,_,_,_,U,U,bN (s1 _ _ hm),U,_,U,L,_,U,.inl ⟨bz c6,λrt d6=>?_⟩⟩;have s2:=aj d6 (HO.tup #[49]);have x:=s1.trans s2;exists _,rfl,W,rfl,⟨_,bz (x _ _ a)⟩;refine dZ (K:=K) (xs:=qs.map V.int) (λD j I H'=>av (upd H1 rt (HO.tup #[49])) H'/\I=(bG signs (qs.take j)).map V.int) #[88] (λD j I H' _ ⟨e,_⟩=>bz (e _ _ (x _ _ a))) ?_ ?_
 ·rintro T j y I B Q' u hj N ⟨p,rfl⟩ k';obtain⟨z,rfl,C⟩:=cj hj;have li:=(iT C).1;obtain⟨z0,z1⟩:=l z (sM C);refine⟨_,U,_,U,g,_,_,_,U,U,bN ((x.trans p) _ _ hg),lV z0 #[2],k' _ _ N (ay (by unfold bG;rw[bg,bg,jT];omega)) ⟨au p u,?_⟩⟩;unfold bG;rw[jO,C,jB,jB];rfl
 rintro G I B hG N ⟨p,rfl⟩;rw[bg,jR]at N;refine⟨G,_,U,.inl ⟨bz N,λgt g6=>⟨#[56],λmm i6=>?_⟩⟩⟩;have s5:=aj g6 (HO.tup (#[155].map V.int));have s6:=aj i6 (HO.tup [V.int d4,V.ref rt,V.ref gt]);have o:=s5.trans s6;exact k mm rt gt _ (x.trans (p.trans o)) ⟨ae,⟨as,(p.trans o) _ _ ae,A1.same λb zs e=>(s2.trans (p.trans o)) _ _ e⟩,s6 _ _ ae⟩
end
theorem LQ(p:α->Bool):∀l:List α,l.length=(l.filter p).length+(l.filter λx=>!p x).length
 |[]=>rfl
 | x::l=>by
  have K:=LQ p l;cases e:p x
  ·rw[JG (by rw[e];decide),JR (by rw[e];rfl),jX,jX];omega
  ·rw[JR e,JG (by rw[e];decide),jX,jX];omega
theorem cQ:∀(many:Nat) {ks:LI},ks.Nodup->(∀q∈ks,0<=q/\q<(many:Int))->ks.length<=many
 | 0,ks,_,h=>by
  cases ks with
  | nil=>exact jD _
  | cons q r=>have:=h q jC;omega
 | many+1,ks,O,h=>by
  have e:(ks.filter λq=>decide (q≠(many:Int))).length<=many:=cQ many (O.filter _) λq W=>by have G:=h q (js.mp W).1;have M:q≠(many:Int):=of_decide_eq_true (js.mp W).2;omega
  have c:(ks.filter λq=>!decide (q≠(many:Int))).length<=1:=by
   have a:=O.filter λq=>!decide (q≠(many:Int));have k:∀q∈ks.filter (λq=>!decide (q≠(many:Int))),q=(many:Int):=λq W=>by have:=(js.mp W).2;exists 33
   match hm:ks.filter (λq=>!decide (q≠(many:Int))),a,k with
   |[],_,_=>exact je _
   |[x],_,_=>exact jD _
   | x::y::r,a,k=>
    have G:=k x jC;have M:=k y (jJ _ jC);rw[G,M]at a;exact absurd jC (jn.mp a).1
  have t:=LQ (λq=>decide (q≠(many:Int))) ks;omega
def dI(ks:LI):List #[167]:=ks.map λq=>(Sum.inl q,V.bl true)
def EW(ks:LI)(q:Int):(cI (dI ks) (Sum.inl q)).isSome=decide (q∈ks):=by
 induction ks with
 | nil=>rfl
 | cons k r K=>
  by_cases e:k=q
  ·subst e;rw[show dI (k::r)=(Sum.inl k,V.bl true)::dI r from rfl,dk rfl];simp
  ·rw[show dI (k::r)=(Sum.inl k,V.bl true)::dI r from rfl,cW (λz=>e (Sum.inl.inj z)),K];simp[Ne.symm e]
def EV(h:q∉ks):putK (dI ks) (Sum.inl q) (V.bl true)=dI (ks++[q]):=by
 unfold putK;rw[if_neg (by intro z;obtain⟨p,D,e⟩:=JX.mp z;obtain⟨k,C,rfl⟩:=jK.mp D;have:=Sum.inl.inj (of_decide_eq_true e);exact h (this▸C))]
 unfold dI;rw[jB];rfl
def Dm(es:List #[190]):List #[167]:=es.map λe=>(Sum.inl e.1,V.ref e.2)
theorem Q7:∀{es:List #[190]} {q:Int},q∉es.map Prod.fst->cI (Dm es) (Sum.inl q)=Y
 |[],_,_=>rfl
 | e::es,q,h=>by rw[show Dm (e::es)=(Sum.inl e.1,V.ref e.2)::Dm es from rfl,cW (λz=>h (by rw[<-Sum.inl.inj z];exact jC))];exact Q7 λz=>h (jJ _ z)
theorem Hv:∀{es:List #[190]} {q:Int} {a:QX} {j:Nat},(es.map Prod.fst).Nodup->es[j]?=Z (q,a)->cI (Dm es) (Sum.inl q)=Z (V.ref a)
 |[],_,_,_,_,h=>by cases h
 | e::es,q,a,0,_,h=>by cases h;exact dk rfl
 | e::es,q,a,j+1,O,h=>by
  have L:=jn.mp (show(e.1::es.map Prod.fst).Nodup from O);have y:es[j]?=Z (q,a):=h;rw[show Dm (e::es)=(Sum.inl e.1,V.ref e.2)::Dm es from rfl,cW (λz=>L.1 (by have:e.1=q:=Sum.inl.inj z;rw[this];exact jK.mpr ⟨(q,a),sM y,U⟩))]
  exact Hv L.2 y
def agC{es:List #[190]}(h:q∉es.map Prod.fst):putK (Dm es) (Sum.inl q) (V.ref a)=Dm (es++[(q,a)]):=by
 unfold putK;rw[if_neg (by intro z;obtain⟨p,D,e⟩:=JX.mp z;obtain⟨k,C,rfl⟩:=jK.mp D;have:=Sum.inl.inj (of_decide_eq_true e);exact h (this▸jK.mpr ⟨k,C,U⟩))]
 unfold Dm;rw[jB];rfl
def snoc_cases{xs:List α}{y z:α}(h:(xs++[y])[j]?=Z z):xs[j]?=Z z\/(j=xs.length/\z=y):=by
 rcases zC j xs.length with q|q
 ·rw[jq q]at h;exact .inl h
 ·rw[JF q]at h;rcases zC (j-xs.length) 1 with p|p
  ·have e:j=xs.length:=by omega
   subst e;rw[zM]at h;exact .inr ⟨U,#[127].symm⟩
  ·rw[JO (by simpa using p)]at h;cases h
def lF.same(h:lF H ts kvs)(s:∀b xs,H b=Z #[39]->H' b=Z #[39]):lF H' ts kvs:=Paired.rH h λ_ _ q=>s _ _ q
theorem Ra:∀{gs ks:LI},(ks++gs).Nodup->dw (dI ks) (dI gs)=dI (ks++gs)
 |[],ks,_=>by rw[jZ];rfl
 | g::gs,ks,O=>by have m:g∉ks:=λz=>(JH.mp O).2.2 g z g jC rfl;show dw (putK (dI ks) (Sum.inl g) (V.bl true)) (dI gs)=_;rw[EV m,Ra (by rw[jv];exact O),jv];rfl
def LV(O:gs.Nodup):dw [] (dI gs)=dI gs:=Ra (ks:=[]) O
structure cN(H0 H:Hp)(B:QX)(es:List (Int×QX))(P:Int->LI->Prop):Prop where
 at_:H B=Z (.dK (Dm es))
 nd:(es.map Prod.fst).Nodup
 nd2:(es.map Prod.snd).Nodup
 fresh:∀e∈es,H0 e.2=Y
 lst:∀e∈es,∃ls:LI,H e.2=Z (.lst (ls.map V.int))/\P e.1 ls
 non:∀q,q∉es.map Prod.fst->P q []
def cN.get{es:List #[190]}{P:Int->LI->Prop}(b:cN H0 H B es P)(h:cI (Dm es) (Sum.inl q)=Z v):∃J ls,v=.ref J/\(q,J)∈es/\H J=Z (.lst (ls.map V.int))/\P q ls:=by
 have N:q∈es.map Prod.fst:=Classical.byContradiction λz=>by rw[Q7 z]at h;cases h
 obtain⟨e,R,rfl⟩:=jK.mp N;obtain⟨j,f⟩:=JD.mp R;have:=Hv b.nd (q:=e.1) (a:=e.2) f;rw[this]at h;obtain⟨ls,G,M⟩:=b.lst e R;exact⟨e.2,ls,#[127].symm,R,G,M⟩
def af8{es:List #[190]}(O:(es.map Prod.fst).Nodup){e l:Int×QX}(h:e∈es)(h':l∈es)(q:e.1=l.1):e=l:=by
 obtain⟨i,W,v⟩:=jo h;obtain⟨j,f,E⟩:=jo h';have:(es.map Prod.fst)[i]'(by simpa using W)=(es.map Prod.fst)[j]'(by simpa using f):=by simp[v,E,q]
 have:=(JJ O).mp this;subst this;rw[<-v,<-E]
def ahq{es:List #[190]}(O:(es.map Prod.snd).Nodup){e l:Int×QX}(h:e∈es)(h':l∈es)(q:e.2=l.2):e=l:=by
 obtain⟨i,W,v⟩:=jo h;obtain⟨j,f,E⟩:=jo h';have:(es.map Prod.snd)[i]'(by simpa using W)=(es.map Prod.snd)[j]'(by simpa using f):=by simp[v,E,q]
 have:=(JJ O).mp this;subst this;rw[<-v,<-E]
theorem cN.old{J:QX}{es:List #[190]}{P a:Int->LI->Prop}(b:cN H0 H B es P)(N:(q,J)∈es)(x:H J=Z (.lst (ls.map V.int)))(D:a q (ls++[h]))(d:∀p ls,p≠q->P p ls->a p ls):
  cN H0 (upd H J (.lst (ls.map V.int++[.int h]))) B es a where
 at_:=by rw[ag (aA b.at_ x #[0])];exact b.at_
 nd:=b.nd
 nd2:=b.nd2
 fresh:=b.fresh
 lst:=λe R=>by
  by_cases c:e.2=J
  ·have:=ahq b.nd2 R N c;subst this;exact⟨ls++[h],by rw[ae,jB];rfl,D⟩
  ·obtain⟨ms,G,M⟩:=b.lst e R;refine⟨ms,by rw[ag c];exact G,d _ _ (λz=>c ?_) M⟩;have:=af8 b.nd R N z;rw[this]
 non:=λp m=>d p [] (λz=>m (by rw[z];exact jK.mpr ⟨_,N,rfl⟩)) (b.non p m)
theorem cN.new{L:QX}{es:List #[190]}{P a:Int->LI->Prop}(b:cN H0 H B es P)(W:q∉es.map Prod.fst)(u:H L=Z #[188])(S:H0 L=Y)(C:∀e∈es,e.2≠L)(D:a q [h])(V:∀p ls,p≠q->P p ls->a p ls):
  cN H0 (upd (upd H B (.dK (putK (Dm es) (Sum.inl q) #[143]))) L (.lst [.int h])) B (es++[(q,L)]) a where
 at_:=by rw[ag (aA b.at_ u #[0]),ae,agC W]
 nd:=by rw[jB];exact B5 b.nd W
 nd2:=by rw[jB];refine B5 b.nd2 λz=>?_;obtain⟨e,R,g⟩:=jK.mp z;exact C e R g
 fresh:=λe R=>by
  rcases sJ.mp R with z|z
  ·exact b.fresh e z
  ·rw[jH.mp z];exact S
 lst:=λe R=>by
  rcases sJ.mp R with z|z
  ·obtain⟨ms,G,M⟩:=b.lst e z;refine⟨ms,by rw[ag (C e z),ag (aA G b.at_ #[0])];exact G,V _ _ (λy=>W ?_) M⟩;rw[<-y];exact jK.mpr ⟨e,z,U⟩
  ·rw[jH.mp z];exact⟨[h],by rw[ae];rfl,D⟩
 non:=λp m=>by rw[jB]at m;exact V p [] (λz=>m (by rw[z];exact jh _ jC)) (b.non p λz=>m (JB _ z))
theorem cN.keep{es:List #[190]}{P:Int->LI->Prop}(b:cN H0 H B es P)(o:H' B=H B)(L:∀e∈es,H' e.2=H e.2):cN H0 H' B es P where
 at_:=by rw[o];exact b.at_
 nd:=b.nd
 nd2:=b.nd2
 fresh:=b.fresh
 lst:=λe R=>by rw[L e R];exact b.lst e R
 non:=b.non
theorem cN.same{es:List #[190]}{P:Int->LI->Prop}(b:cN H0 H B es P)(s:av H H'):cN H0 H' B es P where
 at_:=s _ _ b.at_
 nd:=b.nd
 nd2:=b.nd2
 fresh:=b.fresh
 lst:=λe R=>by obtain⟨ls,G,M⟩:=b.lst e R;exact⟨ls,s _ _ G,M⟩
 non:=b.non
def BW(rows:LL)(d4:Nat):LL:=(ji d4).map λf=>rows.map λr=>r.getD f 0
inductive aeP (K:YW) (vs:List V) (H:Hp) (Q:VK) (E:XK):Prop
 | mk (m r g:QX) (many d4:Nat) (rows:LL) (signs:LI) (_:vs=[.ref m]) (_:bQ H m r g d4 rows signs) (_:bA many d4 rows) (_:(many<=1000/\d4<=1000)) (_:∀(l:QX) (cs:List QX) (H':Hp),av H H'->H' l=Z (.lst (cs.map V.ref))->bj H' cs (BW rows d4)->Q #[181] H')
def dA(col:LI)(q:Int):LI:=((ji col.length).filter λi=>decide (col.getD i 0=q)).map λi:Nat=>(i:Int)
def RA(col:LI)(q:Int):(dA col q).length<=col.length:=by unfold dA;rw[bg];exact jW (JI _ _) #[8]
def Dw(col:LI)(t q:Int):dA (col++[t]) q=dA col q++(if t=q then [(col.length:Int)]else []):=by
 unfold dA;rw[jG,ja,JP,JY,jB];congr 1
 ·congr 1;refine Jw λi W=>?_;have l:=JC.mp W;rw[jf,jf,jq l]
 ·have e:(col++[t]).getD col.length 0=t:=by rw[jf,JF (jD _),zM];rfl
  by_cases c:t=q
  ·rw[if_pos c,JR (by rw[e];exact decide_eq_true c)];rfl
  ·rw[if_neg c,JG (by rw[e,decide_eq_false c];decide)];rfl
def rM{x:Int}:x∈dA col q↔(0<=x/\x<(col.length:Int))/\col.getD x.toNat 0=q:=by
 unfold dA;rw[jK];constructor
 ·rintro⟨i,W,rfl⟩;have h:=js.mp W;have G:=JC.mp h.1;exact⟨⟨by omega,by omega⟩,by rw[jN];exact of_decide_eq_true h.2⟩
 ·rintro⟨⟨I,G⟩,M⟩;exact⟨x.toNat,js.mpr ⟨JC.mpr #[2],decide_eq_true M⟩,by omega⟩
inductive aax (K:YW) (vs:List V) (H:Hp) (Q:VK) (E:XK):Prop
 | mk (c:QX) (many:Nat) (col:LI) (_:vs=[.ref c]) (_:H c=Z (.tup (col.map V.int))) (_:col.length<=1000) (_:many<=1000) (_:(∀t∈col,0<=t/\t<(many:Int))) (_:∀(B:QX) (es:List #[190]) (H':Hp),av H H'->H B=Y->cN H H' B es #[142]->Q (.ref B) H')
section
def lR:ax ["machine","rows","columns","figure"] ["machine"] (ao oo):=cb #[1]
def tE:aO ["machine","rows","columns","figure"] (ao oo) ["row","figure"] [Y,Z 3] ⟨.function,[#[48],("row",.local),("figure",.free)],false,false,[]⟩:=oh #[1]
def sY:ax ["column","back","here","there"] ["column"] (ao Dz):=cb #[1]
def agO(F:aY K "columns_of" "columns_of" oo dV f fd)(bh:mg "range" = Y)(aC:mg "tuple" = Y):aR P w K mg base dy 1 f fd ["machine"] (aeP K):=by
 refine F.ok lR #[22] (λbP A a s H vs Q E hr h=>?_)
 ·obtain⟨m,r,g,many,d4,rows,signs,rfl,_⟩:=h;rfl
 obtain⟨m,r,g,many,d4,rows,signs,rfl,M,R,⟨n1,w1⟩,k⟩:=h;obtain⟨C,⟨eK,G,B⟩,hg⟩:=M;refine⟨_,(ah (az (i:=1) lR.nd #[12])
   (ah (az (i:=2) lR.nd (bI af))
   (ah (bL PassesOwn.never rfl (de rfl bh (aa #[12] af)) (aQ (i:=3) lR.nd) (aq (aS (dN YY Ya Yb bu (pv 2) (aa (aM aK #[43] aC bH (aa (dB rfl tE (eS (pv 1)) (λ_ _ _ _=>(aQ (i:=0) tE.nd)) (λ_ _ _ _=>(aB (pK K) (pv 0) (pv 1) #[3]))) af)) af)))))
   (aq (aH (pv 2)))))),?_⟩
 exists 0;exists _,rfl,m,_,_,_,rfl,rfl,bN C,rfl;refine⟨#[13],λL S=>?_⟩;have W:=aj S #[85];refine⟨_,U,m,_,_,_,U,U,bN (W _ _ C),U,_,U,by omega,by omega,?_⟩;refine ie (λi O H'=>∃(as:List QX) (v:OV),O=[Z #[147],Z (.ref r),Z #[143],v]/\av H H'/\H' L=Z #[166]/\bj H' as ((ji i).map λf=>rows.map λr=>r.getD f 0)) ⟨[],Y,U,W,ae,.nil⟩ ?_ ?_
 ·rintro i O o hi ⟨as,v,rfl,J,l,A3⟩;rw[jN]at hi;have la:as.length=i:=by rw[A3.length,bg,jt]
  have z0:(0:Int)+(i:Int)=(i:Int):=zj _;exists _,rfl,.inl ⟨rfl,_,bz l⟩,_,rfl,r,rfl,⟨_,bN (J _ _ G)⟩;refine rD (K:=K) (xs:=eK.map V.ref) (λD j I H'=>av o H'/\I=((rows.take j).map λr=>r.getD i 0).map V.int) (λD hD=>⟨aj hD _,U⟩) (λD j I H' _ ⟨e,_⟩=>bN (e _ _ (J _ _ G))) ?_ ?_
  ·rintro T j y I X Q' hT c N ⟨p,rfl⟩ k';have d:j<rows.length:=by have:=(iT c).1;rw[bg,B.length]at this;exact this
   obtain⟨ra,e1,e2⟩:=B.get d;have ey:y=.ref ra:=by rw[jU,e1]at c;exact(Option.some.inj c).symm
   subst ey;have lr:=R.len;have j5:rows[j].length=d4:=R.row _ (jV d);have n:tW (rows[j].map V.int) (0+(i:Int))=Z (.int (rows[j].getD i 0)):=by rw[z0,lV #[2] #[2],jN]
   refine⟨_,U,_,U,ra,_,_,_,U,U,bN ((J.trans p) _ _ e2),n,k' _ _ N #[102] ⟨au p hT,?_⟩⟩;rw[jO,jE d,jB,jB];rfl
  ·rintro T I X hT N ⟨p,rfl⟩;rw[bg,B.length,jR]at N;refine⟨T,_,U,.inl ⟨bz N,λt u=>?_⟩⟩;have q:=p _ _ l;have nL:L≠t:=ak q u;refine⟨L,_,_,U,U,by rw[ag nL];exact q,ay #[24],?_⟩;have sT:∀b xs,o b=Z #[39]->(upd (upd X t (.tup ((rows.map λr=>r.getD i 0).map V.int))) L (.lst (as.map V.ref++[V.ref t]))) b=Z #[39]:=λb xs e=>by have x:=p _ _ e;rw[ag (aA x q #[0]),ag (ak x u)];exact x
   refine⟨as++[t],_,U,au (au (J.trans p) ((J.trans p).free u)) S,by rw[ae,jB];rfl,?_⟩;rw[JP,jB];exact bj.snoc (A3.same sT) (by rw[ag (Ne.symm nL),ae])
 ·rintro O o ⟨as,v,rfl,J,l,A3⟩;rw[jN]at A3;exact⟨_,U,k L as _ J l A3⟩
def adO(F:aY K "back_of" "back_of" Dz dV f fd)(cP:mg "enumerate" = Y):aR P w K mg base dy 1 f fd ["column"] (aax K):=by
 refine F.ok sY #[22] (λbP A I s H vs Q E hr h=>?_)
 ·obtain⟨c,many,col,rfl,_⟩:=h;rfl
 obtain⟨c,many,col,rfl,hc,lc,n1,D,k⟩:=h;have hu:=mh hr;refine⟨_,(ah (az (i:=1) sY.nd oU)
   (ah (bL PassesOwn.never rfl (aeq rfl cP #[38]) (Dt rfl (cy (aQ (i:=2) sY.nd) (cy (aQ (i:=3) sY.nd) oj))) (aq (aS (dN YY Ya Yb bu (Oc (pv 1) (pv 3) (bI af) ⟨rfl,rfl,rfl,rfl⟩) #[89]))))
   (aq (aH (pv 1))))),?_⟩
 exists 0;refine λB o=>?_;have s0:=aj o (HO.dK []);have b0:cN H (upd H B (.dK [])) B [] (λq ls=>ls=dA (col.take 0) q):=⟨ae,List.Pairwise.nil,List.Pairwise.nil,(λe h=>by cases h),(λe h=>by cases h),λq _=>rfl⟩;refine⟨_,U,c,U,⟨_,bN (s0 _ _ hc)⟩,abg (K:=K) (xs:=col.map V.int) (λi O H'=>∃(r:List #[190]) (b d:OV),O=[Z (.ref c),Z (.ref B),b,d]/\av H H'/\(∀e∈r,0<=e.1/\e.1<(many:Int))/\cN H H' B r (λq ls=>ls=dA (col.take i) q))
  ⟨[],Y,Y,rfl,s0,(λe h=>by cases h),b0⟩ (λi O H' _ ⟨_,_,_,_,e,_,_⟩=>bN (e _ _ hc)) ?_ ?_⟩
 ·rintro i y O H1 T hi ⟨r,b,d,rfl,s1,g,X⟩ hT;obtain⟨t,rfl,j⟩:=cj hi;have il:=(iT j).1;have l:=D t (sM j);have n:=aj hT (HO.tup [V.int i,V.int t]);obtain⟨G,PB⟩:∃G,upd H1 T (HO.tup [V.int i,V.int t])=G:=⟨_,rfl⟩;have M:G T=Z (.tup [V.int i,V.int t]):=by rw[<-PB];exact ae
  rw[PB]at n ⊢;have s2:=s1.trans n;have N:=X.same n;exists T,_,rfl,bN M,rfl,_,_,rfl,_,_,rfl,rfl;refine⟨_,U,B,U,.inl ⟨_,.inl N.at_⟩,_,U,#[13],λL u=>?_⟩;have x:=aj u #[85];have C:=N.same x;have nL:∀e∈r,e.2≠L:=λe R z=>by obtain⟨ls,h1,_⟩:=N.lst e R;rw[z,u]at h1;cases h1
  have S:B≠L:=ak N.at_ u;have fL:H L=Y:=s2.free u;have A2:=cQ many C.nd (λq W=>by obtain⟨e,R,rfl⟩:=jK.mp W;exact g e R)
  rw[bg]at A2;have len:(Dm r).length<sizeLine:=ay (by unfold Dm;rw[bg];omega);have et:col.take (i+1)=col.take i++[t]:=by rw[jO,j];rfl
  have ln:(col.take i).length=i:=by rw[jT];omega
  have m:∀(p:Int) (ls:LI),p≠t->ls=dA (col.take i) p->ls=dA (col.take (i+1)) p:=λp ls np z=>by rw[et,Dw,if_neg (Ne.symm np),jZ];exact z
  have J:∀ls:LI,ls=dA (col.take i) t->ls++[(i:Int)]=dA (col.take (i+1)) t:=λls z=>by rw[et,Dw,if_pos rfl,ln,z]
  refine⟨_,Sum.inl t,C.at_,U,len,λv hv=>?_,λhn=>?_⟩
  ·obtain⟨la,ls,rfl,hm,Tn,hp⟩:=C.get hv;have pl:=RA (col.take i) t;have lz:(ls.map V.int).length<sizeLine:=ay (by rw[bg,hp];omega);exists .inl ⟨rfl,_,bz Tn⟩,_,rfl,la,_,_,rfl,rfl,Tn,lz;exact⟨r,_,_,U,au (s2.trans x) (N.fresh _ hm),g,C.old hm Tn (J ls hp) m⟩
  ·have W:t∉r.map Prod.fst:=λz=>by obtain⟨e,R,ee⟩:=jK.mp z;obtain⟨jj,j5⟩:=JD.mp R;have:=Hv C.nd (q:=e.1) (a:=e.2) j5;rw[ee,hn]at this;cases this
   have Bb:(upd (upd G L #[85]) B (HO.dK (putK (Dm r) (Sum.inl t) (V.ref L)))) L=Z #[188]:=by rw[ag (Ne.symm S),ae]
   refine⟨.inl ⟨U,_,bz Bb⟩,_,U,L,_,_,U,U,Bb,(by show 0<sizeLine;decide),?_⟩;refine⟨r++[(t,L)],_,_,U,au (au (s2.trans x) o) fL,λe R=>?_,C.new W ae fL nL (J [] (C.non _ W)) m⟩;rcases sJ.mp R with z|z
   ·exact g e z
   ·rw[jH.mp z];exact l
 ·rintro O H1 ⟨r,b,d,rfl,s1,g,X⟩;rw[bg,jR]at X;exact⟨_,U,k B r _ s1 o X⟩
end
structure OY(K:YW)(C:QX):Prop where
 cl:EJ K C
 ng:dG K C "group_of"
 nm:dG K C "members"
 nw:dG K C "waiting"
 ni:dG K C "is_waiting"
structure O3(H:Hp)(C x go ms wt iw:QX):Prop where
 ob:∃dx:QX,H x=Z (.ins C dx [("group_of",.ref go),("members",.ref ms),("waiting",.ref wt),("is_waiting",.ref iw)])
def O3.same{x:QX}(h:O3 H C x go ms wt iw)(s:av H H'):O3 H' C x go ms wt iw:=by obtain⟨X,G⟩:=h.ob;exact⟨X,s _ _ G⟩
inductive RM (K:YW) (C:QX) (vs:List V) (H:Hp) (Q:VK) (E:XK):Prop
 | mk (x go ms wt iw:QX) (gs:LI) (ds:List QX) (_:vs=[.ref x]) (_:O3 H C x go ms wt iw) (_:H go=Z (.lst (gs.map V.int))) (_:H ms=Z (.lst #[169])) (_:Q (.bl (decide (ds.length=gs.length))) H)
inductive aeW (C:QX) (vs:List V) (H:Hp) (Q:VK) (E:XK):Prop
 | mk (x go ms wt iw:QX) (n:Int) (ws ks:LI) (_:vs=[.ref x,.int n]) (_:O3 H C x go ms wt iw) (_:H wt=Z (.lst (ws.map V.int))) (_:H iw=Z (.dK (dI ks))) (_:ks.Nodup) (_:ws.length<=1000) (_:ks.length<=1000) (_:Q .non (upd (upd H wt (.lst ((ws++[n]).map V.int))) iw (.dK (dI (if n∈ks then ks else ks++[n])))))
def Q8(ks:LI)(g:Int):AG (dI ks) (Sum.inl g)=dI (ks.filter λk=>decide (k≠g)):=by
 unfold AG dI;rw[QH];congr 1;refine Jw λk _=>?_;by_cases c:k=g
 ·subst c;simp
 ·have:(Sum.inl k:Key)≠Sum.inl g:=λz=>c (Sum.inl.inj z);simp[c,this]
def adA(ks:LI):(dI ks).map (λl=>kV l.1)=ks.map V.int:=by unfold dI;rw[JN];rfl
inductive aaF (C:QX) (vs:List V) (H:Hp) (Q:VK) (E:XK):Prop
 | mk (x go ms wt iw da:QX) (g:Int) (ws ks mem:LI) (ds:List QX) (_:vs=[.ref x]) (_:O3 H C x go ms wt iw) (_:H wt=Z (.lst ((ws++[g]).map V.int))) (_:H iw=Z (.dK (dI ks))) (_:g∈ks) (_:H ms=Z (.lst #[169])) (_:0<=g) (_:ds[g.toNat]?=Z da) (_:ms≠wt) (_:H da=Z (.dK (dI mem))) (_:da≠iw) (_:mem.length<=1000) (_:∀l,H l=Y->Q #[181] (upd (upd (upd H wt (.lst (ws.map V.int))) iw (.dK (dI (ks.filter λk=>decide (k≠g))))) l (.lst (mem.map V.int))))
section
def Cp:ax ["self"] ["self"] (ao lN):=cb #[1]
def Bt:ax ["self","group"] ["self","group"] (ao iI):=cb #[1]
def ik:ax ["self","group"] ["self"] (ao dQ):=cb #[1]
def abG(F:aY K "is_done" "Parted.is_done" lN dV f fd)(m:OY K C)(p:mg "len" = Y):aR P w K mg base dy 1 f fd ["self"] (RM K C):=by
 refine F.ok Cp #[15] #[9]
 ·obtain⟨x,go,ms,wt,iw,gs,ds,rfl,_⟩:=h;rfl
 obtain⟨x,go,ms,wt,iw,gs,ds,rfl,⟨X,J⟩,L,y,q⟩:=h;refine⟨_,(aq (aH (Cb mQ (aG bw #[43] p cU #[186]) (aG bw #[43] p cU #[186]) (bK _)))),?_⟩;exists 0;exists _,rfl,x,C,X,_,_,rfl,J,m.cl,m.nm,rfl,ms,_,rfl,.inl (bz y),_,rfl,x,C,X,_,_,rfl,J,m.cl,m.ng,rfl,go,_,rfl,.inl (bz L),rfl;rw[bg,bg];have e:decide (V.int (ds.length:Int)=V.int (gs.length:Int))=decide (ds.length=gs.length):=decide_eq_decide.mpr ⟨λh=>by have:=V.int.inj h;omega,λh=>by rw[h]⟩;rw[e];exact q
def T7(F:aY K "wait_for" "Parted.wait_for" iI dV f fd)(m:OY K C):aR P w K mg base dy 1 f fd ["self","group"] (aeW C):=by
 refine F.ok Bt (λa H Q E h=>?_) (λbP A I s H a Q E S h=>?_)
 ·obtain⟨x,go,ms,wt,iw,n,ws,ks,rfl,_⟩:=h;rfl
 obtain⟨x,go,ms,wt,iw,n,ws,ks,rfl,⟨X,J⟩,G,j,O,B,W,q⟩:=h;have R:=mh S;refine⟨_,(ah (aS (dN YY Ya Yb bu #[21] #[80]))
   (aq (Ci R #[21] (pv 1) mR rfl))),?_⟩
 exists 0;have b:x≠wt:=aA J G #[0];have o:iw≠wt:=aA j G #[0];refine⟨_,U,x,C,X,_,_,U,J,m.cl,m.nw,U,.inl ⟨U,_,bz G⟩,_,U,wt,_,_,U,U,G,ay (by rw[bg];exact B),?_⟩;refine⟨_,U,x,C,X,_,_,U,by rw[ag b];exact J,m.cl,m.ni,U,_,U,iw,_,U,Mo.k (k:=Sum.inl n) (by rw[ag o];exact j) (ay (by unfold dI;rw[bg];exact W)),?_⟩;have e:putK (dI ks) (Sum.inl n) (V.bl true)=dI (if n∈ks then ks else ks++[n]):=by
  by_cases c:n∈ks
  ·rw[if_pos c];unfold putK;rw[if_pos (show((dI ks).any λl=>decide (l.fst=Sum.inl n))=true from JX.mpr ⟨(Sum.inl n,V.bl true),jK.mpr ⟨n,c,rfl⟩,by simp⟩)];refine(Jr λl d=>?_).trans (Zw _);obtain⟨k,_,rfl⟩:=jK.mp d;show(if (Sum.inl k:Key)=Sum.inl n then((Sum.inl k:Key),V.bl true)else(Sum.inl k,V.bl true))=(Sum.inl k,V.bl true);split<;>rfl
  ·rw[if_neg c];exact EV c
 rw[e];rw[jB]at q;exact q
def adZ(F:aY K "next_splitter" "Parted.next_splitter" dQ dV f fd)(m:OY K C)(c:mg "list" = Y):aR P w K mg base dy 1 f fd ["self"] (aaF C):=by
 refine F.ok ik #[15] (λbP A I s H n Q E e h=>?_)
 ·obtain⟨x,go,ms,wt,iw,S,g,ws,ks,mem,ds,rfl,_⟩:=h;rfl
 obtain⟨x,go,ms,wt,iw,S,g,ws,ks,mem,ds,rfl,⟨X,J⟩,G,j,T,y,o,t,r,a,O,lm,q⟩:=h;have hu:=mh e;refine⟨_,(ah (az (i:=1) ik.nd (Dr YY yS yT N8 #[21]))
   (ah (aS (Rt #[21] (pv 1) ⟨rfl,rfl,rfl,rfl⟩))
   (aq (aH (aM (AY rfl) #[43] c BS (aa (aB cX #[21] (pv 1) #[3]) af)))))),?_⟩
 exists 0;have D:x≠wt:=aA J G #[0];have b:x≠iw:=aA J j #[0];have M:iw≠wt:=aA j G #[0];have u:ms≠iw:=aA y j #[0];have B:S≠wt:=aA a G #[0];have d:((ws++[g]).map V.int)[((ws++[g]).map V.int).length-1]?=Z (.int g):=by rw[bg,jG,ja,zx,jU,JF (jD _),zM];rfl
 have dl:((ws++[g]).map V.int).dropLast=ws.map V.int:=by rw[jB];exact zo
 obtain⟨v,hv⟩:∃v,cI (dI ks) (Sum.inl g)=Z v:=by have h:=EW ks g;rw[decide_eq_true T]at h;exact JM.mp h
 have at':tW #[169] g=Z (.ref S):=by have N:tW #[169] ((g.toNat:Nat):Int)=Z (.ref S):=Ah (by rw[jU,t];rfl);rw[jz o]at N;exact N
 exists _,rfl,x,C,X,_,_,rfl,J,m.cl,m.nw,rfl,.inl ⟨rfl,_,bz G⟩,wt,_,_,rfl,rfl,G,d;rw[dl];have W:(upd H wt (HO.lst (ws.map V.int))) x=_:=(ag D).trans J;have k:(upd H wt (HO.lst (ws.map V.int))) iw=_:=(ag M).trans j;exists _,rfl,x,C,X,_,_,rfl,W,m.cl,m.ni,rfl,iw,rfl,.inl ⟨_,.inl k⟩,_,rfl,dI ks,Sum.inl g,v,k,rfl,hv;rw[Q8];refine⟨_,U,x,C,X,_,_,U,(ag b).trans W,m.cl,m.nm,U,_,U,ms,_,_,_,U,U,bz ((ag u).trans ((ag r).trans y)),at',S,_,U,(ag O).trans ((ag B).trans a),λl L=>?_⟩;rw[adA];refine q l ?_;by_cases p:l=iw
 ·rw[p,ae]at L;cases L
 ·rw[ag p]at L;by_cases R:l=wt
  ·rw[R,ae]at L;cases L
  ·rw[ag R]at L;exact L
end
def setG(gs done:LI)(n:Int):LI:=done.foldl (λg q=>g.set q.toNat n) gs
def outF(mem done:LI):LI:=mem.filter λq=>decide (q∉done)
theorem RJ(gs:LI)(n:Int):∀done:LI,(setG gs done n).length=gs.length:=λdone=>by
 unfold setG
 induction done generalizing gs with
 | nil=>rfl
 | cons q r K=>rw[JQ,K,ze]
def ab4(gs done:LI)(q n:Int):setG gs (done++[q]) n=(setG gs done n).set q.toNat n:=by unfold setG;rw[ju];rfl
def abT(mem done:LI)(q:Int):(outF mem done).filter (λk=>decide (k≠q))=outF mem (done++[q]):=by
 unfold outF;rw[List.filter_filter];refine Jw λk _=>?_;by_cases c:k=q
 ·subst c;simp
 ·simp[c]
inductive aaH (K:YW) (C:QX) (vs:List V) (H:Hp) (Q:VK) (E:XK):Prop
 | mk (x go ms wt iw da il:QX) (g:Int) (gs ws ks mem ins:LI) (ds:List QX) (_:vs=[.ref x,.int g,.ref il]) (_:O3 H C x go ms wt iw) (_:H go=Z (.lst (gs.map V.int))) (_:H ms=Z (.lst #[169])) (_:H wt=Z (.lst (ws.map V.int))) (_:H iw=Z (.dK (dI ks))) (_:ks.Nodup) (_:(ws.length<=1000/\ks.length<=1000/\ds.length<1000/\ins.length<=1000)) (_:0<=g) (_:ds[g.toNat]?=Z da) (_:H da=Z (.dK (dI mem))) (_:H il=Z (.lst (ins.map V.int))) (_:ins.Nodup) (_:(∀q∈ins,q∈mem/\0<=q/\q<(gs.length:Int))) (_:(go≠ms/\go≠wt/\go≠il/\ms≠wt/\ms≠il/\wt≠il/\da≠iw)) (_:∀(E:QX) (nw:Int) (H':Hp),H E=Y->H' E=Z (.dK (dI ins))->H' ms=Z (.lst ((ds++[E]).map V.ref))->H' da=Z (.dK (dI (outF mem ins)))->H' go=Z (.lst (#[114].map V.int))->H' wt=Z (.lst ((ws++[nw]).map V.int))->H' iw=Z (.dK (dI (if nw∈ks then ks else ks++[nw])))->(#[82]->nw=(ds.length:Int))->(¬ #[82]->nw=g)->(∀c u,c≠go->c≠ms->c≠da->c≠wt->c≠iw->H c=Z u->H' c=Z u)->Q .non H')
def agA{z:Nat}(h:z<n):ixN n (z:Int)=Z z:=by unfold ixN;rw[if_pos #[2],if_pos #[2],jN]
section
def dD:ax ["self","group","inside","fresh","outside","here"] ["self","group","inside"] (ao dR):=cb #[1]
def iV:aO ["self","group","inside","fresh","outside","here"] (ao dR) ["here"] [Y] ⟨.function,[#[48],("here",.local)],false,false,[]⟩:=oh #[1]
def ad4(F:aY K "split_off" "Parted.split_off" dR dV f fd)(m:OY K C)(pB:cT P w K mg base C "wait_for" 1 ["self","group"] (aeW C))(bD:mg "len" = Y)(hU:mg "dict" = Y):aR P w K mg base dy 2 f fd ["self","group","inside"] (aaH K C):=by
 refine F.ok dD #[22] (λbP A g7 s H vs Q E hr h=>?_)
 ·obtain⟨x,go,ms,wt,iw,S,il,g,gs,ws,ks,mem,ins,ds,rfl,_⟩:=h;rfl
 obtain⟨x,go,ms,wt,iw,S,il,g,gs,ws,ks,mem,ins,ds,rfl,⟨X,p⟩,PX,M,Hj,W,j5,⟨lw,lk,ld,li⟩,g0,tU,I,G,g6,i7,⟨n1,n2,n3,n4,n5,n6,n7⟩,k⟩:=h;have hu:=mh hr;refine⟨_,(ah (az (i:=3) dD.nd (aG bw #[43] bD cU #[186]))
   (ah (az (i:=4) dD.nd (aB cX #[21] (pv 1) #[3]))
   (ah (bL PassesOwn.never rfl (cu (pv 2)) (aQ (i:=5) dD.nd) (ah (aS (Rt (pv 4) (pv 5) ⟨rfl,rfl,rfl,rfl⟩))
   (aq (aev (pv 3) (akz #[21] (pv 5) set_list)))))
   (ah (aS (dN YY Ya Yb bu #[21] (aa (aM (wu rfl) #[43] hU BR (aa (dB rfl iV (cu (pv 2)) (λ_ _ _ _=>(aQ (i:=0) iV.nd)) (λ_ _ _ _=>(ck (aa (pv 0) (aa mR af))))) af)) af)))
   (aq (cC (PW.pt (ain (HV (akq hu (pv 1) #[21]) #[25]) (aeB (aX L4 (aG bw #[43] bD cU #[89]) (aG Ai #[43] bD cU #[133]) (bK _))))) (aq (aS (pN pB hr (pv 0) #[79]))) (aq (aS (pN pB hr (pv 0) #[80]))))))))),?_⟩
 exists 0;have o0:outF mem []=mem:=Zg.mpr λ_ _=>by simp
 have i6:x≠go:=aA p PX #[0];have o5:x≠S:=aA p I #[0];have l6:go≠S:=aA PX I #[0];have at':tW #[169] g=Z (.ref S):=by have q':tW #[169] ((g.toNat:Nat):Int)=Z (.ref S):=Ah (by rw[jU,tU];rfl);rw[jz g0]at q';exact q'
 exists _,rfl,x,C,X,_,_,rfl,p,m.cl,m.nm,rfl,ms,_,rfl,.inl (bz M);rw[bg];exists _,rfl,x,C,X,_,_,rfl,p,m.cl,m.nm,rfl,_,rfl,ms,_,_,_,rfl,rfl,bz M,at';exists 22;refine bM (t:=rl _ _ _) (λO H'=>∃v:OV,O=[Z #[105],Z (.int g),Z (.ref il),Z (.int (ds.length:Int)),Z (.ref S),v]/\H' S=Z (.dK (dI (outF mem ins)))/\H' go=Z (.lst (#[114].map V.int))/\∀c u,c≠go->c≠S->H c=Z u->H' c=Z u) ?_ #[46];exists 27
 ·exists _,rfl,il,rfl,⟨_,bz G⟩;refine dH (K:=K) (xs:=ins.map V.int) (λi O H'=>∃v:OV,O=[Z #[105],Z (.int g),Z (.ref il),Z (.int (ds.length:Int)),Z (.ref S),v]/\H' S=Z (.dK (dI (outF mem (ins.take i))))/\H' go=Z (.lst ((setG gs (ins.take i) (ds.length:Int)).map V.int))/\∀c u,c≠go->c≠S->H c=Z u->H' c=Z u) ⟨Y,U,by rw[zO,o0];exact I,PX,λ_ _ _ _ e=>e⟩ (λi O H' _ ⟨_,_,_,_,e⟩=>bz (e _ _ (Ne.symm n3) (aA G I #[0]) G)) ?_ ?_
  ·rintro i y O H3 hi ⟨v,rfl,Tg,l,r⟩;obtain⟨q,rfl,hq⟩:=cj hi;have qm:=i7 q (sM hq);have qo:q∈outF mem (ins.take i):=by refine js.mpr ⟨qm.1,decide_eq_true λz=>?_⟩;obtain⟨j,hj,ej⟩:=jo z;rw[jT]at hj;rw[zT]at ej;have ql:=iT hq;have:=(JJ g6).mp (ej.trans ql.2.symm);omega
   obtain⟨vv,j7⟩:∃v,cI (dI (outF mem (ins.take i))) (Sum.inl q)=Z v:=by have h:=EW (outF mem (ins.take i)) q;rw[decide_eq_true qo]at h;exact JM.mp h
   have et:ins.take (i+1)=ins.take i++[q]:=by rw[jO,hq];rfl
   exists _,rfl,S,rfl,.inl ⟨_,.inl Tg⟩,_,rfl,_,Sum.inl q,vv,Tg,rfl,j7;rw[Q8,abT,<-et];have k7:=r _ _ i6 o5 p;refine⟨_,U,_,U,x,C,X,_,_,U,(ag o5).trans k7,m.cl,m.ng,U,_,U,go,_,q,q.toNat,U,U,(ag l6).trans l,?_,?_⟩
   ·rw[bg,RJ];have:=agA (n:=gs.length) (z:=q.toNat) #[2];rw[jz qm.2.1]at this;exact this
   ·refine⟨_,U,by rw[ag (Ne.symm l6),ae],?_,λc u c1 R e=>by rw[ag c1,ag R];exact r c u c1 R e⟩;rw[ae,et,ab4,List.map_set]
  ·rintro O H3 ⟨v,rfl,Tg,l,r⟩;rw[bg,jR]at Tg l;exact cE _ _ ⟨v,U,Tg,l,r⟩
 rintro O H1 ⟨v,rfl,Sb,m6,Tv⟩;have Tq:=Tv _ _ i6 o5 p;have o6:=Tv _ _ (Ne.symm n1) (aA M I #[0]) M;have c6:=Tv _ _ (Ne.symm n3) (aA G I #[0]) G;exists _,rfl,x,C,X,_,_,rfl,Tq,m.cl,m.nm,rfl,.inl ⟨rfl,_,bz o6⟩,_,rfl,il,rfl,⟨_,bz c6⟩;refine dZ (K:=K) (xs:=ins.map V.int) (λD i ys H'=>av H1 H'/\∃ts,ys=ts.map V.ref/\lF H' ts (dI (ins.take i))) (λD hD=>⟨aj hD _,[],U,.nil⟩) (λD i ys H' _ ⟨e,_⟩=>bz (e _ _ c6)) ?_ ?_
 ·rintro D i y ys H' Q' hD hi hy ⟨hs,ts,rfl,pv⟩ k';obtain⟨q,rfl,hq⟩:=cj hi;have c8:i<ins.length:=(iT hq).1;refine⟨_,U,#[14],λT hT=>?_⟩;have sT:=aj hT (HO.tup [V.int q,V.bl true]);have nD:D≠T:=ak hy hT;have d8:ts.length=i:=by rw[Paired.length pv];unfold dI;rw[bg,jT];omega
  have u6:(upd H' T (HO.tup [V.int q,V.bl true])) D=Z (.lst #[168]):=by rw[ag nD];exact hy
  refine k' _ _ u6 #[187] ⟨au (au hs (hs.free hT)) hD,ts++[T],by rw[jB];rfl,?_⟩;rw[jO,hq];have up:∀b xs,(upd H' T (HO.tup [V.int q,V.bl true])) b=Z #[39]->(upd (upd H' T (HO.tup [V.int q,V.bl true])) D (.lst (ts.map V.ref++[V.ref T]))) b=Z #[39]:=λb xs e=>by rw[ag (aA e u6 #[0])];exact e
  show lF _ _ (dI (ins.take i++[q]));unfold dI;rw[jB];exact Paired.snoc (lF.same pv λb xs e=>up b xs (sT _ _ e)) (up _ _ ae)
 rintro L ys H2 fL hL ⟨s2,ts,rfl,pv⟩;rw[bg,jR]at pv;refine⟨L,ts,_,U,hL,pv,λN hN=>?_⟩;rw[LV g6];have s3:=s2.trans (aj hN (HO.dK (dI ins)));obtain⟨H3,Sa⟩:∃H3,upd H2 N (HO.dK (dI ins))=H3:=⟨_,rfl⟩;have PN:H3 N=Z (.dK (dI ins)):=by rw[<-Sa];exact ae
 rw[Sa]at s3 ⊢;have fN:H1 N=Y:=s2.free hN;have MU:=s3 _ _ o6;have l7:x≠ms:=aA p M #[0];refine⟨ms,_,_,U,U,MU,ay #[24],?_⟩;have m7:N≠ms:=aA PN MU #[0];have f8:x≠iw:=aA p W #[0];have y6:iw≠ms:=aA W M #[0];have o7:S≠ms:=aA I M #[0];obtain⟨H4,F7⟩:∃H4,upd H3 ms (HO.lst (ds.map V.ref++[V.ref N]))=H4:=⟨_,rfl⟩;have o:∀c u,c≠ms->H1 c=Z u->H4 c=Z u:=λc u c1 e=>by rw[<-F7,ag c1];exact s3 _ _ e
 have PZ:H4 ms=Z (.lst ((ds++[N]).map V.ref)):=by rw[<-F7,ae,jB];rfl
 have z6:H4 N=Z (.dK (dI ins)):=by rw[<-F7,ag m7];exact PN
 have d:=o _ _ l7 Tq;have B:=o _ _ y6 (Tv _ _ (aA W PX #[0]) (Ne.symm n7) W);have J:=o _ _ (Ne.symm n4) (Tv _ _ (Ne.symm n2) (aA Hj I #[0]) Hj);have c7:=o _ _ o7 Sb;have Ti:=o _ _ n1 m6;have u7:=o _ _ (Ne.symm n5) c6;rw[F7];have y7:iw≠wt:=aA W Hj #[0];have lo:(dI (outF mem ins)).length=(outF mem ins).length:=by unfold dI;rw[bg]
 have d6:H N=Y:=by
  cases e:H N with
  | none=>rfl
  | some u=>
   have z1:N=go\/N=S:=Classical.byContradiction λz=>by have:=Tv N u (λa=>z (.inl a)) (λa=>z (.inr a)) e;rw[fN]at this;cases this
   rcases z1 with z|z
   ·rw[z,m6]at fN;cases fN
   ·rw[z,Sb]at fN;cases fN
 have d7:∀nw:Int,(#[82]->nw=(ds.length:Int))->(¬ #[82]->nw=g)->Q .non (upd (upd H4 wt (.lst ((ws++[nw]).map V.int))) iw (.dK (dI (if nw∈ks then ks else ks++[nw])))):=λnw h1 h2=>by
  have z7:N≠wt:=aA z6 J #[0];have b8:N≠iw:=λz=>by rw[z,W]at d6;cases d6
  refine k N nw _ d6 ?_ ?_ ?_ ?_ ?_ ae h1 h2 λc u c1 R c3 c4 c5 e=>?_
  ·rw[ag b8,ag z7];exact z6
  ·rw[ag (Ne.symm y6),ag n4];exact PZ
  ·rw[ag n7,ag (aA I Hj #[0])];exact c7
  ·rw[ag (aA PX W #[0]),ag n2];exact Ti
  ·rw[ag (Ne.symm y7),ae]
  ·rw[ag c5,ag c4];exact o _ _ R (Tv c u c1 c3 e)
 exists _,rfl,_,rfl,x,C,X,_,_,rfl,d,m.cl,m.ni,rfl,iw,_,rfl,mS.k (k:=Sum.inl g) B,_,rfl;rw[EW];have f7:#[82]->Q .non (upd (upd H4 wt (.lst ((ws++[(ds.length:Int)]).map V.int))) iw (.dK (dI (if (ds.length:Int)∈ks then ks else ks++[(ds.length:Int)])))):=λh=>d7 _ (λ_=>rfl) (λn=>absurd h n);refine Be #[84] #[84]
 ·exact Dj ⟨_,U,x,X,_,U,d,U,_,U,x,go,ms,wt,iw,(ds.length:Int),ws,ks,U,⟨X,d⟩,J,B,j5,lw,lk,f7 (.inl c)⟩
 ·refine⟨_,U,il,_,U,.inl (bz u7),_,U,S,_,U,c7,_,_,U,U,_,U,Be (λR=>?_) (λR=>?_)⟩
  ·rw[bg,lo]at R;exact⟨_,U,x,X,_,U,d,U,_,U,x,go,ms,wt,iw,(ds.length:Int),ws,ks,U,⟨X,d⟩,J,B,j5,lw,lk,f7 (.inr #[2])⟩
  ·rw[bg,lo]at R;exact⟨_,U,x,X,_,U,d,U,_,U,x,go,ms,wt,iw,g,ws,ks,U,⟨X,d⟩,J,B,j5,lw,lk,d7 g (λh=>absurd h (λz=>by
    rcases z with z|z
    ·exact c z
    ·exact R #[2])) (λ_=>rfl)⟩
end
def aw(many:Nat)(q:Int):Prop:=0<=q/\q<(many:Int)
structure ahM(many:Nat)(j4:List (Int->Int))(sg:Int->Int)(R:Int->Int->Prop):Prop where
 sgn:∀x y,R x y->sg x=sg y
 led:∀x y,R x y->∀c∈j4,R (c x) (c y)
structure X5(many:Nat)(j4:List (Int->Int))(sg:Int->Int)(R:Int->Int->Prop)(d5:Int->Int)(W:Int->Prop):Prop where
 coarse:∀x y,aw many x->aw many y->R x y->d5 x=d5 y
 signs:∀x y,aw many x->aw many y->d5 x=d5 y->sg x=sg y
 cong:∀x y,aw many x->aw many y->d5 x=d5 y->∀c∈j4,d5 (c x)=d5 (c y)\/W (d5 (c x))\/W (d5 (c y))
structure AS(many:Nat)(j4:List (Int->Int))(sg:Int->Int)(R:Int->Int->Prop)(d5:Int->Int)(W:Int->Prop)(S:Int->Prop)(k:Nat):Prop where
 coarse:∀x y,aw many x->aw many y->R x y->d5 x=d5 y
 signs:∀x y,aw many x->aw many y->d5 x=d5 y->sg x=sg y
 whole:∀x y,aw many x->aw many y->R x y->S x->S y
 cong:∀x y,aw many x->aw many y->d5 x=d5 y->∀(j:Nat) (c:Int->Int),j4[j]?=Z c ->
  d5 (c x)=d5 (c y)\/W (d5 (c x))\/W (d5 (c y))\/(k<=j/\((S (c x)/\¬ S (c y))\/(S (c y)/\¬ S (c x))))
section
variable{j4:List (Int->Int)}{R:Int->Int->Prop}{W S:Int->Prop}{k:Nat}
theorem X5.pop(h:X5 many j4 sg R d5 W)(O:∀x,aw many x->∀c∈j4,aw many (c x))(s:Int):AS many j4 sg R d5 (λg=>W g/\g≠s) (λq=>d5 q=s) 0 where
 coarse:=h.coarse
 signs:=h.signs
 whole:=λx y J N r e=>(h.coarse x y J N r).symm.trans e
 cong:=λx y J N e j c f=>by
  have d:=sM f;rcases Classical.em (d5 (c x)=d5 (c y))with q|q
  ·exact .inl q
  rcases Classical.em (d5 (c x)=s)with a|a
  ·exact .inr (.inr (.inr ⟨je _,.inl ⟨a,λb=>q (a.trans b.symm)⟩⟩))
  rcases Classical.em (d5 (c y)=s)with b|b
  ·exact .inr (.inr (.inr ⟨je _,.inr ⟨b,a⟩⟩))
  rcases h.cong x y J N e c d with z|z|z
  ·exact .inl z
  ·exact .inr (.inl ⟨z,a⟩)
  ·exact .inr (.inr (.inl ⟨z,b⟩))
theorem AS.done(h:AS many j4 sg R d5 W S j4.length):X5 many j4 sg R d5 W where
 coarse:=h.coarse
 signs:=h.signs
 cong:=λx y J N e c d=>by
  obtain⟨j,f⟩:=JD.mp d;rcases h.cong x y J N e j c f with z|z|z|⟨z,_⟩
  ·exact .inl z
  ·exact .inr (.inl z)
  ·exact .inr (.inr z)
  ·have:=(iT f).1;omega
def AS.split(h:AS many j4 sg R d5 W S k)(t:∀x y,R x y->R y x)(O:∀x,aw many x->∀c∈j4,aw many (c x)){L:Int->Prop}{b n:Int}{o:Int->Prop}(u:∀x y,aw many x->aw many y->R x y->L x->L y)(A:∀x,aw many x->d5 x≠n)(l:∀g,W g->o g)(B:W b->o n)(V:o n\/o b)(D:∀x,aw many x->d5 x=b->L x->abl x=n)(v:∀x,aw many x->¬ (d5 x=b/\L x)->abl x=d5 x):
  AS many j4 sg R abl o S k:=by
 have back:∀x y,aw many x->aw many y->abl x=abl y->d5 x=d5 y/\(d5 x=b->(L x↔L y)):=λx y J N e=>by
  rcases Classical.em (d5 x=b/\L x)with q|q
  ·rcases Classical.em (d5 y=b/\L y)with p|p
   ·exact⟨q.1.trans p.1.symm,λ_=>⟨λ_=>p.2,λ_=>q.2⟩⟩
   ·rw[D x J q.1 q.2,v y N p]at e;exact absurd e.symm (A y N)
  ·rcases Classical.em (d5 y=b/\L y)with p|p
   ·rw[v x J q,D y N p.1 p.2]at e;exact absurd e (A x J)
   ·rw[v x J q,v y N p]at e;exact⟨e,λM=>⟨λF=>absurd ⟨M,F⟩ q,λE=>absurd ⟨e.symm.trans M,E⟩ p⟩⟩
 have s:∀x,aw many x->W (d5 x)->o (abl x):=λx J w=>by
  rcases Classical.em (d5 x=b/\L x)with q|q
  ·rw[D x J q.1 q.2];exact B (q.1▸w)
  ·rw[v x J q];exact l _ w
 refine⟨λx y J N r=>?_,λx y J N e=>h.signs x y J N (back x y J N e).1,h.whole,λx y J N e j c f=>?_⟩
 ·have e:=h.coarse x y J N r;rcases Classical.em (d5 x=b/\L x)with q|q
  ·rw[D x J q.1 q.2,D y N (e.symm.trans q.1) (u x y J N r q.2)]
  ·have p:¬ (d5 y=b/\L y):=λp=>q ⟨e.trans p.1,u y x N J (t x y r) p.2⟩;rw[v x J q,v y N p,e]
 ·have d:=sM f;have i:=O x J c d;have m:=O y N c d;rcases h.cong x y J N (back x y J N e).1 j c f with z|z|z|z
  ·rcases Classical.em (d5 (c x)=b/\L (c x))with q|q
   ·rcases Classical.em (d5 (c y)=b/\L (c y))with p|p
    ·exact .inl (by rw[D _ i q.1 q.2,D _ m p.1 p.2])
    ·have ex:=D _ i q.1 q.2;have K:=v _ m p;rcases V with a|a
     ·exact .inr (.inl (by rw[ex];exact a))
     ·exact .inr (.inr (.inl (by rw[K,<-z,q.1];exact a)))
   ·rcases Classical.em (d5 (c y)=b/\L (c y))with p|p
    ·have ex:=v _ i q;have K:=D _ m p.1 p.2;rcases V with a|a
     ·exact .inr (.inr (.inl (by rw[K];exact a)))
     ·exact .inr (.inl (by rw[ex,z,p.1];exact a))
    ·exact .inl (by rw[v _ i q,v _ m p,z])
  ·exact .inr (.inl (s _ i z))
  ·exact .inr (.inr (.inl (s _ m z)))
  ·exact .inr (.inr (.inr z))
theorem AS.next(h:AS many j4 sg R d5 W S k)(C:j4[k]?=Z c)(d:∀x y,aw many x->aw many y->d5 x=d5 y->S (c x)->S (c y)):AS many j4 sg R d5 W S (k+1) where
 coarse:=h.coarse
 signs:=h.signs
 whole:=h.whole
 cong:=λx y J N e j B f=>by
  rcases h.cong x y J N e j B f with z|z|z|⟨g,z⟩
  ·exact .inl z
  ·exact .inr (.inl z)
  ·exact .inr (.inr (.inl z))
  ·rcases zC k j with l|l
   ·exact .inr (.inr (.inr ⟨l,z⟩))
   ·have E:j=k:=by omega
    subst E;rw[C]at f;cases f;rcases z with⟨a,b⟩|⟨a,b⟩
    ·exact absurd (d x y J N e a) b
    ·exact absurd (d y x N J e.symm a) b
def X5.akZ(h:X5 many j4 sg R d5 W)(G:∀x,aw many x->¬ W (d5 x))(O:∀x,aw many x->∀c∈j4,aw many (c x)):∀x y,aw many x->aw many y->d5 x=d5 y->∀c∈j4,d5 (c x)=d5 (c y):=λx y J N e c d=>by
 rcases h.cong x y J N e c d with z|z|z
 ·exact z
 ·exact absurd z (G _ (O x J c d))
 ·exact absurd z (G _ (O y N c d))
def X5.single(inj:∀x y,aw many x->aw many y->d5 x=d5 y->x=y):∀x y,aw many x->aw many y->d5 x=d5 y->∀c∈j4,d5 (c x)=d5 (c y):=λx y J N e c _=>by rw[inj x y J N e]
end
theorem X5.start{j4:List (Int->Int)}{R:Int->Int->Prop}(l:ahM many j4 sg R){W:Int->Prop}(m:∀x y,aw many x->aw many y->(d5 x=d5 y↔sg x=sg y))(G:∀x,aw many x->W (d5 x))(O:∀x,aw many x->∀c∈j4,aw many (c x)):X5 many j4 sg R d5 W where
 coarse:=λx y J N r=>(m x y J N).mpr (l.sgn x y r)
 signs:=λx y J N e=>(m x y J N).mp e
 cong:=λx y J N _ c d=>.inr (.inl (G _ (O x J c d)))
theorem lI:∀{xs ys:LI},xs.Nodup->(∀x∈xs,x∈ys)->xs.length<=ys.length
 |[],_,_,_=>je _
 | x::xs,ys,O,h=>by
  have n:=jn.mp O;have m:=h x jC;have i:=lI (xs:=xs) (ys:=ys.erase x) n.2 λy N=>by have e:y≠x:=λz=>n.1 (z▸N);exact(ZY e).mpr (h y (jJ _ N))
  rw[ZO m]at i;have:=Ji m;rw[jX];omega
def TR{xs ys:LI}(O:xs.Nodup)(h:∀x∈xs,x∈ys)(l:ys.length<=xs.length):∀y∈ys,y∈xs:=λy N=>Classical.byContradiction λz=>by
 have:=lI (xs:=y::xs) (ys:=ys) (jn.mpr ⟨z,O⟩) λq W=>by
  rcases jL.mp W with r|r
  ·rw[r];exact N
  ·exact h q r
 rw[jX]at this;omega
theorem RH{n:Int}:∀{done gs:LI} {x:Nat},x<gs.length->(∀q∈done,0<=q)->(setG gs done n).getD x 0=if (x:Int)∈done then n else gs.getD x 0
 |[],gs,x,_,_=>by rw[if_neg #[8]];rfl
 | q::r,gs,x,J,h=>by
  have K:=RH (gs:=gs.set q.toNat n) (n:=n) (done:=r) (x:=x) (by rw[ze];exact J) λp D=>h p (jJ _ D);show(setG (gs.set q.toNat n) r n).getD x 0=_;rw[K];have o:=h q jC;by_cases c:(x:Int)∈r
  ·rw[if_pos c,if_pos (jJ _ c)]
  ·rw[if_neg c];by_cases d:(x:Int)=q
   ·rw[if_pos (by rw[d];exact jC)];have e:q.toNat=x:=by omega
    rw[e,jf,Jf J];rfl
   ·rw[if_neg (λz=>(jL.mp z).elim d c)];have e:q.toNat≠x:=by omega
    rw[jf,Jm e,jf]
def ba(gs:LI)(q:Int):Int:=gs.getD q.toNat 0
def RI{n:Int}(I:0<=q)(h1:q<(gs.length:Int))(W:∀p∈ins,0<=p):ba (setG gs ins n) q=if q∈ins then n else ba gs q:=by have h:=RH (n:=n) (done:=ins) (gs:=gs) (x:=q.toNat) #[2] W;rw[jz I]at h;exact h
structure Ek(H:Hp)(C x go ms wt iw:QX)(many:Nat)(gs:LI)(ds:List QX)(ws:LI):Prop where
 pt:O3 H C x go ms wt iw
 go_:H go=Z (.lst (gs.map V.int))
 ms_:H ms=Z (.lst #[169])
 wt_:H wt=Z (.lst (ws.map V.int))
 iw_:H iw=Z (.dK (dI ws))
 lg:gs.length=many
 val:∀q,aw many q->0<=ba gs q/\ba gs q<(ds.length:Int)
 mem:∀(i:Nat) (da:QX),ds[i]?=Z da->∃mem:LI,H da=Z (.dK (dI mem))/\mem.Nodup/\mem≠[]/\∀q,q∈mem↔aw many q/\ba gs q=(i:Int)
 dn:ds.Nodup
 ndi:iw∉ds
 n1:go≠ms
 n2:go≠wt
 n3:ms≠wt
 wn:ws.Nodup
 wv:∀g∈ws,0<=g/\g<(ds.length:Int)
section
variable{x:QX}{ws:LI}
def Ek.at_(h:Ek H C x go ms wt iw many gs ds ws){d:QX}(j:d∈ds):∃mem:LI,H d=Z (.dK (dI mem)):=by obtain⟨i,W⟩:=JD.mp j;obtain⟨mem,G,_⟩:=h.mem i d W;exact⟨mem,G⟩
theorem Ek.same(h:Ek H C x go ms wt iw many gs ds ws)(s:av H H'):Ek H' C x go ms wt iw many gs ds ws:=
 ⟨h.pt.same s,s _ _ h.go_,s _ _ h.ms_,s _ _ h.wt_,s _ _ h.iw_,h.lg,h.val,λi S W=>by obtain⟨mem,G,M,J,k⟩:=h.mem i S W;exact⟨mem,s _ _ G,M,J,k⟩,h.dn,h.ndi,h.n1,h.n2,h.n3,h.wn,h.wv⟩
def Ek.A2(h:Ek H C x go ms wt iw many gs ds ws):ds.length<=many:=by
 have t:=lI (xs:=(ji ds.length).map λi:Nat=>(i:Int)) (ys:=gs) (Jx.mpr (List.nodup_range.imp λ{a b} n z=>n (by
  have Q:(a:Int)=(b:Int):=z;omega))) (λg m=>by
  obtain⟨i,W,rfl⟩:=jK.mp m;have M:=JC.mp W;obtain⟨mem,_,_,G,d⟩:=h.mem i _ (jE M);obtain⟨q,r,rfl⟩:=ZA G;obtain⟨⟨o,O⟩,e⟩:=(d q).mp jC;have l:q.toNat<gs.length:=by rw[h.lg];omega
  unfold ba at e;rw[getD_at l]at e;rw[<-e];exact jV l)
 rw[bg,jt,h.lg]at t;exact t
def Ek.atZ(h:Ek H C x go ms wt iw many gs ds ws):ws.length<=ds.length:=cQ ds.length h.wn h.wv
theorem Ek.split{S E:QX}{g l:Int}(h:Ek H C x go ms wt iw many gs ds ws)(I:0<=g)(t:ds[g.toNat]?=Z S)(L:H S=Z (.dK (dI mem)))(N:∀q,q∈mem↔aw many q/\ba gs q=g)(nm:mem.Nodup)(O:ins.Nodup)(o:∀q∈ins,q∈mem)(K:ins≠[])(lt:ins.length<mem.length)(s:H E=Y)(P:H' E=Z (.dK (dI ins)))(Q:H' ms=Z (.lst ((ds++[E]).map V.ref)))(j:H' S=Z (.dK (dI (outF mem ins))))(R:H' go=Z (.lst (#[114].map V.int)))(T:H' wt=Z (.lst ((ws++[l]).map V.int)))(y:H' iw=Z (.dK (dI (if l∈ws then ws else ws++[l]))))(F:l∉ws)(A:l=(ds.length:Int)\/l=g)(B:∀c u,c≠go->c≠ms->c≠S->c≠wt->c≠iw->H c=Z u->H' c=Z u):Ek H' C x go ms wt iw many #[114] (ds++[E]) (ws++[l]):=by
 have gl:g.toNat<ds.length:=(iT t).1;have X:∀p∈ins,0<=p:=λp D=>((N p).mp (o p D)).1.1;have w:∀q,aw many q->ba #[114] q=if q∈ins then(ds.length:Int)else ba gs q:=λq W=>RI W.1 (by rw[h.lg];exact W.2) X
 have eE:E∉ds:=λz=>by obtain⟨m,N⟩:=h.at_ z;rw[s]at N;cases N
 obtain⟨dx,J⟩:=h.pt.ob;refine⟨⟨dx,B _ _ (aA J h.go_ #[0]) (aA J h.ms_ #[0]) (aA J L #[0]) (aA J h.wt_ #[0]) (aA J h.iw_ #[0]) J⟩,R,Q,T,by rw[if_neg F]at y;exact y,by rw[RJ];exact h.lg,λq W=>?_,λi d f=>?_,?_,?_,h.n1,h.n2,h.n3,B5 h.wn F,λp D=>?_⟩
 ·rw[w q W,jG,ja];have v:=h.val q W;split<;>omega
 ·rcases snoc_cases f with f|⟨rfl,rfl⟩
  ·have il:=(iT f).1;by_cases c:d=S
   ·subst c;have ei:i=g.toNat:=by have e1:=(iT f).2;have e2:=(iT t).2;exact(JJ h.dn).mp (e1.trans e2.symm)
    refine⟨outF mem ins,j,nm.filter _,λz=>?_,λq=>?_⟩
    ·have all:∀q∈mem,q∈ins:=λq W=>Classical.byContradiction λn=>by have:q∈outF mem ins:=js.mpr ⟨W,decide_eq_true n⟩;rw[z]at this;cases this
     have:=lI nm all;omega
    ·unfold outF;rw[js,N,ei,jz I];constructor
     ·rintro⟨⟨G,M⟩,k⟩;exact⟨G,by rw[w q G,if_neg (of_decide_eq_true k)];exact M⟩
     ·rintro⟨G,M⟩;rw[w q G]at M;by_cases n:q∈ins
      ·rw[if_pos n]at M;omega
      ·rw[if_neg n]at M;exact⟨⟨G,M⟩,decide_eq_true n⟩
   ·obtain⟨m2,G,M,k,h4⟩:=h.mem i d f;refine⟨m2,B _ _ (aA G h.go_ #[0]) (aA G h.ms_ #[0]) c (aA G h.wt_ #[0]) (λz=>h.ndi (z▸sM f)) G,M,k,λq=>?_⟩;have ni:(i:Int)≠g:=λz=>by
     have e:i=g.toNat:=by omega
     rw[e,t]at f;exact c (Option.some.inj f).symm
    rw[h4];refine and_congr_right λW=>?_;rw[w q W];by_cases n:q∈ins
    ·have e:=((N q).mp (o q n)).2;rw[if_pos n,e];constructor<;>intro z<;>omega
    ·rw[if_neg n]
  ·refine⟨ins,P,O,K,λq=>?_⟩;constructor
   ·intro W;have r:=((N q).mp (o q W)).1;exact⟨r,by rw[w q r,if_pos W]⟩
   ·rintro⟨W,e⟩;rw[w q W]at e;by_cases n:q∈ins
    ·exact n
    ·rw[if_neg n]at e;have:=h.val q W;omega
 ·refine JH.mpr ⟨h.dn,jn.mpr ⟨by simp,Je⟩,λa ha b hb=>?_⟩;rw[jH.mp hb];exact λz=>eE (z▸ha)
 ·intro z;rcases sJ.mp z with z|z
  ·exact h.ndi z
  ·have e:=jH.mp z;rw[<-e,h.iw_]at s;cases s
 ·rw[jG,ja];rcases sJ.mp D with z|z
  ·have:=h.wv p z;omega
  ·rw[jH.mp z];rcases A with e|e<;>omega
end
def afN(many:Nat)(L gs:LI)(n:Nat)(ws Am CC:LI):Prop:=∃b nw:Int,CC=ws++[nw]/\(nw=(n:Int)\/nw=b)/\(b∈ws->nw=(n:Int))/\(∀q,aw many q->ba gs q=b->q∈L->ba Am q=(n:Int))/\(∀q,aw many q->¬ (ba gs q=b/\q∈L)->ba Am q=ba gs q)
inductive RP (C:QX) (vs:List V) (H:Hp) (Q:VK) (E:XK):Prop
 | mk (x go ms wt iw ll:QX) (many:Nat) (gs ws L:LI) (ds:List QX) (J:LI->Nat->LI->Prop) (_:vs=[.ref x,.ref ll]) (_:Ek H C x go ms wt iw many gs ds ws) (_:many<1000) (_:H ll=Z (.lst (L.map V.int))) (_:(ll≠go/\ll≠ms/\ll≠wt)) (_:L.Nodup) (_:(∀q∈L,aw many q)) (_:J gs ds.length ws) (_:(∀gs n ws Am CC,J gs n ws->(∀q,aw many q->0<=ba gs q/\ba gs q<(n:Int))->afN many L gs n ws Am CC->J Am (n+1) CC)) (_:∀(H':Hp) (Am CC:LI) (more:List QX),Ek H' C x go ms wt iw many Am #[191] CC->J Am #[191].length CC->(∀a b,aw many a->aw many b->ba Am a=ba Am b->a∈L->b∈L)->(∀d∈more,H d=Y)->(∀c u,c≠go->c≠ms->c≠wt->c≠iw->c∉ds->H c=Z u->H' c=Z u)->Q .non H')
section
def dj:ax ["self","leading","touched","here","group","inside"] ["self","leading"] (ao lO):=cb #[1]
def abJ(F:aY K "part_by" "Parted.part_by" lO dV f fd)(pc:OY K C)(rT:cT P w K mg base C "split_off" 2 ["self","group","inside"] (aaH K C))(bD:mg "len" = Y):aR P w K mg base dy 3 f fd ["self","leading"] (RP C):=by
 refine F.ok dj #[22] (λbP A f8 s H vs Q E hr h=>?_)
 ·obtain⟨x,go,ms,wt,iw,ll,many,gs,ws,L,ds,J,rfl,_⟩:=h;rfl
 obtain⟨x,go,ms,wt,iw,ll,many,gs,ws,L,ds,J,rfl,S,q9,k7,⟨l1,l2,l3⟩,l7,hL,j0,g8,k⟩:=h;have hu:=mh hr;obtain⟨dx,hx⟩:=S.pt.ob;have r9:L.length<=many:=cQ many l7 hL;have u9:=S.A2;refine⟨_,(ah (az (i:=2) dj.nd oU)
   (ah (bL PassesOwn.never rfl (cu (pv 1)) (aQ (i:=3) dj.nd) (aq (aS (dN YY Ya Yb bu (Oc (pv 2) (aB cX #[21] (pv 3) #[3]) (bI af) ⟨rfl,rfl,rfl,rfl⟩) #[79]))))
   (aq (bL PassesOwn.never rfl (aer (Dr Yw XU PySem.F.type_dict_items adJ (pv 2))) (Dt rfl (cy (aQ (i:=4) dj.nd) (cy (aQ (i:=5) dj.nd) oj))) (aq (cC (aX aok (aG bw #[43] bD cU #[172]) (aG Ai #[43] bD cU (aa (aB cX #[21] (pv 4) #[3]) af)) (bK _)) (aq (aS (pN rT hr (pv 0) (aa (pv 4) #[172])))) bq)))))),?_⟩
 exists 0;refine λB hB=>?_;have s0:=aj hB (HO.dK []);exists 22;refine bM (t:=rl _ _ _) (λO H'=>∃(r:List #[190]) (v:OV),O=[Z #[105],Z (.ref ll),Z (.ref B),v,Y,Y]/\av H H'/\cN H H' B r (λq ls=>ls=L.filter λh=>decide (ba gs h=q))/\∀e∈r,∃h∈L,ba gs h=e.1) ?_ #[46];exists 27
 ·have b0:cN H (upd H B (.dK [])) B [] (λq ls=>ls=(L.take 0).filter λh=>decide (ba gs h=q)):=⟨ae,List.Pairwise.nil,List.Pairwise.nil,(λe h=>by cases h),(λe h=>by cases h),λq _=>rfl⟩;exists _,rfl,ll,rfl,⟨_,bz (s0 _ _ k7)⟩;refine dH (K:=K) (xs:=L.map V.int) (λi O H'=>∃(r:List #[190]) (v:OV),O=[Z #[105],Z (.ref ll),Z (.ref B),v,Y,Y]/\av H H'/\cN H H' B r (λq ls=>ls=(L.take i).filter λh=>decide (ba gs h=q))/\∀e∈r,∃h∈L,ba gs h=e.1) ⟨[],Y,U,s0,b0,λe h=>by cases h⟩ (λi O H' _ ⟨_,_,_,e,_,_⟩=>bz (e _ _ k7)) ?_ ?_
  ·rintro i y O H2 hi ⟨r,v,rfl,s2,b2,kr⟩;obtain⟨h,rfl,hh⟩:=cj hi;have N:=sM hh;have il:=(iT hh).1;have Di:=hL h N;have gv:=S.val h Di;have at':tW (gs.map V.int) h=Z (.int (ba gs h)):=lV Di.1 (by rw[S.lg];exact Di.2);refine⟨_,U,B,U,.inl ⟨_,.inl b2.at_⟩,_,U,x,C,dx,_,_,U,s2 _ _ hx,pc.cl,pc.ng,U,_,U,go,_,_,_,U,U,bz (s2 _ _ S.go_),at',#[13],λLa Y8=>?_⟩;have sL:=aj Y8 #[85];have b3:=b2.same sL;have nL:∀e∈r,e.2≠La:=λe R z=>by obtain⟨ls,G,_⟩:=b2.lst e R;rw[z,Y8]at G;cases G
   have i8:B≠La:=ak b2.at_ Y8;have fL:H La=Y:=s2.free Y8;have A2:=cQ ds.length b3.nd (λq W=>by obtain⟨e,R,rfl⟩:=jK.mp W;obtain⟨p,hp,ep⟩:=kr e R;rw[<-ep];exact S.val p (hL p hp))
   rw[bg]at A2;have len:(Dm r).length<sizeLine:=ay (by unfold Dm;rw[bg];omega);have et:L.take (i+1)=L.take i++[h]:=by rw[jO,hh];rfl
   have m7:∀(p:Int) (ls:LI),p≠ba gs h->(ls=(L.take i).filter λh=>decide (ba gs h=p))->ls=(L.take (i+1)).filter λh=>decide (ba gs h=p):=λp ls np z=>by rw[et,JY,JG (by rw[decide_eq_false (Ne.symm np)];decide),QI,jZ];exact z
   have u6:∀ls:LI,(ls=(L.take i).filter λq=>decide (ba gs q=ba gs h))->ls++[h]=(L.take (i+1)).filter λq=>decide (ba gs q=ba gs h):=λls z=>by
    have e1:[h].filter (λq=>decide (ba gs q=ba gs h))=[h]:=by simp
    rw[et,JY,e1,z]
   refine⟨_,Sum.inl (ba gs h),b3.at_,U,len,λv hv=>?_,λhn=>?_⟩
   ·obtain⟨la,ls,rfl,M,Tn,hp⟩:=b3.get hv;have pl:ls.length<=i:=by rw[hp];exact jW (JI _ _) (by rw[jT];omega)
    have lz:(ls.map V.int).length<sizeLine:=ay #[24];exists .inl ⟨rfl,_,bz Tn⟩,_,rfl,la,_,_,rfl,rfl,Tn,lz;exact⟨r,_,U,au (s2.trans sL) (b2.fresh _ M),b3.old M Tn (u6 ls hp) m7,kr⟩
   ·have W:ba gs h∉r.map Prod.fst:=λz=>by obtain⟨e,R,ee⟩:=jK.mp z;obtain⟨jj,j8⟩:=JD.mp R;have:=Hv b3.nd (q:=e.1) (a:=e.2) j8;rw[ee,hn]at this;cases this
    have Bb:(upd (upd H2 La #[85]) B (HO.dK (putK (Dm r) (Sum.inl (ba gs h)) (V.ref La)))) La=Z #[188]:=by rw[ag (Ne.symm i8),ae]
    refine⟨.inl ⟨U,_,bz Bb⟩,_,U,La,_,_,U,U,Bb,(by show 0<sizeLine;decide),?_⟩;refine⟨r++[(ba gs h,La)],_,U,au (au (s2.trans sL) hB) fL,b3.new W ae fL nL (u6 [] (b3.non _ W)) m7,λe R=>?_⟩;rcases sJ.mp R with z|z
    ·exact kr e z
    ·rw[jH.mp z];exact⟨h,N,U⟩
  ·rintro O H1 ⟨r,v,rfl,s1,b1,kr⟩;rw[bg,jR]at b1;exact cE _ _ ⟨r,v,U,s1,b1,kr⟩
 rintro O H1 ⟨r,v,rfl,s1,b1,kr⟩;refine⟨_,U,.inr (.inr (.inl ⟨U,.inl ⟨_,b1.at_⟩⟩)),B,_,U,U,b1.at_,λvw y6=>?_⟩;have k8:B≠vw:=ak b1.at_ y6;refine⟨vw,B,Dm r,U,ae,by rw[ag k8];exact b1.at_,λo=>?_⟩;have m8:H vw=Y:=s1.free y6;obtain⟨H2,PB⟩:∃H2,upd (upd H1 vw (BG vw B)) B (.Av o (.dK (Dm r)))=H2:=⟨_,rfl⟩;have s2:av H H2:=by rw[<-PB];exact au (au s1 m8) hB
 have o8:H2 B=Z (.Av o (.dK (Dm r))):=by rw[<-PB,ae]
 have u8:∀e∈r,H2 e.2=Z (.lst ((L.filter λh=>decide (ba gs h=e.1)).map V.int)):=λe R=>by obtain⟨ls,G,h2⟩:=b1.lst e R;rw[<-PB,ag (aA G b1.at_ #[0]),ag (ak G y6),G,h2]
 rw[PB];have y8:=b1.nd;have lk:(Dm r).length=r.length:=by unfold Dm;rw[bg]
 refine abh (o:=o) (kvs:=Dm r) (λi O H'=>∃(I CC:LI) (more:List QX) (v1 v2 v3:OV),O=[Z #[105],Z (.ref ll),Z (.ref B),v1,v2,v3]/\Ek H' C x go ms wt iw many I #[191] CC/\J I #[191].length CC/\(∀d∈more,H d=Y)/\H' B=Z (.Av o (.dK (Dm r))) /\
   (∀e∈r,H' e.2=Z (.lst ((L.filter λh=>decide (ba gs h=e.1)).map V.int)))/\(∀c u,c≠go->c≠ms->c≠wt->c≠iw->c∉ds->H c=Z u->H' c=Z u)/\(∀q,aw many q->ba gs q∉(r.take i).map Prod.fst->ba I q=ba gs q) /\
   (∀a b,aw many a->aw many b->ba I a=ba I b->ba gs a=ba gs b/\(ba gs a∈(r.take i).map Prod.fst->(a∈L↔b∈L))))
  ⟨gs,ws,[],v,Y,Y,rfl,by rw[jZ];exact S.same s2,by rw[jZ];exact j0,(λd hd=>by cases hd),o8,u8,(λc u _ _ _ _ _ e=>s2 _ _ e),(λ_ _ _=>rfl),λa b _ _ e=>⟨e,λz=>by rw[zO]at z;cases z⟩⟩
  (λi O H' _ ⟨_,_,_,_,_,_,_,_,_,_,e,_,_,_,_⟩=>e) ?_ ?_
 ·rintro i p O H3 T hi ⟨I,CC,more,v1,v2,v3,rfl,S3,j3,fm,z6,d6,c6,ga,gb⟩ hT;obtain⟨e,R,rfl⟩:∃e,r[i]?=Z e/\p=(Sum.inl e.1,V.ref e.2):=by unfold Dm at hi;rw[jU]at hi;obtain⟨e,G,h2⟩:=Ju.mp hi;exact⟨e,G,h2.symm⟩
  obtain⟨b,il⟩:=e;have M:=sM R;have y9:i<r.length:=(iT R).1;have sT:=aj hT (HO.tup [V.int b,V.ref il]);exists T,_,rfl,bN ae,rfl,_,_,rfl,_,_,rfl,rfl;obtain⟨H4,F7⟩:∃H4,upd H3 T (HO.tup [V.int b,V.ref il])=H4:=⟨_,rfl⟩;have X:av H3 H4:=by rw[<-F7];exact sT
  have z8:upd H3 T (HO.tup [kV (Sum.inl b),V.ref il])=H4:=F7
  try rw[F7]
  try rw[z8]
  have D:=S3.same X;obtain⟨c7,d7⟩:=D.pt.ob;obtain⟨h0,g6,e0⟩:=kr _ M;have bv:=S.val h0 (hL h0 g6);rw[e0]at bv;have bl:b.toNat<ds.length:=by omega
  have tU:#[191][b.toNat]?=Z ds[b.toNat]:=by rw[jq bl,jE bl]
  obtain⟨da,o7⟩:∃da,ds[b.toNat]=da:=⟨_,rfl⟩;rw[o7]at tU;obtain⟨mem,IB,u7,z9,N⟩:=D.mem b.toNat da tU;rw[jz bv.1]at N;have at':tW (#[191].map V.ref) b=Z (.ref da):=BP bv.1 tU;have a9:=X _ _ (d6 _ M);obtain⟨ins,f7⟩:∃ins,(L.filter λh=>decide (ba gs h=b))=ins:=⟨_,rfl⟩;have y7:H4 il=Z (.lst (ins.map V.int)):=by rw[<-f7];exact a9
  have l:∀q,q∈ins↔q∈L/\ba gs q=b:=λq=>by rw[<-f7,js];exact and_congr_right λ_=>⟨of_decide_eq_true,decide_eq_true⟩
  have TU:b∉(r.take i).map Prod.fst:=λz=>by
   obtain⟨e,G,h2⟩:=jK.mp z;obtain⟨j,hj,ej⟩:=jo G;rw[jT]at hj;rw[zT]at ej;have e2:=(iT R).2;have:(r.map Prod.fst)[j]'#[24]=(r.map Prod.fst)[i]'#[24]:=by rw[Jq,Jq,ej,e2];exact h2
   have:=(JJ y8).mp this;omega
  have Hl:∀q∈ins,q∈mem:=λq W=>by have G:=(l q).mp W;refine(N q).mpr ⟨hL q G.1,?_⟩;rw[ga q (hL q G.1) (by rw[G.2];exact TU),G.2]
  have i6:ins.Nodup:=by rw[<-f7];exact l7.filter _
  have b9:ins≠[]:=λz=>by have:=(l h0).mpr ⟨g6,e0⟩;rw[z]at this;cases this
  have l6:(r.take (i+1)).map Prod.fst=(r.take i).map Prod.fst++[b]:=by rw[jO,R,jB];rfl
  have z7:(dI mem).length=mem.length:=by unfold dI;rw[bg]
  have g7:=D.go_;have m6:=D.ms_;have i7:=D.wt_;have j5:H il=Y:=b1.fresh _ M;have g1:go≠il:=λz=>by rw[<-z,S.go_]at j5;cases j5
  have g2:ms≠il:=λz=>by rw[<-z,S.ms_]at j5;cases j5
  have g3:wt≠il:=λz=>by rw[<-z,S.wt_]at j5;cases j5
  have awU:=D.A2;have awV:=D.atZ;have aqR:mem.length<=many:=cQ many u7 λq W=>((N q).mp W).1;have awS:ins.length<=mem.length:=lI i6 Hl;refine⟨_,U,il,_,U,.inl (bz y7),_,U,x,C,c7,_,_,U,d7,pc.cl,pc.nm,U,_,U,ms,_,_,_,U,U,bz m6,at',da,_,U,IB,_,_,U,U,_,U,Be #[84] #[84]⟩
  ·rw[bg,z7]at c;have lt:ins.length<mem.length:=by omega
   have c9:#[191].length<1000:=by omega
   refine⟨_,U,x,c7,_,U,d7,U,_,U,_,U,x,go,ms,wt,iw,da,il,b,I,CC,CC,mem,ins,ds++more,U,⟨c7,d7⟩,g7,m6,i7,D.iw_,D.wn,⟨by omega,by omega,c9,by omega⟩,bv.1,tU,IB,y7,i6,λq W=>?_,⟨D.n1,D.n2,g1,D.n3,g2,g3,λz=>D.ndi (z▸sM tU)⟩,λE nw H5 fE hE d9 f9 g9 i9 j9 hy hn o6=>?_⟩
   ·have G:=(N q).mp (Hl q W);exact⟨Hl q W,G.1.1,by rw[D.lg];exact G.1.2⟩
   ·have b8:nw=(#[191].length:Int)\/nw=b:=by
     by_cases z:b∈CC\/ins.length<=(outF mem ins).length
     ·exact .inl (hy z)
     ·exact .inr (hn z)
    have k9:nw∉CC:=λz=>by
     by_cases y:b∈CC\/ins.length<=(outF mem ins).length
     ·have:=D.wv nw z;rw[hy y]at this;omega
     ·rw[hn y]at z;exact y (.inl z)
    have S5:=D.split bv.1 tU IB N u7 i6 Hl b9 lt fE hE d9 f9 g9 i9 j9 k9 b8 o6;have ip:∀p∈ins,0<=p:=λp hp=>((N p).mp (Hl p hp)).1.1;have gr:∀q,aw many q->ba (setG I ins (#[191].length:Int)) q=if q∈ins then(#[191].length:Int)else ba I q:=λq W=>RI W.1 (by rw[D.lg];exact W.2) ip
    have l9:ba I h0=b:=by rw[ga h0 (hL h0 g6) (by rw[e0];exact TU),e0]
    have c8:∀q,aw many q->(q∈ins↔ba I q=b/\q∈L):=λq W=>
     ⟨λz=>⟨((N q).mp (Hl q z)).2,((l q).mp z).1⟩,λz=>(l q).mpr ⟨z.2,by rw[(gb q h0 W (hL h0 g6) (z.1.trans l9.symm)).1];exact e0⟩⟩
    have m9:H E=Y:=by
     cases e:H E with
     | none=>rfl
     | some u=>
      have:=X _ _ (c6 E u (λz=>by rw[z,g7]at fE;cases fE) (λz=>by rw[z,m6]at fE;cases fE) (λz=>by rw[z,i7]at fE;cases fE) (λz=>by rw[z,D.iw_]at fE;cases fE) (λz=>by obtain⟨m,N⟩:=D.at_ (JB _ z);rw[fE]at N;cases N) e)
      rw[fE]at this;cases this
    have o5:=X _ _ z6;have n9:da∈ds:=o7▸jV bl;refine⟨setG I ins (#[191].length:Int),CC++[nw],more++[E],_,_,_,U,by rw[<-jv];exact S5,?_,λd hd=>?_,o6 _ _ (aA o5 g7 #[0]) (aA o5 m6 #[0]) (aA o5 IB #[0]) (aA o5 i7 #[0]) (aA o5 D.iw_ #[0]) o5,λe R=>?_,λc u c1 c2 c3 c4 c5 e=>o6 c u c1 c2 (λz=>c5 (z▸n9)) c3 c4 (X _ _ (c6 c u c1 c2 c3 c4 c5 e)),λq W nq=>?_,λa c ha hc e=>?_⟩
    ·have el:(ds++(more++[E])).length=#[191].length+1:=by simp only[jG,ja];omega
     rw[el];exact g8 I _ CC _ _ j3 D.val ⟨b,nw,U,b8,λz=>hy (.inl z),λq W e hl=>by rw[gr q W,if_pos ((c8 q W).mpr ⟨e,hl⟩)],λq W n=>by rw[gr q W,if_neg λz=>n ((c8 q W).mp z)]⟩
    ·rcases sJ.mp hd with z|z
     ·exact fm d z
     ·rw[jH.mp z];exact m9
    ·have fe:=b1.fresh e R;have j7:=X _ _ (d6 e R);exact o6 _ _ (λz=>by rw[z,S.go_]at fe;cases fe) (λz=>by rw[z,S.ms_]at fe;cases fe) (aA j7 IB #[0]) (λz=>by rw[z,S.wt_]at fe;cases fe) (aA j7 D.iw_ #[0]) j7
    ·rw[l6]at nq;rw[gr q W,if_neg λz=>nq (jh _ (by rw[((l q).mp z).2];exact jC))];exact ga q W λz=>nq (JB _ z)
    ·rw[gr a ha,gr c hc]at e;by_cases ai:a∈ins
     ·by_cases ci:c∈ins
      ·have G:=(l a).mp ai;have h2:=(l c).mp ci;exact⟨G.2.trans h2.2.symm,λ_=>⟨λ_=>h2.1,λ_=>G.1⟩⟩
      ·rw[if_pos ai,if_neg ci]at e;have:=D.val c hc;omega
     ·by_cases ci:c∈ins
      ·rw[if_neg ai,if_pos ci]at e;have:=D.val a ha;omega
      ·rw[if_neg ai,if_neg ci]at e;have g:=gb a c ha hc e;refine⟨g.1,λz=>?_⟩;rw[l6]at z;rcases sJ.mp z with z|z
       ·exact g.2 z
       ·have za:=jH.mp z;exact⟨λh=>absurd ((l a).mpr ⟨h,za⟩) ai,λh=>absurd ((l c).mpr ⟨h,g.1.symm.trans za⟩) ci⟩
  ·rw[bg,z7]at c;have all:=TR i6 Hl #[2];refine⟨I,CC,more,_,_,_,U,D,j3,fm,X _ _ z6,(λe R=>X _ _ (d6 e R)),(λc u c1 c2 c3 c4 c5 e=>X _ _ (c6 c u c1 c2 c3 c4 c5 e)),λq W nq=>?_,λa c ha hc e=>?_⟩
   ·rw[l6]at nq;exact ga q W λz=>nq (JB _ z)
   ·have g:=gb a c ha hc e;refine⟨g.1,λz=>?_⟩;rw[l6]at z;rcases sJ.mp z with z|z
    ·exact g.2 z
    ·have za:=jH.mp z;have d8:∀q,aw many q->ba gs q=b->q∈L:=λq W eq=>((l q).mp (all q ((N q).mpr ⟨W,by rw[ga q W (by rw[eq];exact TU),eq]⟩))).1;exact⟨λ_=>d8 c hc (g.1.symm.trans za),λ_=>d8 a ha za⟩
 ·rintro O H' ⟨I,CC,more,v1,v2,v3,rfl,S3,j3,fm,z6,d6,c6,ga,gb⟩;rw[lk,jR]at gb;refine k H' I CC more S3 j3 (λa b ha hb e N=>?_) fm c6;have g:=gb a b ha hb e;refine(g.2 (Classical.byContradiction λz=>?_)).mp N;have:=b1.non _ z;have h2:a∈L.filter λh=>decide (ba gs h=ba gs a):=js.mpr ⟨N,decide_eq_true rfl⟩;rw[<-this]at h2;cases h2
end
def Reach(d4:Nat)(rows:LL)(q:Int):Prop:=∃row:LI,(∀f∈row,0<=f/\f<(d4:Int))/\iQ rows row 0=q
def Reach.zero:Reach d4 rows 0:=⟨[],(λf h=>by cases h),rfl⟩
def Reach.step{f:Int}(h:Reach d4 rows q)(f0:0<=f)(L:f<(d4:Int)):Reach d4 rows (stepI rows q f):=by
 obtain⟨l,S,rfl⟩:=h;refine⟨l++[f],λg m=>?_,by rw[CB];rfl⟩;rcases sJ.mp m with z|z
 ·exact S g z
 ·rw[jH.mp z];exact⟨f0,L⟩
def Reach.of{S:Int->Prop}(I:S 0)(hs:∀q,S q->∀f,0<=f->f<(d4:Int)->S (stepI rows q f))(h:Reach d4 rows q):S q:=by
 obtain⟨l,a,rfl⟩:=h;have go:∀(l:LI) (p:Int),(∀f∈l,0<=f/\f<(d4:Int))->S p->S (iQ rows l p):=by
  intro l
  induction l with
  | nil=>intro p _ D;exact D
  | cons f r K=>intro p a D;exact K (stepI rows p f) (λg m=>a g (jJ _ m)) (hs p D f (a f jC).1 (a f jC).2)
 exact go l 0 a I
def oW(s:LI)(x:Int):LI:=if x∈s then s else s++[x]
def pI(rows:LL)(s:LI)(q:Int):LI:=(rows.getD q.toNat []).foldl oW s
def aey{x:Int}(h:y∈s):y∈oW s x:=by
 unfold oW;split
 ·exact h
 ·exact JB _ h
def aex(s:LI)(x:Int):x∈oW s x:=by
 unfold oW;split
 ·assumption
 ·exact jh _ jC
theorem Bm:∀(xs:LI) {s:LI} {y:Int},y∈s->y∈xs.foldl oW s
 |[],_,_,h=>h
 | x::xs,_,_,h=>Bm xs (aey h)
theorem HW:∀(xs:LI) {s:LI} {y:Int},y∈xs->y∈xs.foldl oW s
 |[],_,_,h=>by cases h
 | x::xs,s,y,h=>by
  rcases jL.mp h with rfl|h
  ·exact Bm xs (aex s y)
  ·exact HW xs h
theorem Al(rows:LL):∀(qs:LI) {s:LI} {y:Int},y∈s->y∈qs.foldl (pI rows) s
 |[],_,_,h=>h
 | q::qs,_,_,h=>Al rows qs (Bm _ h)
theorem Ak(rows:LL):∀(qs:LI) {s:LI} {q y:Int},q∈qs->y∈rows.getD q.toNat []->y∈qs.foldl (pI rows) s
 |[],_,_,_,h,_=>by cases h
 | p::qs,s,q,y,h,N=>by
  rcases jL.mp h with rfl|h
  ·exact Al rows qs (HW _ N)
  ·exact Ak rows qs h N
structure OL(many d4:Nat)(rows:LL)(qs:LI):Prop where
 eq:qs=qs.foldl (pI rows) [0]
 nd:qs.Nodup
 inr:∀q∈qs,0<=q/\q<(many:Int)
 re:∀q,q∈qs↔Reach d4 rows q
inductive Md (K:YW) (vs:List V) (H:Hp) (Q:VK) (E:XK):Prop
 | mk (m r g:QX) (many d4:Nat) (rows:LL) (signs:LI) (_:vs=[.ref m,.int 0]) (_:bQ H m r g d4 rows signs) (_:bA many d4 rows) (_:(1<=many/\many<=1000)) (_:∀(l:QX) (H':Hp) (qs:LI),av H H'->H' l=Z (.lst (qs.map V.int))->OL many d4 rows qs->Q #[181] H')
structure Found(many d4:Nat)(rows:LL)(dn ks:LI):Prop where
 eq:ks=dn.foldl (pI rows) [0]
 nd:ks.Nodup
 inr:∀q∈ks,0<=q/\q<(many:Int)
 re:∀q∈ks,Reach d4 rows q
structure Part(many d4:Nat)(rows:LL)(dn:LI)(xs:LI)(ks:LI):Prop where
 eq:ks=xs.foldl oW (dn.foldl (pI rows) [0])
 nd:ks.Nodup
 inr:∀q∈ks,0<=q/\q<(many:Int)
 re:∀q∈ks,Reach d4 rows q
theorem Part.put{xs:LI}(F:Part many d4 rows dn xs ks)(h:q∉ks)(o:0<=q)(O:q<(many:Int))(r:Reach d4 rows q):Part many d4 rows dn (xs++[q]) (ks++[q]) where
 eq:=by rw[ju,<-F.eq];show _=oW ks q;unfold oW;rw[if_neg h]
 nd:=JH.mpr ⟨F.nd,by simp,λa l b B e=>h (by rw[<-jH.mp B,<-e];exact l)⟩
 inr:=λp D=>by
  rcases sJ.mp D with z|z
  ·exact F.inr p z
  ·rw[jH.mp z];exact⟨o,O⟩
 re:=λp D=>by
  rcases sJ.mp D with z|z
  ·exact F.re p z
  ·rw[jH.mp z];exact r
theorem Part.old{xs:LI}(F:Part many d4 rows dn xs ks)(h:q∈ks):Part many d4 rows dn (xs++[q]) ks where
 eq:=by rw[ju,<-F.eq];show _=oW ks q;unfold oW;rw[if_pos h]
 nd:=F.nd
 inr:=F.inr
 re:=F.re
section
def cf:ax ["machine","start","rows","reached","level","fresh","here","there"] ["machine","start"] (ao mF):=cb #[1]
def T5(F:aY K "reached_rooms" "reached_rooms" mF dV f fd)(hV:mg "list" = Y):aR P w K mg base dy 1 f fd ["machine","start"] (Md K):=by
 refine F.ok cf #[22] (λbP A d6 s H vs Q E hr h=>?_)
 ·obtain⟨m,r,g,many,d4,rows,signs,rfl,_⟩:=h;rfl
 obtain⟨m,r,g,many,d4,rows,signs,rfl,M,R,⟨n0,n1⟩,k⟩:=h;obtain⟨eK,Hh,hA⟩:=M.rows;have hu:=mh hr;refine⟨_,(ah (az (i:=2) cf.nd #[12])
   (ah (az (i:=3) cf.nd (aam (wN (pv 1) mR EZ) rfl rfl #[0] #[10]))
   (ah (az (i:=4) cf.nd (bI #[80]))
   (ah (oV PassesOwn.never (wO (pv 4) (λ_=>rfl)) (ah (az (i:=5) cf.nd (bI af))
   (ah (bL PassesOwn.never rfl (cu (pv 4)) (aQ (i:=6) cf.nd) (aq (bL PassesOwn.never rfl (eS (aB aE (pv 2) (pv 6) #[3])) (aQ (i:=7) cf.nd) (aq (cC (HV (Dq hu (pv 7) (pv 3)) #[25]) (ah (Ci hu (pv 3) (pv 7) mR rfl)
   (aq (aS (dN YY Ya Yb bu (pv 5) (aa (pv 7) af))))) bq)))))
   (aq (az (i:=4) cf.nd (pv 5))))))
   (aq (aH (aM (AY rfl) #[43] hV BS #[79]))))))),?_⟩
 exists 0;exists _,rfl,m,_,_,_,rfl,rfl,bN M.tup,rfl;refine λD hD=>⟨_,U,ae,[(Sum.inl 0,V.bl true)],U,by show 1<=15;decide,?_⟩;rw[aaQ];have sD:=aj hD (HO.dK (dI [0]));refine⟨_,U,#[36],λW hW=>?_⟩;have T:W≠D:=λz=>by rw[z,ae]at hW;cases hW
 have u6:H W=Y:=by rw[ag T]at hW;exact hW
 exists 28;refine Aj (t:=sZ _ _) (λO H'=>∃(ks:LI) (W:QX) (n I d:OV),O=[Z #[147],Z (.int 0),Z (.ref r),Z #[81],Z (.ref W),n,I,d]/\av H H'/\H' D=Z (.dK (dI ks))/\Found many d4 rows ks ks) ?_ (λcE=>?_);exists 27
 ·refine tq (λmm O H'=>∃(dn b:LI) (W:QX) (n I d:OV),mm=2*(many-(dn++b).length)+b.length/\O=[Z #[147],Z (.int 0),Z (.ref r),Z #[81],Z (.ref W),n,I,d]/\av H H'/\H' D=Z (.dK (dI (dn++b)))/\W≠D/\H' W=Z (.lst (b.map V.int))/\Found many d4 rows dn (dn++b))
   ⟨_,[],[0],W,Y,Y,Y,rfl,rfl,sD.trans (aj hW _),by rw[ag (Ne.symm T),ae];rfl,T,ae,?_⟩ ?_
  ·refine⟨U,by simp,λq hq=>by rw[zp]at hq;rw[jH.mp hq];omega,λq hq=>by rw[zp]at hq;rw[jH.mp hq];exact Reach.zero⟩
  rintro mm O H1 ⟨dn,b,W,n,I,d,rfl,rfl,s1,y,T,G,o⟩;by_cases en:b=[]
  ·subst en;refine⟨_,U,_,.inl ⟨_,bz G,U⟩,tV ?_⟩;rw[jZ]at y o;exact cE _ _ ⟨dn,W,n,I,d,U,s1,y,o⟩
  exists _,rfl,_,.inl ⟨_,bz G,rfl⟩;have ne:(!(b.map V.int).isEmpty)=true:=by
   cases b with
   | nil=>exact absurd rfl en
   | cons x r=>rfl
  rw[ne];have kl:=cQ many o.nd o.inr;have y6:1<=b.length:=by
   cases b with
   | nil=>exact absurd rfl en
   | cons x r=>exact QB (je _)
  rw[jG]at kl;refine Dj ⟨λO H'=>∃m',m'<2*(many-(dn++b).length)+b.length/\∃(dn b:LI) (W:QX) (n I d:OV),m'=2*(many-(dn++b).length)+b.length/\O=[Z #[147],Z (.int 0),Z (.ref r),Z #[81],Z (.ref W),n,I,d]/\av H H'/\H' D=Z (.dK (dI (dn++b)))/\W≠D/\H' W=Z (.lst (b.map V.int))/\Found many d4 rows dn (dn++b),λO H' h=>h,?_⟩;refine⟨#[13],λN hN=>?_⟩;have a:N≠D:=λz=>by rw[z,y]at hN;cases hN
  have u:N≠W:=λz=>by rw[z,G]at hN;cases hN
  have g6:H N=Y:=s1.free hN;exists 28;refine⟨_,U,W,U,⟨_,bz (by rw[ag (Ne.symm u)];exact G)⟩,dH (K:=K) (xs:=b.map V.int) (λi O H'=>∃(J:LI) (I d:OV),
    O=[Z #[147],Z (.int 0),Z (.ref r),Z #[81],Z (.ref W),Z (.ref N),I,d]/\av H H'/\H' D=Z (.dK (dI (dn++b++J)))/\H' W=Z (.lst (b.map V.int))/\H' N=Z (.lst (J.map V.int))/\Found many d4 rows (dn++b.take i) (dn++b++J))
   ⟨[],I,d,rfl,s1.trans (aj hN _),by rw[ag (Ne.symm a),jZ];exact y,by rw[ag (Ne.symm u)];exact G,ae,by rw[zO,jZ,jZ];exact o⟩ (λi O H' _ ⟨_,_,_,_,_,_,e,_,_⟩=>bz e) ?_ ?_⟩
  ·rintro i x O H2 hi ⟨J,I,d,rfl,s2,ET,i6,Te,F2⟩;obtain⟨here,rfl,C⟩:=cj hi;have z6:i<b.length:=(iT C).1;have hk:here∈dn++b++J:=JB _ (jh _ (sM C));have hh:=F2.inr here hk;have l6:=F2.re here hk;have B:here.toNat<rows.length:=by rw[R.len];omega
   obtain⟨ra,e1,e2⟩:=hA.get B;have lr:rows[here.toNat].length=d4:=R.row _ (jV B);refine⟨_,U,_,U,r,_,_,_,U,U,bN (s2 _ _ Hh),BP hh.1 e1,ra,U,⟨_,bN (s2 _ _ e2)⟩,pH (K:=K) (xs:=rows[here.toNat].map V.int) (λj O H'=>∃(J:LI) (v:OV),
     O=[Z #[147],Z (.int 0),Z (.ref r),Z #[81],Z (.ref W),Z (.ref N),Z (.int here),v]/\av H H'/\H' D=Z (.dK (dI (dn++b++J)))/\H' W=Z (.lst (b.map V.int))/\H' N=Z (.lst (J.map V.int))/\Part many d4 rows (dn++b.take i) (rows[here.toNat].take j) (dn++b++J))
    ⟨J,d,rfl,s2,ET,i6,Te,⟨F2.eq,F2.nd,F2.inr,F2.re⟩⟩ (λi O H' _ ⟨_,_,_,e,_,_,_,_⟩=>bN (e _ _ e2)) ?_ ?_⟩
   ·rintro j x O H3 hj ⟨J,v,rfl,s3,OJ,L,PN,X⟩;obtain⟨z,rfl,C⟩:=cj hj;have m6:j<rows[here.toNat].length:=(iT C).1;have o5:=R.val _ (jV B) z (sM C);have j5:=cQ many X.nd X.inr;rw[jG,jG]at j5;have o6:stepI rows here (j:Int)=z:=by unfold stepI;rw[getD_at B,jN,getD_at m6];exact(iT C).2
    have tk:rows[here.toNat].take (j+1)=rows[here.toNat].take j++[z]:=by rw[jO,C];rfl
    exists _,rfl,_,rfl,D,_,rfl,mS.k (k:=Sum.inl z) OJ,_,rfl;rw[EW];refine adw #[84] #[84]
    ·refine⟨_,U,_,U,D,_,U,Mo.k (k:=Sum.inl z) OJ (ay (by unfold dI;rw[bg,jG,jG];omega)),?_⟩;rw[EV c];have c6:(upd H3 D (HO.dK (dI (dn++b++J++[z])))) N=Z (.lst (J.map V.int)):=by rw[ag a];exact PN
     refine⟨_,U,.inl ⟨U,_,bz c6⟩,_,U,N,_,_,U,U,c6,zK (show _<=2000 by rw[bg];omega) #[10],?_⟩;have F4:=X.put c o5.1 o5.2 (by rw[<-o6];exact l6.step #[2] #[2]);refine⟨J++[z],_,U,au (au s3 hD) g6,?_,?_,?_,?_⟩
     ·rw[ag (Ne.symm a),ae,jv]
     ·rw[ag (Ne.symm u),ag T];exact L
     ·rw[ae,jB];rfl
     ·rw[tk,<-jv];exact F4
    ·exists J,_,rfl,s3,OJ,L,PN;rw[tk];exact X.old c
   ·rintro O H3 ⟨J,v,rfl,s3,OJ,L,PN,X⟩;rw[bg,jR]at X;refine⟨J,_,_,U,s3,OJ,L,PN,⟨?_,X.nd,X.inr,X.re⟩⟩;have e9:dn++b.take (i+1)=(dn++b.take i)++[here]:=by rw[jO,C,jv];rfl
    rw[X.eq,e9,ju (l:=dn++b.take i)];show _=pI rows _ here;unfold pI;rw[getD_at B]
  ·rintro O H3 ⟨J,I,d,rfl,s3,OJ,L,PN,X⟩;rw[bg,jR]at X;have j5:=cQ many X.nd X.inr;rw[jG,jG]at j5;refine⟨_,U,_,?_,dn++b,J,N,_,_,_,U,U,s3,OJ,a,PN,X⟩;rw[jG,jG];omega
 rintro O H1 ⟨ks,W,n,I,d,rfl,s1,y,o⟩;refine⟨_,U,D,_,U,y,λl hl=>?_⟩;have e:(dI ks).map (λq=>kV q.1)=ks.map V.int:=by unfold dI;rw[JN];rfl
 rw[e];have z0:(0:Int)∈ks:=by rw[o.eq];exact Al rows ks jC
 refine k l _ ks (s1.trans (aj hl _)) ae ⟨o.eq,o.nd,o.inr,λq=>⟨o.re q,λh=>?_⟩⟩;refine Reach.of (S:=λq=>q∈ks) z0 (λp hp f f0 f1=>?_) h;have Hg:=o.inr p hp;have B:p.toNat<rows.length:=by rw[R.len];omega
 have lr:rows[p.toNat].length=d4:=R.row _ (jV B);have hf:f.toNat<rows[p.toNat].length:=by omega
 rw[o.eq];refine Ak rows ks hp ?_;unfold stepI;rw[getD_at B,getD_at hf];exact jV hf
end
def sgn(signs:LI)(x:Int):Int:=signs.getD x.toNat 0
def InF(d4:Nat)(v:LI):Prop:=∀f∈v,0<=f/\f<(d4:Int)
def Agree(rows:LL)(d4:Nat)(signs:LI)(n:Nat)(a b:Int):Prop:=∀v,InF d4 v->v.length<=n->sgn signs (iQ rows v a)=sgn signs (iQ rows v b)
def Agree.up{a b:Int}(I:sgn signs a=sgn signs b)(h:∀f:Nat,f<d4->Agree rows d4 signs n (stepI rows a f) (stepI rows b f)):Agree rows d4 signs (n+1) a b:=by
 intro v G M;cases v with
 | nil=>exact I
 | cons f v=>
  have l:=G f jC;have q:=h f.toNat #[2] v (λg m=>G g (jJ _ m)) (by rw[jX]at M;omega);rw[jz l.1]at q;exact q
def mK(rows:LL)(d4:Nat)(signs:LI)(x y:Int):Prop:=∀n,Agree rows d4 signs n x y
theorem mK.sgn{x:Int}(h:mK rows d4 signs x y):My.sgn signs x=My.sgn signs y:=h 0 [] (λf l=>by cases l) (jD 0)
def mK.led{x:Int}(h:mK rows d4 signs x y){f:Nat}(l:f<d4):mK rows d4 signs (stepI rows x f) (stepI rows y f):=λn v G M=>by
 refine h (n+1) ((f:Int)::v) (λg m=>?_) (by rw[jX];omega);rcases jL.mp m with z|z
 ·rw[z];exact⟨by omega,by omega⟩
 ·exact G g z
def oP(c:LI)(q:Int):Int:=c.getD q.toNat 0
structure CG(many d4:Nat)(rows j4:LL):Prop where
 of:∀c∈j4,∃f:Nat,f<d4/\∀q,aw many q->oP c q=stepI rows q f
 all:∀f:Nat,f<d4->∃c∈j4,∀q,aw many q->oP c q=stepI rows q f
def CG.room(C:CG many d4 rows j4)(R:bA many d4 rows):∀x,aw many x->∀c∈j4.map oP,aw many (c x):=λx J c O=>by obtain⟨l,L,rfl⟩:=jK.mp O;obtain⟨f,a,e⟩:=C.of l L;rw[e x J];exact pz R J.1 J.2 #[2] #[2]
theorem CG.an3(C:CG many d4 rows j4)(R:bA many d4 rows):ahM many #[189] #[173] (λx y=>aw many x/\aw many y/\mK rows d4 signs x y) where
 sgn:=λx y h=>h.2.2.sgn
 led:=λx y h c O=>by have G:=C.room R x h.1 c O;have M:=C.room R y h.2.1 c O;exists G,M;obtain⟨l,L,rfl⟩:=jK.mp O;obtain⟨f,a,e⟩:=C.of l L;rw[e x h.1,e y h.2.1];exact h.2.2.led a
theorem Z2{W:Int->Prop}(C:CG many d4 rows j4)(R:bA many d4 rows)(h:X5 many #[189] #[173] (λx y=>aw many x/\aw many y/\mK rows d4 signs x y) d5 W)(st:∀x y,aw many x->aw many y->d5 x=d5 y->∀c∈j4.map oP,d5 (c x)=d5 (c y)){x:Int}(J:aw many x)(N:aw many y):
  d5 x=d5 y↔mK rows d4 signs x y:=by
 refine⟨λe n=>?_,λa=>h.coarse x y J N ⟨J,N,a⟩⟩
 induction n generalizing x y with
 | zero=>
  intro v _ M;have:v=[]:=List.eq_nil_of_length_eq_zero #[2];rw[this];exact h.signs x y J N e
 | succ n K=>
  refine Agree.up (h.signs x y J N e) λf l=>?_;obtain⟨c,O,P⟩:=C.all f l;have b:oP c∈j4.map oP:=jK.mpr ⟨c,O,rfl⟩;have q:=st x y J N e _ b;rw[P x J,P y N]at q;exact K (pz R J.1 J.2 #[2] #[2]) (pz R N.1 N.2 #[2] #[2]) q
def tR(φ:Int->Int):Nat->Nat
 | 0=>0
 | m+1=>if φ (m:Int)=(tR φ m:Int)then tR φ m+1 else tR φ m
def pG(φ:Int->Int)(n:Nat):List Nat:=(ji n).filter λq=>decide (φ (q:Int)=(tR φ q:Int))
theorem Ba(φ:Int->Int):∀n,(pG φ n).length=tR φ n
 | 0=>rfl
 | n+1=>by
  have K:=Ba φ n;unfold pG at K ⊢;rw[JP,JY,jG,K];show _=if φ (n:Int)=(tR φ n:Int)then tR φ n+1 else tR φ n
  by_cases c:φ (n:Int)=(tR φ n:Int)
  ·rw[if_pos c,JR (by exact decide_eq_true c)];rfl
  ·rw[if_neg c,JG (by rw[decide_eq_false c];decide)];rfl
abbrev dd(s:LI)(v:Int):LI:=Yx s v
def rE{v:Int}(h:v∈s):dd s v=s:=by unfold dd Yx;simp[h]
def lH{v:Int}(h:v∉s):dd s v=s++[v]:=by unfold dd Yx;simp[h]
theorem C9:∀(ys s:LI),∃zs,ys.foldl dd s=s++zs
 |[],s=>⟨[],by simp⟩
 | y::ys,s=>by
  by_cases c:y∈s
  ·obtain⟨zs,e⟩:=C9 ys s;exact⟨zs,by rw[JQ,rE c,e]⟩
  ·obtain⟨zs,e⟩:=C9 ys (s++[y]);exact⟨y::zs,by rw[JQ,lH c,e,jv];rfl⟩
def Rn(gs:LI)(m:Nat):∃zs,bB gs=bB #[178]++zs:=by obtain⟨zs,e⟩:=C9 (gs.drop m) (bB #[178]);exists zs;rw[<-e];show gs.foldl dd []=(gs.drop m).foldl dd (#[178].foldl dd []);rw[<-ju,ZV]
def oG{m:Nat}{g:Int}(h:gs[m]?=Z g):bB (gs.take (m+1))=dd (bB #[178]) g:=by unfold bB;rw[jO,h,ju];rfl
def wM(gs:LI)(q:Int):Int:=((bB gs).idxOf (gs.getD q.toNat 0):Nat)
def agy{xs zs:LI}{g:Int}(h:g∈xs):(xs++zs).idxOf g=xs.idxOf g:=by rw[Zs,if_pos h]
def Oh{m:Nat}{g:Int}(h:gs[m]?=Z g)(V:g∈bB #[178]):wM gs (m:Int)=((bB #[178]).idxOf g:Nat):=by obtain⟨zs,e⟩:=Rn gs m;unfold wM;rw[jN,jf,h,e];show(((bB #[178]++zs).idxOf g:Nat):Int)=_;rw[agy V]
def Ce{m:Nat}{g:Int}(h:gs[m]?=Z g)(V:g∉bB #[178]):wM gs (m:Int)=((bB #[178]).length:Nat):=by obtain⟨zs,e⟩:=Rn gs (m+1);rw[oG h,lH V]at e;unfold wM;rw[jN,jf,h,e,jv];show(((bB #[178]++([g]++zs)).idxOf g:Nat):Int)=_;rw[Zs,if_neg V];simp
theorem BV(gs:LI):∀{m:Nat},m<=gs.length->tR (wM gs) m=(bB #[178]).length
 | 0,_=>rfl
 | m+1,h=>by
  have K:=BV gs (m:=m) #[2];have a:gs[m]?=Z gs[m]:=jE #[2];show(if wM gs (m:Int)=(tR (wM gs) m:Int)then tR (wM gs) m+1 else tR (wM gs) m)=_;rw[K,oG a];by_cases c:gs[m]∈bB #[178]
  ·have e:=Oh a c;have lt:=JA c;rw[rE c,if_neg #[2]]
  ·have e:=Ce a c;rw[lH c,if_pos e,jG];rfl
def U3{x:Int}(J:aw gs.length x)(N:aw gs.length y):wM gs x=wM gs y↔gs.getD x.toNat 0=gs.getD y.toNat 0:=by
 have mem:∀{z:Int},aw gs.length z->gs.getD z.toNat 0∈bB gs:=λ{z} C=>by
  have l:z.toNat<gs.length:=by have:=C.1;have:=C.2;omega
  rw[getD_at l];exact rL.mpr (jV l)
 unfold wM;constructor
 ·intro h;have a:(bB gs).idxOf (gs.getD x.toNat 0)=(bB gs).idxOf (gs.getD y.toNat 0):=by omega
  have F:=JA (mem J);have E:=JA (mem N);have ex:(bB gs)[(bB gs).idxOf (gs.getD x.toNat 0)]=gs.getD x.toNat 0:=zN F;have K:(bB gs)[(bB gs).idxOf (gs.getD y.toNat 0)]=gs.getD y.toNat 0:=zN E;rw[<-ex,<-K];congr 1
 ·intro h;rw[h]
def Dn(xs:LI)(k:Nat):List #[167]:=(xs.zipIdx k).map λp=>(Sum.inl p.1,V.int (p.2:Int))
def sG(xs:LI)(k:Nat):(Dn xs k).length=xs.length:=by unfold Dn;rw[bg,List.length_zipIdx]
theorem An:∀(xs:LI) (k:Nat) (g:Int),cI (Dn xs k) (Sum.inl g)=if g∈xs then Z (.int ((k+xs.idxOf g:Nat):Int))else Y
 |[],k,g=>by rw[if_neg #[8]];rfl
 | x::xs,k,g=>by
  have K:=An xs (k+1) g;have X:Dn (x::xs) k=(Sum.inl x,V.int (k:Int))::Dn xs (k+1):=rfl;by_cases e:x=g
  ·subst e;rw[X,dk rfl,if_pos jC,QJ];simp
  ·rw[X,cW (λz=>e (Sum.inl.inj z)),K];have m:g∈x::xs↔g∈xs:=by simp[Ne.symm e]
   by_cases c:g∈xs
   ·have i:(x::xs).idxOf g=xs.idxOf g+1:=by rw[QJ,show(x==g)=false from beq_false_of_ne e];rfl
    rw[if_pos c,if_pos (m.mpr c),i];congr 3;omega
   ·rw[if_neg c,if_neg λz=>c (m.mp z)]
def N3{xs:LI}{g:Int}(h:g∉xs):putK (Dn xs 0) (Sum.inl g) (V.int (xs.length:Int))=Dn (xs++[g]) 0:=by
 unfold putK;rw[if_neg (by
  intro z;obtain⟨p,D,e⟩:=JX.mp z;obtain⟨k,C,rfl⟩:=jK.mp D;have l:=Sum.inl.inj (of_decide_eq_true e);have m:k.1∈xs:=by obtain⟨i,W,v⟩:=jo C;rw[List.getElem_zipIdx]at v;rw[<-v];exact jV _
  exact h (l▸m))]
 unfold Dn;rw[Zo,jB,Jj];rfl
theorem Bj:∀(gs s:LI),s.Nodup->(gs.foldl dd s).Nodup
 |[],s,h=>h
 | g::gs,s,h=>by
  rw[JQ];by_cases c:g∈s
  ·rw[rE c];exact Bj gs s h
  ·rw[lH c];exact Bj gs _ (B5 h c)
def agZ(gs:LI):(bB gs).Nodup:=Bj gs [] Je
theorem ij:∀(gs s:LI),(gs.foldl dd s).length<=s.length+gs.length
 |[],s=>jD _
 | g::gs,s=>by
  rw[JQ];by_cases c:g∈s
  ·rw[rE c];have:=ij gs s;rw[jX];omega
  ·rw[lH c];have:=ij gs (s++[g]);rw[jG,ja]at this;rw[jX];omega
def rK(gs:LI):(bB gs).length<=gs.length:=by have:=ij gs [];rw[Jc,Jj]at this;exact this
def fh(gs:LI):LI:=(ji gs.length).map λi:Nat=>wM gs i
def Cf(I:0<=q)(h1:q<(gs.length:Int)):ba (fh gs) q=wM gs q:=by
 unfold ba fh;have l:q.toNat<gs.length:=by omega
 rw[getD_at (by rw[bg,jt];exact l),Jq,Zp,jz I]
def aen(I:0<=q)(h1:q<(gs.length:Int)):0<=wM gs q/\wM gs q<((bB gs).length:Int):=by
 have l:q.toNat<gs.length:=by omega
 have m:gs.getD q.toNat 0∈bB gs:=by rw[getD_at l];exact rL.mpr (jV l)
 have:=JA m;unfold wM;omega
def aeo(h:j<(bB gs).length):∃q:Int,aw gs.length q/\wM gs q=(j:Int):=by have m:(bB gs)[j]∈gs:=rL.mp (jV h);obtain⟨i,W,e⟩:=jo m;refine⟨(i:Int),⟨by omega,by omega⟩,?_⟩;unfold wM;rw[jN,getD_at W,e];have l:=JA (jV h);have q:=(JJ (agZ gs)).mp (zN l);rw[q]
def aar(col:LI)(q:Int):(dA col q).Nodup:=by unfold dA;refine Jx.mpr ((List.nodup_range.filter _).imp λ{a b} n z=>n ?_);have Q:(a:Int)=(b:Int):=z;omega
inductive RQ (C:QX) (vs:List V) (H:Hp) (Q:VK) (E:XK):Prop
 | mk (x dx g:QX) (signs:LI) (_:vs=[.ref x,.ref g]) (_:H x=Z (.ins C dx [])) (_:H g=Z (.tup (signs.map V.int))) (_:signs.length<1000) (_:∀(H':Hp) (go ms wt iw:QX) (ds:List QX),(∀b u,b≠x->H b=Z u->H' b=Z u)->H go=Y->H ms=Y->H wt=Y->H iw=Y->(∀d∈ds,H d=Y)->Ek H' C x go ms wt iw signs.length #[159] ds ((ji ds.length).map λi:Nat=>(i:Int))->Q .non H')
section
def cA:ax ["self","signs","numbers","group_of","members","here","group"] ["self","signs"] (ao cK):=cb #[1]
def lW:aO ["self","signs","numbers","group_of","members","here","group"] (ao cK) ["sign","numbers"] [Y,Z 2] ⟨.function,[#[48],("sign",.local),("len",.globalImplicit),("numbers",.free)],false,false,[]⟩:=oh #[1]
def lX:aO ["self","signs","numbers","group_of","members","here","group"] (ao cK) ["sign"] [Y] ⟨.function,[#[48],("sign",.local)],false,false,[]⟩:=oh #[1]
def lY:aO ["self","signs","numbers","group_of","members","here","group"] (ao cK) ["group"] [Y] ⟨.function,[#[48],("group",.local)],false,false,[]⟩:=oh #[1]
def T4(F:aY K "__init__" "Parted.__init__" cK dV f fd)(pc:OY K C)(bD:mg "len" = Y)(hV:mg "list" = Y)(bh:mg "range" = Y)(hU:mg "dict" = Y)(cP:mg "enumerate" = Y):aR P w K mg base dy 1 f fd ["self","signs"] (RQ C):=by
 refine F.ok cA #[22] (λbP A k7 s H vs Q E hr h=>?_)
 ·obtain⟨x,M,g,signs,rfl,_⟩:=h;rfl
 obtain⟨x,M,g,signs,rfl,hx,hg,ln,k⟩:=h;have hu:=mh hr;refine⟨_,(ah (az (i:=2) cA.nd oU)
   (ah (fX (i:=3) rfl cA.nd rfl #[135] lW (eS (pv 1)) (λ_ _ _ _=>(aQ (i:=0) lW.nd)) (λ_ _ _ _=>(Oc (pv 1) (pv 0) (aG Ai #[43] bD cU #[80]) ⟨rfl,rfl,rfl,rfl⟩)))
   (ah (fX (i:=4) rfl cA.nd rfl #[135] lX (ag8 (pv 2)) (λ_ _ _ _=>(aQ (i:=0) lX.nd)) (λ_ _ _ _=>oU))
   (ah (bL PassesOwn.never rfl (HR rfl cP #[79]) (Dt rfl (cy (aQ (i:=5) cA.nd) (cy (aQ (i:=6) cA.nd) oj))) (aq (Ci hu (aB cX (pv 4) (pv 6) #[3]) (pv 5) mR rfl)))
   (ah (iH (pv 0) (pv 3) rfl)
   (ah (iH (pv 0) (pv 4) rfl)
   (ah (iH (pv 0) (U0 rfl rfl hV rfl bh (aa (aG bw #[43] bD cU #[133]) af)) rfl)
   (aq (iH (pv 0) (aM (wu rfl) #[43] hU BR (aa (dB rfl lY (de rfl bh (aa (aG bw #[43] bD cU #[133]) af)) (λ_ _ _ _=>(aQ (i:=0) lY.nd)) (λ_ _ _ _=>(ck (aa (pv 0) (aa mR af))))) af)) rfl))))))))),?_⟩
 exists 0;refine λG g6=>?_;have s0:=aj g6 (HO.dK []);have pl:#[159].length=signs.length:=by unfold fh;rw[bg,jt]
 exists 22;refine bM (t:=oy _ _) (λO H'=>∃go:QX,O=[Z #[105],Z (.ref g),Z (.ref G),Z (.ref go),Y,Y,Y]/\av H H'/\H go=Y/\H' go=Z #[99]/\H' G=Z (.dK (Dn (bB signs) 0))) ?_ #[46];exists 27
 ·exists _,rfl,g,rfl,⟨_,bN (s0 _ _ hg)⟩;refine rD (K:=K) (xs:=signs.map V.int) (λD i I H'=>av H H'/\H' G=Z (.dK (Dn (bB (signs.take i)) 0))/\I=((ji i).map λj:Nat=>wM signs j).map V.int) (λD X=>⟨au s0 (s0.free X),by rw[ag (ak ae X),ae];rfl,U⟩) (λD i I H' _ ⟨e,_⟩=>bN (e _ _ hg)) ?_ ?_
  ·rintro D i y I H2 Q' X hi N ⟨s2,Te,rfl⟩ k';obtain⟨sg,rfl,hs⟩:=cj hi;have il:=(iT hs).1;have ol:=rK (signs.take i);rw[jT]at ol;have i6:G≠D:=aA Te N #[0];have fD:H D=Y:=s0.free X;refine⟨_,U,G,U,.inl ⟨_,.inl Te⟩,_,U,_,U,G,_,U,Te,_,Sum.inl sg,Te,U,ay (by rw[sG];omega),λv hv=>?_,λhn=>?_⟩
   ·rw[An]at hv;by_cases c:sg∈bB (signs.take i)
    ·rw[if_pos c,Jj]at hv;have ev:=(Option.some.inj hv).symm;subst ev;refine k' _ _ N (ay (by rw[bg,bg,jt];omega)) ⟨au s2 fD,by rw[ag i6,Te,oG hs,rE c],?_⟩;rw[JP,jB,jB,<-Oh hs c];rfl
    ·rw[if_neg c]at hv;cases hv
   ·rw[An]at hn;by_cases c:sg∈bB (signs.take i)
    ·rw[if_pos c]at hn;cases hn
    ·rw[sG];refine k' _ _ (by rw[ag (Ne.symm i6)];exact N) (ay (by rw[bg,bg,jt];omega)) ⟨au (au s2 g6) fD,by rw[ag i6,ae,N3 c,oG hs,lH c],?_⟩;rw[JP,jB,jB,<-Ce hs c];rfl
  ·rintro D I H2 X N ⟨s2,Te,rfl⟩;rw[bg,jR]at Te;rw[bg]at N;exact cE _ _ ⟨D,U,s2,s0.free X,N,Te⟩
 rintro O H1 ⟨go,rfl,s1,o5,u6,y6⟩;have ol:=rK signs;refine bM (t:=oy _ _) (λO H'=>∃(ms:QX) (as:List QX),O=[Z #[105],Z (.ref g),Z (.ref G),Z (.ref go),Z (.ref ms),Y,Y]/\av H H'/\H' go=Z #[99]/\H ms=Y/\H' ms=Z #[166]/\as.length=(bB signs).length/\as.Nodup/\ms≠go/\(∀a∈as,H a=Y/\H' a=Z (.dK []))) ?_ #[46];exists 27
 ·refine⟨_,U,G,_,U,.inl ⟨y6,λo=>?_⟩⟩;obtain⟨H2,PB⟩:∃H2,upd H1 G (.Av o (.dK (Dn (bB signs) 0)))=H2:=⟨_,rfl⟩;have s2:av H H2:=by rw[<-PB];exact au s1 g6
  have Te:H2 G=Z (.Av o (.dK (Dn (bB signs) 0))):=by rw[<-PB,ae]
  have R:H2 go=Z #[99]:=by rw[<-PB,ag (aA u6 y6 #[0])];exact u6
  rw[PB];refine aa8 (o:=o) (kvs:=Dn (bB signs) 0) (λD i I H'=>av H2 H'/\∃as:List QX,I=as.map V.ref/\as.length=i/\as.Nodup/\(∀a∈as,H2 a=Y/\H' a=Z (.dK []))) (λD X=>⟨aj X _,[],U,U,Je,λa h=>by cases h⟩) (λD i I H' _ ⟨e,_⟩=>e _ _ Te) ?_ ?_
  ·rintro D i p I H3 Q' X hi N ⟨J,as,rfl,la,nd,ha⟩ k';have il:=(iT hi).1;rw[sG]at il;refine λd hd=>?_;have z6:D≠d:=ak N hd;have W:d∉as:=λz=>by rw[(ha d z).2]at hd;cases hd
   refine k' _ _ (by rw[ag z6];exact N) #[187] ⟨au (au J (J.free hd)) X,as++[d],by rw[jB];rfl,by rw[jG,ja,la],?_,λa h=>?_⟩
   ·exact JH.mpr ⟨nd,by simp,λa ha b hb e=>W (by rw[<-jH.mp hb,<-e];exact ha)⟩
   ·rcases sJ.mp h with z|z
    ·obtain⟨h1,h2⟩:=ha a z;exact⟨h1,by rw[ag (aA h2 N #[0]),ag (λy:a=d=>W (y▸z))];exact h2⟩
    ·rw[jH.mp z];exact⟨J.free hd,by rw[ag (Ne.symm z6),ae]⟩
  ·rintro D I H3 X N ⟨J,as,rfl,la,nd,ha⟩;rw[sG]at la;exact cE _ _ ⟨D,as,U,s2.trans J,J _ _ R,s2.free X,N,la,nd,Ne.symm (ak R X),λa h=>⟨s2.free (ha a h).1,(ha a h).2⟩⟩
 rintro O H2 ⟨ms,as,rfl,s2,R,c6,l7,la,W,m7,l6⟩;refine bM (t:=rl _ _ _) (λO H'=>∃(v1 v2:OV),O=[Z #[105],Z (.ref g),Z (.ref G),Z (.ref go),Z (.ref ms),v1,v2]/\av H H'/\H' go=Z #[99]/\H' ms=Z #[166]/\∀(j:Nat) (a:QX),as[j]?=Z a->H' a=Z (.dK (dI (dA #[159] (j:Int))))) ?_ #[46];exists 27
 ·refine⟨_,U,go,U,⟨_,bz R⟩,Lx (K:=K) (xs:=#[159].map V.int) (λi O H'=>∃(v1 v2:OV),O=[Z #[105],Z (.ref g),Z (.ref G),Z (.ref go),Z (.ref ms),v1,v2]/\av H H'/\H' go=Z #[99]/\H' ms=Z #[166]/\∀(j:Nat) (a:QX),as[j]?=Z a->H' a=Z (.dK (dI (dA (#[159].take i) (j:Int)))))
   ⟨Y,Y,rfl,s2,R,l7,λj a h=>(l6 a (sM h)).2⟩ (λi O H' _ ⟨_,_,_,_,e,_,_⟩=>bz e) ?_ ?_⟩
  ·rintro i y O H3 T hi ⟨v1,v2,rfl,J,j5,MU,m⟩ hT;obtain⟨t,rfl,ht⟩:=cj hi;have il:=(iT ht).1;rw[pl]at il;have et:t=wM signs (i:Int):=by have e:=(iT ht).2;rw[<-e];unfold fh;rw[Jq,Zp]
   have tv:=aen (gs:=signs) (q:=(i:Int)) #[2] #[2];rw[<-et]at tv;have tl:t.toNat<as.length:=by omega
   have sT:=aj hT (HO.tup [V.int i,V.int t]);obtain⟨B,F7⟩:∃B,upd H3 T (HO.tup [V.int i,V.int t])=B:=⟨_,rfl⟩;have o7:B T=Z (.tup [V.int i,V.int t]):=by rw[<-F7];exact ae
   rw[F7]at sT ⊢;obtain⟨a,ea⟩:∃a,as[t.toNat]?=Z a:=⟨_,jE tl⟩;have r:=sT _ _ (m _ _ ea);have tn:((t.toNat:Nat):Int)=t:=jz tv.1;rw[tn]at r;have lp:(#[159].take i).length=i:=by rw[jT];omega
   have u7:(i:Int)∉dA (#[159].take i) t:=λz=>by have h1:=(rM.mp z).1.2;rw[lp]at h1;omega
   have d8:=RA (#[159].take i) t;exists T,_,rfl,bN o7,rfl,_,_,rfl,_,_,rfl,rfl;refine⟨_,U,_,U,ms,_,_,_,U,U,bz (sT _ _ MU),BP tv.1 ea,_,U,a,_,U,Mo.k (k:=Sum.inl (i:Int)) r (ay (by unfold dI;rw[bg];omega)),?_⟩;rw[EV u7];have fa:H a=Y:=(l6 a (sM ea)).1;have Ti:=sT _ _ j5;have PZ:=sT _ _ MU;refine⟨_,_,U,au (J.trans sT) fa,by rw[ag (aA Ti r #[0])];exact Ti,by rw[ag (aA PZ r #[0])];exact PZ,λj b hb=>?_⟩;have y7:#[159].take (i+1)=#[159].take i++[t]:=by rw[jO,ht];rfl
   rw[y7,Dw,lp];by_cases c:b=a
   ·subst c;have ej:j=t.toNat:=by have e1:=(iT hb);have e2:=(iT ea);exact(JJ W).mp (e1.2.trans e2.2.symm)
    rw[ae,ej,tn,if_pos rfl]
   ·have nj:t≠(j:Int):=λz=>by
     have e:t.toNat=j:=by omega
     rw[e,hb]at ea;exact c (Option.some.inj ea)
    rw[ag c,if_neg nj,jZ];exact sT _ _ (m j b hb)
  ·rintro O H3 ⟨v1,v2,rfl,J,j5,MU,m⟩;rw[bg,jR]at m;exact cE _ _ ⟨v1,v2,U,J,j5,MU,m⟩
 rintro O H3 ⟨v1,v2,rfl,J,j5,MU,m⟩;have fa:∀a∈as,H a=Y:=λa h=>(l6 a h).1;refine⟨_,U,_,U,x,C,M,[],U,J _ _ hx,pc.cl,pc.ng,by decide,?_⟩;refine⟨_,U,_,U,x,C,M,_,U,ae,pc.cl,pc.nm,by show(1:Nat)<1000;decide,?_⟩;rw[aaQ];obtain⟨B,F7⟩:∃B,upd H3 x (HO.ins C M (rN "members" (V.ref ms) (rN "group_of" (V.ref go) [])))=B:=⟨_,rfl⟩;have k4:∀b u,b≠x->H b=Z u->B b=Z u:=λb u n h=>by rw[<-F7,ag n];exact J _ _ h
 have x4:B x=Z (.ins C M [("group_of",.ref go),("members",.ref ms)]):=by rw[<-F7,ae];rfl
 have S:∀b:QX,H b=Y->x≠b:=λb h=>ak hx h;have Ti:B go=Z #[99]:=by rw[<-F7,ag (Ne.symm (S _ o5))];exact j5
 have PZ:B ms=Z #[166]:=by rw[<-F7,ag (Ne.symm (S _ c6))];exact MU
 have r:∀(j:Nat) (a:QX),as[j]?=Z a->B a=Z (.dK (dI (dA #[159] (j:Int)))):=λj a h=>by rw[<-F7,ag (Ne.symm (S _ (fa a (sM h))))];exact m j a h
 have f4:∀{b},B b=Y->H b=Y:=λ{b} h=>by
  rcases Decidable.em (b=x)with z|z
  ·subst z;rw[x4]at h;cases h
  ·cases e:H b with
   | none=>rfl
   | some u=>rw[k4 b u z e]at h;cases h
 rw[F7];have lm:#[49].length=as.length:=jQ _;refine⟨_,U,ms,_,U,.inl (bz PZ),#[49].length,U,small (by rw[lm];omega),λwt Hj=>?_⟩;rw[lm];have m6:x≠wt:=ak x4 Hj;refine⟨_,U,x,C,M,_,U,by rw[ag m6];exact x4,pc.cl,pc.nw,by show(2:Nat)<1000;decide,?_⟩;obtain⟨H5,d6⟩:∃H5,upd (upd B wt (HO.lst ((ji as.length).map λi:Nat=>V.int i))) x (HO.ins C M (rN "waiting" (V.ref wt) [("group_of",.ref go),("members",.ref ms)]))=H5:=⟨_,rfl⟩;have k5:∀b u,b≠x->B b=Z u->H5 b=Z u:=λb u n h=>by rw[<-d6,ag n,ag (ak h Hj)];exact h
 have x5:H5 x=Z (.ins C M [("group_of",.ref go),("members",.ref ms),("waiting",.ref wt)]):=by rw[<-d6,ae];rfl
 have c7:H5 wt=Z (.lst (((ji as.length).map λi:Nat=>(i:Int)).map V.int)):=by rw[<-d6,ag (Ne.symm m6),ae,JN];rfl
 have z7:=k5 _ _ (Ne.symm (S _ o5)) Ti;have d7:=k5 _ _ (Ne.symm (S _ c6)) PZ;have f5:∀{b},H5 b=Y->B b=Y:=λ{b} h=>by
  rcases Decidable.em (b=x)with z|z
  ·subst z;rw[x5]at h;cases h
  ·cases e:B b with
   | none=>rfl
   | some u=>rw[k5 b u z e]at h;cases h
 rw[d6];obtain⟨ns,l⟩:∃ns:LI,((ji as.length).map λi:Nat=>(i:Int))=ns:=⟨_,rfl⟩;have b8:ns.length=as.length:=by rw[<-l,bg,jt]
 have f7:ns.Nodup:=by rw[<-l];refine Jx.mpr (List.nodup_range.imp λ{a b} n z=>n ?_);have z':(a:Int)=(b:Int):=z;omega
 refine⟨_,U,ms,_,U,.inl (bz d7),_,U,by rw[lm];omega,by rw[lm];omega,?_⟩;refine sk (λD i I H'=>av H5 H'/\∃ts,I=ts.map V.ref/\lF H' ts (dI (ns.take i))) (λD X=>⟨aj X _,[],U,.nil⟩) ?_ ?_
 ·rintro D i I H' Q' X hi N ⟨hs,ts,rfl,pv⟩ k';rw[jN,lm]at hi;have hq:ns[i]?=Z (i:Int):=by rw[<-l,jU,Zh hi];rfl
  refine⟨_,U,#[14],λT hT=>?_⟩;rw[zj];have sT:=aj hT (HO.tup [V.int i,V.bl true]);have nD:D≠T:=ak N hT;have f8:ts.length=i:=by rw[Paired.length pv];unfold dI;rw[bg,jT];omega
  have g7:(upd H' T (HO.tup [V.int i,V.bl true])) D=Z (.lst #[168]):=by rw[ag nD];exact N
  refine k' _ _ g7 #[187] ⟨au (au hs (hs.free hT)) X,ts++[T],by rw[jB];rfl,?_⟩;rw[jO,hq];have up:∀b xs,(upd H' T (HO.tup [V.int i,V.bl true])) b=Z #[39]->(upd (upd H' T (HO.tup [V.int i,V.bl true])) D (.lst (ts.map V.ref++[V.ref T]))) b=Z #[39]:=λb xs e=>by rw[ag (aA e g7 #[0])];exact e
  show lF _ _ (dI (ns.take i++[(i:Int)]));unfold dI;rw[jB];exact Paired.snoc (lF.same pv λb xs e=>up b xs (sT _ _ e)) (up _ _ ae)
 rintro L I H6 fL hL ⟨s6,ts,rfl,pv⟩;rw[jN,lm,<-b8,jR]at pv;refine⟨L,ts,_,U,hL,pv,λiw IX=>?_⟩;rw[LV f7];have i7:x≠iw:=ak (s6 _ _ x5) IX;refine⟨_,U,x,C,M,_,U,by rw[ag i7];exact s6 _ _ x5,pc.cl,pc.ni,by show(3:Nat)<1000;decide,?_⟩;have o6:H5 iw=Y:=s6.free IX;have kz:∀b u,b≠x->H5 b=Z u->(upd (upd H6 iw (HO.dK (dI ns))) x (HO.ins C M (rN "is_waiting" (V.ref iw) [("group_of",.ref go),("members",.ref ms),("waiting",.ref wt)]))) b=Z u:=λb u n h=>by rw[ag n,ag (ak h o6)];exact s6 _ _ h
 have j7:∀(j:Nat) (a:QX),as[j]?=Z a->H5 a=Z (.dK (dI (dA #[159] (j:Int)))):=λj a h=>k5 _ _ (Ne.symm (S _ (fa a (sM h)))) (r j a h);refine k _ go ms wt iw as (λb u n h=>kz _ _ n (k5 _ _ n (k4 _ _ n h))) o5 c6 (f4 Hj) (f4 (f5 o6)) fa ?_;have c8:wt≠x:=Ne.symm m6;refine⟨⟨M,by rw[ae];rfl⟩,kz _ _ (Ne.symm (S _ o5)) z7,kz _ _ (Ne.symm (S _ c6)) d7,by rw[l];rw[l]at c7;exact kz _ _ c8 c7,by rw[l,ag (Ne.symm i7),ae],pl,λq hq=>?_,λj a h=>?_,W,λz=>?_,Ne.symm m7,?_,?_,by rw[l];exact f7,λp hp=>?_⟩
 ·rw[Cf hq.1 hq.2,la];exact aen hq.1 hq.2
 ·have jl:=(iT h).1;refine⟨dA #[159] (j:Int),kz _ _ (Ne.symm (S _ (fa a (sM h)))) (j7 j a h),aar _ _,λz=>?_,λq=>?_⟩
  ·obtain⟨q,hq,e⟩:=aeo (gs:=signs) (j:=j) #[2];have:q∈dA #[159] (j:Int):=rM.mpr ⟨⟨hq.1,by rw[pl];exact hq.2⟩,by have:=Cf hq.1 hq.2;unfold ba at this;rw[this,e]⟩
   rw[z]at this;cases this
  ·rw[rM,pl];rfl
 ·obtain⟨j,hj⟩:=JD.mp z;have:=j7 j iw hj;rw[o6]at this;cases this
 ·exact ak Ti Hj
 ·exact ak PZ Hj
 ·rw[l]at hp;rw[<-l]at hp;obtain⟨i,hi,rfl⟩:=jK.mp hp;have:=JC.mp hi;omega
end
def aez(P:List #[98])(a k:List Key)(v:V):k∈(putK P a v).map Prod.fst↔k∈P.map Prod.fst\/k=a:=by
 unfold putK;by_cases c:(P.any λl=>decide (l.fst=a))=true
 ·rw[if_pos c,JN];have e:P.map (Prod.fst ∘ λl=>if l.fst=a then(l.fst,v)else l)=P.map Prod.fst:=Jr λl _=>by show(if l.fst=a then(l.fst,v)else l).fst=l.fst;split<;>rfl
  rw[e];obtain⟨l,G,M⟩:=JX.mp c;have J:a∈P.map Prod.fst:=jK.mpr ⟨l,G,of_decide_eq_true M⟩;exact⟨.inl,λz=>z.elim id λz=>z▸J⟩
 ·rw[if_neg c,jB,Jb];exact or_congr Iff.rfl jH
theorem HG:∀(kvs P:List #[98]) (k:List Key),k∈(mB P kvs).map Prod.fst↔k∈P.map Prod.fst\/k∈kvs.map Prod.fst
 |[],P,k=>⟨.inl,λz=>z.elim id λz=>by cases z⟩
 | p::kvs,P,k=>by show k∈(mB (putK P p.1 p.2) kvs).map Prod.fst↔_;rw[HG kvs,aez,or_assoc];exact or_congr Iff.rfl (jL (a:=k) (b:=p.1) (l:=kvs.map Prod.fst)).symm
def Z9{x y:LI}(e:x.map (Sum.inl:Int->Key)=y.map Sum.inl):x=y:=by have h:=congrArg (List.map λk:Key=>Sum.elim id (λ_=>(0:Int)) k) e;rw[JN,JN]at h;have f:((λk:Key=>Sum.elim id (λ_=>(0:Int)) k) ∘ (Sum.inl:Int->Key))=id:=rfl;rw[f,Zw,Zw]at h;exact h
theorem LN:∀{bs:List QX} {kvs:List #[98]},X6 H bs kvs->(∀k∈kvs.map Prod.fst,∃c:LI,k=c.map Sum.inl)->∃j4:LL,bj H bs j4/\kvs.map Prod.fst=j4.map λc=>c.map Sum.inl
 |[],[],.nil,_=>⟨[],.nil,rfl⟩
 | _,_,.cons (a:=b) (b:=p) (l₁:=bs) (l₂:=kvs) h t,q=>by obtain⟨j4,G,M⟩:=LN t λk C=>q k (jJ _ C);obtain⟨c,e⟩:=q p.1 jC;refine⟨c::j4,.cons ?_ G,by rw[jy,jy,M,e]⟩;rw[e,JN]at h;exact h
def IQ{bs:List QX}(h:X6 H bs (mB [] (Lo.map λc=>(c.map Sum.inl,V.bl true)))):∃j4:LL,bj H bs j4/\j4.length<=Lo.length/\∀c,c∈j4↔c∈Lo:=by
 have mem:∀k,k∈(mB [] (Lo.map λc=>((c.map Sum.inl:List Key),V.bl true))).map Prod.fst↔∃c∈Lo,k=c.map Sum.inl:=λk=>by
  rw[HG,JN];constructor
  ·rintro(z|z)
   ·cases z
   ·obtain⟨c,G,M⟩:=jK.mp z;exact⟨c,G,M.symm⟩
  ·rintro⟨c,G,M⟩;exact .inr (jK.mpr ⟨c,G,M.symm⟩)
 obtain⟨j4,G,M⟩:=LN h λk C=>let ⟨c,_,e⟩:=(mem k).mp C;⟨c,e⟩;refine⟨j4,G,?_,λc=>?_⟩
 ·have T:=congrArg Jg M;have g:=pY (Lo.map λc=>((c.map Sum.inl:List Key),V.bl true)) [];rw[bg,bg]at T;rw[bg,Jc]at g;omega
 have m:=mem (c.map Sum.inl);rw[M]at m;constructor
 ·intro O;obtain⟨B,J,e⟩:=m.mp (jK.mpr ⟨c,O,rfl⟩);rw[Z9 e];exact J
 ·intro O;obtain⟨B,J,e⟩:=jK.mp (m.mpr ⟨c,O,rfl⟩);rw[<-Z9 e];exact J
def acP(R:bA many d4 rows)(f:Nat)(W:aw many q):oP (rows.map λr=>r.getD f 0) q=stepI rows q f:=by
 have l:q.toNat<rows.length:=by have:=W.1;have:=W.2;rw[R.len];omega
 unfold oP stepI;rw[getD_at (by rw[bg];exact l),Jq,jN,getD_at l]
theorem afV(R:bA many d4 rows)(h:∀c,c∈j4↔c∈BW rows d4):CG many d4 rows j4 where
 of:=λc O=>by obtain⟨f,l,rfl⟩:=jK.mp ((h c).mp O);exact⟨f,JC.mp l,λq W=>acP R f W⟩
 all:=λf l=>⟨_,(h _).mpr (jK.mpr ⟨f,JC.mpr l,rfl⟩),λq W=>acP R f W⟩
def Y1(R:bA many d4 rows){c:LI}(h:c∈BW rows d4):c.length=many/\∀t∈c,0<=t/\t<(many:Int):=by obtain⟨f,l,rfl⟩:=jK.mp h;have G:=JC.mp l;refine⟨by rw[bg,R.len],λt d=>?_⟩;obtain⟨r,S,rfl⟩:=jK.mp d;have z:=R.row r S;rw[getD_at #[2]];exact R.val r S _ (jV _)
def Rz(l:col.length=many){x:Int}:x∈dA col q↔aw many x/\oP col x=q:=by rw[rM,l];rfl
theorem MP(col:LI):∀{ms:LI},ms.Nodup->(ms.flatMap (dA col)).Nodup
 |[],_=>Je
 | m::ms,h=>by have n:=jn.mp h;rw[Zt];refine JH.mpr ⟨aar col m,MP col n.2,λa l b B e=>?_⟩;obtain⟨c,G,M⟩:=QC.mp B;have T:=(rM.mp l).2;have g:=(rM.mp M).2;rw[<-e,T]at g;exact n.1 (g▸G)
def PK{ms:LI}(l:col.length=many){x:Int}:x∈ms.flatMap (dA col)↔aw many x/\oP col x∈ms:=by
 rw[QC];constructor
 ·rintro⟨m,G,M⟩;have J:=(Rz l).mp M;exact⟨J.1,J.2▸G⟩
 ·rintro⟨G,M⟩;exact⟨_,M,(Rz l).mpr ⟨G,U⟩⟩
def AS.mono{j4:List (Int->Int)}{R:Int->Int->Prop}{W o S:Int->Prop}{k:Nat}(h:AS many j4 sg R d5 W S k)(w:∀g,W g->o g):AS many j4 sg R d5 o S k:=
 ⟨h.coarse,h.signs,h.whole,λx y J N e j c f=>by
  rcases h.cong x y J N e j c f with z|z|z|z
  ·exact .inl z
  ·exact .inr (.inl (w _ z))
  ·exact .inr (.inr (.inl (w _ z)))
  ·exact .inr (.inr (.inr z))⟩
theorem mK.symm{x:Int}(h:mK rows d4 signs x y):mK rows d4 signs y x:=λn v G M=>(h n v G M).symm
def Ek.pop{x l:QX}{I:LI}{s:Int}(h:Ek H C x go ms wt iw many gs ds (I++[s]))(L:H l=Y):
  Ek (upd (upd (upd H wt (.lst (I.map V.int))) iw (.dK (dI ((I++[s]).filter λk=>decide (k≠s))))) l (.lst (mem.map V.int))) C x go ms wt iw many gs ds I:=by
 have O:=JH.mp h.wn;have o:(I++[s]).filter (λk=>decide (k≠s))=I:=by rw[JY,JG #[8],QI,jZ];exact Zg.mpr λk n=>decide_eq_true λz=>O.2.2 k n s jC z
 rw[o];have y:∀c u,H c=Z u->c≠l:=λc u e=>ak e L;have a:∀c u,c≠wt->c≠iw->H c=Z u->(upd (upd (upd H wt (.lst (I.map V.int))) iw (.dK (dI I))) l (.lst (mem.map V.int))) c=Z u:=λc u p R e=>by rw[ag (y c u e),ag R,ag p];exact e
 obtain⟨X,J⟩:=h.pt.ob;have b:wt≠iw:=aA h.wt_ h.iw_ #[0];refine⟨⟨X,a _ _ (aA J h.wt_ #[0]) (aA J h.iw_ #[0]) J⟩,a _ _ h.n2 (aA h.go_ h.iw_ #[0]) h.go_,a _ _ h.n3 (aA h.ms_ h.iw_ #[0]) h.ms_,by rw[ag (y _ _ h.wt_),ag b,ae],by rw[ag (y _ _ h.iw_),ae],h.lg,h.val,λi d W=>?_,h.dn,h.ndi,h.n1,h.n2,h.n3,O.1,λg q=>h.wv g (JB _ q)⟩;obtain⟨m,G,M,f,j⟩:=h.mem i d W;exact⟨m,a _ _ (aA G h.wt_ #[0]) (λz=>h.ndi (z▸sM W)) G,M,f,j⟩
def Ek.alone{x:QX}{ws:LI}(h:Ek H C x go ms wt iw many gs ds ws)(e:ds.length=many):∀a b,aw many a->aw many b->ba gs a=ba gs b->a=b:=λa b l B f=>Classical.byContradiction λo=>by
 have J:a.toNat<gs.length:=by have:=l.1;have:=l.2;rw[h.lg];omega
 have G:b.toNat<gs.length:=by have:=B.1;have:=B.2;rw[h.lg];omega
 have k:a.toNat≠b.toNat:=by have:=l.1;have:=B.1;omega
 unfold ba at f;rw[getD_at J,getD_at G]at f;have t:=lI (xs:=(ji ds.length).map λi:Nat=>(i:Int)) (ys:=gs.eraseIdx b.toNat) (Jx.mpr (List.nodup_range.imp λ{a b} n z=>n (by
  have Q:(a:Int)=(b:Int):=z;omega))) (λg m=>by
  obtain⟨i,W,rfl⟩:=jK.mp m;have M:=JC.mp W;obtain⟨mem,_,_,A,d⟩:=h.mem i _ (jE M);obtain⟨q,r,rfl⟩:=ZA A;obtain⟨⟨p,O⟩,eq⟩:=(d q).mp jC;have j:q.toNat<gs.length:=by rw[h.lg];omega
  unfold ba at eq;rw[getD_at j]at eq;rw[List.mem_eraseIdx_iff_getElem];by_cases c:q.toNat=b.toNat
  ·exists a.toNat,J,k;rw[f,<-eq];congr 1;exact c.symm
  ·exact⟨q.toNat,j,c,eq⟩)
 rw[bg,jt,zF G,h.lg,e]at t;have:=B.1;have:=B.2;omega
inductive aiw (K:YW) (vs:List V) (H:Hp) (Q:VK) (E:XK):Prop
 | mk (m r g:QX) (many d4:Nat) (rows:LL) (signs:LI) (_:vs=[.ref m]) (_:bQ H m r g d4 rows signs) (_:bA many d4 rows) (_:signs.length=many) (_:many<1000) (_:d4<=1000) (_:∀(go:QX) (gs:LI) (H':Hp),av H H'->H go=Y->H' go=Z (.lst (gs.map V.int))->gs.length=many->(∀x y,aw many x->aw many y->(ba gs x=ba gs y↔mK rows d4 signs x y))->Q (.ref go) H')
def afB(H:Hp):List QX->LL->Prop:=Qs λB col=>∃H0 es,cN H0 H B es #[142]
section
def bJ:ax ["machine","distinct","backs","parted","splitter","back","leading","here"] ["machine"] (ao di):=cb #[1]
def lZ:aO ["machine","distinct","backs","parted","splitter","back","leading","here"] (ao di) ["column"] [Y] ⟨.function,[#[48],("column",.local)],false,false,[]⟩:=oh #[1]
def ma:aO ["machine","distinct","backs","parted","splitter","back","leading","here"] (ao di) ["column"] [Y] ⟨.function,[#[48],("column",.local),("back_of",.globalImplicit)],false,false,[]⟩:=oh #[1]
def aki(F:aY K "unparted_groups" "unparted_groups" di dV f fd)(pc:OY K C)(rZ:bc P w K mg base "columns_of" 1 ["machine"] [] (aeP K))(CJ:bc P w K mg base "back_of" 1 ["column"] [] (aax K))(CI:K6 P w K mg base "Parted" C 1 ["self","signs"] (RQ C))(AL:cT P w K mg base C "is_done" 1 ["self"] (RM K C))(iZ:cT P w K mg base C "next_splitter" 1 ["self"] (aaF C))(AM:cT P w K mg base C "part_by" 3 ["self","leading"] (RP C))(hV:mg "list" = Y)(hU:mg "dict" = Y):aR P w K mg base dy 4 f fd ["machine"] (aiw K):=by
 refine F.ok bJ #[22] (λbP A f8 s H vs Q E hr h=>?_)
 ·obtain⟨m,r,g,many,d4,rows,signs,rfl,_⟩:=h;rfl
 obtain⟨m,r,g,many,d4,rows,signs,rfl,M,R,ls,n1,w1,k⟩:=h;have hu:=mh hr;have Z7:=Tp hr;refine⟨_,(ah (az (i:=1) bJ.nd (aM (SM rfl) #[43] hV BS (aa (aM ((MJ rfl Z7)) #[43] hU BR (aa (dB rfl lZ (cu (aU rZ hr #[38])) (λ_ _ _ _=>(aQ (i:=0) lZ.nd)) (λ_ _ _ _=>(ck (aa (pv 0) (aa mR af))))) af)) af)))
   (ah (fX (i:=2) rfl bJ.nd rfl #[135] ma (cu (pv 1)) (λ_ _ _ _=>(aQ (i:=0) ma.nd)) (λ_ _ _ _=>(aU CJ hr #[38])))
   (ah (az (i:=3) bJ.nd (Od CI hr (aa #[12] af)))
   (ah (oV PassesOwn.never (PW.pt (Oi ((wO (bC (pv 3) rfl) (λ_=>rfl))) (E1 (Dx (Bl (HQ AL hr (pv 3))))))) (ah (az (i:=4) bJ.nd (HQ iZ hr (pv 3)))
   (aq (bL PassesOwn.never rfl (cu (pv 2)) (aQ (i:=5) bJ.nd) (ah (az (i:=6) bJ.nd (bI af))
   (ah (bL PassesOwn.never rfl (cu (pv 4)) (aQ (i:=7) bJ.nd) (aq (aS (dN YY yM yN HI (pv 6) (aa (aeh hu (pv 5) (pv 7) (ck af) ⟨rfl,rfl,rfl,rfl⟩) af)))))
   (aq (aS (pN AM hr (pv 3) (aa (pv 6) af))))))))))
   (aq (aH (bC (pv 3) rfl))))))),?_⟩
 exists 0;exists 22;refine bM (t:=oy _ _) (λO H'=>∃(dl:QX) (bs:List QX) (j4:LL),O=[Z #[147],Z (.ref dl),Y,Y,Y,Y,Y,Y]/\av H H'/\H' dl=Z (.lst (bs.map V.ref))/\bj H' bs j4/\j4.length<=d4/\∀c,c∈j4↔c∈BW rows d4) ?_ #[46];exists 27
 ·refine⟨_,U,m,r,g,many,d4,rows,signs,U,M,R,⟨by omega,w1⟩,λl cs H1 s1 g7 A1=>?_⟩;exists l,rfl,⟨_,bz g7⟩;have lc:(BW rows d4).length=d4:=by unfold BW;rw[bg,jt]
  refine dZ (K:=K) (xs:=cs.map V.ref) (λD i ys H'=>av H1 H'/\∃ts,ys=ts.map V.ref/\So H' ts (((BW rows d4).take i).map λc=>(c.map Sum.inl,V.bl true))) (λD hD=>⟨aj hD _,[],U,.nil⟩) (λD i ys H' _ ⟨e,_⟩=>bz (e _ _ g7)) ?_ ?_
  ·rintro D i y ys H2 Q' hD hi hy ⟨s2,ts,rfl,pv⟩ k';have jl:i<(BW rows d4).length:=by have:=(iT hi).1;rw[bg,A1.length]at this;exact this
   obtain⟨ca,e1,e2⟩:=A1.get jl;have ey:y=.ref ca:=by rw[jU,e1]at hi;exact(Option.some.inj hi).symm
   subst ey;refine⟨_,U,#[14],λT hT=>?_⟩;have sT:=aj hT (HO.tup [V.ref ca,V.bl true]);have nD:D≠T:=ak hy hT;have lts:ts.length=i:=by rw[Paired.length pv,bg,jT];omega
   have i7:(upd H2 T (HO.tup [V.ref ca,V.bl true])) D=Z (.lst #[168]):=by rw[ag nD];exact hy
   refine k' _ _ i7 #[187] ⟨au (au s2 (s2.free hT)) hD,ts++[T],by rw[jB];rfl,?_⟩;have up:∀b xs,(upd H2 T (HO.tup [V.ref ca,V.bl true])) b=Z #[39]->(upd (upd H2 T (HO.tup [V.ref ca,V.bl true])) D (.lst (ts.map V.ref++[V.ref T]))) b=Z #[39]:=λb xs e=>by rw[ag (aA e i7 #[0])];exact e
   rw[jO,jE jl,jB];refine Paired.snoc (Paired.rH pv λt p h=>?_) ⟨ca,up _ _ ae,?_⟩
   ·obtain⟨b,h1,h2⟩:=h;exact⟨b,up _ _ (sT _ _ h1),up _ _ (sT _ _ h2)⟩
   ·rw[JN];exact up _ _ (sT _ _ (s2 _ _ e2))
  ·rintro D ys H2 hD hy ⟨s2,ts,rfl,pv⟩;rw[bg,A1.length,jR]at pv;refine⟨D,ts,_,U,hy,pv,λdd g8=>?_⟩;have s3:=aj g8 (HO.dT (mB [] ((BW rows d4).map λc=>(c.map Sum.inl,V.bl true))));refine⟨dd,_,U,ae,λdl bs i8 kt=>?_⟩;obtain⟨j4,c1,c3,c2⟩:=IQ kt;rw[lc]at c3;have s4:=aj i8 (HO.lst (bs.map V.ref));exact cE _ _ ⟨dl,bs,j4,U,(#[152].trans s3).trans s4,ae,c1.same λb xs e=>s4 _ _ e,c3,c2⟩
 rintro O H1 ⟨dl,bs,j4,rfl,s1,j7,A1,lcw,hc⟩;have CO:=afV R hc;refine bM (t:=oy _ _) (λO H'=>∃(bl:QX) (S:List QX),O=[Z #[147],Z (.ref dl),Z (.ref bl),Y,Y,Y,Y,Y]/\av H H'/\H' bl=Z (.lst (S.map V.ref))/\afB H' S j4) ?_ #[46];exists 27
 ·exists _,rfl,dl,rfl,⟨_,bz j7⟩;refine dZ (K:=K) (xs:=bs.map V.ref) (λD i ys H'=>av H1 H'/\∃S,ys=S.map V.ref/\Qs (λB col=>∃H0 es,(∃u,H0 D=Z u)/\cN H0 H' B es #[142]) S (j4.take i)) (λD hD=>⟨aj hD _,[],U,.nil⟩) (λD i ys H' _ ⟨e,_⟩=>bz (e _ _ j7)) ?_ ?_
  ·rintro D i y ys H2 Q' hD hi hy ⟨s2,S,rfl,pv⟩ k';have jl:i<j4.length:=by have:=(iT hi).1;rw[bg,A1.length]at this;exact this
   obtain⟨ca,e1,e2⟩:=A1.get jl;have ey:y=.ref ca:=by rw[jU,e1]at hi;exact(Option.some.inj hi).symm
   subst ey;have ci:=Y1 R ((hc _).mp (jV jl));have lB:S.length=i:=by rw[Paired.length pv,jT];omega
   refine⟨_,U,ca,many,j4[i],U,s2 _ _ e2,by omega,by omega,ci.2,λB es H3 s3 fB bo=>?_⟩;have k7:=s3 _ _ hy;refine k' _ _ k7 #[187] ⟨au (s2.trans s3) hD,S++[B],by rw[jB];rfl,?_⟩;have keep:∀(H0:Hp) (B':QX) (DW:List #[190]) (col:LI),(∃u,H0 D=Z u)->cN H0 H3 B' DW #[142]->cN H0 (upd H3 D (.lst (S.map V.ref++[V.ref B]))) B' DW #[142]:=λH0 B' DW col hu y6=>y6.keep (ag (aA y6.at_ k7 #[0])) λe he=>ag λz=>by obtain⟨u,hu⟩:=hu;have:=y6.fresh e he;rw[z,hu]at this;cases this
   rw[jO,jE jl];exact Paired.snoc (Paired.rH pv λB' col h=>let ⟨H0,DW,hu,b⟩:=h;⟨H0,DW,hu,keep H0 B' DW col hu (b.same s3)⟩) ⟨H2,es,⟨_,hy⟩,keep H2 B es j4[i] ⟨_,hy⟩ bo⟩
  ·rintro D ys H2 hD hy ⟨s2,S,rfl,pv⟩;rw[bg,A1.length,jR]at pv;exact cE _ _ ⟨D,S,U,s1.trans s2,hy,Paired.rH pv λB col h=>let ⟨H0,es,_,b⟩:=h;⟨H0,es,b⟩⟩
 rintro O J ⟨bl,S,rfl,sb,l7,BA⟩;have j8:S.length=j4.length:=Paired.length BA;refine⟨_,U,m,_,_,_,U,U,bN (sb _ _ M.tup),U,λx dx hx k8 ne=>?_⟩;have up:∀b u,J b=Z u->(upd (upd J dx (HO.own x)) x (HO.ins C dx [])) b=Z u:=λb u h=>by rw[ag (ak h hx),ag (ak h k8)];exact h
 refine⟨x,dx,g,signs,U,ae,up _ _ (sb _ _ M.sgn),by omega,λH1 go ms wt iw m7 kk f1 f2 f3 f4 f5 S1=>⟨U,?_⟩⟩;have m8:av J H1:=λb u h=>kk b u (ak h hx) (up b u h);have fr:∀{b},(upd (upd J dx (HO.own x)) x (HO.ins C dx [])) b=Y->J b=Y:=λ{b} h=>by
  cases e:J b with
  | none=>rfl
  | some u=>rw[up b u e]at h;cases h
 rw[ls]at S1;obtain⟨RR,g6⟩:∃RR:Int->Int->Prop,(λx y=>aw many x/\aw many y/\mK rows d4 signs x y)=RR:=⟨_,rfl⟩;have lk:=CO.an3 (signs:=signs) R;rw[g6]at lk;have room:=CO.room R;have o8:∀x y,RR x y->RR y x:=λx y h=>by rw[<-g6]at h ⊢;exact⟨h.2.1,h.1,h.2.2.symm⟩
 have fg:=fr f1;have u8:=fr f2;have fw:=fr f3;have fi:=fr f4;have y8:X5 many #[189] #[173] RR (ba #[159]) (λg=>g∈(ji m7.length).map λi:Nat=>(i:Int)):=by
  refine X5.start lk (λa b j hb=>?_) (λa j=>?_) room
  ·have la:aw signs.length a:=by rw[ls];exact j
   have lb:aw signs.length b:=by rw[ls];exact hb
   rw[Cf la.1 la.2,Cf lb.1 lb.2];exact U3 la lb
  ·have v:=S1.val a j;exact jK.mpr ⟨(ba #[159] a).toNat,JC.mpr #[2],jz v.1⟩
 exists 22;refine bM (t:=sZ _ _) (λO H'=>∃(gs ws:LI) (ds:List QX) (v4 X W N:OV),O=[Z #[147],Z (.ref dl),Z (.ref bl),Z #[105],v4,X,W,N]/\av J H'/\Ek H' C x go ms wt iw many gs ds ws/\∀a b,aw many a->aw many b->(ba gs a=ba gs b↔mK rows d4 signs a b)) ?_ #[46];exists 27
 ·refine tq (λmm O H'=>∃(gs ws:LI) (ds:List QX) (v4 X W N:OV),mm=2*many+ws.length-2*ds.length/\O=[Z #[147],Z (.ref dl),Z (.ref bl),Z #[105],v4,X,W,N]/\av J H'/\Ek H' C x go ms wt iw many gs ds ws/\(∀d∈ds,J d=Y)/\X5 many #[189] #[173] RR (ba gs) (λg=>g∈ws))
   ⟨_,fh signs,_,m7,Y,Y,Y,Y,rfl,rfl,m8,S1,λd hd=>fr (f5 d hd),y8⟩ ?_
  rintro mm O H2 ⟨gs,ws,ds,v4,X,W,N,z8,rfl,s2,o,a9,j5⟩;obtain⟨o5,c6⟩:=o.pt.ob;have awP:=o.A2;rw[<-g6]at j5;by_cases en:ws=[]
  ·subst en;refine⟨_,U,x,C,o5,_,_,U,c6,pc.cl,pc.nw,U,_,.inl ⟨_,bz o.wt_,U⟩,tV (tV ?_)⟩;exact cE _ _ ⟨gs,[],ds,v4,X,W,N,U,s2,o,λa b j hb=>Z2 CO R j5 (j5.akZ (λ_ _ z=>by cases z) room) j hb⟩
  exists _,rfl,x,C,o5,_,_,rfl,c6,pc.cl,pc.nw,rfl,_,.inl ⟨_,bz o.wt_,rfl⟩;have b9:(!(ws.map V.int).isEmpty)=true:=by
   cases ws with
   | nil=>exact absurd rfl en
   | cons a r=>rfl
  rw[b9];refine Dj ⟨_,U,x,o5,_,U,c6,U,x,go,ms,wt,iw,gs,ds,U,o.pt,o.go_,o.ms_,_,U,adw #[84] #[84]⟩
  ·refine⟨λO H'=>∃m',m'<mm/\∃(gs ws:LI) (ds:List QX) (v4 X W N:OV),m'=2*many+ws.length-2*ds.length/\O=[Z #[147],Z (.ref dl),Z (.ref bl),Z #[105],v4,X,W,N]/\av J H'/\Ek H' C x go ms wt iw many gs ds ws/\(∀d∈ds,J d=Y)/\X5 many #[189] #[173] RR (ba gs) (λg=>g∈ws),λ_ _ h=>h,?_⟩;rw[g6]at j5;obtain⟨OI,s,c9⟩:∃OI s,ws=OI++[s]:=⟨ws.dropLast,ws.getLast en,(zB en).symm⟩;subst c9;have sv:=o.wv s (jh _ jC);have d9:s.toNat<ds.length:=by omega
   obtain⟨da,tU⟩:∃da,ds[s.toNat]?=Z da:=⟨_,jE d9⟩;obtain⟨mem,IB,z6,nem,hm⟩:=o.mem s.toNat da tU;rw[jz sv.1]at hm;have aqR:mem.length<=many:=cQ many z6 λq hq=>((hm q).mp hq).1;refine⟨_,U,x,o5,_,U,c6,U,x,go,ms,wt,iw,da,s,OI,OI++[s],mem,ds,U,o.pt,o.wt_,o.iw_,jh _ jC,o.ms_,sv.1,tU,o.n3,IB,(λz=>o.ndi (z▸sM tU)),by omega,λsl G=>?_⟩;have S3:=o.pop (mem:=mem) G;obtain⟨H3,Sa⟩:∃H3,upd (upd (upd H2 wt (HO.lst (OI.map V.int))) iw (HO.dK (dI ((OI++[s]).filter λk=>decide (k≠s))))) sl (HO.lst (mem.map V.int))=H3:=⟨_,rfl⟩;have o7:∀c u,J c=Z u->c≠go/\c≠ms/\c≠wt/\c≠iw:=λc u e=>⟨λz=>(by rw[z,fg]at e;cases e),λz=>(by rw[z,u8]at e;cases e),λz=>(by rw[z,fw]at e;cases e),λz=>(by rw[z,fi]at e;cases e)⟩;have s3:av J H3:=λc u e=>by have n:=o7 c u e;rw[<-Sa,ag (ak (s2 _ _ e) G),ag n.2.2.2,ag n.2.2.1];exact s2 _ _ e
   have f9:H3 sl=Z (.lst (mem.map V.int)):=by rw[<-Sa,ae]
   rw[Sa]at S3 ⊢;have q1:sl≠go:=λz=>by rw[z,o.go_]at G;cases G
   have q2:sl≠ms:=λz=>by rw[z,o.ms_]at G;cases G
   have q3:sl≠wt:=λz=>by rw[z,o.wt_]at G;cases G
   have g9:AS many #[189] #[173] RR (ba gs) (λg=>g∈OI) (λq=>ba gs q=s) 0:=(j5.pop room s).mono λg h=>by
    rcases sJ.mp h.1 with z|z
    ·exact z
    ·exact absurd (jH.mp z) h.2
   exists _,rfl,bl,rfl,⟨_,bz (s3 _ _ l7)⟩;refine dH (K:=K) (xs:=S.map V.ref) (λk O H'=>∃(Am CC:LI) (I:List QX) (X W N:OV),O=[Z #[147],Z (.ref dl),Z (.ref bl),Z #[105],Z (.ref sl),X,W,N]/\av J H'/\Ek H' C x go ms wt iw many Am I CC/\(∀d∈I,J d=Y)/\H' sl=Z (.lst (mem.map V.int))/\AS many #[189] #[173] RR (ba Am) (λg=>g∈CC) (λq=>ba gs q=s) k/\(CC.length:Int)-2*(I.length:Int)<=(OI.length:Int)-2*(ds.length:Int))
    ⟨gs,OI,ds,_,_,_,rfl,s3,S3,a9,f9,g9,zG _⟩ (λi O H' _ ⟨_,_,_,_,_,_,_,e,_,_,_,_,_⟩=>bz (e _ _ l7)) ?_ ?_
   ·rintro k y O H4 hk ⟨Am,CC,I,X,W,N,rfl,s4,S4,i6,l6,d6,u7⟩;have kl:k<j4.length:=by have:=(iT hk).1;rw[bg]at this;omega
    obtain⟨B,hB,H0,es,bo⟩:=mj BA (jE kl);have ey:y=.ref B:=by rw[jU,hB]at hk;exact(Option.some.inj hk).symm
    subst ey;obtain⟨col,c7⟩:∃col,j4[k]=col:=⟨_,rfl⟩;rw[c7]at bo;have i9:col∈j4:=c7▸jV kl;have ci:=Y1 R ((hc _).mp i9);have y7:#[189][k]?=Z (oP col):=by rw[jU,jE kl,c7];rfl
    have m6:=sM y7;have lm:∀{x:Int},x∈mem.flatMap (dA col)↔aw many x/\oP col x∈mem:=λ{x}=>PK ci.1;obtain⟨j9,k9⟩:=S4.pt.ob;refine⟨#[13],λLa Y8=>?_⟩;have z7:=aj Y8 #[85];exists 22;refine bM (t:=rl _ _ _) (λO H'=>∃N:OV,O=[Z #[147],Z (.ref dl),Z (.ref bl),Z #[105],Z (.ref sl),Z (.ref B),Z (.ref La),N]/\av H4 H'/\H' La=Z (.lst ((mem.flatMap (dA col)).map V.int))) ?_ (λD'' l9=>?_);exists 27
    ·exists _,rfl,sl,rfl,⟨_,bz (z7 _ _ l6)⟩;refine dH (K:=K) (xs:=mem.map V.int) (λi O H'=>∃N:OV,O=[Z #[147],Z (.ref dl),Z (.ref bl),Z #[105],Z (.ref sl),Z (.ref B),Z (.ref La),N]/\av H4 H'/\H' La=Z (.lst (((mem.take i).flatMap (dA col)).map V.int))) ⟨_,U,z7,ae⟩ (λi O H' _ ⟨_,_,e,_⟩=>bz (e _ _ l6)) ?_ ?_
     ·rintro i y O H5 hi ⟨N,rfl,s5,MR⟩;obtain⟨q,rfl,hq⟩:=cj hi;have b5:=bo.same (s4.trans s5);refine⟨_,U,.inl ⟨U,_,bz MR⟩,_,U,B,U,.inl ⟨_,.inl b5.at_⟩,_,U,#[13],λt0 m9=>?_⟩;have o6:=aj m9 (HO.tup []);have b6:=b5.same o6;exists _,mS.k (k:=Sum.inl q) b6.at_;have b8:=o6 _ _ MR;have et:(mem.take (i+1)).flatMap (dA col)=(mem.take i).flatMap (dA col)++dA col q:=by rw[jO,hq,zq];show _++[q].flatMap (dA col)=_;rw[Zt,List.flatMap_nil,jZ]
      have len:(((mem.take i).flatMap (dA col)).map V.int).length+((dA col q).map V.int).length<=sizeLine:=by have nd:=MP col (ms:=mem.take (i+1)) ((ZD _ _).nodup z6);have n9:=cQ many nd λz hz=>((PK ci.1).mp hz).1;rw[et,jG]at n9;rw[bg,bg];exact small #[2]
      cases hv:cI (Dm es) (Sum.inl q)with
      | none=>
       have MV:q∉es.map Prod.fst:=λz=>by obtain⟨e,he,ee⟩:=jK.mp z;obtain⟨jj,q9⟩:=JD.mp he;have:=Hv b6.nd (q:=e.1) (a:=e.2) q9;rw[ee,hv]at this;cases this
       have e0:=b6.non _ MV;rw[<-e0]at et;rw[<-e0]at len;refine .inr ⟨La,t0,_,[],U,U,b8,ae,len,?_⟩;exact⟨_,U,au (s5.trans o6) Y8,by rw[ae,et,jB];rfl⟩
      | some v=>
       obtain⟨la,ls',rfl,hm',Tn,hp⟩:=b6.get hv;rw[<-hp]at et;rw[<-hp]at len;refine .inl ⟨La,la,_,_,U,U,b8,Tn,len,?_⟩;exact⟨_,U,au (s5.trans o6) Y8,by rw[ae,et,jB]⟩
     ·rintro O H5 ⟨N,rfl,s5,MR⟩;rw[bg,jR]at MR;exact l9 _ _ ⟨N,U,s5,MR⟩
    rintro O H5 ⟨N,rfl,s5,MR⟩;have S5:=S4.same s5;have r9:∀q,aw many q->(q∈mem↔ba gs q=s):=λq hq=>⟨λz=>((hm q).mp z).2,λz=>(hm q).mpr ⟨hq,z⟩⟩;have u6:∀a,aw many a->(a∈mem.flatMap (dA col)↔ba gs (oP col a)=s):=λa j=>by rw[lm,r9 _ (room a j _ m6)];exact⟨λz=>z.2,λz=>⟨j,z⟩⟩
    refine⟨_,U,x,j9,_,U,s5 _ _ k9,U,_,U,x,go,ms,wt,iw,La,many,Am,CC,mem.flatMap (dA col),I,λc8 n1 d7=>AS many #[189] #[173] RR (ba c8) (λg=>g∈d7) (λq=>ba gs q=s) k/\(d7.length:Int)-2*(n1:Int)<=(OI.length:Int)-2*(ds.length:Int),U,S5,n1,MR,⟨λz=>(by rw[z,S4.go_]at Y8;cases Y8),λz=>(by rw[z,S4.ms_]at Y8;cases Y8),λz=>(by rw[z,S4.wt_]at Y8;cases Y8)⟩,MP col z6,λq hq=>(lm.mp hq).1,⟨d6,u7⟩,?_,?_⟩
    ·rintro c8 n1 d7 gs2 ws2 ⟨h1,h2⟩ val ⟨b,nw,rfl,e1,e2,e3,e4⟩;refine⟨h1.split o8 room (L:=λa=>a∈mem.flatMap (dA col)) (b:=b) (n:=(n1:Int)) (λa c j CF r hl=>?_) (λa j z=>?_) (λg hg=>JB _ hg) (λhb=>?_) ?_ e3 e4,?_⟩
     ·rw[u6 a j]at hl;rw[u6 c CF];exact h1.whole _ _ (room a j _ m6) (room c CF _ m6) (lk.led a c r _ m6) hl
     ·have:=val a j;omega
     ·rw[<-e2 hb];exact jh _ jC
     ·rcases e1 with e1|e1
      ·exact .inl (by rw[<-e1];exact jh _ jC)
      ·exact .inr (by rw[<-e1];exact jh _ jC)
     ·rw[jG,ja];omega
    ·intro H6 u9 y9 more S6 j6 nc fm kp;have s6:av J H6:=λc u e=>by have n:=o7 c u e;exact kp c u n.1 n.2.1 n.2.2.1 n.2.2.2 (λz=>by rw[i6 c z]at e;cases e) (s5 _ _ (s4 _ _ e))
     have f7:=s5 _ _ l6;refine⟨u9,y9,I++more,_,_,_,U,s6,S6,λd hd=>?_,kp sl _ q1 q2 q3 (aA f7 S5.iw_ #[0]) (λz=>?_) f7,j6.1.next y7 λa c j CF e h=>?_,j6.2⟩
     ·rcases sJ.mp hd with z|z
      ·exact i6 d z
      ·have:=fm d z;cases e:J d with
       | none=>rfl
       | some u=>rw[s5 _ _ (s4 _ _ e)]at this;cases this
     ·obtain⟨mm',d8⟩:=S5.at_ z;rw[f7]at d8;cases d8
     ·exact(u6 c CF).mp (nc a c j CF e ((u6 a j).mpr h))
   ·rintro O H4 ⟨Am,CC,I,X,W,N,rfl,s4,S4,i6,l6,d6,u7⟩;have awQ:=S4.A2;rw[bg,j8]at d6;have lcm:j4.length=#[189].length:=(jQ _).symm;rw[lcm]at d6;refine⟨_,?_,Am,CC,I,_,_,_,_,U,U,s4,S4,i6,d6.done⟩;rw[z8,jG,ja];omega
  ·refine cE _ _ ⟨gs,ws,ds,v4,X,W,N,U,s2,o,λa b j hb=>Z2 CO R j5 (X5.single (o.alone (by rw[c,o.lg]))) j hb⟩
 rintro O H2 ⟨gs,ws,ds,v4,X,W,N,rfl,s2,o,z9⟩;obtain⟨o5,c6⟩:=o.pt.ob;exact⟨_,U,x,C,o5,_,_,U,c6,pc.cl,pc.ng,U,k go gs H2 (sb.trans s2) (sb.free fg) o.go_ o.lg z9⟩
end
theorem Dy:∀(r s:LI),∃zs,r.foldl oW s=s++zs
 |[],s=>⟨[],by simp⟩
 | t::r,s=>by
  by_cases c:t∈s
  ·obtain⟨zs,e⟩:=Dy r s;exact⟨zs,by rw[JQ,show oW s t=s from if_pos c,e]⟩
  ·obtain⟨zs,e⟩:=Dy r (s++[t]);exact⟨t::zs,by rw[JQ,show oW s t=s++[t]from if_neg c,e,jv];rfl⟩
theorem PM(rows:LL):∀(qs s:LI),∃zs,qs.foldl (pI rows) s=s++zs
 |[],s=>⟨[],by simp⟩
 | q::qs,s=>by obtain⟨i,T⟩:=Dy (rows.getD q.toNat []) s;obtain⟨y,g⟩:=PM rows qs (pI rows s q);exact⟨i++y,by rw[JQ,g,pI,T,jv]⟩
def Sf(qs:LI)(q:Int):Int:=((qs.idxOf q:Nat):Int)
section
variable{q2:LI}
def OL.in_(B:OL many d4 rows qs){t:Int}(W:q∈qs)(d:t∈rows.getD q.toNat []):t∈qs:=by rw[B.eq];exact Ak rows qs W d
def aeY(R:bA many d4 rows){f:Int}(h:0<=q/\q<(many:Int))(f0:0<=f)(L:f<(d4:Int)):stepI rows q f∈rows.getD q.toNat []:=by
 have j:q.toNat<rows.length:=by rw[R.len];omega
 have i:f.toNat<rows[q.toNat].length:=by rw[R.row _ (jV j)];omega
 unfold stepI;rw[getD_at j,getD_at i];exact jV i
def OL.cut(B:OL many d4 rows qs)(k:Nat):∃zs,qs=(qs.take k).foldl (pI rows) [0]++zs:=by obtain⟨zs,e⟩:=PM rows (qs.drop k) ((qs.take k).foldl (pI rows) [0]);rw[<-ju,ZV,<-B.eq]at e;exact⟨zs,e⟩
def OL.far(R:bA many d4 rows)(B:OL many d4 rows qs){k:Nat}(C:k<qs.length):k<((qs.take k).foldl (pI rows) [0]).length:=by
 obtain⟨zs,e⟩:=B.cut k;obtain⟨s,hs⟩:∃s,(qs.take k).foldl (pI rows) [0]=s:=⟨_,rfl⟩;rw[hs]at e ⊢;refine Nat.lt_of_not_le λz=>?_;have r:s=qs.take s.length:=by have h:(s++zs).take s.length=s:=List.take_left' rfl;rw[<-e]at h;exact h.symm
 have sub:∀q∈s,q∈qs.take k:=λq W=>(List.take_prefix_take_left z).subset (r▸W);have j:qs[k]∈s:=by refine Reach.of (S:=λq=>q∈s) (by rw[<-hs];exact Al rows _ jC) (λq W f f0 L=>?_) ((B.re _).mp (jV C));rw[<-hs];exact Ak rows _ (sub q W) (aeY R (B.inr q (ZZ (sub q W))) f0 L)
 obtain⟨i,a,v⟩:=jo (sub _ j);rw[jT]at a;rw[zT]at v;have:=(JJ B.nd).mp v;omega
theorem OL.pre(R:bA many d4 rows)(B:OL many d4 rows qs)(c:OL many d4 rows q2):∀{k:Nat},k<=qs.length->qs.take k=q2.take k
 | 0,_=>rfl
 | k+1,h=>by have K:=OL.pre R B c (k:=k) #[2];have l:=B.far R h;obtain⟨i,T⟩:=B.cut k;obtain⟨y,g⟩:=c.cut k;rw[<-K]at g;rw[jO,jO,K];congr 2;rw[T,g,jq l,jq l]
def OL.one(R:bA many d4 rows)(B:OL many d4 rows qs)(c:OL many d4 rows q2):qs=q2:=by have G:=B.pre R c (jD _);have M:=c.pre R B (jD _);have a:=congrArg Jg G;have W:=congrArg Jg M;simp only[jT]at a W;rw[jR,Jh #[2]]at G;exact G
def Ig(R:bA many d4 rows)(B:OL many d4 rows qs):bA qs.length d4 #[53]/\0<qs.length:=by
 refine⟨⟨jQ _,λr S=>?_,λr S v M=>?_⟩,Ji ((B.re _).mpr Reach.zero)⟩
 ·obtain⟨q,W,rfl⟩:=jK.mp S;have h:=B.inr q W;have j:q.toNat<rows.length:=by rw[R.len];omega
  rw[bg,getD_at j];exact R.row _ (jV j)
 ·obtain⟨q,W,rfl⟩:=jK.mp S;obtain⟨t,d,rfl⟩:=jK.mp M;have:=JA (B.in_ W d);unfold Sf;omega
end
def Ta(gs:LI):LI:=(pG (wM gs) gs.length).map λi:Nat=>(i:Int)
def Y7(gs:LI):(Ta gs).length=(bB gs).length:=by have:=BV gs (jD _);rw[jR]at this;rw[Ta,bg,Ba,this]
def Tb(h:q∈Ta gs):0<=q/\q<(gs.length:Int):=by obtain⟨i,W,rfl⟩:=jK.mp h;have:=JC.mp (js.mp W).1;omega
structure pD(d4:Nat)(rows aW:LL)(signs bZ:LI):Prop where
 ok:bA aW.length d4 aW
 pos:0<aW.length
 sgn:bZ.length=aW.length
 A2:aW.length<=rows.length
 ex:∃qs gs:LI,OL rows.length d4 rows qs/\gs.length=qs.length/\(∀x y,aw qs.length x->aw qs.length y->(ba gs x=ba gs y↔mK #[53] d4 #[155] x y))/\aW=aV #[53] (wM gs) (Ta gs)/\bZ=bG #[155] (Ta gs)
theorem FY:∀{n:Nat},(∀q:Nat,q<n->φ (q:Int)=ψ (q:Int))->tR φ n=tR ψ n
 | 0,_=>rfl
 | n+1,h=>by unfold tR;rw[FY λq W=>h q #[2],h n #[2]]
theorem Rw{v:LI}(l:gs.length=v.length)(h:∀x y,aw gs.length x->aw gs.length y->(ba gs x=ba gs y↔ba v x=ba v y)):∀{m:Nat},m<=gs.length->∀q:Nat,q<m->wM gs (q:Int)=wM v (q:Int)
 | 0,_,q,W=>absurd W (Jd _)
 | m+1,N,q,W=>by
  have K:=Rw l h (m:=m) #[2];rcases zC q m with z|z
  ·exact K q z
  obtain rfl:q=m:=by omega
  have T:gs[q]?=Z gs[q]:=jE N;have d:v[q]?=Z v[q]:=jE #[2];have mem:∀{g:LI} (L:q<g.length),g[q]∈bB (g.take q)↔∃x:Nat,x<q/\ba g x=ba g q:=λ{g} L=>by
   have a:∀(x:Nat) (J:x<g.length),ba g x=g[x]:=λx J=>by unfold ba;rw[jN,getD_at J]
   rw[rL,ZH];constructor
   ·rintro⟨x,J,e⟩;exact⟨x,by omega,by rw[a _ #[2],a _ L];exact e⟩
   ·rintro⟨x,J,e⟩;rw[a _ #[2],a _ L]at e;exact⟨x,by omega,e⟩
  by_cases c:gs[q]∈bB (gs.take q)
  ·obtain⟨x,J,e⟩:=(mem N).mp c;have F:aw gs.length (x:Int):=⟨by omega,by omega⟩;have b:aw gs.length (q:Int):=⟨by omega,by omega⟩;rw[<-(U3 F b).mpr e,K x J];rw[l]at F b;exact(U3 F b).mpr ((h _ _ (l▸F) (l▸b)).mp e)
  ·have R:v[q]∉bB (v.take q):=λy=>c ((mem N).mpr (by obtain⟨x,J,e⟩:=(mem #[2]).mp y;exact⟨x,J,(h _ _ ⟨by omega,by omega⟩ ⟨by omega,by omega⟩).mpr e⟩))
   rw[Ce T c,Ce d R,<-BV gs #[2],<-BV v #[2],FY K]
theorem pD.one{a b:LL}{g K:LI}(R:bA rows.length d4 rows)(h1:pD d4 rows a signs g)(M:pD d4 rows b signs K):a=b/\g=K:=by
 obtain⟨qs,gs,B,l,h,rfl,rfl⟩:=h1.ex;obtain⟨r,v,f,c,k,rfl,rfl⟩:=M.ex;obtain rfl:=B.one R f;have e:=Rw (l.trans c.symm) (λx y J N=>by rw[l]at J N;exact(h x y J N).trans (k x y J N).symm) (jD _)
 have o:Ta gs=Ta v:=by unfold Ta pG;rw[c,<-l];congr 1;refine Jw λi W=>?_;have W:=JC.mp W;rw[e i W,FY λq d=>e q #[2]]
 refine⟨?_,by rw[o]⟩;unfold aV;rw[<-o];refine Jr λq d=>Jr λt m=>?_;have S:=(Ig R B).1;have O:=Tb d;have j:q.toNat<#[53].length:=by rw[S.len];omega
 have F:t∈#[53].getD q.toNat []:=m;rw[getD_at j]at F;have p:=S.val _ (jV j) t F;obtain⟨n,rfl⟩:=HJ p.1;exact e n #[2]
def adD(R:bA rows.length d4 rows)(B:OL rows.length d4 rows qs)(l:gs.length=qs.length)(h:∀x y,aw qs.length x->aw qs.length y->(ba gs x=ba gs y↔mK #[53] d4 #[155] x y)):
  pD d4 rows (aV #[53] (wM gs) (Ta gs)) signs (bG #[155] (Ta gs)):=by
 obtain⟨S,p⟩:=Ig R B;have c:(aV #[53] (wM gs) (Ta gs)).length=(bB gs).length:=by rw[<-Y7];exact jQ _
 have mem:∀{z:Nat},z<gs.length->gs.getD z 0∈bB gs:=λ{z} C=>by rw[getD_at C];exact rL.mpr (jV C)
 have at_:∀{q:Int},q∈Ta gs->∃j:q.toNat<#[53].length,#[53].getD q.toNat []=#[53][q.toNat]:=λ{q} W=>by
  have O:=Tb W;have j:q.toNat<#[53].length:=by rw[S.len];omega
  exact⟨j,getD_at j⟩
 refine⟨⟨U,λr a=>?_,λr a v M=>?_⟩,?_,?_,?_,qs,gs,B,l,h,U,U⟩
 ·obtain⟨q,W,rfl⟩:=jK.mp a;obtain⟨j,e⟩:=at_ W;rw[bg,e];exact S.row _ (jV j)
 ·obtain⟨q,W,rfl⟩:=jK.mp a;obtain⟨t,d,rfl⟩:=jK.mp M;obtain⟨j,e⟩:=at_ W;rw[e]at d;have k:=S.val _ (jV j) t d;have:=JA (mem (z:=t.toNat) #[2]);rw[c];unfold wM;omega
 ·rw[c];exact Ji (mem (z:=0) #[2])
 ·unfold bG aV;rw[bg,bg]
 ·rw[c];have G:=rK gs;have b:=cQ _ B.nd B.inr;omega
def aaJ(K:YW):Sp:=λvs H Q E=>Ff K aml vs H Q E\/Ff K amm vs H Q E
def Hw(xs:LI)(g:Int):Dn (xs++[g]) 0=Dn xs 0++[(Sum.inl g,V.int (xs.length:Int))]:=by unfold Dn;rw[Zo,jB,Jj];rfl
theorem LU(O:qs.Nodup):∀i,dw [] (Dn #[176] 0)=Dn #[176] 0
 | 0=>by rw[zO];rfl
 | i+1=>by
  have K:=LU O i;cases e:qs[i]? with
  | none=>
   rw[jO,e];show dw [] (Dn (qs.take i++[]) 0)=Dn (qs.take i++[]) 0;rw[jZ];exact K
  | some g=>
   have b:qs.take (i+1)=qs.take i++[g]:=by rw[jO,e];rfl
   have M:=iT e;have a:g∉qs.take i:=λz=>by obtain⟨j,f,E⟩:=jo z;rw[jT]at f;rw[zT]at E;have:=(JJ O).mp (E.trans M.2.symm);omega
   rw[b];show dw [] (Dn (qs.take i++[g]) 0)=_;have m:dw [] (Dn #[176] 0++[(Sum.inl g,V.int (#[176].length:Int))])=putK (dw [] (Dn #[176] 0)) (Sum.inl g) (V.int (#[176].length:Int)):=by unfold dw;rw[ju];rfl
   rw[Hw,m,K,N3 a,Hw]
def DX(φ:Int->Int)(n:Nat):pG φ (n+1)=pG φ n++(if φ (n:Int)=(tR φ n:Int)then [n]else []):=by
 unfold pG;rw[JP,JY];congr 1;by_cases c:φ (n:Int)=(tR φ n:Int)
 ·rw[if_pos c,JR (by exact decide_eq_true c)];rfl
 ·rw[if_neg c,JG (by rw[decide_eq_false c];decide)];rfl
def Oo(R:bA many d4 rows){t:Int}(I:0<=q)(h1:q<(many:Int))(d:t∈rows.getD q.toNat []):∃f:Nat,f<d4/\t=stepI rows q f:=by
 have l:q.toNat<rows.length:=by rw[R.len];omega
 rw[getD_at l]at d;obtain⟨f,a,e⟩:=jo d;have z:=R.row _ (jV l);refine⟨f,by omega,?_⟩;unfold stepI;rw[getD_at l,jN,getD_at a,e]
inductive Oz (K:YW) (vs:List V) (H:Hp) (Q:VK) (E:XK):Prop
 | mk (m r g:QX) (many d4:Nat) (rows:LL) (signs:LI) (_:vs=[.ref m]) (_:bQ H m r g d4 rows signs) (_:bA many d4 rows) (_:signs.length=many) (_:(1<=many/\many<1000)) (_:d4<=1000) (_:∀(m' r' g':QX) (aW:LL) (bZ:LI) (H':Hp),av H H'->bQ H' m' r' g' d4 aW bZ->pD d4 rows aW signs bZ->Q (.ref m') H')
section
def ad6(F:aY K "with_rooms" "with_rooms" dS dV f fd)(x:mg "tuple" = Y):aR P w K mg base dy 1 f fd ["machine","kept","numbers"] (aaJ K):=aR.or (abP F x) (abQ F x)
def mq:ax ["machine","reached","small","numbers","firsts","groups","here","group"] ["machine"] (ao Cn):=cb #[1]
def AX:aO ["machine","reached","small","numbers","firsts","groups","here","group"] (ao Cn) ["number","here"] [Y,Y] ⟨.function,[#[48],("number",.local),("here",.local)],false,false,[]⟩:=oh #[1]
def FT:aO ["machine","reached","small","numbers","firsts","groups","here","group"] (ao Cn) ["group","numbers"] [Y,Z 3] ⟨.function,[#[48],("group",.local),("numbers",.free)],false,false,[]⟩:=oh #[1]
def adP(F:aY K "least" "least" Cn dV f fd)(iB:bc P w K mg base "reached_rooms" 1 ["machine","start"] [.int 0] (Md K))(mV:bc P w K mg base "with_rooms" 1 ["machine","kept","numbers"] [] (aaJ K))(iC:bc P w K mg base "unparted_groups" 4 ["machine"] [] (aiw K))(cP:mg "enumerate" = Y)(hU:mg "dict" = Y)(bD:mg "len" = Y):aR P w K mg base dy 5 f fd ["machine"] (Oz K):=by
 refine F.ok mq #[22] (λbP A g7 s H vs Q E hr h=>?_)
 ·obtain⟨m,r,g,many,d4,rows,signs,rfl,_⟩:=h;rfl
 obtain⟨m,r,g,many,d4,rows,signs,rfl,M,R,ls,⟨n0,n1⟩,w1,k⟩:=h;obtain rfl:=R.len;have hu:=mh hr;refine si (aJ (iU.mk (az (i:=1) mq.nd (aU iB hr #[38])))
   (aJ (iU.mk (az (i:=2) mq.nd (aU mV hr (aa (pv 0) (aa (pv 1) (aa (aM (wu rfl) #[43] hU BR (aa (dB rfl AX (HR rfl cP #[80]) (λ_ _ _ _=>(Og K (n:=2) rfl (cy (aQ (i:=0) AX.nd) (cy (aQ (i:=1) AX.nd) oj)))) (λ_ _ _ _=>(ck (aa (pv 1) #[38])))) af)) af))))))
   (aJ (iU.mk (az (i:=3) mq.nd oU))
   (aJ (iU.mk (az (i:=4) mq.nd (bI af)))
   (aJ (iU.mk (az (i:=5) mq.nd (aU iC hr #[89])))
   (aJ (iU.mk (bL PassesOwn.never rfl (HR rfl cP #[172]) (Dt rfl (cy (aQ (i:=6) mq.nd) (cy (aQ (i:=7) mq.nd) oj))) (aq (cC (HV (Dq hu (pv 7) (pv 3)) #[25]) (ah (Ci hu (pv 3) (pv 7) (aG Ai #[43] bD cU #[79]) rfl)
   (aq (aS (dN YY Ya Yb bu (pv 4) (aa (pv 6) af))))) bq))))
   (mJ (iU.mk (aH (aU mV hr (aa (pv 2) (aa (pv 4) (aa (dB rfl FT (cu (pv 5)) (λ_ _ _ _=>(aQ (i:=0) FT.nd)) (λ_ _ _ _=>(Cc hu (pv 1) (pv 0) #[3]))) af))))))))))))) ?_
 exists 0;refine⟨_,U,m,r,g,_,d4,rows,signs,U,M,R,⟨n0,by omega⟩,λl H1 qs s1 c6 bf=>?_⟩;have A2:=cQ _ bf.nd bf.inr;obtain⟨R1,p1⟩:=Ig R bf;exists 22;refine bM (t:=oy _ _) (λO H'=>∃j r1 g1:QX,O=[Z #[147],Z #[181],Z (.ref j),Y,Y,Y,Y,Y]/\av H H'/\bQ H' j r1 g1 d4 #[53] #[155]) ?_ #[46];exists 27
 ·exists _,rfl,_,rfl,_,rfl,l,rfl,⟨_,bz c6⟩;refine SV (K:=K) (xs:=qs.map V.int) (λD i a H'=>av H1 H'/\∃ts,a=ts.map V.ref/\lF H' ts (Dn #[176] 0)) (λT σ H Q i x h q=>⟨T,[.int i,x],U,bN h,U,.int i,[x],U,x,[],U,U,q⟩) (λD G=>⟨aj G _,[],U,.nil⟩) (λD i a H' _ ⟨e,_⟩=>bz (e _ _ c6)) ?_ ?_
  ·rintro D i y a H2 T0 Q' G hi hy ⟨s2,ts,rfl,pv⟩ i7 k';obtain⟨q,rfl,hq⟩:=cj hi;have il:=(iT hq).1;have j7:=aj i7 (HO.tup [V.int i,V.int q]);refine⟨_,U,_,U,#[14],λT hT=>?_⟩;have sT:=aj hT (HO.tup [V.int q,V.int i]);obtain⟨o,Sa⟩:∃o,upd (upd H2 T0 (HO.tup [V.int i,V.int q])) T (HO.tup [V.int q,V.int i])=o:=⟨_,rfl⟩;have k7:o T=Z (.tup [V.int q,V.int i]):=by rw[<-Sa,ae]
   rw[Sa]at sT ⊢;have J:=j7.trans sT;have m6:=J _ _ hy;have y7:ts.length=i:=by rw[Paired.length pv,sG,jT];omega
   refine k' _ _ m6 #[187] ⟨au (s2.trans J) G,ts++[T],by rw[jB];rfl,?_⟩;have up:∀b xs,o b=Z #[39]->(upd o D (.lst (ts.map V.ref++[V.ref T]))) b=Z #[39]:=λb xs e=>by rw[ag (aA e m6 #[0])];exact e
   have et:qs.take (i+1)=qs.take i++[q]:=by rw[jO,hq];rfl
   have ll:#[176].length=i:=by rw[jT];omega
   rw[et,Hw,ll];exact Paired.snoc (lF.same pv λb xs e=>up b xs (J _ _ e)) (up _ _ k7)
  ·rintro L a H2 fL hL ⟨s2,ts,rfl,pv⟩;rw[bg,jR]at pv;refine⟨L,ts,_,U,hL,pv,λD G=>?_⟩;have mk:=LU bf.nd qs.length;rw[jR]at mk;rw[mk];have J:=s2.trans (aj G (HO.dK (Dn qs 0)));refine .inl ⟨m,l,D,r,g,_,d4,rows,signs,qs,Sf qs,U,M.same λb xs e=>J _ _ (s1 _ _ e),R,ls,⟨by omega,w1⟩,J _ _ c6,by omega,bf.inr,⟨_,ae,λq hq t ht=>?_⟩,λj r1 g1 o S M3=>?_⟩
   ·rw[An,if_pos (bf.in_ hq ht),Jj];rfl
   ·exact cE _ _ ⟨j,r1,g1,U,(s1.trans J).trans S,M3⟩
 rintro O H2 ⟨j,r1,g1,rfl,s2,M2⟩;refine λN d6=>⟨#[13],λp g6=>?_⟩;obtain⟨o,Sa⟩:∃o,upd (upd H2 N (HO.dK [])) p #[85]=o:=⟨_,rfl⟩;have J:av H2 o:=by rw[<-Sa];exact(aj d6 _).trans (aj g6 _)
 have i6:N≠p:=ak ae g6;have PN:o N=Z (.dK []):=by rw[<-Sa,ag i6,ae]
 have W:o p=Z #[188]:=by rw[<-Sa,ae]
 have fN:H N=Y:=s2.free d6;have fF:H p=Y:=s2.free ((aj d6 (HO.dK [])).free g6);rw[Sa];have o6:#[155].length=qs.length:=by unfold bG;rw[bg]
 refine⟨_,U,j,r1,g1,qs.length,d4,_,_,U,M2.same λb xs e=>J _ _ e,R1,o6,by omega,w1,λgo gs H4 S j5 PX lg hg=>?_⟩;have u6:av H2 H4:=J.trans S;have M4:=M2.same λb xs e=>u6 _ _ e;exists 22;refine bM (t:=rl _ _ _) (λO H'=>∃v6 v7:OV,O=[Z #[147],Z #[181],Z (.ref j),Z (.ref N),Z (.ref p),Z (.ref go),v6,v7]/\(∀c u,c≠N->c≠p->H4 c=Z u->H' c=Z u)/\H' N=Z (.dK (Dn (bB gs) 0))/\H' p=Z (.lst ((Ta gs).map V.int))) ?_ #[46];exists 27
 ·have l7:go≠N:=aA PX (S _ _ PN) #[0];have m7:go≠p:=λz=>by rw[z,W]at j5;cases j5
  refine⟨_,U,go,U,⟨_,bz PX⟩,Lx (K:=K) (xs:=gs.map V.int) (λi O H'=>∃v6 v7:OV,O=[Z #[147],Z #[181],Z (.ref j),Z (.ref N),Z (.ref p),Z (.ref go),v6,v7]/\(∀c u,c≠N->c≠p->H4 c=Z u->H' c=Z u)/\H' N=Z (.dK (Dn (bB (gs.take i)) 0))/\H' p=Z (.lst (((pG (wM gs) i).map λi:Nat=>(i:Int)).map V.int)))
   ⟨Y,Y,rfl,λ_ _ _ _ e=>e,S _ _ PN,S _ _ W⟩ (λi O H' _ ⟨_,_,_,e,_,_⟩=>bz (e _ _ l7 m7 PX)) ?_ ?_⟩
  ·rintro i y O H5 T hi ⟨v6,v7,rfl,v,I,B⟩ hT;obtain⟨X,rfl,C⟩:=cj hi;have il:=(iT C).1;have sT:=aj hT (HO.tup [V.int i,V.int X]);obtain⟨H6,y6⟩:∃H6,upd H5 T (HO.tup [V.int i,V.int X])=H6:=⟨_,rfl⟩;have o7:H6 T=Z (.tup [V.int i,V.int X]):=by rw[<-y6];exact ae
   rw[y6]at sT ⊢;have o5:=sT _ _ I;have l6:=sT _ _ B;have ol:=rK (gs.take i);rw[jT]at ol;have cp:=BV gs (m:=i) #[2];have fl:=Ba (wM gs) i;exists T,_,rfl,bN o7,rfl,_,_,rfl,_,_,rfl,rfl;exists _,rfl,_,rfl,N,_,rfl,mS.k (k:=Sum.inl X) o5,_,rfl;rw[An];by_cases c:X∈bB (gs.take i)
   ·rw[if_pos c];refine tV ⟨_,_,U,λc' u c1 c2 e=>sT _ _ (v c' u c1 c2 e),by rw[o5,oG C,rE c],?_⟩;have ph:=Oh C c;have lt:=JA c;rw[l6,DX,if_neg (by rw[ph,cp];omega),jZ]
   ·rw[if_neg c];refine Dj ⟨_,U,N,_,U,o5,_,U,_,U,N,_,U,Mo.k (k:=Sum.inl X) o5 (ay (by rw[sG];omega)),?_⟩;rw[sG,N3 c];have z6:p≠N:=Ne.symm i6;have ph:=Ce C c;refine⟨_,U,.inl ⟨U,_,bz (by rw[ag z6];exact l6)⟩,_,U,p,_,_,U,U,(by rw[ag z6];exact l6),ay (by rw[bg,bg,fl,cp];omega),?_⟩;refine⟨_,_,U,λc' u c1 c2 e=>by rw[ag c2,ag c1];exact sT _ _ (v c' u c1 c2 e),by rw[ag i6,ae,oG C,lH c],?_⟩;rw[ae,DX,if_pos (by rw[ph,cp]),jB,jB];rfl
  ·rintro O H5 ⟨v6,v7,rfl,v,I,B⟩;rw[bg,jR]at I;rw[bg]at B;exact cE _ _ ⟨v6,v7,U,v,I,B⟩
 rintro O H5 ⟨v6,v7,rfl,v,I,B⟩;have s5:av H H5:=λc u e=>v c u (λz=>by rw[z,fN]at e;cases e) (λz=>by rw[z,fF]at e;cases e) (u6 _ _ (s2 _ _ e));have M5:bQ H5 j r1 g1 d4 #[53] #[155]:=M4.same λb xs e=>v b _ (aA e (S _ _ PN) #[0]) (aA e (S _ _ W) #[0]) e;have c7:H5 go=Z (.lst (gs.map V.int)):=v _ _ (aA PX (S _ _ PN) #[0]) (λz=>by rw[z,W]at j5;cases j5) PX;have d7:(fh gs).length=gs.length:=by unfold fh;rw[bg,jt]
 exists _,rfl,_,rfl,_,rfl,go,rfl,⟨_,bz c7⟩;refine dZ (K:=K) (xs:=gs.map V.int) (λD i a H'=>av H5 H'/\a=((fh gs).take i).map V.int) (λD G=>⟨aj G _,U⟩) (λD i a H' _ ⟨e,_⟩=>bz (e _ _ c7)) ?_ ?_
 ·rintro D i y a H6 Q' G hi hy ⟨s6,rfl⟩ k';obtain⟨X,rfl,C⟩:=cj hi;have il:=(iT C).1;have om:X∈bB gs:=rL.mpr (sM C);have ph:wM gs (i:Int)=(((bB gs).idxOf X:Nat):Int):=by unfold wM;rw[jN,jf,C];rfl
  have dg:mS H6 N (.int X) (Z (.int (wM gs (i:Int)))):=by have d:=mS.k (k:=Sum.inl X) (s6 _ _ I);rw[An,if_pos om,Jj,<-ph]at d;exact d
  have hp:(fh gs)[i]?=Z (wM gs (i:Int)):=by unfold fh;rw[jU,Zh il];rfl
  refine⟨_,U,_,U,N,_,U,dg,k' _ _ hy (ay (by rw[bg,jT];omega)) ⟨au s6 G,?_⟩⟩;rw[jO,hp,jB];rfl
 ·rintro L a H6 fL hL ⟨s6,rfl⟩;rw[bg,<-d7,jR]at hL;have fi:∀q∈Ta gs,0<=q/\q<(qs.length:Int):=λq hq=>lg▸Tb hq;have u7:(Ta gs).length<=1000:=by have:=rK gs;rw[Y7];omega
  refine .inr ⟨j,p,L,r1,g1,qs.length,d4,_,_,_,wM gs,U,M5.same λb xs e=>s6 _ _ e,R1,o6,⟨by omega,w1⟩,s6 _ _ B,u7,fi,⟨fh gs,hL,λq hq t ht=>?_⟩,λm' r' g' H7 s7 M7=>?_⟩
  ·have qi:=fi q hq;obtain⟨f,hf,e⟩:=Oo R1 qi.1 qi.2 ht;have tv:=pz R1 qi.1 qi.2 (f:=(f:Int)) #[2] #[2];rw[<-e]at tv;have f7:t<(gs.length:Int):=by rw[lg];exact tv.2
   refine⟨⟨tv.1,by rw[d7];exact f7⟩,?_⟩;have:=Cf (gs:=gs) tv.1 f7;unfold ba at this;exact this.symm
  ·exact k m' r' g' _ _ H7 ((s5.trans s6).trans s7) M7 (adD R bf lg hg)
end
section
variable[DecidableEq α]
def Se(st:α->Nat->α)(b:α)(v:LI):α:=v.foldl (λp f=>st p f.toNat) b
def Ry(st:α->Nat->α)(b:α)(v:LI)(f:Int):Se st b (v++[f])=st (Se st b v) f.toNat:=by unfold Se;rw[ju];rfl
def BZ(st:α->Nat->α)(p:α)(s:List α×LI)(f:Nat):List α×LI:=if st p f∈s.1 then(s.1,s.2++[(s.1.idxOf (st p f):Int)])else(s.1++[st p f],s.2++[(s.1.length:Int)])
def Ey(st:α->Nat->α)(b:α)(d4:Nat):Nat->List α×LL
 | 0=>([b],[])
 | k+1=>(Ey st b d4 k).1[k]?.elim (Ey st b d4 k) λp=>(((ji d4).foldl (BZ st p) ((Ey st b d4 k).1,[])).1,(Ey st b d4 k).2++[((ji d4).foldl (BZ st p) ((Ey st b d4 k).1,[])).2])
structure EO(st:α->Nat->α)(b:α)(d4:Nat)(ps:List α)(rows:LL):Prop where
 nd:ps.Nodup
 hd:ps[0]?=Z b
 le:rows.length<=ps.length
 row:∀(i:Nat) (r:LI),rows[i]?=Z r->r.length=d4
 to:∀(i:Nat) (r:LI) (f:Nat) (t:Int),rows[i]?=Z r->r[f]?=Z t->∃(n:Nat) (p:α),t=(n:Int)/\ps[i]?=Z p/\ps[n]?=Z (st p f)
 ord:Ey st b d4 rows.length=(ps,rows)
 re:∀p∈ps,∃v,InF d4 v/\Se st b v=p
structure Ej(st:α->Nat->α)(b:α)(d4:Nat)(ps:List α)(rows:LL)(p:α)(r:LI):Prop where
 nd:ps.Nodup
 hd:ps[0]?=Z b
 at_:ps[rows.length]?=Z p
 row:∀(i:Nat) (r:LI),rows[i]?=Z r->r.length=d4
 to:∀(i:Nat) (r:LI) (f:Nat) (t:Int),rows[i]?=Z r->r[f]?=Z t->∃(n:Nat) (p:α),t=(n:Int)/\ps[i]?=Z p/\ps[n]?=Z (st p f)
 now:∀(f:Nat) (t:Int),r[f]?=Z t->∃n:Nat,t=(n:Int)/\ps[n]?=Z (st p f)
 ord:∃m,Ey st b d4 rows.length=(m,rows)/\m[rows.length]?=Z p/\(ji r.length).foldl (BZ st p) (m,[])=(ps,r)
 re:∀p∈ps,∃v,InF d4 v/\Se st b v=p
variable{st:α->Nat->α}{b:α}{ps:List α}{p:α}
def EO.start(st:α->Nat->α)(b:α)(d4:Nat):EO st b d4 [b] []:=
 ⟨jn.mpr ⟨by simp,Je⟩,rfl,je _,(λi r h=>by cases h),(λi r f t h=>by cases h),rfl,λp D=>⟨[],(λf l=>by cases l),by rw[jH.mp D];rfl⟩⟩
def EO.next(g:EO st b d4 ps rows)(h:ps[rows.length]?=Z p):Ej st b d4 ps rows p []:=
 ⟨g.nd,g.hd,h,g.row,g.to,(λf t h=>by cases h),⟨ps,g.ord,h,rfl⟩,g.re⟩
def Ej.old(g:Ej st b d4 ps rows p r)(h:ps[n]?=Z (st p r.length)):Ej st b d4 ps rows p (r++[(n:Int)]):=by
 obtain⟨m,a,W,d⟩:=g.ord;obtain⟨y,T⟩:=iT h;refine⟨g.nd,g.hd,g.at_,g.row,g.to,λf t l=>?_,⟨m,a,W,?_⟩,g.re⟩
 ·rcases snoc_cases l with z|⟨rfl,rfl⟩
  ·exact g.now f t z
  ·exact⟨n,U,h⟩
 ·have N:=sM h;have c:=JA N;have v:=(JJ g.nd).mp ((zN c).trans T.symm);rw[jG,ja,JP,ju,d];show BZ st p (ps,r) r.length=_;rw[BZ,if_pos N,v]
theorem Ej.new(g:Ej st b d4 ps rows p r)(w:r.length<d4)(h:st p r.length∉ps):Ej st b d4 (ps++[st p r.length]) rows p (r++[(ps.length:Int)]):=by
 obtain⟨m,j,W,k⟩:=g.ord;have up:∀(n:Nat) (x:α),ps[n]?=Z x->(ps++[st p r.length])[n]?=Z x:=λn x J=>by rw[jq (iT J).1];exact J
 refine⟨nd_snocA g.nd h,up _ _ g.hd,up _ _ g.at_,g.row,λi D f t G M=>?_,λf t l=>?_,⟨m,j,W,?_⟩,λx J=>?_⟩
 ·obtain⟨n,q,T,d,o⟩:=g.to i D f t G M;exact⟨n,q,T,up _ _ d,up _ _ o⟩
 ·rcases snoc_cases l with z|⟨rfl,rfl⟩
  ·obtain⟨n,T,d⟩:=g.now f t z;exact⟨n,T,up _ _ d⟩
  ·exact⟨ps.length,U,by rw[JF (jD _),zM];rfl⟩
 ·rw[jG,ja,JP,ju,k];show BZ st p (ps,r) r.length=_;rw[BZ,if_neg h]
 ·rcases sJ.mp J with z|z
  ·exact g.re x z
  ·obtain⟨v,s,e⟩:=g.re p (sM g.at_);refine⟨v++[(r.length:Int)],λf l=>?_,?_⟩
   ·rcases sJ.mp l with y|y
    ·exact s f y
    ·rw[jH.mp y];omega
   ·rw[Ry,e,jN,jH.mp z]
where
 nd_snocA {xs:List α} {x:α} (h:xs.Nodup) (n:x∉xs):(xs++[x]).Nodup:=
  JH.mpr ⟨h,jn.mpr ⟨by simp,Je⟩,λa u c O e=>n (by rw[<-jH.mp O,<-e];exact u)⟩
def Ej.done(g:Ej st b d4 ps rows p r)(G:r.length=d4):EO st b d4 ps (rows++[r]):=by
 obtain⟨m,a,W,d⟩:=g.ord;have lt:=(iT g.at_).1;refine⟨g.nd,g.hd,by rw[jG,ja];omega,λi D h=>?_,λi D f t c M=>?_,?_,g.re⟩
 ·rcases snoc_cases h with z|⟨_,rfl⟩
  ·exact g.row i D z
  ·exact G
 ·rcases snoc_cases c with z|⟨rfl,rfl⟩
  ·exact g.to i D f t z M
  ·obtain⟨n,T,e⟩:=g.now f t M;exact⟨n,p,T,g.at_,e⟩
 ·rw[jG,ja,Ey,a];show m[rows.length]?.elim (m,rows) _=_;rw[W];show(((ji d4).foldl (BZ st p) (m,[])).1,rows++[((ji d4).foldl (BZ st p) (m,[])).2])=_;rw[<-G,d]
def EO.ok(g:EO st b d4 ps rows)(h:rows.length=ps.length):bA rows.length d4 rows:=by
 refine⟨U,λr S=>?_,λr S v M=>?_⟩
 ·obtain⟨i,W,e⟩:=jo S;exact g.row i r (by rw[jE W,e])
 ·obtain⟨i,W,e⟩:=jo S;obtain⟨f,l,o⟩:=jo M;obtain⟨n,p,T,_,j⟩:=g.to i r f v (by rw[jE W,e]) (by rw[jE l,o]);have:=(iT j).1;omega
theorem Hc{k:Nat}(h:(Ey st b d4 k).1.length<=k):∀d:Nat,Ey st b d4 (k+d)=Ey st b d4 k
 | 0=>rfl
 | d+1=>by have K:=Hc h d;rw[<-Zc,Ey,K,JO #[2]];rfl
def EO.one{a:List α}{cD:LL}(g:EO st b d4 ps rows)(h:rows.length=ps.length)(v:EO st b d4 a cD)(M:cD.length=a.length):ps=a/\rows=cD:=by
 have o:=g.ord;have W:=v.ord;rcases Nat.le_total rows.length cD.length with z|z
 ·rw[<-Zi z,Hc (by rw[o];exact zb h.symm),o]at W;exact⟨congrArg Prod.fst W,congrArg Prod.snd W⟩
 ·rw[<-Zi z,Hc (by rw[W];exact zb M.symm),W]at o;exact⟨(congrArg Prod.fst o).symm,(congrArg Prod.snd o).symm⟩
theorem EO.walk(g:EO st b d4 ps rows)(h:rows.length=ps.length):∀(v:LI) (n:Nat) (p:α),InF d4 v->ps[n]?=Z p->∃k:Nat,iQ rows v (n:Int)=(k:Int)/\ps[k]?=Z (v.foldl (λp f=>st p f.toNat) p)
 |[],n,p,_,D=>⟨n,rfl,D⟩
 | f::v,n,p,M,D=>by
  have l:=M f jC;have y:=(iT D).1;have a:n<rows.length:=by omega
  have z:=g.row n _ (jE a);have G:f.toNat<(rows[n]).length:=by omega
  obtain⟨k,q,T,c,d⟩:=g.to n _ f.toNat _ (jE a) (jE G);rw[D]at c;have eq:=Option.some.inj c;subst eq;obtain⟨j,e,i⟩:=g.walk h v k _ (λx J=>M x (jJ _ J)) d;refine⟨j,?_,i⟩;show iQ rows v (stepI rows (n:Int) f)=_;unfold stepI;rw[jN,getD_at a,getD_at G,T];exact e
def EO.told(g:EO st b d4 ps rows)(h:rows.length=ps.length){v:LI}(M:InF d4 v):∃k:Nat,iQ rows v 0=(k:Int)/\ps[k]?=Z (Se st b v):=g.walk h v 0 b M g.hd
end
inductive V4 (C:QX) (vs:List V) (H:Hp) (Q:VK) (E:XK):Prop
 | mk (x:QX) (n:Int) (_:vs=[.ref x,.int n]) (_:H x=Z (.ext (mL x C))) (_:(n.natAbs.log2<1920/\(Str.ofString (toString n)).length<=1000)) (_:∀d,H d=Y->d≠x->Q .non (upd (upd H x (.ext (iu x C d))) d (.xd [("most",.int n)])))
section
def Ab:ax ["self","most"] ["self","most"] (ao fj):=cb #[1]
def agR(F:aY K "__init__" "TooGreat.__init__" fj dV f fd)(M:DT K C f0)(a:YZ K #[30] "most" = Z Y)(q:mg "FigureError" = Z (.ref F0))(b:yQ K (.ref F0) "__getattribute__" = Z (Z (.builtin "type.__getattribute__")))(c:Xb K F0 #[118]=true)(e:Xc K (.ref F0) #[118] "__init__" = Z (.val (.builtin "ValueError.__init__"))):aR P w K mg base dy 1 f fd ["self","most"] (V4 C):=by
 refine F.ok Ab (λg H Q E h=>?_) (λbP A I s H g Q E S h=>?_)
 ·obtain⟨x,n,rfl,_⟩:=h;rfl
 obtain⟨x,n,rfl,J,⟨B,W⟩,k⟩:=h;refine⟨_,(ah (aS (Rq rfl q b c e (aa (pv 0) (aa (ag5 (Rv akx (Rv (akw (pv 1)) ag7))) af))))
   (aq (ahc (pv 0) (pv 1)))),?_⟩
 exists 0;refine⟨_,U,_,U,.inr ⟨n,U,B,W,λz=>?_⟩⟩;exists x,C,f0,_,rfl,J,M.ex;exact⟨_,U,_,U,x,C,f0,U,J,M,a,λd j G=>k d j G⟩
end
def cT.up{k:Nat}{ps:List Str}(G:cT P w K mg base C m j ps sp)(h:j<=k:=by decide):cT P w K mg base C m k ps sp:=by obtain⟨f,fd,N,B,F⟩:=G.ex;exact⟨G.cl,f,fd,N,B,F.len,λA I s H i S n Q E a=>F.run A I s H i S n Q E (a.mono h)⟩
def vI:Nat->V:=λn=>.int (n:Int)
def fs(ks:List #[158]):List κ:=ks.map (·.1)
def oQ(ks:List #[158]):(fs ks).length=ks.length:=jQ ..
def G1(ks qs:List #[158]):fs (ks++qs)=fs ks++fs qs:=jB ..
section
variable[DecidableEq κ]
abbrev dz(kk:KK κ)(H:Hp):List QX->List κ->Prop:=Qs λa u=>kk.kat H u a
theorem dz.same{kk:KK κ}{us:List κ}(h:dz kk H as us)(s:∀b xs,H b=Z #[39]->H' b=Z #[39]):dz kk H' as us:=by
 induction h with
 | nil=>exact .nil
 | cons p r K=>exact .cons (kk.same p s) K
def dz.snoc{kk:KK κ}{us:List κ}{u:κ}(h:dz kk H as us)(p:kk.kat H u a):dz kk H (as++[a]) (us++[u]):=by
 induction h with
 | nil=>exact .cons p .nil
 | cons q r K=>exact .cons q K
def dz.at_{kk:KK κ}{us:List κ}(h:dz kk H as us):∀{i:Nat} (W:i<us.length),∃a,as[i]?=Z a/\kk.kat H us[i] a:=by
 induction h with
 | nil=>intro i W;exact absurd W (Jd _)
 | cons q r K=>
  intro i W;cases i with
  | zero=>exact⟨_,rfl,q⟩
  | succ i=>exact K (Jv W)
def DI(h:n<=100000):n<sizeLine:=by rw[qg];omega
def V9{n:Int}(I:0<=n)(h:n<10^18):n.natAbs.log2<1920/\(Str.ofString (toString n)).length<=1000:=by
 have R:n.natAbs<10^18:=by
  have e:((n.natAbs:Nat):Int)=n:=Int.natAbs_of_nonneg I;have:((n.natAbs:Nat):Int)<((10^18:Nat):Int):=by rw[e];exact h
  exact Int.ofNat_lt.mp this
 constructor
 ·rcases zL n.natAbs with z|z
  ·rw[z];decide
  ·exact(QR #[2]).mpr (zA R #[10])
 ·have q:=int_text_length_le10 (a:=n) (k:=18) #[10] R;rw[ofString_length];omega
structure Sy(kk:KK κ)(C x:QX)(d4:Nat)(W:Hp->Prop)(OX:κ->Prop)(st:κ->Nat->κ)(b0:κ)(sg:κ->Int)(spB spS spG:Sp):Prop where
 same:∀H H',av H H'->W H->W H'
 ob:∀H,W H->∃(dx:QX) (fs:List (Str×V)),H x=Z #[126]/\fs.lookup ("begin" : Str)=Y/\fs.lookup ("step" : Str)=Y/\fs.lookup ("sign" : Str)=Y
 begin:∀(H:Hp) (Q:VK) (E:XK),W H->(∀(t:QX) (H':Hp),av H H'->kk.kat H' b0 t->Q (.ref t) H')->spB [.ref x] H Q E
 step:∀(H:Hp) (Q:VK) (E:XK) (b:QX) (u:κ) (f:Nat) (fi:Int),fi=(f:Int)->W H->kk.kat H u b->OX u->f<d4->(∀(t:QX) (H':Hp),av H H'->kk.kat H' (st u f) t->Q (.ref t) H')->spS [.ref x,.ref b,.int fi] H Q E
 sign:∀(H:Hp) (Q:VK) (E:XK) (b:QX) (u:κ),W H->kk.kat H u b->OX u->(∀H':Hp,av H H'->Q (.int (sg u)) H')->spG [.ref x,.ref b] H Q E
 ok0:OX b0
 okS:∀u f,OX u->f<d4->OX (st u f)
def Sy.all{kk:KK κ}{x:QX}{W:Hp->Prop}{a:κ->Prop}{st:κ->Nat->κ}{o:κ}{sg:κ->Int}(h:Sy kk C x d4 W a st o sg spB spS spG){v:LI}(M:InF d4 v):a (Se st o v):=by
 have:∀(v:LI) (b:κ),a b->InF d4 v->a (Se st b v):=by
  intro v
  induction v with
  | nil=>intro b B _;exact B
  | cons f v K=>
   intro b B c;refine K _ (h.okS _ _ B ?_) λg m=>c g (jJ _ m);have:=c f jC;omega
 exact this v o h.ok0 M
inductive Ii (kk:KK κ) (C CT:QX) (spB spS spG:Sp) (vs:List V) (H:Hp) (Q:VK) (E:XK):Prop
 | mk (x:QX) (d4 most:Nat) (W:Hp->Prop) (OX:κ->Prop) (st:κ->Nat->κ) (b0:κ) (sg:κ->Int) (_:vs=[.ref x,.int d4,.int most]) (_:W H) (_:Sy kk C x d4 W OX st b0 sg spB spS spG) (_:d4<=1000) (_:(1<=most/\most<=100000)) (_:(∀(m' r' g':QX) (aW:LL) (ps:List κ) (H':Hp),av H H'->bQ H' m' r' g' d4 aW (ps.map sg)->EO st b0 d4 ps aW->aW.length=ps.length->ps.length<=most->Q (.ref m') H')) (_:∀(d:QX) (H':Hp) (ps:List κ),av H H'->H' d=Z (.xd [("most",.int most)])->ps.Nodup->(∀p∈ps,∃v,InF d4 v/\Se st b0 v=p)->most<ps.length->E (.ref CT) (Z d) H')
section
variable{kk:KK κ}
def dJ:ax ["walk","wide","most","begin","numbers","rows","level","fresh","place","row","figure","there","number"] ["walk","wide","most"] (ao Cm):=cb #[1]
def FR:aO ["walk","wide","most","begin","numbers","rows","level","fresh","place","row","figure","there","number"] (ao Cm) ["place","walk"] [Y,Z 0] ⟨.function,[#[48],("place",.local),("walk",.free)],false,false,[]⟩:=oh #[1]
def LZ(F:aY K "grown" "grown" Cm dV f fd)(tX:cT P w K mg base C "begin" 6 ["self"] spB)(BE:cT P w K mg base C "step" 6 ["self","place","figure"] spS)(BD:cT P w K mg base C "sign" 6 ["self","place"] spG)(eM:afD P w K mg base "TooGreat" CT f0 1 ["self","most"] (V4 CT))(bh:mg "range" = Y)(bD:mg "len" = Y)(aC:mg "tuple" = Y):aR P w K mg base (IG P w) 7 f fd ["walk","wide","most"] (Ii kk C CT spB spS spG):=by
 refine F.aoh dJ #[22] (λbP A outer s H vs Q E hr h=>?_)
 ·obtain⟨x,d4,most,W,OX,st,b0,sg,rfl,_⟩:=h;rfl
 obtain⟨x,d4,most,W,OX,st,b0,sg,rfl,d8,T,w1,⟨m0,m1⟩,k,kx⟩:=h;have hu:=mh hr;have Z7:=Tp hr;obtain⟨dx,fs0,i9,fB,fS,fG⟩:=T.ob H d8;refine si (aJ (iU.mk (az (i:=3) dJ.nd (HQ tX hr (pv 0))))
   (aJ (iU.mk (az (i:=4) dJ.nd (Rr (kk:=kk) Z7 (wN (pv 3) ar EZ))))
   (aJ (iU.mk (az (i:=5) dJ.nd (bI af)))
   (aJ (iU.mk (az (i:=6) dJ.nd (bI #[79])))
   (aJ (iU.mk (oV PassesOwn.leaving (wO (pv 6) (λ_=>rfl)) (ah (az (i:=7) dJ.nd (bI af))
   (ah (bL PassesOwn.leaving rfl (cu (pv 6)) (aQ (i:=8) dJ.nd) (ah (az (i:=9) dJ.nd (bI af))
   (ah (bL PassesOwn.leaving rfl (de rfl bh #[80]) (aQ (i:=10) dJ.nd) (ah (az (i:=11) dJ.nd (pN BE hr (pv 0) (aa (pv 8) (aa (pv 10) af))))
   (ah (az (i:=12) dJ.nd (aej (kk:=kk) Z7 (pv 4) (pv 11) ⟨rfl,rfl,rfl,rfl⟩))
   (ah (cC (aX ad9 (pv 12) U1 (bK _)) (ah (az (i:=12) dJ.nd (aG ((C5 (kk:=kk))) #[43] bD cU #[133]))
   (ah (cC (aX aih (pv 12) (pv 2) (bK _)) (aq (abY eM hr rfl afb #[89])) bq)
   (ah (aas (kk:=kk) Z7 (pv 4) (pv 11) (pv 12) rfl)
   (aq (aS (dN YY Ya Yb bu (pv 7) (aa (pv 11) af))))))) bq)
   (aq (aS (dN YY Ya Yb bu (pv 9) (aa (pv 12) af))))))))
   (aq (aS (dN YY Ya Yb bu (pv 5) (aa (aM aK #[43] aC bH (aa (pv 9) af)) af)))))))
   (aq (az (i:=6) dJ.nd (pv 7)))))))
   (mJ (ao8 (afi (dq (ER.mk (pv 1)) (dq (ER.mk (aM aK #[43] aC bH #[172])) (dq (ER.mk (aM aK #[43] aC bH (aa (dB rfl FR (((aep (kk:=kk))) (pv 4)) (λ_ _ _ _=>(aQ (i:=0) FR.nd)) (λ_ _ _ _=>(pN BD hr (pv 1) #[38]))) af))) DP))))))))))) ?_
 exists 0;refine⟨_,U,x,dx,_,U,i9,fB,T.begin _ _ _ d8 λg H0 s0 j9=>?_⟩;have hW:=T.same _ _ s0 d8;have hx:=s0 _ _ i9;have k:=λm' r' g' aW ps H' (s:av H0 H')=>k m' r' g' aW ps H' (s0.trans s);have kx:=λd H' ps (s:av H0 H')=>kx d H' ps (s0.trans s);refine⟨vI,λD hD=>?_⟩;have sD:=aj hD (bS kk P w D vI []);refine⟨_,U,ae,g,b0,U,kk.same j9 (λb xs e=>sD _ _ e),?_⟩;obtain⟨H1,f8⟩:∃H1,upd (upd H0 D (bS kk P w D vI [])) D (bS kk P w D vI [(b0,g)])=H1:=⟨_,rfl⟩;have s1:av H0 H1:=by rw[<-f8];exact au sD hD
 have k9:H1 D=Z (bS kk P w D vI [(b0,g)]):=by rw[<-f8,ae]
 rw[f8];refine⟨#[13],λM g8=>?_⟩;have sR:=aj g8 #[85];have l9:D≠M:=ak k9 g8;refine⟨_,U,#[36],λL0 i8=>?_⟩;obtain⟨H2,PB⟩:∃H2,upd (upd H1 M #[85]) L0 (HO.lst [V.ref g])=H2:=⟨_,rfl⟩;have rm:av H1 H2:=by rw[<-PB];exact sR.trans (aj i8 _)
 have ET:=rm _ _ k9;have art:H2 M=Z #[188]:=by rw[<-PB,ag (ak ae i8),ae]
 have hL2:H2 L0=Z (.lst ([g].map V.ref)):=by rw[<-PB,ae];rfl
 have s2:=s1.trans rm;have m9:kk.kat H2 b0 g:=kk.same j9 λb xs e=>s2 _ _ e;have fRR:H0 M=Y:=s1.free g8;rw[PB];exists 1;refine bM (t:=sZ _ _) (λO H'=>∃(ks:List #[158]) (aW:LL) (eK:List QX) (v6 v7 v8 v9 I B R:OV),O=[Z #[105],Z (.int d4),Z #[140],Z (.ref g),Z #[81],Z (.ref M),v6,v7,v8,v9,I,B,R]/\av H0 H'/\H' D=Z (bS kk P w D vI ks)/\lS kk H' ks/\H' M=Z (.lst #[78])/\bj H' eK aW/\EO st b0 d4 (fs ks) aW/\ks.length<=most/\aW.length=ks.length) ?_ #[46];exists 27
 ·refine tq (λmm O H'=>∃(ks:List #[158]) (aW:LL) (S:List κ) (eK lv:List QX) (L:QX) (v7 v8 v9 I B R:OV),mm=most-aW.length/\O=[Z #[105],Z (.int d4),Z #[140],Z (.ref g),Z #[81],Z (.ref M),Z #[143],v7,v8,v9,I,B,R]/\av H0 H'/\H' D=Z (bS kk P w D vI ks)/\lS kk H' ks/\H' M=Z (.lst #[78])/\bj H' eK aW/\EO st b0 d4 (fs ks) aW/\ks.length<=most/\H' L=Z #[132]/\M≠L/\dz kk H' lv S/\(fs ks).drop aW.length=S)
   ⟨_,[(b0,g)],[],[b0],[],[g],L0,Y,Y,Y,Y,Y,Y,rfl,rfl,s2,ET,λp hp=>by rw[jH.mp hp];exact m9,art,.nil,EO.start _ _ _,m0,hL2,ak ae i8,.cons m9 .nil,rfl⟩ ?_
  rintro mm O H3 ⟨ks,aW,S,eK,lv,L,v7,v8,v9,I,B,R,rfl,rfl,s3,OJ,k7,c7,A3,G,l6,Bb,nRL,TA,du⟩;by_cases en:lv=[]
  ·subst en;cases TA;refine⟨_,U,_,.inl ⟨_,bz Bb,U⟩,tV ?_⟩;have e:(fs ks).length<=aW.length:=List.drop_eq_nil_iff.mp du;exact cE _ _ ⟨ks,aW,eK,_,v7,v8,v9,I,B,R,U,s3,OJ,k7,c7,A3,G,l6,by rw[<-oQ];exact Nat.le_antisymm G.le e⟩
  exists _,rfl,_,.inl ⟨_,bz Bb,rfl⟩;have ne:(!(lv.map V.ref).isEmpty)=true:=by
   cases lv with
   | nil=>exact absurd rfl en
   | cons x r=>rfl
  rw[ne];have lv1:1<=lv.length:=by
   cases lv with
   | nil=>exact absurd rfl en
   | cons x r=>exact QB (je _)
  have llu:lv.length=S.length:=Paired.length TA;have pl:(fs ks).length=aW.length+S.length:=by have:=congrArg Jg du;rw[ZJ]at this;have:=G.le;omega
  have fk:=oQ ks;have lm:=l6;refine Dj ⟨λO H'=>∃m',m'<most-aW.length/\∃(ks:List #[158]) (aW:LL) (S:List κ) (eK lv:List QX) (L:QX) (v7 v8 v9 I B R:OV),m'=most-aW.length/\O=[Z #[105],Z (.int d4),Z #[140],Z (.ref g),Z #[81],Z (.ref M),Z #[143],v7,v8,v9,I,B,R]/\av H0 H'/\H' D=Z (bS kk P w D vI ks)/\lS kk H' ks/\H' M=Z (.lst #[78])/\bj H' eK aW/\EO st b0 d4 (fs ks) aW/\ks.length<=most/\H' L=Z #[132]/\M≠L/\dz kk H' lv S/\(fs ks).drop aW.length=S,λ_ _ h=>h,?_⟩;refine⟨#[13],λFr d7=>?_⟩;have sF:=aj d7 #[85];have fFr:H0 Fr=Y:=s3.free d7;have n9:D≠Fr:=ak OJ d7;have j8:M≠Fr:=ak c7 d7;have nFL:L≠Fr:=ak Bb d7;obtain⟨H4,F7⟩:∃H4,upd H3 Fr #[85]=H4:=⟨_,rfl⟩;have s4:av H0 H4:=by rw[<-F7];exact s3.trans sF
  have t4:av H3 H4:=by rw[<-F7];exact sF
  have hF4:H4 Fr=Z (.lst (([]:List QX).map V.ref)):=by rw[<-F7,ae];rfl
  rw[F7];have k8:∀{qs:List κ},(∀p∈qs,∃v,InF d4 v/\Se st b0 v=p)->∀u∈qs,OX u:=λh u Z6=>by obtain⟨v,hv,e⟩:=h u Z6;rw[<-e];exact T.all hv
  exists 1;refine⟨_,U,L,U,⟨_,bz (t4 _ _ Bb)⟩,dH (K:=K) (xs:=lv.map V.ref) (λi O H'=>∃(X:List #[158]) (cD:LL) (qs:List #[158]) (Bn J:List QX) (v8 v9 I B R:OV),
    O=[Z #[105],Z (.int d4),Z #[140],Z (.ref g),Z #[81],Z (.ref M),Z #[143],Z (.ref Fr),v8,v9,I,B,R]/\av H0 H'/\H' D=Z (bS kk P w D vI X)/\lS kk H' X/\H' M=Z (.lst (Bn.map V.ref))/\bj H' Bn cD/\EO st b0 d4 (fs X) cD/\X.length<=most/\cD.length=aW.length+i/\X=ks++qs/\H' Fr=Z (.lst (J.map V.ref))/\dz kk H' J (fs qs)/\H' L=Z #[132]/\dz kk H' lv S)
   ⟨ks,aW,[],eK,[],v8,v9,I,B,R,rfl,s4,t4 _ _ OJ,k7.same (λb xs e=>t4 _ _ e),t4 _ _ c7,A3.same (λb xs e=>t4 _ _ e),G,l6,rfl,(jZ _).symm,hF4,.nil,t4 _ _ Bb,TA.same (λb xs e=>t4 _ _ e)⟩ (λi O H' _ ⟨_,_,_,_,_,_,_,_,_,_,_,_,_,_,_,_,_,_,_,_,_,_,e,_⟩=>bz e) ?_ ?_⟩
  ·rintro i y O H5 hi ⟨X,cD,qs,Bn,J,v8,v9,I,B,R,rfl,s5,l7,m8,m7,A5,G5,o8,l5,rfl,o7,u8,MR,y8⟩;have il:i<S.length:=by have:=(iT hi).1;rw[bg]at this;omega
   obtain⟨pa,e1,e2⟩:=y8.at_ il;have ey:y=.ref pa:=by rw[jU,e1]at hi;exact(Option.some.inj hi).symm
   subst ey;have q9:(fs ks)[cD.length]?=Z S[i]:=by
    have:((fs ks).drop aW.length)[i]?=Z S[i]:=by rw[du];exact jE il
    rw[List.getElem?_drop]at this;rw[l5];exact this
   have r9:(fs (ks++qs))[cD.length]?=Z S[i]:=by rw[G1,jq (iT q9).1];exact q9
   have lu:OX S[i]:=k8 G5.re _ (sM r9);refine⟨#[13],λN m6=>?_⟩;have sO:=aj m6 #[85];have u9:H0 N=Y:=s5.free m6;have z8:D≠N:=ak l7 m6;have y9:M≠N:=ak m7 m6;have a9:Fr≠N:=ak o7 m6;have z9:L≠N:=ak MR m6;obtain⟨H6,b9⟩:∃H6,upd H5 N #[85]=H6:=⟨_,rfl⟩;have t6:av H5 H6:=by rw[<-b9];exact sO
   have hO6:H6 N=Z (.lst (([]:LI).map V.int)):=by rw[<-b9,ae];rfl
   rw[b9];exists 1;refine bM (t:=rl _ _ _) (λO H'=>∃(X qs:List #[158]) (J:List QX) (l:LI) (I B R:OV),
    O=[Z #[105],Z (.int d4),Z #[140],Z (.ref g),Z #[81],Z (.ref M),Z #[143],Z (.ref Fr),Z (.ref pa),Z (.ref N),I,B,R]/\av H0 H'/\H' D=Z (bS kk P w D vI X)/\lS kk H' X/\H' M=Z (.lst (Bn.map V.ref))/\bj H' Bn cD/\Ej st b0 d4 (fs X) cD S[i] l/\X.length<=most/\l.length=d4/\H' N=Z (.lst #[184])/\X=ks++qs/\H' Fr=Z (.lst (J.map V.ref))/\dz kk H' J (fs qs)/\H' L=Z #[132]/\dz kk H' lv S/\kk.kat H' S[i] pa) ?_ (λD1 as7=>?_)
   exists 27
   ·refine⟨_,U,_,U,by omega,by omega,?_⟩;refine ie (λj O H'=>∃(X qs:List #[158]) (J:List QX) (l:LI) (I B R:OV),
     O=[Z #[105],Z (.int d4),Z #[140],Z (.ref g),Z #[81],Z (.ref M),Z #[143],Z (.ref Fr),Z (.ref pa),Z (.ref N),I,B,R]/\av H0 H'/\H' D=Z (bS kk P w D vI X)/\lS kk H' X/\H' M=Z (.lst (Bn.map V.ref))/\bj H' Bn cD/\Ej st b0 d4 (fs X) cD S[i] l/\X.length<=most/\l.length=j/\H' N=Z (.lst #[184])/\X=ks++qs/\H' Fr=Z (.lst (J.map V.ref))/\dz kk H' J (fs qs)/\H' L=Z #[132]/\dz kk H' lv S/\kk.kat H' S[i] pa)
     ⟨ks++qs,qs,J,[],I,B,R,rfl,s5.trans t6,t6 _ _ l7,m8.same (λb xs e=>t6 _ _ e),t6 _ _ m7,A5.same (λb xs e=>t6 _ _ e),G5.next r9,o8,rfl,hO6,rfl,t6 _ _ o7,u8.same (λb xs e=>t6 _ _ e),t6 _ _ MR,y8.same (λb xs e=>t6 _ _ e),kk.same e2 (λb xs e=>t6 _ _ e)⟩ ?_ ?_
    ·rintro j O H7 hj ⟨X,qs,J,l,I,B,R,rfl,s7,o5,o6,j5,A7,G7,c6,rfl,d6,rfl,u6,g6,i6,y6,f7⟩;rw[jN]at hj;refine⟨_,U,x,dx,_,U,s7 _ _ hx,fS,_,U,_,U,T.step _ _ _ pa S[i] l.length _ (zj _) (T.same _ _ s7 hW) f7 lu hj λTh H8 s8 g7=>?_⟩;have i7:=s8 _ _ o5;have lq:(ks++qs).length<=most:=c6;have c9:=o6.same (λb xs e=>s8 _ _ e);have hm:=oQ (ks++qs);refine⟨_,U,D,vI,ks++qs,U,i7,_,U,Th,st S[i] l.length,U,i7,c9,g7,λn hn=>?_,λc=>?_⟩
     ·replace hn:(fs (ks++qs))[n]?=Z (st S[i] l.length):=hn;refine⟨_,U,U,_,U,tV ?_⟩;have j7:=s8 _ _ d6;refine⟨_,U,.inl ⟨U,_,bz j7⟩,_,U,N,_,_,U,U,j7,DI #[24],?_⟩;have m:∀b u,b≠N->H7 b=Z u->(upd H8 N (.lst (l.map V.int++[V.int (n:Int)]))) b=Z u:=λb u n e=>by rw[ag n];exact s8 _ _ e
      have up:∀b xs,H7 b=Z #[39]->(upd H8 N (.lst (l.map V.int++[V.int (n:Int)]))) b=Z #[39]:=λb xs e=>m b _ (aA e d6 #[0]) e;exact⟨_,qs,J,l++[(n:Int)],_,_,_,U,au (s7.trans s8) u9,m _ _ z8 o5,o6.same up,m _ _ y9 j5,A7.same up,G7.old hn,c6,by rw[jG];rfl,by rw[ae,jB];rfl,U,m _ _ a9 u6,g6.same up,m _ _ z9 i6,y6.same up,kk.same f7 up⟩
     ·replace c:st S[i] l.length∉fs (ks++qs):=c;have G8:=G7.new hj c;refine⟨_,U,U,_,U,Dj ?_⟩;refine⟨_,U,D,_,_,U,i7,_,U,_,U,_,_,U,U,_,U,adv (λz=>?_) (λz=>?_)⟩
      ·have z':=of_decide_eq_true z;refine⟨_,U,(by show 1<=8;decide),λxa hxa=>⟨xa,(most:Int),U,ae,V9 #[2] #[2],λd hd nd=>⟨U,d,?_,?_⟩⟩⟩
       ·rw[ag (Ne.symm nd),ae]
       ·refine kx d _ (fs (ks++qs)++[st S[i] l.length]) ?_ ?_ G8.nd G8.re ?_
        ·intro b u eb;have e8:=(s7.trans s8) _ _ eb;have nb:b≠xa:=ak e8 hxa;have nbd:b≠d:=ak (a:=b) (show(upd H8 xa _) b=Z u by rw[ag nb];exact e8) hd;rw[mW nb,ag nbd,ag nb,ag nb];exact e8
        ·rw[mW nd,ae]
        ·rw[jG,ja];omega
      have z':¬ (most:Int)<=((ks++qs).length:Int):=λq=>z (decide_eq_true q);refine⟨_,U,_,U,_,U,D,Th,st S[i] l.length,vI,ks++qs,U,U,U,i7,c9,g7,c,DI #[2],?_⟩;have j7:=s8 _ _ d6;have hF8:=s8 _ _ u6;obtain⟨u',eu⟩:∃u',st S[i] l.length=u':=⟨_,rfl⟩;rw[eu]at G8 g7 ⊢;rw[oQ,show fs (ks++qs)++[u']=fs (ks++qs++[(u',Th)]) by rw[G1 (ks++qs)];rfl]at G8;obtain⟨H9,e9⟩:∃H9,upd H8 D (bS kk P w D vI (ks++qs++[(u',Th)]))=H9:=⟨_,rfl⟩;rw[e9];have o9:∀b u,b≠D->H8 b=Z u->H9 b=Z u:=λb u n e=>by rw[<-e9,ag n];exact e
      have hF9:=o9 _ _ (Ne.symm n9) hF8;have hO9:=o9 _ _ (Ne.symm z8) j7;have lfr:=g6.length;have lpq:(ks++qs).length=ks.length+qs.length:=jG;have lfq:=oQ qs;refine⟨_,U,.inl ⟨U,_,bz hF9⟩,_,U,Fr,_,_,U,U,hF9,DI #[24],?_⟩;have amT:(upd H9 Fr (.lst (J.map V.ref++[V.ref Th]))) N=Z (.lst #[184]):=by rw[ag (Ne.symm a9)];exact hO9
      refine⟨_,U,.inl ⟨U,_,bz amT⟩,_,U,N,_,_,U,U,amT,DI #[24],?_⟩;obtain⟨AR,z6⟩:∃AR,upd (upd H9 Fr (.lst (J.map V.ref++[V.ref Th]))) N (.lst (l.map V.int++[V.int ((ks++qs).length:Int)]))=AR:=⟨_,rfl⟩;have m:∀b u,b≠N->b≠Fr->b≠D->H8 b=Z u->AR b=Z u:=λb u n1 n2 n3 e=>by rw[<-z6,ag n1,ag n2];exact o9 _ _ n3 e
      have u7:∀b xs,H8 b=Z #[39]->AR b=Z #[39]:=λb xs e=>m b _ (aA e j7 #[0]) (aA e hF8 #[0]) (aA e i7 #[0]) e;have up:∀b xs,H7 b=Z #[39]->AR b=Z #[39]:=λb xs e=>u7 _ _ (s8 _ _ e);have s11:av H0 AR:=by rw[<-z6,<-e9];exact au (au (au (s7.trans s8) hD) fFr) u9
      have ajb:AR D=Z (bS kk P w D vI (ks++qs++[(u',Th)])):=by rw[<-z6,ag z8,ag n9,<-e9,ae]
      have ara:lS kk AR (ks++qs++[(u',Th)]):=λp hp=>by
       rcases sJ.mp hp with z|z
       ·exact kk.same (c9 p z) u7
       ·rw[jH.mp z];exact kk.same g7 u7
      have aq6:AR Fr=Z (.lst ((J++[Th]).map V.ref)):=by rw[<-z6,ag a9,ae,jB];rfl
      have aro:AR N=Z (.lst ((l++[((ks++qs).length:Int)]).map V.int)):=by rw[<-z6,ae,jB];rfl
      have c8:∃(X qs':List #[158]) (J:List QX) (d9:LI) (atY B R:OV),[Z (V.ref x),Z (.int d4),Z #[140],Z (.ref g),Z #[81],Z (.ref M),Z #[143],Z (.ref Fr),Z (.ref pa),Z (.ref N),Z (.int (0+(l.length:Int))),Z (.ref Th),Z (.int ((ks++qs).length:Int))]=[Z #[105],Z (.int d4),Z #[140],Z (.ref g),Z #[81],Z (.ref M),Z #[143],Z (.ref Fr),Z (.ref pa),Z (.ref N),atY,B,R]/\av H0 AR/\AR D=Z (bS kk P w D vI X)/\lS kk AR X/\AR M=Z (.lst (Bn.map V.ref))/\bj AR Bn cD/\Ej st b0 d4 (fs X) cD S[i] d9/\X.length<=most/\d9.length=l.length+1/\AR N=Z (.lst (d9.map V.int))/\X=ks++qs'/\AR Fr=Z (.lst (J.map V.ref))/\dz kk AR J (fs qs')/\AR L=Z #[132]/\dz kk AR lv S/\kk.kat AR S[i] pa:=
       ⟨ks++qs++[(u',Th)],qs++[(u',Th)],J++[Th],l++[((ks++qs).length:Int)],_,_,_,rfl,s11,ajb,ara,m _ _ y9 j8 (Ne.symm l9) (s8 _ _ j5),A7.same up,G8,by rw[jG,ja];omega,by rw[jG];rfl,aro,jv ..,aq6,(by rw[G1];exact dz.snoc (g6.same up) (kk.same g7 u7)),m _ _ z9 nFL (aA i6 o5 #[0]) (s8 _ _ i6),y6.same up,kk.same f7 up⟩
      rw[<-z6]at c8;exact c8
    ·rintro O H7 ⟨X,qs,J,l,I,B,R,rfl,s7,o5,o6,j5,A7,G7,c6,y7,d6,rfl,u6,g6,i6,y6,f7⟩;rw[jN]at y7;exact as7 _ _ ⟨_,qs,J,l,I,B,R,U,s7,o5,o6,j5,A7,G7,c6,y7,d6,U,u6,g6,i6,y6,f7⟩
   ·rintro O H7 ⟨X,qs,J,l,I,B,R,rfl,s7,o5,o6,j5,A7,G7,c6,y7,d6,rfl,u6,g6,i6,y6,_⟩;have lt7:=(iT G7.at_).1;have lq:(ks++qs).length<=most:=c6;refine⟨_,U,.inl ⟨U,_,bz j5⟩,_,U,N,_,U,.inl ⟨bz d6,λt ht=>?_⟩⟩;have nRt:M≠t:=ak j5 ht;have s8:=aj ht (HO.tup #[184]);have lra:=A7.length;refine⟨M,_,_,U,U,s8 _ _ j5,DI #[24],?_⟩;have up:∀b xs,H7 b=Z #[39]->(upd (upd H7 t (.tup #[184])) M (.lst (Bn.map V.ref++[V.ref t]))) b=Z #[39]:=λb xs e=>by rw[ag (aA e j5 #[0]),ag (ak e ht)];exact e
    have m:∀b u,b≠M->H7 b=Z u->(upd (upd H7 t (.tup #[184])) M (.lst (Bn.map V.ref++[V.ref t]))) b=Z u:=λb u n e=>by rw[ag n];exact s8 _ _ e
    refine⟨ks++qs,cD++[l],qs,Bn++[t],J,_,_,_,_,_,U,au (s7.trans s8) fRR,m _ _ l9 o5,o6.same up,by rw[ae,jB];rfl,bj.snoc (A7.same up) (by rw[ag (Ne.symm nRt),ae]),G7.done y7,c6,by rw[jG,ja,l5];rfl,U,m _ _ (Ne.symm j8) u6,g6.same up,m _ _ (Ne.symm nRL) i6,y6.same up⟩
  ·rintro O H5 ⟨X,cD,qs,Bn,J,v8,v9,I,B,R,rfl,s5,l7,m8,m7,A5,G5,o8,l5,rfl,o7,u8,MR,y8⟩;rw[bg]at l5;refine⟨_,U,most-cD.length,?_,ks++qs,cD,fs qs,Bn,J,Fr,Z (.ref Fr),v8,v9,I,B,R,U,U,s5,l7,m8,m7,A5,G5,o8,o7,j8,u8,?_⟩
   ·omega
   ·rw[l5,llu,<-pl,G1,List.drop_append_of_le_length (jD _),QA,zp]
 rintro O H3 ⟨ks,aW,eK,v6,v7,v8,v9,I,B,R,rfl,s3,OJ,k7,c7,A3,G,l6,el⟩;refine⟨_,U,_,U,M,_,U,.inl ⟨bz c7,λrt hrt=>?_⟩⟩;have s4:=aj hrt (HO.tup #[78]);refine⟨_,U,D,_,_,U,s4 _ _ OJ,λo=>?_⟩;obtain⟨Hf,z7⟩:∃Hf,upd (upd H3 rt (HO.tup #[78])) D (pV kk P w D vI ks o)=Hf:=⟨_,rfl⟩;have sf:av H0 Hf:=by rw[<-z7];exact au (s3.trans s4) hD
 have hDf:Hf D=Z (pV kk P w D vI ks o):=by rw[<-z7,ae]
 have f9:∀b xs,(upd H3 rt (HO.tup #[78])) b=Z #[39]->Hf b=Z #[39]:=λb xs e=>by rw[<-z7,ag (aA e (s4 _ _ OJ) #[0])];exact e
 have hKf:lS kk Hf ks:=k7.same λb xs e=>f9 _ _ (s4 _ _ e);have k8:∀u∈fs ks,OX u:=λu Z6=>by obtain⟨v,hv,e⟩:=G.re u Z6;rw[<-e];exact T.all hv
 have lm:=l6;rw[z7];refine SS (λDl i ys H'=>av Hf H'/\ys=(((fs ks).take i).map sg).map V.int) (λDl b8=>⟨aj b8 _,U⟩) (λDl i ys H' _ ⟨e,_⟩=>e _ _ hDf) ?_ ?_
 ·rintro Dl i p ys H4 Q' b8 hi hy ⟨s5,rfl⟩ k';have Z6:(fs ks)[i]?=Z p.1:=by unfold fs;rw[jU,hi];rfl
  have fk:=oQ ks;have hb:kk.kat H4 p.1 p.2:=kk.same (hKf p (sM hi)) λb xs e=>s5 _ _ e;have il:=(iT Z6).1;have lu:=k8 p.1 (sM Z6);refine⟨_,U,x,dx,_,U,s5 _ _ (sf _ _ hx),fG,_,U,T.sign _ _ _ p.2 p.1 (T.same _ _ (sf.trans s5) hW) hb lu λH9 s9=>k' _ _ (s9 _ _ hy) (DI (by rw[bg,bg,jT];omega)) ⟨au (s5.trans s9) b8,?_⟩⟩;rw[jO,Z6,jB,jB];rfl
 ·rintro Dl ys H4 b8 hy ⟨s5,rfl⟩;rw[<-oQ,jR]at hy;refine⟨Dl,_,U,.inl ⟨bz hy,λgt hgt=>?_⟩⟩;have s6:=aj hgt (HO.tup (((fs ks).map sg).map V.int));refine⟨#[56],λm' hm'=>?_⟩;have s7:=aj hm' (HO.tup [V.int d4,V.ref rt,V.ref gt]);have g9:=s6.trans s7;exact k m' rt gt aW (fs ks) _ (sf.trans (s5.trans g9)) ⟨ae,⟨eK,g9 _ _ (s5 _ _ (f9 _ _ ae)),A3.same λb xs e=>g9 _ _ (s5 _ _ (f9 _ _ (s4 _ _ e)))⟩,s7 _ _ ae⟩ G (by rw[oQ];exact el) (by rw[oQ];exact l6)
end
end
abbrev BI:=Int×Str
def Fw(H:Hp)(a:QX)(p:BI):Prop:=H a=Z #[125]
def oK(H:Hp)(v:V)(ps:List BI):Prop:=∃(a:QX) (as:List QX),v=.ref a/\H a=Z (.tup #[49])/\Qs (Fw H) as ps
abbrev fH(H H':Hp):Prop:=∀(b:QX) (xs:List V),H b=Z #[39]->H' b=Z #[39]
def Bw(s:av H H'):fH H H':=λb xs e=>s _ _ e
def oK.same{ps:List BI}(h:oK H v ps)(s:fH H H'):oK H' v ps:=by obtain⟨a,as,e,G,M⟩:=h;exact⟨a,as,e,s _ _ G,Paired.rH M λ_ _ q=>s _ _ q⟩
abbrev Look:=Str×List BI
inductive At where
 | sg (l:Look) (n:Int)
 | lk (l m:Look)
def eJ(H:Hp)(v:V):At->Prop
 | .sg l n=>∃(x:QX) (va:V),v=.ref x/\H x=Z (.tup [.str "is",.str l.1,va,.int n])/\oK H va l.2
 | .lk l m=>∃(x:QX) (va vb:V),v=.ref x/\H x=Z (.tup [.str "like",.str l.1,va,.str m.1,vb])/\oK H va l.2/\oK H vb m.2
theorem eJ.same(s:fH H H'):∀{t:At} {v:V},eJ H v t->eJ H' v t
 | .sg _ _,v,⟨x,D,e,h,G⟩=>⟨x,D,e,s _ _ h,G.same s⟩
 | .lk _ _,v,⟨x,D,b,e,h,G,M⟩=>⟨x,D,b,e,s _ _ h,G.same s,M.same s⟩
def cB:At->List Look
 | .sg l _=>[l]
 | .lk l m=>[l,m]
def Az(ps:List BI):Prop:=ps.length<=2/\∀p∈ps,(0<=p.1/\p.1<=999)/\p.2.length<=100
def Dp(t:At):(cB t).length<=2:=by cases t<;>(first|exact(show 1<=2 by decide)|exact jD _)
def Ld{a b:Str}:(V.str a=V.str b)↔a=b:=⟨λh=>V.str.inj h,λh=>by rw[h]⟩
theorem B9{R:QX->BI->Prop}:∀{as:List QX} {ps:List BI} {i:Nat} {y:V},Qs R as ps->#[49][i]?=Z y->∃(a:QX) (p:BI),y=.ref a/\R a p/\ps[i]?=Z p
 | _,_,_,_,.nil,h=>by simp at h
 | _,_,0,_,.cons (a:=a) (b:=p) r _,h=>⟨a,p,#[127].symm,r,rfl⟩
 | _,_,i+1,_,.cons _ t,h=>by obtain⟨a,p,e,r,q⟩:=B9 (i:=i) t #[113];exact⟨a,p,e,r,by simpa using q⟩
theorem HN{R:V->β->Prop}:∀{us:List V} {ss:List β} {i:Nat} {y:V},Qs R us ss->us[i]?=Z y->∃s,R y s/\ss[i]?=Z s
 | _,_,_,_,.nil,h=>by simp at h
 | _,_,0,_,.cons (b:=s) r _,h=>⟨s,Option.some.inj h▸r,rfl⟩
 | _,_,i+1,_,.cons _ t,h=>by obtain⟨s,r,q⟩:=HN (i:=i) t #[113];exact⟨s,r,by simpa using q⟩
def ifT{b:Bool}{A B:Prop}(h:b=true)(a:A):if b=true then A else B:=by rw[if_pos h];exact a
def Sd{b:Bool}{A B:Prop}(h:b=false)(a:B):if b=true then A else B:=by rw[if_neg (by rw[h];decide)];exact a
def Cv{ns:List Str}{y:V}(h:(ns.map V.str)[i]?=Z y):∃z,y=V.str z/\ns[i]?=Z z:=by
 rw[jU]at h;cases e:ns[i]? with
 | none=>rw[e]at h;cases h
 | some z=>rw[e]at h;exact⟨z,#[127].symm,rfl⟩
def mv(ps:List BI):List Str:=(ps.filter λp=>decide (p.2≠("" : Str))).map (·.2)
def eZ(t:At):List Str:=#[104].flatMap mv
structure Fh(t:At):Prop where
 ok:∀l∈cB t,l.1.length<=1000/\Az l.2
 nm:∃x y:Str,∀z∈eZ t,z=x\/z=y
structure tP(zs xs:List Str):Prop where
 so:zs.Pairwise N4
 nd:zs.Nodup
 mem:∀x,x∈zs↔x∈xs
def tP.LX{ms ns:List Str}(p:ms.Perm (dW ns))(k:ms.Pairwise N4):tP ms ns:=
 ⟨k,p.nodup_iff.mpr (Ed ns),λx=>by rw[p.mem_iff,L3]⟩
def ab8(ps:List BI)(p:BI):mv (ps++[p])=mv ps++(if p.2=("" : Str)then []else [p.2]):=by
 unfold mv;rw[JY,jB];congr 1;by_cases c:p.2=("" : Str)
 ·rw[if_pos c,JG (by simp[c])];rfl
 ·rw[if_neg c,JR (by simp[c])];rfl
def ae1{ps:List BI}(h:Az ps):(mv ps).length<=2:=by unfold mv;rw[bg];exact jW (JI ..) h.1
def N4.aqv{a b:Str}(h:N4 a b)(h':N4 b a):a=b:=by have e:a.cps.toList=b.cps.toList:=List.le_antisymm (zt.mp h) (zt.mp h');cases a;cases b;congr 1;exact Array.toList_inj.mp e
theorem aaj:∀{zs ws:List Str},zs.Pairwise N4->zs.Nodup->ws.Pairwise N4->ws.Nodup->(∀x,x∈zs↔x∈ws)->zs=ws
 |[],[],_,_,_,_,_=>rfl
 |[],w::ws,_,_,_,_,h=>absurd ((h w).mpr jC) jr
 | z::zs,[],_,_,_,_,h=>absurd ((h z).mp jC) jr
 | z::zs,w::ws,C,d,G,f,h=>by
  have i:=Jt.mp C;have l:=Jt.mp G;have a:=jn.mp d;have b:=jn.mp f;have e:z=w:=by
   rcases jL.mp ((h z).mp jC)with c|c
   ·exact c
   ·rcases jL.mp ((h w).mpr jC)with R|R
    ·exact R.symm
    ·exact N4.aqv (i.1 _ R) (l.1 _ c)
  subst e;rw[aaj i.2 a.2 l.2 b.2 λx=>⟨λJ=>?_,λJ=>?_⟩]
  ·rcases jL.mp ((h x).mp (jJ _ J))with c|c
   ·exact absurd (c▸J) a.1
   ·exact c
  ·rcases jL.mp ((h x).mpr (jJ _ J))with c|c
   ·exact absurd (c▸J) b.1
   ·exact c
def tP.uniq{ws xs:List Str}(h:tP zs xs)(h':tP ws xs):zs=ws:=aaj h.so h.nd h'.so h'.nd λx=>(h.mem x).trans (h'.mem x).symm
def Iy(ps:List BI)(x:Str):Int:=ahv #[95]
def R7(ps:List BI)(p:BI)(x:Str):(((ps++[p]).filter λp=>decide (p.2=x)).map (·.1))=#[95]++(if p.2=x then [p.1]else []):=by
 rw[JY,jB];congr 1;by_cases c:p.2=x
 ·rw[if_pos c,JR (by simp[c])];rfl
 ·rw[if_neg c,JG (by simp[c])];rfl
theorem sum_in:∀(ns:LI) (a:Int),(∀z∈ns,0<=z/\z<=999)->a<=ns.foldl (·+·) a/\ns.foldl (·+·) a<=a+999*ns.length
 |[],a,_=>by simp
 | n::ns,a,h=>by have G:=h n jC;have K:=sum_in ns (a+n) λz C=>h z (jJ _ C);rw[JQ,jX];omega
def afk{ps:List BI}(h:Az ps)(x:Str):0<=Iy ps x/\Iy ps x<=2000:=by
 unfold Iy ahv;have l:#[95].length<=2:=by rw[bg];exact jW (JI ..) h.1
 have:=sum_in #[95] 0 λz C=>by obtain⟨p,D,rfl⟩:=jK.mp C;exact(h.2 p (js.mp D).1).1
 omega
theorem lP[DecidableEq α]:∀{ps vs:List α},ps.Nodup->(∀p∈ps,p∈vs)->ps.length<=vs.length
 |[],_,_,_=>je _
 | p::ps,vs,O,h=>by have L:=jn.mp O;have D:=h p jC;have:=lP (vs:=vs.erase p) L.2 λq W=>(ZY (show q≠p from λz=>L.1 (by rw[<-z];exact W))).mpr (h q (jJ _ W));rw[ZO D]at this;have:=Ji D;rw[jX];omega
def HK{t:At}(h:tP zs (eZ t))(ok:Fh t):zs.length<=2:=by obtain⟨x,y,e⟩:=ok.nm;exact lP (vs:=[x,y]) h.nd λz C=>by rcases e z ((h.mem z).mp C)with q|q<;>rw[q]<;>simp
def N0:List V:=[.str "=",.str "<=",.str "<"]
def N1:List V:=[.str "and",.str "or"]
def Hu:List V:=[.str "some",.str "all"]
def aia:At->Str
 | .sg .. => "is"
 | .lk .. => "like"
structure KF(k:Str)(b:Bool):Prop where
 c:inV (.str k) N0=false
 s:decide (V.str k=V.str (Str.ofString "is"))=b
 l:decide (V.str k=V.str (Str.ofString "like"))=!b
 n:decide (V.str k=V.str (Str.ofString "not"))=false
 j:inV (.str k) N1=false
 h:inV (.str k) Hu=false
def Ht:KF "is" true:=⟨by decide +kernel,by decide +kernel,by decide +kernel,by decide +kernel,by decide +kernel,by decide +kernel⟩
def mZ:KF "like" false:=⟨by decide +kernel,by decide +kernel,by decide +kernel,by decide +kernel,by decide +kernel,by decide +kernel⟩
def kf_at(t:At):∃b,KF (aia t) b:=by cases t<;>exact⟨_,by first|exact Ht|exact mZ⟩
theorem M9:∀{H:Hp} {v:V} {t:At},eJ H v t->∃(x:QX) (rest:List V),v=.ref x/\H x=Z (.tup (.str (aia t)::rest))
 | _,_,.sg ..,⟨x,_,e,h,_⟩=>⟨x,_,e,h⟩
 | _,_,.lk ..,⟨x,_,_,e,h,_,_⟩=>⟨x,_,e,h⟩
def at0{x:V}{r:List V}:tW (x::r) 0=Z x:=by unfold tW ixN;rw[if_pos #[10],if_pos (by rw[jX];omega)];rfl
inductive V5 (vs:List V) (H:Hp) (Q:VK) (E:XK):Prop
 | mk (v:V) (t:At) (_:vs=[v]) (_:eJ H v t) (_:∀(T:QX) (H':Hp),av H H'->H' T=Z (.tup [])->Q #[164] H')
inductive aeU (vs:List V) (H:Hp) (Q:VK) (E:XK):Prop
 | mk (v:V) (t:At) (_:vs=[v]) (_:eJ H v t) (_:∀(T:QX) (us:List V) (H':Hp),av H H'->H' T=Z (.tup us)->Qs (oK H') us #[104]->Q #[164] H')
inductive RT (vs:List V) (H:Hp) (Q:VK) (E:XK):Prop
 | mk (v:V) (t:At) (_:vs=[v]) (_:eJ H v t) (_:∀(T:QX) (H':Hp),av H H'->H' T=Z (.tup (#[128].map V.str))->Q #[164] H')
inductive Ih (vs:List V) (H:Hp) (Q:VK) (E:XK):Prop
 | mk (v:V) (t:At) (_:vs=[v]) (_:eJ H v t) (_:Fh t) (_:∀(T:QX) (zs:List Str) (H':Hp),av H H'->H' T=Z #[116]->tP zs (eZ t)->Q #[164] H')
inductive Im (vs:List V) (H:Hp) (Q:VK) (E:XK):Prop
 | mk (v:V) (t:At) (_:vs=[v]) (_:eJ H v t) (_:∀(L:QX) (H':Hp),av H H'->H' L=Z (.lst [v])->Q #[143] H')
inductive RV (vs:List V) (H:Hp) (Q:VK) (E:XK):Prop
 | mk (v:V) (t:At) (_:vs=[v]) (_:eJ H v t) (_:∀(T:QX) (zs:List Str) (H':Hp),av H H'->H' T=Z #[116]->(∀z∈zs,z∈(cB t).map (·.1))->zs.length<=2->Q #[164] H')
section
def rP:ax ["statement","kind"] ["statement"] (ao mG):=cb #[1]
def Ib:ax ["statement","kind"] ["statement"] (ao DC):=cb #[1]
def tL:ax ["statement","kind"] ["statement"] (ao pk):=cb #[1]
def Fc:ax ["statement","names","added","inside"] ["statement"] (ao Ov):=cb #[1]
def Lk:aO ["statement","names","added","inside"] (ao Ov) ["part"] [Y] ⟨.function,[#[48],("part",.local)],false,false,[]⟩:=oh #[1]
def oq:ax ["statement","pieces","waiting","piece"] ["statement"] (ao wZ):=cb #[1]
def Bv:ax ["statement","names","piece"] ["statement"] (ao DB):=cb #[1]
def agW(F:aY K "statements_in" "statements_in" mG dV f fd)(a:mg "JOINING" = Z (.ref TJ))(z:mg "CHOOSING" = Z (.ref TH))(u:∀H,lU K H TJ N1)(R:∀H,lU K H TH Hu):aR P w K mg base dy 1 f fd ["statement"] V5:=by
 refine F.ok rP (λd H Q E h=>?_) (λbP A I s H d Q E S h=>?_)
 ·exists 26;rfl
 obtain⟨v,t,rfl,M,q⟩:=h;obtain⟨b,c⟩:=kf_at t;obtain⟨x,rest,rfl,J⟩:=M9 M;refine⟨_,(ah (az (i:=1) rP.nd #[12])
   (ah (cC #[134] (aq (aH (ck (aa #[12] af)))) bq)
   (ah (cC (aX eX (pv 1) (cJ (v:=.ref _) rfl a rfl) #[25]) #[111] bq)
   (ah (cC (aX eX (pv 1) (cJ (v:=.ref _) rfl z rfl) #[25]) (aq (aH (ck (aa #[12] af)))) bq)
   (aq (aH (ck af))))))),?_⟩
 exists 0;exists _,rfl,x,_,_,_,rfl,rfl,bN J,at0;refine⟨_,U,U,_,U,Sd c.n ?_⟩;refine⟨_,U,TJ,_,U,.inr (u _),U,U,_,U,Sd c.j ?_⟩;refine⟨_,U,TH,_,U,.inr (R _),U,U,_,U,Sd c.h ?_⟩;exact⟨#[13],λT r=>q T _ (aj r _) ae⟩
def agX(F:aY K "sums_in" "sums_in" DC dV f fd)(d:mg "COMPARING" = Z (.ref TC))(O:∀H,lU K H TC N0):aR P w K mg base dy 1 f fd ["statement"] aeU:=by
 refine F.ok Ib (λe H Q E h=>?_) (λbP A I s H e Q E S h=>?_)
 ·exists 26;rfl
 obtain⟨v,t,rfl,M,q⟩:=h;refine⟨_,(ah (az (i:=1) Ib.nd #[12])
   (ah (cC (aX eX (pv 1) (cJ (v:=.ref _) rfl d rfl) #[25]) #[111] bq)
   (ah (cC #[134] (aq (aH (ck (aa #[12] af)))) bq)
   (ah (cC #[134] #[111] bq)
   (aq (aH (ck af))))))),?_⟩
 exists 0;cases t with
 | sg l n=>
  obtain⟨x,D,rfl,J,a⟩:=M;exists _,rfl,x,_,_,_,rfl,rfl,bN J,rfl;refine⟨_,U,TC,_,U,.inr (O _),U,U,_,U,Sd Ht.c ?_⟩;refine⟨_,U,U,_,U,ifT Ht.s ?_⟩;refine⟨_,U,x,_,_,_,U,U,bN J,U,#[36],λT r=>?_⟩;have s1:=aj r (HO.tup [D]);exact q T [D] _ s1 ae (.cons (a.same (Bw s1)) .nil)
 | lk l m=>
  obtain⟨x,D,b,rfl,J,a,B⟩:=M;exists _,rfl,x,_,_,_,rfl,rfl,bN J,rfl;refine⟨_,U,TC,_,U,.inr (O _),U,U,_,U,Sd mZ.c ?_⟩;refine⟨_,U,U,_,U,Sd mZ.s ?_⟩;refine⟨_,U,U,_,U,ifT mZ.l ?_⟩;refine⟨_,U,x,_,_,_,U,U,bN J,U,_,U,x,_,_,_,U,U,bN J,U,#[14],λT r=>?_⟩;have s1:=aj r (HO.tup [D,b]);exact q T [D,b] _ s1 ae (.cons (a.same (Bw s1)) (.cons (B.same (Bw s1)) .nil))
def abN(F:aY K "row_names_in" "row_names_in" pk dV f fd):aR P w K mg base dy 1 f fd ["statement"] RT:=by
 refine F.ok tL (λa H Q E h=>?_) (λbP A I s H a Q E S h=>?_)
 ·exists 26;rfl
 obtain⟨v,t,rfl,M,q⟩:=h;refine⟨_,(ah (az (i:=1) tL.nd #[12])
   (ah (cC #[134] (aq (aH (ck (aa #[12] af)))) bq)
   (ah (cC #[134] #[111] bq)
   (aq (aH (ck af)))))),?_⟩
 exists 0;cases t with
 | sg l n=>
  obtain⟨x,D,rfl,J,b⟩:=M;exists _,rfl,x,_,_,_,rfl,rfl,bN J,rfl;refine⟨_,U,U,_,U,ifT Ht.s ?_⟩;exact⟨_,U,x,_,_,_,U,U,bN J,U,#[36],λT r=>q T _ (aj r _) ae⟩
 | lk l m=>
  obtain⟨x,D,c,rfl,J,b,B⟩:=M;exists _,rfl,x,_,_,_,rfl,rfl,bN J,rfl;refine⟨_,U,U,_,U,Sd mZ.s ?_⟩;refine⟨_,U,U,_,U,ifT mZ.l ?_⟩;exact⟨_,U,x,_,_,_,U,U,bN J,U,_,U,x,_,_,_,U,U,bN J,U,#[14],λT r=>q T _ (aj r _) ae⟩
def agP(F:aY K "free" "free" Ov dV f fd)(dP:mg "CHOOSING" = Z (.ref TH))(R:∀H,lU K H TH Hu)(cZ:bc P w K mg base "statements_in" 1 ["statement"] [] V5)(CS:bc P w K mg base "sums_in" 1 ["statement"] [] aeU)(aC:mg "tuple" = Y)(iR:mg "sorted" = Y)(Mm:mg "set" = Y):aR P w K mg base dy 2 f fd ["statement"] Ih:=by
 refine F.ok Fc #[22] (λbP A j5 s H vs Q E hr h=>?_)
 ·exists 26;rfl
 obtain⟨v,t,rfl,fU,ok,q⟩:=h;obtain⟨kb,kf⟩:=kf_at t;have l1:=Dp t;have lm:#[104].length=(cB t).length:=jQ _;refine si (aJ (iU.mk (az (i:=1) Fc.nd (bI af)))
   (aJ (iU.mk (bL PassesOwn.never rfl (eS (aU CS hr #[38])) (aQ (i:=2) Fc.nd) (aq (aS (dN YY yM yN HI (pv 1) (aa (HP rfl Lk (eS (pv 2)) (λ_ _ _ _=>(aQ (i:=0) Lk.nd)) (λ_ _ _ _=>(aX aol (aB (pK K) (pv 0) ar #[3]) cz (bK _))) (λ_ _ _ _=>(aB (pK K) (pv 0) ar #[3]))) af))))))
   (aJ (iU.mk (bL PassesOwn.never rfl (eS (aU cZ hr #[38])) (aQ (i:=3) Fc.nd) (aq fu)))
   (aJ (iU.mk (cC (aX eX #[12] (cJ (v:=.ref _) rfl dP rfl) #[25]) (aq fu) bq))
   (mJ (iU.mk (aH (aM aK #[43] aC bH (aa (aG ((AD rfl)) #[43] iR C1 (aa (aM ((FW rfl)) #[43] Mm acJ #[80]) af)) af))))))))) ?_
 exists 0;refine⟨#[13],λm X=>?_⟩;have sn:=aj X #[85];exists 1;refine bM (t:=rl _ _ _) (λO H'=>∃(d:OV),O=[Z v,Z #[147],d,Y]/\av H H'/\H' m=Z (.lst ((eZ t).map V.str))/\(eZ t).length<=4) ?_ #[117];exists 27
 ·refine⟨_,U,v,t,U,eJ.same (Bw sn) fU,λT k H1 s1 r hu=>⟨T,U,⟨_,bN r⟩,?_⟩⟩;have lu:k.length=#[104].length:=Paired.length hu;have n:=s1 _ _ (ae (H:=H) (a:=m) (o:=HO.lst []));refine pH (K:=K) (xs:=k) (λi O H'=>∃(d:OV),O=[Z v,Z #[147],d,Y]/\av H H'/\H' m=Z (.lst (((#[104].take i).flatMap mv).map V.str))/\H' T=Z (.tup k)/\Qs (oK H') k #[104]/\((#[104].take i).flatMap mv).length<=2*i) ⟨Y,U,sn.trans s1,n,r,hu,je _⟩ (λi O H' _ ⟨_,_,_,_,h,_,_⟩=>bN h) ?_ ?_
  ·rintro i y O G hi ⟨d,rfl,s2,u,M,Z7,xl⟩;obtain⟨ps,hp,B⟩:=HN Z7 hi;have L:Az ps:=by obtain⟨l,hl,e⟩:=jK.mp (sM B);rw[<-e];exact(ok.ok l hl).2
   have il:=(iT B).1;have nl:=ae1 L;have e1:(#[104].take (i+1)).flatMap mv=(#[104].take i).flatMap mv++mv ps:=by rw[jO,B,zq];simp
   obtain⟨b,as,rfl,hb,hA⟩:=hp;have o5:as.length=ps.length:=Paired.length hA;have d6:=L.1;exists _,rfl,.inl ⟨rfl,_,bz u⟩,_,rfl,b,rfl,⟨_,bN hb⟩;refine Lq (K:=K) (xs:=as.map V.ref) (λD j I H'=>av G H'/\I=(mv (ps.take j)).map V.str) (λD hD=>⟨aj hD _,U⟩) (λD j I H' _ ⟨e,_⟩=>bN (e _ _ hb)) ?_ ?_
   ·rintro D j y I H' Qy Qn hD hj g ⟨hs,rfl⟩ ky kn;obtain⟨c,p,rfl,hc,c6⟩:=B9 hA hj;have CF:H' c=Z #[125]:=hs _ _ hc;have e2:mv (ps.take (j+1))=mv (ps.take j)++(if p.2=("" : Str)then []else [p.2]):=by rw[jO,c6,<-ab8];rfl
    have jl:(mv (ps.take j)).length<=2:=by unfold mv;rw[bg];refine jW (JI ..) ?_;rw[jT];omega
    refine⟨_,U,c,_,_,_,U,U,bN CF,U,U,_,U,adw (λz=>?_) (λz=>?_)⟩
    ·have z':¬ p.2=("" : Str):=λy=>z (Ld.mpr y);refine⟨_,U,c,_,_,_,U,U,bN CF,U,ky _ _ g #[187] ⟨au hs hD,?_⟩⟩;rw[e2,if_neg z',jB];rfl
    ·refine kn _ g ⟨hs,?_⟩;rw[e2,if_pos (Ld.mp z),jZ]
   ·rintro lf I H3 fl g ⟨J,rfl⟩;rw[bg,o5,jR]at g;have N:=J _ _ u;refine .inl ⟨m,lf,_,_,U,U,N,g,jW (show _<=1000 by rw[bg,bg];omega) #[10],?_⟩;refine⟨_,U,au (s2.trans J) X,by rw[ae,e1,jB],by rw[ag (aA (J _ _ M) N #[0])];exact J _ _ M,Paired.rH Z7 λ_ _ e=>e.same (λc zs e=>?_),by rw[e1,jG];omega⟩;rw[ag (aA (J _ _ e) N #[0])];exact J _ _ e
  ·rintro O G ⟨d,rfl,s2,u,M,Z7,xl⟩;rw[lu,jR]at u xl;exact W _ _ ⟨d,U,s2,u,by unfold eZ;omega⟩
 rintro O H1 ⟨d,rfl,s1,n,fl⟩;refine bM (t:=rl _ _ _) (λO H'=>∃(d C:OV),O=[Z v,Z #[147],d,C]/\av H H'/\H' m=Z (.lst ((eZ t).map V.str))) ?_ #[117];exists 27
 ·refine⟨_,U,v,t,U,eJ.same (Bw s1) fU,λT G s2 r=>⟨T,U,⟨_,bN r⟩,?_⟩⟩;refine pH (K:=K) (xs:=[]) (λi O H'=>∃(C:OV),O=[Z v,Z #[147],d,C]/\H'=G) ⟨Y,U,U⟩ (λi O H' _ ⟨_,_,e⟩=>by rw[e];exact bN r) (λi y O H' hi=>by simp at hi) ?_;rintro O H' ⟨C,rfl,rfl⟩;exact W _ _ ⟨d,C,U,s1.trans s2,s2 _ _ n⟩
 rintro O G ⟨d,C,rfl,s2,u⟩;obtain⟨x,rest,rfl,hx⟩:=M9 (eJ.same (Bw s2) fU);refine bM (λO H'=>H'=G/\O=[Z #[105],Z #[147],d,C]) ?_ #[117];exists 27
 ·exact⟨_,U,x,_,_,_,U,U,bN hx,at0,TH,_,U,.inr (R _),U,U,_,U,Sd kf.h (W _ _ ⟨U,U⟩)⟩
 rintro O H' ⟨rfl,rfl⟩;refine⟨_,U,m,eZ t,U,u,by omega,λS hS=>?_⟩;have J:=aj hS (CV P w S (dW (eZ t)));refine⟨S,dW (eZ t),U,ae,by have:=Ao (eZ t);omega,λl ms hl pm so=>?_⟩;have s4:=aj hl (HO.lst (ms.map V.str));refine⟨l,_,U,.inl ⟨bz ae,λT r=>?_⟩⟩;exact q T ms _ ((s2.trans (J.trans s4)).trans (aj r _)) ae (tP.LX pm so)
def abK(F:aY K "pieces_of" "pieces_of" wZ dV f fd)(J:bc P w K mg base "statements_in" 1 ["statement"] [] V5):aR P w K mg base dy 2 f fd ["statement"] Im:=by
 refine F.ok oq #[15] #[9]
 ·exists 26;rfl
 obtain⟨v,t,rfl,j,q⟩:=h;refine si (aJ (iU.mk (az (i:=1) oq.nd (bI af)))
   (aJ (iU.mk (az (i:=2) oq.nd (bI #[38])))
   (aJ (iU.mk (oV PassesOwn.never (wO (pv 2) (λ_=>rfl)) (ah (az (i:=3) oq.nd (Dr YY yS yT N8 (pv 2)))
   (ah (aS (dN YY Ya Yb bu (pv 1) #[79]))
   (aq (aS (dN YY yM yN Bi (pv 2) (aa (aU J S #[79]) af))))))))
   (mJ (iU.mk (aH (pv 1))))))) ?_
 exists 0;refine⟨#[13],λb e=>?_⟩;have sp:=aj e #[85];refine⟨_,U,#[36],λd o=>?_⟩;have L:=aj o (HO.lst [v]);have x:b≠d:=ak ae o;have D:H d=Y:=sp.free o;exists 1;refine bM (t:=sZ _ _) (λO H'=>∃(C:OV),O=[Z v,Z (.ref b),Z (.ref d),C]/\av H H'/\H' b=Z (.lst [v])) ?_ (λl W=>?_);exists 27
 ·refine tq (λu O H'=>∃(C:OV),O=[Z v,Z (.ref b),Z (.ref d),C]/\av H H'/\((u=1/\H' b=Z #[188]/\H' d=Z (.lst [v]))\/u=0/\H' b=Z (.lst [v])/\H' d=Z #[188])) ⟨1,Y,U,sp.trans L,.inl ⟨U,L _ _ ae,ae⟩⟩ ?_;rintro u O B ⟨C,rfl,p,⟨rfl,y,g⟩|⟨rfl,y,g⟩⟩
  ·refine⟨_,U,_,.inl ⟨_,bz g,U⟩,Dj ?_⟩;refine⟨λO H'=>∃M,M<1/\∃(C:OV),O=[Z v,Z (.ref b),Z (.ref d),C]/\av H H'/\((M=1/\H' b=Z #[188]/\H' d=Z (.lst [v]))\/M=0/\H' b=Z (.lst [v])/\H' d=Z #[188]),λ_ _ h=>h,?_⟩;exists _,rfl,.inl ⟨rfl,_,bz g⟩,d,_,v,rfl,rfl,g,rfl;exists 1;have z:(upd B d #[85]) b=Z #[188]:=by rw[ag x];exact y
   have k:av H (upd B d #[85]):=au p D;refine⟨_,U,.inl ⟨U,_,bz z⟩,_,U,b,_,_,U,U,z,(by show 0<sizeLine;decide),?_⟩;have a:av H (upd (upd B d #[85]) b (HO.lst ([]++[v]))):=au k e;have m:(upd (upd B d #[85]) b (HO.lst ([]++[v]))) d=Z #[188]:=by rw[ag (Ne.symm x),ae]
   refine⟨_,U,.inl ⟨U,_,bz m⟩,_,U,v,t,U,eJ.same (Bw a) j,λT N c r=>?_⟩;refine⟨d,T,_,_,U,U,c _ _ m,r,#[13],0,by decide,_,U,au (a.trans c) D,.inr ⟨U,?_,ae⟩⟩;rw[ag x];exact c _ _ ae
  ·refine⟨_,U,_,.inl ⟨_,bz g,U⟩,tV ?_⟩;exact W _ _ ⟨C,U,p,y⟩
 rintro O H' ⟨C,rfl,s1,G⟩;exact⟨_,U,q b H' s1 G⟩
def abO(F:aY K "rows_of" "rows_of" DB dV f fd)(R:bc P w K mg base "pieces_of" 2 ["statement"] [] Im)(g:bc P w K mg base "row_names_in" 1 ["statement"] [] RT)(k:mg "tuple" = Y)(D:mg "sorted" = Y)(C:mg "set" = Y):aR P w K mg base dy 3 f fd ["statement"] RV:=by
 refine F.ok Bv (λL H Q E h=>?_) (λbP A I s H L Q E b h=>?_)
 ·exists 26;rfl
 obtain⟨v,t,rfl,M,q⟩:=h;have l1:=Dp t;have lm:#[128].length=(cB t).length:=jQ _;refine si (aJ (iU.mk (az (i:=1) Bv.nd (bI af)))
   (aJ (iU.mk (bL PassesOwn.never rfl (cu (aU R b #[38])) (aQ (i:=2) Bv.nd) (aq (aS (dN YY yM yN Bi (pv 1) (aa (aU g b #[89]) af))))))
   (mJ (iU.mk (aH (aM aK #[43] k bH (aa (aG ((AD rfl)) #[43] D C1 (aa (aM ((FW rfl)) #[43] C acJ #[80]) af)) af))))))) ?_
 exists 0;refine⟨#[13],λm X=>?_⟩;have p:=aj X #[85];exists 1;refine bM (t:=rl _ _ _) (λO H'=>∃(d:OV),O=[Z v,Z #[147],d]/\av H H'/\H' m=Z (.lst (#[128].map V.str))) ?_ #[46];exists 27
 ·refine⟨_,U,v,t,U,eJ.same (Bw p) M,λc H1 s1 e=>⟨c,U,⟨_,bz e⟩,?_⟩⟩;have n:=s1 _ _ (ae (H:=H) (a:=m) (o:=HO.lst []));have B:=p.trans s1;refine dH (K:=K) (xs:=[v]) (λi O H'=>∃(d:OV),O=[Z v,Z #[147],d]/\av H H'/\H' c=Z (.lst [v])/\((i=0/\H' m=Z #[188])\/i=1/\H' m=Z (.lst (#[128].map V.str)))) ⟨Y,U,B,e,.inl ⟨U,n⟩⟩ (λi O H' _ ⟨_,_,_,h,_⟩=>bz h) ?_ ?_
  ·rintro i y O G W ⟨d,rfl,s2,j,u⟩;have i0:i=0:=by have:=(iT W).1;simp at this;exact this
   subst i0;cases(show v=y by simpa using W);have u:G m=Z #[188]:=by
    rcases u with⟨_,z⟩|⟨z,_⟩
    ·exact z
    ·cases z
   refine⟨_,U,.inl ⟨U,_,bz u⟩,_,U,v,t,U,eJ.same (Bw s2) M,λT H3 J r=>?_⟩;refine⟨m,T,_,_,U,U,J _ _ u,r,jW (show _<=1000 by simp;omega) #[10],_,U,au (s2.trans J) X,?_,.inr ⟨U,ae⟩⟩;rw[ag (λz=>by rw[z,u]at j;cases j)];exact J _ _ j
  ·rintro O G ⟨d,rfl,s2,j,u⟩;rcases u with⟨z,_⟩|⟨_,z⟩
   ·cases z
   ·exact cE _ _ ⟨d,U,s2,z⟩
 rintro O G ⟨d,rfl,s2,u⟩;refine⟨_,U,m,(cB t).map (·.1),U,u,by omega,λS hS=>?_⟩;have J:=aj hS (CV P w S (dW #[128]));refine⟨S,dW #[128],U,ae,by have:=Ao #[128];omega,λl ms hl pm so=>?_⟩;have s4:=aj hl (HO.lst (ms.map V.str));refine⟨l,_,U,.inl ⟨bz ae,λT r=>?_⟩⟩;have N:=tP.LX pm so;exact q T ms _ ((s2.trans (J.trans s4)).trans (aj r _)) ae (λz hz=>(N.mem z).mp hz) (by have:=lP N.nd λx hx=>(N.mem x).mp hx;omega)
end
def eB(b:Int):LI->Int
 |[]=>0
 | p::r=>p+b*eB b r
def pJ(m:Int):LI->LI
 |[]=>[]
 | p::r=>p%m::p / m::pJ m r
def Iz(b:Int)(ps:LI):Prop:=∀p∈ps,0<=p/\p<b
def Iz.nil{b:Int}:Iz b []:=λp h=>by cases h
def Iz.cons{b p:Int}{r:LI}(I:0<=p)(h1:p<b)(h:Iz b r):Iz b (p::r):=λx J=>by
 rcases jL.mp J with z|z
 ·rw[z];exact⟨I,h1⟩
 ·exact h x z
def Iz.tail{b p:Int}(h:Iz b (p::r)):Iz b r:=λx J=>h x (jJ _ J)
theorem Dh(m:Int):∀ps:LI,(pJ m ps).length=2*ps.length
 |[]=>rfl
 | p::r=>by simp only[pJ,jX,Dh m r];omega
theorem PR{m:Int}(N:0<m):∀{ps:LI},Iz (m*m) ps->Iz m (pJ m ps)
 |[],_=>Iz.nil
 | p::r,h=>by have D:=h p jC;have a:0<=p / m:=QK D.1 (Jz N);have y:p / m<m:=ZW N D.2;exact Iz.cons (QG p #[2]) (Zn p N) (Iz.cons a y (PR N h.tail))
theorem Lz(m:Int):∀ps:LI,eB m (pJ m ps)=eB (m*m) ps
 |[]=>rfl
 | p::r=>by have e:=Int.emod_add_mul_ediv p m;simp only[pJ,eB,Lz m r];rw[QS,<-Zd,e,QN]
theorem B0(m:Int):∀(ps:LI) (x:Int),pJ m (ps++[x])=pJ m ps++[x%m,x / m]
 |[],x=>rfl
 | p::r,x=>by simp only[zW,pJ,B0 m r x]
theorem Eh{b:Int}(B:0<=b):∀{ps:LI},Iz b ps->0<=eB b ps
 |[],_=>zG 0
 | p::r,h=>Int.add_nonneg (h p jC).1 (ZU B (Eh B h.tail))
theorem Eg(b:Int):∀(ps qs:LI),eB b (ps++qs)=eB b ps+b^ps.length*eB b qs
 |[],qs=>by simp[eB]
 | p::r,qs=>by simp only[zW,eB,Eg b r qs,jX];rw[QS,Int.pow_succ,Zd,<-QN,QO b (b^r.length)]
def ach(b:Int)(ps:LI)(x:Int):eB b (ps++[x])=eB b ps+x*b^ps.length:=by rw[Eg];simp[eB,QO]
def pw(w:Int):Nat->Int
 | 0=>w
 | i+1=>pw w i*pw w i
theorem Oj{w:Int}(h:2<=w):∀i,2<=pw w i
 | 0=>h
 | i+1=>by have q:=Oj h i;have:=Jn q q #[10] #[2];show 2<=pw w i*pw w i;omega
def aim{w:Int}(h:2<=w)(i:Nat):pw w i<pw w (i+1):=by have q:=Oj h i;have:=Jn q (zG (pw w i)) #[2] #[2];show pw w i<pw w i*pw w i;omega
theorem ail{w:Int}(h:2<=w):∀i:Nat,(2:Int)^(2^i)<=pw w i
 | 0=>by simpa[pw]using h
 | i+1=>by
  have q:=ail h i;have e:(2:Int)^(2^(i+1))=2^(2^i)*2^(2^i):=by rw[ZP,Nat.mul_two,Int.pow_add]
  rw[e];have j:(0:Int)<=2^(2^i):=Jz (Int.pow_pos #[10]);exact Jn q q j (zk j q)
def NB:Int:=2^1100
def Sl:NB*NB<BIG:=by decide +kernel
def acC:2<NB:=by decide +kernel
def aeA{w n:Int}(h:2<=w)(D:pw w t<=n)(R:n<NB):2^t<1100:=by
 have q:=ail h t;have a:(2:Int)^(2^t)<2^1100:=Jk (zk q D) R;have p:(2:Nat)^(2^t)<2^1100:=by exact_mod_cast a
 exact(Nat.pow_lt_pow_iff_right #[10]).mp p
def pws(w:Int)(t:Nat):LI:=(ji t).map (pw w)
def aeD(w:Int)(t:Nat):pws w (t+1)=pws w t++[pw w t]:=by unfold pws;rw[JP,jB];rfl
def Fb(w:Int)(t:Nat):(pws w t).length=t:=by simp[pws]
def ahf{w:Int}(h:i<t):(pws w t)[i]?=Z (pw w i):=by simp[pws,h]
structure Fm(w n:Int)(ds:LI):Prop where
 inb:Iz w ds
 val:eB w ds=n
 top:∀d,ds.getLast?=Z d->d≠0
def Tx(ds:LI):ds=[]\/∃r x,ds=r++[x]:=by
 rcases List.eq_nil_or_concat ds with h|⟨r,x,h⟩
 ·exact .inl h
 ·exact .inr ⟨r,x,by simpa using h⟩
inductive OB (vs:List V) (H:Hp) (Q:VK) (E:XK):Prop
 | mk (z:Int) (_:vs=[.int z]) (_:Q (.bl true) H)
inductive aeQ (vs:List V) (H:Hp) (Q:VK) (E:XK):Prop
 | mk (z y:Int) (_:vs=[.int z,.int y]) (_:Q (.bl (decide (y<=z))) H)
inductive aeR (vs:List V) (H:Hp) (Q:VK) (E:XK):Prop
 | mk (z y:Int) (x:Str) (_:vs=[.int z,.int y,.str x]) (_:y<=z) (_:Q .non H)
inductive RL (K:YW) (vs:List V) (H:Hp) (Q:VK) (E:XK):Prop
 | mk (a:QX) (m:Int) (ps:LI) (_:vs=[.ref a,.int m]) (_:mw K H a (ps.map V.int)) (_:ps.length<=5000) (_:(0<m/\m<BIG)) (_:∀(l:QX) (H':Hp),av H H'->H l=Y->H' l=Z (.lst ((pJ m ps).map V.int))->Q #[181] H')
inductive Mb (K:YW) (vs:List V) (H:Hp) (Q:VK) (E:XK):Prop
 | mk (n w:Int) (_:vs=[.int n,.int w]) (_:(0<=n/\n<NB)) (_:(2<=w/\w<NB)) (_:∀(t:QX) (H':Hp) (ds:LI),av H H'->H' t=Z (.tup (ds.map V.int))->Fm w n ds->ds.length<=5000->Q (.ref t) H')
section
def RE:ax ["thing"] ["thing"] (ao Bq):=cb #[1]
def DG:ax ["thing","least"] ["thing","least"] (ao mE):=cb #[1]
def J5:ax ["thing","least","called"] ["thing","least","called"] (ao sU):=cb #[1]
def hJ:ax ["number","wide","powers","power","parts","middle"] ["number","wide"] (ao DA):=cb #[1]
def DF:ax ["parts","middle","halves","part"] ["parts","middle"] (ao HZ):=cb #[1]
def Rk(F:aY K "is_whole" "is_whole" Bq dV f fd)(e:mg "isinstance" = Y)(j:mg "int" = Y)(a:mg "bool" = Y):aR P w K mg base dy 1 f fd ["thing"] OB:=by
 refine F.ok RE #[15] #[9]
 ·obtain⟨z,rfl,_⟩:=h;rfl
 obtain⟨z,rfl,q⟩:=h;refine⟨_,(aq (aH (Oa (aG BU #[43] e br (aa (pv 0) (aa (Ca (v:=.ty "int") rfl j aiW rfl) af))) (Oe (akv (aG BU #[43] e br (aa (pv 0) (aa (Ca (v:=.ty "bool") rfl a afU rfl) af)))))))),?_⟩;exists 0;refine⟨_,U,_,_,_,_,U,sh.int z,Q6 K,_,U,Dj ?_⟩;exact⟨_,U,_,_,_,_,U,sh.int z,N2 K,_,U,q⟩
def agQ(F:aY K "is_whole_from" "is_whole_from" mE dV f fd)(a:bc P w K mg base "is_whole" 1 ["thing"] [] OB):aR P w K mg base dy 2 f fd ["thing","least"] aeQ:=by
 refine F.ok DG #[15] #[9]
 ·obtain⟨z,y,rfl,_⟩:=h;rfl
 obtain⟨z,y,rfl,q⟩:=h;exists _,(aq (aH (Oa (aU a S #[38]) (Oe (Cb aih (pv 0) (pv 1) (bK _))))));exists 0;exact⟨_,U,z,U,_,U,Dj ⟨_,U,_,U,_,_,U,U,q⟩⟩
def agS(F:aY K "need_whole" "need_whole" sU dV f fd)(a:bc P w K mg base "is_whole_from" 2 ["thing","least"] [] aeQ):aR P w K mg base dy 3 f fd ["thing","least","called"] aeR:=by
 refine F.ok J5 #[15] #[9]
 ·obtain⟨z,y,x,rfl,_⟩:=h;rfl
 obtain⟨z,y,x,rfl,N,q⟩:=h;exists _,(aq (cC (Dx (Bl (aU a S (aa (pv 0) #[80])))) (aq fu) bq));exists 0;refine⟨_,U,_,U,z,y,U,_,U,anR N ?_⟩;exact q
def abF(F:aY K "halved" "halved" HZ dV f fd):aR P w K mg base dy 1 f fd ["parts","middle"] (RL K):=by
 refine F.ok DF #[15] #[9]
 ·obtain⟨a,m,ps,rfl,_⟩:=h;rfl
 obtain⟨a,m,ps,rfl,J,L,⟨X,j⟩,k⟩:=h;refine⟨_,(ah (az (i:=2) DF.nd (bI af))
   (ah (bL PassesOwn.never rfl (cu (pv 0)) (aQ (i:=3) DF.nd) (ah (aS (dN YY Ya Yb bu (pv 2) (aa (aD cq (pv 3) (pv 1)) af)))
   (aq (aS (dN YY Ya Yb bu (pv 2) (aa (aD ad8 (pv 3) (pv 1)) af))))))
   (aq (aH (pv 2))))),?_⟩
 exists 0;refine⟨#[13],λl b=>?_⟩;refine⟨_,U,a,U,⟨_,(aj b _).seq J⟩,dH (K:=K) (xs:=ps.map V.int) (λi O H'=>∃v,O=[Z #[72],Z (.int m),Z #[181],v]/\av H H'/\H' l=Z (.lst ((pJ m (ps.take i)).map V.int)))
  ⟨Y,rfl,aj b _,ae⟩ (λi O H' _ ⟨_,_,s,_⟩=>s.seq J) ?_ ?_⟩
 ·rintro i y O H' W ⟨v,rfl,s1,G⟩;obtain⟨z,rfl,C⟩:=cj W;have g:i<ps.length:=(iT C).1;have B:((pJ m (ps.take i)).map V.int).length<=10000:=by rw[bg,Dh,jT];omega
  have big:10002<sizeLine:=by decide
  refine⟨_,U,.inl ⟨U,_,bz G⟩,_,U,_,U,_,_,U,U,X,l,_,_,U,U,G,by omega,?_⟩;refine⟨_,U,.inl ⟨U,_,bz ae⟩,_,U,_,U,_,_,U,U,⟨X,j⟩,l,_,_,U,U,ae,by rw[jG];simp only[ja];omega,?_⟩;exists _,rfl,au (au s1 b) b;rw[ae,jO,C];show _=Z (HO.lst ((pJ m (ps.take i++[z])).map V.int));rw[B0,jB,jv];rfl
 ·rintro O H' ⟨v,rfl,s1,G⟩;rw[bg,jR]at G;exact⟨_,U,k l H' s1 b G⟩
def TY(F:aY K "figures" "figures" DA dV f fd)(mU:bc P w K mg base "need_whole" 3 ["thing","least","called"] [] aeR)(Fq:bc P w K mg base "halved" 1 ["parts","middle"] [] (RL K))(Bx:mg "reversed" = Y)(aC:mg "tuple" = Y):aR P w K mg base dy 4 f fd ["number","wide"] (Mb K):=by
 refine F.ok hJ #[22] (λbP A j5 s H vs Q E M h=>?_)
 ·obtain⟨n,w,rfl,_⟩:=h;rfl
 obtain⟨n,C,rfl,⟨n0,n1⟩,⟨u,w1⟩,k⟩:=h;have c6:∀{x y:Int},0<=x->x<NB->0<=y->y<NB->x*y<BIG:=λ{x y} hx MY R o5=>
  Jk (Jn (Jz MY) (Jz o5) R (zk hx (Jz MY))) Sl
 have j:∀{x:Int},0<=x->x<NB->x<BIG:=λ{x} hx MY=>by have:=acC;have:=Sl;have q:NB*1<=NB*NB:=Jn (zG _) #[2] #[10] #[2];omega
 refine⟨_,(ah (aS (aU mU M (aa (pv 0) (aa ar (aa cz af)))))
   (ah (aS (aU mU M (aa (pv 1) (aa ar (aa cz af)))))
   (ah (az (i:=2) hJ.nd (bI af))
   (ah (az (i:=3) hJ.nd (pv 1))
   (ah (oV PassesOwn.never (aX L4 (pv 3) (pv 0) (bK _)) (ah (aS (dN YY Ya Yb bu (pv 2) #[79]))
   (aq (az (i:=3) hJ.nd (aD aak (pv 3) (pv 3))))))
   (ah (az (i:=4) hJ.nd (bI #[38]))
   (ah (bL PassesOwn.never rfl (akA rfl Bx #[89]) (aQ (i:=5) hJ.nd) (aq (az (i:=4) hJ.nd (aU Fq M (aa (pv 4) #[172])))))
   (ah (oV PassesOwn.never (PW.pt (Oi (wO (pv 4) (λ_=>rfl)) (E1 (aX mQ (aB cX (pv 4) (ael W7 ar) #[3]) ar (bK _))))) (aq (aS (Dr YY yS yT N8 (pv 4)))))
   (aq (aH (aM aK #[43] aC bH #[133]))))))))))),?_⟩
 exists 0;exists _,rfl,n,0,_,rfl,n0;exists _,rfl,C,2,_,rfl,u;refine⟨#[13],λL hL=>?_⟩;exists _,rfl;exists 28;refine Aj (t:=sZ _ _) (λO H'=>∃t:Nat,O=[Z (.int n),Z (.int C),Z #[143],Z #[157],Y,Y]/\av H H'/\H' L=Z (.lst ((pws C t).map V.int))/\n<pw C t/\(t=0\/pw C (t-1)<=n)) ?_ (λW=>?_);exists 27
 ·refine tq (λm O H'=>∃t:Nat,m=(n+1-pw C t).toNat/\O=[Z (.int n),Z (.int C),Z #[143],Z #[157],Y,Y]/\av H H'/\H' L=Z (.lst ((pws C t).map V.int))/\(t=0\/pw C (t-1)<=n))
   ⟨_,0,rfl,rfl,aj hL _,ae,.inl rfl⟩ ?_
  rintro m O H' ⟨t,rfl,rfl,s1,G,ht⟩;refine⟨_,U,_,U,_,_,U,U,_,U,Be #[84] #[84]⟩
  ·have c':pw C t<=n:=c;have p2:=Oj u t;have A2:=aeA u c' n1;have d6:t<2^t:=Nat.lt_two_pow_self;have g6:=aim u t;refine⟨λO H'=>∃N,N<(n+1-pw C t).toNat/\∃t:Nat,N=(n+1-pw C t).toNat/\O=[Z (.int n),Z (.int C),Z #[143],Z #[157],Y,Y]/\av H H'/\H' L=Z (.lst ((pws C t).map V.int))/\(t=0\/pw C (t-1)<=n),λO H' h=>h,?_⟩;refine⟨_,U,.inl ⟨U,_,bz G⟩,_,U,L,_,_,U,U,G,?_,?_⟩
   ·rw[bg,Fb];have big:(1101:Nat)<sizeLine:=by decide
    omega
   refine⟨_,U,_,U,_,_,U,U,⟨⟨by omega,j #[2] #[2]⟩,⟨by omega,j #[2] #[2]⟩⟩,_,?_,t+1,U,U,au s1 hL,?_,.inr c'⟩
   ·show(n+1-pw C (t+1)).toNat<_;omega
   ·rw[ae,aeD,jB];rfl
  ·exact W _ _ ⟨t,U,s1,G,by omega,ht⟩
 rintro O H1 ⟨t,rfl,s1,G,hn,ht⟩;have A2:2^t<=2200:=by
  rcases ht with z|z
  ·rw[z];decide
  ·rcases t with _|t
   ·decide
   ·have:=aeA u z n1;rw[ZP];simp only[zx]at this;omega
 refine⟨_,U,#[36],λD0 I=>?_⟩;have s2:=s1.trans (aj I (HO.lst [V.int n]));have nL:L≠D0:=ak G I;exists 28;refine Aj (t:=rl _ _ _) (λO H'=>∃(D:QX) (v:OV) (ps:LI),O=[Z (.int n),Z (.int C),Z #[143],Z #[157],Z #[81],v]/\av H H'/\H D=Y/\H' D=Z (.lst (ps.map V.int))/\Iz C ps/\eB C ps=n/\ps.length<=2200) ?_ (λW=>?_);exists 27
 ·refine⟨_,U,L,_,U,bz (by rw[ag nL];exact G),af5 (K:=K) (xs:=(pws C t).map V.int) (λi O H'=>∃(D:QX) (v:OV) (ps:LI),O=[Z (.int n),Z (.int C),Z #[143],Z #[157],Z #[81],v]/\av H1 H'/\H1 D=Y/\H' D=Z (.lst (ps.map V.int))/\Iz (pw C (t-i)) ps/\eB (pw C (t-i)) ps=n/\ps.length=2^i)
   ⟨D0,Y,[n],rfl,aj I _,I,ae,Iz.cons n0 hn Iz.nil,by simp[eB],rfl⟩ (λi O H' _ ⟨_,_,_,_,s,_,_,_,_,_⟩=>bz (s _ _ G)) ?_ ?_⟩
  ·rintro i y O H' hi R ⟨D,v,ps,rfl,J,fD,X,o,e,S⟩;rw[bg,Fb]at hi;rw[bg,Fb]at R;have e1:t-i=(t-1-i)+1:=by omega
   have e2:t-(i+1)=t-1-i:=by omega
   obtain⟨z,rfl,hz⟩:=cj R;rw[ahf (show t-1-i<t by omega)]at hz;cases hz;rw[e1]at o e;have hp:=Oj u (t-1-i);have i6:pw C (t-1-i)<=n:=by
    rcases ht with z|z
    ·omega
    ·have mono:∀a b:Nat,pw C a<=pw C (a+b):=λa b=>by
      induction b with
      | zero=>exact zG _
      | succ b ih=>exact zk ih (Jz (aim u (a+b)))
     have:=mono (t-1-i) i;rw[show t-1-i+i=t-1 by omega]at this;omega
   have li:2^i<=2^t:=zD #[10] #[2];refine⟨_,U,_,U,D,_,ps,U,bz X,by omega,⟨by omega,j #[2] #[2]⟩,λl l6 B fl hl=>?_⟩;refine⟨l,_,pJ (pw C (t-1-i)) ps,U,J.trans B,J.free fl,hl,?_,?_,?_⟩
   ·rw[e2];exact PR #[2] o
   ·rw[e2,Lz];exact e
   ·rw[Dh,S,ZP];omega
  ·rintro O H' ⟨D,v,ps,rfl,J,fD,X,o,e,S⟩;rw[bg,Fb]at o e S;rw[zM]at o e;exact W _ _ ⟨D,v,ps,U,s1.trans J,s1.free fD,X,o,e,by omega⟩
 rintro O H2 ⟨D,v,ps,rfl,J,fD,X,o,e,S⟩;exists 28;refine Aj (t:=sZ _ _) (λO H'=>∃ps:LI,O=[Z (.int n),Z (.int C),Z #[143],Z #[157],Z #[81],v]/\av H H'/\H' D=Z (.lst (ps.map V.int))/\Fm C n ps/\ps.length<=2200) ?_ (λW=>?_);exists 27
 ·refine tq (λm O H'=>∃ps:LI,m=ps.length/\O=[Z (.int n),Z (.int C),Z #[143],Z #[157],Z #[81],v]/\av H H'/\H' D=Z (.lst (ps.map V.int))/\Iz C ps/\eB C ps=n/\ps.length<=2200) ⟨_,ps,U,U,J,X,o,e,S⟩ ?_;rintro m O H' ⟨ps,rfl,rfl,B,g,o,e,S⟩;rcases Tx ps with rfl|⟨r,x,rfl⟩
  ·refine⟨_,U,_,.inl ⟨_,bz g,U⟩,tV (tV ?_)⟩;exact W _ _ ⟨[],U,B,g,⟨o,e,λd h=>by cases h⟩,S⟩
  ·have ix:tW ((r++[x]).map V.int) (-1)=Z (.int x):=by rw[jB];exact acI _ _
   exists _,rfl,_,.inl ⟨_,bz g,rfl⟩;have ne:(!((r++[x]).map V.int).isEmpty)=true:=by simp
   rw[ne];refine Dj ⟨_,U,_,U,D,_,_,_,U,U,bz g,ix,U,_,U,agz #[84] #[84]⟩
   ·have M:eB C r=n:=by rw[ach,c,Int.zero_mul,QP]at e;exact e
    refine⟨λO H'=>∃N,N<(r++[x]).length/\∃ps:LI,N=ps.length/\O=[Z (.int n),Z (.int C),Z #[143],Z #[157],Z #[81],v]/\av H H'/\H' D=Z (.lst (ps.map V.int))/\Iz C ps/\eB C ps=n/\ps.length<=2200,λO H' h=>h,?_⟩;refine⟨_,U,.inl ⟨U,_,bz g⟩,D,_,V.int x,U,U,g,by simp,?_⟩
    ·refine⟨r.length,by simp,r,U,U,au B fD,?_,λp hp=>o p (JB _ hp),M,?_⟩
     ·rw[ae,jB];show Z (HO.lst ((r.map V.int++[V.int x]).dropLast))=_;rw[zo]
     ·rw[jG]at S;omega
   ·exact W _ _ ⟨r++[x],U,B,g,⟨o,e,λd h=>by rw[List.getLast?_concat]at h;cases h;exact c⟩,S⟩
 rintro O H3 ⟨ps,rfl,B,g,FG,S⟩;refine⟨_,U,D,_,U,.inl ⟨bz g,λT hT=>?_⟩⟩;exact k T _ ps (B.trans (aj hT _)) ae FG #[2]
end
theorem PJ{w:Int}(G:2<=w):∀{ds es:LI} {n:Int},Fm w n ds->Fm w n es->ds=es
 |[],[],_,_,_=>rfl
 |[],e::es,n,h,y=>by exfalso;have z:eB w (e::es)=0:=y.val.trans h.val.symm;exact no_zero G y z
 | d::ds,[],n,h,y=>by exfalso;have z:eB w (d::ds)=0:=h.val.trans y.val.symm;exact no_zero G h z
 | d::ds,e::es,n,h,y=>by
  have j:=h.inb d jC;have R:=y.inb e jC;have I:d+w*eB w ds=n:=h.val;have b:e+w*eB w es=n:=y.val;have T:n%w=d:=by rw[<-I,ZC];exact Zu j.1 j.2
  have g:n%w=e:=by rw[<-b,ZC];exact Zu R.1 R.2
  have c:d=e:=T.symm.trans g;have N:eB w ds=eB w es:=by
   have:w*eB w ds=w*eB w es:=by omega
   exact Int.eq_of_mul_eq_mul_left #[2] this
  have t1:Fm w (eB w ds) ds:=⟨h.inb.tail,rfl,λx J=>by
   cases ds with
   | nil=>cases J
   | cons a r=>exact h.top x (by rw[zS];exact J)⟩
  have S:Fm w (eB w ds) es:=⟨y.inb.tail,N.symm,λx J=>by
   cases es with
   | nil=>cases J
   | cons a r=>exact y.top x (by rw[zS];exact J)⟩
  rw[c,PJ G t1 S]
where
 no_zero {w:Int} (G:2<=w):∀{es:LI} {e n:Int},Fm w n (e::es)->eB w (e::es)=0->False
 |[],e,n,h,z=>by have:e+w*0=0:=z;exact h.top e rfl #[2]
 | a::r,e,n,h,z=>by
  have C:e+w*eB w (a::r)=0:=z;have R:=h.inb e jC;have M:=Eh (by omega:(0:Int)<=w) h.inb.tail;have:0<=w*eB w (a::r):=ZU #[2] M;have f:w*eB w (a::r)=0:=by omega
  have i:eB w (a::r)=0:=by
   rcases Int.mul_eq_zero.mp f with q|q
   ·omega
   ·exact q
  exact no_zero G (es:=r) (e:=a) (n:=eB w (a::r)) ⟨h.inb.tail,U,λx J=>h.top x (by rw[zS];exact J)⟩ i
def F6(b:Int):Nat->Int->Int
 | 0,g=>g
 | i+1,g=>F6 b i g / b
def OK(F:LI)(b g:Int)(n:Nat):Int:=preSum (λi=>F.getD i 0*(F6 b i g%b)) n
structure acB(K:YW)(C:QX):Prop where
 cl:EJ K C
 nm:dG K C "machine"
 nf:dG K C "factors"
 no:dG K C "more"
 nb:dG K C "base"
structure CU(H:Hp)(C x m:QX)(F:LI)(more b:Int):Prop where
 ob:∃dx fa:QX,H x=Z (.ins C dx [("machine",.ref m),("factors",.ref fa),("more",.int more),("base",.int b)])/\H fa=Z (.tup (F.map V.int))
def CU.same{x m:QX}{more b:Int}(h:CU H C x m F more b)(s:av H H'):CU H' C x m F more b:=by obtain⟨X,fa,G,M⟩:=h.ob;exact⟨X,fa,s _ _ G,s _ _ M⟩
inductive aix (vs:List V) (H:Hp) (Q:VK) (E:XK):Prop
 | mk (fa:QX) (b g:Int) (F:LI) (_:vs=[.ref fa,.int b,.int g]) (_:H fa=Z (.tup (F.map V.int))) (_:(2<=b/\b<=10)) (_:Q (.int (OK F b g F.length)) H)
inductive aeT (K:YW) (vs:List V) (H:Hp) (Q:VK) (E:XK):Prop
 | mk (m r g b:QX) (st:Int) (many d4:Nat) (rows:LL) (signs ns:LI) (_:vs=[.ref m,.ref b,.int st]) (_:bQ H m r g d4 rows signs) (_:bA many d4 rows) (_:H b=Z (.tup #[67])) (_:(∀z∈ns,0<=z/\z<(d4:Int))) (_:(0<=st/\st<(many:Int))) (_:Q (.int (iQ rows ns st)) H)
inductive aay (C:QX) (vs:List V) (H:Hp) (Q:VK) (E:XK):Prop
 | mk (x dx m a:QX) (F:LI) (more b:Int) (_:vs=[.ref x,.ref m,.ref a,.int more,.int b]) (_:H x=Z (.ins C dx [])) (_:H a=Z (.lst (F.map V.int))) (_:∀H':Hp,(∀c u,c≠x->H c=Z u->H' c=Z u)->CU H' C x m F more b->Q .non H')
inductive iO (C:QX) (vs:List V) (H:Hp) (Q:VK) (E:XK):Prop
 | mk (x m:QX) (F:LI) (more b:Int) (_:vs=[.ref x]) (_:CU H C x m F more b) (_:∀(t:QX) (H':Hp),av H H'->H' t=Z (.tup [.int more,.int 0])->Q (.ref t) H')
inductive ox (C:QX) (vs:List V) (H:Hp) (Q:VK) (E:XK):Prop
 | mk (x m p r g:QX) (F:LI) (more c q fg:Int) (many d4:Nat) (rows:LL) (signs:LI) (_:vs=[.ref x,.ref p,.int fg]) (_:CU H C x m F more d4) (_:H p=Z (.tup [.int c,.int q])) (_:bQ H m r g d4 rows signs) (_:bA many d4 rows) (_:(2<=d4/\d4<=10)) (_:(0<=q/\q<(many:Int))) (_:∀(t:QX) (H':Hp),av H H'->H' t=Z (.tup [.int ((c+OK F d4 fg F.length) / d4),.int (stepI rows q ((c+OK F d4 fg F.length)%d4))])->Q (.ref t) H')
inductive ou (C:QX) (vs:List V) (H:Hp) (Q:VK) (E:XK):Prop
 | mk (x m p r g:QX) (F:LI) (more c q:Int) (many d4:Nat) (rows:LL) (signs ds:LI) (_:vs=[.ref x,.ref p]) (_:CU H C x m F more d4) (_:H p=Z (.tup [.int c,.int q])) (_:bQ H m r g d4 rows signs) (_:bA many d4 rows) (_:signs.length=many) (_:(2<=d4/\d4<=10)) (_:(0<=q/\q<(many:Int))) (_:(0<=c/\c<NB)) (_:Fm d4 c ds) (_:∀H':Hp,av H H'->Q (.int (signs.getD (iQ rows ds q).toNat 0)) H')
section
def Cr:ax ["machine","row","start","rows","here","figure"] ["machine","row","start"] (ao V1):=cb #[1]
def eY:ax ["factors","base","figure","weight","rest","factor"] ["factors","base","figure"] (ao Aa):=cb #[1]
def Aw:ax ["self","machine","factors","more","base"] ["self","machine","factors","more","base"] (ao fY):=cb #[1]
def DD:ax ["self"] ["self"] (ao mC):=cb #[1]
def tJ:ax ["self","place","figure","total"] ["self","place","figure"] (ao oY):=cb #[1]
def EF:ax ["self","place"] ["self","place"] (ao oX):=cb #[1]
def agV(F:aY K "room" "room" V1 dV f fd):aR P w K mg base dy 1 f fd ["machine","row","start"] (aeT K):=by
 refine F.ok Cr #[15] #[9]
 ·obtain⟨m,r,g,b,st,many,d4,rows,signs,ns,rfl,_⟩:=h;rfl
 obtain⟨m,r,g,b,st,many,d4,rows,signs,ns,rfl,M,R,B,o,⟨x,s1⟩,q⟩:=h;obtain⟨N,⟨eK,L,a⟩,d⟩:=M;refine⟨_,(ah (az (i:=3) Cr.nd #[12])
   (ah (az (i:=4) Cr.nd (pv 2))
   (ah (bL PassesOwn.never rfl (eS (pv 1)) (aQ (i:=5) Cr.nd) (aq (az (i:=4) Cr.nd (aB aE (aB aE (pv 3) (pv 4) #[3]) (pv 5) #[3]))))
   (aq (aH (pv 4)))))),?_⟩
 exists 0;exists _,rfl,m,_,_,_,rfl,rfl,bN N,rfl;exists _,rfl;refine⟨_,U,b,U,⟨_,bN B⟩,pH (K:=K) (xs:=ns.map V.int) (λi O H'=>∃v,O=[Z #[147],Z (.ref b),Z (.int st),Z (.ref r),Z (.int (iQ rows (ns.take i) st)),v]/\H'=H) ⟨Y,U,U⟩ (λi O H' _ ⟨_,_,e⟩=>by rw[e];exact bN B) ?_ ?_⟩
 ·rintro i y O H' W ⟨v,rfl,rfl⟩;obtain⟨z,rfl,C⟩:=cj W;have u:=Iw R (ns:=ns.take i) (h:=st) (λz C=>o z (ZZ C)) x s1;have t:=o z (sM C);obtain⟨ra,k,T,c,j⟩:=Cj a R u.1 u.2 t.1 t.2;rw[<-W9 C]at j;exact⟨_,U,_,U,r,_,_,_,U,U,bN L,T,_,U,ra,_,_,_,U,U,bN c,j,_,U,U⟩
 ·rintro O H' ⟨v,rfl,rfl⟩;exists _,rfl;rw[bg,jR];exact q
def akj(F:aY K "weight_of" "weight_of" Aa dV f fd):aR P w K mg base dy 1 f fd ["factors","base","figure"] aix:=by
 refine F.ok eY #[15] #[9]
 ·obtain⟨fa,b,g,G,rfl,_⟩:=h;rfl
 obtain⟨fa,b,g,G,rfl,W,⟨o,X⟩,q⟩:=h;refine⟨_,(ah (az (i:=3) eY.nd ar)
   (ah (az (i:=4) eY.nd (pv 2))
   (ah (bL PassesOwn.never rfl (eS (pv 0)) (aQ (i:=5) eY.nd) (ah (az (i:=3) eY.nd (aD cV (pv 3) (aD wK (pv 5) (aD cq (pv 4) (pv 1)))))
   (aq (az (i:=4) eY.nd (aD cF (pv 4) (pv 1))))))
   (aq (aH (pv 3)))))),?_⟩
 exists 0;exists _,rfl;refine⟨_,U,fa,U,⟨_,bN W⟩,pH (K:=K) (xs:=G.map V.int) (λi O H'=>∃v,O=[Z (.ref fa),Z #[193],Z (.int g),Z (.int (OK G b g i)),Z (.int (F6 b i g)),v]/\H'=H) ⟨Y,U,U⟩ (λi O H' _ ⟨_,_,e⟩=>by rw[e];exact bN W) ?_ ?_⟩
 ·rintro i y O H' c ⟨v,rfl,rfl⟩;obtain⟨z,rfl,C⟩:=cj c;have N:=cO (a:=F6 b i g) (b:=b) #[2];have J:G.getD i 0=z:=by rw[jf,C];rfl
  refine⟨_,U,_,U,_,U,_,U,_,_,U,U,#[2],_,_,U,U,.inr ⟨by omega,by omega⟩,_,_,U,U,_,U,_,U,_,_,U,U,⟨by omega,by omega⟩,Z (.int z),?_,U⟩;show [_,_,_,Z (V.int (OK G b g i+z*(F6 b i g%b))),Z (V.int (F6 b i g / b)),_]=[_,_,_,Z (V.int (OK G b g i+G.getD i 0*(F6 b i g%b))),Z (V.int (F6 b i g / b)),_];rw[J]
 ·rintro O H' ⟨v,rfl,rfl⟩;exists _,rfl;rw[bg];exact q
def adQ(F:aY K "__init__" "Looking.__init__" fY dV f fd)(o:acB K C)(j:mg "tuple" = Y):aR P w K mg base dy 1 f fd ["self","machine","factors","more","base"] (aay C):=by
 refine F.ok Aw #[15] #[9]
 ·obtain⟨x,X,m,a,G,more,b,rfl,_⟩:=h;rfl
 obtain⟨x,X,m,a,G,more,b,rfl,J,l,k⟩:=h;refine⟨_,(ah (iH (pv 0) (pv 1) rfl)
   (ah (iH (pv 0) (aM aK #[43] j bH #[89]) rfl)
   (ah (iH (pv 0) (pv 3) rfl)
   (aq (iH (pv 0) (pv 4) rfl))))),?_⟩
 exists 0;refine⟨_,U,_,U,x,C,X,[],U,J,o.cl,o.nm,by decide,?_⟩;have g:a≠x:=aA l J #[0];refine⟨_,U,a,_,U,.inl ⟨bz (by rw[ag g];exact l),λt d=>?_⟩⟩;have W:x≠t:=λz=>by rw[<-z,ae]at d;cases d
 refine⟨_,U,x,C,X,_,U,by rw[ag W,ae],o.cl,o.nf,by show 1<1000;decide,?_⟩;refine⟨_,U,_,U,x,C,X,_,U,ae,o.cl,o.no,by show 2<1000;decide,?_⟩;refine⟨_,U,_,U,x,C,X,_,U,ae,o.cl,o.nb,by show 3<1000;decide,?_⟩;refine k _ (λc u O e=>?_) ⟨X,t,ae,?_⟩
 ·have i:c≠t:=λz=>by subst z;rw[ag O]at d;rw[e]at d;cases d
  rw[ag O,ag O,ag O,ag i,ag O];exact e
 ·rw[ag (Ne.symm W),ag (Ne.symm W),ag (Ne.symm W),ae]
def abH(F:aY K "begin" "Looking.begin" mC dV f fd)(o:acB K C):aR P w K mg base dy 1 f fd ["self"] (iO C):=by
 refine F.ok DD #[15] #[9]
 ·obtain⟨x,m,G,more,b,rfl,_⟩:=h;rfl
 obtain⟨x,m,G,more,b,rfl,⟨X,fa,J,W⟩,q⟩:=h;exists _,(aq (aH (ck (aa #[21] (aa ar af)))));exists 0;exact⟨_,U,x,C,X,_,_,U,J,o.cl,o.no,U,#[14],λt d=>q t _ (aj d _) ae⟩
def adS(F:aY K "step" "Looking.step" oY dV f fd)(o:acB K C)(y:bc P w K mg base "weight_of" 1 ["factors","base","figure"] [] aix):aR P w K mg base dy 2 f fd ["self","place","figure"] (ox C):=by
 refine F.ok tJ #[15] #[9]
 ·obtain⟨x,m,p,r,g,G,more,c,q,v,many,d4,rows,signs,rfl,_⟩:=h;rfl
 obtain⟨x,m,p,r,g,G,more,c,q,v,many,d4,rows,signs,rfl,⟨X,fa,J,W⟩,D,M,R,⟨z,V⟩,⟨d,O⟩,k⟩:=h;obtain⟨N,⟨eK,L,B⟩,hg⟩:=M;refine⟨_,(ah (az (i:=3) tJ.nd (aD cV #[35] (aU y S (aa #[21] (aa #[21] #[89])))))
   (aq (aH (ck (aa (aD cF (pv 3) #[21]) (aa (aB aE (aB aE (aB aE #[21] ar #[3]) #[35] #[3]) (aD cq (pv 3) #[21]) #[3]) af)))))),?_⟩
 exists 0;exists _,rfl,p,_,_,_,rfl,rfl,bN D,rfl,_,rfl,x,C,X,_,_,rfl,J,o.cl,o.nf,rfl,_,rfl,x,C,X,_,_,rfl,J,o.cl,o.nb,rfl,_,rfl,fa,_,_,G,rfl,W,⟨by omega,by omega⟩,_,_,rfl,rfl;have e:=cO (a:=c+OK G d4 v G.length) (b:=(d4:Int)) #[2];obtain⟨ra,rr,T,j,l⟩:=Cj B R d O e.1 e.2;refine⟨_,U,_,U,x,C,X,_,_,U,J,o.cl,o.nb,U,_,_,U,U,⟨by omega,by omega⟩,?_⟩;exists _,rfl,x,C,X,_,_,rfl,J,o.cl,o.nm,rfl,m,_,_,_,rfl,rfl,bN N,rfl,_,rfl,p,_,_,_,rfl,rfl,bN D,rfl,r,_,_,_,rfl,rfl,bN L,T;exact⟨_,U,_,U,x,C,X,_,_,U,J,o.cl,o.nb,U,_,_,U,U,#[2],ra,_,_,_,U,U,bN j,l,#[14],λt u=>k t _ (aj u _) ae⟩
def adR(F:aY K "sign" "Looking.sign" oX dV f fd)(o:acB K C)(L:bc P w K mg base "room" 1 ["machine","row","start"] [] (aeT K))(N:bc P w K mg base "figures" 4 ["number","wide"] [] (Mb K)):aR P w K mg base dy 5 f fd ["self","place"] (ou C):=by
 refine F.ok EF #[15] #[9]
 ·obtain⟨x,m,p,r,g,G,more,c,q,many,d4,rows,signs,ds,rfl,_⟩:=h;rfl
 obtain⟨x,m,p,r,g,G,more,c,q,many,d4,rows,signs,ds,rfl,⟨X,fa,J,W⟩,D,M,R,v,⟨w0,w1⟩,⟨i,O⟩,⟨l,u⟩,B,k⟩:=h;refine⟨_,(aq (aH (aB aE (aB aE #[21] ar #[3]) (aU L S (aa #[21] (aa (aU N S (aa #[35] #[186])) (aa #[35] af)))) #[3]))),?_⟩;exists 0;exists _,rfl,x,C,X,_,_,rfl,J,o.cl,o.nm,rfl,m,_,_,_,rfl,rfl,bN M.tup,rfl;refine⟨_,U,x,C,X,_,_,U,J,o.cl,o.nm,U,_,U,p,_,_,_,U,U,bN D,U,_,U,x,C,X,_,_,U,J,o.cl,o.nb,U,c,_,U,⟨l,u⟩,⟨by omega,Jk (show(d4:Int)<=10 by omega) #[1]⟩,λt H' a d y z _=>?_⟩;have T:a=ds:=PJ #[2] z B;subst T;have j:=M.same λb xs e=>d _ _ e;have V:=Iw R (ns:=a) (h:=q) z.inb i O;exists _,rfl,p,_,_,_,rfl,rfl,bN (d _ _ D),rfl,m,r,g,t,q,many,d4,rows,signs,a,rfl,j,R,y,z.inb,⟨i,O⟩;exact⟨g,_,_,_,U,U,bN j.sgn,lV V.1 #[2],k _ d⟩
end
structure LD where
 rows:LL
 signs:LI
 F:LI
 more:Int
def lkT(b:Nat)(d:LD)(u:LI)(f:Nat):Int:=u.getD 0 0+OK d.F b f d.F.length
def J1(b:Nat)(d:LD)(u:LI)(f:Nat):LI:=[lkT b d u f / b,stepI d.rows (u.getD 1 0) (lkT b d u f%b)]
def N6(d:LD):LI:=[d.more,0]
open Classical in
noncomputable def af2(b:Nat)(c:Int):LI:=if h:∃ds,Fm b c ds then h.choose else []
def af4{w:Nat}(G:2<=w)(n:Nat):∃ds,Fm w n ds:=by
 induction n using Nat.strongRecOn with
 | ind n K=>
  by_cases z:n=0
  ·subst z;exact⟨[],Iz.nil,U,λd j=>by simp at j⟩
  have lt:n / w<n:=Nat.div_lt_self (zw z) G;obtain⟨ds,F⟩:=K (n / w) lt;have m:=QF n (show 0<w by omega);have a:=Nat.mod_add_div n w;refine⟨((n%w:Nat):Int)::ds,λd j=>?_,?_,λd j=>?_⟩
  ·rcases jL.mp j with e|e
   ·rw[e];omega
   ·exact F.inb d e
  ·show((n%w:Nat):Int)+(w:Int)*eB w ds=n;rw[F.val]
   exact_mod_cast a
  ·cases ds with
   | nil=>
    have X:((n / w:Nat):Int)=0:=F.val.symm;have T:n / w=0:=by exact_mod_cast X
    rw[T,Nat.mul_zero]at a;have:d=((n%w:Nat):Int):=by simpa using j.symm
    rw[this];intro q;have:n%w=0:=by exact_mod_cast q
    omega
   | cons y r=>exact F.top d (by simpa using j)
def af3{c:Int}(B:2<=b)(h:0<=c):Fm b c (af2 b c):=by obtain⟨n,rfl⟩:=HJ h;have e:=af4 B n;unfold af2;rw[dif_pos e];exact e.choose_spec
noncomputable def lkG(b:Nat)(d:LD)(u:LI):Int:=d.signs.getD (iQ d.rows (af2 b (u.getD 0 0)) (u.getD 1 0)).toNat 0
structure OW(b:Nat)(d:LD):Prop where
 ok:bA d.rows.length b d.rows
 sg:d.signs.length=d.rows.length
 n1:1<=d.rows.length
 b2:2<=b/\b<=10
 fl:d.F.length<=2
 fi:∀z∈d.F,0<=z/\z<=2000
 mo:0<=d.more/\d.more<=2000
def Ms(d:LD)(u:LI):Prop:=∃c q:Int,u=[c,q]/\(0<=c/\c<=50000)/\(0<=q/\q<(d.rows.length:Int))
def apa{g:Int}(B:2<=b/\b<=10)(G:F.length<=2)(M:∀z∈F,0<=z/\z<=2000):0<=OK F b g F.length/\OK F b g F.length<=50000:=by
 have one:∀(z:Int) (i:Nat),0<=z/\z<=2000->0<=z*(F6 b i g%b)/\z*(F6 b i g%b)<=2000*9:=λz i h=>by have m:=cO (a:=F6 b i g) (b:=(b:Int)) #[2];exact adL h.1 h.2 m.1 #[2]
 match F,G,M with
 |[],_,_=>
  show(0:Int)<=0/\(0:Int)<=50000;decide
 |[x],_,M=>
  have:=one x 0 (M x #[8]);show 0<=0+x*(F6 b 0 g%b)/\0+x*(F6 b 0 g%b)<=50000;omega
 |[x,y],_,M=>
  have:=one x 0 (M x #[8]);have:=one y 1 (M y #[8]);show 0<=0+x*(F6 b 0 g%b)+y*(F6 b 1 g%b)/\0+x*(F6 b 0 g%b)+y*(F6 b 1 g%b)<=50000;omega
def adE{d:LD}(L:OW b d):Ms d (N6 d):=⟨d.more,0,rfl,⟨L.mo.1,by have:=L.mo.2;omega⟩,⟨zG _,by have:=L.n1;omega⟩⟩
def adF{d:LD}(L:OW b d){u:LI}{f:Nat}(h:Ms d u):Ms d (J1 b d u f):=by
 obtain⟨c,q,rfl,i,⟨o,O⟩⟩:=h;have w:=apa (g:=(f:Int)) L.b2 L.fl L.fi;have B:=L.b2;have e:lkT b d [c,q] f=c+OK d.F b f d.F.length:=rfl;have t0:0<=lkT b d [c,q] f/\lkT b d [c,q] f<=100000:=by omega
 have m:=cO (a:=lkT b d [c,q] f) (b:=(b:Int)) #[2];refine⟨_,_,U,⟨QK t0.1 #[2],?_⟩,pz L.ok o O m.1 m.2⟩;have:lkT b d [c,q] f / b<50001:=ZW #[2] (show _<50001*(b:Int) by omega);omega
theorem TK{x m r g:QX}{d:LD}(L:OW b d):
  Sy kkI C x d4 (λH=>CU H C x m d.F d.more b/\bQ H m r g b d.rows d.signs) (Ms d) (J1 b d) (N6 d) (lkG b d) (iO C) (ox C) (ou C) where
 same:=λH H' s h=>⟨h.1.same s,h.2.same λa xs e=>s _ _ e⟩
 ob:=λH h=>by obtain⟨X,fa,G,_⟩:=h.1.ob;exact⟨X,_,G,U,U,U⟩
 begin:=λH Q E h q=>⟨x,m,d.F,d.more,b,rfl,h.1,λt H' s k=>q t H' s k⟩
 step:=λH Q E n u f M e h B o l q=>by subst e;obtain⟨c,p,rfl,i,j⟩:=o;exact⟨x,m,n,r,g,d.F,d.more,c,p,(f:Int),d.rows.length,b,d.rows,d.signs,U,h.1,B,h.2,L.ok,L.b2,j,λT H' s v=>q T H' s v⟩
 sign:=λH Q E n u h B o q=>by obtain⟨c,p,rfl,i,j⟩:=o;exact⟨x,m,n,r,g,d.F,d.more,c,p,d.rows.length,b,d.rows,d.signs,af2 b c,U,h.1,B,h.2,L.ok,L.sg,L.b2,j,⟨i.1,Jk i.2 #[1]⟩,af3 L.b2.1 i.1,λH' s=>q H' s⟩
 ok0:=adE L
 okS:=λu f o l=>adF L o
def aeu(s1 s2:LI->Nat->LI)(u:LK)(f:Nat):LK:=[s1 (u.getD 0 []) f,s2 (u.getD 1 []) f]
def FN(a b:Int):Int:=if a=b then 1 else 0
def akC(g1 g2:LI->Int)(u:LK):Int:=FN (g1 (u.getD 0 [])) (g2 (u.getD 1 []))
structure acD(K:YW)(C:QX):Prop where
 cl:EJ K C
 n1:dG K C "one"
 n2:dG K C "other"
 n3:dG K C "rule"
inductive aaG (C:QX) (vs:List V) (H:Hp) (Q:VK) (E:XK):Prop
 | mk (x dx o1 o2 fn:QX) (_:vs=[.ref x,.ref o1,.ref o2,.ref fn]) (_:H x=Z (.ins C dx [])) (_:∀H':Hp,(∀c u,c≠x->H c=Z u->H' c=Z u)->H' x=Z #[61]->Q .non H')
inductive Cs (vs:List V) (H:Hp) (Q:VK) (E:XK):Prop
 | mk (a b:Int) (_:vs=[.int a,.int b]) (_:Q (.int (FN a b)) H)
structure aaV(H:Hp)(C x:QX):Prop where
 ob:∃(dx:QX) (fs:List (Str×V)),H x=Z #[126]/\fs.lookup ("begin" : Str)=Y/\fs.lookup ("step" : Str)=Y/\fs.lookup ("sign" : Str)=Y
inductive Ct (C CL:QX) (vs:List V) (H:Hp) (Q:VK) (E:XK):Prop
 | mk (x dx o1 o2 fn:QX) (u1 u2:LI) (_:vs=[.ref x]) (_:H x=Z #[61]) (_:aaV H CL o1) (_:aaV H CL o2) (_:(∀(H1:Hp) (Q:VK),av H H1->(∀(t:QX) (H':Hp),av H1 H'->H' t=Z (.tup (u1.map V.int))->Q (.ref t) H')->iO CL [.ref o1] H1 Q E0)) (_:(∀(H1:Hp) (Q:VK),av H H1->(∀(t:QX) (H':Hp),av H1 H'->H' t=Z (.tup (u2.map V.int))->Q (.ref t) H')->iO CL [.ref o2] H1 Q E0)) (_:∀(T:QX) (H':Hp),av H H'->fQ H' [u1,u2] T->Q #[164] H')
inductive Fe (C CL:QX) (vs:List V) (H:Hp) (Q:VK) (E:XK):Prop
 | mk (x dx o1 o2 fn t c1 c2:QX) (f:Int) (u1 u2:LI) (_:vs=[.ref x,.ref t,.int f]) (_:H x=Z #[61]) (_:H t=Z (.tup [.ref c1,.ref c2])) (_:aaV H CL o1) (_:aaV H CL o2) (_:(∀(H1:Hp) (Q:VK),av H H1->(∀(t:QX) (H':Hp),av H1 H'->H' t=Z (.tup (u1.map V.int))->Q (.ref t) H')->ox CL [.ref o1,.ref c1,.int f] H1 Q E0)) (_:(∀(H1:Hp) (Q:VK),av H H1->(∀(t:QX) (H':Hp),av H1 H'->H' t=Z (.tup (u2.map V.int))->Q (.ref t) H')->ox CL [.ref o2,.ref c2,.int f] H1 Q E0)) (_:∀(T:QX) (H':Hp),av H H'->fQ H' [u1,u2] T->Q #[164] H')
inductive Fd (K:YW) (mg:Str->Option Value) (C CL:QX) (vs:List V) (H:Hp) (Q:VK) (E:XK):Prop
 | mk (x dx o1 o2 fn t c1 c2:QX) (g1 g2:Int) (_:vs=[.ref x,.ref t]) (_:H x=Z #[61]) (_:mg "alike" = Z (.ref fn)) (_:Yd K (.ref fn)=true) (_:H t=Z (.tup [.ref c1,.ref c2])) (_:aaV H CL o1) (_:aaV H CL o2) (_:(∀(H1:Hp) (Q:VK),av H H1->(∀H':Hp,av H1 H'->Q (.int g1) H')->ou CL [.ref o1,.ref c1] H1 Q E0)) (_:(∀(H1:Hp) (Q:VK),av H H1->(∀H':Hp,av H1 H'->Q (.int g2) H')->ou CL [.ref o2,.ref c2] H1 Q E0)) (_:∀H':Hp,av H H'->Q (.int (FN g1 g2)) H')
section
def Ax:ax ["self","one","other","rule"] ["self","one","other","rule"] (ao fZ):=cb #[1]
def DE:ax ["self"] ["self"] (ao mD):=cb #[1]
def EG:ax ["self","place","figure"] ["self","place","figure"] (ao pb):=cb #[1]
def tK:ax ["self","place","rule"] ["self","place"] (ao oZ):=cb #[1]
def aeN:ax ["one","other"] ["one","other"] (ao Ou):=cb #[1]
def adN(F:aY K "alike" "alike" Ou dV f fd):aR P w K mg base dy 1 f fd ["one","other"] Cs:=by
 refine F.ok aeN #[15] #[9]
 ·obtain⟨a,b,rfl,_⟩:=h;rfl
 obtain⟨a,b,rfl,q⟩:=h;exists _,(aq (aH (Ru (aX mQ (pv 0) (pv 1) (bK _)) ar ar)));exists 0;refine⟨_,U,_,U,U,_,U,agz #[84] #[84]⟩
 ·unfold FN at q;rw[if_pos c]at q;exact q
 ·unfold FN at q;rw[if_neg c]at q;exact q
def ad0(F:aY K "__init__" "Pairing.__init__" fZ dV f fd)(m:acD K C):aR P w K mg base dy 1 f fd ["self","one","other","rule"] (aaG C):=by
 refine F.ok Ax #[15] #[9]
 ·obtain⟨x,X,a,W,B,rfl,_⟩:=h;rfl
 obtain⟨x,X,a,W,B,rfl,J,k⟩:=h;refine⟨_,(ah (iH (pv 0) (pv 1) rfl)
   (ah (iH (pv 0) (pv 2) rfl)
   (aq (iH (pv 0) (pv 3) rfl)))),?_⟩
 exists 0;refine⟨_,U,_,U,x,C,X,[],U,J,m.cl,m.n1,by decide,?_⟩;refine⟨_,U,_,U,x,C,X,_,U,ae,m.cl,m.n2,by show 1<1000;decide,?_⟩;refine⟨_,U,_,U,x,C,X,_,U,ae,m.cl,m.n3,by show 2<1000;decide,?_⟩;refine k _ (λc u O e=>?_) ae;rw[ag O,ag O,ag O];exact e
def abM(F:aY K "begin" "Pairing.begin" mD dV f fd)(m:acD K C)(d:cT P w K mg base CL "begin" 1 ["self"] (iO CL)):aR P w K mg base dy 2 f fd ["self"] (Ct C CL):=by
 refine F.ok DE #[15] #[9]
 ·obtain⟨x,X,a,W,B,g,z,rfl,_⟩:=h;rfl
 obtain⟨x,X,a,W,B,g,z,rfl,c,⟨y,L,G,i,_,_⟩,⟨j,l,M,N,_,_⟩,D,v,q⟩:=h;exists _,(aq (aH (ck (aa (HQ d S #[21]) (aa (HQ d S #[21]) af)))));exists 0;refine⟨_,U,x,C,X,_,_,U,c,m.cl,m.n1,U,a,y,_,U,G,i,D _ _ (av.refl _) λt1 o s1 b=>?_⟩;refine⟨_,U,x,C,X,_,_,U,s1 _ _ c,m.cl,m.n2,U,W,j,_,U,s1 _ _ M,N,v _ _ s1 λe p s2 k=>?_⟩;refine⟨#[14],λT r=>?_⟩;have J:=aj r (HO.tup [V.ref t1,V.ref e]);exact q T _ (#[152].trans J) ⟨[t1,e],ae,.cons (J _ _ (s2 _ _ b)) (.cons (J _ _ k) .nil)⟩
def ad3(F:aY K "step" "Pairing.step" pb dV f fd)(m:acD K C)(e:cT P w K mg base CL "step" 2 ["self","place","figure"] (ox CL)):aR P w K mg base dy 3 f fd ["self","place","figure"] (Fe C CL):=by
 refine F.ok EG #[15] #[9]
 ·obtain⟨x,X,a,W,B,t,p,R,v,i,z,rfl,_⟩:=h;rfl
 obtain⟨x,X,a,W,B,t,p,R,v,i,z,rfl,c,d,⟨y,L,G,_,j,_⟩,⟨l,u,M,_,N,_⟩,D,o,q⟩:=h;refine⟨_,(aq (aH (ck (aa (pN e S #[21] (aa #[35] #[89])) (aa (pN e S #[21] (aa #[35] #[89])) af))))),?_⟩;exists 0;refine⟨_,U,x,C,X,_,_,U,c,m.cl,m.n1,U,a,y,_,U,G,j,_,U,t,_,_,_,U,U,bN d,U,_,U,D _ _ (av.refl _) λt1 O s1 b=>?_⟩;refine⟨_,U,x,C,X,_,_,U,s1 _ _ c,m.cl,m.n2,U,W,l,_,U,s1 _ _ M,N,_,U,t,_,_,_,U,U,bN (s1 _ _ d),U,_,U,o _ _ s1 λg H2 s2 k=>?_⟩;refine⟨#[14],λT r=>?_⟩;have J:=aj r (HO.tup [V.ref t1,V.ref g]);exact q T _ (#[152].trans J) ⟨[t1,g],ae,.cons (J _ _ (s2 _ _ b)) (.cons (J _ _ k) .nil)⟩
def ad2(F:aY K "sign" "Pairing.sign" oZ dV f fd)(m:acD K C)(e:cT P w K mg base CL "sign" 5 ["self","place"] (ou CL))(c:bc P w K mg base "alike" 1 ["one","other"] [] Cs):aR P w K mg base dy 6 f fd ["self","place"] (Fd K mg C CL):=by
 refine F.ok tK #[15] #[9]
 ·obtain⟨x,X,a,W,B,t,p,R,D,v,rfl,_⟩:=h;rfl
 obtain⟨x,X,a,W,B,t,p,R,b,k,rfl,J,N,g,d,⟨y,L,G,_,_,j⟩,⟨l,r,M,_,_,o⟩,D,v,q⟩:=h;refine⟨_,(ah (az (i:=2) tK.nd #[21])
   (aq (aH (aed K (pv 2) (aa (pN e S #[21] (aa #[35] af)) (aa (pN e S #[21] (aa #[35] af)) af)) ((aj8 c S)))))),?_⟩
 exists 0;exists _,rfl,x,C,X,_,_,rfl,J,m.cl,m.n3,rfl;exists _,rfl,B,rfl,g;refine⟨_,U,x,C,X,_,_,U,J,m.cl,m.n1,U,a,y,_,U,G,j,_,U,t,_,_,_,U,U,bN d,U,D _ _ (av.refl _) λu s1=>?_⟩;refine⟨_,U,x,C,X,_,_,U,s1 _ _ J,m.cl,m.n2,U,W,l,_,U,s1 _ _ M,o,_,U,t,_,_,_,U,U,bN (s1 _ _ d),U,v _ _ s1 λz s2=>?_⟩;exact⟨B,U,N,_,_,U,q _ #[152]⟩
end
theorem akE{x X a W fn:QX}{G I:Hp->Prop}{p A:LI->Prop}{s1 s2:LI->Nat->LI}{i y:LI}{D v:LI->Int}(N:mg "alike" = Z (.ref fn))(J:Yd K (.ref fn)=true)(m:Sy kkI CL a d4 G p s1 i D (iO CL) (ox CL) (ou CL))(j:Sy kkI CL W d4 I A s2 y v (iO CL) (ox CL) (ou CL)):
  Sy EA C x d4 (λH=>H x=Z (.ins C X [("one",.ref a),("other",.ref W),("rule",.ref fn)])/\G H/\I H) (λu=>∃c z,u=[c,z]/\p c/\A z) (aeu s1 s2) [i,y] (akC D v) (Ct C CL) (Fe C CL) (Fd K mg C CL) where
 same:=λH H' s h=>⟨s _ _ h.1,m.same _ _ s h.2.1,j.same _ _ s h.2.2⟩
 ob:=λH h=>⟨X,_,h.1,rfl,rfl,rfl⟩
 begin:=λH Q E h q=>⟨x,X,a,W,fn,i,y,rfl,h.1,⟨m.ob _ h.2.1⟩,⟨j.ob _ h.2.2⟩,λg F s k=>m.begin g F _ (m.same _ _ s h.2.1) k,λg F s k=>j.begin g F _ (j.same _ _ s h.2.2) k,λt H' s d=>q t H' s d⟩
 step:=λH Q E n u f P e h B o l q=>by
  subst e;obtain⟨c,z,rfl,S,L⟩:=o;obtain⟨M,O,w⟩:=B;cases w with
  | cons R r=>
   cases r with
   | cons b r2=>
    cases r2;exact⟨x,X,a,W,fn,n,_,_,(f:Int),s1 c f,s2 z f,U,h.1,O,⟨m.ob _ h.2.1⟩,⟨j.ob _ h.2.2⟩,λg F s k=>m.step g F _ _ c f _ rfl (m.same _ _ s h.2.1) (s _ _ R) S l k,λg F s k=>j.step g F _ _ z f _ rfl (j.same _ _ s h.2.2) (s _ _ b) L l k,λt H' s d=>q t H' s d⟩
 sign:=λH Q E n u h B o q=>by
  obtain⟨c,z,rfl,S,L⟩:=o;obtain⟨M,O,w⟩:=B;cases w with
  | cons R r=>
   cases r with
   | cons b r2=>
    cases r2;exact⟨x,X,a,W,fn,n,_,_,D c,v z,U,h.1,N,J,O,⟨m.ob _ h.2.1⟩,⟨j.ob _ h.2.2⟩,λg F s k=>m.sign g F _ _ c (m.same _ _ s h.2.1) (s _ _ R) S k,λg F s k=>j.sign g F _ _ z (j.same _ _ s h.2.2) (s _ _ b) L k,λH' s=>q H' s⟩
 ok0:=⟨i,y,rfl,m.ok0,j.ok0⟩
 okS:=λu f o l=>by obtain⟨c,z,rfl,S,L⟩:=o;exact⟨_,_,U,m.okS _ _ S l,j.okS _ _ L l⟩
def an2:Expr->QZ×Expr×Scope
 | .Lambda p b s _=>(p,b,s)
 | e=>(⟨[],[],Y,[],[],Y,[]⟩,e,{kind:=ScopeKind.function,names:=[],isGenerator:=false,isCoroutine:=false,more:=[]})
def aj3:Expr->Pos
 | .Lambda _ _ _ p=>p
 | _=>⟨0,0,0,0⟩
def aj2:Stmt->Expr
 | .If _ (.Return (Z (.Call _ (_::e::_) _ _)) _::_) _ _=>e
 | _=>.Name "" ⟨0,0,0,0⟩
def an1:Expr:=aj2 ((cw dC).getD 5 (.Pass ⟨0,0,0,0⟩))
def iP:QZ×Expr×Scope:=an2 an1
def oz:Str:="Maker.machine_for" ++ ".<locals>." ++ "<lambda>"
def Ip:Pos:=aj3 an1
def aj4:Fv ["sign"] ["statement"] iP.2.2:=⟨rfl,rfl,rfl,by decide +kernel,by decide +kernel,by decide +kernel,by decide +kernel,by decide +kernel⟩
def wm.same{B:QX}{aZ:List #[156]}(L:wm H f B qual params body scope aZ R9)(s:∀a p,H a=Z (.ext p)->H' a=Z (.ext p)):wm H' f B qual params body scope aZ R9:=
 ⟨s _ _ L.fn,s _ _ L.cd,Paired.rH L.cl λ_ _ ⟨o,u,e,r,r1⟩=>⟨o,u,s _ _ e,r,r1⟩,L.nd⟩
structure Fy(H:Hp)(f:QX)(n:Int):Prop where
 ex:∃(c' x:QX) (aZ:List #[156]) (k1 k2 k3:V),aZ.map (·.1)=(["statement"]:List Str)/\wm H f c' oz iP.1 iP.2.1 iP.2.2 aZ [.ref x]/\H x=Z (.tup [k1,k2,k3,.int n])
theorem Fy.same{n:Int}(h:Fy H f n)(s:av H H'):Fy H' f n:=by obtain⟨⟨B,x,aZ,R,v,c,G,L,J⟩⟩:=h;exact⟨⟨B,x,aZ,R,v,c,G,wm.same L λ_ _ e=>s _ _ e,s _ _ J⟩⟩
def Fy.fnv{n:Int}(h:Fy H f n):FnV #[58] H:=by obtain⟨⟨B,x,aZ,R,v,c,G,L,J⟩⟩:=h;exact⟨f,oz,iP.1,iP.2.1,iP.2.2,aZ,B,U,L.fn⟩
inductive atj (v:V) (vs:List V) (H:Hp) (Q:VK):Prop
 | mk (f:QX) (n a:Int) (_:v=.ref f) (_:vs=[.int a]) (_:Fy H f n) (_:Q (.int (FN a n)) H)
def aka{k:Nat}(c:cL (k+2) X.A)(G:bc X.prog X.w X.K X.mg X.base "alike" 1 ["one","other"] [] Cs):LR X atj:=by
 intro V s σ H f0 E S Q I r ⟨f,n,a,e,N,⟨⟨B,x,aZ,R,v,g,O,L,J⟩⟩,q⟩;subst N;refine aj9 (k:=k+1) (ps:=["sign"]) (fr:=["statement"]) (params:=iP.1) (body:=iP.2.1) (scope:=iP.2.2) (te:=Mi Cs [] E0 (aaM (ahH 0) (aaM (tOp (akG X.K) (ahH 1) (tC (.int 3))) ae9))) c aj4 (λS h qual aZ B pm T=>?_) (λqual f B aZ s H F b=>?_) V s σ H f0 _ S Q I r ⟨rfl,f,B,oz,aZ,[.ref x],e,O,L,?_⟩
 ·match S,h with
  |[u],_=>rfl
 ·refine aU (X:=Y2 X.prog X.w X.K X.mg X.base ((["sign"]:List Str)++(["statement"]:List Str)) qual iP.2.2 f (.ref B) aZ X.A X.stack s H) G b (aa (U2 (i:=0) rfl #[93]) (aa (aB (pK X.K) (U2 (i:=1) rfl (.inr (.inr rfl))) ar #[3]) af)) (hkj:=by omega)
 ·have l:x∉aZ.map (·.2):=λz=>by
   obtain⟨p,D,m⟩:=jK.mp z;obtain⟨i,W⟩:=JD.mp D;have t:=L.cl
   match aZ,O,t,D with
   |[(y,d)],_,.cons ⟨o,u,j,_,_⟩ .nil,D=>
    cases jH.mp D;subst m;rw[J]at j;cases j
  have C:(less H #[97]) x=Z (.tup [R,v,g,.int n]):=by rw[bU l];exact J
  exists _,rfl,_,rfl,x,_,_,_,rfl,rfl,bN C,rfl,a,n,rfl;rw[aa2];exact q
structure OQ(d4:Nat)(rows:LL)(signs:LI)(ru:Int->Int)(aW:LL)(bZ:LI):Prop where
 ex:∃(wQ:LL) (mI:LI),pD d4 rows wQ signs mI/\pD d4 wQ aW (mI.map ru) bZ
theorem OQ.one(R:bA rows.length d4 rows)(h1:OQ d4 rows signs ru r1 s1)(M:OQ d4 rows signs ru r2 s2):r1=r2/\s1=s2:=by obtain⟨a,b,u,l⟩:=h1.ex;obtain⟨c,d,v,P⟩:=M.ex;obtain⟨rfl,rfl⟩:=u.one R v;exact l.one u.ok P
inductive Ma (vs:List V) (H:Hp) (Q:VK) (E:XK):Prop
 | mk (m r g fn:QX) (many d4:Nat) (rows:LL) (signs:LI) (n:Int) (_:vs=[.ref m,.ref fn]) (_:bQ H m r g d4 rows signs) (_:bA many d4 rows) (_:signs.length=many) (_:(1<=many/\many<1000)) (_:d4<=1000) (_:Fy H fn n) (_:∀(m' r' g':QX) (aW:LL) (bZ:LI) (H':Hp),av H H'->bQ H' m' r' g' d4 aW bZ->OQ d4 rows signs (λa=>FN a n) aW bZ->Q (.ref m') H')
section
def Ia:ax ["machine","rule","small"] ["machine","rule"] (ao Ap):=cb #[1]
def BQ:aO ["machine","rule","small"] (ao Ap) ["sign","rule"] [Y,Z 1] ⟨.function,[#[48],("sign",.local),("rule",.free)],false,false,[]⟩:=oh #[1]
def TV(F:aY K "changed" "changed" Ap dV f fd)(L:bc P w K mg base "least" 5 ["machine"] [] (Oz K))(Ag:bc P w K mg base "alike" 1 ["one","other"] [] Cs)(aC:mg "tuple" = Y):aR P w K mg base dy 6 f fd ["machine","rule"] Ma:=by
 refine F.ok Ia #[22] (λbP A c s H vs Q E S h=>?_)
 ·obtain⟨m,r,g,B,many,d4,rows,signs,mm,rfl,_⟩:=h;rfl
 obtain⟨m,r,g,B,many,d4,rows,signs,n,rfl,M,R,ls,⟨n1,n2⟩,l,RU,k⟩:=h;refine⟨_,(ah (az (i:=2) Ia.nd (aU L S #[38]))
   (aq (aH (aU L S (aa (ck (aa (aB aE (pv 2) ar #[3]) (aa (aB aE (pv 2) ar #[3]) (aa (aM aK #[43] aC bH (aa (dB rfl BQ (eS (aB aE (pv 2) ar #[3])) (λ_ _ _ _=>(aQ (i:=0) BQ.nd)) (λ_ _ _ _=>(aee (pv 1) #[38] ((aka S Ag))))) af)) af)))) af))))),?_⟩
 exists 0;refine⟨_,U,m,r,g,many,d4,rows,signs,U,M,R,ls,⟨n1,n2⟩,l,λj r1 g1 v o H1 s1 M1 q=>?_⟩;have A2:=R.len▸q.A2;have C:=q.sgn;exists 1;exists _,rfl,j,_,_,_,rfl,rfl,bN M1.tup,rfl,_,rfl,j,_,_,_,rfl,rfl,bN M1.tup,rfl,_,rfl,j,_,_,_,rfl,rfl,bN M1.tup,rfl,g1,rfl,⟨_,bN M1.sgn⟩;refine rD (K:=K) (xs:=o.map V.int) (λD i I H'=>av H1 H'/\I=((o.take i).map λa=>FN a n).map V.int) #[88] (λD i I H' _ ⟨e,_⟩=>bN (e _ _ M1.sgn)) ?_ ?_
 ·rintro D i y I H2 Q' X hi N ⟨s2,rfl⟩ k';obtain⟨z,rfl,t⟩:=cj hi;have T:=RU.same #[152];have il:=(iT t).1;refine⟨_,U,T.fnv,_,U,T.fnv,B,n,z,U,U,T,k' _ _ N #[102] ⟨au s2 X,?_⟩⟩;rw[jO,t,jB,jB];rfl
 rintro D I H2 X N ⟨s2,rfl⟩;rw[bg,jR]at N;refine⟨D,_,U,.inl ⟨bz N,λd u=>?_⟩⟩;have s3:=aj u (HO.tup ((o.map λa=>FN a n).map V.int));refine⟨#[56],λp G=>?_⟩;have s4:=aj G (HO.tup [V.int d4,V.ref r1,V.ref d]);have x:=s2.trans (s3.trans s4);obtain⟨eK,J,O⟩:=M1.rows;have M2:bQ _ p r1 d d4 v (o.map λa=>FN a n):=⟨ae,⟨eK,x _ _ J,O.same λb xs e=>x _ _ e⟩,s4 _ _ ae⟩;exact⟨p,r1,d,v.length,d4,v,_,U,M2,q.ok,by rw[bg,C],⟨q.pos,by omega⟩,l,λm3 r3 g3 HY W H5 s5 M5 L5=>k m3 r3 g3 HY W H5 (s1.trans (x.trans s5)) M5 ⟨v,o,q,L5⟩⟩
end
def cS(R:Str->LL×LI)(zs:List Str)(l:Look):LD:=⟨(R l.1).1,(R l.1).2,zs.map (Iy l.2),Iy l.2 ("" : Str)⟩
def Mg(b:Nat)(ds:List LD)(u:LK)(f:Nat):LK:=List.zipWith (λd p=>J1 b d p f) ds u
def SD(ds:List LD):LK:=ds.map N6
def Lb(st:α->Nat->α)(b0:α)(N:Nat)(p:α):Prop:=∃v,InF N v/\Se st b0 v=p
def acE(b:Nat)(R:Str->LL×LI)(zs:List Str)(aW:LL)(bZ:LI):At->Prop
 | .sg l n=>∃(ps Ck:LL),EO (J1 b #[54]) (N6 #[54]) #[171] ps Ck/\Ck.length=ps.length/\OQ #[171] Ck (ps.map (lkG b #[54])) (λa=>FN a n) aW bZ
 | .lk l m=>∃(ps:List LK) (Ck:LL),EO (aeu (J1 b #[54]) (J1 b (cS R zs m))) [N6 #[54],N6 (cS R zs m)] #[171] ps Ck/\Ck.length=ps.length/\pD #[171] Ck aW (ps.map (akC (lkG b #[54]) (lkG b (cS R zs m)))) bZ
section
variable[DecidableEq α]{st:α->Nat->α}{b0:α}{ps:List α}
def EO.rgK(G:EO st b0 N ps rows)(I:rows.length=ps.length){p:α}:p∈ps↔Lb st b0 N p:=by
 constructor
 ·exact λh=>G.re p h
 ·rintro⟨v,M,rfl⟩;obtain⟨j,_,a⟩:=G.told I M;exact sM a
end
theorem acE.one{R:Str->LL×LI}:∀{t:At},acE b R zs r1 s1 t->acE b R zs r2 s2 t->r1=r2/\s1=s2
 | .sg l n,⟨ps,f,G,I,C⟩,⟨a,cD,d,c,e⟩=>by obtain⟨rfl,rfl⟩:=G.one I d c;exact C.one (G.ok I) e
 | .lk l m,⟨ps,f,G,I,C⟩,⟨a,cD,d,c,e⟩=>by obtain⟨rfl,rfl⟩:=G.one I d c;exact C.one (G.ok I) e
theorem U4{d:LD}:∀(v:LI) (u:LI),Se (Mg b [d]) [u] v=[Se (J1 b d) u v]
 |[],u=>rfl
 | f::v,u=>U4 v (J1 b d u f.toNat)
theorem aet{d e:LD}:∀(v:LI) (u w:LI),Se (Mg b [d,e]) [u,w] v=Se (aeu (J1 b d) (J1 b e)) [u,w] v
 |[],u,w=>rfl
 | f::v,u,w=>aet v (J1 b d u f.toNat) (J1 b e w f.toNat)
def aox{d:LD}{p:LK}:Lb (Mg b [d]) [N6 d] N p↔∃q,p=[q]/\Lb (J1 b d) (N6 d) N q:=by
 constructor
 ·rintro⟨v,M,rfl⟩;exact⟨_,U4 v _,v,M,U⟩
 ·rintro⟨_,rfl,v,M,rfl⟩;exact⟨v,M,U4 v _⟩
def aow{d e:LD}{p:LK}:Lb (Mg b [d,e]) [N6 d,N6 e] N p↔Lb (aeu (J1 b d) (J1 b e)) [N6 d,N6 e] N p:=by unfold Lb;simp only[aet]
def LW{ps:LL}(h:ps.Nodup):(ps.map λq=>[q]).Nodup:=Jx.mpr (h.imp λn z=>n (List.cons.inj z).1)
structure Fl(H:Hp)(rd:QX)(b:Nat)(t:At)(R:Str->LL×LI):Prop where
 ex:∃kvs:List #[167],H rd=Z #[57]/\∀l∈cB t,(∃m r g:QX,cI kvs (.inr l.1)=Z #[147]/\bQ H m r g b (R l.1).1 (R l.1).2)/\bA (R l.1).1.length b (R l.1).1/\(R l.1).2.length=(R l.1).1.length/\1<=(R l.1).1.length
theorem Fl.same{t:At}{R:Str->LL×LI}(h:Fl H rd b t R)(s:av H H'):Fl H' rd b t R:=by obtain⟨kvs,G,c⟩:=h.ex;refine⟨kvs,s _ _ G,λl L=>?_⟩;obtain⟨⟨m,r,g,T,M⟩,d,j,f⟩:=c l L;exact⟨⟨m,r,g,T,M.same λa xs e=>s _ _ e⟩,d,j,f⟩
def aaf{t:At}{R:Str->LL×LI}{l:Look}(h:Fl H rd b t R)(ok:Fh t)(L:l∈cB t)(B:2<=b/\b<=10)(a:zs.length<=2):OW b #[54]:=by
 obtain⟨kvs,G,M⟩:=h.ex;obtain⟨_,g,j,c⟩:=M l L;have k:=(ok.ok l L).2;refine⟨g,j,c,B,?_,λz C=>?_,afk k _⟩
 ·show(zs.map (Iy l.2)).length<=2;rw[bg];exact a
 ·obtain⟨x,_,rfl⟩:=jK.mp C;exact afk k x
def Dv{k:Nat}(B:2<=b/\b<=10)(C:k<=2):1<=b^k/\b^k<=100:=by have G:b^k<=b^2:=zD #[2] C;have M:b^2<=10^2:=Zj B.2 2;exact⟨zw (JW (Nat.pow_pos #[2])),by omega⟩
inductive OA (vs:List V) (H:Hp) (Q:VK) (E:XK):Prop
 | mk (b t:Nat) (_:vs=[.int b,.int t]) (_:1<=b) (_:(t:Int)<100000) (_:(b:Int)^t<NB) (_:Q (.int ((b^t:Nat):Int)) H)
def abX{w k:Nat}(l:1<=w)(h:i<=k):w^i<=w^k:=zD l h
section
def pQ:ax ["base","times","power","turn"] ["base","times"] (ao Br):=cb #[1]
def ad1(F:aY K "power_of" "power_of" Br dV f fd)(y:mg "range" = Y):aR P w K mg base dy 1 f fd ["base","times"] OA:=by
 refine F.ok pQ #[15] #[9]
 ·obtain⟨b,t,rfl,_⟩:=h;rfl
 obtain⟨b,t,rfl,X,t1,g,k⟩:=h;have j:∀{x:Int},0<=x->x<NB->x<BIG:=λ{x} J a=>by have:=acC;have:=Sl;have q:NB*1<=NB*NB:=Jn (zG _) #[2] #[10] #[2];omega
 have pe:∀i:Nat,(b:Int)^i=((b^i:Nat):Int):=λi=>by push_cast;rfl
 have le:∀i:Nat,i<=t->((b^i:Nat):Int)<NB:=λi W=>by have:=abX X W;rw[pe]at g;omega
 refine⟨_,(ah (az (i:=2) pQ.nd ar)
   (ah (bL PassesOwn.never rfl (de rfl y #[80]) (aQ (i:=3) pQ.nd) (aq (az (i:=2) pQ.nd (aD aak (pv 2) (pv 0)))))
   (aq (aH (pv 2))))),?_⟩
 exists 0;refine⟨_,U,(t:Int),U,by omega,by omega,ie (λi O H'=>∃v,O=[Z #[193],Z (.int t),Z (.int ((b^i:Nat):Int)),v]/\H'=H) ⟨Y,U,U⟩ ?_ ?_⟩
 ·rintro i O H' W ⟨v,rfl,rfl⟩;rw[jN]at W;have z:=le i #[2];have G:(b:Int)<NB:=by have:=le 1 #[2];rw[QT]at this;exact this
  refine⟨_,U,_,U,_,_,U,U,⟨⟨by omega,j #[2] z⟩,⟨by omega,j #[2] G⟩⟩,Z (.int (0+(i:Int))),?_,U⟩;rw[ZP];push_cast;rfl
 ·rintro O H' ⟨v,rfl,rfl⟩;rw[jN];exact⟨_,U,k⟩
end
inductive RW (vs:List V) (H:Hp) (Q:VK) (E:XK):Prop
 | mk (z lo hi:Int) (_:vs=[.int z,.int lo,.int hi]) (_:(lo<=z/\z<=hi)) (_:Q (.bl true) H)
inductive aaC (vs:List V) (H:Hp) (Q:VK) (E:XK):Prop
 | mk (b:Int) (_:vs=[.int b]) (_:(2<=b/\b<=10)) (_:Q .non H)
inductive aaE (vs:List V) (H:Hp) (Q:VK) (E:XK):Prop
 | mk (v:V) (rd:QX) (t:At) (kvs:List #[167]) (_:vs=[v,.ref rd]) (_:eJ H v t) (_:H rd=Z #[57]) (_:(∀l∈cB t,∃u,cI kvs (.inr l.1)=Z u)) (_:∀H':Hp,av H H'->Q .non H')
inductive aaD (vs:List V) (H:Hp) (Q:VK) (E:XK):Prop
 | mk (v:V) (b:Nat) (t:At) (_:vs=[v,.int b]) (_:eJ H v t) (_:Fh t) (_:(2<=b/\b<=10)) (_:∀H':Hp,av H H'->Q .non H')
inductive ais (vs:List V) (H:Hp) (Q:VK) (E:XK):Prop
 | mk (v:V) (x:Str) (ps:List BI) (_:vs=[v,.str x]) (_:oK H v ps) (_:Az ps) (_:∀H':Hp,av H H'->Q (.int (Iy ps x)) H')
structure aaT(K:YW)(C:QX):Prop where
 cl:EJ K C
 nb:dG K C "base"
 nr:dG K C "rows"
 nm:dG K C "most"
structure Mt(H:Hp)(C x:QX)(b:Nat)(rd:QX)(most:Int):Prop where
 ob:∃dx,H x=Z (.ins C dx [("base",.int b),("rows",.ref rd),("most",.int most)])
def Mt.same{x:QX}{most:Int}(h:Mt H C x b rd most)(s:av H H'):Mt H' C x b rd most:=by obtain⟨X,e⟩:=h.ob;exact⟨X,s _ _ e⟩
inductive aaz (C:QX) (vs:List V) (H:Hp) (Q:VK) (E:XK):Prop
 | mk (x dx rd:QX) (b:Nat) (most:Int) (_:vs=[.ref x,.int b,.ref rd,.int most]) (_:H x=Z (.ins C dx [])) (_:(2<=b/\b<=10)) (_:∀H':Hp,(∀c u,c≠x->H c=Z u->H' c=Z u)->Mt H' C x b rd most->Q .non H')
inductive Ik (C:QX) (vs:List V) (H:Hp) (Q:VK) (E:XK):Prop
 | mk (x rd:QX) (v:V) (b:Nat) (most:Int) (t:At) (R:Str->LL×LI) (_:vs=[.ref x,v]) (_:Mt H C x b rd most) (_:eJ H v t) (_:Fh t) (_:Fl H rd b t R) (_:(2<=b/\b<=10)) (_:∀H':Hp,av H H'->Q .non H')
inductive DJ (C CL:QX) (vs:List V) (H:Hp) (Q:VK) (E:XK):Prop
 | mk (x rd m tn:QX) (row:Str) (va:V) (b:Nat) (most:Int) (kvs:List #[167]) (ps:List BI) (zs:List Str) (_:vs=[.ref x,.str row,va,.ref tn]) (_:Mt H C x b rd most) (_:H rd=Z #[57]) (_:cI kvs (.inr row)=Z #[147]) (_:oK H va ps) (_:Az ps) (_:H tn=Z #[116]) (_:zs.length<=2) (_:∀(o:QX) (H':Hp),av H H'->CU H' CL o m (zs.map (Iy ps)) (Iy ps ("" : Str)) b->Q (.ref o) H')
inductive aiU (K:YW) (mg:Str->Option Value) (H:Hp) (CL CP:QX) (b:Nat) (R:Str->LL×LI) (zs:List Str) (o:QX):At->Prop
 | sg (l:Look) (n:Int) (m r g:QX):CU H CL o m #[54].F #[54].more b->bQ H m r g b #[54].rows #[54].signs->aiU K mg H CL CP b R zs o (.sg l n)
 | lk (l l2:Look) (dx o1 o2 fn m r g m2 r2 g2:QX):H o=Z (.ins CP dx [("one",.ref o1),("other",.ref o2),("rule",.ref fn)])->mg "alike" = Z (.ref fn)->Yd K (.ref fn)=true ->
   CU H CL o1 m #[54].F #[54].more b->bQ H m r g b #[54].rows #[54].signs->CU H CL o2 m2 (cS R zs l2).F (cS R zs l2).more b->bQ H m2 r2 g2 b (cS R zs l2).rows (cS R zs l2).signs->aiU K mg H CL CP b R zs o (.lk l l2)
inductive Mf (K:YW) (mg:Str->Option Value) (C CL CP:QX) (vs:List V) (H:Hp) (Q:VK) (E:XK):Prop
 | mk (x rd:QX) (v:V) (b:Nat) (most:Int) (t:At) (R:Str->LL×LI) (_:vs=[.ref x,v]) (_:Mt H C x b rd most) (_:eJ H v t) (_:Fh t) (_:Fl H rd b t R) (_:∀(o:QX) (zs:List Str) (H':Hp),av H H'->tP zs (eZ t)->aiU K mg H' CL CP b R zs o t->Q (.ref o) H')
section
variable{fA:QX}{k1 k2 k3:Tok}
def Bu:ax ["thing","least","most"] ["thing","least","most"] (ao iL):=cb #[1]
def Ox:ax ["base"] ["base"] (ao wX):=cb #[1]
def Cq:ax ["statement","rows","name"] ["statement","rows"] (ao wY):=cb #[1]
def Ac:ax ["statement","base","piece"] ["statement","base"] (ao rj):=cb #[1]
def Ow:ax ["added","name"] ["added","name"] (ao pO):=cb #[1]
def wq:aO ["added","name"] (ao pO) ["part","name"] [Y,Z 1] ⟨.function,[#[48],("part",.local),("name",.free)],false,false,[]⟩:=oh #[1]
def Co:ax ["self","base","rows","most"] ["self","base","rows","most"] (ao lK):=cb #[1]
def sV:ax ["self","statement"] ["self","statement"] (ao eA):=cb #[1]
def rO:ax ["self","row","added","names","factors"] ["self","row","added","names"] (ao fO):=cb #[1]
def oO:aO ["self","row","added","names","factors"] (ao fO) ["name","added"] [Y,Z 2] ⟨.function,[#[48],("name",.local),("factor_in",.globalImplicit),("added",.free)],false,false,[]⟩:=oh #[1]
def eI:ax ["self","statement","kind","names","one"] ["self","statement"] (ao lM):=cb #[1]
def abR(F:aY K "is_whole_within" "is_whole_within" iL dV f fd)(a:bc P w K mg base "is_whole" 1 ["thing"] [] OB):aR P w K mg base dy 2 f fd ["thing","least","most"] RW:=by
 refine F.ok Bu #[15] #[9]
 ·obtain⟨z,lo,W,rfl,_⟩:=h;rfl
 obtain⟨z,lo,W,rfl,⟨G,M⟩,q⟩:=h;exists _,(aq (aH (Oa (aU a S #[38]) (Oe (aef L4 L4 (pv 1) (pv 0) (pv 2))))));exists 0;refine⟨_,U,z,U,_,U,Dj ⟨_,U,_,U,_,_,U,U,_,U,Be (λ_=>?_) (λc=>absurd G c)⟩⟩;exists _,rfl,_,_,rfl,rfl;show Q (.bl (decide (z<=W))) H;rw[decide_eq_true M];exact q
def adW(F:aY K "need_base" "need_base" wX dV f fd)(a:mg "LEAST_BASE" = Z (.int 2 k1))(c:mg "MOST_BASE" = Z (.int 10 k2))(d:bc P w K mg base "is_whole_within" 2 ["thing","least","most"] [] RW):aR P w K mg base dy 3 f fd ["base"] aaC:=by
 refine F.ok Ox #[15] #[9]
 ·obtain⟨b,rfl,_⟩:=h;rfl
 obtain⟨b,rfl,B,q⟩:=h;exists _,(aq (cC (Dx (Bl (aU d S (aa (pv 0) (aa (cJ (v:=.int 2) rfl a ⟨_,rfl⟩) (aa (cJ (v:=.int 10) rfl c ⟨_,rfl⟩) af)))))) (aq fu) bq));exists 0;exact⟨_,U,b,_,_,U,B,_,U,q⟩
def adY(F:aY K "need_rows" "need_rows" wY dV f fd)(b:bc P w K mg base "rows_of" 3 ["statement"] [] RV):aR P w K mg base dy 4 f fd ["statement","rows"] aaE:=by
 refine F.ok Cq #[15] #[9]
 ·obtain⟨v,rd,t,kvs,rfl,_⟩:=h;rfl
 obtain⟨v,rd,t,kvs,rfl,M,j,g,q⟩:=h;have R:=mh S;refine⟨_,(aq (bL PassesOwn.never rfl (eS (aU b S #[38])) (aQ (i:=2) Cq.nd) (aq (cC (HV (Dq R (pv 2) (pv 1)) #[25]) (aq fu) bq)))),?_⟩;exists 0;refine⟨_,U,v,t,U,M,λT zs m s1 r C o=>⟨T,U,⟨_,bN r⟩,?_⟩⟩;refine pH (K:=K) (xs:=zs.map V.str) (λi O H'=>∃(d:OV),O=[Z v,Z (.ref rd),d]/\H'=m) ⟨Y,U,U⟩ (λi O H' _ ⟨_,_,e⟩=>by rw[e];exact bN r) ?_ ?_
 ·rintro i y O H' W ⟨d,rfl,rfl⟩;obtain⟨z,rfl,c⟩:=Cv W;obtain⟨l,L,e⟩:=jK.mp (C z (sM c));obtain⟨u,a⟩:=g l L;rw[e]at a;exists _,rfl,_,rfl,rd,_,rfl,mS.k (k:=.inr z) (s1 _ _ j),_,rfl;rw[a];exact tV ⟨_,U,U⟩
 ·rintro O H' ⟨d,rfl,rfl⟩;exact q _ s1
def adX(F:aY K "need_narrow" "need_narrow" rj dV f fd)(j:mg "MOST_WIDE" = Z (.int 1000 k3))(R:bc P w K mg base "pieces_of" 2 ["statement"] [] Im)(X:bc P w K mg base "free" 2 ["statement"] [] Ih)(a:bc P w K mg base "power_of" 1 ["base","times"] [] OA)(p:mg "len" = Y):aR P w K mg base dy 3 f fd ["statement","base"] aaD:=by
 refine F.ok Ac #[15] #[9]
 ·obtain⟨v,b,t,rfl,_⟩:=h;rfl
 obtain⟨v,b,t,rfl,M,ok,B,q⟩:=h;refine⟨_,(aq (bL PassesOwn.never rfl (cu (aU R S #[38])) (aQ (i:=2) Ac.nd) (aq (cC (aX Rp (aU a S (aa (pv 1) (aa (aG bw #[43] p cU (aa (aU X S #[89]) af)) af))) (cJ (v:=.int 1000) rfl j ⟨_,U⟩) (bK _)) (aq fu) bq)))),?_⟩;exists 0;refine⟨_,U,v,t,U,M,λL g s1 u=>⟨L,U,⟨_,bz u⟩,?_⟩⟩;refine dH (K:=K) (xs:=[v]) (λi O H'=>∃(d:OV),O=[Z v,Z #[193],d]/\av g H') ⟨Y,U,av.refl _⟩ (λi O H' _ ⟨_,_,e⟩=>bz (e _ _ u)) ?_ ?_
 ·rintro i y O H' W ⟨d,rfl,s2⟩;cases(show v=y by
   cases i with
   | zero=>simpa using W
   | succ i=>simp at W)
  refine⟨_,U,_,U,v,t,U,eJ.same (Bw #[152]) M,ok,λT zs G J r N=>?_⟩;have z:=HK N ok;have pw:=Dv B z;refine⟨T,_,U,.inr (bN r),b,zs.length,(by rw[bg];rfl),by omega,by omega,?_,_,_,U,U,_,U,Be #[84] (λ_=>⟨_,U,s2.trans J⟩)⟩
  ·refine Jk (show(b:Int)^zs.length<=100 by exact_mod_cast pw.2) #[1]
  ·exfalso;omega
 ·rintro O H' ⟨d,rfl,s2⟩;exact q _ #[152]
def akd(F:aY K "factor_in" "factor_in" pO dV f fd)(n:mg "sum" = Y):aR P w K mg base dy 1 f fd ["added","name"] ais:=by
 refine F.ok Ow (λo H Q E h=>?_) (λbP A b s H o Q E S h=>?_)
 ·obtain⟨v,x,ps,rfl,_⟩:=h;rfl
 obtain⟨v,x,ps,rfl,⟨a,as,rfl,l,B⟩,ok,q⟩:=h;have k:as.length=ps.length:=Paired.length B;have t:=ok.1;refine⟨_,(aq (aH (aG ((Lm rfl)) #[43] n acK (aa (HP rfl wq (eS (pv 0)) (λ_ _ _ _=>(aQ (i:=0) wq.nd)) (λ_ _ _ _=>(aX mQ (aB (pK K) (pv 0) ar #[3]) (pv 1) (bK _))) (λ_ _ _ _=>(aB (pK K) (pv 0) ar #[3]))) af)))),?_⟩;exists 0;exists _,rfl,a,rfl,⟨_,bN l⟩;refine Lq (K:=K) (xs:=as.map V.ref) (λD j I H'=>av H H'/\I=((#[55].map (·.1)).map V.int)) #[88] (λD j I H' _ ⟨e,_⟩=>bN (e _ _ l)) ?_ ?_
 ·rintro D j y I H' R J X r N ⟨hs,rfl⟩ u C;obtain⟨c,p,rfl,O,d⟩:=B9 B r;have m:H' c=Z #[125]:=hs _ _ O;have g:((ps.take (j+1)).filter λp=>decide (p.2=x)).map (·.1)=#[55].map (·.1)++(if p.2=x then [p.1]else []):=by rw[jO,d,<-R7];rfl
  have G:(#[55].map (·.1)).length<=2:=by rw[bg];refine jW (JI ..) ?_;rw[jT];omega
  refine⟨_,U,c,_,_,_,U,U,bN m,U,_,U,U,_,U,Be (λz=>?_) (λz=>?_)⟩
  ·refine⟨_,U,c,_,_,_,U,U,bN m,U,u _ _ N #[187] ⟨au hs X,?_⟩⟩;rw[g,if_pos (Ld.mp z),jB];rfl
  ·refine C _ N ⟨hs,?_⟩;rw[g,if_neg (λy=>z (Ld.mpr y)),jZ]
 ·rintro D I L X N ⟨s1,rfl⟩;rw[bg,k,jR]at N;exact⟨D,_,U,bz N,q _ s1⟩
def adU(F:aY K "__init__" "Maker.__init__" lK dV f fd)(T:aaT K C)(a:bc P w K mg base "need_base" 3 ["base"] [] aaC):aR P w K mg base dy 4 f fd ["self","base","rows","most"] (aaz C):=by
 refine F.ok Co #[15] #[9]
 ·obtain⟨x,X,rd,b,most,rfl,_⟩:=h;rfl
 obtain⟨x,X,rd,b,most,rfl,J,B,k⟩:=h;refine⟨_,(ah (aS (aU a S #[80]))
   (ah (iH (pv 0) (pv 1) rfl)
   (ah (iH (pv 0) (Ru (aX ad9 (pv 2) U1 (bK _)) oU (pv 2)) rfl)
   (aq (iH (pv 0) (pv 3) rfl))))),?_⟩
 exists 0;refine⟨_,U,_,U,by omega,?_⟩;refine⟨_,U,_,U,x,C,X,[],U,J,T.cl,T.nb,by decide,?_⟩;refine⟨_,U,U,_,U,tV ⟨_,U,_,U,x,C,X,_,U,ae,T.cl,T.nr,by show 1<1000;decide,?_⟩⟩;refine⟨_,U,_,U,x,C,X,_,U,ae,T.cl,T.nm,by show 2<1000;decide,?_⟩;refine k _ (λc u O e=>?_) ⟨X,ae⟩;rw[ag O,ag O,ag O];exact e
def Rm(F:aY K "need_makeable" "Maker.need_makeable" eA dV f fd)(T:aaT K C)(a:bc P w K mg base "need_rows" 4 ["statement","rows"] [] aaE)(d:bc P w K mg base "need_narrow" 3 ["statement","base"] [] aaD):aR P w K mg base dy 5 f fd ["self","statement"] (Ik C):=by
 refine F.ok sV #[15] #[9]
 ·obtain⟨x,rd,v,b,most,t,R,rfl,_⟩:=h;rfl
 obtain⟨x,rd,v,b,most,t,R,rfl,⟨X,J⟩,M,ok,c,B,q⟩:=h;obtain⟨kvs,j,i⟩:=c.ex;refine⟨_,(ah (aS (aU a S (aa (pv 1) #[186])))
   (aq (aS (aU d S (aa (pv 1) #[186]))))),?_⟩
 exists 0;refine⟨_,U,_,U,x,C,X,_,_,U,J,T.cl,T.nr,U,v,rd,t,kvs,U,M,j,λl L=>?_,λk s1=>?_⟩
 ·obtain⟨⟨m,r,g,e,_⟩,_⟩:=i l L;exact⟨_,e⟩
 exact⟨_,U,_,U,x,C,X,_,_,U,s1 _ _ J,T.cl,T.nb,U,v,b,t,U,eJ.same (Bw s1) M,ok,B,λG s2=>q _ #[152]⟩
def TZ(F:aY K "looking" "Maker.looking" fO dV f fd)(T:aaT K C)(M:K6 P w K mg base "Looking" CL 1 ["self","machine","factors","more","base"] (aay CL))(p:bc P w K mg base "factor_in" 1 ["added","name"] [] ais):aR P w K mg base dy 3 f fd ["self","row","added","names"] (DJ C CL):=by
 refine F.ok rO (λO H Q E h=>?_) (λbP A c s H O Q E a h=>?_)
 ·obtain⟨x,rd,m,tn,l,g,b,most,kvs,ps,zs,rfl,_⟩:=h;rfl
 obtain⟨x,rd,m,tn,l,g,b,most,kvs,ps,zs,rfl,⟨r,v⟩,W,hm,B,ok,R,lz,q⟩:=h;have hu:=mh a;refine⟨_,(ah (fX (i:=4) rfl rO.nd rfl #[135] oO (eS (pv 3)) (λ_ _ _ _=>(aQ (i:=0) oO.nd)) (λ_ _ _ _=>(aU p a (aa (pv 1) #[38]))))
   (aq (aH (Od M a (aa (Cc hu #[21] (pv 1) #[3]) (aa (pv 4) (aa (aU p a (aa (pv 2) (aa cz af))) #[186]))))))),?_⟩
 exists 0;exists _,rfl,tn,rfl,⟨_,bN R⟩;refine rD (K:=K) (xs:=zs.map V.str) (λD i I H'=>av H H'/\I=((zs.take i).map (Iy ps)).map V.int) #[88] (λD i I H' _ ⟨e,_⟩=>bN (e _ _ R)) ?_ ?_
 ·rintro D i y I H2 Q' X hi N ⟨s2,rfl⟩ k';obtain⟨z,rfl,t⟩:=Cv hi;have il:=(iT t).1;refine⟨_,U,_,U,g,z,ps,U,B.same (Bw s2),ok,λj J=>k' _ _ (J _ _ N) #[102] ⟨au (s2.trans J) X,?_⟩⟩;rw[jO,t,jB,jB];rfl
 rintro D I H2 X N ⟨s2,rfl⟩;rw[bg,jR]at N;exists 1;refine⟨_,U,x,C,r,_,_,U,s2 _ _ v,T.cl,T.nr,U,_,U,rd,.ref m,U,?_,_,U,_,U,g,_,ps,U,B.same (Bw s2),ok,λj J=>?_⟩
 ·rw[<-hm];exact mS.k (k:=.inr l) (s2 _ _ W)
 have S:=s2.trans J;exists _,rfl,x,C,r,_,_,rfl,S _ _ v,T.cl,T.nb,rfl;refine λo d G n ne=>?_;have L:av j (upd (upd j d (.own o)) o (.ins CL d [])):=λb u e=>by rw[ag (ak e G),ag (ak e n)];exact e
 exact⟨o,d,m,D,_,_,_,U,ae,L _ _ (J _ _ N),λH5 kp LA=>⟨U,q o H5 (λb u e=>kp b u (ak (S _ _ e) G) (L _ _ (S _ _ e))) LA⟩⟩
def T8(F:aY K "walk_for" "Maker.walk_for" lM dV f fd)(mc:aaT K C)(ig:mg "COMPARING" = Z (.ref TC))(O:∀H,lU K H TC N0)(ES:mg "alike" = Z (.ref fA))(kA:Yd K (.ref fA)=true)(AO:K6 P w K mg base "Pairing" CP 1 ["self","one","other","rule"] (aaG CP))(rS:cT P w K mg base C "looking" 3 ["self","row","added","names"] (DJ C CL))(mx:bc P w K mg base "free" 2 ["statement"] [] Ih):aR P w K mg base dy 4 f fd ["self","statement"] (Mf K mg C CL CP):=by
 refine F.ok eI #[22] (λbP A X s H vs Q E W h=>?_)
 ·obtain⟨x,rd,v,b,most,t,R,rfl,_⟩:=h;rfl
 obtain⟨x,rd,v,b,most,t,R,rfl,MA,fU,ok,EN,q⟩:=h;refine⟨_,(ah (az (i:=2) eI.nd #[35])
   (ah (az (i:=3) eI.nd (aU mx W #[80]))
   (ah (cC (aX eX (pv 2) (cJ (v:=.ref _) rfl ig rfl) #[25]) (aq fu) bq)
   (ah (az (i:=4) eI.nd (pN rS W (pv 0) (aa #[35] (aa #[35] #[79]))))
   (ah (cC (aX mQ (pv 2) cz (bK _)) (aq (aH (pv 4))) bq)
   (aq (aH (Od AO W (aa (pv 4) (aa (pN rS W (pv 0) (aa #[35] (aa #[35] #[79]))) (aa (cJ (v:=.ref _) rfl ES rfl) af))))))))))),?_⟩
 exists 0;obtain⟨dx,hx⟩:=MA.ob;have MX:∀{H':Hp},av H H'->Mt H' C x b rd most:=λs=>MA.same s;obtain⟨kvs,hd,hv⟩:=EN.ex;have z:∀{H':Hp} {tn:QX} {zs:List Str} {l:Look} {D:V} {Q':VK} {E':XK},av H H'->H' tn=Z #[116]->zs.length<=2->l∈cB t->oK H' D l.2 ->
   (∀(o m r g:QX) (G:Hp),av H' G->CU G CL o m #[54].F #[54].more b->bQ G m r g b #[54].rows #[54].signs->Q' (.ref o) G)->DJ C CL [.ref x,.str l.1,D,.ref tn] H' Q' E':=λ{H' tn zs l D Q' E'} s I J hl hS k=>by
  obtain⟨⟨m,r,g,e1,M⟩,_⟩:=hv l hl;exact⟨x,rd,m,tn,l.1,D,b,most,kvs,l.2,zs,U,MX s,s _ _ hd,e1,hS,(ok.ok l hl).2,I,J,λo G s2 L=>k o m r g G s2 L (M.same λa xs e=>s2 _ _ (s _ _ e))⟩
 cases t with
 | sg l n=>
  obtain⟨y,D,rfl,N,S⟩:=fU;exists _,rfl,y,_,_,_,rfl,rfl,bN N,rfl;refine⟨_,U,.ref y,.sg l n,U,⟨y,D,U,N,S⟩,ok,λtn zs H1 s1 I j=>?_⟩;have J:=HK j ok;refine⟨_,U,TC,_,U,.inr (O _),U,U,_,U,Sd Ht.c ?_⟩;exists _,rfl,x,dx,_,rfl,s1 _ _ hx,rfl,_,rfl,y,_,_,_,rfl,rfl,bN (s1 _ _ N),rfl,_,rfl,y,_,_,_,rfl,rfl,bN (s1 _ _ N),rfl,_,rfl;refine z s1 I J jC (S.same (Bw s1)) λo m r g G s2 L M=>?_;exact⟨_,U,U,_,U,ifT Ht.s ⟨_,U,q o zs G #[152] j (.sg l n m r g L M)⟩⟩
 | lk l l2=>
  obtain⟨y,D,vb,rfl,N,S,hb⟩:=fU;exists _,rfl,y,_,_,_,rfl,rfl,bN N,rfl;refine⟨_,U,.ref y,.lk l l2,U,⟨y,D,vb,U,N,S,hb⟩,ok,λtn zs H1 s1 I j=>?_⟩;have J:=HK j ok;refine⟨_,U,TC,_,U,.inr (O _),U,U,_,U,Sd mZ.c ?_⟩;exists _,rfl,x,dx,_,rfl,s1 _ _ hx,rfl,_,rfl,y,_,_,_,rfl,rfl,bN (s1 _ _ N),rfl,_,rfl,y,_,_,_,rfl,rfl,bN (s1 _ _ N),rfl,_,rfl;refine z s1 I J jC (S.same (Bw s1)) λo m r g G s2 L M=>?_;have T:=s1.trans s2;refine⟨_,U,U,_,U,Sd mZ.s ?_⟩;exists _,rfl,_,rfl,x,dx,_,rfl,T _ _ hx,rfl,_,rfl,y,_,_,_,rfl,rfl,bN (T _ _ N),rfl,_,rfl,y,_,_,_,rfl,rfl,bN (T _ _ N),rfl,_,rfl;refine z T (s2 _ _ I) J (jJ _ jC) (hb.same (Bw T)) λo2 m2 r2 g2 H3 s3 LB M2=>?_;refine λp d hp j5 ne=>?_;have s4:av H3 (upd (upd H3 d (.own p)) p (.ins CP d [])):=λb u e=>by rw[ag (ak e hp),ag (ak e j5)];exact e
  refine⟨p,d,o,o2,fA,U,ae,λH5 kp o5=>⟨U,?_⟩⟩;have s5:av H3 H5:=λb u e=>kp b u (ak e hp) (s4 _ _ e);have B:=s3.trans s5;exact q p zs H5 (T.trans B) j (.lk l l2 d o o2 fA m r g m2 r2 g2 o5 ES kA (L.same B) (M.same λa xs e=>B _ _ e) (LB.same s5) (M2.same λa xs e=>s5 _ _ e))
end
abbrev acF(Pt:QX)(H H':Hp):Prop:=∀b u,b≠Pt->H b=Z u->H' b=Z u
def eC.same(t:eC H Pt qual pos)(s:av H H'):eC H' Pt qual pos:=t.elim (λe=>.inl (s _ _ e)) λ⟨B,T,g⟩=>.inr ⟨B,s _ _ T,s _ _ g⟩
theorem eC.Cw(t:eC H Pt qual pos):∃ps,H Pt=Z (.Cw ps):=t.elim (λe=>⟨_,e⟩) λ⟨B,T,_⟩=>⟨_,T⟩
def RK(K:YW)(mg:Str->Option Value)(CL CP CT:QX):Sp:=λvs H Q E=>Ii kkI CL CT (iO CL) (ox CL) (ou CL) vs H Q E\/Ii EA CP CT (Ct CP CL) (Fe CP CL) (Fd K mg CP CL) vs H Q E
abbrev fV(R:Str->LL×LI)(zs:List Str)(t:At):List LD:=(cB t).map (cS R zs)
abbrev IH(b:Nat)(R:Str->LL×LI)(zs:List Str)(t:At)(p:LK):Prop:=Lb (Mg b #[74]) (SD #[74]) #[171] p
structure InA(H:Hp)(rd:QX)(v:V)(b most:Nat)(t:At)(R:Str->LL×LI)(Pt:QX):Prop where
 st:eJ H v t
 ok:Fh t
 en:Fl H rd b t R
 hb:2<=b/\b<=10
 mo:1<=most/\most<=100000
 tb:eC H Pt oz Ip
 A2:∀(zs:List Str) (ps:List LK),tP zs (eZ t)->ps.Nodup->(∀p∈ps,IH b R zs t p)->ps.length<=most->ps.length<1000
theorem InA.same{t:At}{R:Str->LL×LI}(h:InA H rd v b most t R Pt)(s:av H H'):InA H' rd v b most t R Pt:=
 ⟨eJ.same (Bw s) h.st,h.ok,h.en.same s,h.hb,h.mo,eC.same h.tb s,h.A2⟩
structure afK(b most:Nat)(t:At)(R:Str->LL×LI)(zs:List Str)(aW:LL)(bZ:LI):Prop where
 nm:tP zs (eZ t)
 res:acE b R zs aW bZ t
 ex:∃ps:List LK,ps.Nodup/\(∀p,p∈ps↔IH b R zs t p)/\ps.length<=most
structure afC(b most:Nat)(t:At)(R:Str->LL×LI):Prop where
 ex:∃(zs:List Str) (ps:List LK),tP zs (eZ t)/\ps.Nodup/\(∀p∈ps,IH b R zs t p)/\most<ps.length
inductive aaA (C CT Pt:QX) (vs:List V) (H:Hp) (Q:VK) (E:XK):Prop
 | mk (x rd:QX) (v:V) (b most:Nat) (t:At) (R:Str->LL×LI) (_:vs=[.ref x,v]) (_:Mt H C x b rd (most:Int)) (_:InA H rd v b most t R Pt) (_:(∀(m' r' g':QX) (aW:LL) (bZ:LI) (zs:List Str) (H':Hp),acF Pt H H'->eC H' Pt oz Ip->bQ H' m' r' g' #[171] aW bZ->afK b most t R zs aW bZ->Q (.ref m') H')) (_:∀(d:QX) (H':Hp),av H H'->H' d=Z (.xd [("most",.int most)])->afC b most t R->E (.ref CT) (Z d) H')
inductive Ij (CT Pt:QX) (vs:List V) (H:Hp) (Q:VK) (E:XK):Prop
 | mk (rd:QX) (v:V) (b most:Nat) (t:At) (R:Str->LL×LI) (_:vs=[v,.int b,.ref rd,.int most]) (_:InA H rd v b most t R Pt) (_:(∀(T tn m' r' g':QX) (aW:LL) (bZ:LI) (zs:List Str) (H':Hp),acF Pt H H'->eC H' Pt oz Ip->H' T=Z (.tup [.ref tn,.ref m'])->H' tn=Z #[116]->bQ H' m' r' g' #[171] aW bZ->afK b most t R zs aW bZ->Q #[164] H')) (_:∀(d:QX) (H':Hp),av H H'->H' d=Z (.xd [("most",.int most)])->afC b most t R->E (.ref CT) (Z d) H')
def aeK{R:Str->LL×LI}{l:Look}{n:Int}{p:LK}:IH b R zs (.sg l n) p↔∃q,p=[q]/\Lb (J1 b #[54]) (N6 #[54]) #[171] q:=aox
def aeJ{R:Str->LL×LI}{l W:Look}{p:LK}:IH b R zs (.lk l W) p↔Lb (aeu (J1 b #[54]) (J1 b (cS R zs W))) [N6 #[54],N6 (cS R zs W)] #[171] p:=aow
section
variable{c:QX}
def eU:ax ["self","statement","kind","machine"] ["self","statement"] (ao dC):=cb #[1]
def AJ:ax ["statement","base","rows","most","maker"] ["statement","base","rows","most"] (ao sS):=cb #[1]
def abE(F:aY K "grown" "grown" Cm dV f fd)(d:cT P w K mg base CL "begin" 1 ["self"] (iO CL))(k:cT P w K mg base CL "step" 2 ["self","place","figure"] (ox CL))(l:cT P w K mg base CL "sign" 5 ["self","place"] (ou CL))(e:cT P w K mg base CP "begin" 2 ["self"] (Ct CP CL))(g:cT P w K mg base CP "step" 3 ["self","place","figure"] (Fe CP CL))(j:cT P w K mg base CP "sign" 6 ["self","place"] (Fd K mg CP CL))(a:afD P w K mg base "TooGreat" CT f0 1 ["self","most"] (V4 CT))(y:mg "range" = Y)(p:mg "len" = Y)(x:mg "tuple" = Y):aR P w K mg base (IG P w) 7 f fd ["walk","wide","most"] (RK K mg CL CP CT):=by have A:=LZ (kk:=kkI) F (cT.up d) (cT.up k) (cT.up l) a y p x;have B:=LZ (kk:=EA) F (cT.up e) (cT.up g) j a y p x;exact⟨λn H Q E h=>h.elim (A.len n H Q E) (B.len n H Q E),λX I s H i S n Q E b R c M hs=>hs.elim (A.run X I s H i S n Q E b R c M) (B.run X I s H i S n Q E b R c M)⟩
def adT(F:aY K "machine_for" "Maker.machine_for" dC dV f fd)(hc:fd.code=.ref c)(kL:aiN K mg base c Pt)(mc:aaT K C)(oC:mg "JOINING" = Z (.ref TJ))(dP:mg "CHOOSING" = Z (.ref TH))(g6:∀H,lU K H TJ N1)(i6:∀H,lU K H TH Hu)(Fp:BB P w K mg base "grown" 7 ["walk","wide","most"] [] (RK K mg CL CP CT))(tY:cT P w K mg base C "walk_for" 4 ["self","statement"] (Mf K mg C CL CP))(lA:bc P w K mg base "power_of" 1 ["base","times"] [] OA)(mx:bc P w K mg base "free" 2 ["statement"] [] Ih)(CK:bc P w K mg base "changed" 6 ["machine","rule"] [] Ma)(sd:bc P w K mg base "least" 5 ["machine"] [] (Oz K))(bD:mg "len" = Y):aR P w K mg base (IG P w) 8 f fd ["self","statement"] (aaA C CT Pt):=by
 refine F.aog hc eU #[22] (λA l6 s H vs Q E W h=>?_)
 ·obtain⟨x,rd,v,b,most,t,R,rfl,_⟩:=h;rfl
 obtain⟨x,rd,v,b,most,t,R,rfl,MA,k,O,j5⟩:=h;obtain⟨dx,hx⟩:=MA.ob;have hb:=k.hb;have mo:=k.mo;obtain⟨kb,kf⟩:=kf_at t;obtain⟨y,rest,rfl,hy⟩:=M9 k.st;refine⟨_,(ah (az (i:=2) eU.nd #[35])
   (ah (cC (aX mQ (pv 2) cz (bK _)) (aq fu) bq)
   (ah (cC (aX eX (pv 2) (cJ (v:=.ref _) rfl oC rfl) #[25]) (aq fu) bq)
   (ah (cC (aX eX (pv 2) (cJ (v:=.ref _) rfl dP rfl) #[25]) (aq fu) bq)
   (ah (az (i:=3) eU.nd (aks Fp W L6 (aa (pN tY W (pv 0) #[80]) (aa (aal lA W (aa #[21] (aa (aG bw #[43] bD cU (aa (aal mx W #[80]) af)) af))) #[186]))))
   (ah (cC (aX mQ (pv 2) cz (bK _)) (aq (aH (akr (i:=1) (y:="statement") CK W (aa (pv 3) (aa (akt kL rfl rfl) af)) rfl rfl rfl))) bq)
   (aq (aH (aal sd W #[79]))))))))),?_⟩
 exists 0;exists _,rfl,y,_,_,_,rfl,rfl,bN hy,at0;refine⟨_,U,U,_,U,Sd kf.n ?_⟩;refine⟨_,U,TJ,_,U,.inr (g6 _),U,U,_,U,Sd kf.j ?_⟩;refine⟨_,U,TH,_,U,.inr (i6 _),U,U,_,U,Sd kf.h ?_⟩;refine⟨_,U,x,dx,_,U,hx,U,_,U,x,rd,.ref y,b,most,t,R,U,MA,k.st,k.ok,k.en,λo zs H1 s1 N WA=>?_⟩;refine⟨_,U,x,C,dx,_,_,U,s1 _ _ hx,mc.cl,mc.nb,U,_,U,.ref y,t,U,eJ.same (Bw s1) k.st,k.ok,λtn CD H2 s2 hn m6=>?_⟩;obtain rfl:=m6.uniq N;have lz:=HK N k.ok;have pw:=Dv hb lz;have rm:=s1.trans s2;refine⟨tn,_,U,.inr (bN hn),b,CD.length,(by rw[bg];rfl),by omega,by omega,Jk (show(b:Int)^CD.length<=100 by exact_mod_cast pw.2) #[1],?_⟩;exists _,rfl,x,C,dx,_,_,rfl,rm _ _ hx,mc.cl,mc.nm,rfl;cases WA with
 | sg l n m r g LA M=>
  have L:=aaf (zs:=CD) k.en k.ok (l:=l) jC hb lz;refine .inl ⟨o,b^CD.length,most,_,_,_,N6 (cS R CD l),lkG b (cS R CD l),U,⟨LA.same s2,M.same λa xs e=>s2 _ _ e⟩,TK L,by omega,mo,λm3 r3 g3 HY ps H3 J M3 G I le=>?_,λd H3 ps J hd nd re lt=>?_⟩
  ·have mem:∀p,p∈ps.map (λq=>[q])↔IH b R CD (.sg l n) p:=λp=>by
    rw[aeK];constructor
    ·intro h;obtain⟨q,hq,e⟩:=jK.mp h;exact⟨q,e.symm,(G.rgK I).mp hq⟩
    ·rintro⟨q,rfl,hq⟩;exact jK.mpr ⟨q,(G.rgK I).mpr hq,U⟩
   have nd:=LW G.nd;have A2:=k.A2 CD _ N nd (λp D=>(mem p).mp D) (by rw[bg];exact le);rw[bg]at A2;have S3:=rm.trans J;obtain⟨y2,va,ey,o5,ha⟩:=k.st;cases ey;exists 1;refine⟨_,U,U,_,U,ifT Ht.s ?_⟩;refine⟨_,U,eC.same k.tb S3,λfn c' H4 c7 o6 c6 CF keep=>?_⟩;obtain⟨d7,u6⟩:=eC.Cw (eC.same k.tb S3);refine⟨_,U,λob u S y6 z6=>?_⟩;have X:=aj S (HO.ext (cY #[11] ob));obtain⟨H5,B⟩:∃H5,upd H4 #[11] (HO.ext (cY #[11] ob))=H5:=⟨_,rfl⟩;rw[B]at X;have T:H5 #[11]=Z (HO.ext (cY #[11] ob)):=by rw[<-B];exact ae
   rw[B];have d6:∀b xs,H3 b=Z #[39]->H5 b=Z #[39]:=λb xs e=>X _ _ (keep b _ (aA e u6 #[0]) e);have LH:wm H5 fn c' oz iP.1 iP.2.1 iP.2.2 [("statement",s.heap.objs.size+1)] [.ref y]:=⟨X _ _ o6,X _ _ CF,.cons ⟨ob,u,T,y6,z6⟩ .nil,by simp⟩;have nb:∀b,b≠s.heap.objs.size+1->b∉[s.heap.objs.size+1]:=λb n z=>n (by simpa using z);refine⟨m3,r3,g3,fn,ps.length,_,HY,_,n,U,M3.same d6,by rw[<-I];exact G.ok I,jQ _,⟨?_,A2⟩,by omega,⟨c',y,_,_,_,_,U,LH,d6 _ _ (S3 _ _ o5)⟩,λm' r' g' aW bZ H6 V M6 CH=>⟨V _ _ T,?_⟩⟩
   ·have:=(iT G.hd).1;omega
   refine O m' r' g' aW bZ CD _ (λb v nP e=>?_) (.inr ⟨c',?_,?_⟩) (M6.same λa xs e=>?_) ⟨N,⟨ps,HY,G,I,CH⟩,_,nd,mem,by rw[bg];exact le⟩
   ·have e3:=keep b v nP (S3 _ _ e);rw[bU (nb b (ak e3 S))];exact V _ _ (X _ _ e3)
   ·rw[bU (nb _ (ak c6 S))];exact V _ _ (X _ _ c6)
   ·rw[bU (nb _ (ak CF S))];exact V _ _ (X _ _ CF)
   ·rw[bU (nb _ (aA e (V _ _ T) #[0]))];exact e
  ·refine j5 d H3 (rm.trans J) hd ⟨CD,ps.map λq=>[q],N,LW nd,λp D=>?_,by rw[bg];exact lt⟩;obtain⟨q,hq,e⟩:=jK.mp D;exact aeK.mpr ⟨q,e.symm,re q hq⟩
 | lk l l2 d o1 o2 fn m r g m2 r2 g2 ho hm hk LA M LB M2=>
  have L1:=aaf (zs:=CD) k.en k.ok (l:=l) jC hb lz;have L2:=aaf (zs:=CD) k.en k.ok (l:=l2) (jJ _ jC) hb lz;refine .inr ⟨o,b^CD.length,most,_,_,_,[N6 (cS R CD l),N6 (cS R CD l2)],akC (lkG b (cS R CD l)) (lkG b (cS R CD l2)),U,⟨s2 _ _ ho,⟨LA.same s2,M.same λa xs e=>s2 _ _ e⟩,⟨LB.same s2,M2.same λa xs e=>s2 _ _ e⟩⟩,akE hm hk (TK L1) (TK L2),by omega,mo,λm3 r3 g3 HY ps H3 J M3 G I le=>?_,λd H3 ps J hd nd re lt=>j5 d H3 (rm.trans J) hd ⟨CD,ps,N,nd,λp D=>aeJ.mpr (re p D),lt⟩⟩;have mem:∀p,p∈ps↔IH b R CD (.lk l l2) p:=λp=>(G.rgK I).trans aeJ.symm;have A2:=k.A2 CD _ N G.nd (λp D=>(mem p).mp D) le;have S3:=rm.trans J;obtain⟨y2,va,vb,ey,o5,ha⟩:=k.st;cases ey;exists 1;refine⟨_,U,U,_,U,Sd mZ.s ?_⟩;refine⟨_,U,m3,r3,g3,ps.length,_,HY,_,U,M3,by rw[<-I];exact G.ok I,jQ _,⟨?_,A2⟩,by omega,λm' r' g' aW bZ H6 V M6 LO=>?_⟩
  ·have:=(iT G.hd).1;omega
  have S6:=S3.trans V;exact O m' r' g' aW bZ CD H6 (λb v _ e=>S6 _ _ e) (eC.same k.tb S6) M6 ⟨N,⟨ps,HY,G,I,LO⟩,_,G.nd,mem,le⟩
def abI(F:aY K "machine_of" "machine_of" sS dV f fd)(Fo:K6 P w K mg base "Maker" C 4 ["self","base","rows","most"] (aaz C))(iY:cT P w K mg base C "need_makeable" 5 ["self","statement"] (Ik C))(iX:Mp P w K mg base C "machine_for" 8 ["self","statement"] (aaA C CT Pt))(mx:bc P w K mg base "free" 2 ["statement"] [] Ih):aR P w K mg base (IG P w) 9 f fd ["statement","base","rows","most"] (Ij CT Pt):=by
 refine F.aoh AJ #[22] (λbP A I s H vs Q E S h=>?_)
 ·obtain⟨rd,v,b,most,t,R,rfl,_⟩:=h;rfl
 obtain⟨rd,v,b,most,t,R,rfl,k,O,n⟩:=h;refine⟨_,(ah (az (i:=4) AJ.nd (Od Fo S (aa (pv 1) (aa (pv 2) #[79]))))
   (ah (aS (pN iY S (pv 4) #[38]))
   (aq (aH (ck (aa (aal mx S #[38]) (aa (aku iX S L6 (pv 4) #[38]) af))))))),?_⟩
 exists 0;refine⟨_,U,_,U,_,U,λx X o l ne=>?_⟩;have s0:av H (upd (upd H X (.own x)) x (.ins C X [])):=λb u e=>by rw[ag (ak e o),ag (ak e l)];exact e
 refine⟨x,X,rd,b,most,U,ae,k.hb,λH1 kp p=>⟨U,?_⟩⟩;have s1:av H H1:=λb u e=>kp b u (ak e o) (s0 _ _ e);have m:=k.same s1;obtain⟨y,W⟩:=p.ob;refine⟨_,U,x,y,_,U,W,U,_,U,x,rd,v,b,most,t,R,U,p,m.st,m.ok,m.en,m.hb,λH2 s2=>?_⟩;have D:=s1.trans s2;refine⟨_,U,v,t,U,eJ.same (Bw D) k.st,k.ok,λtn zs H3 J G N=>?_⟩;have L:=D.trans J;refine⟨_,U,x,y,_,U,J _ _ (s2 _ _ W),U,_,U,x,rd,v,b,most,t,R,U,p.same (s2.trans J),k.same L,λM r' g' aW bZ CD H4 c q M4 r=>?_,λd H4 s4 hd B=>n d H4 (L.trans s4) hd B⟩;obtain rfl:=N.uniq r.nm;obtain⟨j5,g⟩:=eC.Cw (eC.same k.tb L);refine⟨#[14],λT hT=>?_⟩;have j:=aj hT (HO.tup [V.ref tn,V.ref M]);exact O T tn M r' g' aW bZ zs _ (λb u nb e=>j _ _ (c b u nb (L _ _ e))) (eC.same q j) ae (j _ _ (c _ _ (aA G g #[0]) G)) (M4.same λa xs e=>j _ _ e) r
end
def it0(rows:LL)(q:Int):Nat->Int
 | 0=>q
 | k+1=>stepI rows (it0 rows q k) 0
theorem M8(R:bA many d4 rows)(l:1<=d4)(o:0<=q)(O:q<(many:Int)):∀k,0<=it0 rows q k/\it0 rows q k<(many:Int)
 | 0=>⟨o,O⟩
 | k+1=>by have h:=M8 R l o O k;exact pz R h.1 h.2 #[10] #[2]
def abA(rows:LL)(q:Int)(n:Nat):Nat->Int
 | 0=>it0 rows q n
 | k+1=>if it0 rows q (n+k+1)<abA rows q n k then it0 rows q (n+k+1)else abA rows q n k
theorem aah{rows:LL}{q:Int}{n:Nat}:∀k:Nat,∃i,i<=k/\abA rows q n k=it0 rows q (n+i)
 | 0=>⟨0,jD _,rfl⟩
 | k+1=>by
  simp only[abA];split
  ·exact⟨k+1,jD _,U⟩
  ·obtain⟨i,W,e⟩:=aah (rows:=rows) (q:=q) (n:=n) k;exact⟨i,by omega,e⟩
def RD(rows:LL)(n:Nat)(q:Int):Int:=abA rows q n n
def aeI(R:bA many d4 rows)(l:1<=d4)(o:0<=q)(O:q<(many:Int)):0<=RD rows many q/\RD rows many q<(many:Int):=by obtain⟨i,_,e⟩:=aah (rows:=rows) (q:=q) (n:=many) many;unfold RD;rw[e];exact M8 R l o O _
inductive aeS (K:YW) (vs:List V) (H:Hp) (Q:VK) (E:XK):Prop
 | mk (r:QX) (q:Int) (many d4:Nat) (eK:List QX) (rows:LL) (_:vs=[.ref r,.int q]) (_:H r=Z (.lst #[78])) (_:bj H eK rows) (_:bA many d4 rows) (_:1<=d4) (_:many<=1000) (_:(0<=q/\q<(many:Int))) (_:Q (.int (RD rows many q)) H)
section
def dU:ax ["_law_rows","_law_here","_law_k","_law_lowest"] ["_law_rows","_law_here"] (ao wV):=cb #[1]
def agU(F:aY K "_law_rest" "_law_rest" wV dV f fd)(p:mg "len" = Y)(y:mg "range" = Y)(C:mg "min" = Y):aR P w K mg base dy 1 f fd ["_law_rows","_law_here"] (aeS K):=by
 refine F.ok dU #[15] #[9]
 ·obtain⟨r,q,many,d4,eK,rows,rfl,_⟩:=h;rfl
 obtain⟨r,q,many,d4,eK,rows,rfl,L,B,R,l,D,⟨o,a⟩,k⟩:=h;have z:#[78].length=many:=by rw[bg,B.length,R.len]
 refine⟨_,(ah (bL PassesOwn.never rfl (de rfl y (aa (aG bw #[43] p cU #[38]) af)) (aQ (i:=2) dU.nd) (aq (az (i:=1) dU.nd (aB aE (aB cX (pv 0) (pv 1) #[3]) ar #[3]))))
   (ah (az (i:=3) dU.nd (pv 1))
   (ah (bL PassesOwn.never rfl (de rfl y (aa (aG bw #[43] p cU #[38]) af)) (aQ (i:=2) dU.nd) (ah (az (i:=1) dU.nd (aB aE (aB cX (pv 0) (pv 1) #[3]) ar #[3]))
   (aq (az (i:=3) dU.nd (aG (aa3 rfl) #[43] C aiX (aa (pv 3) #[80]))))))
   (aq (aH (pv 3)))))),?_⟩
 exists 0;have c:∀(x:Int),0<=x->x<(many:Int)->∃(ra:QX) (d:LI),tW #[78] x=Z (.ref ra)/\H ra=Z (.tup (d.map V.int))/\tW (d.map V.int) 0=Z (.int (stepI rows x 0)):=λx e u=>Cj B R e u #[10] #[2];exists 28;refine Aj (t:=rl _ _ _) (λO H'=>∃v,O=[Z (.ref r),Z (.int (it0 rows q many)),v,Y]/\H'=H) ?_ (λW=>?_);exists 27
 ·exists _,rfl,r,_,rfl,.inl (bz L);rw[z];refine⟨(many:Int),U,by omega,by omega,ie (λi O H'=>∃v,O=[Z (.ref r),Z (.int (it0 rows q i)),v,Y]/\H'=H) ⟨Y,U,U⟩ ?_ ?_⟩
  ·rintro i O H' m ⟨v,rfl,rfl⟩;have J:=M8 R l o a i;obtain⟨ra,d,T,g,j⟩:=c _ J.1 J.2;exact⟨_,U,_,U,r,_,_,_,U,U,bz L,T,ra,_,_,_,U,U,bN g,j,_,U,U⟩
  ·rintro O H' ⟨v,rfl,rfl⟩;rw[jN];exact W _ _ ⟨v,U,U⟩
 rintro O H' ⟨v,rfl,rfl⟩;exists _,rfl;exists 28;refine Aj (t:=rl _ _ _) (λO b=>∃v x,O=[Z (.ref r),x,v,Z (.int (RD rows many q))]/\b=H') ?_ (λW=>?_);exists 27
 ·exists _,rfl,r,_,rfl,.inl (bz L);rw[z];refine⟨(many:Int),U,by omega,by omega,ie (λi O b=>∃v,O=[Z (.ref r),Z (.int (it0 rows q (many+i))),v,Z (.int (abA rows q many i))]/\b=H') ⟨v,U,U⟩ ?_ ?_⟩
  ·rintro i O b m ⟨v,rfl,rfl⟩;have J:=M8 R l o a (many+i);obtain⟨ra,d,T,g,j⟩:=c _ J.1 J.2;exists _,rfl,_,rfl,r,_,_,_,rfl,rfl,bz L,T,ra,_,_,_,rfl,rfl,bN g,j;exact⟨_,U,_,U,_,_,U,Z (.int (0+i)),U,U⟩
  ·rintro O b ⟨v,rfl,rfl⟩;rw[jN];exact W _ _ ⟨_,_,U,U⟩
 rintro O b ⟨v,x,rfl,rfl⟩;exact⟨_,U,k⟩
end
inductive Il (K:YW) (vs:List V) (H:Hp) (Q:VK) (E:XK):Prop
 | mk (a:QX) (k:Int) (xs:LI) (_:vs=[.ref a,.int k]) (_:mw K H a (xs.map V.int)) (_:(0<=k/\k<=1000)) (_:∀v:Int,0<=v/\v<1000003->Q (.int v) H)
inductive aaB (K:YW) (vs:List V) (H:Hp) (Q:VK) (E:XK):Prop
 | mk (a:QX) (L:Str) (xs:LI) (_:vs=[.ref a,.str L]) (_:mw K H a (xs.map V.int)) (_:L.length=26) (_:∀(l:QX) (x y:Str) (H':Hp),av H H'->H' l=Z (.lst [.str x,.str y])->x.length<=100->y.length<=100->Q #[181] H')
inductive aiu (K:YW) (vs:List V) (H:Hp) (Q:VK) (E:XK):Prop
 | mk (a:QX) (b:Nat) (C3:Int) (xs:LI) (_:vs=[.ref a,.int b,.int C3]) (_:mw K H a (xs.map V.int)) (_:(2<=b/\b<=3)) (_:(0<=C3/\C3<=100)) (_:∀(m r g:QX) (rows:LL) (signs:LI) (H':Hp),av H H'->bQ H' m r g b rows signs->bA rows.length b rows->signs.length=rows.length->1<=rows.length->Q #[147] H')
def ab3(h:u D (σ.set i (Z v)) H):V8 (oy (tC v) (aP i)) u D σ H:=h
def len_app(a b:Str):(a++b).length=a.length+b.length:=strLen_append a b
def abf:List V:=[.str "and",.str "or",.str "not",.str "some",.str "all"]
def adG{i:Int}(h:L.length=26)(I:0<=i)(h1:i<26):∃c,tW L.cps.toList i=Z c:=by
 have l:L.cps.toList.length=26:=by rw[jg];exact h
 have W:i.toNat<L.cps.toList.length:=by omega
 exists L.cps.toList[i.toNat];have:=Ah (jE W);rw[jz I]at this;exact this
theorem RY:∀{zs:List Str},(∀z∈zs,z.length=1)->(zs.map (·.length)).sum=zs.length
 |[],_=>rfl
 | z::zs,h=>by rw[jy,QM,h z jC,RY λy N=>h y (jJ _ N),jX];omega
section
def sX:ax ["_law_script","_law_k","_law_cell"] ["_law_script","_law_k"] (ao wU):=cb #[1]
def cG:ax ["_law_script","_law_letters","_law_size","_law_stem","_law_at","_law_here","_law_step","_law_names_here","_law_word"] ["_law_script","_law_letters"] (ao iJ):=cb #[1]
def tw:aO ["_law_script","_law_letters","_law_size","_law_stem","_law_at","_law_here","_law_step","_law_names_here","_law_word"] (ao iJ) ["_law_k","_law_letters","_law_script"] [Y,Z 1,Z 0] ⟨.function,[#[48],("_law_k",.local),("_law_pick",.globalImplicit),("_law_letters",.free),("_law_script",.free)],false,false,[]⟩:=oh #[1]
def tD:aO ["_law_script","_law_letters","_law_size","_law_stem","_law_at","_law_here","_law_step","_law_names_here","_law_word"] (ao iJ) ["_law_name"] [Y] ⟨.function,[#[48],("_law_name",.local)],false,false,[]⟩:=oh #[1]
def iq:ax ["_law_script","_law_base","_law_by","_law_many","_law_rows","_law_q","_law_kinds","_law_signs"] ["_law_script","_law_base","_law_by"] (ao pf):=cb #[1]
def AA:aO ["_law_script","_law_base","_law_by","_law_many","_law_rows","_law_q","_law_kinds","_law_signs"] (ao pf) ["_law_f","_law_base","_law_by","_law_many","_law_q","_law_script"] [Y,Z 1,Z 2,Z 3,Z 5,Z 0] ⟨.function,[#[48],("_law_f",.local),("_law_pick",.globalImplicit),("_law_base",.free),("_law_by",.free),("_law_many",.free),("_law_q",.free),("_law_script",.free)],false,false,[]⟩:=oh #[1]
def AB:aO ["_law_script","_law_base","_law_by","_law_many","_law_rows","_law_q","_law_kinds","_law_signs"] (ao pf) ["_law_q","_law_by","_law_kinds","_law_rows","_law_script"] [Y,Z 2,Z 6,Z 4,Z 0] ⟨.function,[#[48],("_law_q",.local),("_law_pick",.globalImplicit),("_law_rest",.globalImplicit),("_law_by",.free),("_law_kinds",.free),("_law_rows",.free),("_law_script",.free)],false,false,[]⟩:=oh #[1]
def agT(F:aY K "_law_pick" "_law_pick" wU dV f fd)(p:mg "len" = Y):aR P w K mg base dy 1 f fd ["_law_script","_law_k"] (Il K):=by
 refine F.ok sX #[15] #[9]
 ·obtain⟨a,k,xs,rfl,_⟩:=h;rfl
 obtain⟨a,k,xs,rfl,l,⟨G,R⟩,q⟩:=h;refine⟨_,(ah (az (i:=2) sX.nd ar)
   (ah (cC (aX Rp (aG bw #[43] p cU #[38]) ar (bK _)) (aq (az (i:=2) sX.nd (aB cX (pv 0) (aD cq (pv 1) (aG bw #[43] p cU #[38])) #[3]))) bq)
   (aq (aH (aD cq (aD cV (aD cV (aD wK (aD cq (pv 2) ar) (aD cV ar (aD wK ar (pv 1)))) (aD wK (aD wK (pv 1) (pv 1)) ar)) ar) ar))))),?_⟩
 exists 0;refine ab3 ?_;exists 28;refine bM (t:=ale _ _ _) (λO H'=>∃z:Int,O=[Z #[72],Z (.int k),Z (.int z)]/\H'=H) ?_ #[185];exists 27
 ·refine⟨_,U,a,_,U,.inl l,_,_,U,U,_,U,Be #[84] (λc=>W _ _ ⟨_,U,U⟩)⟩;rw[bg]at c;have e:=cO (a:=k) (b:=(xs.length:Int)) c;exact⟨_,U,_,U,_,U,a,_,U,.inl l,_,_,U,U,by rw[bg];exact c,a,_,_,_,U,U,l,by rw[bg];exact lV e.1 e.2,W _ _ ⟨_,U,U⟩⟩
 rintro O H' ⟨z,rfl,rfl⟩;have e:=cO (a:=z) (b:=1000003) #[10];exact⟨_,U,_,_,U,U,(by show(0:Int)<1000003;decide),_,U,_,_,U,U,.inl ⟨by decide,by decide⟩,_,_,U,U,_,_,U,U,.inl ⟨by omega,by omega⟩,_,U,_,U,_,_,U,U,.inl ⟨by omega,by omega⟩,_,_,U,U,.inr ⟨by decide,by decide⟩,_,_,U,U,_,_,U,U,_,_,U,U,(by show(0:Int)<1000003;decide),q _ (cO #[10])⟩
def adV(F:aY K "_law_names" "_law_names" iJ dV f fd)(C:bc P w K mg base "_law_pick" 1 ["_law_script","_law_k"] [] (Il K))(bh:mg "range" = Y)(bD:mg "len" = Y):aR P w K mg base dy 2 f fd ["_law_script","_law_letters"] (aaB K):=by
 refine F.ok cG #[22] (λbP A o5 s H vs Q E S h=>?_)
 ·obtain⟨a,L,xs,rfl,_⟩:=h;rfl
 obtain⟨a,L,xs,rfl,J,R,q⟩:=h;have lz:L.length<=sizeLine:=by rw[R];decide
 refine si (aJ (iU.mk (az (i:=2) cG.nd (aD cV ar (aD cq (aU C S (aa (pv 0) (aa ar af))) ar))))
   (aJ (iU.mk (az (i:=3) cG.nd (dN Xe PySem.F.slot_str_join PySem.F.type_str_join agJ cz (aa (dB rfl tw (de rfl bh #[89]) (λ_ _ _ _=>(aQ (i:=0) tw.nd)) (λ_ _ _ _=>(aB adx (pv 1) (aD cq (aD cF (aU C S (aa (pv 2) #[38])) ar) ar) #[3]))) af))))
   (aJ (iU.mk (az (i:=4) cG.nd (aD cq (aU C S (aa (pv 0) (aa ar af))) (aG acL #[43] bD cU #[79]))))
   (aJ (iU.mk (az (i:=5) cG.nd (aD cF (aU C S (aa (pv 0) #[133])) ar)))
   (aJ (iU.mk (az (i:=6) cG.nd (aD cV ar (aD cq (aU C S (aa (pv 0) (aa ar af))) ar))))
   (aJ (R6 (i:=7) cG.nd rfl #[135] (afh (dq (ER.mk (pv 3)) (dq (ER.mk (aD Bk (aD Bk (Cd aaw (pv 3) EX (EY (pv 4))) (aB adx (pv 1) (aD cq (aD cV (pv 5) (pv 6)) ar) #[3])) (Cd aaw (pv 3) (EY (aD cV (pv 4) ar)) EX))) DP))))
   (aJ (ao6 PassesOwn.never rfl (cu (bI (aa cz (aa cz (aa cz (aa cz (aa cz af))))))) (aQ (i:=8) cG.nd) (mJ (iU.mk (cC (aX eX (pv 8) (pv 7) #[25]) (aq (fX (i:=7) rfl cG.nd rfl #[135] tD (cu (pv 7)) (λ_ _ _ _=>(aQ (i:=0) tD.nd)) (λ_ _ _ _=>(aD Bk (pv 0) cz)))) bq))))
   (mJ (iU.mk (aH (pv 7))))))))))) ?_
 exists 0;exists 1;refine bM (t:=oy _ _) (λO H'=>∃n:Nat,(1<=n/\n<=5)/\O=[Z #[72],Z (.str L),Z (.int n),Y,Y,Y,Y,Y,Y]/\H'=H) ?_ #[185];exists 27
 ·refine⟨_,U,a,6,xs,U,J,⟨by decide,by decide⟩,λv M=>?_⟩;have m:=cO (a:=v) (b:=5) #[10];obtain⟨n,en⟩:=HJ (show 0<=1+v%5 by omega);refine⟨_,_,U,U,(by show(0:Int)<5;decide),_,_,U,U,W _ _ ⟨n,⟨by omega,by omega⟩,?_,U⟩⟩;rw[<-en];rfl
 rintro O H' ⟨n,⟨n1,n5⟩,rfl,rfl⟩;refine bM (t:=oy _ _) (λO G=>∃z:Str,(1<=z.length/\z.length<=5)/\O=[Z #[72],Z (.str L),Z (.int n),Z (.str z),Y,Y,Y,Y,Y]/\av H' G) ?_ #[185];exists 27
 ·refine⟨U,_,U,(n:Int),U,by omega,by omega,?_⟩;refine sk (λD i I G=>av H' G/\∃zs:List Str,I=zs.map V.str/\zs.length=i/\∀z∈zs,z.length=1) (λD X=>⟨aj X _,[],U,U,λz h=>by cases h⟩) ?_ ?_
  ·rintro D i I G Q' X hi N ⟨hs,zs,rfl,zl,T⟩ k';refine⟨_,U,_,U,_,U,a,_,xs,U,hs.seq J,⟨by omega,by omega⟩,λv M=>?_⟩;have m:=cO (a:=v / 3) (b:=26) #[10];obtain⟨c,ec⟩:=adG R m.1 m.2;refine⟨_,_,U,U,⟨by decide,by decide⟩,_,_,U,U,(by show(0:Int)<26;decide),_,_,_,U,U,lz,ec,k' _ _ N #[187] ⟨au hs X,zs++[⟨#[c]⟩],by rw[jB];rfl,by simp[zl],λz hz=>?_⟩⟩;rcases sJ.mp hz with h|h
   ·exact T z h
   ·rw[jH.mp h];rfl
  ·rintro D I G X N ⟨hs,zs,rfl,zl,T⟩;rw[jN]at zl;have e0:#[146].length=0:=by decide
   have sm:=RY T;refine⟨_,D,zs,U,U,N,by rw[sm,e0];omega,W _ _ ⟨_,?_,U,hs⟩⟩;rw[show Txt.join #[146] zs=Txt.join (gG "") zs from rfl,Gu zs T];omega
 rintro O G ⟨z,⟨T,z5⟩,rfl,s2⟩;have zz:z.length<=sizeLine:=jW z5 #[10];refine bM (t:=oy _ _) (λO o=>∃i:Int,(0<=i/\i<5)/\O=[Z #[72],Z (.str L),Z (.int n),Z (.str z),Z (.int i),Y,Y,Y,Y]/\G=o) ?_ #[185];exists 27
 ·refine⟨_,U,a,7,xs,U,s2.seq J,⟨by decide,by decide⟩,λv M=>?_⟩;have m:=cO (a:=v) (b:=(z.length:Int)) #[2];exact⟨_,U,_,_,U,⟨zz,U⟩,_,_,U,U,by omega,W _ _ ⟨_,⟨m.1,by omega⟩,U,U⟩⟩
 rintro O o ⟨i,⟨i0,i5⟩,rfl,rfl⟩;refine bM (t:=oy _ _) (λO o=>∃j:Int,0<=j/\O=[Z #[72],Z (.str L),Z (.int n),Z (.str z),Z (.int i),Z (.int j),Y,Y,Y]/\G=o) ?_ #[185];exists 27
 ·exact⟨_,U,_,U,a,i,xs,U,s2.seq J,⟨i0,by omega⟩,λv M=>⟨_,_,U,U,⟨by decide,by decide⟩,W _ _ ⟨_,by omega,U,U⟩⟩⟩
 rintro O o ⟨j,j0,rfl,rfl⟩;refine bM (t:=oy _ _) (λO o=>∃k:Int,0<=k/\O=[Z #[72],Z (.str L),Z (.int n),Z (.str z),Z (.int i),Z (.int j),Z (.int k),Y,Y]/\G=o) ?_ #[185];exists 27
 ·refine⟨_,U,a,8,xs,U,s2.seq J,⟨by decide,by decide⟩,λv M=>?_⟩;have m:=cO (a:=v) (b:=25) #[10];exact⟨_,_,U,U,(by show(0:Int)<25;decide),_,_,U,U,W _ _ ⟨_,by omega,U,U⟩⟩
 rintro O o ⟨k,k0,rfl,rfl⟩;have d6:(100:Nat)<=sizeLine:=by decide
 refine bM (t:=oy _ _) (λO o=>∃(l:QX) (x y:Str),(x.length<=50/\y.length<=50)/\O=[Z #[72],Z (.str L),Z (.int n),Z (.str z),Z (.int i),Z (.int j),Z (.int k),Z #[181],Y]/\av G o/\o l=Z (.lst [.str x,.str y])) ?_ #[185];exists 27
 ·have m:=cO (a:=j+k) (b:=26) #[10];obtain⟨c,ec⟩:=adG R m.1 m.2;refine⟨_,U,_,U,_,U,_,U,z,U,zz,λy1 l1=>?_⟩;exists _,rfl,_,rfl,_,rfl,_,_,rfl,rfl,_,_,rfl,rfl,(by show(0:Int)<26;decide),_,_,_,rfl,rfl,lz,ec;have e1:(⟨#[c]⟩:Str).length=1:=rfl;refine⟨_,_,U,U,by rw[e1];omega,?_⟩;refine⟨_,U,_,U,_,_,U,U,_,U,z,U,zz,λy2 l2=>?_⟩;refine⟨_,_,U,U,by rw[len_app,e1];omega,?_⟩;refine⟨#[14],λl hl=>W _ _ ⟨l,_,_,⟨by omega,?_⟩,U,aj hl _,ae⟩⟩;rw[len_app,len_app,e1];omega
 rintro O o ⟨l,x,y,⟨x5,y5⟩,rfl,s3,hl⟩;refine bM (t:=rl _ _ _) (λO B=>∃(l:QX) (x y:Str) (g:OV),(x.length<=100/\y.length<=100)/\O=[Z #[72],Z (.str L),Z (.int n),Z (.str z),Z (.int i),Z (.int j),Z (.int k),Z #[181],g]/\av o B/\B l=Z (.lst [.str x,.str y])) ?_ #[185];exists 27
 ·refine⟨(by show 5<=sizeLine;decide),λlw hw=>⟨lw,U,⟨_,bz ae⟩,?_⟩⟩;have p:=aj hw (HO.lst abf);refine dH (K:=K) (xs:=abf) (λt O B=>∃(l:QX) (x y:Str) (g:OV),(x.length<=50+t/\y.length<=50+t)/\O=[Z #[72],Z (.str L),Z (.int n),Z (.str z),Z (.int i),Z (.int j),Z (.int k),Z #[181],g]/\av o B/\B lw=Z (.lst abf)/\B l=Z (.lst [.str x,.str y])) ⟨l,x,y,Y,⟨x5,y5⟩,U,p,ae,p _ _ hl⟩ (λt O B _ ⟨_,_,_,_,_,_,_,h,_⟩=>bz h) ?_ ?_
  ·rintro t wd O B ht ⟨l,x,y,g,⟨xl,yl⟩,rfl,p,j5,r⟩;have t5:t<5:=(iT ht).1;obtain⟨ww,rfl⟩:∃ww,wd=V.str ww:=by
    have:∀v∈abf,∃ww,v=V.str ww:=by intro v M;simp only[abf,jL,jr,or_false]at M;rcases M with rfl|rfl|rfl|rfl|rfl<;>exact⟨_,rfl⟩
    exact this wd (sM ht)
   refine⟨_,U,_,U,l,_,U,.inl (bz r),U,U,_,U,adv (λ_=>?_) (λ_=>?_)⟩
   ·exists _,rfl,l,rfl,⟨_,bz r⟩;have q1:(Str.ofString "q").length=1:=by decide
    refine dZ (K:=K) (xs:=[.str x,.str y]) (λD u I H5=>av B H5/\I=(([x,y].take u).map λz=>z++Str.ofString "q").map V.str) (λD X=>⟨aj X _,rfl⟩) (λD u I H5 _ ⟨e,_⟩=>bz (e _ _ r)) ?_ ?_
    ·rintro D u y' I H5 Q' X hu N ⟨hs,rfl⟩ k';have u2:u<2:=(iT hu).1;obtain⟨c6,rfl,hz⟩:=Cv (ns:=[x,y]) hu;have zl:c6.length<=50+t:=by
      rcases jL.mp (sM hz)with e|e
      ·rw[e];exact xl
      ·rw[jH.mp e];exact yl
     refine⟨_,U,_,_,U,U,by rw[q1];omega,k' _ _ N (ay (by rw[bg,bg,jT];show min u 2<=1000;omega)) ⟨au hs X,?_⟩⟩;rw[jO,hz,jB,jB];rfl
    ·rintro D I H5 fD N ⟨hs,rfl⟩;exact⟨D,x++Str.ofString "q",y++Str.ofString "q",_,⟨by rw[len_app,q1];omega,by rw[len_app,q1];omega⟩,rfl,p.trans hs,hs _ _ j5,N⟩
   ·exact⟨l,x,y,_,⟨by omega,by omega⟩,U,p,j5,r⟩
  ·rintro O B ⟨l,x,y,g,⟨xl,yl⟩,rfl,p,_,r⟩;have e5:abf.length=5:=rfl;exact W _ _ ⟨l,x,y,g,⟨by omega,by omega⟩,U,p,r⟩
 rintro O B ⟨l,x,y,g,⟨xl,yl⟩,rfl,p,r⟩;exact⟨_,U,q l x y B (s2.trans (s3.trans p)) r xl yl⟩
end
def SO(K:YW)(O:X.calm=true)(h:X.K=K:=by rfl):hX X (.builtin "sum") (aip K):=by subst h;exact Lm O
def SW{tc:TT}(d:QX->Nat->List V->Hp->Prop)(I:∀D,H D=Y->d D 0 [] #[50])(L:∀D i ys H',i<=xs.length->d D i ys H'->lU K H' a xs)(hs:∀D i x ys H',H D=Y->xs[i]?=Z x->H' D=Z #[76]->d D i ys H'->∃(c:QX) (u v:V),x=.ref c/\lU K H' c [u,v]/\∀(R:VK) (J:Hp->Prop),(∀y B,B D=Z #[76]->ys.length<sizeLine->d D (i+1) (ys++[y]) (upd B D (.lst (ys++[y])))->R y B)->
   (∀B,B D=Z #[76]->d D (i+1) ys B->J B)->tc ((#[47].set 0 (Z u)).set 1 (Z v)) H' λb B=>if b=true then te ((#[47].set 0 (Z u)).set 1 (Z v)) B R else J B)(j:∀D ys H',H D=Y->H' D=Z #[76]->d D xs.length ys H'->Qd D H'):AK (Itt K a) ix (ai8 K 2 (ac2 (aP 0) (ac2 (aP 1) amN))) tc te σ H Qd:=by
 intro D X;refine⟨λi m O H'=>m=xs.length-i/\i<=xs.length/\(O=aF ix σ\/∃t l,O=(#[47].set 0 t).set 1 l)/\∃ys,H' D=Z #[76]/\d D i ys H',⟨xs.length,by simp,je _,.inl rfl,[],ae,I D X⟩,?_⟩;exists 6;have q:=L D i ys H' W p;exists 23
 ·exists 13;obtain⟨T,g⟩:=y;subst T;have ex:=g xs q;obtain⟨c,u,v,P,n,rd⟩:=hs D i x ys _ X ex N p;have r:(O.set 0 (Z u)).set 1 (Z v)=(#[47].set 0 (Z u)).set 1 (Z v):=by
   rcases A with z|⟨t,l,z⟩
   ·rw[z]
   ·rw[z,Ic]
  exists c,[u,v],P,n,rfl,u,[v],rfl,v,[],rfl,rfl;show tc ((O.set 0 (Z u)).set 1 (Z v)) _ _;rw[r];exact rd _ _ (λy B k C h=>⟨ys,k,C,xs.length-(i+1),by omega,U,f,.inr ⟨_,_,U⟩,ys++[y],ae,h⟩) λB k h=>⟨xs.length-(i+1),by omega,U,f,.inr ⟨_,_,U⟩,ys,k,h⟩
 ·exists 17;subst e;exact .inl ⟨⟨xs,q,jD _⟩,j D ys H' X N p⟩
inductive aiv (K:YW) (vs:List V) (H:Hp) (Q:VK) (E:XK):Prop
 | mk (a l:QX) (C3:Int) (xs:LI) (x y:Str) (_:vs=[.ref a,.int C3,.ref l]) (_:mw K H a (xs.map V.int)) (_:(0<=C3/\C3<=100)) (_:H l=Z (.lst [.str x,.str y])) (_:(x.length<=100/\y.length<=100)) (_:∀(v:V) (ps:List BI) (H':Hp),av H H'->oK H' v ps->Az ps->(∀p∈ps,p.2=("" : Str)\/p.2=x\/p.2=y)->Q v H')
inductive aeX (vs:List V) (H:Hp) (Q:VK) (E:XK):Prop
 | mk (v:V) (l:QX) (ps:List BI) (ns:List Str) (_:vs=[v,.ref l]) (_:oK H v ps) (_:Az ps) (_:H l=Z (.lst (ns.map V.str))) (_:ns.length<=10) (_:∀(L:QX) (H':Hp),av H H'->H' L=Z (.lst ((ns.map (Iy ps)).map V.int))->Q #[143] H')
section
def pP:ax ["_law_script","_law_by","_law_names_here","_law_parts","_law_k","_law_number"] ["_law_script","_law_by","_law_names_here"] (ao Bp):=cb #[1]
def EH:ax ["_law_parts","_law_names_here"] ["_law_parts","_law_names_here"] (ao iK):=cb #[1]
def iE:oA ["_law_parts","_law_names_here"] (ao iK) ["_law_own","_law_parts"] [Y,Z 0] ⟨.function,[#[48],("_law_own",.cell),("sum",.globalImplicit),("_law_parts",.free)],false,false,[]⟩ "_law_own" :=⟨rfl,by decide +kernel,by decide +kernel,by decide +kernel,λ_ _=>rfl,λ_=>rfl,by decide +kernel,by decide +kernel,by decide +kernel,rfl,by decide +kernel⟩
def iG:aO ["_law_own","_law_parts"] ⟨.function,[#[48],("_law_own",.cell),("sum",.globalImplicit),("_law_parts",.free)],false,false,[]⟩ ["_law_one","_law_name","_law_own"] [Y,Y,Z 0] ⟨.function,[#[48],("_law_one",.local),("_law_name",.local),("_law_own",.free)],false,false,[]⟩:=oh #[1]
def akg(F:aY K "_law_row" "_law_row" pf dV f fd)(I:bc P w K mg base "_law_pick" 1 ["_law_script","_law_k"] [] (Il K))(tZ:bc P w K mg base "_law_rest" 1 ["_law_rows","_law_here"] [] (aeS K))(bh:mg "range" = Y)(aC:mg "tuple" = Y):aR P w K mg base dy 2 f fd ["_law_script","_law_base","_law_by"] (aiu K):=by
 refine F.ok iq #[22] (λbP A j5 s H vs Q E S h=>?_)
 ·obtain⟨a,b,d,xs,rfl,_⟩:=h;rfl
 obtain⟨a,b,d,xs,rfl,hS,hb,N,k⟩:=h;refine⟨_,(ah (az (i:=3) iq.nd (aD cV ar (aD cq (aD cF (aU I S (aa (pv 0) #[89])) ar) ar)))
   (ah (az (i:=4) iq.nd (bI af))
   (ah (bL PassesOwn.never rfl (de rfl bh #[79]) (aQ (i:=5) iq.nd) (aq (aS (dN YY Ya Yb bu (pv 4) (aa (aM aK #[43] aC bH (aa (dB rfl AA (de rfl bh #[80]) (λ_ _ _ _=>(aQ (i:=0) AA.nd)) (λ_ _ _ _=>(aD cq (aD cF (aU I S (aa (pv 5) (aa (aD cV (aD cV (aD cV (pv 2) ar) (aD wK (pv 1) (pv 4))) (pv 0)) af))) ar) (pv 3)))) af)) af)))))
   (ah (az (i:=6) iq.nd (aD cV ar (aD cq (aD cF (aU I S (aa (pv 0) (aa (aD cV (pv 2) ar) af))) ar) ar)))
   (ah (fX (i:=7) rfl iq.nd rfl #[135] AB (de rfl bh #[79]) (λ_ _ _ _=>(aQ (i:=0) AB.nd)) (λ_ _ _ _=>(aD cq (aD cF (aU I S (aa (pv 4) (aa (aD cV (aD cV (pv 1) ar) (aU tZ S (aa (pv 3) #[38]))) af))) ar) (pv 2))))
   (aq (aH (ck (aa (pv 1) (aa (aM aK #[43] aC bH #[133]) (aa (aM aK #[43] aC bH (aa (pv 7) af)) af))))))))))),?_⟩
 exists 0;exists 28;refine bM (t:=oy _ _) (λO H'=>∃T:Nat,(1<=T/\T<=4)/\O=[Z #[72],Z #[193],Z (.int d),Z (.int (T:Int)),Y,Y,Y,Y]/\H=H') ?_ #[117];exists 27
 ·refine⟨_,U,_,U,a,d,xs,U,hS,⟨N.1,by omega⟩,λv o=>?_⟩;have md:=cO (a:=v / 4) (b:=4) #[10];obtain⟨T,em⟩:=HJ (show 0<=1+v / 4%4 by omega);refine⟨_,_,U,U,⟨by decide,by decide⟩,_,_,U,U,(by show(0:Int)<4;decide),_,_,U,U,W _ _ ⟨T,⟨by omega,by omega⟩,?_,U⟩⟩;rw[<-em];rfl
 rintro O H' ⟨T,⟨m1,m4⟩,rfl,rfl⟩;refine⟨#[13],λR hR=>?_⟩;have sR:=aj hR #[85];exists 28;refine bM (t:=rl _ _ _) (λO g=>∃(eK:List QX) (rows:LL) (X:OV),O=[Z #[72],Z #[193],Z (.int d),Z (.int (T:Int)),Z (.ref R),X,Y,Y]/\av H g/\g R=Z (.lst #[78])/\bj g eK rows/\bA T b rows) ?_ #[117];exists 27
 ·refine⟨_,U,(T:Int),U,by omega,by omega,ie (λi O g=>∃(eK:List QX) (rows:LL) (X:OV),O=[Z #[72],Z #[193],Z (.int d),Z (.int (T:Int)),Z (.ref R),X,Y,Y]/\av H g/\g R=Z (.lst #[78])/\bj g eK rows/\rows.length=i/\(∀r∈rows,r.length=b)/\∀r∈rows,∀v∈r,0<=v/\v<(T:Int)) ⟨[],[],Y,U,sR,ae,.nil,U,(λr h=>by cases h),λr h=>by cases h⟩ ?_ ?_⟩
  ·rintro i O g hi ⟨eK,rows,X,rfl,s1,M,B,L,hw,o⟩;rw[jN]at hi;refine⟨_,U,.inl ⟨U,_,bz M⟩,_,U,(b:Int),U,by omega,by omega,?_⟩;refine sk (λD2 j zs H3=>av g H3/\∃l:LI,zs=l.map V.int/\l.length=j/\∀v∈l,0<=v/\v<(T:Int)) (λD2 ET=>⟨aj ET _,[],U,U,(λv h=>by cases h)⟩) ?_ ?_
   ·rintro D2 j zs H3 Q2 ET hj hz ⟨y,l,rfl,C,J⟩ k2;have mm:=adL (a:=(b:Int)) (b:=0+(i:Int)) (m:=3) (n:=4) #[2] #[2] #[2] #[2];refine⟨_,U,_,U,_,_,U,U,_,U,_,U,_,_,U,U,.inl ⟨by omega,by omega⟩,_,_,U,U,_,U,_,_,U,U,a,_,xs,U,(s1.trans y).seq hS,⟨by omega,by omega⟩,λv g6=>?_⟩;have md:=cO (a:=v / 5) (b:=(T:Int)) #[2];refine⟨_,_,U,U,⟨by decide,by decide⟩,_,U,_,_,U,U,#[2],k2 _ _ hz #[187] ⟨au y ET,l++[_],by rw[jB];rfl,by simp[C],?_⟩⟩;intro u hu;rcases sJ.mp hu with z|z
    ·exact J u z
    ·rw[jH.mp z];exact md
   rintro D2 zs H3 ET hz ⟨y,l,rfl,C,J⟩;rw[jN]at C;refine⟨D2,_,U,.inl ⟨bz hz,λt ht=>?_⟩⟩;have p:=aj ht (HO.tup #[184]);have x:=y _ _ M;have o5:R≠t:=ak x ht;have sT:∀c zs,g c=Z (.tup zs)->(upd (upd H3 t (HO.tup #[184])) R (HO.lst (eK.map V.ref++[V.ref t]))) c=Z (.tup zs):=λc zs e=>by rw[ag (aA e M #[0])];exact p _ _ (y _ _ e)
   refine⟨R,_,_,U,U,p _ _ x,ay (by rw[bg,B.length];omega),eK++[t],rows++[l],_,U,au ((s1.trans y).trans p) hR,by rw[ae,jB];rfl,bj.snoc (B.same sT) (by rw[ag (Ne.symm o5),ae]),by simp[L],?_,?_⟩
   ·intro r Hh;rcases sJ.mp Hh with z|z
    ·exact hw r z
    ·rw[jH.mp z];exact C
   ·intro r Hh;rcases sJ.mp Hh with z|z
    ·exact o r z
    ·rw[jH.mp z];exact J
  ·rintro O g ⟨eK,rows,X,rfl,s1,M,B,L,hw,o⟩;rw[jN]at L;exact W _ _ ⟨eK,rows,X,U,s1,M,B,⟨L,hw,o⟩⟩
 rintro O g ⟨eK,rows,X,rfl,s1,M,B,RO⟩;refine bM (t:=oy _ _) (λO H'=>∃kn:Int,(1<=kn/\kn<=2)/\O=[Z #[72],Z #[193],Z (.int d),Z (.int (T:Int)),Z (.ref R),X,Z (.int kn),Y]/\g=H') ?_ #[117];exists 27
 ·refine⟨_,U,_,U,_,_,U,U,a,_,xs,U,s1.seq hS,⟨by omega,by omega⟩,λv o=>?_⟩;have md:=cO (a:=v / 6) (b:=2) #[10];exact⟨_,_,U,U,⟨by decide,by decide⟩,_,_,U,U,#[69],_,_,U,U,W _ _ ⟨_,⟨by omega,by omega⟩,U,U⟩⟩
 rintro O H' ⟨kn,⟨k1,k2⟩,rfl,rfl⟩;refine⟨_,U,(T:Int),U,by omega,by omega,?_⟩;refine sk (λD i ys H2=>av g H2/\∃sg:LI,ys=sg.map V.int/\sg.length=i) (λD hD=>⟨aj hD _,[],U,U⟩) ?_ ?_
 ·rintro D i ys H2 Q' hD hi N ⟨hs,sg,rfl,L⟩ k';rw[jN]at hi;have i6:=aeI RO #[2] (q:=0+(i:Int)) #[2] #[2];refine⟨_,U,_,U,_,_,U,U,_,U,_,U,R,_,T,b,eK,rows,U,hs _ _ M,B.same (λc xs e=>hs _ _ e),RO,by omega,by omega,⟨by omega,by omega⟩,_,_,U,U,a,_,xs,U,(s1.trans hs).seq hS,⟨by omega,by omega⟩,λv o=>?_⟩;exact⟨_,_,U,U,⟨by decide,by decide⟩,_,U,_,_,U,U,#[2],k' _ _ N #[187] ⟨au hs hD,sg++[_],by rw[jB];rfl,by simp[L]⟩⟩
 rintro D ys H2 hD N ⟨hs,sg,rfl,L⟩;rw[jN]at L;refine⟨_,U,_,U,R,_,U,.inl ⟨bz (hs _ _ M),λrt c6=>?_⟩⟩;have s3:=aj c6 (HO.tup #[78]);refine⟨_,U,D,_,U,.inl ⟨bz (s3 _ _ N),λgt d6=>?_⟩⟩;have p:=aj d6 (HO.tup (sg.map V.int));refine⟨#[56],λm hm=>?_⟩;have s5:=aj hm (HO.tup [V.int b,V.ref rt,V.ref gt]);have G:=hs.trans (s3.trans (p.trans s5));have er:=RO.len;exact k m rt gt rows sg _ (s1.trans G) ⟨ae,⟨eK,s5 _ _ (p _ _ ae),B.same λc xs e=>G _ _ e⟩,s5 _ _ ae⟩ (by rw[er];exact RO) #[2] #[2]
def akh(F:aY K "_law_sum" "_law_sum" Bp dV f fd)(aL:bc P w K mg base "_law_pick" 1 ["_law_script","_law_k"] [] (Il K))(bh:mg "range" = Y)(aC:mg "tuple" = Y):aR P w K mg base dy 2 f fd ["_law_script","_law_by","_law_names_here"] (aiv K):=by
 refine F.ok pP #[22] (λbP A I s H vs Q E hr h=>?_)
 ·obtain⟨a,l,D,xs,x,y,rfl,_⟩:=h;rfl
 obtain⟨a,l,D,xs,x,y,rfl,hS,hy,hl,⟨xl,yl⟩,q⟩:=h;refine⟨_,(ah (az (i:=3) pP.nd (bI af))
   (ah (bL PassesOwn.never rfl (de rfl bh (aa (aD cV ar (aD cq (aD cF (aU aL hr (aa (pv 0) #[80])) ar) ar)) af)) (aQ (i:=4) pP.nd) (ah (az (i:=5) pP.nd (aU aL hr (aa (pv 0) (aa (aD cV (aD cV (pv 1) ar) (pv 4)) af))))
   (aq (cC (aX mQ (aD cq (pv 5) ar) ar (bK _)) (aq (aS (dN YY Ya Yb bu (pv 3) (aa (ck (aa (aD cq (aD cF (pv 5) ar) (aB cX (bI (aa ar (aa ar (aa ar (aa ar af))))) (aD cq (aD cF (pv 5) ar) ar) #[3])) (aa cz af))) af)))) (aq (aS (dN YY Ya Yb bu (pv 3) (aa (ck (aa (aD cV ar (aD cq (aD cF (pv 5) ar) ar)) (aa (aB cX (pv 2) (aD cq (aD cF (pv 5) ar) ar) #[3]) af))) af))))))))
   (aq (aH (aM aK #[43] aC bH #[79]))))),?_⟩
 exists 0;refine⟨#[13],λR hR=>?_⟩;have sR:=aj hR #[85];exists 28;have e0:#[146].length=0:=by decide
 refine bM (t:=rl _ _ _) (λO g=>∃(as:List QX) (ps:List BI) (G X:OV),O=[Z #[72],Z (.int D),Z #[181],Z (.ref R),G,X]/\av H g/\g R=Z #[166]/\Qs (Fw g) as ps/\Az ps/\∀p∈ps,p.2=("" : Str)\/p.2=x\/p.2=y) ?_ #[46];exists 27
 ·refine⟨_,U,_,U,a,D,xs,U,sR.seq hS,⟨hy.1,by omega⟩,λv hv=>?_⟩;have md:=cO (a:=v / 7) (b:=2) #[10];refine⟨_,_,U,U,⟨by decide,by decide⟩,_,_,U,U,#[69],_,_,U,U,(1+v / 7%2:Int),U,by omega,by omega,?_⟩;refine ie (λi O g=>∃(as:List QX) (ps:List BI) (G X:OV),O=[Z #[72],Z (.int D),Z #[181],Z (.ref R),G,X]/\av H g/\g R=Z #[166]/\Qs (Fw g) as ps/\ps.length=i/\(∀p∈ps,(0<=p.1/\p.1<=999)/\p.2.length<=100)/\∀p∈ps,p.2=("" : Str)\/p.2=x\/p.2=y) ⟨[],[],Y,Y,rfl,sR,ae,.nil,rfl,(λp h=>by cases h),λp h=>by cases h⟩ ?_ ?_
  ·rintro i O g hi ⟨as,ps,G,X,rfl,s1,M,B,hn,m,N⟩;have i2:i<2:=by omega
   have c6:as.length=ps.length:=Paired.length B;refine⟨_,U,_,U,_,_,U,U,_,U,_,_,U,U,a,_,xs,U,s1.seq hS,⟨by omega,by omega⟩,λu hu=>?_⟩;exists 1;have put:∀(o:Hp) (c:QX) (n:Int) (z:Str),av g o->o c=Y->(0<=n/\n<=999)->z.length<=100->(z=("" : Str)\/z=x\/z=y)->∀G X:OV,∃(j:List QX) (S:List BI) (w4 w5:OV),[Z (V.ref a),Z (.int D),Z #[181],Z (.ref R),G,X]=[Z #[72],Z (.int D),Z #[181],Z (.ref R),w4,w5]/\av H (upd (upd o c (.tup [.int n,.str z])) R (.lst (as.map V.ref++[V.ref c])))/\(upd (upd o c (.tup [.int n,.str z])) R (.lst (as.map V.ref++[V.ref c]))) R=Z (.lst (j.map V.ref))/\Qs (Fw (upd (upd o c (.tup [.int n,.str z])) R (.lst (as.map V.ref++[V.ref c])))) j S/\S.length=i+1/\(∀p∈S,(0<=p.1/\p.1<=999)/\p.2.length<=100)/\∀p∈S,p.2=("" : Str)\/p.2=x\/p.2=y:=λo c n z J hc j5 C P7 G X=>by
    have s4:=aj hc (HO.tup [.int n,.str z]);have o5:R≠c:=ak (J _ _ M) hc;refine⟨as++[c],ps++[(n,z)],G,X,U,au ((s1.trans J).trans s4) hR,by rw[ae,jB];rfl,?_,by simp[hn],λp Hg=>?_,λp Hg=>?_⟩
    ·refine Paired.snoc (Paired.rH B λd p e=>?_) ?_
     ·show _=_;rw[ag (aA (show g d=Z (.tup _)from e) M #[0])];exact s4 _ _ (J _ _ e)
     ·show _=_;rw[ag (Ne.symm o5),ae]
    ·rcases sJ.mp Hg with h|h
     ·exact m p h
     ·rw[jH.mp h];exact⟨j5,C⟩
    ·rcases sJ.mp Hg with h|h
     ·exact N p h
     ·rw[jH.mp h];exact P7
   refine⟨_,U,_,_,U,U,(by show(0:Int)<4;decide),U,_,U,agz #[84] #[84]⟩
   ·refine⟨_,U,.inl ⟨U,_,bz M⟩,_,U,_,_,U,U,⟨by decide,by decide⟩,(by show 4<=sizeLine;decide),λL hL=>?_⟩;have sL:=aj hL (HO.lst [V.int 10,V.int 10,V.int 10,V.int 1000]);have m4:=cO (a:=u / 4) (b:=4) #[10];have W:∃k:Int,tW [V.int 10,V.int 10,V.int 10,V.int 1000] (u / 4%4)=Z (V.int k)/\0<k/\k<=1000:=by
     have h4:u / 4%4=0\/u / 4%4=1\/u / 4%4=2\/u / 4%4=3:=by omega
     rcases h4 with e|e|e|e<;>rw[e]
     ·exact⟨10,U,by decide,by decide⟩
     ·exact⟨10,U,by decide,by decide⟩
     ·exact⟨10,U,by decide,by decide⟩
     ·exact⟨1000,U,by decide,by decide⟩
    obtain⟨k,ek,k0,k1⟩:=W;have mk:=cO (a:=u / 16) k0;refine⟨_,U,_,_,U,U,⟨by decide,by decide⟩,_,_,U,U,(by show(0:Int)<4;decide),L,_,_,_,U,U,bz ae,ek,_,_,U,U,k0,#[14],λcc r=>?_⟩;refine⟨R,_,_,U,U,?_,ay #[24],put _ cc _ _ sL r ⟨mk.1,by omega⟩ #[2] #[93] _ _⟩;rw[ag (ak (sL _ _ M) r)];exact sL _ _ M
   ·have m3:=cO (a:=u / 8) (b:=3) #[10];have m2:=cO (a:=u / 24) (b:=2) #[10];have W:∃z:Str,tW [V.str x,V.str y] (u / 24%2)=Z (V.str z)/\(z=x\/z=y):=by
     have h2:u / 24%2=0\/u / 24%2=1:=by omega
     rcases h2 with e|e<;>rw[e]
     ·exact⟨x,U,.inl rfl⟩
     ·exact⟨y,U,.inr rfl⟩
    obtain⟨z,ez,C⟩:=W;have zl:z.length<=100:=by
     rcases C with e|e<;>rw[e]
     ·exact xl
     ·exact yl
    refine⟨_,U,.inl ⟨U,_,bz M⟩,_,U,_,_,U,U,⟨by decide,by decide⟩,_,_,U,U,(by show(0:Int)<3;decide),_,_,U,U,_,U,_,U,_,_,U,U,⟨by decide,by decide⟩,_,_,U,U,#[69],l,_,_,_,U,U,bz (s1 _ _ hl),ez,#[14],λcc r=>?_⟩;refine⟨R,_,_,U,U,?_,ay #[24],put _ cc _ _ (av.refl _) r ⟨by omega,by omega⟩ zl (.inr C) _ _⟩;rw[ag (ak M r)];exact M
  ·rintro O g ⟨as,ps,G,X,rfl,s1,M,B,hn,m,N⟩;exact cE _ _ ⟨as,ps,G,X,U,s1,M,B,⟨by omega,m⟩,N⟩
 rintro O g ⟨as,ps,G,X,rfl,s1,M,B,ok,N⟩;refine⟨_,U,R,_,U,.inl ⟨bz M,λT hT=>?_⟩⟩;have s2:=aj hT (HO.tup #[49]);exact q _ ps _ #[152] ⟨T,as,U,ae,Paired.rH B λd p e=>s2 _ _ e⟩ ok N
def akk(F:aY K "_law_weights" "_law_weights" iK dV f fd)(t:mg "sum" = Y):aR P w K mg base dy 1 f fd ["_law_parts","_law_names_here"] aeX:=by
 refine F.ok EH (λu H Q E h=>?_) (λbP A b s H u Q E hr h=>?_)
 ·obtain⟨v,l,ps,ns,rfl,_⟩:=h;rfl
 obtain⟨v,l,ps,ns,rfl,⟨a,as,rfl,m,B⟩,ok,L,nl,q⟩:=h;have k:as.length=ps.length:=Paired.length B;have O:=ok.1;refine⟨_,(aq (aH (aeg rfl iE (cu (pv 1)) (λ_ _ _ _ _=>(aem (i:=0) iE.nd rfl iE.cell)) (λ_ _ _ _ _=>(aG ((SO K rfl)) #[43] t acK (aa (HP rfl (aO.rel iG) ((ag9 K) (pv 1)) (λ_ _ _ _=>(Og K (n:=2) rfl (cy (aQ (i:=0) iG.nd) (cy (aQ (i:=1) iG.nd) oj)))) (λ_ _ _ _=>(aX mQ (pv 1) (pv 2) (bK _))) (λ_ _ _ _=>(pv 0))) af)))))),?_⟩;exists 0;exists _,rfl,l,rfl,⟨_,bz L⟩;refine dZ (K:=K) (xs:=ns.map V.str) (λD i I g=>av H g/\I=((ns.take i).map (Iy ps)).map V.int) #[88] (λD i I g _ ⟨e,_⟩=>bz (e _ _ L)) ?_ ?_
 ·rintro D i y I g Q' X W N ⟨hs,rfl⟩ S;obtain⟨x,rfl,J⟩:=Cv W;have il:=(iT J).1;exists _,rfl,a,rfl,⟨_,bN (hs _ _ m)⟩;refine SW (K:=K) (xs:=as.map V.ref) (λr j zs G=>av g G/\zs=((#[55].map (·.1)).map V.int)) (λr T=>⟨aj T _,U⟩) (λr j zs G _ ⟨e,_⟩=>bN (e _ _ (hs _ _ m))) ?_ ?_
  ·rintro r j y2 zs G T R C ⟨M,rfl⟩;obtain⟨c,p,rfl,hc,d⟩:=B9 B R;have CF:G c=Z #[125]:=M _ _ (hs _ _ hc);have o:((ps.take (j+1)).filter λp=>decide (p.2=x)).map (·.1)=#[55].map (·.1)++(if p.2=x then [p.1]else []):=by rw[jO,d,<-R7];rfl
   have jl:(#[55].map (·.1)).length<=2:=by rw[bg];refine jW (JI ..) ?_;rw[jT];omega
   refine⟨c,_,_,U,bN CF,λQy Qn ky kn=>?_⟩;refine⟨_,U,_,U,U,_,U,Be (λz=>?_) (λz=>?_)⟩
   ·refine⟨_,U,ky _ _ C #[187] ⟨au M T,?_⟩⟩;rw[o,if_pos (Ld.mp z),jB];rfl
   ·refine kn _ C ⟨M,?_⟩;rw[o,if_neg (λy=>z (Ld.mpr y)),jZ]
  ·rintro r zs G T C ⟨M,rfl⟩;rw[bg,k,jR]at C;refine⟨r,_,U,bz C,S _ _ (M _ _ N) #[102] ⟨au (hs.trans M) X,?_⟩⟩;rw[jO,J,jB,jB];rfl
 ·rintro D I g X N ⟨hs,rfl⟩;rw[bg,jR]at N;exact q D g hs N
end
def MC(H:Hp)(b:Nat)(R:Str->LL×LI)(zs:List Str)(a:QX)(l:Look):Prop:=∃m r g wl:QX,H a=Z (.lst [.ref m,.ref wl])/\H wl=Z (.lst ((zs.map (Iy l.2)++[Iy l.2 ("" : Str)]).map V.int))/\bQ H m r g b (R l.1).1 (R l.1).2
theorem MC.same{R:Str->LL×LI}{l:Look}(h:MC H b R zs a l)(s:av H H'):MC H' b R zs a l:=by obtain⟨m,r,g,q,G,c,M⟩:=h;exact⟨m,r,g,q,s _ _ G,s _ _ c,M.same λa xs e=>s _ _ e⟩
inductive aaI (vs:List V) (H:Hp) (Q:VK) (E:XK):Prop
 | mk (v:V) (rd ln:QX) (b:Nat) (t:At) (R:Str->LL×LI) (zs:List Str) (_:vs=[v,.ref rd,.ref ln]) (_:eJ H v t) (_:Fh t) (_:Fl H rd b t R) (_:H ln=Z (.lst (zs.map V.str))) (_:zs.length<=2) (_:∀(L:QX) (ws:List QX) (H':Hp),av H H'->H' L=Z (.lst (ws.map V.ref))->Qs (MC H' b R zs) ws (cB t)->Q #[143] H')
inductive aeV (vs:List V) (H:Hp) (Q:VK) (E:XK):Prop
 | mk (v:V) (t:At) (_:vs=[v]) (_:eJ H v t) (_:Fh t) (_:∀(L:QX) (zs:List Str) (H':Hp),av H H'->H' L=Z (.lst (zs.map V.str))->tP zs (eZ t)->Q #[143] H')
inductive ait (vs:List V) (H:Hp) (Q:VK) (E:XK):Prop
 | mk (wk p:QX) (b:Nat) (R:Str->LL×LI) (zs:List Str) (l:Look) (u:LI) (fg:Nat) (_:vs=[.ref wk,.ref p,.int fg,.int b]) (_:MC H b R zs wk l) (_:H p=Z (.tup (u.map V.int))) (_:OW b #[54]) (_:Ms #[54] u) (_:∀(T:QX) (H':Hp),av H H'->H' T=Z (.tup ((J1 b #[54] u fg).map V.int))->Q #[164] H')
def J4(ks:List Str):List #[167]:=ks.map λx=>(Sum.inr x,V.bl true)
def agI(ks:List Str)(x:Str):putK (J4 ks) (.inr x) (.bl true)=J4 (Yx ks x):=by
 unfold putK Yx;by_cases c:ks.any (·==x)=true
 ·have a:x∈ks:=by obtain⟨y,N,e⟩:=JX.mp c;rw[<-eq_of_beq e];exact N
  have e:((J4 ks).any λl=>decide (l.1=.inr x))=true:=by rw[JX];exact⟨(.inr x,.bl true),jK.mpr ⟨x,a,U⟩,decide_eq_true rfl⟩
  rw[if_pos e,if_pos c];unfold J4;rw[JN];refine Jr λy _=>?_;show(if (Sum.inr y:Key)=.inr x then((Sum.inr y:Key),V.bl true)else(.inr y,.bl true))=_;split<;>rfl
 ·have e:¬ ((J4 ks).any λl=>decide (l.1=.inr x))=true:=by rw[JX];rintro⟨l,G,M⟩;obtain⟨y,N,rfl⟩:=jK.mp G;exact c (JX.mpr ⟨y,N,by rw[Sum.inr.inj (of_decide_eq_true M)];exact beq_self_eq_true _⟩)
  rw[if_neg e,if_neg c];unfold J4;rw[jB];rfl
def adI(ks:List Str)(x:Str):AG (J4 ks) (.inr x)=J4 (ks.filter λy=>decide (y≠x)):=by
 unfold AG J4;rw[QH];congr 1;refine Jw λy _=>?_;show decide ((Sum.inr y:Key)≠.inr x)=decide (y≠x);by_cases c:y=x
 ·simp[c]
 ·simp[c]
def As:At->List (Option (List BI))
 | .sg l _=>[Z l.2,Y]
 | .lk l m=>[Z l.2,Y,Z m.2]
def acw(H:Hp)(u:V):Option (List BI)->Prop
 | some ps=>oK H u ps/\Az ps
 | none=>(∃n:Int,u=.int n)\/∃z:Str,u=.str z
def Rg:Option (List BI)->List Str
 | some ps=>ps.map (·.2)
 | none=>[]
theorem acw.same(s:fH H H'):∀{e:Option (List BI)} {u:V},acw H u e->acw H' u e
 | some _,_,h=>⟨h.1.same s,h.2⟩
 | none,_,h=>h
def PL{t:At}:(x∈(As t).flatMap Rg/\x≠("" : Str))↔x∈eZ t:=by
 have one:∀ps:List BI,x∈mv ps↔x∈ps.map (·.2)/\x≠("" : Str):=λps=>by
  unfold mv;simp only[jK,js];constructor
  ·rintro⟨p,⟨D,h⟩,rfl⟩;exact⟨⟨p,D,U⟩,of_decide_eq_true h⟩
  ·rintro⟨⟨p,D,rfl⟩,h⟩;exact⟨p,⟨D,decide_eq_true h⟩,U⟩
 cases t with
 | sg l n=>
  show(x∈l.2.map (·.2)++([]++[])/\_)↔x∈mv l.2++[];rw[jZ,jZ,jZ,one]
 | lk l m=>
  show(x∈l.2.map (·.2)++([]++(m.2.map (·.2)++[]))/\_)↔x∈mv l.2++(mv m.2++[]);rw[jZ,jZ,zp,Jb,Jb,one,one];constructor
  ·rintro⟨h|h,n⟩
   ·exact .inl ⟨h,n⟩
   ·exact .inr ⟨h,n⟩
  ·rintro(⟨h,n⟩|⟨h,n⟩)
   ·exact⟨.inl h,n⟩
   ·exact⟨.inr h,n⟩
def ad7(ns ms:List Str):dW (ns++ms)=ms.foldl Yx (dW ns):=ju
def IY(K:YW):Ye K (.type "int") #[179]=Z false:=by with_unfolding_all rfl
def IZ(K:YW):Ye K (.type "str") #[179]=Z false:=by with_unfolding_all rfl
section
def AI:ax ["_law_statement","_law_rows","_law_names_here","_law_walks_here"] ["_law_statement","_law_rows","_law_names_here"] (ao sQ):=cb #[1]
def iM:ax ["_law_statement","_law_names_here","_law_parts","_law_number","_law_name"] ["_law_statement"] (ao wW):=cb #[1]
def eV:ax ["_law_walk","_law_place","_law_figure","_law_base","_law_machine","_law_weights_here","_law_total","_law_factor"] ["_law_walk","_law_place","_law_figure","_law_base"] (ao Bo):=cb #[1]
def ad5(F:aY K "_law_walks" "_law_walks" sQ dV f fd)(iz:bc P w K mg base "_law_weights" 1 ["_law_parts","_law_names_here"] [] aeX):aR P w K mg base dy 2 f fd ["_law_statement","_law_rows","_law_names_here"] aaI:=by
 refine F.ok AI #[22] (λbP A l6 s H vs Q E hr h=>?_)
 ·obtain⟨v,rd,ln,b,t,R,zs,rfl,_⟩:=h;rfl
 obtain⟨v,rd,ln,b,t,R,zs,rfl,fU,ok,EN,hn,lz,q⟩:=h;have hu:=mh hr;obtain⟨kvs,hd,hv⟩:=EN.ex;refine si (aJ (R6 (i:=3) AI.nd rfl #[135] (afh (dq (afh (dq (ER.mk (Cc hu (pv 1) #[12] #[3])) (dq (ER.mk (aU iz hr (aa #[12] (aa (aD T9 (pv 2) (bI (aa cz af))) af)))) DP))) DP)))
   (aJ (ao7 (PTW.mk (aX mQ #[12] cz (bK _))) (mJ (alq (ER.mk (dN YY Ya Yb bu (pv 3) (aa (bI (aa (Cc hu (pv 1) #[12] #[3]) (aa (aU iz hr (aa #[12] (aa (aD T9 (pv 2) (bI (aa cz af))) af))) af))) af))))) afj)
   (mJ (iU.mk (aH (pv 3)))))) ?_
 exists 0;have nn:#[146]=("" : Str):=rfl;have one:∀{H1:Hp} {l:Look} {va:V} {Q':VK} {l1:QX},av H H1->l∈cB t->oK H1 va l.2->H1 l1=Z (.lst (zs.map V.str++[V.str ""]))->
   (∀(L:QX) (H':Hp),av H1 H'->H' L=Z (.lst ((zs.map (Iy l.2)++[Iy l.2 ("" : Str)]).map V.int))->Q' #[143] H')->aeX [va,.ref l1] H1 Q' E0:=λ{H1 l va Q' l1} s1 j hS G k=>by
  refine⟨va,l1,l.2,zs++[("" : Str)],rfl,hS,(ok.ok l j).2,by rw[G,jB];rfl,by rw[jG];show zs.length+1<=10;omega,λL H' s' e=>k L H' s' ?_⟩;rw[jB]at e;exact e
 cases t with
 | sg l n=>
  obtain⟨y,va,rfl,N,ha⟩:=fU;have j:l∈cB (.sg l n):=jC;obtain⟨⟨m,r,g,e1,M⟩,_⟩:=hv l j;refine⟨_,U,_,U,y,_,_,_,U,U,bN N,U,rd,.ref m,U,by rw[<-e1];exact mS.k (k:=.inr l.1) hd,_,U,y,_,_,_,U,U,bN N,U,_,U,#[36],λla Tn=>?_⟩;have s1:=aj Tn (HO.lst [V.str ""]);refine⟨ln,la,_,_,U,U,s1 _ _ hn,ae,jW (show _<=1000 by simp;omega) #[10],λlb C=>?_⟩;have s2:=aj C (HO.lst (zs.map V.str++[V.str ""]));have T:=s1.trans s2;refine one T j (ha.same (Bw T)) ae λJ H3 s3 X=>?_;have I:=T.trans s3;refine⟨#[14],λwa S=>?_⟩;have s4:=aj S (HO.lst [V.ref m,V.ref J]);refine⟨#[36],λL hL=>?_⟩;have s5:=aj hL (HO.lst [V.ref wa]);have d:=I.trans (s4.trans s5);exists 1;refine⟨_,U,y,_,_,_,U,U,bN (d _ _ N),U,U,_,U,Sd #[1] ⟨_,U,q L [wa] _ d ae (.cons ⟨m,r,g,J,s5 _ _ ae,s5 _ _ (s4 _ _ X),M.same λa xs e=>d _ _ e⟩ .nil)⟩⟩
 | lk l W=>
  obtain⟨y,va,vb,rfl,N,ha,hb⟩:=fU;have j:l∈cB (.lk l W):=jC;have o5:W∈cB (.lk l W):=jJ _ jC;obtain⟨⟨m,r,g,e1,M⟩,_⟩:=hv l j;obtain⟨⟨m2,r2,g2,e2,M2⟩,_⟩:=hv W o5;refine⟨_,U,_,U,y,_,_,_,U,U,bN N,U,rd,.ref m,U,by rw[<-e1];exact mS.k (k:=.inr l.1) hd,_,U,y,_,_,_,U,U,bN N,U,_,U,#[36],λla Tn=>?_⟩;have s1:=aj Tn (HO.lst [V.str ""]);refine⟨ln,la,_,_,U,U,s1 _ _ hn,ae,jW (show _<=1000 by simp;omega) #[10],λlb C=>?_⟩;have s2:=aj C (HO.lst (zs.map V.str++[V.str ""]));have T:=s1.trans s2;refine one T j (ha.same (Bw T)) ae λJ H3 s3 X=>?_;have I:=T.trans s3;refine⟨#[14],λwa S=>?_⟩;have s4:=aj S (HO.lst [V.ref m,V.ref J]);refine⟨#[36],λL hL=>?_⟩;obtain⟨H5,e5⟩:∃H5,upd (upd H3 wa (HO.lst [V.ref m,V.ref J])) L (HO.lst [V.ref wa])=H5:=⟨_,rfl⟩;have s5:av (upd H3 wa (HO.lst [V.ref m,V.ref J])) H5:=by rw[<-e5];exact aj hL _
  have MR:H5 L=Z (.lst [V.ref wa]):=by rw[<-e5];exact ae
  have d:=I.trans (s4.trans s5);have fL:H L=Y:=(I.trans s4).free hL;have W1:MC H5 b R zs wa l:=⟨m,r,g,J,s5 _ _ ae,s5 _ _ (s4 _ _ X),M.same λa xs e=>d _ _ e⟩;rw[e5];exists 1;refine bM (λc6 H'=>∃B:QX,c6=[Z (.ref y),Z (.ref rd),Z (.ref ln),Z #[143]]/\av H H'/\H' L=Z (.lst [.ref wa,.ref B])/\MC H' b R zs wa l/\MC H' b R zs B W) ?_ #[46]
  ·rintro c6 H' ⟨B,rfl,s',m6,o6,u6⟩;exact⟨_,U,q L [wa,B] H' s' m6 (.cons o6 (.cons u6 .nil))⟩
  refine⟨_,U,y,_,_,_,U,U,bN (d _ _ N),U,U,_,U,ifT #[1] ?_⟩;refine⟨_,U,.inl ⟨U,_,bz MR⟩,_,U,_,U,y,_,_,_,U,U,bN (d _ _ N),U,rd,.ref m2,U,by rw[<-e2];exact mS.k (k:=.inr W.1) (d _ _ hd),_,U,y,_,_,_,U,U,bN (d _ _ N),U,_,U,#[36],λlc y6=>?_⟩;have s6:=aj y6 (HO.lst [V.str ""]);refine⟨ln,lc,_,_,U,U,s6 _ _ (d _ _ hn),ae,jW (show _<=1000 by simp;omega) #[10],λld z6=>?_⟩;have s7:=aj z6 (HO.lst (zs.map V.str++[V.str ""]));have d6:=d.trans (s6.trans s7);refine one d6 o5 (hb.same (Bw d6)) ae λO H8 s8 D=>?_;refine⟨#[14],λwb c7=>?_⟩;have s9:=aj c7 (HO.lst [V.ref m2,V.ref O]);have p:=(s6.trans s7).trans (s8.trans s9);have j5:=p _ _ MR;have nw:wb≠L:=λz=>by rw[<-z,ae]at j5;cases j5
  have g6:=d.trans p;have up:∀c u,c≠L->(upd H8 wb (HO.lst [V.ref m2,V.ref O])) c=Z u->(upd (upd H8 wb (HO.lst [V.ref m2,V.ref O])) L (HO.lst ([V.ref wa]++[V.ref wb]))) c=Z u:=λc u n e=>by rw[ag n];exact e
  refine⟨L,_,_,U,U,j5,(by show 1<sizeLine;decide),cE _ _ ⟨wb,U,au g6 fL,ae,?_,?_⟩⟩
  ·obtain⟨m',r',g',i6,w1,B,M'⟩:=W1;have n1:wa≠L:=λz=>by rw[z,MR]at w1;cases w1
   have n2:i6≠L:=λz=>by
    rw[z,MR]at B;have:=congrArg (λo:Option HO=>match o with|some #[165]=>xs.length|_=>0) B
    simp at this;have G:=congrArg (λo:Option HO=>match o with|some (.lst (x::_))=>Z x|_=>Y) B
    rcases hz:zs.map (Iy l.2)++[Iy l.2 ("" : Str)]with _|⟨a0,r0⟩
    ·simp at hz
    ·rw[hz]at G;simp at G
   exact⟨m',r',g',i6,up _ _ n1 (p _ _ w1),up _ _ n2 (p _ _ B),M'.same λa xs e=>up _ _ (aA e MR #[0]) (p _ _ e)⟩
  ·have n2:O≠L:=λz=>by
    rw[z]at D;have h5:=s8 _ _ ((s6.trans s7) _ _ MR);rw[h5]at D;have G:=congrArg (λo:Option HO=>match o with|some (.lst (x::_))=>Z x|_=>Y) D
    rcases hz:zs.map (Iy W.2)++[Iy W.2 ("" : Str)]with _|⟨a0,r0⟩
    ·simp at hz
    ·rw[hz]at G;simp at G
   exact⟨m2,r2,g2,O,up _ _ nw ae,up _ _ n2 (s9 _ _ D),M2.same λa xs e=>up _ _ (aA (d _ _ e) MR #[0]) (g6 _ _ e)⟩
def agY(F:aY K "_law_used" "_law_used" wW dV f fd)(aI:mg "isinstance" = Y)(aC:mg "tuple" = Y)(iR:mg "sorted" = Y)(hV:mg "list" = Y):aR P w K mg base dy 1 f fd ["_law_statement"] aeV:=by
 refine F.ok iM #[22] (λbP A o5 s H vs Q E hr h=>?_)
 ·exists 26;rfl
 obtain⟨v,t,rfl,fU,ok,q⟩:=h;have hu:=mh hr;refine⟨_,(ah (az (i:=1) iM.nd oU)
   (ah (bL PassesOwn.never rfl (eS (Cd akS (pv 0) (EY ar) EX)) (aQ (i:=2) iM.nd) (aq (cC (Bl (aG BU #[43] aI br (aa (pv 2) (aa (Ca (v:=.ty "tuple") rfl aC bH rfl) af)))) (aq (bL PassesOwn.never rfl (eS (pv 2)) (Dt rfl (cy (aQ (i:=3) iM.nd) (cy (aQ (i:=4) iM.nd) oj))) (aq (Ci hu (pv 1) (pv 4) mR rfl)))) bq)))
   (ah (aS (aei (pv 1) cz U1 ⟨rfl,rfl,rfl,rfl⟩))
   (aq (aH (aG IP #[43] iR C1 (aa (aM ((AY rfl)) #[43] hV BS #[80]) af))))))),?_⟩
 exists 0;refine λdn I=>?_;have s1:=aj I (HO.dK []);have c6:∃(y:QX) (xs S:List V),v=.ref y/\H y=Z #[39]/\Pq xs (Z 2) Y=S/\¬ (HT.ml xs.length 0 (Z 2)=0/\HT.ml xs.length xs.length Y=xs.length)/\Qs (acw H) S (As t):=by
  cases t with
  | sg l n=>
   obtain⟨y,va,e,N,g⟩:=fU;exact⟨y,_,[va,.int n],e,N,U,(λz=>by have h:=z.1;revert h;show ¬ (2=0);decide),.cons ⟨g,(ok.ok l jC).2⟩ (.cons (.inl ⟨n,U⟩) .nil)⟩
  | lk l m=>
   obtain⟨y,va,vb,e,N,g,hb⟩:=fU;exact⟨y,_,[va,.str m.1,vb],e,N,U,(λz=>by have h:=z.1;revert h;show ¬ (2=0);decide),.cons ⟨g,(ok.ok l jC).2⟩ (.cons (.inr ⟨m.1,U⟩) (.cons ⟨hb,(ok.ok m (jJ _ jC)).2⟩ .nil))⟩
 obtain⟨y,xs,S,rfl,N,d6,g6,EL⟩:=c6;have i6:S.length=(As t).length:=Paired.length EL;have l3:(As t).length<=3:=by cases t<;>(first|exact(show 2<=3 by decide)|exact jD _)
 exists 1;refine bM (t:=rl _ _ _) (λO H'=>∃(ks:List Str) (d C G:OV),O=[Z (.ref y),Z (.ref dn),d,C,G]/\av H H'/\H' dn=Z (.dK (J4 ks))/\ks.Nodup/\(∀x,x∈ks↔x∈(As t).flatMap Rg)/\ks.length<=6) ?_ #[46];exists 27
 ·refine⟨_,U,_,U,y,_,U,bN (s1 _ _ N),g6,λT hT=>?_⟩;rw[d6];exists T,rfl,⟨_,bN ae⟩;have s2:=s1.trans (aj hT (HO.tup S));have l6:dn≠T:=ak ae hT;refine pH (K:=K) (xs:=S) (λi O H'=>∃(d C G:OV),O=[Z (.ref y),Z (.ref dn),d,C,G]/\av H H'/\H' dn=Z (.dK (J4 (dW (#[180].flatMap Rg))))/\H' T=Z (.tup S)/\(#[180].flatMap Rg).length<=2*i) ⟨Y,Y,Y,U,s2,by rw[ag l6];exact ae,ae,je _⟩ (λi O H' _ ⟨_,_,_,_,_,_,h,_⟩=>bN h) ?_ ?_
  ·rintro i u O r hi ⟨d,C,G,rfl,J,R,o,nl⟩;obtain⟨e,he,L⟩:=HN EL hi;have il:=(iT L).1;have e1:((As t).take (i+1)).flatMap Rg=#[180].flatMap Rg++Rg e:=by rw[jO,L,zq];simp
   have m6:=acw.same (Bw J) he;cases e with
   | none=>
    have nx:∃(o6 u6 y6:OV),[Z (V.ref y),Z (.ref dn),Z u,C,G]=[Z (.ref y),Z (.ref dn),o6,u6,y6]/\av H r/\r dn=Z (.dK (J4 (dW (((As t).take (i+1)).flatMap Rg))))/\r T=Z (.tup S)/\(((As t).take (i+1)).flatMap Rg).length<=2*(i+1):=by rw[e1];exact⟨_,_,_,U,J,by rw[show Rg Y=[]from rfl,jZ];exact R,o,by rw[show Rg Y=[]from rfl,jZ];omega⟩
    rcases he with⟨n,rfl⟩|⟨z,rfl⟩
    ·exact⟨_,U,_,_,_,_,U,sh.int n,IY K,_,U,tV nx⟩
    ·exact⟨_,U,_,_,_,_,U,sh.str z,IZ K,_,U,tV nx⟩
   | some ps=>
    obtain⟨⟨a,as,rfl,g,hA⟩,z6⟩:=m6;have c7:as.length=ps.length:=Paired.length hA;have pl:=z6.1;refine⟨_,U,_,_,_,_,U,sh.tup g,tI K,_,U,Dj ⟨_,U,a,U,⟨_,bN g⟩,?_⟩⟩;refine pH (K:=K) (xs:=as.map V.ref) (λj O H'=>∃(C G:OV),O=[Z (.ref y),Z (.ref dn),Z #[72],C,G]/\av H H'/\H' dn=Z (.dK (J4 (dW (#[180].flatMap Rg++(ps.take j).map (·.2)))))/\H' T=Z (.tup S)/\H' a=Z (.tup #[49])/\Qs (Fw H') as ps) ⟨C,G,U,J,by rw[zO,ZK,jZ];exact R,o,g,hA⟩ (λj O H' _ ⟨_,_,_,_,_,_,h,_⟩=>bN h) ?_ ?_
    ·rintro j c O B hj ⟨C,G,rfl,s4,M,D,j5,W⟩;obtain⟨c,p,rfl,hc,d7⟩:=B9 W hj;have CF:B c=Z #[125]:=hc;have e2:(ps.take (j+1)).map (·.2)=(ps.take j).map (·.2)++[p.2]:=by rw[jO,d7,jB];rfl
     have ol:=Ao (#[180].flatMap Rg++(ps.take j).map (·.2));have tk:fH B (upd B dn (.dK (J4 (dW (#[180].flatMap Rg++(ps.take (j+1)).map (·.2)))))):=λb zs e=>by rw[ag (aA e M #[0])];exact e
     exists c,_,rfl,bN CF,rfl,_,_,rfl,_,_,rfl,rfl;refine⟨_,U,_,U,dn,upd B dn (.dK (J4 (dW (#[180].flatMap Rg++(ps.take (j+1)).map (·.2))))),U,?_,_,_,U,au s4 I,ae,tk _ _ D,tk _ _ j5,Paired.rH W λ_ _ e=>tk _ _ e⟩;have:=Mo.k (k:=.inr p.2) (v:=.bl true) M (by unfold J4;rw[bg];refine ay ?_;rw[jG,bg,jT]at ol;omega)
     rw[agI]at this;rw[e2,<-jv,ad7];exact this
    ·rintro O B ⟨C,G,rfl,s4,M,D,j5,W⟩;rw[bg,c7,jR]at M;exists _,_,_,rfl,s4,by rw[e1];exact M,D
     rw[e1,jG,show Rg (Z ps)=ps.map (·.2)from rfl,bg];omega
  ·rintro O r ⟨d,C,G,rfl,J,R,o,nl⟩;rw[i6,jR]at R nl;exact cE _ _ ⟨_,d,C,G,U,J,R,Ed _,λx=>L3,by have:=Ao ((As t).flatMap Rg);omega⟩
 rintro O r ⟨ks,d,C,G,rfl,J,R,nd,mem,kl⟩;refine bM (λO H'=>∃X:List Str,O=[Z (.ref y),Z (.ref dn),d,C,G]/\av H H'/\H' dn=Z (.dK (J4 X))/\X.Nodup/\(∀x,x∈X↔x∈eZ t)/\X.length<=6) ?_ #[46];exists 27
 ·refine⟨_,U,dn,U,.inl ⟨_,.inl R⟩,_,.inr #[146],R,rfl,λv hv=>?_,λhv=>?_⟩
  ·rw[adI];refine cE _ _ ⟨ks.filter λy=>decide (y≠Str.ofString ""),rfl,au J I,ae,nd.filter _,λx=>?_,jW (JI ..) kl⟩;rw[js,mem,<-PL];exact⟨λh=>⟨h.1,of_decide_eq_true h.2⟩,λh=>⟨h.1,decide_eq_true h.2⟩⟩
  ·refine cE _ _ ⟨ks,U,J,R,nd,λx=>?_,kl⟩;rw[<-PL,mem];refine⟨λh=>⟨h,λz=>?_⟩,λh=>h.1⟩;have hk:(Sum.inr #[146]:Key)∈(J4 ks).map (·.1):=jK.mpr ⟨(.inr x,.bl true),jK.mpr ⟨x,(mem x).mpr h,rfl⟩,by rw[z]⟩;have:cI (J4 ks) (.inr #[146])≠Y:=by unfold cI;intro z2;rw[Option.map_eq_none_iff,List.find?_eq_none]at z2;obtain⟨p,hp,e⟩:=jK.mp hk;exact z2 p hp (decide_eq_true e)
   exact this hv
 rintro O B ⟨X,rfl,s4,M,f7,g7,j7⟩;refine⟨_,U,dn,_,U,M,λl hl=>?_⟩;have e4:(J4 X).map (λq=>kV q.1)=X.map V.str:=by unfold J4;rw[JN];rfl
 rw[e4];have s5:=aj hl (HO.lst (X.map V.str));refine⟨l,X,U,ae,by omega,λl2 ms i7 pm so=>?_⟩;exact q l2 ms _ ((s4.trans s5).trans (aj i7 _)) ae ⟨so,pm.nodup_iff.mpr f7,λx=>by rw[pm.mem_iff,g7]⟩
def akf(F:aY K "_law_led" "_law_led" Bo dV f fd):aR P w K mg base dy 1 f fd ["_law_walk","_law_place","_law_figure","_law_base"] ait:=by
 refine F.ok eV #[15] (λbP A I s H n Q E hr h=>?_)
 ·obtain⟨j,p,b,R,zs,l,u,v,rfl,_⟩:=h;rfl
 obtain⟨j,p,b,R,zs,l,u,v,rfl,⟨m,r,g,q,B,X,M⟩,D,L,⟨c,J,rfl,c0,⟨W,q2⟩⟩,k⟩:=h;have hb:=L.b2;obtain⟨eK,Hh,hA⟩:=M.rows;refine⟨_,(ah (aev (pv 0) (aky rfl (cy (aQ (i:=4) eV.nd) (cy (aQ (i:=5) eV.nd) oj))))
   (ah (az (i:=6) eV.nd #[35])
   (ah (bL PassesOwn.never rfl (cu (Cd ahp (pv 5) EX (EY (ael W7 ar)))) (aQ (i:=7) eV.nd) (ah (az (i:=6) eV.nd (aD cV (pv 6) (aD wK (pv 7) (aD cq (pv 2) (pv 3)))))
   (aq (az (i:=2) eV.nd (aD cF (pv 2) (pv 3))))))
   (aq (aH (ck (aa (aD cF (pv 6) (pv 3)) (aa (aB aE (aB aE (aB aE (pv 4) ar #[3]) #[35] #[3]) (aD cq (pv 6) (pv 3)) #[3]) af)))))))),?_⟩
 exists 0;exists _,rfl,j,_,rfl,bz B,rfl,_,_,rfl,_,_,rfl,rfl;exists _,rfl,p,_,_,_,rfl,rfl,bN D,rfl;exists 1;obtain⟨F0,C⟩:∃F0,zs.map (Iy l.2)=F0:=⟨_,rfl⟩;have S:#[54].F=F0:=C;rw[C]at X;have G:=L.fl;have fi:=L.fi;rw[S]at G fi;have cut:∀x:Int,Pq ((F0++[x]).map V.int) Y (Z (-1))=F0.map V.int:=λx=>by
  match F0,G with
  |[],_=>rfl
  |[_],_=>rfl
  |[_,_],_=>rfl
 refine bM (t:=rl _ _ _) (λO H'=>∃(o:Int) (N:OV),O=[Z (.ref j),Z (.ref p),Z (.int o),Z #[193],Z #[147],Z (.ref q),Z (.int (c+OK F0 b v F0.length)),N]/\av H H') ?_ #[46];exists 27
 ·refine⟨_,U,_,U,_,U,q,_,U,bz X,λT hT=>?_⟩;rw[cut];exists T,rfl,⟨_,bz ae⟩;have s1:=aj hT (HO.lst (F0.map V.int));refine dH (K:=K) (xs:=F0.map V.int) (λi O H'=>∃N:OV,O=[Z (.ref j),Z (.ref p),Z (.int (F6 b i v)),Z #[193],Z #[147],Z (.ref q),Z (.int (c+OK F0 b v i)),N]/\H'=upd H T (HO.lst (F0.map V.int))) ⟨Y,by show _=[_,_,_,_,_,_,Z (V.int (c+0)),_];rw[QP];rfl,U⟩ (λi O H' _ ⟨_,_,e⟩=>by rw[e];exact bz ae) ?_ ?_
  ·rintro i y O H' hi ⟨N,rfl,rfl⟩;obtain⟨z,rfl,hz⟩:=cj hi;have hm:=cO (a:=F6 b i v) (b:=(b:Int)) #[2];have ez:F0.getD i 0=z:=by rw[jf,hz];rfl
   refine⟨_,U,_,U,_,U,_,U,_,_,U,U,#[2],_,_,U,U,.inr ⟨by omega,by omega⟩,_,_,U,U,_,U,_,U,_,_,U,U,⟨by omega,by omega⟩,Z (.int z),?_,U⟩;show [_,_,Z (V.int (F6 b i v / b)),_,_,_,Z (V.int (c+OK F0 b v i+z*(F6 b i v%b))),_]=[_,_,Z (V.int (F6 b i v / b)),_,_,_,Z (V.int (c+(OK F0 b v i+F0.getD i 0*(F6 b i v%b)))),_];rw[ez,Zd]
  ·rintro O H' ⟨N,rfl,rfl⟩;rw[bg];exact cE _ _ ⟨_,N,U,s1⟩
 rintro O H' ⟨o,N,rfl,s1⟩;have et:lkT b #[54] [c,J] v=c+OK F0 b v F0.length:=by show c+OK #[54].F b v #[54].F.length=_;rw[S]
 have d:=cO (a:=c+OK F0 b v F0.length) (b:=(b:Int)) #[2];obtain⟨ra,rr,e1,e2,e3⟩:=Cj hA L.ok W q2 d.1 d.2;exists _,rfl,_,rfl,_,_,rfl,rfl,⟨by omega,by omega⟩,_,rfl,m,_,_,_,rfl,rfl,bN (s1 _ _ M.tup),rfl,_,rfl,p,_,_,_,rfl,rfl,bN (s1 _ _ D),rfl,r,_,_,_,rfl,rfl,bN (s1 _ _ Hh),e1;refine⟨_,U,_,U,_,_,U,U,#[2],ra,_,_,_,U,U,bN (s1 _ _ e2),e3,#[14],λt ht=>k t _ (s1.trans (aj ht _)) ?_⟩;unfold J1;rw[et];exact ae
end
def vT:Nat->V:=λ_=>.bl true
inductive RS (vs:List V) (H:Hp) (Q:VK) (E:XK):Prop
 | mk (v:V) (rd:QX) (b most:Nat) (t:At) (R:Str->LL×LI) (_:vs=[v,.ref rd,.int b,.int most]) (_:eJ H v t) (_:Fh t) (_:Fl H rd b t R) (_:(2<=b/\b<=3)) (_:most<=500) (_:∀(ms:List LK) (zs:List Str) (H':Hp),av H H'->tP zs (eZ t)->ms.Nodup->(∀p∈ms,IH b R zs t p)->(ms.length<=most->∀p,IH b R zs t p->p∈ms)->1<=ms.length->ms.length<=600->Q (.int (ms.length:Nat)) H')
section
variable[DecidableEq α]{st:α->Nat->α}{b0:α}
def Lb.start:Lb st b0 N b0:=⟨[],(λf h=>by cases h),rfl⟩
def Lb.step{p:α}(h:Lb st b0 N p){f:Nat}(l:f<N):Lb st b0 N (st p f):=by
 obtain⟨v,M,e⟩:=h;refine⟨v++[(f:Int)],λg m=>?_,?_⟩
 ·rcases sJ.mp m with z|z
  ·exact M g z
  ·rw[jH.mp z];omega
 ·rw[Ry,e,jN]
def Lb.all{φ:α->Prop}(I:φ b0)(h:∀p,φ p->∀f:Nat,f<N->φ (st p f)){p:α}(D:Lb st b0 N p):φ p:=by
 obtain⟨v,M,e⟩:=D;subst e;have:∀(v:LI) (u:α),φ u->InF N v->φ (Se st u v):=by
  intro v
  induction v with
  | nil=>intro u R _;exact R
  | cons f v K=>
   intro u R W;have l:=W f jC;exact K _ (h u R f.toNat #[2]) λg m=>W g (jJ _ m)
 exact this v b0 I M
end
theorem Rj:∀{ds:List LD} {p:LK} {f:Nat},(∀d∈ds,OW b d)->Qs Ms ds p->Qs Ms ds (Mg b ds p f)
 | _,_,_,_,.nil=>.nil
 | _,_,_,h,.cons r t=>.cons (adF (h _ jC) r) (Rj (λd j=>h d (jJ _ j)) t)
theorem LY:∀{ds:List LD},(∀d∈ds,OW b d)->Qs Ms ds (SD ds)
 |[],_=>.nil
 | _::_,h=>.cons (adE (h _ jC)) (LY λd j=>h d (jJ _ j))
theorem lJ{F:α->β->Prop}:∀{l:List α} {m:List β} {i:Nat} {x:α},Qs F l m->l[i]?=Z x->∃y,m[i]?=Z y/\F x y
 | _,_,_,_,.nil,h=>by simp at h
 | _,_,0,_,.cons (b:=y) r _,h=>⟨y,rfl,Option.some.inj h▸r⟩
 | _,_,i+1,_,.cons _ t,h=>by obtain⟨y,q,r⟩:=lJ (i:=i) t #[113];exact⟨y,by simpa using q,r⟩
def Ol{y:V}(h:#[49][i]?=Z y):∃a,y=.ref a/\as[i]?=Z a:=by
 rw[jU]at h;cases e:as[i]? with
 | none=>rw[e]at h;cases h
 | some a=>rw[e]at h;exact⟨a,#[127].symm,rfl⟩
def akB{k:Nat}(C:k<=2):tW [V.int 1,V.int b,V.int ((b:Int)*b)] (k:Int)=Z (.int ((b^k:Nat):Int)):=by
 match k,C with
 | 0,_=>rfl
 | 1,_=>show Z (V.int b)=_;rw[QT]
 | 2,_=>show Z (V.int ((b:Int)*b))=_;rw[Nat.pow_two];push_cast;rfl
def agE(F:LI)(x:Int)(h:F.length<=2):tW ((F++[x]).map V.int) (-1)=Z (.int x):=by
 match F,h with
 |[],_=>rfl
 |[_],_=>rfl
 |[_,_],_=>rfl
structure Sg(H:Hp)(b:Nat)(R:Str->LL×LI)(zs:List Str)(t:At)(ks:List (LK×QX))(wa:List QX)(us:List LK):Prop where
 nd:(fs ks).Nodup
 rg:∀p∈fs ks,IH b R zs t p
 b0:SD #[74]∈fs ks
 wt:∀u∈us,u∈fs ks
 ky:lS EA H ks
 pl:dz EA H wa us
theorem Sg.same{R:Str->LL×LI}{t:At}{ks:List (LK×QX)}{us:List LK}(h:Sg H b R zs t ks wa us)(s:fH H H'):Sg H' b R zs t ks wa us:=
 ⟨h.nd,h.rg,h.b0,h.wt,h.ky.same s,dz.same h.pl s⟩
def ahr{l:List α}(h:l≠[]):∃a x,l=a++[x]:=⟨l.dropLast,l.getLast h,(zB h).symm⟩
theorem dz.afe:∀{wa:List QX} {us:List LK} {u:LK},dz EA H wa (us++[u])->∃d a,wa=d++[a]/\dz EA H d us/\fQ H u a
 | _,[],_,.cons r .nil=>⟨[],_,rfl,.nil,r⟩
 | _,_::us,u,.cons r t=>by obtain⟨d,a,e,p,k⟩:=dz.afe t;exact⟨_::d,a,by rw[e];rfl,.cons r p,k⟩
def aor{y:V}:(ws++[y])[(ws++[y]).length-1]?=Z y/\(ws++[y]).dropLast=ws:=by
 constructor
 ·rw[jG,ja,zx,JF (jD _),zM];rfl
 ·exact zo
def afq{f:Nat}:∀{ds:List LD} {p:LK} {i:Nat} {d:LD} {u:LI},ds[i]?=Z d->p[i]?=Z u->(Mg b ds p f).take (i+1)=(Mg b ds p f).take i++[J1 b d u f]:=by intro ds p i d u G M;rw[jO];congr 1;unfold Mg;rw[List.getElem?_zipWith,G,M];rfl
section
def bV:ax ["_law_statement","_law_rows","_law_base","_law_most","_law_names_here","_law_walks_here","_law_wide","_law_first","_law_met","_law_waiting","_law_places_here","_law_figure","_law_there"] ["_law_statement","_law_rows","_law_base","_law_most"] (ao fz):=cb #[1]
def rC:aO ["_law_statement","_law_rows","_law_base","_law_most","_law_names_here","_law_walks_here","_law_wide","_law_first","_law_met","_law_waiting","_law_places_here","_law_figure","_law_there"] (ao fz) ["_law_walk"] [Y] ⟨.function,[#[48],("_law_walk",.local)],false,false,[]⟩:=oh #[1]
def lG:aO ["_law_statement","_law_rows","_law_base","_law_most","_law_names_here","_law_walks_here","_law_wide","_law_first","_law_met","_law_waiting","_law_places_here","_law_figure","_law_there"] (ao fz) ["_law_walk","_law_place","_law_base","_law_figure"] [Y,Y,Z 2,Z 11] ⟨.function,[#[48],("_law_walk",.local),("_law_place",.local),("_law_led",.globalImplicit),("_law_base",.free),("_law_figure",.free)],false,false,[]⟩:=oh #[1]
def abL(F:aY K "_law_places" "_law_places" fz dV f fd)(wc:bc P w K mg base "_law_used" 1 ["_law_statement"] [] aeV)(rY:bc P w K mg base "_law_walks" 2 ["_law_statement","_law_rows","_law_names_here"] [] aaI)(AQ:bc P w K mg base "_law_led" 1 ["_law_walk","_law_place","_law_figure","_law_base"] [] ait)(bD:mg "len" = Y)(aC:mg "tuple" = Y)(bh:mg "range" = Y)(z9:mg "zip" = Y):aR P w K mg base dy 3 f fd ["_law_statement","_law_rows","_law_base","_law_most"] RS:=by
 refine F.ok bV #[22] (λbP A outer s H vs Q E hr h=>?_)
 ·obtain⟨v,rd,b,most,t,R,rfl,_⟩:=h;rfl
 obtain⟨v,rd,b,most,t,R,rfl,fU,ok,EN,hb,m5,q⟩:=h;have Z7:=Tp hr;have j8:2<=b/\b<=10:=by omega
 refine si (aJ (iU.mk (az (i:=4) bV.nd (aU wc hr #[38])))
   (aJ (iU.mk (az (i:=5) bV.nd (aU rY hr (aa (pv 0) (aa (pv 1) #[133])))))
   (aJ (iU.mk (az (i:=6) bV.nd (aB cX (bI (aa ar (aa (pv 2) (aa (aD wK (pv 2) (pv 2)) af)))) (aG bw #[43] bD cU #[133]) #[3])))
   (aJ (R6 (i:=7) bV.nd rfl #[135] (ER.mk (aM aK #[43] aC bH (aa (dB rfl rC (cu (pv 5)) (λ_ _ _ _=>(aQ (i:=0) rC.nd)) (λ_ _ _ _=>(ck (aa (aB (Hq K) (aB (Hq K) (pv 0) ar #[3]) (ael W7 ar) #[3]) (aa ar af))))) af))))
   (aJ (iU.mk (az (i:=8) bV.nd (Rr (kk:=EA) Z7 (wN (pv 7) mR EZ))))
   (aJ (iU.mk (az (i:=9) bV.nd (bI (aa (pv 7) af))))
   (aJ (iU.mk (oV PassesOwn.never (PW.pt (Oi (aX Rp (aG bw #[43] bD cU (aa (pv 9) af)) ar (bK _)) (E1 (aX L4 (aG ((C5 (kk:=EA))) #[43] bD cU (aa (pv 8) af)) (pv 3) (bK _))))) (ah (az (i:=10) bV.nd (Dr YY yS yT N8 (pv 9)))
   (aq (bL PassesOwn.never rfl (de rfl bh (aa (pv 6) af)) (aQ (i:=11) bV.nd) (ah (az (i:=12) bV.nd (aM aK #[43] aC bH (aa (dB rfl lG (aha rfl z9 (aa (pv 5) (aa (pv 10) af))) (λ_ _ _ _=>(Og K (n:=2) rfl (cy (aQ (i:=0) lG.nd) (cy (aQ (i:=1) lG.nd) oj)))) (λ_ _ _ _=>(aU AQ hr (aa (pv 0) (aa (pv 1) (aa (pv 3) #[89])))))) af)))
   (aq (cC (HV (abU (kk:=EA) Z7 (pv 12) (pv 8)) #[25]) (ah (aas (kk:=EA) Z7 (pv 8) (pv 12) mR rfl)
   (aq (aS (dN YY Ya Yb bu (pv 9) (aa (pv 12) af))))) bq))))))))
   (mJ (iU.mk (aH (aG ((C5 (kk:=EA))) #[43] bD cU (aa (pv 8) af)))))))))))) ?_
 exists 0;refine⟨_,U,v,t,U,fU,ok,λln zs H1 s1 hn k8=>?_⟩;have lz:=HK k8 ok;exists 1;refine⟨_,U,_,U,_,U,v,rd,ln,b,t,R,zs,U,eJ.same (Bw s1) fU,ok,EN.same s1,hn,lz,λL ws H2 s2 hL hW=>?_⟩;have rm:=s1.trans s2;have DY:=s2 _ _ hn;have pw:=Dv j8 lz;have pw9:b^zs.length<=9:=by have h1:b^zs.length<=b^2:=zD #[2] lz;have h2:b^2<=3^2:=Zj hb.2 2;omega
 exists 1;refine⟨_,U,_,U,_,U,_,_,U,U,.inl ⟨by omega,by omega⟩,#[56],λl3 hl3=>?_⟩;have s3:=aj hl3 (HO.lst [V.int 1,V.int b,V.int ((b:Int)*b)]);refine⟨_,U,ln,_,U,.inl (bz (s3 _ _ DY)),l3,_,_,_,U,U,bz ae,by rw[bg];exact akB lz,?_⟩;obtain⟨H3,Sa⟩:∃H3,upd H2 l3 (HO.lst [V.int 1,V.int b,V.int ((b:Int)*b)])=H3:=⟨_,rfl⟩;rw[Sa]at s3 ⊢;have m8:=rm.trans s3;have Bb:=s3 _ _ hL;have f7:Qs (MC H3 b R zs) ws (cB t):=Paired.rH hW λ_ _ e=>e.same s3;have lwl:ws.length=(cB t).length:=Paired.length f7;have A2:=Dp t;have g7:∀d∈fV R zs t,OW b d:=λd hd=>by obtain⟨l,hl,rfl⟩:=jK.mp hd;exact aaf EN ok hl j8 lz
 have okp:∀p,IH b R zs t p->Qs Ms #[74] p:=λp k=>Lb.all (LY g7) (λp h f _=>Rj g7 h) k;obtain⟨wd,i7⟩:∃wd:Nat,b^zs.length=wd:=⟨_,rfl⟩;rw[i7]at pw pw9 ⊢;have RG:∀{p:LK} {f:Nat},IH b R zs t p->f<wd->IH b R zs t (Mg b #[74] p f):=λk hf=>Lb.step k (by rw[i7];exact hf);exists 1;refine bM (t:=oy _ _) (λO H'=>∃G:QX,O=[Z v,Z (.ref rd),Z #[193],Z #[140],Z (.ref ln),Z #[143],Z (.int wd),Z (.ref G),Y,Y,Y,Y,Y]/\av H3 H'/\fQ H' (SD #[74]) G) ?_ #[46];exists 27
 ·exists _,rfl,L,rfl,⟨_,bz Bb⟩;refine dZ (K:=K) (xs:=ws.map V.ref) (λD i ys H'=>av H3 H'/\∃ts:List QX,ys=ts.map V.ref/\Qs (λc ns=>H' c=Z (.tup #[67])) ts ((SD #[74]).take i)/\ts.length=i) (λD hD=>⟨aj hD _,[],U,.nil,U⟩) (λD i ys H' _ ⟨e,_⟩=>bz (e _ _ Bb)) ?_ ?_
  ·rintro D i y ys H4 Q' hD hi hy ⟨s4,ts,rfl,S,tl⟩ k';obtain⟨a,rfl,ha⟩:=Ol hi;obtain⟨l,hl,W⟩:=lJ f7 ha;obtain⟨m,r,g,wl,w1,w2,M⟩:=W.same s4;have il:=(iT ha).1;refine⟨_,U,a,_,_,_,U,U,bz w1,U,_,U,wl,_,_,_,U,U,bz w2,agE _ _ (by rw[bg];exact lz),#[14],λc hc=>?_⟩;have s5:=aj hc (HO.tup [V.int (Iy l.2 ("" : Str)),V.int 0]);have o8:D≠c:=ak hy hc;have eb:(SD #[74]).take (i+1)=(SD #[74]).take i++[N6 #[54]]:=by rw[jO];congr 1;unfold SD fV;rw[jU,jU,hl];rfl
   have up:∀d xs,H4 d=Z #[39]->(upd (upd H4 c (HO.tup [V.int (Iy l.2 ("" : Str)),V.int 0])) D (HO.lst (ts.map V.ref++[V.ref c]))) d=Z #[39]:=λd xs e=>by rw[ag (aA e hy #[0])];exact s5 _ _ e
   refine k' _ _ (by rw[ag o8];exact hy) #[187] ⟨au (s4.trans s5) hD,ts++[c],by rw[jB];rfl,?_,by simp[tl]⟩;rw[eb];refine Paired.snoc (Paired.rH S λ_ _ e=>up _ _ e) ?_;rw[ag (Ne.symm o8),ae];rfl
  ·rintro D ys H4 hD hy ⟨s4,ts,rfl,S,tl⟩;have e0:(SD #[74]).take (ws.map V.ref).length=SD #[74]:=Jh (by unfold SD fV;simp;omega);rw[e0]at S;refine⟨D,_,U,.inl ⟨bz hy,λT hT=>?_⟩⟩;have s5:=aj hT (HO.tup #[168]);exact cE _ _ ⟨T,U,s4.trans s5,ts,ae,Paired.rH S λ_ _ e=>s5 _ _ e⟩
 rintro O H4 ⟨G,rfl,s4,j7⟩;have u8:=m8.trans s4;refine⟨vT,λD hD=>?_⟩;have sD:=aj hD (bS EA P w D vT []);refine⟨_,U,ae,G,_,U,j7.same (λb xs e=>sD _ _ e),?_⟩;obtain⟨H5,k7⟩:∃H5,upd (upd H4 D (bS EA P w D vT [])) D (bS EA P w D vT [(SD #[74],G)])=H5:=⟨_,rfl⟩;have s5:av H4 H5:=by rw[<-k7];exact au sD hD
 have y8:H5 D=Z (bS EA P w D vT [(SD #[74],G)]):=by rw[<-k7,ae]
 rw[k7];exists 1;refine⟨_,U,#[36],λN l6=>?_⟩;have sW:=aj l6 (HO.lst [V.ref G]);have l7:D≠N:=ak y8 l6;have U9:=u8.trans s5;have fD:H D=Y:=u8.free hD;have fW:H N=Y:=U9.free l6;have z8:H3 N=Y:=(s4.trans s5).free l6;have fD3:H3 D=Y:=s4.free hD;exists 1;refine bM (t:=sZ _ _) (λO H'=>∃(ks:List (LK×QX)) (I B J:OV),O=[Z v,Z (.ref rd),Z #[193],Z #[140],Z (.ref ln),Z #[143],Z (.int wd),Z (.ref G),Z #[81],Z (.ref N),I,B,J]/\av H3 H'/\H' D=Z (bS EA P w D vT ks)/\(fs ks).Nodup/\(∀p∈fs ks,IH b R zs t p)/\(ks.length<=most->∀p,IH b R zs t p->p∈fs ks)/\1<=ks.length/\ks.length<=600) ?_ #[46];exists 27
 ·refine tq (λmm O H'=>∃(ks:List (LK×QX)) (wa:List QX) (us:List LK) (I B J:OV),mm=(most+9-ks.length)+us.length/\O=[Z v,Z (.ref rd),Z #[193],Z #[140],Z (.ref ln),Z #[143],Z (.int wd),Z (.ref G),Z #[81],Z (.ref N),I,B,J]/\av H3 H'/\H' D=Z (bS EA P w D vT ks)/\H' N=Z (.lst (wa.map V.ref))/\Sg H' b R zs t ks wa us/\(∀p∈fs ks,p∈us\/∀f,f<wd->Mg b #[74] p f∈fs ks)/\ks.length<=most+9/\us.length<=ks.length)
   ⟨_,[(SD #[74],G)],[G],[SD #[74]],Y,Y,Y,rfl,rfl,(s4.trans s5).trans sW,sW _ _ y8,ae,⟨zR ..,λp k=>by rw[jH.mp k];exact Lb.start,jC,λu hu=>hu,λp k=>by rw[jH.mp k];exact j7.same (λb xs e=>sW _ _ (s5 _ _ e)),.cons (j7.same (λb xs e=>sW _ _ (s5 _ _ e))) .nil⟩,λp k=>.inl k,(by show 1<=most+9;omega),jD _⟩ ?_
  rintro mm O H6 ⟨ks,wa,us,I,B,J,rfl,rfl,s6,g6,a9,CN,cl,kl,ul⟩;have m7:wa.length=us.length:=Paired.length CN.pl;have lf:=oQ ks;have k1:1<=ks.length:=by have:=Ji CN.b0;omega
  have b9:(us=[]\/most<ks.length)->∃(ks:List (LK×QX)) (w10 w11 w12:OV),[Z v,Z (V.ref rd),Z #[193],Z #[140],Z (.ref ln),Z #[143],Z (.int wd),Z (.ref G),Z #[81],Z (.ref N),I,B,J]=[Z v,Z (.ref rd),Z #[193],Z #[140],Z (.ref ln),Z #[143],Z (.int wd),Z (.ref G),Z #[81],Z (.ref N),w10,w11,w12]/\av H3 H6/\H6 D=Z (bS EA P w D vT ks)/\(fs ks).Nodup/\(∀p∈fs ks,IH b R zs t p)/\(ks.length<=most->∀p,IH b R zs t p->p∈fs ks)/\1<=ks.length/\ks.length<=600:=λh=>by
   refine⟨ks,I,B,J,U,s6,g6,CN.nd,CN.rg,λle p k=>?_,k1,by omega⟩;rcases h with h|h
   ·subst h;refine Lb.all (φ:=λp=>p∈fs ks) CN.b0 (λp k f hf=>?_) k;rw[i7]at hf;rcases cl p k with z|z
    ·cases z
    ·exact z f hf
   ·omega
  refine⟨_,U,N,_,U,.inl (bz a9),_,_,U,U,_,U,Be #[84] #[84]⟩
  ·rw[bg,m7]at c;refine⟨_,U,D,_,_,U,g6,_,U,_,_,U,U,_,U,Be (λc2=>?_) (λc2=>?_)⟩
   ·have une:us≠[]:=λz=>by rw[z]at c;simp at c
    obtain⟨m6,C,eu⟩:=ahr une;subst eu;obtain⟨o5,a0,ew,pl1,aso⟩:=dz.afe CN.pl;subst ew;rw[jG,ja]at m7 ul;have kl':ks.length<=most:=by omega
    have c9:C∈fs ks:=CN.wt C #[8];refine⟨λO H'=>∃m',m'<(most+9-ks.length)+(m6++[C]).length/\∃(ks:List (LK×QX)) (wa:List QX) (us:List LK) (I B J:OV),m'=(most+9-ks.length)+us.length/\O=[Z v,Z (.ref rd),Z #[193],Z #[140],Z (.ref ln),Z #[143],Z (.int wd),Z (.ref G),Z #[81],Z (.ref N),I,B,J]/\av H3 H'/\H' D=Z (bS EA P w D vT ks)/\H' N=Z (.lst (wa.map V.ref))/\Sg H' b R zs t ks wa us/\(∀p∈fs ks,p∈us\/∀f,f<wd->Mg b #[74] p f∈fs ks)/\ks.length<=most+9/\us.length<=ks.length,λ_ _ h=>h,?_⟩;have o7:H6 N=Z (.lst (o5.map V.ref++[V.ref a0])):=by rw[a9,jB];rfl
    exists _,rfl,.inl ⟨rfl,_,bz o7⟩,N,_,V.ref a0,rfl,rfl,o7,aor.1;rw[aor.2];have o6:fH H6 (upd H6 N (HO.lst (o5.map V.ref))):=λc xs e=>by rw[ag (aA e o7 #[0])];exact e
    obtain⟨H7,e7⟩:∃H7,upd H6 N (HO.lst (o5.map V.ref))=H7:=⟨_,rfl⟩;have s7:av H3 H7:=by rw[<-e7];exact au s6 z8
    have hD7:H7 D=Z (bS EA P w D vT ks):=by rw[<-e7,ag l7];exact g6
    have hW7:H7 N=Z (.lst (o5.map V.ref)):=by rw[<-e7];exact ae
    rw[e7]at o6 ⊢;exists 1;have C7:Sg H7 b R zs t ks o5 m6:=⟨CN.nd,CN.rg,CN.b0,λu hu=>CN.wt u (sJ.mpr (.inl hu)),CN.ky.same o6,dz.same pl1 o6⟩;have r0:=CN.rg C c9;have d9:=okp C r0;refine⟨_,U,(wd:Int),U,by omega,by omega,ie (λj O H'=>∃(X:List (LK×QX)) (W8:List QX) (o:List LK) (B J:OV),O=[Z v,Z (.ref rd),Z #[193],Z #[140],Z (.ref ln),Z #[143],Z (.int wd),Z (.ref G),Z #[81],Z (.ref N),Z (.ref a0),B,J]/\av H3 H'/\H' D=Z (bS EA P w D vT X)/\H' N=Z (.lst (W8.map V.ref))/\Sg H' b R zs t X W8 o/\(∀p∈fs X,p=C\/p∈o\/∀f,f<wd->Mg b #[74] p f∈fs X)/\(∀f,f<j->Mg b #[74] C f∈fs X)/\C∈fs X/\fQ H' C a0/\o.length+ks.length=m6.length+X.length/\(ks.length<=X.length/\X.length<=ks.length+j))
     ⟨ks,o5,m6,B,J,rfl,s7,hD7,hW7,C7,λp k=>?_,(λf hf=>absurd hf (Jd _)),c9,aso.same o6,rfl,⟨jD _,jD _⟩⟩ ?_ ?_⟩
    ·rcases cl p k with z|z
     ·rcases sJ.mp z with z|z
      ·exact .inr (.inl z)
      ·exact .inl (jH.mp z)
     ·exact .inr (.inr z)
    ·rintro j O H8 hj ⟨X,W8,o,B,J,rfl,s8,u7,y7,C8,u6,i6,z7,f9,g9,⟨i9,j9⟩⟩;rw[jN]at hj;obtain⟨cs,b8,c8⟩:=f9;have lcs:cs.length=C.length:=Paired.length c8;have lu0:#[74].length=C.length:=Paired.length d9;have ll:#[74].length=(cB t).length:=jQ _;exists _,rfl,_,rfl,L,a0,rfl,⟨_,bz (s8 _ _ Bb)⟩,⟨_,bN b8⟩;refine aba (K:=K) (xs:=ws.map V.ref) (zs:=cs.map V.ref) (by simp;omega) (λD2 i ys H9=>av H8 H9/\∃ts:List QX,ys=ts.map V.ref/\Qs (λc ns=>H9 c=Z (.tup #[67])) ts ((Mg b #[74] C j).take i)/\ts.length=i) (λT σ H Q x y e q=>⟨T,[x,y],U,bN e,U,x,[y],U,y,[],U,U,q⟩) (λD2 ET=>⟨aj ET _,[],U,.nil,U⟩) (λD2 i ys H9 _ _ _ ⟨e,_⟩=>⟨bz (e _ _ (s8 _ _ Bb)),bN (e _ _ b8)⟩) ?_ ?_
     ·rintro D2 i ys H9 T x z Q' ET hx hz hy ⟨s9,ts,rfl,S,tl⟩ hT k';obtain⟨wk,rfl,k9⟩:=Ol hx;obtain⟨cp,rfl,hcp⟩:=Ol hz;obtain⟨l,hl,W⟩:=lJ f7 k9;obtain⟨u,hu,hcu⟩:=lJ c8 hcp;have hd:#[74][i]?=Z #[54]:=by unfold fV;rw[jU,hl];rfl
      obtain⟨u',Z6,okU⟩:=lJ d9 hd;cases(hu.symm.trans Z6);have c6:=aj hT (HO.tup [V.ref wk,V.ref cp]);have l9:=s9.trans c6;refine⟨_,U,_,U,_,U,_,U,wk,cp,b,R,zs,l,u,j,(by show [V.ref wk,V.ref cp,V.int (0+(j:Int)),V.int b]=_;rw[zj]),W.same (s8.trans l9),l9 _ _ hcu,g7 _ (sM hd),okU,λT2 AR d8 f8=>?_⟩;have g8:=c6.trans d8;have m9:=g8 _ _ hy;have nD2:D2≠T2:=λz=>by rw[<-z,m9]at f8;cases f8
      have up:∀d xs,H9 d=Z #[39]->(upd AR D2 (HO.lst (ts.map V.ref++[V.ref T2]))) d=Z #[39]:=λd xs e=>by rw[ag (aA e hy #[0])];exact g8 _ _ e
      refine k' _ _ m9 (ay (by rw[bg];have:=(iT k9).1;omega)) ⟨au (s9.trans g8) ET,ts++[T2],by rw[jB];rfl,?_,by simp[tl]⟩;rw[afq hd hu];refine Paired.snoc (Paired.rH S λ_ _ e=>up _ _ e) ?_;rw[ag (Ne.symm nD2)];exact f8
     ·rintro D2 ys H9 ET hy ⟨s9,ts,rfl,S,tl⟩;have e0:(Mg b #[74] C j).take (ws.map V.ref).length=Mg b #[74] C j:=Jh (by unfold Mg;simp only[List.length_zipWith,bg];omega);rw[e0]at S;refine⟨D2,_,U,.inl ⟨bz hy,λTh hTh=>?_⟩⟩;have c6:=aj hTh (HO.tup #[168]);obtain⟨j5,n9⟩:∃j5,upd H9 Th (HO.tup #[168])=j5:=⟨_,rfl⟩;rw[n9]at c6 ⊢;have V0:=s9.trans c6;have hk:fQ j5 (Mg b #[74] C j) Th:=⟨ts,by rw[<-n9];exact ae,Paired.rH S λ_ _ e=>c6 _ _ e⟩;have y6:=C8.same (Bw V0);have z6:=V0 _ _ u7;have q9:=V0 _ _ y7;have r9:fQ j5 C a0:=⟨cs,V0 _ _ b8,Paired.rH c8 λ_ _ e=>V0 _ _ e⟩;obtain⟨p,ep⟩:∃p,Mg b #[74] C j=p:=⟨_,rfl⟩;have rp:IH b R zs t p:=by rw[<-ep];exact RG r0 hj
      rw[ep]at hk;exists 1;refine⟨_,U,_,U,D,Th,p,vT,X,U,U,z6,y6.ky,hk,_,U,adv (λz3=>?_) (λz3=>?_)⟩
      ·have c3:¬ p∈X.map (·.1):=by simpa using z3
       refine⟨_,U,_,U,D,Th,p,vT,X,U,U,U,z6,y6.ky,hk,c3,ay #[2],?_⟩;have u9:fH j5 (upd j5 D (bS EA P w D vT (X++[(p,Th)]))):=λc xs e=>by rw[ag (aA e z6 #[0])];exact e
       obtain⟨AR,c7⟩:∃AR,upd j5 D (bS EA P w D vT (X++[(p,Th)]))=AR:=⟨_,rfl⟩;have i8:AR N=Z (.lst (W8.map V.ref)):=by rw[<-c7,ag (Ne.symm l7)];exact q9
       have ajb:AR D=Z (bS EA P w D vT (X++[(p,Th)])):=by rw[<-c7];exact ae
       have d8:av H3 AR:=by rw[<-c7];exact au (s8.trans V0) fD3
       rw[c7]at u9 ⊢;have ayu:W8.length=o.length:=Paired.length C8.pl;refine⟨_,U,.inl ⟨U,_,bz i8⟩,_,U,N,_,_,U,U,i8,ay #[24],?_⟩;have atN:fH AR (upd AR N (HO.lst (W8.map V.ref++[V.ref Th]))):=λc xs e=>by rw[ag (aA e i8 #[0])];exact e
       have tk:=λc xs e=>atN c xs (u9 c xs e);have d6:fs (X++[(p,Th)])=fs X++[p]:=by rw[G1];rfl
       have d7:∀{x:LK},x∈fs X->x∈fs (X++[(p,Th)]):=λh=>by rw[d6];exact sJ.mpr (.inl h)
       have y9:=y6.same tk;refine⟨X++[(p,Th)],W8++[Th],o++[p],_,_,U,au d8 z8,by rw[ag l7];exact ajb,by rw[ae,jB];rfl,⟨?_,λx hx=>?_,d7 C8.b0,λx hx=>?_,λx hx=>?_,dz.snoc y9.pl (hk.same tk)⟩,λx hx=>?_,λf hf=>?_,d7 z7,r9.same tk,by simp;omega,⟨by simp;omega,by simp;omega⟩⟩
       ·rw[d6];exact JH.mpr ⟨C8.nd,zR ..,λx hx y hy z=>c3 (by rw[jH.mp hy]at z;rw[<-z];exact hx)⟩
       ·rw[d6]at hx;rcases sJ.mp hx with z|z
        ·exact C8.rg x z
        ·rw[jH.mp z];exact rp
       ·rw[d6];rcases sJ.mp hx with z|z
        ·exact sJ.mpr (.inl (C8.wt x z))
        ·exact sJ.mpr (.inr z)
       ·rcases sJ.mp hx with z|z
        ·exact y9.ky x z
        ·rw[jH.mp z];exact hk.same tk
       ·rw[d6]at hx;rcases sJ.mp hx with z|z
        ·rcases u6 x z with y|y|y
         ·exact .inl y
         ·exact .inr (.inl (sJ.mpr (.inl y)))
         ·exact .inr (.inr λf hf=>d7 (y f hf))
        ·exact .inr (.inl (sJ.mpr (.inr z)))
       ·rcases ZQ.mp hf with z|z
        ·exact d7 (i6 f z)
        ·rw[z,ep,d6];exact sJ.mpr (.inr (List.mem_singleton_self p))
      ·have c3:p∈X.map (·.1):=by simpa using z3
       refine⟨X,W8,o,_,_,U,s8.trans V0,z6,q9,y6,u6,λf hf=>?_,z7,r9,g9,⟨i9,by omega⟩⟩;rcases ZQ.mp hf with z|z
       ·exact i6 f z
       ·rw[z,ep];exact c3
    ·rintro O H8 ⟨X,W8,o,B,J,rfl,s8,u7,y7,C8,u6,i6,z7,f9,g9,⟨i9,j9⟩⟩;rw[jN]at i6 j9;refine⟨_,?_,X,W8,o,_,B,J,U,U,s8,u7,y7,C8,λp k=>?_,by omega,by omega⟩
     ·rw[jG,ja];omega
     ·rcases u6 p k with z|z|z
      ·subst z;exact .inr i6
      ·exact .inl z
      ·exact .inr z
   ·exact cE _ _ (b9 (.inr #[2]))
  ·rw[bg,m7]at c;exact cE _ _ (b9 (.inl (zQ.mp #[2])))
 rintro O H6 ⟨ks,I,B,J,rfl,s6,g6,nd,rg,al,k1,k6⟩;have lf:=oQ ks;exists _,rfl,D,_,_,rfl,g6;rw[<-lf];exact q (fs ks) zs H6 (m8.trans s6) k8 nd rg (by rw[lf];exact al) #[2] #[2]
end
inductive Mc (C:QX) (vs:List V) (H:Hp) (Q:VK) (E:XK):Prop
 | mk (ea d:QX) (_:vs=[.ref ea]) (_:H ea=Z (.ext (BC ea C d))) (_:∀H',av H H'->Q (.bl false) H')
def IL:qF "ValueError" = Z (.type "ValueError"):=by decide +kernel
inductive Me (Pt:QX) (vs:List V) (H:Hp) (Q:VK) (E:XK):Prop
 | mk (v:V) (rd:QX) (b most:Nat) (t:At) (R:Str->LL×LI) (ms:List LK) (zs:List Str) (_:vs=[v,.int b,.ref rd,.int most]) (_:InA H rd v b most t R Pt) (_:tP zs (eZ t)) (_:ms.Nodup) (_:(∀p∈ms,IH b R zs t p)) (_:most<ms.length) (_:∀H':Hp,av H H'->Q (.bl true) H')
inductive RN (K:YW) (Ps:List QX) (vs:List V) (H:Hp) (Q:VK) (E:XK):Prop
 | mk (a:QX) (ns:LI) (_:vs=[.ref a]) (_:mw K H a #[67]) (_:ns.length<=63) (_:(∀b∈Ps,H b=Z (.Cw #[]))) (_:∀H',Q (.bl true) H')
def afK.no{t:At}{R:Str->LL×LI}{ms:List LK}(h:afK b most t R zs aW bZ)(N:tP CD (eZ t))(O:ms.Nodup)(m:∀p∈ms,IH b R CD t p):ms.length<=most:=by obtain rfl:=N.uniq h.nm;obtain⟨ps,_,mem,le⟩:=h.ex;exact jW (lP O λp D=>(mem p).mpr (m p D)) le
def afC.no{t:At}{R:Str->LL×LI}{ms:List LK}(h:afC b most t R)(N:tP CD (eZ t))(k:∀p,IH b R CD t p->p∈ms):most<ms.length:=by obtain⟨zs,ps,n,O,m,lt⟩:=h.ex;obtain rfl:=N.uniq n;exact jS lt (lP O λp D=>k p (m p D))
theorem aaL:∀zs:List Str,Qs (pR K 2 H) (zs.map V.str) (zs.map V.str)
 |[]=>.nil
 | z::zs=>.cons (.inl (.inl ⟨z,rfl,rfl⟩)) (aaL zs)
theorem P9:∀r:LI,Qs (pR K 0 H) #[183] #[183]
 |[]=>.nil
 | i::r=>.cons (.inr ⟨i,rfl,rfl⟩) (P9 r)
theorem Q0:∀r:LI,Qs (pR K 1 H) #[183] #[183]
 |[]=>.nil
 | i::r=>.cons (.inl (.inr ⟨i,rfl,rfl⟩)) (Q0 r)
theorem aau:∀{rows:LL} {as bs:List QX},bj H as rows->bj H bs rows->Qs (pR K 1 H) #[49] (bs.map V.ref)
 |[],as,bs,h,y=>by cases h;cases y;exact .nil
 | r::rows,as,bs,h,y=>by
  cases h with
  | cons h t=>
   cases y with
   | cons y l=>exact .cons (.inr ⟨_,_,_,_,rfl,rfl,bN h,bN y,P9 r⟩) (aau t l)
def ahI{n m r g F b D g':QX}(R:H n=Z #[116])(k:H F=Z #[116])(M:bQ H m r g d4 rows signs)(a:bQ H b D g' d4 rows signs):Qs (pR K 3 H) [.ref n,.ref m] [.ref F,.ref b]:=by obtain⟨eK,G,c⟩:=M.rows;obtain⟨h,O,d⟩:=a.rows;exact .cons (.inr ⟨_,_,_,_,U,U,bN R,bN k,aaL zs⟩) (.cons (.inr ⟨_,_,_,_,U,U,bN M.tup,bN a.tup,.cons (.inl (.inr ⟨_,U,U⟩)) (.cons (.inr ⟨_,_,_,_,U,U,bN G,bN O,aau c d⟩) (.cons (.inr ⟨_,_,_,_,U,U,bN M.sgn,bN a.sgn,Q0 signs⟩) .nil))⟩) .nil)
def ajO{k:Nat}(S:cL k A):A.units+(3+1)<cLine:=by have:=S.un;omega
def cD(t0 t1:Str)(m0 m1:QX):List #[167]:=dw [] [(.inr t0,.ref m0),(.inr t1,.ref m1)]
def wR(t0 t1 x:Str)(X j:QX):cI (cD t0 t1 X j) (.inr x)=if x=t1 then Z (.ref j)else if x=t0 then Z (.ref X)else Y:=by show cI (putK (putK ([]:List #[167]) (Sum.inr t0) (.ref X)) (Sum.inr t1) (.ref j)) (Sum.inr x)=_;rw[R5,R5];simp[aff]
def U8{t0 t1:Str}{X j:QX}:∀p∈cD t0 t1 X j,∃r,p.2=.ref r/\cI (cD t0 t1 X j) p.1=Z (.ref r):=by
 intro p D;by_cases c:t0=t1
 ·subst c;have e:cD t0 t0 X j=[(.inr t0,.ref j)]:=by unfold cD dw putK;simp
  have m:=D;rw[e]at m;rw[jH.mp m];exact⟨j,U,by rw[wR,if_pos rfl]⟩
 ·have e:cD t0 t1 X j=[(.inr t0,.ref X),(.inr t1,.ref j)]:=by unfold cD dw putK;simp[c]
  have m:=D;rw[e]at m;rcases jL.mp m with z|z
  ·rw[z];exact⟨X,U,by rw[wR,if_neg c,if_pos rfl]⟩
  ·rw[jH.mp z];exact⟨j,U,by rw[wR,if_pos rfl]⟩
def OD{ps:List BI}{y:Str}(h:∀p∈ps,p.2=("" : Str)\/p.2=x\/p.2=y)(hz:z∈mv ps):z=x\/z=y:=by
 unfold mv at hz;obtain⟨p,D,rfl⟩:=jK.mp hz;obtain⟨G,M⟩:=js.mp D;rcases h p G with e|e
 ·exact absurd e (of_decide_eq_true M)
 ·exact e
section
variable{D1 D2 D3 D4 D5 D6 D7 D8:QX}
def pq:ax ["_law_e","_law_kinds"] ["_law_e"] (ao rh):=cb #[1]
def fP:ax ["_law_statement","_law_base","_law_rows","_law_most","_law_seen","_law_e"] ["_law_statement","_law_base","_law_rows","_law_most"] (ao pd):=cb #[1]
def mH:ax ["_law_script","_law_base","_law_names_here","_law_titles","_law_rows","_law_kept","_law_one","_law_statement","_law_other","_law_many","_law_told_pair"] ["_law_script"] (ao aav):=cb #[1]
def Ph:aO ["_law_script","_law_base","_law_names_here","_law_titles","_law_rows","_law_kept","_law_one","_law_statement","_law_other","_law_many","_law_told_pair"] (ao aav) ["_law_name"] [Y] ⟨.function,[#[48],("_law_name",.local)],false,false,[]⟩:=oh #[1]
def T3(F:aY K "_law_others" "_law_others" rh dV f fd)(c:FK K C)(k:mg "NoFigures" = Z (.ref D1))(l:mg "NoMachine" = Z (.ref D2))(p:mg "NoName" = Z (.ref D3))(r:mg "NoPower" = Z (.ref D4))(t:mg "NoRow" = Z (.ref D5))(u:mg "NoSome" = Z (.ref D6))(x:mg "NoText" = Z (.ref D7))(y:mg "TooWide" = Z (.ref D8))(a:Ye K #[30] (.ref D1)=Z false)(O:Ye K #[30] (.ref D2)=Z false)(m:Ye K #[30] (.ref D3)=Z false)(b:Ye K #[30] (.ref D4)=Z false)(g:Ye K #[30] (.ref D5)=Z false)(z:Ye K #[30] (.ref D6)=Z false)(j:Ye K #[30] (.ref D7)=Z false)(D:Ye K #[30] (.ref D8)=Z false)(e:mg "isinstance" = Y):OS P w K mg base dy 1 f fd ["_law_e"] (Mc C):=by
 refine F.okH pq #[15] (λbP A I s H n Q E V h=>?_)
 ·obtain⟨L,d,rfl,_⟩:=h;rfl
 obtain⟨L,d,rfl,R,q⟩:=h;refine⟨_,(ah (az (i:=1) pq.nd (bI (aa (aG (ft K) #[43] e br (aa (pv 0) (aa (cJ (v:=.ref _) rfl k rfl) af))) (aa (aG (ft K) #[43] e br (aa (pv 0) (aa (cJ (v:=.ref _) rfl l rfl) af))) (aa (aG (ft K) #[43] e br (aa (pv 0) (aa (cJ (v:=.ref _) rfl p rfl) af))) (aa (aG (ft K) #[43] e br (aa (pv 0) (aa (cJ (v:=.ref _) rfl r rfl) af))) af))))))
   (ah (az (i:=1) pq.nd (aD T9 (pv 1) (bI (aa (aG (ft K) #[43] e br (aa (pv 0) (aa (cJ (v:=.ref _) rfl t rfl) af))) (aa (aG (ft K) #[43] e br (aa (pv 0) (aa (cJ (v:=.ref _) rfl u rfl) af))) (aa (aG (ft K) #[43] e br (aa (pv 0) (aa (cJ (v:=.ref _) rfl x rfl) af))) (aa (aG (ft K) #[43] e br (aa (pv 0) (aa (cJ (v:=.ref _) rfl y rfl) af))) af)))))))
   (aq (aH (Cb eX mR (pv 1) #[25]))))),?_⟩
 exists 0;refine⟨_,U,L,C,d,_,_,_,U,R,c,U,a,_,U,L,C,d,_,_,_,U,R,c,U,O,_,U,L,C,d,_,_,_,U,R,c,U,m,_,U,L,C,d,_,_,_,U,R,c,U,b,(by show 4<=sizeLine;decide),λB G=>?_⟩;have s1:=aj G (HO.lst [.bl false,.bl false,.bl false,.bl false]);have T:=s1 _ _ R;refine⟨_,U,_,U,L,C,d,_,_,_,U,T,c,U,g,_,U,L,C,d,_,_,_,U,T,c,U,z,_,U,L,C,d,_,_,_,U,T,c,U,j,_,U,L,C,d,_,_,_,U,T,c,U,D,(by show 4<=sizeLine;decide),λW M=>?_⟩;have s2:=aj M (HO.lst [.bl false,.bl false,.bl false,.bl false]);refine⟨B,W,_,_,U,U,s2 _ _ ae,ae,(by show 8<=sizeLine;decide),λo J=>?_⟩;have N:=aj J (HO.lst [.bl false,.bl false,.bl false,.bl false,.bl false,.bl false,.bl false,.bl false]);have S:=s1.trans (s2.trans N);exact⟨_,U,o,_,U,.inl (bz ae),U,U,q _ S⟩
def T6(F:aY K "_law_refused" "_law_refused" pd dV f fd)(u:FK K C)(a:DT K C f0)(c:YZ K #[30] "most" = Z Y)(q:mg "FigureError" = Z (.ref F0))(z:mg "TooGreat" = Z #[30])(l:ye K #[30] #[30]=Z true)(m:Ye K #[30] (.ref F0)=Z true)(n:Ye K #[30] (.type "ValueError")=Z true)(D:BB P w K mg base "machine_of" 9 ["statement","base","rows","most"] [] (Ij C Pt))(o:aiI P w K mg base "_law_others" 1 ["_law_e"] [] (Mc C))(e:mg "isinstance" = Y)(y:mg "ValueError" = Y):aR P w K mg base dy 10 f fd ["_law_statement","_law_base","_law_rows","_law_most"] (Me Pt):=by
 refine F.ok fP (λG H Q E h=>?_) (λbP A I s H G Q E S h=>?_)
 ·obtain⟨v,rd,b,most,t,R,ms,zs,rfl,_⟩:=h;rfl
 obtain⟨v,rd,b,most,t,R,ms,zs,rfl,J,N,O,M,lt,k⟩:=h;have W:=S.alp;refine⟨_,(ah (az (i:=4) fP.nd (bI af))
   (ah (ahd (i:=5) fP.nd rfl rfl z l (ahg (aeE (ab0 D S (aa (pv 0) (aa (pv 1) (aa (pv 2) #[79])))))) (λ_=>(aq (az (i:=4) fP.nd (bI (aa (ag4 K (pv 5)) (aa (Oa (aG (ft K) #[43] e br (aa (pv 5) (aa (cJ (v:=.ref _) rfl q rfl) af))) (Oe (aG (ft K) #[43] e br (aa (pv 5) (aa (Ca (v:=.ty "ValueError") rfl y IL rfl) af))))) (aa (aoq o S.held #[172]) af))))))))
   (aq (aH (Cb (akl W) (pv 4) (bI (aa (pv 3) (aa mR (aa mR af)))) (bK _)))))),?_⟩
 exists 0;refine⟨#[13],λl0 h0=>?_⟩;have x:=aj h0 #[85];refine⟨_,U,_,U,_,U,_,U,rd,v,b,most,t,R,U,J.same x,λT tn m' r' g' aW bZ CD g _ _ _ _ _ r=>?_,λd g s1 j B=>⟨U,d,U,λL X=>?_⟩⟩
 ·have:=r.no N O M;omega
 have sE:=x.trans (s1.trans (aj X (HO.ext (BC L C d))));have Sb:(upd g L (HO.ext (BC L C d))) d=Z (.xd [("most",.int most)]):=by rw[ag (ak j X)];exact j
 exists _,rfl,L,C,d,f0,_,_,rfl,ae,Sb,a,c,rfl;refine⟨_,U,L,C,d,_,_,_,U,ae,u,U,m,_,U,Dj ⟨_,U,L,C,d,_,_,_,U,ae,u,U,n,?_⟩⟩;refine⟨_,U,L,d,U,ae,λH2 s2=>?_⟩;refine⟨#[56],λl2 h2=>?_⟩;have s3:=sE.trans (s2.trans (aj h2 (HO.lst [.int most,.bl true,.bl false])));refine⟨_,U,_,U,#[56],λl3 h3=>?_⟩;have p:=aj h3 (HO.lst [.int most,.bl true,.bl false]);exists l2,l3,_,_,rfl,rfl,bz (p _ _ ae),bz ae,rfl,rfl;rw[show IT [V.int (most:Int),V.bl true,V.bl false] [V.int (most:Int),V.bl true,V.bl false]=true by simp[IT,S8]];exact k _ (s3.trans p)
def ake(F:aY K "law" "law" aav dV f fd)(aL:bc P w K mg base "_law_pick" 1 ["_law_script","_law_k"] [] (Il K))(rV:bc P w K mg base "_law_names" 2 ["_law_script","_law_letters"] [] (aaB K))(rW:bc P w K mg base "_law_row" 2 ["_law_script","_law_base","_law_by"] [] (aiu K))(rX:bc P w K mg base "_law_sum" 2 ["_law_script","_law_by","_law_names_here"] [] (aiv K))(pT:bc P w K mg base "_law_places" 3 ["_law_statement","_law_rows","_law_base","_law_most"] [] RS)(iy:bc P w K mg base "_law_refused" 10 ["_law_statement","_law_base","_law_rows","_law_most"] [] (Me Pt))(mT:bc P w K mg base "machine_of" 9 ["statement","base","rows","most"] [] (λvs H Q _=>Ij C Pt vs H Q λ_ _ _=>False))(hU:mg "dict" = Y)(aI:mg "isinstance" = Y)(aC:mg "tuple" = Y):aR P w K mg base dy 11 f fd ["_law_script"] (RN K [Pt]):=by
 refine F.ok mH #[22] (λbP A a9 s H vs Q E S h=>?_)
 ·obtain⟨a,ns,rfl,_⟩:=h;rfl
 obtain⟨a,xs,rfl,J,h63,b9,q⟩:=h;have c9:=b9 Pt jC;have hu:=mh S;have j7:=ajO S;refine si (aJ (iU.mk (az (i:=1) mH.nd (aD cV ar #[37])))
   (aJ (iU.mk (az (i:=2) mH.nd (aU rV S (aa (pv 0) (aa cz af)))))
   (aJ (iU.mk (fX (i:=3) rfl mH.nd rfl #[135] Ph (cu (pv 2)) (λ_ _ _ _=>(aQ (i:=0) Ph.nd)) (λ_ _ _ _=>(ag3 K Xe PySem.F.slot_str_upper PySem.F.type_str_upper adK (pv 0)))))
   (aJ (iU.mk (az (i:=4) mH.nd (aam (wN (aB cX (pv 3) ar #[3]) (aU rW S (aa (pv 0) (aa (pv 1) (aa ar af)))) (wN (aB cX (pv 3) ar #[3]) (aU rW S (aa (pv 0) (aa (pv 1) (aa ar af)))) EZ)) rfl rfl #[0] #[10])))
   (aJ (iU.mk (az (i:=5) mH.nd (aM SH #[43] hU BR #[133])))
   (aJ (iU.mk (az (i:=6) mH.nd (aU rX S (aa (pv 0) (aa ar #[89])))))
   (aJ (R6 (i:=7) mH.nd rfl #[135] (afi (dq (ER.mk cz) (dq (ER.mk (aB cX (pv 3) #[37] #[3])) (dq (ER.mk (pv 6)) (dq (ER.mk #[37]) DP))))))
   (aJ (ao7 (PTW.mk (aX mQ #[37] ar (bK _))) (aJ (iU.mk (az (i:=8) mH.nd (aB cX (pv 3) #[37] #[3])))
   (mJ (R6 (i:=7) mH.nd rfl #[135] (afi (dq (ER.mk cz) (dq (ER.mk (aB cX (pv 3) #[37] #[3])) (dq (ER.mk (pv 6)) (dq (ER.mk (pv 8)) (dq (ER.mk (aU rX S (aa (pv 0) (aa ar #[89])))) DP))))))))) afj)
   (aJ (iU.mk (az (i:=9) mH.nd (aU pT S (aa (pv 7) (aa (pv 4) (aa (pv 1) (aa ar af)))))))
   (aJ (iU.mk (cC (aX Rp (pv 9) ar (bK _)) (aq (cC (Dx (Bl (aU iy S (aa (pv 7) (aa (pv 1) (aa (pv 4) (aa ar af))))))) (aq (aH mR)) bq)) (aq (cC (PW.pt (Oi (aX Rp (pv 9) ar (bK _)) (E1 (Dx (Bl (aU iy S (aa (pv 7) (aa (pv 1) (aa (pv 4) (aa (aD ako (pv 9) ar) af)))))))))) (aq (aH mR)) bq))))
   (aJ (iU.mk (cC (aX L4 (pv 9) ar (bK _)) (ah (az (i:=10) mH.nd (aU mT S (aa (pv 7) (aa (pv 1) (aa (pv 4) (aa (pv 9) af))))))
   (aq (cC (PW.pt (ain (Dx (Bl (aG BU #[43] aI br (aa (pv 10) (aa (Ca (v:=.ty "tuple") rfl aC bH rfl) af))))) (aeB (aX ((akm 3 j7)) (pv 10) (aU mT S (aa (pv 7) (aa (pv 1) (aa (pv 4) (aa (aD akn ar ar) af))))) (bK _))))) (aq (aH mR)) bq))) bq))
   (mJ (iU.mk (aH (Cb (ag1 hu) (pv 4) (pv 5) (bK _)))))))))))))))) ?_
 exists 0;exists 1;refine bM (t:=oy _ _) (λO H'=>∃b:Nat,(2<=b/\b<=3)/\O=[Z #[72],Z #[193],Y,Y,Y,Y,Y,Y,Y,Y,Y]/\H=H') ?_ #[117];exists 27
 ·refine⟨_,U,a,5,xs,U,J,⟨by decide,by decide⟩,λv hv=>?_⟩;have md:=cO (a:=v / 2) (b:=2) #[10];obtain⟨b,eb⟩:=HJ (show 0<=2+v / 2%2 by omega);refine⟨_,_,U,U,⟨by decide,by decide⟩,_,_,U,U,#[69],_,_,U,U,W _ _ ⟨b,⟨by omega,by omega⟩,?_,U⟩⟩;rw[<-eb];rfl
 rintro O H' ⟨b,hb,rfl,rfl⟩;refine⟨_,U,a,_,xs,U,J,#[1],λln x y H1 s1 hn xl yl=>?_⟩;exists 1;refine bM (t:=oy _ _) (λO L=>∃(lt:QX) (t0 t1:Str),(t0.length<=1000/\t1.length<=1000)/\O=[Z #[72],Z #[193],Z (.ref ln),Z (.ref lt),Y,Y,Y,Y,Y,Y,Y]/\av H1 L/\L lt=Z (.lst [.str t0,.str t1])) ?_ #[117];exists 27
 ·exists _,rfl,ln,rfl,⟨_,bz hn⟩;refine dZ (K:=K) (xs:=[.str x,.str y]) (λD i ys L=>av H1 L/\ys=(([x,y].take i).map Txt.upper).map V.str/\∀z∈[x,y].take i,(Txt.upper z).length<=1000) (λD hD=>⟨aj hD _,U,λz h=>by cases h⟩) (λD i ys L _ ⟨e,_,_⟩=>bz (e _ _ hn)) ?_ ?_
  ·rintro D i u ys L Q' hD hi hy ⟨s2,rfl,le⟩ k';have i2:i<2:=(iT hi).1;obtain⟨z,rfl,hz⟩:=Cv (ns:=[x,y]) hi;have zl:z.length<=100:=by
    rcases jL.mp (sM hz)with e|e
    ·rw[e];exact xl
    ·rw[jH.mp e];exact yl
   refine⟨_,U,U,z,U,U,by omega,λul=>k' _ _ hy (ay (by rw[bg,bg,jT];show min i 2<=1000;omega)) ⟨au s2 hD,?_,λz' P7=>?_⟩⟩
   ·rw[jO,hz,jB,jB];rfl
   ·rw[jO,hz]at P7;rcases sJ.mp P7 with h|h
    ·exact le z' h
    ·rw[show z'=z by simpa using h];omega
  ·rintro D ys L hD hy ⟨s2,rfl,le⟩;exact W _ _ ⟨D,Txt.upper x,Txt.upper y,⟨le x #[8],le y #[8]⟩,U,s2,hy⟩
 rintro O L ⟨lt,t0,t1,⟨l0,l1⟩,rfl,s2,dM⟩;have rm:=s1.trans s2;refine λrd g6=>?_;have s3:=aj g6 (HO.dK []);have k7:=rm.trans s3;refine⟨_,U,lt,_,_,_,U,U,bz (s3 _ _ dM),U,_,U,_,U,a,b,40,xs,U,k7.seq J,hb,⟨by decide,by decide⟩,λm0 r0 g0 j V3 H4 s4 M0 d9 f9 n0=>?_⟩;refine⟨_,U,lt,_,_,_,U,U,bz (s4 _ _ (s3 _ _ dM)),U,_,U,_,U,a,b,90,xs,U,(k7.trans s4).seq J,hb,⟨by decide,by decide⟩,λm1 r1 g1 wQ mI H5 s5 M1 g9 i9 n1=>?_⟩;have i6:=s4.trans s5;refine⟨i6 _ _ ae,[(.inr t0,.ref m0),(.inr t1,.ref m1)],U,(by show 2<=15;decide),?_⟩;have fr:H rd=Y:=rm.free g6;have f2:L rd=Y:=g6;obtain⟨H6,e6⟩:∃H6,upd H5 rd (HO.dK (dw [] [(.inr t0,.ref m0),(.inr t1,.ref m1)]))=H6:=⟨_,rfl⟩;have l7:H6 rd=Z (.dK (cD t0 t1 m0 m1)):=by rw[<-e6];exact ae
 have s6:av L H6:=by rw[<-e6];exact au (s3.trans i6) f2
 have m7:fH H5 H6:=λc zs e=>by rw[<-e6,ag (aA e (i6 _ _ ae) #[0])];exact e
 have j9:bQ H6 m0 r0 g0 b j V3:=M0.same λc zs e=>m7 _ _ (s5 _ _ e);have k9:bQ H6 m1 r1 g1 b wQ mI:=M1.same m7;rw[e6];exists 1;refine⟨_,U,rd,_,U,l7,λkd l9=>?_⟩;have s7:=aj l9 (HO.dK (cD t0 t1 m0 m1));obtain⟨H7,e7⟩:∃H7,upd H6 kd (HO.dK (cD t0 t1 m0 m1))=H7:=⟨_,rfl⟩;have m9:H7 kd=Z (.dK (cD t0 t1 m0 m1)):=by rw[<-e7];exact ae
 rw[e7]at s7 ⊢;have l6:=s6.trans s7;have o7:=rm.trans l6;exists 1;refine⟨_,U,_,U,a,ln,11,xs,x,y,U,o7.seq J,⟨by decide,by decide⟩,l6 _ _ (s2 _ _ hn),⟨xl,yl⟩,λv1 j5 H8 s8 S1 u7 y7=>?_⟩;have s78:=s7.trans s8;have z7:=l6.trans s8;have m6:=o7.trans s8;have o6:=z7 _ _ dM;have u6:∀u:Int,∃z:Str,tW [V.str t0,V.str t1] (u / 2%2)=Z (V.str z)/\(z=t0\/z=t1):=λu=>by
  have m2:=cO (a:=u / 2) (b:=2) #[10];have h2:u / 2%2=0\/u / 2%2=1:=by omega
  rcases h2 with e|e<;>rw[e]
  ·exact⟨t0,U,.inl rfl⟩
  ·exact⟨t1,U,.inr rfl⟩
 have tl:∀z:Str,(z=t0\/z=t1)->z.length<=1000:=λz h=>by
  rcases h with e|e<;>rw[e]
  ·exact l0
  ·exact l1
 exists 1;refine bM (t:=oy _ _) (λO H9=>∃(vs:V) (l:Look) (n:Int),O=[Z #[72],Z #[193],Z (.ref ln),Z (.ref lt),Z (.ref rd),Z (.ref kd),Z v1,Z vs,Y,Y,Y]/\av H8 H9/\eJ H9 vs (.sg l n)/\l.2=j5/\(l.1=t0\/l.1=t1)) ?_ #[117];exists 27
 ·refine⟨_,U,_,U,a,9,xs,U,m6.seq J,⟨by decide,by decide⟩,λu Z6=>?_⟩;obtain⟨z,ez,hz⟩:=u6 u;refine⟨_,_,U,U,⟨by decide,by decide⟩,_,_,U,U,#[69],lt,_,_,_,U,U,bz o6,ez,_,U,_,U,a,10,xs,U,m6.seq J,⟨by decide,by decide⟩,λu2 Z7=>?_⟩;refine⟨_,_,U,U,⟨by decide,by decide⟩,_,_,U,U,#[69],(by show 4<=sizeLine;decide),λT hT=>?_⟩;have s9:=aj hT (HO.tup [V.str "is",V.str z,v1,V.int (u2 / 2%2)]);exact W _ _ ⟨.ref T,(z,j5),u2 / 2%2,U,s9,⟨T,v1,U,ae,S1.same (Bw s9)⟩,U,hz⟩
 rintro O H9 ⟨vs,l,n,rfl,s9,n9,el,hl⟩;have X:=m6.trans s9;have q9:=z7.trans s9;refine bM (λO y6=>∃(vs:V) (t:At) (v8:OV),O=[Z #[72],Z #[193],Z (.ref ln),Z (.ref lt),Z (.ref rd),Z (.ref kd),Z v1,Z vs,v8,Y,Y]/\av H9 y6/\eJ y6 vs t/\Fh t/\∀l∈cB t,l.1=t0\/l.1=t1) ?_ #[117];exists 27
 ·refine⟨_,U,a,12,xs,U,X.seq J,⟨by decide,by decide⟩,λu Z6=>?_⟩;refine⟨_,_,U,U,⟨by decide,by decide⟩,_,_,U,U,#[69],U,_,U,agz #[84] #[84]⟩
  ·refine⟨_,U,_,U,a,13,xs,U,X.seq J,⟨by decide,by decide⟩,λu3 hu3=>?_⟩;obtain⟨z3,r9,b8⟩:=u6 u3;exists _,_,rfl,rfl,⟨by decide,by decide⟩,_,_,rfl,rfl,#[69],lt,_,_,_,rfl,rfl,bz (s9 _ _ o6),r9;exists 1;refine⟨_,U,_,U,a,9,xs,U,X.seq J,⟨by decide,by decide⟩,λu4 j7=>?_⟩;obtain⟨z4,u9,c8⟩:=u6 u4;refine⟨_,_,U,U,⟨by decide,by decide⟩,_,_,U,U,#[69],lt,_,_,_,U,U,bz (s9 _ _ o6),u9,_,U,_,U,_,U,_,U,a,ln,16,xs,x,y,U,X.seq J,⟨by decide,by decide⟩,q9 _ _ (s2 _ _ hn),⟨xl,yl⟩,λv2 d8 y6 f8 S2 y9 z9=>?_⟩;refine⟨(by show 5<=sizeLine;decide),λT hT=>?_⟩;have z6:=aj hT (HO.tup [V.str "like",V.str z4,v1,V.str z3,v2]);refine W _ _ ⟨.ref T,.lk (z4,j5) (z3,d8),_,U,f8.trans z6,⟨T,v1,v2,U,ae,S1.same (Bw (s9.trans (f8.trans z6))),S2.same (Bw z6)⟩,⟨λl' N=>?_,x,y,λz hz=>?_⟩,λl' N=>?_⟩
   ·rcases jL.mp N with e|e
    ·rw[e];exact⟨tl _ c8,u7⟩
    ·rw[jH.mp e];exact⟨tl _ b8,y9⟩
   ·have P7:z∈mv j5++(mv d8++[]):=hz;rw[jZ]at P7;rcases sJ.mp P7 with h|h
    ·exact OD y7 h
    ·exact OD z9 h
   ·rcases jL.mp N with e|e
    ·rw[e];exact c8
    ·rw[jH.mp e];exact b8
  ·refine W _ _ ⟨vs,.sg l n,Y,U,av.refl _,n9,⟨λl' N=>?_,x,y,λz hz=>?_⟩,λl' N=>?_⟩
   ·rw[jH.mp N,el];exact⟨tl _ hl,u7⟩
   ·have P7:z∈mv l.2++[]:=hz;rw[jZ,el]at P7;exact OD y7 P7
   ·rw[jH.mp N];exact hl
 rintro O HA ⟨vs,t,v8,rfl,sA,o5,c6,hlk⟩;have s1A:=X.trans sA;have g8:=s8.trans (s9.trans sA);have c7:=s7.trans g8;have i8:=c7 _ _ l7;have hkA:=g8 _ _ m9;obtain⟨R,eR⟩:∃R:Str->LL×LI,R=λx=>if x=t1 then(wQ,mI)else(j,V3):=⟨_,rfl⟩
 have EN:Fl HA rd b t R:=⟨_,i8,λl hl=>by
  by_cases c:l.1=t1
  ·have e:R l.1=(wQ,mI):=by rw[eR];exact if_pos c
   rw[e,wR,if_pos c];exact⟨⟨m1,r1,g1,U,k9.same λc zs e=>c7 _ _ e⟩,g9,i9,n1⟩
  ·have e:R l.1=(j,V3):=by rw[eR];exact if_neg c
   have c0:l.1=t0:=(hlk l hl).resolve_right c;rw[e,wR,if_neg c,if_pos c0];exact⟨⟨m0,r0,g0,U,j9.same λc zs e=>c7 _ _ e⟩,d9,f9,n0⟩⟩
 have d7:2<=b/\b<=10:=by omega
 have j8:eC HA Pt oz Ip:=.inl (s1A _ _ c9);exists 1;refine⟨_,U,_,U,_,U,vs,rd,b,120,t,R,U,o5,c6,EN,hb,by decide,λms zs HB sB I nd rg al k1 k6=>?_⟩;obtain⟨G,em⟩:∃G,ms.length=G:=⟨_,rfl⟩;rw[em]at al k1 k6 ⊢;have k8:∀most:Nat,1<=most/\most<=900->InA HB rd vs b most t R Pt:=λmost hm=>⟨eJ.same (Bw sB) o5,c6,EN.same sB,d7,by omega,eC.same j8 sB,λ_ _ _ _ _ h=>by omega⟩;exists 1;refine bM (λO HC=>O=[Z #[72],Z #[193],Z (.ref ln),Z (.ref lt),Z (.ref rd),Z (.ref kd),Z v1,Z vs,v8,Z (.int G),Y]/\av HB HC) ?_ #[117];exists 27
 ·refine⟨_,U,_,_,U,U,_,U,Be #[84] #[84]⟩
  ·refine⟨_,U,_,U,_,U,vs,rd,b,120,t,R,ms,zs,U,k8 120 #[10],I,nd,rg,by omega,λHC sC=>⟨_,U,?_⟩⟩;exact tV (W _ _ ⟨U,sC⟩)
  ·refine⟨_,U,_,_,U,U,_,U,Be (λc2=>?_) (λc2=>?_)⟩
   ·refine⟨_,U,_,U,_,U,_,U,_,_,U,U,vs,rd,b,G-1,t,R,ms,zs,?_,k8 (G-1) #[2],I,nd,rg,by omega,λHC sC=>⟨_,U,?_⟩⟩
    ·show [vs,V.int b,V.ref rd,V.int ((G:Int)-1)]=[vs,V.int b,V.ref rd,V.int ((G-1:Nat):Int)];rw[show((G:Int)-1)=((G-1:Nat):Int) by omega]
    ·exact tV (W _ _ ⟨U,sC⟩)
   ·exact W _ _ ⟨U,av.refl _⟩
 rintro O HC ⟨rfl,sC⟩;have k:=sB.trans sC;have f7:eC HC Pt oz Ip:=eC.same j8 k;have m8:=k _ _ i8;have o8:=k _ _ hkA;refine bM (λO HD=>∃u8:OV,O=[Z #[72],Z #[193],Z (.ref ln),Z (.ref lt),Z (.ref rd),Z (.ref kd),Z v1,Z vs,v8,Z (.int G),u8]/\acF Pt HC HD) ?_ #[117];exists 27
 ·refine⟨_,U,_,_,U,U,_,U,Be #[84] (λc=>W _ _ ⟨_,U,λ_ _ _ e=>e⟩)⟩;have c':G<=120:=by omega
  have g7:=al c';have IN1:InA HC rd vs b G t R Pt:=⟨eJ.same (Bw k) o5,c6,EN.same k,d7,by omega,f7,λ_ _ _ _ _ h=>by omega⟩;refine⟨_,U,_,U,_,U,_,U,rd,vs,b,G,t,R,U,IN1,λT tn m' r' g' aW bZ zs1 HD sD y8 hT hn' M' O1=>?_,λd HD _ _ B=>?_⟩;exists 27
  ·have:=B.no I g7;omega
  obtain⟨psT,d6⟩:=eC.Cw f7;have nT:∀{c:QX} {o:HO},HC c=Z o->(∀qs,o≠.Cw qs)->HD c=Z o:=λ{c o} e ne=>sD c o (λz=>by rw[z,d6]at e;exact ne _ (Option.some.inj e).symm) e;have z8:fH HC HD:=λc zs e=>nT e (by intro qs z;cases z);have END:Fl HD rd b t R:=by obtain⟨kvs,h1,h2⟩:=(EN.same k).ex;refine⟨kvs,nT h1 (by intro qs z;cases z),λl hl=>?_⟩;obtain⟨⟨m,r,g,e1,M⟩,e2,e3,e4⟩:=h2 l hl;exact⟨⟨m,r,g,e1,M.same z8⟩,e2,e3,e4⟩
  have IN2:InA HD rd vs b 100000 t R Pt:=⟨eJ.same z8 (eJ.same (Bw k) o5),c6,END,d7,⟨by decide,by decide⟩,y8,λCD ps n' nd' rg' _=>by obtain rfl:=I.uniq n';have:=lP nd' λp hp=>g7 p (rg' p hp);omega⟩
  exists 1;refine⟨_,U,_,_,_,_,U,sh.tup hT,tI K,_,U,tV ?_⟩;refine⟨_,U,_,U,_,U,_,U,_,_,U,U,⟨by decide,by decide,by decide⟩,rd,vs,b,100000,t,R,U,IN2,λT2 tn2 m2 r2 g2 ato ap1 zs2 HE sE tbE hT2 DY M2 O2=>?_,λd HE _ _ B=>?_⟩;exists 27
  ·have:=B.no I g7;omega
  obtain rfl:=O1.nm.uniq O2.nm;obtain⟨rfl,rfl⟩:=acE.one O1.res O2.res;obtain⟨psU,hTD⟩:=eC.Cw y8;have i7:fH HD HE:=λc zs e=>sE c _ (aA e hTD #[0]) e;refine⟨T,T2,_,_,U,U,bN (i7 _ _ hT),bN hT2,ahI (i7 _ _ hn') DY (M'.same i7) M2,_,U,tV (W _ _ ⟨_,U,λc u n e=>sE c u n (sD c u n e)⟩)⟩
 rintro O HD ⟨u8,rfl,sD⟩;obtain⟨psT,d6⟩:=eC.Cw f7;exact⟨_,U,_,U,rd,kd,_,U,U,sD _ _ (aA m8 d6 #[0]) m8,sD _ _ (aA o8 d6 #[0]) o8,U8,q _⟩
end
structure Here(P:Qv)(w:World)(K:YW)(mg:Str->Option Value)(base:Heap):Prop
structure df(K:YW)(mg:Str->Option Value)(x:Str)(st:Stmt):Prop where
 ex:∃(f:QX) (fd:Qh),mg x=Z #[58]/\aY K x x st .none f fd
structure TopD(K:YW)(mg:Str->Option Value)(x:Str)(st:Stmt)(d:V):Prop where
 ex:∃(f T:QX) (fd:Qh) (o:Obj) (n:Nat) (u:Value),mg x=Z #[58]/\aY K x x st #[164] f fd/\K.lookup T=Z o/\o.data=.seq #[u] n/\RelV d u
structure wo(K:YW)(C:QX)(m q:Str)(st:Stmt):Prop where
 ex:∃(f:QX) (fd:Qh),Meth K C m f/\aY K m q st .none f fd
structure Sj(K:YW)(C:QX)(q:Str)(st:Stmt):Prop where
 ex:∃(f:QX) (fd:Qh),Mk K C f/\aY K "__init__" q st .none f fd
section
variable{h:Heap}{q:Str}{kV u:Value}{ps:List Str}{k:Nat}
def atR(X:K.In h)(G:h.Ns qW mg)(a:xH K qW x=Z (Z #[58]))(l:K.lookup f=Z ⟨oc,od,.func (Yh x x (dh st) (cw st) (ao st) .none kV doc pm an bP ct),HM⟩)(c:Yr K bP x=true)(k:Yd K #[58]=true):df K mg x st:=
 ⟨_,_,Xp X G a,su l c k⟩
def atQ(X:K.In h)(G:h.Ns qW mg)(a:xH K qW x=Z (Z #[58]))(l:K.lookup f=Z ⟨oc,od,.func #[66],HM⟩)(c:Yr K bP x=true)(k:Yd K #[58]=true)(t:K.lookup T=Z ⟨tc,td,.seq #[u] n,tsl⟩)(r:RelV d u):TopD K mg x st d:=
 ⟨_,_,_,_,_,_,Xp X G a,su l c k,t,rfl,r⟩
def asM(a:YZ K #[30] m=Z (Z #[58]))(l:K.lookup f=Z ⟨oc,od,.func (Yh m q (dh st) (cw st) (ao st) .none kV doc pm an bP ct),HM⟩)(c:Yr K bP q=true)(k:Yd K #[58]=true)(n:yK K #[58]=true):wo K C m q st:=
 ⟨_,_,⟨a,n,k⟩,su l c k⟩
def asj(a:YZ K #[30] "__init__" = Z (Z #[58]))(l:K.lookup f=Z ⟨oc,od,.func (Yh "__init__" q (dh st) (cw st) (ao st) .none kV doc pm an bP ct),HM⟩)(c:Yr K bP q=true)(k:Yd K #[58]=true)(n:yK K #[58]=true)(mk:XZ K C=true)(b:Yd K #[30]=true):Sj K C q st:=
 ⟨_,_,⟨mk,a,n,b⟩,su l c k⟩
def BdN(p:List Value->Prop):Nat->List Value->Prop
 | 0,us=>p us
 | n+1,us=>∀a,BdN p n (us++[a])
theorem BdN.all{p:List Value->Prop}:∀{n:Nat} {vs:List Value} (us:List Value),BdN p n vs->us.length=n->p (vs++us)
 | 0,vs,[],h,_=>by rw[jZ];exact h
 | n+1,vs,u::us,h,e=>by have:=BdN.all us (h u) (Nat.succ.inj e);rw[jv]at this;exact this
abbrev Bd(x q:Str)(st:Stmt)(ps:List Str):Prop:=∀(kV doc pm:Value) (an:Option QX) (bP ct:Value),BdN (λus=>bindArgs (Yh x q (dh st) (cw st) (ao st) .none kV doc pm an bP ct) ⟨us,[]⟩=pure #[130]) ps.length []
abbrev BdD(x:Str)(st:Stmt)(ps:List Str)(m:Nat)(g:Value->List Value):Prop:=∀(T:QX) (u kV doc pm:Value) (an:Option QX) (bP ct:Value),BdN (λus=>∃k:Option (Array Value)->Qw (List #[162]),
 bindArgs #[66] ⟨us,[]⟩=seqItems? #[164]>>=k/\k (Z #[u])=pure (ps.zip (us++g u))) m []
def df.g(_:Here P w K mg base)(t:df K mg x st)(ok:∀f fd,aY K x x st .none f fd->aR P w K mg base dy k f fd ps sp)(b:Bd x x st ps:=by (repeat intro _);rfl):bc P w K mg base x k ps [] sp:=by obtain⟨f,fd,m,F⟩:=t.ex;exact⟨f,fd,[],m,F.kp,.nil,F.binds λk d p a c e S=>(b k d p a c e).all S,ok f fd F⟩
def TopD.g(_:Here P w K mg base)(t:TopD K mg x st d)(ok:∀T f fd,aY K x x st #[164] f fd->aR P w K mg base dy k f fd ps sp)(b:BdD x st ps ps.length λ_=>[]:=by (repeat intro _);exact⟨_,rfl,rfl⟩):bc P w K mg base x k ps [] sp:=by obtain⟨f,T,fd,o,n,u,m,F,V,hs,r⟩:=t.ex;exact⟨f,fd,[],m,F.kp,.nil,F.MG V hs ps.length rfl λk d p a c e S=>(b T u k d p a c e).all S,ok T f fd F⟩
def TopD.gd(_:Here P w K mg base)(t:TopD K mg x st d)(ok:∀T f fd,aY K x x st #[164] f fd->aR P w K mg base dy k f fd ps sp)(b:BdD x st ps (ps.length-1) λu=>[u]:=by (repeat intro _);exact⟨_,rfl,rfl⟩)(e:ps.length-1+1=ps.length:=by rfl):bc P w K mg base x k ps [d] sp:=by obtain⟨f,T,fd,o,n,u,m,F,V,hs,r⟩:=t.ex;exact⟨f,fd,[u],m,F.kp,.cons r .nil,F.MG V hs _ e λk d p a c e S=>(b T u k d p a c e).all S,ok T f fd F⟩
def wo.g(_:Here P w K mg base)(t:wo K C m q st)(r:EJ K C)(ok:∀f fd,aY K m q st .none f fd->aR P w K mg base dy k f fd ps sp)(b:Bd m q st ps:=by (repeat intro _);rfl):cT P w K mg base C m k ps sp:=by obtain⟨f,fd,M,F⟩:=t.ex;exact⟨r,f,fd,M,F.binds λk d p a c e S=>(b k d p a c e).all S,ok f fd F⟩
theorem Sj.g(_:Here P w K mg base)(t:Sj K C q st)(g:mg x=Z #[30])(r:EJ K C)(ok:∀f fd,aY K "__init__" q st .none f fd->aR P w K mg base dy k f fd ps sp)(b:Bd "__init__" q st ps:=by (repeat intro _);rfl):K6 P w K mg base x C k ps sp:=by obtain⟨f,fd,M,F⟩:=t.ex;exact⟨g,r,f,fd,M,F.binds λk d p a c e S=>(b k d p a c e).all S,ok f fd F⟩
end
section
variable{q:Str}{F1:QX}{kV u:Value}{ps:List Str}{k:Nat}
def df.gH(_:Here P w K mg base)(t:df K mg x st)(ok:∀f fd,aY K x x st .none f fd->OS P w K mg base dy k f fd ps sp)(b:Bd x x st ps:=by (repeat intro _);rfl):aiI P w K mg base x k ps [] sp:=by obtain⟨f,fd,m,F⟩:=t.ex;exact⟨f,fd,[],m,F.kp,.nil,F.binds λk d p a c e S=>(b k d p a c e).all S,ok f fd F⟩
def TopD.gX2(_:Here P w K mg base)(t:TopD K mg x st d)(ok:∀T f fd,aY K x x st #[164] f fd->aR P w K mg base (IG P w) k f fd ps sp)(b:BdD x st ps ps.length λ_=>[]:=by (repeat intro _);exact⟨_,rfl,rfl⟩):BB P w K mg base x k ps [] sp:=by obtain⟨f,T,fd,o,n,u,m,F,V,hs,r⟩:=t.ex;exact⟨f,fd,[],m,F.kp,.nil,F.MG V hs ps.length rfl λk d p a c e S=>(b T u k d p a c e).all S,ok T f fd F⟩
structure afJ(K:YW)(C F1 f:QX)(q:Str)(st:Stmt):Prop where
 ex:∃fd:Qh,DT K C f/\aY K "__init__" q st .none f fd
theorem afJ.g(_:Here P w K mg base)(t:afJ K C F1 f q st)(g:mg x=Z #[30])(ok:∀fd,DT K C f->aY K "__init__" q st .none f fd->aR P w K mg base dy k f fd ps sp)(b:Bd "__init__" q st ps:=by (repeat intro _);rfl):afD P w K mg base x C f k ps sp:=by obtain⟨fd,M,F⟩:=t.ex;exact⟨g,M,fd,F.binds λk d p a c e S=>(b k d p a c e).all S,ok fd M F⟩
def asl(a:YZ K #[30] "__init__" = Z (Z #[58]))(l:K.lookup f=Z ⟨oc,od,.func (Yh "__init__" q (dh st) (cw st) (ao st) .none kV doc pm an bP ct),HM⟩)(c:Yr K bP q=true)(k:Yd K #[58]=true)(n:yK K #[58]=true)(ex:A0 K C f=true)(b:Yd K #[30]=true)(g:YZ K #[30] "__setattr__" = Z (Z #[92]))(j:yP K C=true)(A:mroIs K C [C,F1]=true)(u:FK K C):afJ K C F1 f q st:=
 ⟨_,⟨ex,n,b,g,j,⟨_,A⟩,u⟩,su l c k⟩
def apc(o:YZ K #[30] "__getattribute__" = Z (Z (.builtin "BaseException.__getattribute__")))(c:YZ K #[30] "__getattr__" = Z Y)(r:YZ K #[30] "__class__" = Z (Z #[33]))(X:yQ K #[33] "__get__" = Z (Z #[40]))(tk:xb K #[33]=Z true)(t:Yp K C #[87]=Z true)(N:Yp K C #[86]=Z true):FK K C:=
 ⟨o,c,r,X,tk,t,N,by obtain⟨L,e,_⟩:=zP.mp (show(Yp K C #[87])=Z true from t);rw[e];rfl⟩
end
def SQ{v:Value}{b:Bool}(h:Yp K C v=Z b):(PySem.W.clsIn K C).isSome=true:=by unfold Yp at h;obtain⟨L,e,_⟩:=zP.mp h;rw[e];rfl
def anU{t:Value}{D:QX}{b:Bool}(h1:Yp K D #[87]=Z true)(M:yJ K #[81]=Z #[118])(J:Yz K t #[81]=Z b):Xk K t #[81]=Z b:=by unfold Xk;dsimp only;rw[if_pos (by rw[SQ h1,M];decide)];exact J
def anV{D:QX}{b:Bool}(h1:Yp K D #[87]=Z true)(M:yJ K #[81]=Z #[118])(J:Yz K #[30] #[81]=Z b)(G:(YX C==YX D)=false):
  Ye K #[30] #[81]=Z b:=by
 unfold Ye;rw[if_neg (by rw[G];decide)];exact anU h1 M J
def aj0(h:Yz K #[30] (.type "ValueError")=Z true):Ye K #[30] (.type "ValueError")=Z true:=by unfold Ye;rw[if_neg (by intro z;cases beq_iff_eq.mp z)];unfold Xk;dsimp only;rw[if_pos #[1]];exact h
def ai4{F:QX}(I:Yz K (.ref F) #[86]=Z true)(h1:Yp K F #[87]=Z true)(M:yJ K (.ref F)=Z #[118])(J:Yz K #[30] (.ref F)=Z true):
  ye K #[30] (.ref F)=Z true:=by
 unfold ye;rw[if_pos (by rw[I];decide)];exact anU h1 M J
structure Oth(K:YW)(C D:QX):Prop where
 o:Yp K D #[87]=Z true
 t:yJ K #[81]=Z #[118]
 u:Yz K #[30] #[81]=Z false
 e:(YX C==YX D)=false
structure Und(K:YW)(C D:QX):Prop where
 o:Yp K D #[87]=Z true
 t:yJ K #[81]=Z #[118]
 u:Yz K #[30] #[81]=Z true
 e:(YX C==YX D)=false
structure Exm(K:YW)(C:QX):Prop where
 b:Yz K #[30] #[86]=Z true
 o:Yp K C #[87]=Z true
 t:yJ K #[30]=Z #[118]
 u:Yz K #[30] #[30]=Z true
def Oth.k{D:QX}(h:Oth K C D):Ye K #[30] #[81]=Z false:=anV h.o h.t h.u h.e
def Und.k{D:QX}(h:Und K C D):Ye K #[30] #[81]=Z true:=anV h.o h.t h.u h.e
def Exm.k(h:Exm K C):ye K #[30] #[30]=Z true:=ai4 h.b h.o h.t h.u
section
variable{kV:Value}{k:Nat}
def df.asy{l:yt}{spl:List QX->Sp}(t:df K mg "law" st)(q:mg "law" = Z (.ref fa))(a:∀b∈Ps,∃c,Sx K ts c b)(b:∀(kV doc pm:Value) (an:Option QX) (bP ct v:Value),bindArgs (Yh "law" "law" (dh st) (cw st) (ao st) .none kV doc pm an bP ct) ⟨[v],[]⟩=pure [(("_law_script" : Str),v)])(ok:∀base f fd,Fi base mg->aY K "law" "law" st .none f fd->aR l.prog w K mg base dy k f fd ["_law_script"] (spl Ps)):∃(fd:Qh) (Ps:List QX),(∀b∈Ps,∃c,Sx K ts c b)/\(∀(s:Qz) (v:Value),Qa s fd ⟨[v],[]⟩ [("_law_script",v)])/\∀base:Heap,K.In base->base.Ns qW mg->Fi base mg->aR l.prog w K mg base dy k fa fd ["_law_script"] (spl Ps):=by obtain⟨f,fd,m,F⟩:=t.ex;cases m.symm.trans q;obtain⟨oc,od,kV,doc,pm,an,bP,ct,HM,rfl,M,D⟩:=F.ex;exact⟨_,Ps,a,λs v=>.of_eq (b kV doc pm an bP ct v),λbase _ _ B=>ok base _ _ B F⟩
end
def akW{y:Str}{S:Tok}(h:K.lookup a=Z ⟨.type "tuple",td,.seq #[.str x t0,.str y t1,.str z S] tn,tsl⟩)(H:Hp):lU K H a [.str x,.str y,.str z]:=
 .inr ⟨_,_,_,h,rfl,rfl,#[56],.cons ⟨_,rfl⟩ (.cons ⟨_,rfl⟩ (.cons ⟨_,rfl⟩ .nil))⟩
def akV{y:Str}(h:K.lookup a=Z ⟨.type "tuple",td,.seq #[.str x t0,.str y t1] tn,tsl⟩)(H:Hp):lU K H a [.str x,.str y]:=
 .inr ⟨_,_,_,h,rfl,rfl,#[14],.cons ⟨_,rfl⟩ (.cons ⟨_,rfl⟩ .nil)⟩
structure X7(K:YW)(mg:Str->Option Value)(x:Str)(st:Stmt)(d0 d1 d2:V):Prop where
 ex:∃(f T:QX) (fd:Qh) (o:Obj) (n:Nat) (u0 u1 u2:Value),mg x=Z #[58]/\aY K x x st #[164] f fd/\K.lookup T=Z o/\o.data=.seq #[u0,u1,u2] n
abbrev aqc(x:Str)(st:Stmt)(ps:List Str):Prop:=∀(T:QX) (u0 u1 u2 kV doc pm:Value) (an:Option QX) (bP ct:Value),BdN (λus=>∃k:Option (Array Value)->Qw (List #[162]),
 bindArgs #[66] ⟨us,[]⟩=seqItems? #[164]>>=k/\k (Z #[u0,u1,u2])=pure (ps.zip (us++[]))) ps.length []
def R3(K:YW)(C:QX)(m:Str):Option (QX×QX):=match YZ K #[30] m with
 | some (Z #[58])=>(match K.lookup f with
  | some ⟨_,_,.func fd,_⟩=>(match fd.code with
   | .ref c=>(match K.lookup c with
    | some ⟨_,_,.fields vs,_⟩=>(match (vs[11]?:Option Value)with
     | some (.ref P)=>Z (c,P)
     | _=>Y)
    | _=>Y)
   | _=>Y)
  | _=>Y)
 | _=>Y
def acO{c:QX}(a:YZ K #[30] m=Z (Z #[58]))(l:K.lookup f=Z ⟨oc,od,.func fd,sl⟩)(t:R3 K C m=Z (c,Pt)):fd.code=.ref c:=by
 unfold R3 at t;rw[a]at t;simp only[l]at t;split at t
 ·rename_i R e;split at t
  ·split at t
   ·cases t;exact e
   ·cases t
  ·cases t
 ·cases t
structure aaU(K:YW)(ts:List QX)(C:QX)(m q:Str)(st:Stmt)(Pt:QX):Prop where
 ex:∃(f c:QX) (fd:Qh),Meth K C m f/\aY K m q st .none f fd/\fd.code=.ref c/\Sx K ts c Pt
section
variable{h:Heap}{q:Str}{kV u0 u1 u2:Value}{d0 d1 d2:V}{ps:List Str}{k:Nat}
def ao3(X:K.In h)(G:h.Ns qW mg)(a:xH K qW x=Z (Z #[58]))(l:K.lookup f=Z ⟨oc,od,.func #[66],HM⟩)(c:Yr K bP x=true)(k:Yd K #[58]=true)(t:K.lookup T=Z ⟨tc,td,.seq #[u0,u1,u2] n,tsl⟩)(_:RelV d0 u0)(_:RelV d1 u1)(_:RelV d2 u2):X7 K mg x st d0 d1 d2:=
 ⟨_,_,_,_,_,_,_,_,Xp X G a,su l c k,t,rfl⟩
def X7.gX2(_:Here P w K mg base)(t:X7 K mg x st d0 d1 d2)(ok:∀T f fd,aY K x x st #[164] f fd->aR P w K mg base (IG P w) k f fd ps sp)(b:aqc x st ps:=by (repeat intro _);exact⟨_,rfl,rfl⟩):BB P w K mg base x k ps [] sp:=by obtain⟨f,T,fd,o,n,u0,u1,u2,m,F,V,hs⟩:=t.ex;exact⟨f,fd,[],m,F.kp,.nil,F.MG V hs ps.length rfl λk d p a c e S=>(b T u0 u1 u2 k d p a c e).all S,ok T f fd F⟩
def asN(a:YZ K #[30] m=Z (Z #[58]))(l:K.lookup f=Z ⟨oc,od,.func (Yh m q (dh st) (cw st) (ao st) .none kV doc pm an bP ct),HM⟩)(c:Yr K bP q=true)(k:Yd K #[58]=true)(n:yK K #[58]=true)(h:(R3 K C m).isSome=true)(b:XN K #[144].1 #[144].2=true)(d:K.lookup #[144].2=Y)(g:ts.elem #[144].2=true):aaU K ts C m q st #[144].2:=by obtain⟨⟨i,j⟩,e⟩:=JM.mp h;rw[e]at b d g ⊢;exact⟨_,i,_,⟨a,n,k⟩,su l c k,acO a l e,b,d,List.mem_of_elem_eq_true g⟩
def aaU.g(_:Here P w K mg base)(t:aaU K ts C m q st Pt)(B:Fi base mg)(r:EJ K C)(ok:∀f fd c,aY K m q st .none f fd->fd.code=.ref c->aiN K mg base c Pt->aR P w K mg base (IG P w) k f fd ps sp)(b:Bd m q st ps:=by (repeat intro _);rfl):Mp P w K mg base C m k ps sp:=by obtain⟨f,c,fd,M,F,O,T⟩:=t.ex;exact⟨r,f,fd,M,F.binds λk d p a c e S=>(b k d p a c e).all S,ok f fd c F O ⟨T.hd,B⟩⟩
def aaU.tab(t:aaU K ts C m q st Pt):∃c,Sx K ts c Pt:=by obtain⟨f,c,fd,m,F,O,T⟩:=t.ex;exact⟨c,T⟩
end
def all_mk{l:yt}(q:mg "law" = Z (.ref fa))(J:mg "Parted" = Z (.ref dF))(L:mg "Looking" = Z (.ref dE))(N:mg "Pairing" = Z (.ref dY))(P:mg "Maker" = Z (.ref ir))(sy:mg "TooGreat" = Z (.ref bW))(eh:mg "FigureError" = Z (.ref dX))(wC:mg "NoFigures" = Z (.ref DR))(wD:mg "NoMachine" = Z (.ref DS))(G3:mg "NoName" = Z (.ref ON))(Df:mg "NoPower" = Z (.ref K4))(MQ:mg "NoRow" = Z (.ref X3))(G4:mg "NoSome" = Z (.ref OO))(G6:mg "NoText" = Z (.ref OP))(Dg:mg "TooWide" = Z (.ref K5))(ig:mg "COMPARING" = Z (.ref DQ))(oC:mg "JOINING" = Z (.ref K3))(z:mg "CHOOSING" = Z (.ref Fj))(ES:mg "alike" = Z (.ref X4))(p:mg "len" = Y)(y:mg "range" = Y)(a:mg "list" = Y)(x:mg "tuple" = Y)(h:mg "dict" = Y)(i:mg "enumerate" = Y)(j:mg "int" = Y)(e:mg "isinstance" = Y)(X2:mg "bool" = Y)(Mm:mg "set" = Y)(D:mg "sorted" = Y)(Mn:mg "sum" = Y)(C:mg "min" = Y)(n:mg "zip" = Y)(Bx:mg "reversed" = Y)(tu:mg "ValueError" = Y)(sx:mg "LEAST_BASE" = Z (.int 2 Iq))(wA:mg "MOST_BASE" = Z (.int 10 J7))(wB:mg "MOST_WIDE" = Z (.int 1000 J8))(Ar:afJ K bW dX Au "TooGreat.__init__" fj)(Ep:TopD K mg "reached_rooms" mF (.int 0))(MB:df K mg "with_rooms" dS)(Mw:df K mg "columns_of" oo)(Q:df K mg "back_of" Dz)(BK:Sj K dF "Parted.__init__" cK)(CZ:wo K dF "is_done" "Parted.is_done" lN)(BL:wo K dF "wait_for" "Parted.wait_for" iI)(se:wo K dF "next_splitter" "Parted.next_splitter" dQ)(AW:wo K dF "split_off" "Parted.split_off" dR)(C0:wo K dF "part_by" "Parted.part_by" lO)(BN:df K mg "unparted_groups" di)(S:df K mg "least" Cn)(Sv:df K mg "is_whole" Bq)(Eo:df K mg "is_whole_from" mE)(Mz:df K mg "need_whole" sU)(V:df K mg "halved" HZ)(W:TopD K mg "figures" DA (.int 10))(j5:TopD K mg "room" V1 (.int 0))(Pb:df K mg "weight_of" Aa)(AU:Sj K dE "Looking.__init__" fY)(El:wo K dE "begin" "Looking.begin" mC)(FA:wo K dE "step" "Looking.step" oY)(Fz:wo K dE "sign" "Looking.sign" oX)(o5:df K mg "alike" Ou)(AV:Sj K dY "Pairing.__init__" fZ)(En:wo K dY "begin" "Pairing.begin" mD)(FE:wo K dY "step" "Pairing.step" pb)(FC:wo K dY "sign" "Pairing.sign" oZ)(c6:TopD K mg "grown" Cm (.int 200))(Sw:df K mg "power_of" Br)(d6:df K mg "changed" Ap)(Er:df K mg "statements_in" mG)(g6:df K mg "sums_in" DC)(FJ:df K mg "row_names_in" pk)(i6:df K mg "free" Ov)(Pa:df K mg "pieces_of" wZ)(l6:df K mg "rows_of" DB)(BM:df K mg "is_whole_within" iL)(O8:df K mg "need_base" wX)(O9:df K mg "need_rows" wY)(IK:df K mg "need_narrow" rj)(O7:df K mg "factor_in" pO)(CW:Sj K ir "Maker.__init__" lK)(tQ:wo K ir "need_makeable" "Maker.need_makeable" eA)(Em:wo K ir "looking" "Maker.looking" fO)(CY:wo K ir "walk_for" "Maker.walk_for" lM)(mO:aaU K ts ir "machine_for" "Maker.machine_for" dC mM)(Mx:X7 K mg "machine_of" sS (.int 2) (.non) (.int 200))(O4:df K mg "_law_pick" wU)(Mu:df K mg "_law_names" iJ)(O5:df K mg "_law_rest" wV)(Ss:df K mg "_law_row" pf)(Su:df K mg "_law_sum" Bp)(FI:df K mg "_law_weights" iK)(Mv:df K mg "_law_walks" sQ)(O6:df K mg "_law_used" wW)(Sr:df K mg "_law_led" Bo)(IJ:df K mg "_law_places" fz)(II:df K mg "_law_others" rh)(FH:df K mg "_law_refused" pd)(O:∀H,lU K H DQ N0)(u:∀H,lU K H K3 N1)(R:∀H,lU K H Fj Hu)(kA:Yd K (.ref X4)=true)(r:EJ K dF)(m6:YZ K (.ref dF) "group_of" = Z Y)(o6:YZ K (.ref dF) "members" = Z Y)(u6:YZ K (.ref dF) "waiting" = Z Y)(y6:YZ K (.ref dF) "is_waiting" = Z Y)(A:EJ K dE)(z6:YZ K (.ref dE) "machine" = Z Y)(c7:YZ K (.ref dE) "factors" = Z Y)(d7:YZ K (.ref dE) "more" = Z Y)(f7:YZ K (.ref dE) "base" = Z Y)(B:EJ K dY)(g7:YZ K (.ref dY) "one" = Z Y)(i7:YZ K (.ref dY) "other" = Z Y)(j7:YZ K (.ref dY) "rule" = Z Y)(t:EJ K ir)(k7:YZ K (.ref ir) "base" = Z Y)(l7:YZ K (.ref ir) "rows" = Z Y)(m7:YZ K (.ref ir) "most" = Z Y)(xc:FK K bW)(xm:Exm K bW)(xf:Und K bW dX)(E:YZ K (.ref bW) "most" = Z Y)(o7:yQ K (.ref dX) "__getattribute__" = Z (Z (.builtin "type.__getattribute__")))(u7:Xb K dX #[118]=true)(y7:Xc K (.ref dX) #[118] "__init__" = Z (.val (.builtin "ValueError.__init__")))(z7:Yz K (.ref bW) (.type "ValueError")=Z true)(b8:Oth K bW DR)(c8:Oth K bW DS)(d8:Oth K bW ON)(f8:Oth K bW K4)(g8:Oth K bW X3)(i8:Oth K bW OO)(j8:Oth K bW OP)(k8:Oth K bW K5)(m8:df K mg "law" aav):
  ∃(fd:Qh) (Ps:List QX),(∀b∈Ps,∃c,Sx K ts c b)/\(∀(s:Qz) (v:Value),Qa s fd ⟨[v],[]⟩ [("_law_script",v)])/\∀base:Heap,K.In base->base.Ns qW mg->Fi base mg->aR l.prog w K mg base dy 11 fa fd ["_law_script"] (RN K Ps):=by
 refine m8.asy (spl:=RN K) (Ps:=[mM]) q (λb hb=>?_) (λ_ _ _ _ _ _ _=>rfl) λbase f fd o8 u8=>?_
 ·simp only[jL,jr,or_false]at hb;rcases hb with rfl
  ·exact mO.tab
 have I:Here l.prog w K mg base:=⟨⟩;have m:=(show OY K dF from⟨r,m6,o6,u6,y6⟩);have o:=(show acB K dE from⟨A,z6,c7,d7,f7⟩);have G:=(show acD K dY from⟨B,g7,i7,j7⟩);have T:=(show aaT K ir from⟨t,k7,l7,m7⟩);have eM:=Ar.g I sy λ_ xi F=>agR F xi E eh o7 u7 y7;have iB:=Ep.gd I λ_ _ _ F=>T5 F a;have mV:=MB.g I λ_ _ F=>ad6 F x;have rZ:=Mw.g I λ_ _ F=>agO F y x;have CJ:=Q.g I λ_ _ F=>adO F i;have CI:=BK.g I J r λ_ _ F=>T4 F m p a y h i;have AL:=CZ.g I r λ_ _ F=>abG F m p;have pB:=BL.g I r λ_ _ F=>T7 F m;have iZ:=se.g I r λ_ _ F=>adZ F m a;have rT:=AW.g I r λ_ _ F=>ad4 F m pB p h;have AM:=C0.g I r λ_ _ F=>abJ F m rT p;have iC:=BN.g I λ_ _ F=>aki F m rZ CJ CI AL iZ AM a h;have sd:=S.g I λ_ _ F=>adP F iB mV iC i h p;have lh:=Sv.g I λ_ _ F=>Rk F e j X2;have my:=Eo.g I λ_ _ F=>agQ F lh;have mU:=Mz.g I λ_ _ F=>agS F my;have Fq:=V.g I λ_ _ F=>abF F;have CM:=W.g I λ_ _ _ F=>TY F mU Fq Bx x;have Sh:=j5.g I λ_ _ _ F=>agV F;have wj:=Pb.g I λ_ _ F=>akj F;have AN:=AU.g I L A λ_ _ F=>adQ F o x;have tX:=El.g I A λ_ _ F=>abH F o;have BE:=FA.g I A λ_ _ F=>adS F o wj;have BD:=Fz.g I A λ_ _ F=>adR F o Sh CM;have BF:=tX;have EM:=BE;have EK:=BD;have Ag:=o5.g I λ_ _ F=>adN F;have AO:=AV.g I N B λ_ _ F=>ad0 F G;have tX:=En.g I B λ_ _ F=>abM F G BF;have BE:=FE.g I B λ_ _ F=>ad3 F G EM;have BD:=FC.g I B λ_ _ F=>ad2 F G EK Ag;have Fp:=c6.gX2 I λ_ _ _ F=>abE F BF EM EK tX BE BD eM y p x;have lA:=Sw.g I λ_ _ F=>ad1 F y;have CK:=d6.g I λ_ _ F=>TV F sd Ag x;have cZ:=Er.g I λ_ _ F=>agW F oC z u R;have CS:=g6.g I λ_ _ F=>agX F ig O;have oJ:=FJ.g I λ_ _ F=>abN F;have X:=i6.g I λ_ _ F=>agP F z R cZ CS x D Mm;have hZ:=Pa.g I λ_ _ F=>abK F cZ;have CQ:=l6.g I λ_ _ F=>abO F hZ oJ x D Mm;have iA:=BM.g I λ_ _ F=>abR F lh;have we:=O8.g I λ_ _ F=>adW F sx wA iA;have wg:=O9.g I λ_ _ F=>adY F CQ;have pU:=IK.g I λ_ _ F=>adX F wB hZ X lA p;have pC:=O7.g I λ_ _ F=>akd F Mn;have Fo:=CW.g I P t λ_ _ F=>adU F T we;have iY:=tQ.g I t λ_ _ F=>Rm F T wg pU;have rS:=Em.g I t λ_ _ F=>TZ F T AN pC;have tY:=CY.g I t λ_ _ F=>T8 F T ig O ES kA AO rS X;have iX:=mO.g I o8 t λ_ _ _ F hc kL=>adT F hc kL T oC z u R Fp tY lA X CK sd p;have lQ:=Mx.gX2 I λ_ _ _ F=>abI F Fo iY iX X;have mT:=(BB.calm lQ);have d:=O4.g I λ_ _ F=>agT F p;have rV:=Mu.g I λ_ _ F=>adV F d y p;have tZ:=O5.g I λ_ _ F=>agU F p y C;have rW:=Ss.g I λ_ _ F=>akg F d tZ y x;have rX:=Su.g I λ_ _ F=>akh F d y x;have iz:=FI.g I λ_ _ F=>akk F Mn;have rY:=Mv.g I λ_ _ F=>ad5 F iz;have wc:=O6.g I λ_ _ F=>agY F e x D a;have AQ:=Sr.g I λ_ _ F=>akf F;have pT:=IJ.g I λ_ _ F=>abL F wc rY AQ p x y n;have oH:=II.gH I λ_ _ F=>T3 F xc wC wD G3 Df MQ G4 G6 Dg b8.k c8.k d8.k f8.k g8.k i8.k j8.k k8.k e;have iy:=FH.g I λ_ _ F=>T6 F xc eM.M E eh sy xm.k xf.k (aj0 z7) lQ oH e tu;exact ake u8 d rV rW rX pT iy mT h e x
def walk{l:yt}{q:Qv}{e:(Str->Option Value)->Heap->Prop}{t:World->Heap->Prop}{d:DefRec}{K:Params->YW}(R:l.most=Z 63)(y:d.params.defaults=[])(m:∀(w:World) (h:Heap),t w h->#[136].In h/\∀P,P∈ts->h.get? P=Z (yf #[]))(F:∀(w:World) (mg:Str->Option Value) (fa:QX) (h:Heap),#[136].In h->h.Ns qW mg->mg d.name=Z (.ref fa)->
   ∃(fd:Qh) (Ps:List QX),(∀b∈Ps,∃c,Sx #[136] ts c b)/\(∀(s:Qz) (u:Value),Qa s fd ⟨[u],[]⟩ [("_law_script",u)])/\∀base:Heap,#[136].In base->base.Ns qW mg->Fi base mg->aR l.prog w #[136] mg base dy 11 fa fd ["_law_script"] (RN #[136] Ps)):
  xw q loose e t l.row.toRowW d [] (λf vs=>xg f vs):=
 L2.aci (n:=63) (k:=11) (x:="_law_script") (CX:=λ_=>dy) (sp:=λw Ps=>RN #[136] Ps) R #[10] y ⟨rfl,by decide,by decide⟩ m F (λ_ _ _ a ns L I J=>⟨a,ns,rfl,J,L,I.1,λ_=>rfl⟩) λ_ _ _ _ _ z=>z
end My
def PySem.W.Fast.tw9342180418412689482:=0
def PySem.W.Fast.tw5877689234879037275:=0
def PySem.W.Fast.tw16497927051799418376:=0
def PySem.W.Fast.tw4014579595021589630:=0
def PySem.W.Fast.tw15039490843819378603:=0
def PySem.W.Fast.tw10305187414703539653:=0
def PySem.W.Fast.tw12528065573028414878:=0
def PySem.W.Fast.tw12340065539697224368:=0
def PySem.W.Fast.tw11482162983685459317:=0
def PySem.W.Fast.tw5503097836983911273:=0
def PySem.W.Fast.tw1394100692750897903:=0
def PySem.W.Fast.tw12699983682804762961:=0
def PySem.W.Fast.tw11604471496907218691:=0
def PySem.W.Fast.tw7294058867897632578:=0
def PySem.W.Fast.tw884331834223644752:=0
def PySem.W.Fast.tw16667177132599249594:=0
def PySem.W.Fast.tw15201946513820665189:=0
def PySem.W.Fast.tw523624279867364762:=0
def PySem.W.Fast.tw6889760317106661834:=0
def PySem.W.Fast.tw13912394674648007303:=0
def PySem.W.Fast.tw2771215374387087328:=0
def PySem.W.Fast.tw4139131499465217939:=0
def PySem.W.Fast.tw18222117999602310948:=0
def PySem.W.Fast.tw3537534908016179399:=0
def PySem.W.Fast.tw11672881244392399563:=0
def PySem.W.Fast.tw9170361796596757060:=0
def PySem.W.Fast.tw95272063291251212:=0
def PySem.W.Fast.tw7854339242470918057:=0
def PySem.W.Fast.tw8566928947653159308:=0
def PySem.W.Fast.tw4462768168789403938:=0
def PySem.W.Fast.tw12303902207567206372:=0
def PySem.W.Fast.tw17086161979118517256:=0
def PySem.W.Fast.tw28434980549287832:=0
def PySem.W.Fast.tw262318744249861945:=0
def PySem.W.Fast.tw500583123629475156:=0
def PySem.W.Fast.tw18252461655428692583:=0
def PySem.W.Fast.tw16882195071442107518:=0
def PySem.W.Fast.tw12403937559323395667:=0
def PySem.W.Fast.tw14384445686345941263:=0
def PySem.W.Fast.tw8150675592847822366:=0
def PySem.W.Fast.tw15596576357923022003:=0
def PySem.W.Fast.tw15737177980168599891:=0
def PySem.W.Fast.tw10252868559970779128:=0
def PySem.W.Fast.tw9968393010737965186:=0
def PySem.W.Fast.tw8010837657983664411:=0
def PySem.W.Fast.tw8179578363825619777:=0
def PySem.W.Fast.tw12809928265826294151:=0
def PySem.W.Fast.tw11042177705948012593:=0
def PySem.W.Fast.tw15739680792713345596:=0
def PySem.W.Fast.tw8473968711677063222:=0
def PySem.W.Fast.tw11410927562465312718:=0
def PySem.W.Fast.tw4852825787118466461:=0
def PySem.W.Fast.tw1875703370381054046:=0
def PySem.W.Fast.tw16567784653321884226:=0
def PySem.W.Fast.tw13208988937291848213:=0
def PySem.W.Fast.tw14266751100965207806:=0
def PySem.W.Fast.tw11072662029530990142:=0
def PySem.W.Fast.tw16606144149308029237:=0
def PySem.W.Fast.tw16294439449186357436:=0
def PySem.W.Fast.tw7122717252831616646:=0
def PySem.W.Fast.tw11270231077024617106:=0
def PySem.W.Fast.tw6077658336006690986:=0
def PySem.W.Fast.tw11043929624949024070:=0
def PySem.W.Fast.tw1804149400700316122:=0
def PySem.W.Fast.tw16484000147140608688:=0
def PySem.W.Fast.tw6704101099877213114:=0
def PySem.W.Fast.tw17739533861599191362:=0
def PySem.W.Fast.tw7498852582243611153:=0
def PySem.W.Fast.tw15113016222388083091:=0
def PySem.W.Fast.tw8042436796285067667:=0
def PySem.W.Fast.tw1565716072050325221:=0
def PySem.W.Fast.tw13062614862603599614:=0
def PySem.W.Fast.tw8752922678657434562:=0
def PySem.W.Fast.tw765543877295492174:=0
def PySem.W.Fast.tw12347805397560136438:=0
def PySem.W.Fast.tw5112856592545854608:=0
def PySem.W.Fast.tw1042247492453757734:=0
def PySem.W.Fast.tw11007222585698190581:=0
def PySem.W.Fast.tw16763621514306646501:=0
def PySem.W.Fast.tw6914378349886297310:=0
def PySem.W.Fast.tw14562136164505829296:=0
def PySem.W.Fast.tw3662756259251321846:=0
def PySem.W.Fast.tw14657805324063199905:=0
def PySem.W.Fast.tw15923138759226327612:=0
def PySem.W.Fast.tw7004931667732502371:=0
def PySem.W.Fast.tw15431323796288273615:=0
def PySem.W.Fast.tw10683096611878132758:=0
def PySem.W.Fast.tw16532846817682020160:=0
def PySem.W.Fast.tw7324504683921795236:=0
def PySem.W.Fast.tw1606758064489369986:=0
def PySem.W.Fast.tw13105508488792990320:=0
def PySem.W.Fast.tw17648386255712365009:=0
def PySem.W.Fast.tw14512290361184201259:=0
def PySem.W.Fast.tw14896084849839765447:=0
def PySem.W.Fast.tw1840104745484277653:=0
def PySem.W.Fast.tw3224322571980730008:=0
def PySem.W.Fast.tw12345666620109580454:=0
def PySem.W.Fast.tw11083486546860409878:=0
def PySem.W.Fast.tw4457106907203606277:=0
def PySem.W.Fast.tw13506745649196733269:=0
def PySem.W.Fast.tw5055920334925692781:=0
def PySem.W.Fast.tw4181697141063499966:=0
def PySem.W.Fast.tw14978117718466911044:=0
def PySem.W.Fast.tw10392136945481555525:=0
def PySem.W.Fast.tw6154880518762468627:=0
def PySem.W.Fast.tw3952267159342646578:=0
def PySem.W.Fast.tw16584719767786803776:=0
def PySem.W.Fast.tw14090625907194890587:=0
def PySem.W.Fast.tw1575578469692907598:=0
def PySem.W.Fast.tw13747537951205252454:=0
def PySem.W.Fast.tw7722061754039019343:=0
def PySem.W.Fast.tw5298750562426158248:=0
def PySem.W.Fast.tw6368304151711879995:=0
def PySem.W.Fast.tw2811164829284721054:=0
def PySem.W.Fast.tw4349248855658104126:=0
def PySem.W.Fast.tw14374957290933207447:=0
def PySem.W.Fast.tw1921597861409165714:=0
def PySem.W.Fast.tw1967239644894264979:=0
def PySem.W.Fast.tw13974190865733942160:=0
def PySem.W.Fast.tw2614884098193458215:=0
def PySem.W.Fast.tw10159072226947757680:=0
def PySem.W.Fast.tw2826674229067894700:=0
def PySem.W.Fast.tw16724302744144428795:=0
def PySem.W.Fast.tw12999198877019049926:=0
def PySem.W.Fast.tw12950775384149842554:=0
def PySem.W.Fast.tw4909813536018736040:=0
def PySem.W.Fast.tw10182384270133823923:=0
def PySem.W.Fast.tw1113239678726603340:=0
def PySem.W.Fast.tw7416206736683625660:=0
def PySem.W.Fast.tw5674078763863847179:=0
def PySem.W.Fast.tw696403307582129089:=0
def PySem.W.Fast.tw3578066315744915724:=0
def PySem.W.Fast.tw13690329607955280011:=0
def PySem.W.Fast.tw7906146180575212660:=0
def PySem.W.Fast.tw3002346003245420026:=0
def PySem.W.Fast.tw16102858774883576251:=0
def PySem.W.Fast.tw10381965832297462077:=0
def PySem.W.Fast.tw11530131288162768125:=0
def PySem.W.Fast.tw8022931881402295777:=0
def PySem.W.Fast.tw327558270494040513:=0
def PySem.W.Fast.tw15099435323844463457:=0
def PySem.W.Fast.tw8513735955415190921:=0
def PySem.W.Fast.tw10719115421089278119:=0
def PySem.W.Fast.tw10580482467340935047:=0
def PySem.W.Fast.tw10024646717598847512:=0
def PySem.W.Fast.tw3626506002455944959:=0
def PySem.W.Fast.tw4005191512918288538:=0
def PySem.W.Fast.tw8717718298910907451:=0
def PySem.W.Fast.tw6367669733994925525:=0
def PySem.W.Fast.tw18077885682515817410:=0
def PySem.W.Fast.tw9577538244762905337:=0
def PySem.W.Fast.tw8824097267939936167:=0
def PySem.W.Fast.tw9882964650654925127:=0
def PySem.W.Fast.tw5695153357854811644:=0
def PySem.W.Fast.tw9762702132081002532:=0
def PySem.W.Fast.tw1833456890123376073:=0
def PySem.W.Fast.tw13299483499337346565:=0
def PySem.W.Fast.tw6962461633305004325:=0
def PySem.W.Fast.tw15256068073651613788:=0
def PySem.W.Fast.tw3631434456523548457:=0
def PySem.W.Fast.tw10813490333087861006:=0
def PySem.W.Fast.tw9082250964246582094:=0
def PySem.W.Fast.tw1485093529430393056:=0
def PySem.W.Fast.tw10602715827920399065:=0
def PySem.W.Fast.tw9123113237400759215:=0
def PySem.W.Fast.tw10239634943848664471:=0
def PySem.W.Fast.tw12043018798679900941:=0
def PySem.W.Fast.tw1236707305481939717:=0
def PySem.W.Fast.tw8718025069886414017:=0
def PySem.W.Fast.tw8113824919716906464:=0
def PySem.W.Fast.tw11689508696060106890:=0
def PySem.W.Fast.tw13251947805791047422:=0
def PySem.W.Fast.tw10027118044240007847:=0
def PySem.W.Fast.tw3744992722793388197:=0
def PySem.W.Fast.tw23121535070017435:=0
def PySem.W.Fast.tw13071102810846767628:=0
def PySem.W.Fast.tw3073531546824968339:=0
def PySem.W.Fast.tw6398917332778934239:=0
def PySem.W.Fast.tw17013021974602289570:=0
def PySem.W.Fast.tw12359821403566173809:=0
def PySem.W.Fast.tw11106085183898955260:=0
def PySem.W.Fast.tw442425180216438848:=0
def PySem.W.Fast.tw9010828000282169246:=0
def PySem.W.Fast.tw10662126457703063570:=0
def PySem.W.Fast.tw11995950055640703839:=0
def PySem.W.Fast.tw1709603190543292702:=0
def PySem.W.Fast.tw9211747232396412809:=0
def PySem.W.Fast.tw18052204976253378362:=0
def PySem.W.Fast.tw10675545467351804320:=0
def PySem.W.Fast.tw8099612215553089786:=0
def PySem.W.Fast.tw13370297359776322603:=0
def PySem.W.Fast.tw11366296572002346824:=0
def PySem.W.Fast.tw12694128371733882343:=0
def PySem.W.Fast.tw14955000725467082352:=0
def PySem.W.Fast.tw12811503381173473137:=0
def PySem.W.Fast.tw14644467050959532935:=0
def PySem.W.Fast.tw12328535920268432195:=0
def PySem.W.Fast.tw6076449555952170492:=0
def PySem.W.Fast.tw16321647202722722587:=0
def PySem.W.Fast.tw13024729175135973338:=0
def PySem.W.Fast.tw12475126282512161583:=0
def PySem.W.Fast.tw3429712945443798499:=0
def PySem.W.Fast.tw8973826165520498406:=0
def PySem.W.Fast.tw14951075989148752244:=0
def PySem.W.Fast.tw7550702330924901612:=0
def PySem.W.Fast.tw15900832317194399191:=0
def PySem.W.Fast.tw2224987751068691058:=0
def PySem.W.Fast.tw3560976376140277505:=0
def PySem.W.Fast.tw14732017394408837427:=0
def PySem.W.Fast.tw15851069148187665864:=0
def PySem.W.Fast.tw8015671525431901244:=0
def PySem.W.Fast.tw11166606855623712885:=0
def PySem.W.Fast.tw18353141195381963104:=0
def PySem.W.Fast.tw17977371051621265075:=0
def PySem.W.Fast.tw9224071335276886100:=0
def PySem.W.Fast.tw14074305717997861375:=0
def PySem.W.Fast.tw999203081956659579:=0
def PySem.W.Fast.tw11998977183247623223:=0
def PySem.W.Fast.tw12021831676506372535:=0
def PySem.W.Fast.tw12249063521903711063:=0
def PySem.W.Fast.tw5278571898100442476:=0
def PySem.W.Fast.tw16318365654450991404:=0
def PySem.W.Fast.tw9318856562736876761:=0
def PySem.W.Fast.tw8823752794259886955:=0
def PySem.W.Fast.tw2527106092744125530:=0
def PySem.W.Fast.tw2193011737942079397:=0
def PySem.W.Fast.tw18021728852785741998:=0
def PySem.W.Fast.tw301908660044926339:=0
def PySem.W.Fast.tw10448069217480963219:=0
def PySem.W.Fast.tw8823827858161952056:=0
def PySem.W.Fast.tw11256891126017145764:=0
def PySem.W.Fast.tw2654803587494859735:=0
def PySem.W.Fast.tw658485435862725552:=0
def PySem.W.Fast.tw14491195444722949316:=0
def PySem.W.Fast.tw10569894551399877598:=0
def PySem.W.Fast.tw3160267875367629148:=0
def PySem.W.Fast.tw9141384152677511041:=0
def PySem.W.Fast.tw4625717427944057978:=0
def PySem.W.Fast.tw13402822775363381781:=0
def PySem.W.Fast.tw5625024744771338317:=0
def PySem.W.Fast.tw15022663964414677546:=0
def PySem.W.Fast.tw2336068701695680533:=0
def PySem.W.Fast.tw1565332113246548043:=0
def PySem.W.Fast.tw3080267426150924287:=0
def PySem.W.Fast.tw10290029411976726154:=0
def PySem.W.Fast.tw6986891584382706345:=0
def PySem.W.Fast.tw18172480586423482170:=0
def PySem.W.Fast.tw12078208578286509363:=0
def PySem.W.Fast.tw2917565377667293569:=0
def PySem.W.Fast.tw2956616047616630427:=0
def PySem.W.Fast.tw4762313032299658094:=0
def PySem.W.Fast.tw2984209697846002151:=0
def PySem.W.Fast.tw4851194463322370105:=0
def PySem.W.Fast.tw8624129646027758838:=0
def PySem.W.Fast.tw16029112470894610418:=0
def PySem.W.Fast.tw15305543057995359123:=0
def PySem.W.Fast.tw15192665085468658691:=0
def PySem.W.Fast.tw9795816129024887775:=0
def PySem.W.Fast.tw8747933474714872512:=0
def PySem.W.Fast.tw12690414565591807611:=0
def PySem.W.Fast.tw8541362674420382210:=0
def PySem.W.Fast.tw12709813032099419671:=0
def PySem.W.Fast.tw6333956027542515747:=0
def PySem.W.Fast.tw1199820771930005969:=0
def PySem.W.Fast.tw17743099671292880701:=0
def PySem.W.Fast.tw1975752264109824781:=0
def PySem.W.Fast.tw13292978229528553966:=0
def PySem.W.Fast.tw5706938261553222852:=0
def PySem.W.Fast.tw1686089714172999547:=0
def PySem.W.Fast.tw11064073460569342211:=0
def PySem.W.Fast.tw12067516242070300074:=0
def PySem.W.Fast.tw2460899492042673126:=0
def PySem.W.Fast.tw3201633316290707630:=0
def PySem.W.Fast.tw16701212876158489912:=0
def PySem.W.Fast.tw15718282739329393411:=0
def PySem.W.Fast.tw12355801247122303526:=0
def PySem.W.Fast.tw12176169345759894554:=0
def PySem.W.Fast.tw4413858262092741059:=0
def PySem.W.Fast.tw12896307009014790453:=0
def PySem.W.Fast.tw6229492181430728418:=0
def PySem.W.Fast.tw6470854941897168872:=0
def PySem.W.Fast.tw5792609209008366965:=0
def PySem.W.Fast.tw10212799292970803400:=0
def PySem.W.Fast.tw13912237132367689301:=0
def PySem.W.Fast.tw12775149865381328894:=0
def PySem.W.Fast.tw14768964527316263037:=0
open PySem PySem.W PyProof.Rows
set_option maxRecDepth 100000 in
set_option maxHeartbeats 0 in
theorem PySem.Challenge.cw_figuretell_k67_refused_rows_holds : PySem.Challenge.rw_figuretell_k67_refused_rows.Holds := by
 w_on; o_law; k_head; (case hw=>w_witness2)
 k_fill
 refine My.walk (l:=PySem.Challenge.rw_figuretell_k67_refused_rows) rfl rfl (fun w h Y=>Y) ?F
 case F =>
  intro w mg fa h KX G hmg
  apply My.all_mk hmg
  all_goals first
   | exact PySem.W.mg_none_of KX G (by k_is)
   | (refine' PySem.W.mg_of KX G ?qa; (case qa=>k_is))
   | (refine' My.asN ?qa ?ql ?qc ?qk ?qn ?_ ?_ ?_ ?_; (case qa=>k_is); (case ql=>k_is); (case qc=>k_is); (case qk=>k_is); (case qn=>k_is); all_goals first | k_is | k_exc | decide | kernel_rfl)
   | (refine' My.akW ?ql; (case ql=>k_is))
   | (refine' My.akV ?ql; (case ql=>k_is))
   | (refine' My.atR KX G ?qa ?ql ?qc ?qk; (case qa=>k_is); (case ql=>k_is); (case qc=>k_is); (case qk=>k_is))
   | (refine' My.atQ KX G ?qa ?ql ?qc ?qk ?qt ?qr; (case qa=>k_is); (case ql=>k_is); (case qc=>k_is); (case qk=>k_is); (case qt=>k_is); (case qr=>first | rfl | exact ⟨_,rfl⟩))
   | (refine' My.ao3 KX G ?qa ?ql ?qc ?qk ?qt ?qr0 ?qr1 ?qr2; (case qa=>k_is); (case ql=>k_is); (case qc=>k_is); (case qk=>k_is); (case qt=>k_is); all_goals first | rfl | exact ⟨_,rfl⟩)
   | (refine' My.asM ?qa ?ql ?qc ?qk ?qn; (case qa=>k_is); (case ql=>k_is); (case qc=>k_is); (case qk=>k_is); (case qn=>k_is))
   | (refine' My.asj ?qa ?ql ?qc ?qk ?_ ?_ ?_; (case qa=>k_is); (case ql=>k_is); (case qc=>k_is); (case qk=>k_is); all_goals first | k_is | k_exc | decide | kernel_rfl)
   | (refine' My.asl ?qa ?ql ?qc ?qk ?qn ?_ ?_ ?_ ?_ ?_ ?qxc; (case qa=>k_is); (case ql=>k_is); (case qc=>k_is); (case qk=>k_is); (case qn=>k_is); (case qxc=>refine' My.apc ?_ ?_ ?_ ?_ ?_ ?_ ?_ <;> k_is); all_goals first | k_is | k_exc | decide | kernel_rfl)
   | (refine' My.apc ?_ ?_ ?_ ?_ ?_ ?_ ?_ <;> k_is)
   | k_is
   | k_exc
   | (refine ⟨?_,?_,?_,?_⟩ <;> first | k_is | k_exc | decide | kernel_rfl)
   | decide
   | kernel_rfl
