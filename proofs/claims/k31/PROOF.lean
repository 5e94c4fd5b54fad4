import PyProof.Rows.All
import Wide.All
import OpenK.AllK
import Wide.FinOn
import Lean
import PyProof.EqAt
import PyProof.EqKinds
import PyProof.TupleCall
import PyProof.NeKinds
import PyProof.ExcBaseAll.ValueError
import PyProof.ExcClass3
import OpenK.KOwn
import PyProof.Rows.FStr
import KE.KTryMore
import PyProof.ExcAttrAll.ValueError
import KE.KDictList
import PyProof.CompMap
import PyProof.ExcInit
import PyProof.InstStoreFacts
import PyProof.Draws
import PyProof.ListRange
import PyProof.ZipIter
import PyProof.EnumMake
import PyProof.CollectIter
import PyProof.SetRoads
import PyProof.Rows.SortShell
import PyProof.Rows.SortWalk
import PyProof.SetKind
import PyProof.TupleKey
import PyProof.DictKinds
import PyProof.IsRules
import PySem.Challenge.RW_figuretell_k31_turned
open PySem.W renaming Frag→Yv,findIn→yB,kitOne→yE,keepIn→yH,fnOf→yJ,kia_one→yO,mroIn→yR,emptyDict→yT,subIn→yX,codeIn→yY,instObj→ya,callWith_K→yg,typeIn→ym,hasDictIn→yr,specialIn→yt,isFn→yu,hideAll_get→XA,exmOne→XF,cellsFrom_some→XH,plainGet→XJ,methodCall_KW→XN,hideAll_none→XO,OpenLaw→XR,plainGet_of→XW,lookIn→XX,methodObj→Xi,takerIn→Xt,makesIn→Xu,readsIn→Xv,findCls→Xw,kitCls→xG,of_hideAll→xS,codeRec_of→xV,plainOver→xb,kitx_list→xh,kitx_dict→xj,handedIn→xt,kdl_call→xu,hideAll→GB,takesIn→GC,WalkO→GO,mg_of→GR,nsIn→Gy
open PySem.Value renaming ref→Yw,none→yC,int→yI,type→yK,builtin→yS,bool→yj,str→XM,isInt_shape→xZ,float→xr,isStrOf→GN,isInt→gC,bytes→gD
open PySem.Builtin.Slice renaming sliceAdjust→Yx,slicePlaces→yD,sliceApplied→yh,sliceFields→Xj,slicePartIndex→GK
open PySem.F renaming plainAttrs_list→Yy,slot_list_append→Yz,type_list_append→yA,slot_dict_keyiterator_iter→yV,slot_dict_get→yZ,plainAttrs_dict→yd,slot_dict_keyiterator_next→yf,slot_tuple_iterator_next→yi,entry_dict_get→yq,slot_enumerate_next→yw,args_dict_keyiterator_iter_1→XB,entry_dict_keyiterator_iter→XD,slot_dict_itemiterator_iter→XE,args_dict_keyiterator_next_1→XT,entry_dict_keyiterator_next→XU,args_tuple_iterator_next_1→XY,slot_dict_setdefault→XZ,entry_tuple_iterator_next→Xd,excBase_ValueError→Xg,plain_extend_loop→Xk,args_dict_get_2→Xo,args_dict_get_3→Xp,args_enumerate_next_1→Xr,slot_dict_items→Xs,entry_enumerate_next→Xy,slot_dict_pop→xA,type_dict_get→xB,entry_bexc_ga→xC,slot_list_pop→xE,type_list_pop→xF,args_list_extend_2→xH,args_bexc_ga→xI,kt_typeCall_dict_1→xJ,sub_list_frozenset→xK,entry_list_extend→xM,slot_list_extend→xX,args_dict_init_2→xY,entry_dict_init→xo,entry_type_call→xp,plain_list_iadd→xq,kt_called_dict→xw,typeCall_set_1→xx,entry_set_init→xy,slot_dict_iter→GA,plain_set_new→GH,slot_set_iter→GI,slot_dict_len→GJ,sub_list_set→GL
open PySem.Heap.SameBut renaming update→yF,refl→xk
open PyProof.Rows renaming callWith_type1→yG,slot_tuple_getitem→yN,step_dedup→XG,callWith_builtin1→XQ,assign_Tuple→Ge,mul_int→gO
open PySem.Heap renaming SameBut→yL,ExtBut→XI,IsRevIter→XS,IsList→gE
open PySem.Builtin.Tuple renaming tupleExact→yM,tupleItemsOf→yz,tupleIsExact→Xf
open PySem.Calls renaming spliced_cons→yP,callWith_builtin→yW,spliced_nil→yc,evalArgs_plain→yk,Name_function_global→Xe,call_function_entry→Xl,Constant_str→xT
open PySem.Builtin.List renaming listExtendWith→yQ,listTooLong→yb,listSameRef→yn,listLengthHint→yx,listItems→Xx,listUpdate→gA,listTouch→gJ
open PyProof.Rows.F renaming plain_set_update_loop→yU,entry_set_update_loop→yp
open PySem renaming mem_of_lookup→ye,intKind→Xh,Within→xR,call→GF
open PySem.Builtin.SmallTypes renaming nextOf→yl
open PySem.Builtin.Dict renaming updateFrom→yo,addKeywords→Xm,selfAndRest→Xn,pairItems→Xz,showsAll→xD,dictSlotNone→Gf,pendingCount→Gg
open PySem.SeqAt renaming EqAt→XC
open PySem.Builtin.Frozenset renaming updateFrom→Xa,newClass→GQ,sizeOf→Gx,slot0→gB
open PySem.Builtin.Dict_items renaming ownsTuple→Xb
open PySem.SeqAt.EqAt renaming int_int→Xc,int_str→xP,str_int→xQ,same→GD,none_bool→gL,bool_none→gM,bool_bool→gN,none_int→gP,none_str→gQ,bool_int→gR,bool_str→gS,int_none→gT,int_bool→gU,str_none→gV,str_bool→gW,str_str→gY,of_refs→gZ
open PySem.Builtin.ObjectAttr renaming find→Xq,dataDescriptor?→xn,getOf→Gw
open PySem.Builtin.Int renaming intBits→xN
open PySem.SeqAt.RcNeAt renaming tuples→xO
open PySem.W.Looks renaming here→xU,ld→gj
open PySem.Heap.IsSliceOf renaming new→xW
open PySem.Heap.Ns1 renaming of_empty→xg
open PySem.Heap.DictOf renaming new→GG
open PySem.Value.ref renaming inj→GP
open PySem.EqNone renaming eq_none_none→GS,eq_none_bool→GU,eq_bool_none→GV,ne_none_none→GY,ne_none_bool→GZ,ne_bool_none→Ga,eq_none_int→Gh,eq_none_str→Gi,eq_int_none→Gj,eq_str_none→Gm,ne_none_int→Gp,ne_none_str→Gq,ne_int_none→Gr,ne_str_none→Gu
open PySem.EqMixed renaming eq_bool_str→GW,eq_str_bool→GX,ne_bool_str→Gb,ne_str_bool→Gd,eq_int_str→Gk,eq_str_int→Gn,ne_int_str→Gs,ne_str_int→Gv
open PySem.Builtin.Range renaming rangeSize→Gz
open PySem.Heap.Ns renaming of_isNs→gK
open PySem.Walks renaming listRev→gX
open PySem.Within renaming cons→gc
open PySem.SeqAt.RcAt renaming tuples→gf
open PySem.IsL renaming update→gh
open PySem.Heap.DictOfH renaming new→gi
open PySem.Value.type renaming inj→gm
open PySem renaming Addr→Qu,Arguments→Qw,BindsTo→Qx,CmpOp→qA,DictEntry→qB,Drawn→qD,ElemsOf→qE,Env→qF,FuncData→qG,GenState→qH,IsPart→qJ,IsTupleKey→qL,ItemsOf→qM,Keyword→qN,NameKind→qO,Paired→qP,PlainAttrs→qQ,Program→qR,Sem→qS,SetTable→qU,Shared→qV,Str→qW,assignEach→qZ,behindInMarks→qd,bootBuiltins→qf,builtinLookup_eq_fast→qg,callType_codes→qh,call_meets→qj,call_meetsIn→qp,call_reversed_list→qq,check_set_init_1→qu,codeAny_builtin→qv,codeAny_call_builtin→qw,codeAny_call_function→qx,codeAny_compStart_list→qy,codeAny_extend_loopS→qz,codeAny_mono→WA,codeAny_of_tree→WB,compareOp→WC,entryFor_alias→WD,entryFor_of_tree→WE,fits_of_scanBound→WG,intKind_is→WH,isSubtype_stop→WI,isSubtype_type→WJ,kt_code_dict_new→WK,mainGlobals→WM,pastItsLine_dict→WN,plainId_quiet→WO,plainObj_wpAny_Assign_Attribute→WQ,putSet_of→WR,seqIndex_of→WS,sizeLine_eq→WT,starEach→WU,swapsWith→WW,sysModules→WX,tupleKind→WZ,tupleKind_room_in1→Wa,typeLookup_type→Wb,weight_type_call_type→Wc,wpAny_Call_Name_kw→Wd,wpAny_Call_method→We,wpAny_Name→Wf,wpAny_askSetting→Wg,wpAny_assign_Name→Wh,wpAny_attempt→Wi,wpAny_bind→Wj,wpAny_call→Wk,wpAny_callSpecial?_slot→Wl,wpAny_call_entry→Wm,wpAny_comprehension_free→Wn,wpAny_dictEntries→Wo,wpAny_dictEpoch→Wq,wpAny_dictSet_heap→Wr,wpAny_entryPlaceOf→Ws,wpAny_eqBool_tuple→Wt,wpAny_eqIsQuiet_tuple→Wu,wpAny_execs_cons→Wv,wpAny_execs_nil→Ww,wpAny_field→Wx,wpAny_fieldsOf→Wy,wpAny_forIn_list→Wz,wpAny_frameOf_fun→YA,wpAny_handled→YB,wpAny_holding→YC,wpAny_isInstance→YD,wpAny_isOneOf_keyiter→YE,wpAny_isSame_ref_self→YF,wpAny_isSubtype_exc→YG,wpAny_isTrue_Compare1→YH,wpAny_ite_split→YI,wpAny_letGo→YJ,wpAny_letOwnedTupleGo_enum→YK,wpAny_load→YL,wpAny_loadPart→YM,wpAny_loadPart_at→YN,wpAny_lookBehind→YO,wpAny_mono→YQ,wpAny_newFunctionEnv→YR,wpAny_newFunctionEnv_cells→YS,wpAny_newObj_type→YT,wpAny_notOrdered_dict→YU,wpAny_of_eq→YV,wpAny_passesOwn→YW,wpAny_pure→YX,wpAny_pyIter_enum→YY,wpAny_pyIter_list→YZ,wpAny_pyIter_revIter→Ya,wpAny_pyIter_slot→Yb,wpAny_pyIter_tuple→Yc,wpAny_pyNext_enum_itemD→Yd,wpAny_pyNext_list_end→Ye,wpAny_pyNext_list_item→Yf,wpAny_rule→Yg,wpAny_runValue→Yh,wpAny_seqItems→Yi,wpAny_sequenceKey→Yj,wpAny_setField→Yk,wpAny_setState_of→Yl,wpAny_specialOf→Ym,wpAny_standAt→Yn,wpAny_storeSet_of→Yo,wpAny_throw→Yp,wpAny_truthy_bool→Yq,wpAny_typeNameOfWhole_keyiter→Yr,wpAny_typeNameOf_keyiter→Ys,wpAny_typeOf→Yt,wpAny_updateSeq→Yu
open PyProof.Rows renaming AllBare→Qv,Call_→Qz,IntsAre→qI,IsTup→qK,Subscript_→qX,args_tuple_getitem→qY,subscriptTail_builtinR→WV,tupleItemsOf_→WY
open PySem.W renaming looks_mroIn→WL
open PySem.Heap renaming get?_push_of_some→jA,get?_push_size→jH,lt_size→jI,get?_update_self→jg,get?_update_other→jo,size_push→jx,get?_none_of_le→zv,get?_push_cases→ZC,get?_update_ne→QD
open Int renaming toNat_natCast→jB,toNat_of_nonneg→jm,zero_add→Jo,emod_lt_of_pos→Ju,emod_nonneg→zD,le_of_lt→zK,mul_le_mul→zM,le_trans→ZF,le_refl→ZL,fdiv_eq_ediv_of_nonneg→ZQ,add_mul_emod_self_left→ZS,mul_nonneg→Zs,ediv_lt_of_lt_mul→Zt,emod_add_mul_ediv→Zu,add_assoc→QB,mul_assoc→QC,mul_comm→QL,lt_of_le_of_lt→QM,add_zero→QN,emod_eq_of_lt→QP,mul_add→QS,ediv_nonneg→Qc,ediv_one→Qh,pow_succ→Qm,mul_zero→Qp,mul_one→Qq
open List renaming getElem?_eq_getElem→jC,map_append→jD,mem_cons_self→jE,getElem_mem→jG,mem_singleton→jJ,mem_cons_of_mem→jK,length_append→jL,mem_map→jN,range→jO,size_toArray→jP,getD_eq_getElem?_getD→jQ,mem_append_right→jR,mem_cons→jS,length_range→jT,getElem?_map→jV,take_add_one→jW,length_take→jX,take_length→jY,length_map→jZ,getElem?_eq_some_iff→jb,length_cons→jc,getElem_of_mem→jk,mem_range→jq,length_singleton→js,idxOf_lt_length_of_mem→jt,append_assoc→jv,drop_eq_getElem_cons→jy,mem_append_left→jz,append_nil→JA,getElem?_append_left→JB,getElem_map→JC,mem_filter→JD,nodup_cons→JE,mem_iff_getElem?→JH,lookup_cons→JI,map_cons→JJ,range_succ→JK,getElem?_append_right→JM,filter_cons_of_neg→JN,map_map→JO,not_mem_nil→JP,foldl_append→JQ,filter_cons_of_pos→JR,getElem_inj→JT,nodup_append→JU,getElem_range→JV,filter_append→JW,filterMap_cons→JY,foldl_cons→JZ,length_replicate→Ja,getElem?_eq_none→Jb,replicate→Jf,lookup→Jh,ext_getElem→Jj,length_filter_le→Jk,getElem_idxOf→Jl,length_nil→Jn,drop_eq_nil_iff→Jq,getElem?_set_self→Jr,pairwise_map→Jv,getElem?_set_ne→Jw,nodup_nil→Jx,set_set→Jz,drop_length→zA,mem_append→zB,find?_cons→zC,length→zE,take_of_length_le→zF,length_pos_of_mem→zH,take_append_drop→zL,mem_of_getElem?→zP,all_eq_true→zQ,any_eq_true→zR,mem_reverse→zS,reverse_reverse→zT,any_cons→zU,length_eraseIdx_of_lt→zW,map_congr_left→zX,filterMap_map→zY,length_erase_of_mem→zg,getLast?_cons_cons→zk,getElem_take→zo,idxOf_append→zp,of_mem_zip→zy,length_set→ZA,mem_erase_of_ne→ZE,mem_of_mem_take→ZH,length_reverse→ZI,dropLast_concat_getLast→ZJ,take_zero→ZK,mem_filterMap→ZM,getD→ZO,zipIdx_append→ZP,exists_cons_of_ne_nil→ZR,take_sublist→ZT,reverse_cons→ZV,filter_congr→ZX,flatMap_cons→ZY,getElem?_eq_none_iff→ZZ,length_drop→Za,map_nil→Zb,filterMap_cons_none→Zd,filterMap_cons_some→Ze,cons_append→Zf,eq_of_mem_replicate→Zh,mem_flatMap→Zi,getElem?_replicate→Zk,length_eq_zero_iff→Zl,filter_nil→Zn,nil_append→Zo,pairwise_lt_range→Zp,drop_eq_nil_of_le→Zq,getElem?_toArray→Zr,length_dropLast→Zw,dropLast_concat→Zz,all_cons→QA,filter_eq_self→QE,getElem?_range→QF,reverse_append→QG,length_zipIdx→QK,ext_getElem?→QO,map_id→QR,filter_cons→QU,nodup_range→QV,map_reverse→QY,forIn_cons→QZ,idxOf_cons→Qb,drop_zero→Qf,all_map→Qi,reverse→Qo,drop→Qt
open Nat renaming le_refl→jF,ne_of_lt→jM,zero_le→je,lt_of_lt_of_le→jh,le_trans→ji,le_succ→JF,lt_succ_self→JL,ne_of_gt→JX,lt_or_ge→Jd,zero_add→Je,lt_succ_of_lt→Jg,lt_irrefl→Ji,not_lt_zero→Jp,le_of_lt→Js,lt_trans→Jt,le_of_lt_succ→zI,sub_self→zN,eq_zero_or_pos→zZ,succ_pos→zb,mod_lt→zh,le_of_eq→zx,pow_succ→ZD,pow_le_pow_right→ZG,lt_of_le_of_lt→ZN,le_of_not_lt→Zc,add_comm→Zg,lt_succ_iff_lt_or_eq→Zj,add_sub_cancel→QJ,le_add_right→QW,succ_le_succ→QX,add_zero→Qj,zero_div→Qk,sub_zero→Ql,log2_lt→Qr
open Array renaming length_toList→jU,getElem?_eq_getElem→ju,getElem?_toList→JG,getElem?_eq_some_iff→JS,getD_eq_getD_getElem?→zO,getElem?_setIfInBounds_self_of_lt→zV,getElem?_eq_none→zq,getElem?_setIfInBounds_ne→zu,toList_push→ZW,replicate→Zm,mem_toList_iff→Zv,toArray_toList→Zx,toList_extract→Zy,find?_toList→QH,forIn_toList→QI,getD→Qa,toList→Qg
open Bool renaming false_ne_true→jd,false_eq_true→jf,and_eq_true→Jc,and_false→zJ,not_true→zt,eq_iff_iff→zw,false_and→Qe
open Option renaming isSome_iff_exists→Jm,getD_some→Jy,map_eq_some_iff→zG,bind_eq_some_iff→zj,isSome_map→ZU,none→QQ,getD_none→QT,map→Qs
local macro_rules|`(tactic|exists $es,*)=>`(tactic|refine ⟨$es,*, ?_⟩)
set_option Elab.async false
set_option linter.all false
namespace L2
variable{t0 t1 t2 t3 t4 t5 t6 t7 t8 t9 t10 t11:Type}
inductive E2 (p:t0->t1->Prop):Prop
 | mk (x0:t0) (x1:t1) (h:p x0 x1):E2 p
inductive E3 (p:t0->t1->t2->Prop):Prop
 | mk (x0:t0) (x1:t1) (x2:t2) (h:p x0 x1 x2):E3 p
inductive E4 (p:t0->t1->t2->t3->Prop):Prop
 | mk (x0:t0) (x1:t1) (x2:t2) (x3:t3) (h:p x0 x1 x2 x3):E4 p
inductive E5 (p:t0->t1->t2->t3->t4->Prop):Prop
 | mk (x0:t0) (x1:t1) (x2:t2) (x3:t3) (x4:t4) (h:p x0 x1 x2 x3 x4):E5 p
inductive E6 (p:t0->t1->t2->t3->t4->t5->Prop):Prop
 | mk (x0:t0) (x1:t1) (x2:t2) (x3:t3) (x4:t4) (x5:t5) (h:p x0 x1 x2 x3 x4 x5):E6 p
inductive E7 (p:t0->t1->t2->t3->t4->t5->t6->Prop):Prop
 | mk (x0:t0) (x1:t1) (x2:t2) (x3:t3) (x4:t4) (x5:t5) (x6:t6) (h:p x0 x1 x2 x3 x4 x5 x6):E7 p
inductive E8 (p:t0->t1->t2->t3->t4->t5->t6->t7->Prop):Prop
 | mk (x0:t0) (x1:t1) (x2:t2) (x3:t3) (x4:t4) (x5:t5) (x6:t6) (x7:t7) (h:p x0 x1 x2 x3 x4 x5 x6 x7):E8 p
inductive E9 (p:t0->t1->t2->t3->t4->t5->t6->t7->t8->Prop):Prop
 | mk (x0:t0) (x1:t1) (x2:t2) (x3:t3) (x4:t4) (x5:t5) (x6:t6) (x7:t7) (x8:t8) (h:p x0 x1 x2 x3 x4 x5 x6 x7 x8):E9 p
inductive E10 (p:t0->t1->t2->t3->t4->t5->t6->t7->t8->t9->Prop):Prop
 | mk (x0:t0) (x1:t1) (x2:t2) (x3:t3) (x4:t4) (x5:t5) (x6:t6) (x7:t7) (x8:t8) (x9:t9) (h:p x0 x1 x2 x3 x4 x5 x6 x7 x8 x9):E10 p
inductive E11 (p:t0->t1->t2->t3->t4->t5->t6->t7->t8->t9->t10->Prop):Prop
 | mk (x0:t0) (x1:t1) (x2:t2) (x3:t3) (x4:t4) (x5:t5) (x6:t6) (x7:t7) (x8:t8) (x9:t9) (Im:t10) (h:p x0 x1 x2 x3 x4 x5 x6 x7 x8 x9 Im):E11 p
inductive E12 (p:t0->t1->t2->t3->t4->t5->t6->t7->t8->t9->t10->t11->Prop):Prop
 | mk (x0:t0) (x1:t1) (x2:t2) (x3:t3) (x4:t4) (x5:t5) (x6:t6) (x7:t7) (x8:t8) (x9:t9) (Im:t10) (S0:t11) (h:p x0 x1 x2 x3 x4 x5 x6 x7 x8 x9 Im S0):E12 p
inductive E14 {t12 t13:Type} (p:t0->t1->t2->t3->t4->t5->t6->t7->t8->t9->t10->t11->t12->t13->Prop):Prop
 | mk (x0:t0) (x1:t1) (x2:t2) (x3:t3) (x4:t4) (x5:t5) (x6:t6) (x7:t7) (x8:t8) (x9:t9) (Im:t10) (S0:t11) (x12:t12) (x13:t13) (h:p x0 x1 x2 x3 x4 x5 x6 x7 x8 x9 Im S0 x12 x13):E14 p
inductive E17 {t12 t13 t14 t15 t16:Type} (p:t0->t1->t2->t3->t4->t5->t6->t7->t8->t9->t10->t11->t12->t13->t14->t15->t16->Prop):Prop
 | mk (x0:t0) (x1:t1) (x2:t2) (x3:t3) (x4:t4) (x5:t5) (x6:t6) (x7:t7) (x8:t8) (x9:t9) (Im:t10) (S0:t11) (x12:t12) (x13:t13) (x14:t14) (x15:t15) (x16:t16) (h:p x0 x1 x2 x3 x4 x5 x6 x7 x8 x9 Im S0 x12 x13 x14 x15 x16):E17 p
inductive A3 (p0 p1 p2:Prop):Prop
 | mk (_:p0) (_:p1) (_:p2):A3 p0 p1 p2
inductive A4 (p0 p1 p2 p3:Prop):Prop
 | mk (_:p0) (_:p1) (_:p2) (_:p3):A4 p0 p1 p2 p3
inductive A5 (p0 p1 p2 p3 p4:Prop):Prop
 | mk (_:p0) (_:p1) (_:p2) (_:p3) (_:p4):A5 p0 p1 p2 p3 p4
inductive A6 (p0 p1 p2 p3 p4 p5:Prop):Prop
 | mk (_:p0) (_:p1) (_:p2) (_:p3) (_:p4) (_:p5):A6 p0 p1 p2 p3 p4 p5
inductive A7 (p0 p1 p2 p3 p4 p5 p6:Prop):Prop
 | mk (_:p0) (_:p1) (_:p2) (_:p3) (_:p4) (_:p5) (_:p6):A7 p0 p1 p2 p3 p4 p5 p6
inductive A8 (p0 p1 p2 p3 p4 p5 p6 p7:Prop):Prop
 | mk (_:p0) (_:p1) (_:p2) (_:p3) (_:p4) (_:p5) (_:p6) (_:p7):A8 p0 p1 p2 p3 p4 p5 p6 p7
inductive A9 (p0 p1 p2 p3 p4 p5 p6 p7 p8:Prop):Prop
 | mk (_:p0) (_:p1) (_:p2) (_:p3) (_:p4) (_:p5) (_:p6) (_:p7) (_:p8):A9 p0 p1 p2 p3 p4 p5 p6 p7 p8
inductive A10 (p0 p1 p2 p3 p4 p5 p6 p7 p8 p9:Prop):Prop
 | mk (_:p0) (_:p1) (_:p2) (_:p3) (_:p4) (_:p5) (_:p6) (_:p7) (_:p8) (_:p9):A10 p0 p1 p2 p3 p4 p5 p6 p7 p8 p9
inductive A11 (p0 p1 p2 p3 p4 p5 p6 p7 p8 p9 P5:Prop):Prop
 | mk (_:p0) (_:p1) (_:p2) (_:p3) (_:p4) (_:p5) (_:p6) (_:p7) (_:p8) (_:p9) (_:P5):A11 p0 p1 p2 p3 p4 p5 p6 p7 p8 p9 P5
inductive A12 (p0 p1 p2 p3 p4 p5 p6 p7 p8 p9 P5 p11:Prop):Prop
 | mk (_:p0) (_:p1) (_:p2) (_:p3) (_:p4) (_:p5) (_:p6) (_:p7) (_:p8) (_:p9) (_:P5) (_:p11):A12 p0 p1 p2 p3 p4 p5 p6 p7 p8 p9 P5 p11
inductive A13 (p0 p1 p2 p3 p4 p5 p6 p7 p8 p9 P5 p11 p12:Prop):Prop
 | mk (_:p0) (_:p1) (_:p2) (_:p3) (_:p4) (_:p5) (_:p6) (_:p7) (_:p8) (_:p9) (_:P5) (_:p11) (_:p12):A13 p0 p1 p2 p3 p4 p5 p6 p7 p8 p9 P5 p11 p12
inductive A15 (p0 p1 p2 p3 p4 p5 p6 p7 p8 p9 P5 p11 p12 p13 p14:Prop):Prop
 | mk (_:p0) (_:p1) (_:p2) (_:p3) (_:p4) (_:p5) (_:p6) (_:p7) (_:p8) (_:p9) (_:P5) (_:p11) (_:p12) (_:p13) (_:p14):A15 p0 p1 p2 p3 p4 p5 p6 p7 p8 p9 P5 p11 p12 p13 p14
inductive A16 (p0 p1 p2 p3 p4 p5 p6 p7 p8 p9 P5 p11 p12 p13 p14 p15:Prop):Prop
 | mk (_:p0) (_:p1) (_:p2) (_:p3) (_:p4) (_:p5) (_:p6) (_:p7) (_:p8) (_:p9) (_:P5) (_:p11) (_:p12) (_:p13) (_:p14) (_:p15):A16 p0 p1 p2 p3 p4 p5 p6 p7 p8 p9 P5 p11 p12 p13 p14 p15
end L2
def acW:Nat->Lean.Syntax->List Lean.Syntax
 | 0,b=>[b]
 | n+1,b=>if b.getKind==.mkSimple "term_\u2227_" || b.getKind==.mkSimple "term_/\\_" then b[0] :: acW n b[2]else [b]
def agS(k:Lean.Syntax):List (Lean.Syntax×Lean.Syntax):=
 if k.getKind==`Lean.unbracketedExplicitBinders then k[0].getArgs.toList.map fun i=>(i,k[1][1])
 else k.getArgs.toList.flatMap fun b=>b[1].getArgs.toList.map fun i=>(i,b[3])
open Lean in
local macro_rules
 | `(∃ $xs:explicitBinders,$b) => do
  let bs:=agS xs.raw[0]
  let cs:=acW 99 b
  if bs.length<=1&&cs.length<=2 then Macro.throwUnsupported
  let mut r <- if cs.length<=2 then pure b else do
   let as:Array Term:=cs.toArray.map fun c=>⟨c⟩
   `($(mkIdent (`L2 ++ Name.mkSimple s!"A{cs.length}")) $as*)
  for (i,t) in bs.reverse do
   let i:Term:=⟨i[0]⟩
   let t:Term:=⟨t⟩
   r <- if t.raw.isMissing then `(fun $i => $r)else `(fun($i : $t) => $r)
  if bs.length == 1 then `(Exists $r)else `($(mkIdent (`L2 ++ Name.mkSimple s!"E{bs.length}")) $r)
local macro_rules|`(tactic| omega)=>`(tactic| first|lia|omega (splitNatSub:=true))
set_option maxRecDepth 100000
set_option hygiene false in
local macro_rules
|`(tactic|exists 0)=>`(tactic|intro X hP hw hK hc i pins s σ H E I hf st hg)
|`(tactic|exists 1)=>`(tactic|refine dW (K:=K) (xs:=qs.map V.int) (fun i σ' H'=>∃ (as:List Qu) (v:OV),σ'=[some (.ref m),some (.ref kl),some (.ref D),some (.ref r),some (.ref g),some (.ref L),v]/\aB H H'/\H' L=some (.lst (as.map V.ref))/\aJ H' as (cc rows ρ (qs.take i))) ⟨[],none,rfl,sL,ae,.nil⟩ (fun i σ' H' _ ⟨_,_,_,e,_,_⟩=>bZ (e _ _ hkl)) ?_ ?_)
|`(tactic|exists 2)=>`(tactic|obtain⟨f0,f1,f2,f3,f4,f5⟩:=hf it (by simp))
|`(tactic|exists 3)=>`(tactic|refine⟨fun i m σ' H'=>m=xs.length-i/\i<=xs.length/\(σ'=aX ix σ\/∃ t,σ'=(aX ix σ).set 0 t)/\∃ ys,H' D=some (.lst ys)/\Pv D i ys H',⟨xs.length,by simp,je _,.inl rfl,[],ae,h0 D hD⟩,?_⟩)
|`(tactic|exists 4)=>`(tactic|have I1:Inv X pins σ H { s with heap:=h' }:=I.turned (t' := s.toks) (fun b o hb e=>(sb.2 b hb).trans e) f0 f1 f3 f4 f5)
|`(tactic|exists 5)=>`(tactic|intro pins s σ H Q I h)
|`(tactic|exists 6)=>`(tactic|refine .inr ⟨⟨xs,xs[i],q,by simp[cT]⟩,Pv (i+1),fun σ' H' p'=>⟨xs.length-(i+1),by omega,rfl,cT,p'⟩,fun x H' y=>?_⟩)
|`(tactic|exists 7)=>`(tactic|refine eO (t:=Ec _ _ _) (fun σ' H'=>∃ (as:List Qu) (v:OV),σ'=[some (.ref m),some (.ref kl),some (.ref D),some (.ref r),some (.ref g),some (.ref L),v]/\aB H H'/\H' L=some (.lst (as.map V.ref))/\aJ H' as (cc rows ρ qs)) ?_ (fun D' dU=>?_))
|`(tactic|exists 8)=>`(tactic|refine bP (bE (X:=cF X N scope fp s H H2.objs.size) _ s7 σ6 H7 (.ref s.heap.objs.size) [y] (.ref s.heap.objs.size) [yv] (fun _ H8=>W (i+1) m' σ6 H8) I7 rfl (.cons r7 .nil) ⟨_,ys,y,rfl,rfl,TZ,hz7,w7⟩) fun _ s8 ⟨_,H8,I8,_,w8⟩=>?_)
|`(tactic|exists 9)=>`(tactic|refine⟨fun i m σ H=>m=xs.length-i/\i<=xs.length/\Pv i σ H,⟨xs.length,by simp,je _,h0⟩,?_⟩)
|`(tactic|exists 10)=>`(tactic|refine rX (K:=K) (xs:=(rows.getD z.toNat []).map V.int) (fun D j ys H'=>aB H3 H'/\ys=(((rows.getD z.toNat []).take j).map ρ).map V.int) (fun D hD=>⟨ak hD _,rfl⟩) (fun D j ys H' _ ⟨e,_⟩=>cj (e _ _ (s3 _ _ e2))) ?_ ?_)
|`(tactic|exists 11)=>`(tactic|refine eA (K:=K) (xs:=qs.map V.int) (fun D j ys H'=>aB (upd H1 rt (HO.tup (as.map V.ref))) H'/\ys=(cn signs (qs.take j)).map V.int) (fun D hD=>⟨ak hD _,rfl⟩) (fun D j ys H' _ ⟨e,_⟩=>bZ (e _ _ (Ta _ _ hkl))) ?_ ?_)
|`(tactic|exists 12)=>`(tactic|(refine⟨_,rfl,_,_,rfl,rfl,.inr ⟨by decide,by decide⟩,_,rfl,_,rfl,_,_,rfl,rfl,.inl hk,_,_,rfl,rfl,.inr ⟨by decide,by decide⟩,_,_,rfl,rfl,_,_,rfl,rfl,_,_,rfl,rfl,(by show(0:Int)<2147483647;decide),?_⟩))
|`(tactic|exists 13)=>`(tactic|refine⟨fun i m σ' H'=>m=kvs.length-i/\i<=kvs.length/\(σ'=aX ix σ\/∃ t,σ'=(aX ix σ).set 0 t)/\∃ ys,H' D=some (.lst ys)/\Pv D i ys H',⟨kvs.length,by simp,je _,.inl rfl,[],ae,h0 D hD⟩,?_⟩)
|`(tactic|exists 14)=>`(tactic|refine I.un (t' := s.toks) ⟨fun b u q _ _ _=>q,fun b u q _ _ _=>⟨u.slots,q⟩,fun b u q n _=>?_,fun b u q _=>⟨u,q⟩,fun b xs q=>?_,fun b u xs q=>?_,fun b ps q=>⟨#[],?_⟩⟩ (fun b u q=>?_))
|`(tactic|exists 15)=>`(tactic|intro pins s σ H xs us Q I r h)
|`(tactic|exists 16)=>`(tactic|try dsimp only[bB,dG,List.set])
|`(tactic|exists 17)=>`(tactic|repeat (any_goals (first|assumption|wp_step)))
|`(tactic|exists 18)=>`(tactic|refine bP (hl pins s σ H _ I h) fun v s1 ⟨x,H1,I1,r1,q1⟩=>?_)
|`(tactic|exists 19)=>`(tactic|obtain⟨oc,od,kV,doc,pm,an,cA,ct,FF,rfl,lk,Hu⟩:=F.ex)
|`(tactic|exists 20)=>`(tactic|intro pins s σ H x y v u Q I rx ry h)
|`(tactic|exists 21)=>`(tactic|(exact⟨o,e,fun v z=>by rw[d]at z;cases z⟩))
|`(tactic|exists 22)=>`(tactic|obtain⟨u,rfl,rx⟩:=vals1 r)
|`(tactic|exists 23)=>`(tactic|have hlen:kvs.length=vs.length:=Paired.length rel)
|`(tactic|exists 24)=>`(tactic|rintro i m σ' H' ⟨rfl,hi,hσ,ys,hy,p⟩)
|`(tactic|exists 25)=>`(tactic|rcases g with⟨kvs,k,e,ey,l⟩|⟨kvs,k,b,e,ey,eb,l⟩)
|`(tactic|exists 26)=>`(tactic|have e:b=s1.heap.objs.size:=by simpa using hb)
|`(tactic|exists 27)=>`(tactic|intro pins s σ H D I h)
|`(tactic|exists 28)=>`(tactic|intro pins s σ H x vs v us Q I rx rv h)
set_option hygiene false in
local macro_rules
|`(#[0])=>`(by omega)
|`(#[1])=>`(by intro z;cases z)
|`(#[2])=>`(fun cA A outer s H vs Q E hr h=>?_)
|`(#[3])=>`(by decide +kernel)
|`(#[4])=>`(model X.prog X.w)
|`(#[5])=>`(fun _ _=>rfl)
|`(#[6])=>`(model prog w)
|`(#[7])=>`(fun vs H Q E h=>?_)
|`(#[8])=>`(by decide)
|`(#[9])=>`((∀ y H4,H4 D=some (.lst ys)->ys.length<sizeLine->Pv D (i+1) (ys++[y]) (upd H4 D (.lst (ys++[y])))->Q' y H4))
|`(#[10])=>`(k==NameKind.free&&env.scope.kind==.function&&env.kindOf n==some .cell)
|`(#[11])=>`(by simp)
|`(#[12])=>`(qs.map fun q=>(rows.getD q.toNat []).map (oC qs))
|`(#[13])=>`(.ref s.heap.objs.size)
|`(#[14])=>`(ns.map V.int)
|`(#[15])=>`(by show 0<=sizeLine;decide)
|`(#[16])=>`(envOfC qual scope s.heap.objs.size f cd)
|`(#[17])=>`(aN aO (pv 0) aq #[5])
|`(#[18])=>`((∀ σ' H',N σ' H'->∃ m',m'<m/\W (i+1) m' σ' H'))
|`(#[19])=>`(x==("__debug__" : qW))
|`(#[20])=>`(Yx lo hi st items.size)
|`(#[21])=>`((false,eval e X.env))
|`(#[22])=>`(((eR items.size 0 lo:Nat):Int)==0&&(1:Int)==1&&(eR items.size items.size hi-eR items.size 0 lo)==items.size)
|`(#[23])=>`(s.heap.objs.size+1)
|`(#[24])=>`([head,.ref L,.none,rawInt L,.none]++(if place.isEmpty then Jf 6 yC else place))
|`(#[25])=>`((·.setIfInBounds 1 (Yw g1.objs.size)))
|`(#[26])=>`(s.heap.push { cls:=.type "tuple_iterator",data:=.fields #[.ref l,.int 0 0] })
|`(#[27])=>`(.Call (.Name x p) (e :: es) [] pos)
|`(#[28])=>`(s.heap.push { cls:=.type "dict",data:=.dict #[] })
|`(#[29])=>`(backTo pos (WU es X.env))
|`(#[30])=>`(.ref C)
|`(#[31])=>`(model P w)
|`(#[32])=>`(.builtin "object.__class__")
|`(#[33])=>`(cF X N scope fp s H H2.objs.size)
|`(#[34])=>`(Obj.mapFields (·.setIfInBounds 1 (rawInt ((i:Int)+1))))
|`(#[35])=>`(aA aI (by rfl) bh bW (aa (pv 0) af))
|`(#[36])=>`(by rw[bb];omega)
|`(#[37])=>`((·.setIfInBounds 3 ((none:Option Qu).elim yC fun f=>rawInt f)))
|`(#[38])=>`(.builtin "getset_descriptor.__get__")
|`(#[39])=>`(s1.heap.push (revObj l ((aV.toArray.size:Int)-1)))
set_option hygiene false in
local macro_rules
|`(#[40])=>`(cF X N scope fp s H C)
|`(#[41])=>`(by rfl)
|`(#[42])=>`(.tup xs)
|`(#[43])=>`(by show 3<=sizeLine;decide)
|`(#[44])=>`(.ListComp elt [⟨tg,iter,[],0⟩] scope pos)
|`(#[45])=>`(h1.push { cls:=.type "list_iterator",data:=.fields #[.ref l,.int 0 0] })
|`(#[46])=>`(fun c=>?_)
|`(#[47])=>`((∀ b o,b<s.heap.objs.size->s.heap.get? b=some o->h'.get? b=some o))
|`(#[48])=>`(ao (aL (fh (aa #[17] (aa (aW aP #[41] aK bH (aa (pv 5) af)) (aa (aW aP #[41] aK bH (aa (cM rfl eW (cC (pv 1)) (fun _ _ _ _=>(aS (i:=0) eW.nd)) (fun _ _ _ _=>(aN (mZ K) (pv 1) (pv 0) #[5]))) af)) af))))))
|`(#[49])=>`(if t=(m:Int)then aR (m+1) r else if t<(m:Int)then aR m r else none)
|`(#[50])=>`(cS.map V.ref)
|`(#[51])=>`(bR I q #[11])
|`(#[52])=>`(bP (ho pins s σ H _ I h) fun u s1 ⟨x,H1,I1,rx,a,ex,d,q1⟩=>?_)
|`(#[53])=>`(upd H s.heap.objs.size (.tup [.int i,x]))
|`(#[54])=>`(s1.heap.push { cls:=.type "range",data:=.fields #[.int 0 s1.toks,.int n t,.int 1 (s1.toks+1)] })
|`(#[55])=>`((items.toList.drop (eR items.size 0 lo)).take (eR items.size items.size hi-eR items.size 0 lo))
|`(#[56])=>`(I.hok.fresh (jF _))
|`(#[57])=>`(bP (hi pins s σ H _ I h) fun v s1 h1=>bP h1 fun itv s2 h2=>?_)
|`(#[58])=>`(Qu×Obj)
|`(#[59])=>`(EP X pins σ Q)
|`(#[60])=>`((".0",.local))
|`(#[61])=>`((∀ b o,s.heap.get? b=some o->h'.get? b=some o))
|`(#[62])=>`(pickOrder (w.params.setOrder S ep) es)
|`(#[63])=>`(he pins s σ H _ I h)
set_option maxRecDepth 100000
namespace L2
open PySem PySem.Spec PyProof.Rows
variable{us aV ds:List Value}{x f name m qual:qW}{u cd:Value}{κ α:Type}{a b it dx C:Qu}{P prog:qR}{w:World}{h h' base:Heap}{e c tg l iter:Expr}{ob:Obj}{pins adi pl:List (Qu×Obj)}{s s':qV}{t' i j n tk:Nat}{ch fp:List Qu}{N ns ps:List qW}{A:Around}{E Q:Value→qV→Prop}{pos pos' p apos:Pos}{K:Yv}{st body:List Stmt}{es:List Expr}{lo:Int}{mA mg:qW→Option Value}{expr:Bool}{R:Result→qV→Prop}{env:qF}{outer:List qF}{fd:qG}{sc scope:Scope}{params:Qw}{an od:Option Qu}{FF:Array (Option Value)}
abbrev Key:=Sum Int qW
def BO:Key->Value->Bool
 | .inl k,v=>gC k v
 | .inr x,v=>GN x v
def alW(w:World):Key->Int
 | .inl k=>hashInt k
 | .inr x=>hashStr w x
theorem cB:∀ {k:Key} {v:Value},BO k v=true->(∃ i t,k=Sum.inl i/\v=yI i t)\/(∃ x t,k=Sum.inr x/\v=XM x t)
 | .inl i,v,h=>by
  obtain⟨t,e⟩:=xZ (k:=i) (v:=v) h
  exact .inl ⟨i,t,rfl,e⟩
 | .inr x,v,h=>by
  obtain⟨t,e⟩:=Value.isStrOf_shape (x:=x) (v:=v) h
  exact .inr ⟨x,t,rfl,e⟩
theorem R9(i:Int)(t:Tok):BO (.inl i) (.int i t)=true:=by simp[BO,gC]
theorem Sa(x:qW)(t:Tok):BO (.inr x) (.str x t)=true:=by simp[BO,GN]
theorem aeK(a b:Int):decide ((Sum.inl a:Key)=Sum.inl b)=(a==b):=by
 by_cases e:a=b
 ·subst e;simp
 ·have h:¬ (Sum.inl a:Key)=Sum.inl b:=fun q=>e (Sum.inl.inj q)
  rw[decide_eq_false h]
  exact(beq_eq_false_iff_ne.mpr e).symm
theorem aeN(a b:qW):decide ((Sum.inr a:Key)=Sum.inr b)=decide (a=b):=by
 by_cases e:a=b
 ·subst e;simp
 ·have h:¬ (Sum.inr a:Key)=Sum.inr b:=fun q=>e (Sum.inr.inj q)
  rw[decide_eq_false h,decide_eq_false e]
theorem aeL(a:Int)(b:qW):decide ((Sum.inl a:Key)=Sum.inr b)=false:=decide_eq_false (fun q=>nomatch q)
theorem aeM(a:qW)(b:Int):decide ((Sum.inr a:Key)=Sum.inl b)=false:=decide_eq_false (fun q=>nomatch q)
def bq(prog:qR)(w:World):PySem.KeyKind prog w Key where
 is:=BO
 hash:=alW w
 inj:=fun v a b ha hb=>by
  rcases cB ha with⟨i,t,rfl,rfl⟩|⟨x,t,rfl,rfl⟩
  ·rcases cB hb with⟨j,u,rfl,e⟩|⟨y,u,rfl,e⟩
   ·injection e with e1 _;rw[e1]
   ·exact nomatch e
  ·rcases cB hb with⟨j,u,rfl,e⟩|⟨y,u,rfl,e⟩
   ·exact nomatch e
   ·injection e with e1 _;rw[e1]
 byValue:=fun k v h=>by
  rcases cB h with⟨i,t,rfl,rfl⟩|⟨x,t,rfl,rfl⟩<;>rfl
 pyHash:=fun hv h=>by
  rcases cB hv with⟨i,t,rfl,rfl⟩|⟨x,t,rfl,rfl⟩
  ·exact wpAny_pyHash_int h
  ·exact wpAny_pyHash_str h
 eqBool:=fun hu hv h=>by
  rcases cB hu with⟨i,t,rfl,rfl⟩|⟨x,t,rfl,rfl⟩
  ·rcases cB hv with⟨j,u,rfl,rfl⟩|⟨y,u,rfl,rfl⟩
   ·rw[aeK]at h;exact wpAny_eqBool_int h
   ·rw[aeL]at h;exact xP i t y u _ _ _ _ h
  ·rcases cB hv with⟨j,u,rfl,rfl⟩|⟨y,u,rfl,rfl⟩
   ·rw[aeM]at h;exact xQ x t j u _ _ _ _ h
   ·rw[aeN]at h;exact wpAny_eqBool_str h
 «strs» := fun k x t v h=>by
  rcases cB h with⟨i,u,rfl,e⟩|⟨y,u,rfl,e⟩
  ·exact nomatch e
  ·injection e with e1 _
   subst e1
   cases v<;>rfl
theorem Lj(prog:qR)(w:World)(i:Int)(t:Tok):(bq prog w).is (.inl i) (.int i t)=true:=R9 i t
theorem Lk(prog:qR)(w:World)(x:qW)(t:Tok):(bq prog w).is (.inr x) (.str x t)=true:=Sa x t
inductive V where
 | non|bl (b:Bool)|int (i:Int)|str (x:qW)|Pd (b:Array UInt8)|flt (b:UInt64)|ref (a:Qu)|ty (n:String)
 deriving DecidableEq
def RelV:V->Value->Prop
 | .non,u=>u=yC
 | .bl b,u=>u=yj b
 | .int i,u=>∃ t,u=yI i t
 | .str x,u=>∃ t,u=XM x t
 | .Pd b,u=>∃ t,u=gD b t
 | .flt b,u=>∃ t,u=xr b t
 | .ref a,u=>u=Yw a
 | .ty n,u=>u=yK n
abbrev Vals:List V->List Value->Prop:=qP RelV
theorem Vals.length{xs:List V}(r:Vals xs us):xs.length=us.length:=Paired.length r
theorem Vals.get:∀ {xs:List V} {us:List Value} {i:Nat} {x:V},Vals xs us->xs[i]?=some x->∃ u,us[i]?=some u/\RelV x u
 | _,_,_,_,.nil,e=>by simp at e
 | _,_,0,_,.cons r _,e=>by simp at e;subst e;exact⟨_,rfl,r⟩
 | _,_,i+1,x,.cons _ t,e=>by
  obtain⟨u,h1,h2⟩:=Vals.get (i:=i) (x:=x) t (by simpa using e)
  exact⟨u,by simpa using h1,h2⟩
theorem Vals.set{x:V}(r:RelV x u):∀ {xs:List V} {us:List Value} (i:Nat),Vals xs us->Vals (xs.set i x) (us.set i u)
 | _,_,_,.nil=>.nil
 | _,_,0,.cons _ t=>.cons r t
 | _,_,i+1,.cons q t=>.cons q (Vals.set r i t)
theorem Vals.append:∀ {xs ys:List V} {us ws:List Value},Vals xs us->Vals ys ws->Vals (xs++ys) (us++ws)
 | _,_,_,_,.nil,s=>s
 | _,_,_,_,.cons r t,s=>.cons r (Vals.append t s)
theorem Vals.take:∀ {xs:List V} {us:List Value} (n:Nat),Vals xs us->Vals (xs.take n) (us.take n)
 | _,_,0,_=>.nil
 | _,_,_+1,.nil=>.nil
 | _,_,n+1,.cons r t=>.cons r (Vals.take n t)
theorem Vals.drop:∀ {xs:List V} {us:List Value} (n:Nat),Vals xs us->Vals (xs.drop n) (us.drop n)
 | _,_,0,r=>r
 | _,_,_+1,.nil=>.nil
 | _,_,n+1,.cons _ t=>Vals.drop n t
theorem Vals.none_of:∀ {xs:List V} {us:List Value} {i:Nat},Vals xs us->xs[i]?=none->us[i]?=none:=fun {xs us i} r e=>by
 have h1:=r.length
 have h2:xs.length<=i:=ZZ.mp e
 exact ZZ.mpr #[0]
def ow:Option V->Option Value->Prop
 | some v,some u=>RelV v u
 | none,none=>True
 | _,_=>False
def KV:List (κ×V)->List (κ×Value)->Prop:=qP fun(p:κ×V) (q:κ×Value)=>p.1=q.1/\RelV p.2 q.2
def kV:Key->V
 | .inl i=>.int i
 | .inr x=>.str x
inductive HO where
  | lst (xs:List V)
  | tup (xs:List V)
  | dK (kvs:List (Key×V))|dT (kvs:List (List Key×V))
  | set (S:Int->Bool) (n:Nat)
  | ins (C dx:Qu) (fs:List (qW×V))
  | own (x:Qu)
  | xd (fs:List (qW×V))
  | met (f x:Qu)
  | rng (lo hi:Int)
  | pB (o:Obj) (u:HO)
  | tbl (ps:Array Value)
  | ext (φ:Heap->Prop)
abbrev Hp:=Qu->Option HO
def upd(H:Hp)(a:Qu)(o:HO):Hp:=fun b=>if b=a then some o else H b
theorem ae{H:Hp}{o:HO}:upd H a o a=some o:=by unfold upd;rw[if_pos rfl]
theorem aj{H:Hp}{o:HO}(h:b≠a):upd H a o b=H b:=by unfold upd;rw[if_neg h]
theorem Rt{H:Hp}{o u:HO}:upd (upd H a o) a u=upd H a u:=by
 funext b;unfold upd;split<;>rfl
theorem aG{H:Hp}{o u:HO}(h:H a=some o)(h':H b=some u)(d:o≠u):a≠b:=by
 intro e;subst e;rw[h]at h';exact d (Option.some.inj h')
theorem ar{H:Hp}{o:HO}(h:H a=some o)(h':H b=none):a≠b:=by
 intro e;subst e;rw[h]at h';cases h'
section
variable(P:qR)(w:World)
def bA(H:Hp)(h:Heap)(a:Qu):HO->Prop
 | .lst xs=>xs.length<=sizeLine/\∃ (aV:List Value) (n:Nat),Vals xs aV/\h.get? a=some { cls:=.type "list",data:=.seq aV.toArray n }
 | .tup xs=>xs.length<=sizeLine/\∃ aV:List Value,Vals xs aV/\qK h a aV.toArray
 | .dK kvs=>kvs.length<=sizeLine/\(a==WX)=false/\∃ vs,KV kvs vs/\h.DictOf (bq P w) a vs
 | .dT kvs=>kvs.length<=sizeLine/\(a==WX)=false/\∃ xs:List (List Key×Qu×Value),
   qP (fun(p:List Key×V) (q:List Key×Qu×Value)=>p.1=q.1/\H q.2.1=some (.tup (p.1.map kV))/\RelV p.2 q.2.2) kvs xs /\
   ∃ o es ep,h.get? a=some o/\o.ExactDict/\o.data=.dict es ep/\es.toList=xs.map (entryOfKey (WZ (bq P w)))/\(xs.map (·.1)).Nodup
 | .set S n=>h.SetOf (intKind P w) a S n
 | .ins C dx fs=>H dx=some (.own a)/\fs.length<=1000/\dx≠a/\h.get? a=some (ya C dx) /\
   ∃ mA,h.Ns1 dx mA/\(∀ f,ow (fs.lookup f) (mA f))/\xR mA (fs.map (·.1))
 | .own _=>∃ o,h.get? a=some o
 | .xd fs=>∃ mA,h.Ns1 a mA/\∀ f,ow (fs.lookup f) (mA f)
 | .rng lo hi=>∃ t u v,h.get? a=some { cls:=.type "range",data:=.fields #[.int lo t,.int hi u,.int 1 v] }
 | .pB o u=>h.get? a=some o/\bA H h a u
 | .tbl ps=>h.get? a=some { cls:=.none,data:=.fields ps }
 | .met f x=>h.get? a=some (Xi (.ref f) (.ref x))
 | .ext φ=>φ h/\(∃ o,h.get? a=some o)/\∀ h1 h2:Heap,φ h1->(∀ o,h1.get? a=some o->h2.get? a=some o)->φ h2
def ik(H:Hp)(h:Heap):Prop := ∀ a o,H a=some o->bA P w H h a o
end
section
variable{H H':Hp}{o:HO}
theorem bA.lt(x:bA P w H h a o):a<h.objs.size:=by
 cases o with
 | lst xs=>obtain⟨_,_,_,_,e⟩:=x;exact jI e
 | tup xs=>obtain⟨_,_,_,p⟩:=x;exact p.lt
 | dK kvs=>obtain⟨_,_,_,_,o,_,_,e,_⟩:=x;exact jI e
 | dT kvs=>obtain⟨_,_,_,_,o,_,_,e,_⟩:=x;exact jI e
 | set S n=>obtain⟨o,_,_,_,e,_⟩:=x;exact jI e
 | ins C dx fs=>obtain⟨_,_,_,e,_⟩:=x;exact jI e
 | own y=>obtain⟨_,e⟩:=x;exact jI e
 | xd fs=>obtain⟨_,⟨_,_,_,e,_⟩,_⟩:=x;exact jI e
 | rng lo hi=>obtain⟨_,_,_,e⟩:=x;exact jI e
 | pB ob u=>obtain⟨e,_⟩:=x;exact jI e
 | tbl ps=>exact jI (show h.get? a=some _ from x)
 | met f y=>exact jI (show h.get? a=some _ from x)
 | ext φ=>obtain⟨_,⟨_,e⟩,_⟩:=x;exact jI e
theorem Paired.Ez{β:Type}{F G:α->β->Prop}:∀ {l₁:List α} {l₂:List β},qP F l₁ l₂->(∀ a b,F a b->G a b)->qP G l₁ l₂
 | _,_,.nil,_=>.nil
 | _,_,.cons r t,f=>.cons (f _ _ r) (Paired.Ez t f)
theorem bA.AK(x:bA P w H h a o)(k:∀ b u,(b=a\/H b=some (.own a))->h.get? b=some u->h'.get? b=some u)(ho:∀ b,H b=some (.own a)->H' b=some (.own a))(ht:∀ b xs,H b=some #[42]->H' b=some #[42]):bA P w H' h' a o:=by
 induction o with
 | lst xs=>obtain⟨z,aV,n,r,e⟩:=x;exact⟨z,aV,n,r,k _ _ (.inl rfl) e⟩
 | tup xs=>obtain⟨z,aV,r,ob,e,c⟩:=x;exact⟨z,aV,r,ob,k _ _ (.inl rfl) e,c⟩
 | dK kvs=>obtain⟨z,y,vs,r,ob,es,ep,e,c⟩:=x;exact⟨z,y,vs,r,ob,es,ep,k _ _ (.inl rfl) e,c⟩
 | dT kvs =>
  obtain⟨z,y,xs,r,ob,es,ep,e,c,c1,c2,c3⟩:=x
  exact⟨z,y,xs,Paired.Ez r fun p q z=>⟨z.1,ht _ _ z.2.1,z.2.2⟩,ob,es,ep,k _ _ (.inl rfl) e,c,c1,c2,c3⟩
 | set S n=>obtain⟨ob,es,ep,t,e,c⟩:=x;exact⟨ob,es,ep,t,k _ _ (.inl rfl) e,c⟩
 | ins C dx fs =>
  obtain⟨d,z,ne,e,mA,⟨od,es,ep,e2,c⟩,r,r1⟩:=x
  exact⟨ho _ d,z,ne,k _ _ (.inl rfl) e,mA,⟨od,es,ep,k _ _ (.inr d) e2,c⟩,r,r1⟩
 | own y=>obtain⟨ob,e⟩:=x;exact⟨ob,k _ _ (.inl rfl) e⟩
 | xd fs=>obtain⟨mA,⟨od,es,ep,e,c⟩,r⟩:=x;exact⟨mA,⟨od,es,ep,k _ _ (.inl rfl) e,c⟩,r⟩
 | rng lo hi=>obtain⟨t,u,v,e⟩:=x;exact⟨t,u,v,k _ _ (.inl rfl) e⟩
 | pB ob u ih=>obtain⟨e,q⟩:=x;exact⟨k _ _ (.inl rfl) e,ih q⟩
 | tbl ps =>
  have e:h.get? a=some { cls:=.none,data:=.fields ps }:=x
  show h'.get? a=some { cls:=.none,data:=.fields ps }
  exact k a _ (.inl rfl) e
 | met f y =>
  have e:h.get? a=some (Xi (.ref f) (.ref y)):=x
  show h'.get? a=some (Xi (.ref f) (.ref y))
  exact k a _ (.inl rfl) e
 | ext φ=>obtain⟨p,⟨o,e⟩,st⟩:=x;exact⟨st _ _ p fun o q=>k _ _ (.inl rfl) q,⟨o,k _ _ (.inl rfl) e⟩,st⟩
theorem ik.lt(x:ik P w H h)(e:H a=some o):a<h.objs.size:=(x a o e).lt
theorem ik.fresh(x:ik P w H h)(e:h.objs.size<=a):H a=none:=by
 cases q:H a with
 | none=>rfl
 | some u=>exact absurd (jh (x.lt q) e) (Ji _)
theorem ik.kept(x:ik P w H h)(k:∀ b u,h.get? b=some u->h'.get? b=some u):ik P w H h' := fun a o e =>
 (x a o e).AK (fun b u _ q=>k b u q) (fun _ q=>q) fun _ _ q=>q
theorem ik.laid(x:ik P w H h)(k:∀ b u,h.get? b=some u->h'.get? b=some u)(hp:h.objs.size<=a)(new:bA P w (upd H a o) h' a o):ik P w (upd H a o) h' := fun b u e=>by
 have hn:=x.fresh hp
 by_cases hb:b=a
 ·subst hb;rw[ae]at e;cases e;exact new
 ·rw[aj hb]at e
  exact(x b u e).AK (fun c v _ q=>k c v q) (fun c q=>by rw[aj (ar q hn)];exact q) fun c xs q=>by rw[aj (ar q hn)];exact q
end
def Rd(H:Hp)(a:Qu)(u:HO):Prop:=H a=some u\/∃ o,H a=some (.pB o u)
theorem Rd.ok{H:Hp}{u:HO}(r:Rd H a u)(x:ik P w H h):bA P w H h a u:=by
 rcases r with r|⟨o,r⟩
 ·exact x a u r
 ·obtain⟨_,q⟩:=x a _ r
  exact q
def Mut:Option HO->Prop
 | some (.lst _)=>True
 | some (.dK _)=>True
 | some (.dT _)=>True
 | some (.set _ _)=>True
 | some (.ins _ _ _)=>True
 | some (.ext _)=>True
 | _=>False
section
variable{H:Hp}{x e:Qu}{o':HO}
theorem ik.write(ok:ik P w H h)(mu:Mut (H x))(he:e=x\/H e=some (.own x))(k:∀ b u,b≠e->h.get? b=some u->h'.get? b=some u)(heo:∃ u,h'.get? e=some u)(new:bA P w (upd H x o') h' x o'):ik P w (upd H x o') h' := fun b u q=>by
 have aim:∀ c y,H c=some (.own y)->c≠x:=fun c y r z=>by subst z;rw[r]at mu;exact mu
 have amn:∀ c xs,H c=some #[42]->c≠x:=fun c xs r z=>by subst z;rw[r]at mu;exact mu
 by_cases hb:b=x
 ·subst hb;rw[ae]at q;cases q;exact new
 ·rw[aj hb]at q
  by_cases hbe:b=e
  ·have q':H b=some (.own x):=by
    rcases he with z|z
    ·exact absurd (hbe.trans z) hb
    ·rw[hbe];exact z
   rw[q]at q';cases q'
   obtain⟨v,hv⟩:=heo
   exact⟨v,by rw[hbe];exact hv⟩
  ·refine(ok b u q).AK (fun c v hc r=>k c v ?_ r) (fun c r=>by rw[aj (aim c b r)];exact r) fun c xs r=>by rw[aj (amn c xs r)];exact r
   rcases hc with rfl|hc
   ·exact hbe
   ·rintro rfl
    rcases he with z|z
    ·exact aim c b hc z
    ·rw[hc]at z;cases z;exact hb rfl
end
structure Un(fs ex:List Qu)(H H':Hp)(h h':Heap):Prop where
 keep:∀ b o,h.get? b=some o->H b=none->b∉fs->b∉ex->h'.get? b=some o
 slot:∀ b o,h.get? b=some o->H b=none->b∈fs->b∉ex->∃ sl,h'.get? b=some { o with slots:=sl }
 free:∀ b o,h.get? b=some o->H b=none->b∉ex->H' b=none
 there:∀ b o,h.get? b=some o->b∉ex->∃ o',h'.get? b=some o'
 tups:∀ b xs,H b=some #[42]->H' b=some #[42]
 frzs:∀ b o u,H b=some (.pB o u)->H' b=some (.pB o u)
 tbls:∀ b ps,H b=some (.tbl ps)->∃ more,H' b=some (.tbl (ps++more))
section
variable{fs ex:List Qu}{H H1:Hp}{h1:Heap}{x e:Qu}{o:HO}
theorem Un.any(u:Un fs ex H H1 h h1)(q:h.get? b=some ob)(n:H b=none)(hx:b∉ex):∃ sl,h1.get? b=some { ob with slots:=sl }:=by
 by_cases hb:b∈fs
 ·exact u.slot b ob q n hb hx
 ·exact⟨ob.slots,u.keep b ob q n hb hx⟩
theorem Un.kept(k:∀ b u,h.get? b=some u->h'.get? b=some u):Un fs ex H H h h' :=
 ⟨fun b ob q _ _ _=>k b ob q,fun b ob q _ _ _=>⟨ob.slots,k b ob q⟩,fun _ _ _ n _=>n,fun b ob q _=>⟨ob,k b ob q⟩,fun _ _ q=>q,fun _ _ _ q=>q,fun _ ps q=>⟨#[],by rw[q];simp⟩⟩
theorem Un.refl:Un fs ex H H h h:=Un.kept fun _ _ q=>q
theorem Un.laid(k:∀ b u,h.get? b=some u->h'.get? b=some u)(hp:h.objs.size<=a)(hn:H a=none):Un fs ex H (upd H a o) h h' where
 keep:=fun b u q _ _ _=>k b u q
 slot:=fun b u q _ _ _=>⟨u.slots,k b u q⟩
 free:=fun b u q n _=>by rw[aj (jM (jh (jI q) hp))];exact n
 there:=fun b u q _=>⟨u,k b u q⟩
 tups:=fun b xs q=>by rw[aj (ar q hn)];exact q
 frzs:=fun b u xs q=>by rw[aj (ar q hn)];exact q
 tbls:=fun b ps q=>⟨#[],by rw[aj (ar q hn),q];simp⟩
theorem Un.write(mu:Mut (H x))(he:e=x\/H e=some (.own x))(k:∀ b u,b≠e->h.get? b=some u->h'.get? b=some u)(heo:∃ u,h'.get? e=some u):Un fs ex H (upd H x o) h h' := by
 have hx:∀ b,H b=none->b≠x:=fun b n z=>by subst z;rw[n]at mu;exact mu
 have hb:∀ b,H b=none->b≠e:=fun b n z=>by
  subst z
  rcases he with r|r
  ·exact hx b n r
  ·rw[n]at r;cases r
 have hm:∀ b u,H b=some u->¬ Mut (some u)->b≠x:=fun b u q nm z=>by subst z;rw[q]at mu;exact nm mu
 refine⟨fun b u q n _ _=>k b u (hb b n) q,fun b u q n _ _=>⟨u.slots,k b u (hb b n) q⟩,fun b u q n _=>by rw[aj (hx b n)];exact n,fun b u q _=>?_,
  fun b xs q=>by rw[aj (hm b _ q fun z=>z)];exact q,fun b u xs q=>by rw[aj (hm b _ q fun z=>z)];exact q,fun b ps q=>⟨#[],by rw[aj (hm b _ q fun z=>z),q];simp⟩⟩
 by_cases hbe:b=e
 ·subst hbe;exact heo
 ·exact⟨u,k b u hbe q⟩
end
def trk(h:Heap)(H:Hp):List Qu:=(jO h.objs.size).filter fun a=>(H a).isSome
def Hv(h:Heap)(H:Hp):Heap:=GB h (trk h H)
theorem RZ(h:Heap)(H:Hp):(Hv h H).objs.size=h.objs.size:=PySem.W.hideAll_size _ _
theorem U5{H:Hp}{o:Obj}(e:h.get? b=some o)(n:H b=none):(Hv h H).get? b=some o:=
 XA _ e fun hm=>by
  have q:(H b).isSome=true:=(JD.mp hm).2
  rw[n]at q;simp at q
theorem ab8{H:Hp}{o:Obj}(e:(Hv h H).get? b=some o):h.get? b=some o/\H b=none:=by
 have e':h.get? b=some o:=xS (trk h H) e
 exists e'
 cases q:H b with
 | none=>rfl
 | some x =>
  have hm:b∈trk h H:=JD.mpr ⟨jq.mpr (jI e'),by simp[q]⟩
  have z:(Hv h H).get? b=none:=XO (trk h H) hm
  rw[z]at e;cases e
def abr(g h:Heap)(L:Qu):List #[58]:=(jO h.objs.size).filterMap fun a=>if a=L\/(g.get? a).isSome=true then none else(h.get? a).map fun o=>(a,o)
def rest(g h:Heap)(L d:Qu):List #[58]:=(abr g h L).filter fun p=>decide (p.1≠d)
variable{xs vs hX:List V}{H H':Hp}{o o':HO}{v y:V}
structure Mod(K:Yv)(mg:qW->Option Value)(base:Heap):Prop where
 kin:K.In base
 glob:base.Ns WM mg
 blt:∃ mb,base.Ns builtinsNs mb/\∀ x:qW,x ≠ "__name__" -> mb x=qf x
 nolimit:base.NoLimit
structure Cx where
 prog:qR
 w:World
 K:Yv
 mg:qW->Option Value
 base:Heap
 A:Around
 N:List qW
 s₀:qV
 H₀:Hp
 env:qF
 outer:List qF
 stack:List qF
 ex:List Qu
 fn:qW->Bool
 calm:Bool
 pn:List #[58]
 xe:Value->qV->Prop
def Cb(l:List qF):List Qu:=l.filterMap (·.frame)
abbrev Cx.fs(X:Cx):List Qu:=Cb X.outer
def Vis(sc:Scope)(x:qW):Prop:=sc.names.lookup x=some .local\/sc.names.lookup x=some .cell\/sc.names.lookup x=some .free
def Loc(sc:Scope)(x:qW):Prop:=sc.names.lookup x=some .local\/sc.names.lookup x=some .cell
def Look(env:qF)(h:Heap)(m:qW->Option Value)(x:qW)(u:Value):Prop:=
 (env.kindOf x=some .local/\m x=some u)\/((env.kindOf x=some .cell\/env.kindOf x=some .free)/\∃ c,env.cells.lookup x=some c/\h.IsCell c (some u))
structure Cx.Ok(X:Cx):Prop where
 mod:Mod X.K X.mg X.base
 kind:X.env.scope.kind=.function
 glob:X.env.globals=WM
 blt:X.env.builtins=builtinsNs
 above:X.s₀.heap.objs.size<=X.env.locals
 inj:∀ x y c,X.env.cells.lookup x=some c->X.env.cells.lookup y=some c->x=y
 has:∀ x,(X.env.kindOf x=some .cell\/X.env.kindOf x=some .free)->∃ c,X.env.cells.lookup x=some c
 cab:∀ x c,X.fn x=true->X.env.cells.lookup x=some c->X.s₀.heap.objs.size<=c
 hd:X.calm=true->X.A.handled=none
 frames:X.A.frames=some X.stack
 stk:X.stack=X.outer\/(X.stack=X.env :: X.outer/\X.env.frame=some X.env.locals)
 exf:∀ b∈X.ex,b≠X.env.locals/\∀ x c,X.env.cells.lookup x=some c->c≠b
 bs:∀ b o,X.base.get? b=some o->X.s₀.heap.get? b=some o/\X.H₀ b=none
 bsz:X.base.objs.size<=X.s₀.heap.objs.size
 noex:∀ b o,X.base.get? b=some o->b∉X.ex
 exfs:∀ b∈X.ex,b∉X.fs
 wz:X.s₀.heap.FunFrames X.base X.outer
 frf:∀ b∈X.fs,X.H₀ b=none
structure Inv(X:Cx)(pins:List (Qu×Obj))(σ:List (Option V))(H:Hp)(s:qV):Prop where
 ok:X.Ok
 os:s.os=X.s₀.os
 bare:Qv s.gens
 base:Un X.fs X.ex X.H₀ H X.s₀.heap s.heap
 loc:∃ m,s.heap.Ns X.env.locals m/\∀ (i:Nat) (x:qW) (v:V),X.N[i]?=some x->σ[i]?=some (some v)->Vis X.env.scope x->∃ u,RelV v u/\Look X.env s.heap m x u
 cell:∀ x c,X.env.cells.lookup x=some c->∃ v,s.heap.IsCell c v
 free:H X.env.locals=none
 freeC:∀ x c,X.env.cells.lookup x=some c->H c=none
 pin:∀ p∈X.pn++pins,s.heap.get? p.1=some p.2/\H p.1=none/\p.1≠X.env.locals/\p.1∉X.fs/\∀ v,p.2.data≠.cell v
 hok:ik X.prog X.w H s.heap
 len:σ.length=X.N.length
section
variable{X:Cx}{σ:List (Option V)}
theorem Cx.Ok.aml(ok:X.Ok){o:Obj}(e:X.base.get? b=some o):b∉X.fs:=fun hb=>by
 have:=(ok.wz.mem hb).1
 rw[e]at this;cases this
theorem Inv.bs(I:Inv X pins σ H s):∀ b o,X.base.get? b=some o->s.heap.get? b=some o/\H b=none:=fun b o e =>
 ⟨I.base.keep b o (I.ok.bs b o e).1 (I.ok.bs b o e).2 (I.ok.aml e) (I.ok.noex b o e),I.base.free b o (I.ok.bs b o e).1 (I.ok.bs b o e).2 (I.ok.noex b o e)⟩
theorem Inv.bk(I:Inv X pins σ H s):∀ b o,X.base.get? b=some o->s.heap.get? b=some o:=fun b o e=>(I.bs b o e).1
theorem Inv.mod(I:Inv X pins σ H s):Mod X.K X.mg X.base:=I.ok.mod
theorem Inv.pN(I:Inv X pins σ H s):X.K.In s.heap:=I.ok.mod.kin.keeps I.bk
theorem Inv.lt(I:Inv X pins σ H s):X.env.locals<s.heap.objs.size:=let ⟨_,hn,_⟩:=I.loc;hn.lt
theorem Inv.sz(I:Inv X pins σ H s):X.s₀.heap.objs.size<=s.heap.objs.size:=ji I.ok.above (Js I.lt)
theorem Inv.amm(I:Inv X pins σ H s)(h:s.heap.objs.size<=a):a∉X.fs:=fun hb=>by
 obtain⟨_,o,ho,_⟩:=I.ok.wz.mem hb
 exact absurd (jh (jI ho) (ji I.sz h)) (Ji _)
theorem Inv.Ts(I:Inv X pins σ H s):∀ x c,X.env.cells.lookup x=some c->c≠X.env.locals:=fun x c e z=>by
 obtain⟨v,o,ho,hd⟩:=I.cell x c e
 obtain⟨m,⟨o',es,ep,S7,hd',_⟩,_⟩:=I.loc
 rw[z,S7]at ho;cases ho;rw[hd']at hd;cases hd
theorem Inv.wz(I:Inv X pins σ H s):s.heap.FunFrames X.base X.outer:=by
 have all:∀ (l:List qF),(∀ b∈Cb l,b∈X.fs)->X.s₀.heap.FunFrames X.base l->s.heap.FunFrames X.base l:=by
  intro l
  induction l with
  | nil=>intro _ _;trivial
  | cons env r ih =>
   intro hs hl
   obtain⟨hk,⟨L,o,hf,hn,ho,hd⟩,hr⟩:=hl
   have hL:L∈X.fs:=hs L (by unfold Cb;rw[JY,hf];exact jE)
   obtain⟨sl,e⟩:=I.base.slot L o ho (I.ok.frf L hL) hL fun z=>I.ok.exfs L z hL
   exact⟨hk,⟨L,_,hf,hn,e,hd⟩,ih (fun b hb=>hs b (by unfold Cb;rw[JY,hf];exact jK _ hb)) hr⟩
 exact all X.outer (fun _ hb=>hb) I.ok.wz
theorem Inv.stack(I:Inv X pins σ H s):s.heap.FunFrames X.base X.stack:=by
 rcases I.ok.stk with e|⟨e,hf⟩
 ·rw[e];exact I.wz
 ·rw[e]
  obtain⟨m,hn,_⟩:=I.loc
  refine .cons (by rw[I.ok.kind];decide) hf hn ?_ I.wz
  exact zv (ji I.ok.bsz I.ok.above)
theorem Inv.Ie(I:Inv X pins σ H s):∀ b∈Cb X.stack,b∈X.env.locals :: X.fs:=fun b hb=>by
 rcases I.ok.stk with e|⟨e,hf⟩
 ·rw[e]at hb;exact jK _ hb
 ·rw[e]at hb
  unfold Cb at hb
  rw[JY,hf]at hb
  exact hb
theorem Inv.Ic(I:Inv X pins σ H s):∀ b∈Cb X.stack,H b=none:=fun b hb=>by
 rcases jS.mp (I.Ie b hb)with e|hb
 ·rw[e];exact I.free
 ·obtain⟨_,o,ho,_⟩:=I.ok.wz.mem hb
  exact I.base.free b o ho (I.ok.frf b hb) fun z=>I.ok.exfs b z hb
theorem Inv.step{g':Array qH}{t':Nat}{d':qD}{ch:List Qu}(I:Inv X pins σ H s)(hch:∀ b∈ch,(b∈X.ex\/X.s₀.heap.objs.size<=b)/\b≠X.env.locals/\(∀ x c,X.env.cells.lookup x=some c->c≠b)/\∀ p∈X.pn++pins,p.1≠b)(keep:∀ b o,b≠X.env.locals->b∉X.fs->b∉ch->s.heap.get? b=some o->H b=none->h'.get? b=some o)(slot:∀ b o,b≠X.env.locals->b∈X.fs->b∉ch->s.heap.get? b=some o->H b=none->∃ sl,h'.get? b=some { o with slots:=sl })(free:∀ b o,b∉ch->s.heap.get? b=some o->H b=none->H' b=none)(there:∀ b o,b∉ch->s.heap.get? b=some o->∃ o',h'.get? b=some o')(tups:∀ b xs,H b=some #[42]->H' b=some #[42])(frzs:∀ b o u,H b=some (.pB o u)->H' b=some (.pB o u))(tbls:∀ b ps,H b=some (.tbl ps)->∃ more,H' b=some (.tbl (ps++more)))(ns:∀ m,s.heap.Ns X.env.locals m->h'.Ns X.env.locals m)(hok:ik X.prog X.w H' h')(hg:Qv g'):
  Inv X pins σ H' { s with heap:=h',gens:=g',drawn:=d',toks:=t' }:=by
 have neL:∀ b o,X.s₀.heap.get? b=some o->b≠X.env.locals:=fun b o e=>jM (jh (jI e) I.ok.above)
 have neC:∀ b o,X.s₀.heap.get? b=some o->b∉X.ex->b∉ch:=fun b o e hx hb=>by
  rcases(hch b hb).1 with z|z
  ·exact hx z
  ·exact absurd (jh (jI e) z) (Ji _)
 have cellK:∀ x c,X.env.cells.lookup x=some c->∀ v,s.heap.IsCell c v->h'.IsCell c v:=fun x c e v ⟨o,ho,hd⟩=>by
  have nch:c∉ch:=fun z=>(hch c z).2.2.1 x c e rfl
  by_cases hc:c∈X.fs
  ·obtain⟨sl,q⟩:=slot c o (I.Ts x c e) hc nch ho (I.freeC x c e)
   exact⟨_,q,hd⟩
  ·exact⟨o,keep c o (I.Ts x c e) hc nch ho (I.freeC x c e),hd⟩
 refine⟨I.ok,I.os,hg,⟨fun b o e n hb hx=>?_,fun b o e n hb hx=>?_,fun b o e n hx=>?_,fun b o e hx=>?_,fun b xs e=>tups b xs (I.base.tups b xs e),fun b o xs e=>frzs b o xs (I.base.frzs b o xs e),fun b ps e=>?_⟩,?_,fun x c e=>?_,?_,fun x c e=>?_,fun p hp=>?_,hok,I.len⟩
 ·exact keep b o (neL b o e) hb (neC b o e hx) (I.base.keep b o e n hb hx) (I.base.free b o e n hx)
 ·obtain⟨sl,e1⟩:=I.base.slot b o e n hb hx
  obtain⟨sl',e2⟩:=slot b _ (neL b o e) hb (neC b o e hx) e1 (I.base.free b o e n hx)
  exact⟨sl',e2⟩
 ·obtain⟨o',e1⟩:=I.base.there b o e hx
  exact free b o' (neC b o e hx) e1 (I.base.free b o e n hx)
 ·obtain⟨o',e1⟩:=I.base.there b o e hx
  exact there b o' (neC b o e hx) e1
 ·obtain⟨m1,e1⟩:=I.base.tbls b ps e
  obtain⟨m2,e2⟩:=tbls b _ e1
  exact⟨m1++m2,by rw[e2,Array.append_assoc]⟩
 ·obtain⟨m,hn,hl⟩:=I.loc
  refine⟨m,ns m hn,fun i x v e1 e2 e3=>?_⟩
  obtain⟨u,r,l⟩:=hl i x v e1 e2 e3
  exists u,r
  rcases l with l|⟨k,c,e,z⟩
  ·exact .inl l
  ·exact .inr ⟨k,c,e,cellK x c e _ z⟩
 ·obtain⟨v,z⟩:=I.cell x c e
  exact⟨v,cellK x c e v z⟩
 ·obtain⟨m,⟨o,_,_,ho,_⟩,_⟩:=I.loc
  exact free _ o (fun z=>(hch _ z).2.1 rfl) ho I.free
 ·obtain⟨v,o,ho,hd⟩:=I.cell x c e
  exact free c o (fun z=>(hch c z).2.2.1 x c e rfl) ho (I.freeC x c e)
 ·obtain⟨e,n,ne,nf,d⟩:=I.pin p hp
  have nch:p.1∉ch:=fun z=>(hch p.1 z).2.2.2 p hp rfl
  exact⟨keep p.1 p.2 ne nf nch e n,free p.1 p.2 nch e n,ne,nf,d⟩
theorem Inv.un{t':Nat}(I:Inv X pins σ H s)(u:Un X.fs [] H H' s.heap h')(hok:ik X.prog X.w H' h'):Inv X pins σ H' { s with heap:=h',toks:=t' }:=by
 obtain⟨m,⟨o,es,ep,ho,r⟩,_⟩:=id I.loc
 obtain⟨sl,hL⟩:=u.any ho I.free #[11]
 exact I.step (g' := s.gens) (d' := s.drawn) (ch:=[]) (fun _ z=>nomatch z) (fun b o _ hb _ e n=>u.keep b o e n hb #[11]) (fun b o _ hb _ e n=>u.slot b o e n hb #[11]) (fun b o _ e n=>u.free b o e n #[11]) (fun b o _ e=>u.there b o e #[11]) u.tups u.frzs u.tbls (fun m' hm=>by
  obtain⟨o',lN,ep',S7,r'⟩:=hm
  rw[ho]at S7;cases S7
  exact⟨_,lN,ep',hL,r'⟩) hok I.bare
theorem Inv.call{g':Array qH}{t':Nat}{d':qD}(I:Inv X pins σ H s)(u:Un (Cb X.stack) ch H H' s.heap h')(hok:ik X.prog X.w H' h')(hg:Qv g')(hch:∀ b∈ch,(b∈X.ex\/X.s₀.heap.objs.size<=b)/\b≠X.env.locals/\(∀ x c,X.env.cells.lookup x=some c->c≠b)/\∀ p∈X.pn++pins,p.1≠b):
  Inv X pins σ H' { s with heap:=h',gens:=g',drawn:=d',toks:=t' }:=by
 obtain⟨m,⟨o,es,ep,ho,r⟩,_⟩:=id I.loc
 obtain⟨sl,hL⟩:=u.any ho I.free fun z=>(hch _ z).2.1 rfl
 exact I.step (ch:=ch) hch (fun b o hL hb hc e n=>u.keep b o e n (fun z=>(jS.mp (I.Ie b z)).elim hL hb) hc) (fun b o _ _ hc e n=>u.any e n hc) (fun b o hc e n=>u.free b o e n hc) (fun b o hc e=>u.there b o e hc) u.tups u.frzs u.tbls (fun m' hm=>by
  obtain⟨o',lN,ep',S7,r'⟩:=hm
  rw[ho]at S7;cases S7
  exact⟨_,lN,ep',hL,r'⟩) hok hg
theorem Inv.turned{t':Nat}(I:Inv X pins σ H s)(k:∀ b o,b≠it->s.heap.get? b=some o->h'.get? b=some o)(hn:H it=none)(hL:it≠X.env.locals)(h1:it∈X.ex\/X.s₀.heap.objs.size<=it)(h2:∀ x c,X.env.cells.lookup x=some c->c≠it)(h3:∀ p∈X.pn++pins,p.1≠it):Inv X pins σ H { s with heap:=h',toks:=t' }:=by
 have nit:∀ b u,H b=some u->b≠it:=fun b u e z=>by rw[z,hn]at e;cases e
 refine I.step (g' := s.gens) (d' := s.drawn) (ch:=[it]) (fun b hb=>?_) (fun b o _ _ hc e _=>k b o (fun z=>hc (by simp[z])) e) (fun b o _ _ hc e _=>⟨o.slots,k b o (fun z=>hc (by simp[z])) e⟩) (fun _ _ _ _ n=>n)
  (fun b o hc e=>⟨o,k b o (fun z=>hc (by simp[z])) e⟩) (fun _ _ e=>e) (fun _ _ _ e=>e) (fun b ps e=>⟨#[],by rw[e];simp⟩) (fun m hm=>?_) (fun b u e=>?_) I.bare
 ·have e:b=it:=by simpa using hb
  subst e
  exact⟨h1,hL,h2,h3⟩
 ·obtain⟨o,es,ep,ho,r⟩:=hm
  exact⟨o,es,ep,k _ o (Ne.symm hL) ho,r⟩
 ·refine(I.hok b u e).AK (fun c v hc q=>k c v ?_ q) (fun _ q=>q) fun _ _ q=>q
  rcases hc with z|z
  ·rw[z];exact nit b u e
  ·exact nit c _ z
theorem Inv.tok(I:Inv X pins σ H s)(t:Nat):Inv X pins σ H { s with toks:=t }:=I.un (h' := s.heap) (t' := t) Un.refl I.hok
theorem Inv.kept{t':Nat}(I:Inv X pins σ H s)(k:∀ b u,s.heap.get? b=some u->h'.get? b=some u):Inv X pins σ H { s with heap:=h',toks:=t' }:=I.un (Un.kept k) (I.hok.kept k)
theorem Inv.laid{t':Nat}(I:Inv X pins σ H s)(k:∀ b u,s.heap.get? b=some u->h'.get? b=some u)(hp:s.heap.objs.size<=a)(new:bA X.prog X.w (upd H a o) h' a o):
  Inv X pins σ (upd H a o) { s with heap:=h',toks:=t' }:=I.un (Un.laid k hp (I.hok.fresh hp)) (I.hok.laid k hp new)
theorem Inv.write{x e:Qu}{t':Nat}(I:Inv X pins σ H s)(mu:Mut (H x))(he:e=x\/H e=some (.own x))(k:∀ b u,b≠e->s.heap.get? b=some u->h'.get? b=some u)(heo:∃ u,h'.get? e=some u)(new:bA X.prog X.w (upd H x o) h' x o):Inv X pins σ (upd H x o) { s with heap:=h',toks:=t' }:=I.un (Un.write mu he k heo) (I.hok.write mu he k heo new)
theorem Inv.P8(I:Inv X pins σ H s)(h:∀ p∈adi,s.heap.get? p.1=some p.2/\H p.1=none/\p.1≠X.env.locals/\p.1∉X.fs/\∀ v,p.2.data≠.cell v):Inv X adi σ H s:=
 ⟨I.ok,I.os,I.bare,I.base,I.loc,I.cell,I.free,I.freeC,fun p hp=>(zB.mp hp).elim (fun z=>I.pin p (jz _ z)) (h p),I.hok,I.len⟩
theorem DJ(hN:N.Nodup)(a:N[i]?=some x)(b:N[j]?=some x):i=j:=by
 obtain⟨h1,e1⟩:=jb.mp a
 obtain⟨h2,e2⟩:=jb.mp b
 exact(JT hN).mp (e1.trans e2.symm)
theorem FU{M:Model}{Q:Unit->qV->Prop}(I:Inv X pins σ H s)(hN:X.N.Nodup)(hi:X.N[i]?=some x)(hx:Loc X.env.scope x)(r:RelV v u)(h:∀ s',Inv X pins (σ.set i (some v)) H s'->(∃ a,yL a s.heap s'.heap/\(a=X.env.locals\/X.env.cells.lookup x=some a))->Q () s')(hf:X.fn x=true\/X.env.scope.names.lookup x=some .local:=by first|exact .inl rfl|exact .inr rfl|assumption):wpAny M A (storeName X.env x u) Q E s:=by
 obtain⟨m,hn,hl⟩:=id I.loc
 have aej:(X.env.scope.kind==.class||(X.env.scope.kind==.module&&X.env.locals != X.env.globals))=false:=by rw[I.ok.kind];rfl
 have U7:i<σ.length:=by rw[I.len];exact(jb.mp hi).1
 have Ts:=I.Ts
 have tracked:∀ {a:Qu} {h':Heap},(∃ o,s.heap.get? a=some o/\H a=none)->yL a s.heap h'->ik X.prog X.w H h' := fun {a h'} ha hs b ob e=>by
  obtain⟨_,_,ac4⟩:=ha
  refine(I.hok b ob e).AK (fun c w' hc q=>(hs.2 c ?_).trans q) (fun _ q=>q) fun _ _ q=>q
  rintro rfl
  rcases hc with rfl|hc
  ·rw[ac4]at e;cases e
  ·rw[ac4]at hc;cases hc
 rcases hx with hk|hk
 ·refine wpAny_storeName_local hk hn (fun h' hn' hs=>?_) aej
  obtain⟨oL,_,_,hoL,_⟩:=id hn
  refine h _ ⟨I.ok,I.os,I.bare,⟨fun b o e n hb hx=>?_,fun b o e n hb hx=>?_,I.base.free,fun b o e hx=>?_,I.base.tups,I.base.frzs,I.base.tbls⟩,⟨_,hn',fun j y v' e1 e2 e3=>?_⟩,fun y c e=>?_,I.free,I.freeC,fun p hp=>?_,tracked ⟨oL,hoL,I.free⟩ hs,by simpa using I.len⟩ ⟨_,hs,.inl rfl⟩
  ·exact(hs.2 b (jM (jh (jI e) I.ok.above))).trans (I.base.keep b o e n hb hx)
  ·obtain⟨sl,e1⟩:=I.base.slot b o e n hb hx
   exact⟨sl,(hs.2 b (jM (jh (jI e) I.ok.above))).trans e1⟩
  ·obtain⟨o',e1⟩:=I.base.there b o e hx
   exact⟨o',(hs.2 b (jM (jh (jI e) I.ok.above))).trans e1⟩
  ·by_cases hj:j=i
   ·subst hj
    rw[hi]at e1;cases e1
    rw[Jr U7]at e2
    cases e2
    exact⟨u,r,.inl ⟨hk,by simp⟩⟩
   ·rw[Jw (Ne.symm hj)]at e2
    obtain⟨u',r',q⟩:=hl j y v' e1 e2 e3
    exists u',r'
    rcases q with⟨k,e⟩|⟨k,c,e,z⟩
    ·refine .inl ⟨k,?_⟩
     have:y≠x:=fun e=>hj (DJ hN e1 (e ▸ hi))
     simp[this,e]
    ·exact .inr ⟨k,c,e,z.sameBut hs (Ts y c e)⟩
  ·obtain⟨w',z⟩:=I.cell y c e
   exact⟨w',z.sameBut hs (Ts y c e)⟩
  ·obtain⟨e,n,ne,nf,d⟩:=I.pin p hp
   exact⟨(hs.2 p.1 ne).trans e,n,ne,nf,d⟩
 ·have hfn:X.fn x=true:=by
   rcases hf with z|z
   ·exact z
   ·rw[z]at hk;cases hk
  obtain⟨c,hc⟩:=I.ok.has x (.inl hk)
  obtain⟨w',z⟩:=I.cell x c hc
  refine wpAny_storeName_cell I.ok.kind hk hc z (fun h' Pw hs=>?_)
  obtain⟨oc,hoc,aeu⟩:=id z
  refine h { s with heap:=h' } ⟨I.ok,I.os,I.bare,⟨fun b o e n hb hx=>?_,fun b o e n hb hx=>?_,I.base.free,fun b o e hx=>?_,I.base.tups,I.base.frzs,I.base.tbls⟩,⟨m,hn.sameBut hs (Ne.symm (Ts x c hc)),fun j y v' e1 e2 e3=>?_⟩,fun y c' e=>?_,I.free,I.freeC,fun p hp=>?_,tracked ⟨oc,hoc,I.freeC x c hc⟩ hs,by simpa using I.len⟩ ⟨c,hs,.inr hc⟩
  ·exact(hs.2 b (jM (jh (jI e) (I.ok.cab x c hfn hc)))).trans (I.base.keep b o e n hb hx)
  ·obtain⟨sl,e1⟩:=I.base.slot b o e n hb hx
   exact⟨sl,(hs.2 b (jM (jh (jI e) (I.ok.cab x c hfn hc)))).trans e1⟩
  ·obtain⟨o',e1⟩:=I.base.there b o e hx
   exact⟨o',(hs.2 b (jM (jh (jI e) (I.ok.cab x c hfn hc)))).trans e1⟩
  ·by_cases hj:j=i
   ·subst hj
    rw[hi]at e1;cases e1
    rw[Jr U7]at e2
    cases e2
    exact⟨u,r,.inr ⟨.inl hk,c,hc,Pw⟩⟩
   ·rw[Jw (Ne.symm hj)]at e2
    obtain⟨u',r',q⟩:=hl j y v' e1 e2 e3
    exists u',r'
    rcases q with q|⟨k,c',e,z'⟩
    ·exact .inl q
    ·refine .inr ⟨k,c',e,z'.sameBut hs ?_⟩
     rintro rfl
     exact hj (DJ hN e1 (I.ok.inj _ _ _ e hc ▸ hi))
  ·by_cases hcc:c'=c
   ·subst hcc;exact⟨_,Pw⟩
   ·obtain⟨w2,z2⟩:=I.cell y c' e
    exact⟨w2,z2.sameBut hs hcc⟩
  ·obtain⟨e,n,ne,nf,d⟩:=I.pin p hp
   refine⟨(hs.2 p.1 ?_).trans e,n,ne,nf,d⟩
   intro q
   rw[q,hoc]at e
   have q':oc=p.2:=Option.some.inj e
   exact d w' (by rw[<- q'];exact aeu)
theorem AL{M:Model}{Q:Unit->qV->Prop}(I:Inv X pins σ H s)(hN:X.N.Nodup)(hi:X.N[i]?=some x)(hx:Loc X.env.scope x)(r:RelV v u)(h:∀ s',Inv X pins (σ.set i (some v)) H s'->Q () s')(hf:X.fn x=true\/X.env.scope.names.lookup x=some .local:=by first|exact .inl rfl|exact .inr rfl|assumption):wpAny M A (storeName X.env x u) Q E s:=
 FU I hN hi hx r (fun s' I' _=>h s' I') hf
theorem Inv.C6(I:Inv X pins σ H s)(ho:s'.os=s.os)(u:Un (Cb X.stack) ch H H' s.heap s'.heap)(hok:ik X.prog X.w H' s'.heap)(hg:Qv s'.gens)(hch:∀ b∈ch,(b∈X.ex\/X.s₀.heap.objs.size<=b)/\b≠X.env.locals/\(∀ x c,X.env.cells.lookup x=some c->c≠b)/\∀ p∈X.pn++pins,p.1≠b):Inv X pins σ H' s' := by
 obtain⟨h',g',d',t',o'⟩:=s'
 have e:o'=s.os:=ho
 subst e
 exact I.call (g' := g') (t' := t') (d' := d') u hok hg hch
end
abbrev XK:=Value->Option Qu->Hp->Prop
abbrev St:=List (Option V)
abbrev VK:=V->Hp->Prop
abbrev TE:=St->Hp->VK->Prop
abbrev TT:=St->Hp->(Bool->Hp->Prop)->Prop
abbrev TA:=St->Hp->(List V->Hp->Prop)->Prop
structure Ends where
 nx:St->Hp->Prop
 rt:VK
 bk:St->Hp->Prop:=fun _ _=>False
 ct:St->Hp->Prop:=fun _ _=>False
abbrev TS:=Ends->St->Hp->Prop
def EP(X:Cx)(pins:List #[58])(σ:St)(Q:VK)(u:Value)(s':qV):Prop := ∃ v H',Inv X pins σ H' s'/\RelV v u/\Q v H'
def TP(X:Cx)(pins:List #[58])(σ:St)(Q:Bool->Hp->Prop)(b:Bool)(s':qV):Prop := ∃ H',Inv X pins σ H' s'/\Q b H'
def AP(X:Cx)(pins:List #[58])(σ:St)(Q:List V->Hp->Prop)(us:List Value)(s':qV):Prop := ∃ vs H',Inv X pins σ H' s'/\Vals vs us/\Q vs H'
def SP(X:Cx)(pins:List #[58])(D:Ends)(f:Flow)(s':qV):Prop:=
 match f with
 | .next=>∃ σ' H',Inv X pins σ' H' s'/\D.nx σ' H'
 | .brk=>∃ σ' H',Inv X pins σ' H' s'/\D.bk σ' H'
 | .cont=>∃ σ' H',Inv X pins σ' H' s'/\D.ct σ' H'
 | .ret u=>∃ v σ' H',Inv X pins σ' H' s'/\RelV v u/\D.rt v H'
def PE(X:Cx)(e:Expr)(t:TE):Prop:=
 ∀ (pins:List #[58]) (s:qV) (σ:St) (H:Hp) (Q:VK),Inv X pins σ H s->t σ H Q->wpAny #[4] X.A (eval e X.env) #[59] X.xe s
def PT(X:Cx)(e:Expr)(t:TT):Prop:=
 ∀ (pins:List #[58]) (s:qV) (σ:St) (H:Hp) (Q:Bool->Hp->Prop),Inv X pins σ H s->t σ H Q->wpAny #[4] X.A (isTrue e X.env (eval e X.env)) (TP X pins σ Q) X.xe s
def PW(X:Cx)(e:Expr)(t:TT):Prop:=
 ∀ (whole:qS Value) (pins:List #[58]) (s:qV) (σ:St) (H:Hp) (Q:Bool->Hp->Prop),Inv X pins σ H s->t σ H Q->wpAny #[4] X.A (isTrue e X.env whole) (TP X pins σ Q) X.xe s
theorem PW.pt{X:Cx}{t:TT}(h:PW X e t):PT X e t:=h _
def PA(X:Cx)(es:List Expr)(t:TA):Prop:=
 ∀ (pos:Pos) (pins:List #[58]) (s:qV) (σ:St) (H:Hp) (Q:List V->Hp->Prop),Inv X pins σ H s->t σ H Q->wpAny #[4] X.A (spliced #[29]) (AP X pins σ Q) X.xe s
def PS(X:Cx)(st:Stmt)(t:TS):Prop:=
 ∀ (pins:List #[58]) (s:qV) (σ:St) (H:Hp) (D:Ends),Inv X pins σ H s->t D σ H->wpAny #[4] X.A (exec st X.env) (SP X pins D) X.xe s
def G2(X:Cx)(st:List Stmt)(t:TS):Prop:=
 ∀ (pins:List #[58]) (s:qV) (σ:St) (H:Hp) (D:Ends),Inv X pins σ H s->t D σ H->wpAny #[4] X.A (execs st X.env) (SP X pins D) X.xe s
theorem bP{t:qS α}{Q Q':α->qV->Prop}{M:Model}(h:wpAny M A t Q E s)(hQ:∀ a s,Q a s->Q' a s):wpAny M A t Q' E s:=YQ h hQ fun _ _ x=>x
variable{X:Cx}{σ:St}{ta te tl:TE}{tb:TS}{D:Ends}{tc:TT}
section
def aiY(i:Nat):TE:=fun σ H Q=>∃ v,σ[i]?=some (some v)/\Q v H
def tC(v:V):TE:=fun _ H Q=>Q v H
theorem afe(hN:X.N[i]?=some x)(hv:Vis X.env.scope x)(hd:#[19]=false:=by decide)(Hu:(x==("__classdict__" : qW))=false:=by decide):PE X (.Name x pos) (aiY i):=by
 exists 5
 obtain⟨v,e,h⟩:=h
 obtain⟨m,hn,hl⟩:=I.loc
 obtain⟨u,r,l⟩:=hl i x v hN e hv
 have fin:EP X pins σ Q u s:=⟨v,H,I,r,h⟩
 rcases l with⟨hk,hm⟩|⟨hk,c,hc,ac2⟩
 ·exact Wf (wpAny_loadName_local I.ok.kind hk hn hm fin) hd
 ·rcases hk with hk|hk
  ·exact Wf (wpAny_loadName_cell I.ok.kind hk hc ac2 fin) hd
  ·exact Wf (wpAny_loadName_free I.ok.kind hk hc ac2 fin Hu) hd
theorem aq{i j pos}:PE X (.Constant (.int i) j pos) (tC (.int i)):=fun _ _ _ H _ I h=>wpAny_Constant_int ⟨.int i,H,I.tok _,⟨_,rfl⟩,h⟩
theorem cU{b j pos}:PE X (.Constant (.bool b) j pos) (tC (.bl b)):=fun _ _ _ H _ I h=>Constant_bool ⟨.bl b,H,I,rfl,h⟩
theorem afc{j pos}:PE X (.Constant .none j pos) (tC .non):=fun _ _ _ H _ I h=>Constant_none ⟨.non,H,I,rfl,h⟩
theorem aam{x j pos}:PE X (.Constant (.str x) j pos) (tC (.str x)):=fun _ _ _ H _ I h=>xT ⟨.str x,H,I.tok _,⟨_,rfl⟩,h⟩
def Gl(X:Cx)(x:qW):Prop:=X.env.kindOf x=some .globalImplicit
theorem oa(I:Inv X pins σ H s)(hg:Gl X x)(hm:X.mg x=some u)(h:Q u s)(hd:#[19]=false:=by decide):wpAny #[4] X.A (eval (.Name x pos) X.env) Q E s:=
 Xe I.ok.kind hg (Calls.loadGlobal_global (by rw[I.ok.glob];exact I.mod.glob.keeps I.bk) hm h) hd
theorem mB(I:Inv X pins σ H s)(hg:Gl X x)(hm:X.mg x=none)(hv:qf x=some u)(h:Q u s)(hn:x ≠ "__name__" := by decide)(hd:#[19]=false:=by decide):wpAny #[4] X.A (eval (.Name x pos) X.env) Q E s:=by
 obtain⟨mb,h1,h2⟩:=I.mod.blt
 exact Xe I.ok.kind hg (Calls.loadGlobal_builtin (by rw[I.ok.glob];exact I.mod.glob.keeps I.bk) hm (by rw[I.ok.blt];exact h1.keeps I.bk) ((h2 x hn).trans hv) h) hd
theorem lW(hg:Gl X x)(hm:X.mg x=some u)(r:RelV v u)(hd:#[19]=false:=by decide):PE X (.Name x pos) (tC v):=
 fun _ _ _ H _ I h=>oa I hg hm ⟨v,H,I,r,h⟩ hd
theorem oh(hg:Gl X x)(hm:X.mg x=none)(hv:qf x=some u)(r:RelV v u)(hn:x ≠ "__name__" := by decide)(hd:#[19]=false:=by decide):PE X (.Name x pos) (tC v):=
 fun _ _ _ H _ I h=>mB I hg hm hv ⟨v,H,I,r,h⟩ hn hd
variable{a b:Expr}{tb:TE}
def PC(X:Cx)(op:qA)(a b:Expr)(t:TE):Prop:=
 ∀ (pins:List #[58]) (s:qV) (σ:St) (H:Hp) (Q:VK),Inv X pins σ H s->t σ H Q ->
  wpAny #[4] X.A (eval a X.env) (fun v s₁=>wpAny #[4] X.A (eval b X.env) (fun u s₂=>wpAny #[4] X.A (WC op v u) #[59] X.xe s₂) X.xe s₁) X.xe s
theorem Y4(b:Expr){op:qA}(h:op≠.In)(h2:op≠.NotIn):qd op b=false:=by
 have e1:(op==CmpOp.In)=false:=by cases op<;>first|rfl|exact absurd rfl h
 have e2:(op==CmpOp.NotIn)=false:=by cases op<;>first|rfl|exact absurd rfl h2
 cases b<;>simp[qd,e1,e2]
def tB(t:TE):TT:=fun σ H Q=>t σ H fun x H1=>∃ c,x=.bl c/\Q c H1
theorem HU{op:qA}{t:TE}(h:PC X op a b t)(h1:qd op b=false:=by first|exact Y4 _ #[8] #[8]|rfl):PT X (.Compare a [op] [b] pos) (tB t):=by
 intro pins s σ H Q I hw
 refine YH (bP (h pins s σ H _ I hw) fun v s1 h1=>bP h1 fun u s2 h2=>bP h2 fun c s3 ⟨x,H1,I1,r1,q1⟩=>?_) h1
 obtain⟨d,rfl,q⟩:=q1
 cases r1
 exact Yq ⟨H1,I1,q⟩
theorem fW{t:TE}(h:PE X e t)(he:∀ whole,isTrue e X.env whole=(do let v <- whole;standAt e.pos;holding [v] (truthy v)):=by intro _;rfl):PT X e (tB t):=by
 intro pins s σ H Q I hw
 refine isTrue_plain (bP (h pins s σ H _ I hw) fun v s1 ⟨x,H1,I1,r1,q1⟩=>?_) (he _)
 obtain⟨d,rfl,q⟩:=q1
 cases r1
 exact Yq ⟨H1,I1,q⟩
variable{tA tB':TT}{rest:List Expr}
def amO(t u:TT):TT:=fun σ H Q=>t σ H fun c H1=>if c=true then u σ H1 Q else Q false H1
def tOr(t u:TT):TT:=fun σ H Q=>t σ H fun c H1=>if c=true then Q true H1 else u σ H1 Q
def amU(t:TT):TT:=fun σ H Q=>t σ H fun c H1=>Q (!c) H1
theorem tJ(ha:PT X a tA):PW X (.BoolOp .And [a] pos) tA:=by
 intro wh pins s σ H Q I h
 refine isTrue_and (bP (ha pins s σ H Q I h) fun c s1 e=>?_)
 cases c with
 | true=>exact isTrue_and_nil e
 | false=>exact e
theorem sJ(ha:PT X a tA):PW X (.BoolOp .Or [a] pos) tA:=by
 intro wh pins s σ H Q I h
 refine isTrue_or (bP (ha pins s σ H Q I h) fun c s1 e=>?_)
 cases c with
 | false=>exact isTrue_or_nil e
 | true=>exact e
theorem wI(ha:PT X a tA)(hb:PW X (.BoolOp .And (b :: rest) pos) tB'):PW X (.BoolOp .And (a :: b :: rest) pos) (amO tA tB'):=by
 intro wh pins s σ H Q I h
 refine isTrue_and (bP (ha pins s σ H _ I h) fun c s1 ⟨H1,I1,q1⟩=>?_)
 cases c with
 | true=>exact hb wh pins s1 σ H1 Q I1 q1
 | false=>exact⟨H1,I1,q1⟩
theorem rD(ha:PT X a tA)(hb:PW X (.BoolOp .Or (b :: rest) pos) tB'):PW X (.BoolOp .Or (a :: b :: rest) pos) (tOr tA tB'):=by
 intro wh pins s σ H Q I h
 refine isTrue_or (bP (ha pins s σ H _ I h) fun c s1 ⟨H1,I1,q1⟩=>?_)
 cases c with
 | true=>exact⟨H1,I1,q1⟩
 | false=>exact hb wh pins s1 σ H1 Q I1 q1
theorem iB(ha:PT X a tA):PT X (.UnaryOp .Not a pos) (amU tA):=by
 exists 5
 exact isTrue_not (ha pins s σ H (fun c H1=>Q (!c) H1) I h)
def aiK(ta tb:TE):TE:=fun σ H Q=>ta σ H fun x H1=>∃ c,x=.bl c/\if c=true then tb σ H1 Q else Q (.bl false) H1
def aiS(ta:TE):TE:=fun σ H Q=>ta σ H fun x H1=>∃ c,x=.bl c/\Q (.bl (!c)) H1
theorem HN{op}{t:TE}(h:PE X a t):PE X (.BoolOp op [a] pos) t:=fun pins s σ H Q I hw=>BoolOp_one (h pins s σ H Q I hw)
theorem HL(ha:PE X a ta)(hb:PE X (.BoolOp .And (b :: rest) pos) tb):PE X (.BoolOp .And (a :: b :: rest) pos) (aiK ta tb):=by
 exists 5
 refine BoolOp_and (bP (ha pins s σ H _ I h) fun v s1 ⟨x,H1,I1,r1,q1⟩=>?_)
 obtain⟨c,rfl,q1⟩:=q1
 cases r1
 refine Yq ?_
 cases c with
 | true=>exact hb pins s1 σ H1 Q I1 q1
 | false=>exact⟨.bl false,H1,I1,rfl,q1⟩
theorem afd(ha:PE X a ta):PE X (.UnaryOp .Not a pos) (aiS ta):=by
 exists 5
 refine UnaryOp_ (bP (ha pins s σ H _ I h) fun v s1 ⟨x,H1,I1,r1,q1⟩=>?_)
 obtain⟨c,rfl,q1⟩:=q1
 cases r1
 exact not_of (Yq ⟨.bl (!c),H1,I1,rfl,q1⟩)
end
def lh(K:Yv)(H:Hp)(a:Qu)(xs:List V):Prop:=
 Rd H a (.lst xs) \/
  ∃ (o:Obj) (aV:Array Value) (n:Nat),K.lookup a=some o/\o.cls=.type "list" /\ o.dict=none/\o.data=.seq aV n/\aV.size<=sizeLine/\Vals xs aV.toList
def mT(K:Yv)(H:Hp)(a:Qu)(xs:List V):Prop:=
 Rd H a #[42] \/
  ∃ (o:Obj) (aV:Array Value) (n:Nat),K.lookup a=some o/\o.cls=.type "tuple" /\ o.data=.seq aV n/\aV.size<=sizeLine/\Vals xs aV.toList
def aj5:Value->Option V
 | .none=>some .non
 | .bool b=>some (.bl b)
 | .int i _=>some (.int i)
 | .str x _=>some (.str x)
 | .bytes b _=>some (.Pd b)
 | .float b _=>some (.flt b)
 | .ref a=>some (.ref a)
 | .type n=>some (.ty n)
 | _=>none
theorem RelV.abs{x:V}(r:RelV x u):aj5 u=some x:=by
 cases x with
 | non=>cases r;rfl
 | bl _=>cases r;rfl
 | int _=>obtain⟨t,rfl⟩:=r;rfl
 | str _=>obtain⟨t,rfl⟩:=r;rfl
 | Pd _=>obtain⟨t,rfl⟩:=r;rfl
 | flt _=>obtain⟨t,rfl⟩:=r;rfl
 | ref _=>cases r;rfl
 | ty _=>cases r;rfl
theorem RelV.inj{x:V}(r:RelV x u)(q:RelV y u):x=y:=Option.some.inj (r.abs.symm.trans q.abs)
theorem Vals.inj:∀ {xs ys:List V} {us:List Value},Vals xs us->Vals ys us->xs=ys
 | _,_,_,.nil,.nil=>rfl
 | _,_,_,.cons r t,.cons r' t'=>by rw[r.inj r',Vals.inj t t']
section
variable{ys:List V}
theorem lh.of(h:H a=some (.lst xs)):lh K H a xs:=.inl (.inl h)
theorem mT.of(h:H a=some #[42]):mT K H a xs:=.inl (.inl h)
theorem Inv.list(I:Inv X pins σ H s)(h:lh X.K H a xs):∃ aV:List Value,Vals xs aV/\PlainL s.heap a aV.toArray/\xs.length<=sizeLine:=by
 rcases h with h|⟨o,aV,n,hk,hc,hd,hs,hz,r⟩
 ·obtain⟨z,aV,n,r,e⟩:=h.ok I.hok
  exact⟨aV,r,⟨_,n,e,rfl,rfl,rfl⟩,z⟩
 ·refine⟨aV.toList,r,⟨o,n,I.pN a o hk,hc,hd,by simpa using hs⟩,?_⟩
  have e:=r.length
  simp only[jU]at e
  omega
theorem Inv.tuple(I:Inv X pins σ H s)(h:mT X.K H a xs):∃ aV:List Value,Vals xs aV/\qK s.heap a aV.toArray/\xs.length<=sizeLine:=by
 rcases h with h|⟨o,aV,n,hk,hc,hs,hz,r⟩
 ·obtain⟨z,aV,r,p⟩:=h.ok I.hok
  exact⟨aV,r,p,z⟩
 ·refine⟨aV.toList,r,⟨o,I.pN a o hk,hc,n,by simpa using hs⟩,?_⟩
  have e:=r.length
  simp only[jU]at e
  omega
theorem Inv.DG(I:Inv X pins σ H s)(h:lh X.K H a xs)(h':lh X.K H a ys):xs=ys:=by
 obtain⟨aV,r,⟨o,n,e,_,_,d⟩,_⟩:=I.list h
 obtain⟨its',r',⟨o',n',e',_,_,d'⟩,_⟩:=I.list h'
 rw[e]at e';cases e'
 rw[d]at d'
 injection d' with d1 _
 have:aV=its' := by simpa using congrArg Qg d1
 subst this
 exact r.inj r'
theorem Inv.FW(I:Inv X pins σ H s)(h:mT X.K H a xs)(h':mT X.K H a ys):xs=ys:=by
 obtain⟨aV,r,⟨o,e,_,n,d⟩,_⟩:=I.tuple h
 obtain⟨its',r',⟨o',e',_,n',d'⟩,_⟩:=I.tuple h'
 rw[e]at e';cases e'
 rw[d]at d'
 injection d' with d1 _
 have:aV=its' := by simpa using congrArg Qg d1
 subst this
 exact r.inj r'
end
abbrev Cx.EI(X:Cx)(E:Value->qV->Prop):Cx:={ X with xe:=E }
abbrev Cx.nox(X:Cx):Cx:=X.EI fun _ _=>False
theorem Cx.Ok.EI(ok:X.Ok)(E:Value->qV->Prop):(X.EI E).Ok:=
 ⟨ok.mod,ok.kind,ok.glob,ok.blt,ok.above,ok.inj,ok.has,ok.cab,ok.hd,ok.frames,ok.stk,ok.exf,ok.bs,ok.bsz,ok.noex,ok.exfs,ok.wz,ok.frf⟩
theorem Cx.Ok.sY(ok:(X.EI E).Ok):X.Ok:=
 ⟨ok.mod,ok.kind,ok.glob,ok.blt,ok.above,ok.inj,ok.has,ok.cab,ok.hd,ok.frames,ok.stk,ok.exf,ok.bs,ok.bsz,ok.noex,ok.exfs,ok.wz,ok.frf⟩
section
theorem Inv.EI(I:Inv X pins σ H s)(E:Value->qV->Prop):Inv (X.EI E) pins σ H s:=⟨I.ok.EI E,I.os,I.bare,I.base,I.loc,I.cell,I.free,I.freeC,I.pin,I.hok,I.len⟩
theorem Inv.sY(I:Inv (X.EI E) pins σ H s):Inv X pins σ H s:=⟨I.ok.sY,I.os,I.bare,I.base,I.loc,I.cell,I.free,I.freeC,I.pin,I.hok,I.len⟩
theorem SP.sY{f:Flow}(h:SP (X.EI E) pins D f s'):SP X pins D f s' := by
 cases f with
 | next=>obtain⟨σ',H',I,q⟩:=h;exact⟨σ',H',I.sY,q⟩
 | brk=>obtain⟨σ',H',I,q⟩:=h;exact⟨σ',H',I.sY,q⟩
 | cont=>obtain⟨σ',H',I,q⟩:=h;exact⟨σ',H',I.sY,q⟩
 | ret u=>obtain⟨v,σ',H',I,r,q⟩:=h;exact⟨v,σ',H',I.sY,r,q⟩
theorem G2.nox{t:TS}(h:G2 X.nox st t):G2 X st t:=fun pins s σ H D I hw =>
 YQ (h pins s σ H D (I.EI _) hw) (fun _ _ q=>q.sY) fun _ _ z=>False.elim z
end
section
variable{st:Stmt}{rest:List Stmt}{t u:TS}
def dG:TS:=fun D σ H=>D.nx σ H
def OM(t u:TS):TS:=fun D σ H=>t { D with nx:=u D } σ H
theorem bg:G2 X [] dG:=fun _ _ σ H _ I h=>Ww ⟨σ,H,I,h⟩
theorem ah(h1:PS X st t)(h2:G2 X rest u):G2 X (st :: rest) (OM t u):=by
 exists 27
 refine Wv (bP (h1 pins s σ H { D with nx:=u D } I h) fun f s1 q=>?_)
 cases f with
 | next =>
  obtain⟨σ',H',I',q⟩:=q
  exact h2 pins s1 σ' H' D I' q
 | ret v=>exact q
 | brk=>exact q
 | cont=>exact q
theorem ao(h1:PS X st t):G2 X [st] t:=by
 exists 27
 refine Wv (bP (h1 pins s σ H D I h) fun f s1 q=>?_)
 cases f with
 | next=>exact Ww q
 | ret v=>exact q
 | brk=>exact q
 | cont=>exact q
theorem Inv.quiet(I:Inv X pins σ H s):interactive X.env=false:=by simp[interactive,I.ok.kind]
def aiO(te:TE):TS:=fun D σ H=>te σ H fun _ H1=>D.nx σ H1
theorem bD(he:PE X e te)(hs:WW e none pos.line X.env=pure false:=by rfl):PS X (.Expr e pos) (aiO te):=by
 exists 27
 exact wpAny_Expr_any (bP #[63] fun v s1 ⟨x,H1,I1,r1,q1⟩=>⟨σ,H1,I1,q1⟩) I.quiet hs
def aiU(te:TE):TS:=fun D σ H=>te σ H D.rt
theorem aL(he:PE X e te):PS X (.Return (some e) pos) (aiU te):=by
 exists 27
 exact wpAny_Return_some (bP #[63] fun v s1 ⟨x,H1,I1,r1,q1⟩=>⟨x,σ,H1,I1,r1,q1⟩)
def OL(c:TT)(t u:TS):TS:=fun D σ H=>c σ H fun b H1=>if b=true then t D σ H1 else u D σ H1
theorem cz{a b:List Stmt}(hc:PT X c tc)(ha:G2 X a t)(hb:G2 X b u):PS X (.If c a b pos) (OL tc t u):=by
 exists 27
 refine wpAny_If (bP (hc pins s σ H _ I h) fun d s1 ⟨H1,I1,q1⟩=>?_)
 cases d with
 | true=>exact ha pins s1 σ H1 D I1 q1
 | false=>exact hb pins s1 σ H1 D I1 q1
def afI:TS:=fun _ _ _=>False
theorem aaw:PS X st afI:=fun _ _ _ _ _ _ h=>h.elim
end
abbrev TG:=V->St->Hp->(St->Hp->Prop)->Prop
abbrev TGs:=List V->St->Hp->(St->Hp->Prop)->Prop
def PG(X:Cx)(target:Expr)(t:TG):Prop:=
 ∀ (pins:List #[58]) (s:qV) (σ:St) (H:Hp) (v:V) (u:Value) (Q:St->Hp->Prop),Inv X pins σ H s->RelV v u->t v σ H Q ->
  wpAny #[4] X.A (assign target X.env u) (fun _ s'=>∃ σ' H',Inv X pins σ' H' s'/\Q σ' H') X.xe s
def PGs(X:Cx)(ts:List Expr)(t:TGs):Prop:=
 ∀ (pins:List #[58]) (s:qV) (σ:St) (H:Hp) (vs:List V) (us:List Value) (Q:St->Hp->Prop),Inv X pins σ H s->Vals vs us->t vs σ H Q ->
  wpAny #[4] X.A (assignInOrder ((qZ ts X.env).map (·.2)) us) (fun _ s'=>∃ σ' H',Inv X pins σ' H' s'/\Q σ' H') X.xe s
abbrev adL:=V->V->V->Hp->(Hp->Prop)->Prop
def agK(X:Cx)(t:adL):Prop:=
 ∀ (pins:List #[58]) (s:qV) (σ:St) (H:Hp) (o i v:V) (ov iv u:Value) (Q:Hp->Prop),Inv X pins σ H s->RelV o ov->RelV i iv->RelV v u->t o i v H Q ->
  wpAny #[4] X.A (setItem ov iv u) (fun _ s'=>∃ H',Inv X pins σ H' s'/\Q H') X.xe s
section
def bB(i:Nat):TG:=fun v σ H Q=>Q (σ.set i (some v)) H
theorem acs(hN:X.N.Nodup)(hi:X.N[i]?=some x)(hx:Loc X.env.scope x)(hf:X.fn x=true\/X.env.scope.names.lookup x=some .local:=by first|exact .inl rfl|exact .inr rfl|assumption):PG X (.Name x pos) (bB i):=by
 intro pins s σ H v u Q I r h
 exact Wh (AL I hN hi hx r (fun s' I'=>⟨_,H,I',h⟩) hf)
def akv:TGs:=fun vs σ H Q=>vs=[]/\Q σ H
def ag4(t:TG)(u:TGs):TGs:=fun vs σ H Q=>∃ v r,vs=v :: r/\t v σ H fun σ' H'=>u r σ' H' Q
theorem oj:PGs X [] akv:=by
 intro pins s σ H vs us Q I r h
 obtain⟨e,h⟩:=h
 subst e
 cases r
 exact assignInOrder_nil ⟨σ,H,I,h⟩
theorem bL{t:TG}{u:TGs}(h1:PG X e t)(h2:PGs X es u)(hs:(qZ (e :: es) X.env).map (·.2)=assign e X.env :: (qZ es X.env).map (·.2):=by rfl):PGs X (e :: es) (ag4 t u):=by
 intro pins s σ H vs us Q I r h
 obtain⟨v,vr,e1,h⟩:=h
 subst e1
 cases r with
 | cons r rr =>
  rw[hs]
  refine assignInOrder_cons (bP (h1 pins s σ H _ _ _ I r h) fun _ s1 ⟨σ1,H1,I1,q1⟩=>?_)
  exact h2 pins s1 σ1 H1 _ _ Q I1 rr q1
def ag5(K:Yv)(n:Nat)(t:TGs):TG:=fun v σ H Q=>∃ a xs,v=.ref a/\mT K H a xs/\xs.length=n/\t xs σ H Q
theorem wG{k:Nat}{t:TGs}(hc:X.calm=true)(h:PGs X es t)(hn:(qZ es X.env).length=n:=by rfl)(tR:(qZ es X.env).findIdx? (·.1)=none:=by rfl):PG X (.Tuple es k pos) (ag5 X.K n t):=by
 intro pins s σ H v u Q I r hw
 obtain⟨a,xs,e1,hq,hl,hw⟩:=hw
 subst e1
 cases r
 obtain⟨aV,rv,ht,hz⟩:=I.tuple hq
 refine assign_Tuple_tuple (I.ok.hd hc) ht (by simp[hn,<- hl,rv.length]) tR fun h' hx=>?_
 have I1:Inv X pins σ H { s with heap:=h' }:=I.kept (t' := s.toks) fun b o e=>hx b o (jM (jI e)) e
 exact h pins _ σ H xs _ Q I1 (by simpa using rv) hw
def akw(to ti:TE)(t:adL):TG:=fun v σ H Q=>to σ H fun o H1=>ti σ H1 fun i H2=>t o i v H2 fun H3=>Q σ H3
theorem afi{o i:Expr}{to ti:TE}{t:adL}(ho:PE X o to)(hi:PE X i ti)(hs:agK X t)(ha:∀ v,assign (.Subscript o i pos) X.env v=(do
   let ov <- holding [v] (eval o X.env)
   let iv <- holding [v,ov] (eval i X.env)
   standAt pos
   holding [v,ov,iv] (setItem ov iv v)
   release [v,ov,iv] []):=by intro _;rfl):PG X (.Subscript o i pos) (akw to ti t):=by
 intro pins s σ H v u Q I r h
 rw[ha]
 refine Wj (YC (bP (ho pins s σ H _ I h) fun ov s1 ⟨x,H1,I1,r1,q1⟩=>?_))
 refine Wj (YC (bP (hi pins s1 σ H1 _ I1 q1) fun iv s2 ⟨y,H2,I2,r2,q2⟩=>?_))
 refine Wj (Yn (Wj (YC (bP (hs pins s2 σ H2 x y v ov iv u _ I2 r1 r2 r q2) fun _ s3 ⟨H3,I3,q3⟩=>?_))))
 exact wpAny_release ⟨σ,H3,I3,q3⟩
def wM(te:TE)(g:TG):TS:=fun D σ H=>te σ H fun x H1=>g x σ H1 D.nx
theorem HS{g:TG}(he:PE X e te)(hg:PG X tg g)(hs:swapsWithSole [tg] e pos.line X.env=pure false:=by rfl)(hw:swappedStores [tg] e X.env=pure none:=by rfl)(h1:(qZ [tg] X.env).map (·.2)=[assign tg X.env]:=by rfl):PS X (.Assign [tg] e pos) (wM te g):=by
 exists 27
 refine wpAny_Assign_stores (bP #[63] fun v s1 ⟨x,H1,I1,r1,q1⟩=>?_) hs hw
 rw[h1]
 exact bP (hg pins s1 σ H1 x v _ I1 r1 q1) fun _ s2 q=>q
theorem afk(hN:X.N.Nodup)(hi:X.N[i]?=some x)(hx:Loc X.env.scope x)(he:PE X e te)(hs:WW e (some (.Name x pos')) pos.line X.env=pure false:=by rfl)(hf:X.fn x=true\/X.env.scope.names.lookup x=some .local:=by first|exact .inl rfl|exact .inr rfl|assumption):
  PS X (.Assign [.Name x pos'] e pos) (wM te (bB i)):=by
 exists 27
 refine wpAny_Assign_Name (bP #[63] fun v s1 ⟨y,H1,I1,r1,q1⟩=>?_) hs
 exact AL I1 hN hi hx r1 (fun s2 I2=>⟨_,H1,I2,q1⟩) hf
end
section
def pX(c:TT)(tb:TS):TS:=fun D σ H=>∃ W:Nat->St->Hp->Prop,(∃ m,W m σ H)/\∀ m σ H,W m σ H ->
 c σ H fun b H1=>if b=true then ∃ N:St->Hp->Prop,(∀ σ' H',N σ' H'->∃ m',m'<m/\W m' σ' H')/\tb { D with nx:=N,ct:=N,bk:=D.nx } σ H1 else D.nx σ H1
theorem mE(hp:PassesOwn #[4] X.A X.env X.xe)(hc:PT X c tc)(hb:G2 X body tb):PS X (.While c body [] pos) (pX tc tb):=by
 exists 27
 obtain⟨W,⟨m0,w0⟩,turn⟩:=h
 refine wpAny_While (codeAny_whileLoop (fun n s'=>∃ σ' H',Inv X pins σ' H' s'/\W n σ' H') ?_ m0 ⟨σ,H,I,w0⟩)
 rintro n s1 ⟨σ1,H1,I1,w1⟩
 refine YW hp (bP (hc pins s1 σ1 H1 _ I1 (turn n σ1 H1 w1)) fun b s2 ⟨H2,I2,q2⟩=>?_)
 cases b with
 | true =>
  obtain⟨N,hN,q2⟩:=q2
  rw[if_pos rfl]
  refine YW hp (bP (hb pins s2 σ1 H2 _ I2 q2) fun f s3 q3=>?_)
  cases f with
  | next =>
   obtain⟨σ3,H3,I3,n3⟩:=q3
   obtain⟨m',hm,w3⟩:=hN σ3 H3 n3
   exact⟨m',hm,σ3,H3,I3,w3⟩
  | cont =>
   obtain⟨σ3,H3,I3,n3⟩:=q3
   obtain⟨m',hm,w3⟩:=hN σ3 H3 n3
   exact⟨m',hm,σ3,H3,I3,w3⟩
  | brk=>exact q3
  | ret v=>exact q3
 | false =>
  rw[if_neg jd]
  exact Ww ⟨σ1,H2,I2,q2⟩
end
structure It where
 go:Nat->Hp->Prop
 yld:Nat->Hp->V->Hp->Prop
 stop:Nat->Hp->Prop
def rE(X:Cx)(pins:List #[58])(H:Hp)(b:Qu):Prop:=
 H b=none/\b≠X.env.locals/\b∉X.fs/\(b∈X.ex\/X.s₀.heap.objs.size<=b)/\(∀ x c,X.env.cells.lookup x=some c->c≠b)/\∀ p∈X.pn++pins,p.1≠b
theorem Inv.Bf(I:Inv X pins σ H s)(hb:s.heap.objs.size<=b)(hn:H' b=none):rE X pins H' b:=by
 refine⟨hn,JX (jh I.lt hb),I.amm hb,.inr (ji I.sz hb),fun x c e z=>?_,fun p hp z=>?_⟩
 ·obtain⟨v,q⟩:=I.cell x c e
  exact absurd (jh q.lt (by rw[z];exact hb)) (Ji _)
 ·exact absurd (jh (jI (I.pin p hp).1) (by rw[z];exact hb)) (Ji _)
structure Turn(P:qR)(w:World)(K:Yv)(tg:Expr)(J:It)(fp:List Qu)(it:Qu)(tn:Nat->Heap->Prop):Prop where
 mem:it∈fp
 obj:∀ i h,tn i h->∀ b∈fp,∃ o,h.get? b=some o/\∀ v,o.data≠.cell v
 keep:∀ i h h',tn i h->(∀ b∈fp,∀ o,h.get? b=some o->h'.get? b=some o)->tn i h'
 item:∀ (X:Cx),X.prog=P->X.w=w->X.K=K->X.calm=true->∀ (i:Nat) (pins:List #[58]) (s:qV) (σ:St) (H:Hp) (E:Value->qV->Prop),Inv X pins σ H s->(∀ b∈fp,rE X pins H b)->tn i s.heap->J.go i H ->
  wpAny #[31] X.A (pyNext (.ref it)) (fun r s1=>∃ u,r=some u /\
   wpAny #[31] X.A (letOwnedTupleGo tg (.ref it) u) (fun _ s2=>∃ x H',Inv X pins σ H' s2/\RelV x u/\J.yld i H x H'/\tn (i+1) s2.heap/\∀ b∈fp,H' b=none) E s1) E s
 done:∀ (X:Cx),X.prog=P->X.w=w->X.K=K->X.calm=true->∀ (i:Nat) (pins:List #[58]) (s:qV) (σ:St) (H:Hp) (E:Value->qV->Prop),Inv X pins σ H s->(∀ b∈fp,rE X pins H b)->tn i s.heap->J.stop i H ->
  wpAny #[31] X.A (pyNext (.ref it)) (fun r s1=>r=none/\Inv X pins σ H s1) E s
 self:∀ (A:Around) (i:Nat) (s:qV) (Q:Value->qV->Prop) (E:Value->qV->Prop),tn i s.heap->Q (.ref it) s->wpAny #[31] A (pyIter (.ref it)) Q E s
abbrev TI:=St->Hp->(It->Hp->Prop)->Prop
def PIE(X:Cx)(pins:List #[58])(σ:St)(tg:Expr)(R:It->Hp->Prop)(itv:Value)(s2:qV):Prop:=
 ∃ (it:Qu) (fp:List Qu) (tn:Nat->Heap->Prop) (J:It) (H':Hp),itv=.ref it/\Inv X pins σ H' s2/\Turn X.prog X.w X.K tg J fp it tn/\tn 0 s2.heap/\(∀ b∈fp,rE X pins H' b)/\R J H'
def PI(X:Cx)(tg iter:Expr)(wi:TI):Prop:=
 ∀ (pins:List #[58]) (s:qV) (σ:St) (H:Hp) (R:It->Hp->Prop),Inv X pins σ H s->wi σ H R ->
  wpAny #[4] X.A (eval iter X.env) (fun v s1=>wpAny #[4] X.A (pyIter v) (PIE X pins σ tg R) X.xe s1) X.xe s
theorem Fd{M:Model}{o:Obj}{n:String}{vs:Array Value}{Q:Unit->qV->Prop}(ho:s.heap.get? it=some o)(hc:o.cls=.type n)(hd:o.data=.fields vs)(hn:["enumerate","zip","dict_itemiterator","dict_reverseitemiterator","odict_iterator","itertools.zip_longest","itertools.pairwise"].contains n=false)(hQ:Q () s):wpAny M A (letOwnedTupleGo tg (.ref it) u) Q E s:=by
 unfold letOwnedTupleGo
 cases tg<;>first
  | exact YX hQ
  | (cases u<;>first
    | exact YX hQ
    | (refine Wj (YL ho ?_)
       rw[hc,hd]
       show wpAny M A (if (["enumerate","zip","dict_itemiterator","dict_reverseitemiterator","odict_iterator","itertools.zip_longest","itertools.pairwise"].contains n&&vs[0]?==some (rawInt _))=true then _ else _) Q E s
       rw[if_neg (by intro h;rw[hn,Qe]at h;cases h)]
       exact YX hQ))
def Itl(K:Yv)(a:Qu):It:=
 ⟨fun i H=>∃ xs x,lh K H a xs/\xs[i]?=some x,fun i H x H'=>H'=H/\∀ xs,lh K H a xs->xs[i]?=some x,fun i H=>∃ xs,lh K H a xs/\xs.length<=i⟩
def Itt(K:Yv)(a:Qu):It:=
 ⟨fun i H=>∃ xs x,mT K H a xs/\xs[i]?=some x,fun i H x H'=>H'=H/\∀ xs,mT K H a xs->xs[i]?=some x,fun i H=>∃ xs,mT K H a xs/\xs.length<=i⟩
def Itr(lo:Int)(n:Nat):It:=⟨fun i _=>i<n,fun i H x H'=>H'=H/\x=.int (lo+i),fun i _=>n<=i⟩
theorem SU(a it:Qu):Turn P w K tg (Itl K a) [it] it (fun i h=>h.IsListIter it a i) where
 mem:=by simp
 obj:=fun i h st b hb=>by
  have e:b=it:=by simpa using hb
  subst e
  obtain⟨o,e,c,d⟩:=st
  exists 21
 keep:=fun i h h' st k=>st.at fun o e=>k it #[11] o e
 item:=by
  exists 0
  subst hP hw hK
  obtain⟨xs,x,hq,hx⟩:=hg
  obtain⟨aV,rv,p,hz⟩:=I.list hq
  obtain⟨u,hu,ru⟩:=rv.get hx
  exists 2
  refine Yf st p.isList (x:=u) (by simpa using hu) fun h' Ea sb=>?_
  exists 4
  obtain⟨o,e,c,d⟩:=id Ea
  exact⟨u,rfl,Fd (s:={ s with heap:=h' }) e c d #[8] ⟨x,H,I1,ru,⟨rfl,fun ys hy=>by rw[I.DG hy hq];exact hx⟩,Ea,fun b hb=>(hf b hb).1⟩⟩
 done:=by
  exists 0
  subst hP hw hK
  obtain⟨xs,hq,hx⟩:=hg
  obtain⟨aV,rv,p,hz⟩:=I.list hq
  exists 2
  have hl:=rv.length
  exact Ye (I.ok.hd hc) st p.isList (by simp;omega) fun h' eb=>⟨rfl,I.turned (t' := s.toks) (fun b o hb e=>eb b o hb e) f0 f1 f3 f4 f5⟩
 self:=fun _ _ _ _ _ st h=>wpAny_pyIter_listiter st h
theorem OU(a it:Qu):Turn P w K tg (Itt K a) [it] it (fun i h=>h.IsTupleIter it a i) where
 mem:=by simp
 obj:=fun i h st b hb=>by
  have e:b=it:=by simpa using hb
  subst e
  obtain⟨o,e,c,d⟩:=st
  exists 21
 keep:=fun i h h' st k=>st.at fun o e=>k it #[11] o e
 item:=by
  exists 0
  subst hP hw hK
  obtain⟨xs,x,hq,hx⟩:=hg
  obtain⟨aV,rv,p,hz⟩:=I.tuple hq
  obtain⟨u,hu,ru⟩:=rv.get hx
  exists 2
  refine wpAny_pyNext_tuple_item st (show s.heap.IsTuple a aV.toArray from p) (x:=u) (by simpa using hu) fun h' Ea sb=>?_
  exists 4
  obtain⟨o,e,c,d⟩:=id Ea
  exact⟨u,rfl,Fd (s:={ s with heap:=h' }) e c d #[8] ⟨x,H,I1,ru,⟨rfl,fun ys hy=>by rw[I.FW hy hq];exact hx⟩,Ea,fun b hb=>(hf b hb).1⟩⟩
 done:=by
  exists 0
  subst hP hw hK
  obtain⟨xs,hq,hx⟩:=hg
  obtain⟨aV,rv,p,hz⟩:=I.tuple hq
  exists 2
  have hl:=rv.length
  exact wpAny_pyNext_tuple_end (I.ok.hd hc) st (show s.heap.IsTuple a aV.toArray from p) (by simp;omega) fun h' eb=>⟨rfl,I.turned (t' := s.toks) (fun b o hb e=>eb b o hb e) f0 f1 f3 f4 f5⟩
 self:=fun _ _ _ _ _ st h=>wpAny_pyIter_tupleiter st h
theorem OT(it:Qu)(lo:Int)(n:Nat):Turn P w K tg (Itr lo n) [it] it (fun i h=>IsRangeIter h it (lo+(i:Nat)*1) ((n:Int)-(i:Nat)) 1) where
 mem:=by simp
 obj:=fun i h st b hb=>by
  have e:b=it:=by simpa using hb
  subst e
  exact⟨_,st,fun v z=>by
   have z':Data.fields _=Data.cell v:=z
   cases z'⟩
 keep:=fun i h h' st k=>k it #[11] _ st
 item:=by
  exists 0
  subst hP hw hK
  exists 2
  have W:=Walks.range (prog:=X.prog) (w:=X.w) (I.ok.hd hc) it lo 1 n
  refine W.item i s _ _ hg st fun v h' tk hv Ea kk=>?_
  obtain⟨t,rfl⟩:=hv
  have I1:Inv X pins σ H { s with heap:=h',toks:=tk }:=I.turned (fun b o hb e=>kk b o (by simpa using hb) e) f0 f1 f3 f4 f5
  refine⟨_,rfl,Fd (s:={ s with heap:=h',toks:=tk }) (n := "range_iterator") Ea rfl rfl #[8] ⟨.int (lo+i),H,I1,⟨t,?_⟩,⟨rfl,rfl⟩,Ea,fun b hb=>(hf b hb).1⟩⟩
  rw[Qq]
 done:=by
  exists 0
  subst hP hw hK
  exists 2
  exact wpAny_pyNext_range_end (I.ok.hd hc) st (by have:n<=i:=hg;omega) fun h' eb=>⟨rfl,I.turned (t' := s.toks) (fun b o hb e=>eb b o hb e) f0 f1 f3 f4 f5⟩
 self:=fun _ _ _ _ _ st h=>wpAny_pyIter_rangeiter st h
variable{wi:TI}
section
def ahZ(K:Yv)(tl:TE):TI:=fun σ H R=>tl σ H fun x H1=>∃ a,x=.ref a/\(∃ xs,lh K H1 a xs)/\R (Itl K a) H1
def alP(K:Yv)(tl:TE):TI:=fun σ H R=>tl σ H fun x H1=>∃ a,x=.ref a/\(∃ xs,mT K H1 a xs)/\R (Itt K a) H1
theorem cC(hl:PE X l tl):PI X tg l (ahZ X.K tl):=by
 intro pins s σ H R I h
 exists 18
 obtain⟨a,e,⟨xs,hq⟩,q⟩:=q1
 subst e
 cases r1
 obtain⟨aV,rv,p,hz⟩:=I1.list hq
 refine YZ p.isList ?_
 refine⟨s1.heap.objs.size,[s1.heap.objs.size],_,_,H1,rfl,I1.kept (t' := s1.toks) fun b o e=>jA _ e,SU a _,⟨_,jH _ rfl,rfl,rfl⟩,fun b hb=>?_,q⟩
 exists 26
 subst e
 exact I1.Bf (jF _) (I1.hok.fresh (jF _))
theorem lF(hl:PE X l tl):PI X tg l (alP X.K tl):=by
 intro pins s σ H R I h
 exists 18
 obtain⟨a,e,⟨xs,hq⟩,q⟩:=q1
 subst e
 cases r1
 obtain⟨aV,rv,p,hz⟩:=I1.tuple hq
 refine Yc (show s1.heap.IsTuple a aV.toArray from p) ?_
 refine⟨s1.heap.objs.size,[s1.heap.objs.size],_,_,H1,rfl,I1.kept (t' := s1.toks) fun b o e=>jA _ e,OU a _,⟨_,jH _ rfl,rfl,rfl⟩,fun b hb=>?_,q⟩
 exists 26
 subst e
 exact I1.Bf (jF _) (I1.hok.fresh (jF _))
theorem aaI{R:It->Hp->Prop}{hi:Int}{t u v:Tok}{tk:Nat}(I:Inv X pins σ H s)(h1 : -(2^62)<=lo)(h2:lo<2^62)(h3 : -(2^62)<=hi)(h4:hi<2^62)(q:R (Itr lo (hi-lo).toNat) H):wpAny #[4] X.A (pyIter #[13]) (PIE X pins σ tg R) E { s with heap:=s.heap.push { cls:=.type "range",data:=.fields #[.int lo t,.int hi u,.int 1 v] },toks:=tk }:=by
 refine wpAny_pyIter_range (IsRange.new ..) (small_one h1 h2 h3 h4) ?_
 have I1:Inv X pins σ H { s with heap:=s.heap.push { cls:=.type "range",data:=.fields #[.int lo t,.int hi u,.int 1 v] },toks:=tk }:=I.kept fun b o e=>jA _ e
 refine⟨(s.heap.push { cls:=.type "range",data:=.fields #[.int lo t,.int hi u,.int 1 v] }).objs.size,[(s.heap.push { cls:=.type "range",data:=.fields #[.int lo t,.int hi u,.int 1 v] }).objs.size],_,_,H,rfl,
  I1.kept (t' := tk) fun b o e=>jA _ e,OT _ lo (hi-lo).toNat,?_,fun b hb=>?_,q⟩
 ·have e1:lo+((0:Nat):Int)*1=lo:=by simp
  have e2:(((hi-lo).toNat:Nat):Int)-((0:Nat):Int)=Gz lo hi 1:=by rw[rangeSize_one];split<;>omega
  show IsRangeIter _ _ (lo+((0:Nat):Int)*1) ((((hi-lo).toNat:Nat):Int)-((0:Nat):Int)) 1
  rw[e1,e2]
  exact jH _ rfl
 ·have e:b=(s.heap.push { cls:=.type "range",data:=.fields #[.int lo t,.int hi u,.int 1 v] }).objs.size:=by simpa using hb
  subst e
  exact I1.Bf (jF _) (I1.hok.fresh (jF _))
def ah0(ta:TA):TI:=fun σ H R=>ta σ H fun vs H1=>∃ j:Int,vs=[.int j]/\-(2^62)<=j/\j<2^62/\R (Itr 0 j.toNat) H1
theorem cx{a:Expr}{ta:TA}(hg:Gl X "range")(hm:X.mg "range" = none)(ha:PA X [a] ta)(hs:WU [a] X.env=[(false,eval a X.env)]:=by rfl):PI X tg (.Call (.Name "range" p) [a] [] pos) (ah0 ta):=by
 intro pins s σ H R I h
 refine Qz (mB I hg hm boot_range (yG (bP (ha pos pins s σ H _ I h) fun us s1 ⟨vs,H1,I1,r1,q1⟩=>?_) hs rfl))
 obtain⟨j,e,q1,q2,q⟩:=q1
 subst e
 cases r1 with
 | cons r rr =>
  cases rr
  obtain⟨t,rfl⟩:=r
  exact call_range_1 (aaI I1 #[0] #[0] q1 q2 (by simpa using q))
def Ec(wi:TI)(g:TG)(tb:TS):TS:=fun D σ H=>wi σ H fun J H1=>∃ W:Nat->Nat->St->Hp->Prop,(∃ m,W 0 m σ H1)/\∀ i m σ H,W i m σ H ->
 (J.stop i H/\D.nx σ H)\/(J.go i H/\∃ N:St->Hp->Prop,#[18]/\∀ x H',J.yld i H x H'->g x σ H' fun σ2 H2=>tb { D with nx:=N,ct:=N,bk:=D.nx } σ2 H2)
def HP(fp:List Qu)(h:Heap):List #[58]:=fp.filterMap fun b=>(h.get? b).map fun o=>(b,o)
theorem dX{o:Obj}(hb:b∈fp)(e:h.get? b=some o):(b,o)∈HP fp h:=ZM.mpr ⟨b,hb,by rw[e];rfl⟩
theorem Sk{p:Qu×Obj}(hp:p∈HP fp h):p.1∈fp/\h.get? p.1=some p.2:=by
 obtain⟨b,hb,e⟩:=ZM.mp hp
 cases q:h.get? b with
 | none=>rw[q]at e;cases e
 | some o =>
  rw[q]at e
  have e':(b,o)=p:=Option.some.inj e
  subst e'
  exact⟨hb,q⟩
theorem Inv.pinned(I:Inv X pins σ H s)(hf:∀ b∈fp,rE X pins H b)(ho:∀ b∈fp,∃ o,s.heap.get? b=some o/\∀ v,o.data≠.cell v):Inv X (pins++HP fp s.heap) σ H s:=
 I.P8 fun p hp=>(zB.mp hp).elim (fun z=>I.pin p (jR _ z)) fun z=>by
  obtain⟨hb,e⟩:=Sk z
  obtain⟨f0,f1,f2,_⟩:=hf p.1 hb
  obtain⟨o,e',d⟩:=ho p.1 hb
  rw[e]at e';cases e'
  exact⟨e,f0,f1,f2,d⟩
theorem Inv.pA(I:Inv X (pins++pl) σ H s):Inv X pins σ H s:=I.P8 fun p hp=>I.pin p (jR _ (jz _ hp))
theorem bX{g:TG}(hp:PassesOwn #[4] X.A X.env X.xe)(hc:X.calm=true)(hi:PI X tg iter wi)(hg:PG X tg g)(hb:G2 X body tb)(hs:∀ x,foldedSetIterable iter X.env x=pure x:=by intro _;rfl):PS X (.For tg iter body [] pos) (Ec wi g tb):=by
 exists 27
 refine wpAny_For #[57] hs
 obtain⟨it,fp,tn,J,H2,e,I2,T,OK,f2,W,⟨m0,w0⟩,turn⟩:=h2
 subst e
 have Eb:∀ {H':Hp},(∀ b∈fp,H' b=none)->∀ b∈fp,rE X pins H' b:=fun hn b hb=>⟨hn b hb,(f2 b hb).2⟩
 refine codeAny_forLoop_any (fun n s'=>∃ i σ' H',Inv X pins σ' H' s'/\tn i s'.heap/\(∀ b∈fp,H' b=none)/\W i n σ' H') ?_ m0 ⟨0,σ,H2,I2,OK,fun b hb=>(f2 b hb).1,w0⟩
 rintro n s3 ⟨i,σ3,H3,I3,st3,fr3,w3⟩
 rcases turn i n σ3 H3 w3 with⟨stop,qn⟩|⟨go,N,hN,step⟩
 ·refine YW hp (bP (T.done X rfl rfl rfl hc i pins s3 σ3 H3 X.xe I3 (Eb fr3) st3 stop) fun r s4 ⟨hr,I4⟩=>?_)
  subst hr
  exact Ww ⟨σ3,H3,I4,qn⟩
 ·refine YW hp (bP (T.item X rfl rfl rfl hc i pins s3 σ3 H3 X.xe I3 (Eb fr3) st3 go) fun r s4 ⟨u,hr,h4⟩=>?_)
  subst hr
  refine YW hp (bP h4 fun _ s5 ⟨x,H5,I5,r5,y5,SN,fr5⟩=>?_)
  have I5' := I5.pinned (Eb fr5) (T.obj _ _ SN)
  refine YW hp (bP (hg _ s5 σ3 H5 x u _ I5' r5 (step x H5 y5)) fun _ s6 ⟨σ6,H6,I6,q6⟩=>?_)
  refine YW hp (bP (hb _ s6 σ6 H6 _ I6 q6) fun f s7 q7=>?_)
  have again:∀ {σ7:St} {H7:Hp},Inv X (pins++HP fp s5.heap) σ7 H7 s7->N σ7 H7->∃ m,m<n/\∃ i σ' H',Inv X pins σ' H' s7/\tn i s7.heap/\(∀ b∈fp,H' b=none)/\W i m σ' H' := fun {σ7 H7} I7 n7=>by
   obtain⟨m',hm,w7⟩:=hN σ7 H7 n7
   refine⟨m',hm,i+1,σ7,H7,I7.pA,T.keep _ _ _ SN fun b hb o e=>(I7.pin (b,o) (jR _ (jR _ (dX hb e)))).1,fun b hb=>?_,w7⟩
   obtain⟨o,e,d⟩:=T.obj _ _ SN b hb
   exact(I7.pin (b,o) (jR _ (jR _ (dX hb e)))).2.1
  cases f with
  | next=>obtain⟨σ7,H7,I7,n7⟩:=q7;exact again I7 n7
  | cont=>obtain⟨σ7,H7,I7,n7⟩:=q7;exact again I7 n7
  | brk=>obtain⟨σ7,H7,I7,q7⟩:=q7;exact⟨σ7,H7,I7.pA,q7⟩
  | ret v=>obtain⟨x7,σ7,H7,I7,r7,q7⟩:=q7;exact⟨x7,σ7,H7,I7.pA,r7,q7⟩
end
theorem dW{g:TG}(Pv:Nat->St->Hp->Prop)(h0:Pv 0 σ H)(hl:∀ i σ H,i<=xs.length->Pv i σ H->lh K H a xs)(hs:∀ i x σ H,xs[i]?=some x->Pv i σ H->g x σ H fun σ2 H2=>tb { D with nx:=Pv (i+1),ct:=Pv (i+1),bk:=D.nx } σ2 H2)(hd:∀ σ H,Pv xs.length σ H->D.nx σ H):
  ∃ W:Nat->Nat->St->Hp->Prop,(∃ m,W 0 m σ H)/\∀ i m σ H,W i m σ H ->
   ((Itl K a).stop i H/\D.nx σ H)\/((Itl K a).go i H/\∃ N:St->Hp->Prop,#[18]/\∀ x H',(Itl K a).yld i H x H'->g x σ H' fun σ2 H2=>tb { D with nx:=N,ct:=N,bk:=D.nx } σ2 H2):=by
 exists 9
 rintro i m σ H ⟨rfl,hi,p⟩
 have q:=hl i σ H hi p
 by_cases cT:i<xs.length
 ·exists 6
  obtain⟨e,y⟩:=y
  subst e
  exact hs i x σ _ (y xs q) p
 ·have e:i=xs.length:=by omega
  subst e
  exact .inl ⟨⟨xs,q,jF _⟩,hd σ H p⟩
theorem tD{g:TG}(Pv:Nat->St->Hp->Prop)(h0:Pv 0 σ H)(hl:∀ i σ H,i<=xs.length->Pv i σ H->mT K H a xs)(hs:∀ i x σ H,xs[i]?=some x->Pv i σ H->g x σ H fun σ2 H2=>tb { D with nx:=Pv (i+1),ct:=Pv (i+1),bk:=D.nx } σ2 H2)(hd:∀ σ H,Pv xs.length σ H->D.nx σ H):
  ∃ W:Nat->Nat->St->Hp->Prop,(∃ m,W 0 m σ H)/\∀ i m σ H,W i m σ H ->
   ((Itt K a).stop i H/\D.nx σ H)\/((Itt K a).go i H/\∃ N:St->Hp->Prop,#[18]/\∀ x H',(Itt K a).yld i H x H'->g x σ H' fun σ2 H2=>tb { D with nx:=N,ct:=N,bk:=D.nx } σ2 H2):=by
 exists 9
 rintro i m σ H ⟨rfl,hi,p⟩
 have q:=hl i σ H hi p
 by_cases cT:i<xs.length
 ·exists 6
  obtain⟨e,y⟩:=y
  subst e
  exact hs i x σ _ (y xs q) p
 ·have e:i=xs.length:=by omega
  subst e
  exact .inl ⟨⟨xs,q,jF _⟩,hd σ H p⟩
theorem fu{g:TG}(Pv:Nat->St->Hp->Prop)(h0:Pv 0 σ H)(hs:∀ i σ H,i<n->Pv i σ H->g (.int (lo+i)) σ H fun σ2 H2=>tb { D with nx:=Pv (i+1),ct:=Pv (i+1),bk:=D.nx } σ2 H2)(hd:∀ σ H,Pv n σ H->D.nx σ H):
  ∃ W:Nat->Nat->St->Hp->Prop,(∃ m,W 0 m σ H)/\∀ i m σ H,W i m σ H ->
   ((Itr lo n).stop i H/\D.nx σ H)\/((Itr lo n).go i H/\∃ N:St->Hp->Prop,#[18]/\∀ x H',(Itr lo n).yld i H x H'->g x σ H' fun σ2 H2=>tb { D with nx:=N,ct:=N,bk:=D.nx } σ2 H2):=by
 refine⟨fun i m σ H=>m=n-i/\i<=n/\Pv i σ H,⟨n,by simp,je _,h0⟩,?_⟩
 rintro i m σ H ⟨rfl,hi,p⟩
 by_cases cT:i<n
 ·refine .inr ⟨cT,Pv (i+1),fun σ' H' p'=>⟨n-(i+1),by omega,rfl,cT,p'⟩,fun x H' y=>?_⟩
  obtain⟨e,y⟩:=y
  subst e y
  exact hs i σ _ cT p
 ·have e:i=n:=by omega
  subst e
  exact .inl ⟨jF _,hd σ H p⟩
abbrev R2:=V->V->Hp->VK->Prop
def wX(X:Cx)(f:Value->Value->qS Value)(r:R2):Prop:=
 ∀ (pins:List #[58]) (s:qV) (σ:St) (H:Hp) (x y:V) (v u:Value) (Q:VK),Inv X pins σ H s->RelV x v->RelV y u->r x y H Q ->
  wpAny #[4] X.A (f v u) #[59] X.xe s
def UnR(X:Cx)(f:Value->qS Value)(r:V->Hp->VK->Prop):Prop:=
 ∀ (pins:List #[58]) (s:qV) (σ:St) (H:Hp) (x:V) (v:Value) (Q:VK),Inv X pins σ H s->RelV x v->r x H Q ->
  wpAny #[4] X.A (f v) #[59] X.xe s
def ie(X:Cx)(f:Value)(r:List V->Hp->VK->Prop):Prop:=
 ∀ (pins:List #[58]) (s:qV) (σ:St) (H:Hp) (xs:List V) (us:List Value) (Q:VK),Inv X pins σ H s->Vals xs us->r xs H Q ->
  wpAny #[4] X.A (call f us) #[59] X.xe s
def aj1(X:Cx)(r:V->Hp->(Bool->Hp->Prop)->Prop):Prop:=
 ∀ (pins:List #[58]) (s:qV) (σ:St) (H:Hp) (x:V) (v:Value) (Q:Bool->Hp->Prop),Inv X pins σ H s->RelV x v->r x H Q ->
  wpAny #[4] X.A (truthy v) (TP X pins σ Q) X.xe s
def tOp(r:R2)(ta tb:TE):TE:=fun σ H Q=>ta σ H fun x H1=>tb σ H1 fun y H2=>r x y H2 Q
def tUn(r:V->Hp->VK->Prop)(ta:TE):TE:=fun σ H Q=>ta σ H fun x H1=>r x H1 Q
def rI(C:Int->Int->Prop)(g:Int->Int->V):R2:=fun x y H Q=>∃ i j,x=.int i/\y=.int j/\C i j/\Q (g i j) H
def rI0(g:Int->Int->V):R2:=fun x y H Q=>∃ i j,x=.int i/\y=.int j/\Q (g i j) H
def rU(g:Int->V):V->Hp->VK->Prop:=fun x H Q=>∃ i,x=.int i/\Q (g i) H
section
variable{a b:Expr}{tb:TE}
theorem adQ(ha:PE X a ta)(hb:PE X b tb){R:V->V->Hp->Prop}(I:Inv X pins σ H s)(h:ta σ H fun x H1=>tb σ H1 fun y H2=>R x y H2){f:Value->Value->qS Value}(hf:∀ v u s2 x y H2,Inv X pins σ H2 s2->RelV x v->RelV y u->R x y H2->wpAny #[4] X.A (f v u) Q X.xe s2):
  wpAny #[4] X.A (eval a X.env) (fun v s₁=>wpAny #[4] X.A (eval b X.env) (fun u s₂=>wpAny #[4] X.A (f v u) Q X.xe s₂) X.xe s₁) X.xe s:=by
 refine bP (ha pins s σ H _ I h) fun v s1 ⟨x,H1,I1,r1,q1⟩=>?_
 refine bP (hb pins s1 σ H1 _ I1 q1) fun u s2 ⟨y,H2,I2,r2,q2⟩=>?_
 exact hf v u s2 x y H2 I2 r1 r2 q2
theorem aE{op:Operator}{r:R2}(ho:wX X (binaryOp op) r)(ha:PE X a ta)(hb:PE X b tb):PE X (.BinOp a op b pos) (tOp r ta tb):=by
 exists 5
 exact wpAny_BinOp (adQ ha hb I h fun v u s2 x y H2 I2 rx ry q=>ho pins s2 σ H2 x y v u Q I2 rx ry q)
theorem aan{op:UnaryOp}{r:V->Hp->VK->Prop}(ho:UnR X (unaryOp op) r)(ha:PE X a ta):PE X (.UnaryOp op a pos) (tUn r ta):=by
 exists 5
 exact UnaryOp_ (bP (ha pins s σ H _ I h) fun v s1 ⟨x,H1,I1,r1,q1⟩=>ho pins s1 σ H1 x v Q I1 r1 q1)
theorem opI{f:Value->Value->qS Value}{C:Int->Int->Prop}{g:Int->Int->Int}(rule:∀ (i j:Int) (t u:Tok) (s:qV) (Q:Value->qV->Prop) (E:Value->qV->Prop),C i j->Q (.int (g i j) s.toks) { s with toks:=s.toks+1 }->wpAny #[4] X.A (f (.int i t) (.int j u)) Q E s):
  wX X f (rI C fun i j=>.int (g i j)):=by
 exists 20
 obtain⟨i,j,rfl,rfl,hc,q⟩:=h
 obtain⟨t,rfl⟩:=rx
 obtain⟨t',rfl⟩:=ry
 exact rule i j t t' s _ _ hc ⟨.int (g i j),H,I.tok _,⟨_,rfl⟩,q⟩
theorem aiq{f:Value->Value->qS Value}{g:Int->Int->Int}(rule:∀ (i j:Int) (t u:Tok) (s:qV) (Q:Value->qV->Prop) (E:Value->qV->Prop),Q (.int (g i j) s.toks) { s with toks:=s.toks+1 }->wpAny #[4] X.A (f (.int i t) (.int j u)) Q E s):
  wX X f (rI0 fun i j=>.int (g i j)):=by
 exists 20
 obtain⟨i,j,rfl,rfl,q⟩:=h
 obtain⟨t,rfl⟩:=rx
 obtain⟨t',rfl⟩:=ry
 exact rule i j t t' s _ _ ⟨.int (g i j),H,I.tok _,⟨_,rfl⟩,q⟩
theorem acj{f:Value->Value->qS Value}{g:Int->Int->Bool}(rule:∀ (i j:Int) (t u:Tok) (s:qV) (Q:Value->qV->Prop) (E:Value->qV->Prop),Q (.bool (g i j)) s->wpAny #[4] X.A (f (.int i t) (.int j u)) Q E s):
  wX X f (rI0 fun i j=>.bl (g i j)):=by
 exists 20
 obtain⟨i,j,rfl,rfl,q⟩:=h
 obtain⟨t,rfl⟩:=rx
 obtain⟨t',rfl⟩:=ry
 exact rule i j t t' s _ _ ⟨.bl (g i j),H,I,rfl,q⟩
def ajT(i j:Int):Prop:=0<j/\j<1073741824
def ajU(i j:Int):Prop:=0<=j/\j<=1000000/\i.natAbs<2^64
def ady(i j:Int):Prop:=(-(2^64)<i/\i<2^64)\/(-(2^64)<j/\j<2^64)
theorem ady.ok{i j:Int}(h:ady i j):IntMulOk i j:=by
 rcases h with⟨h1,h2⟩|⟨h1,h2⟩
 ·exact .of_left (intBits_le_64 h1 h2)
 ·exact .of_right (intBits_le_64 h1 h2)
theorem bx:wX X (binaryOp .Add) (rI0 fun i j=>.int (i+j)):=aiq fun _ _ _ _ _ _ _ q=>add_int q
theorem HK:wX X (binaryOp .Sub) (rI0 fun i j=>.int (i-j)):=aiq fun _ _ _ _ _ _ _ q=>sub_int q
theorem oA:wX X (binaryOp .Mult) (rI ady fun i j=>.int (i*j)):=opI fun _ _ _ _ _ _ _ hc q=>mul_int q hc.ok
theorem HI:wX X (binaryOp .FloorDiv) (rI ajT fun i j=>.int (i / j)):=opI fun i j _ _ _ _ _ hc q=>by
 have h1:(0:Int)<j:=hc.1
 have h2:j<1073741824:=hc.2
 exact floordiv_int #[0] (by rw[ZQ i #[0]];exact q) (.inl (PyProof.noPylong_small #[0]))
theorem cw:wX X (binaryOp .Mod) (rI (fun _ j=>0<j) fun i j=>.int (i%j)):=opI fun i j _ _ _ _ _ hc q=>by
 have h1:(0:Int)<j:=hc
 exact mod_int' #[0] (by rw[Int.fmod_eq_emod_of_nonneg i #[0]];exact q)
theorem ae4:wX X (binaryOp .Pow) (rI ajU fun i j=>.int (i^j.toNat)):=opI fun _ _ _ _ _ _ _ hc q=>pow_int_small hc.1 hc.2.1 hc.2.2 q
theorem unI{f:Value->qS Value}{g:Int->Int}(rule:∀ (i:Int) (t:Tok) (s:qV) (Q:Value->qV->Prop) (E:Value->qV->Prop),Q (.int (g i) s.toks) { s with toks:=s.toks+1 }->wpAny #[4] X.A (f (.int i t)) Q E s):
  UnR X f (rU fun i=>.int (g i)):=by
 intro pins s σ H x v Q I rx h
 obtain⟨i,rfl,q⟩:=h
 obtain⟨t,rfl⟩:=rx
 exact rule i t s _ _ ⟨.int (g i),H,I.tok _,⟨_,rfl⟩,q⟩
theorem OW:UnR X (unaryOp .USub) (rU fun i=>.int (-i)):=unI fun _ _ _ _ _ q=>neg_int q
end
def aiH:V->V->Bool
 | .non,.non=>true|.non,.int _=>true|.int _,.non=>true|.non,.bl _=>true|.bl _,.non=>true|.non,.str _=>true|.str _,.non=>true
 | .int _,.int _=>true|.bl _,.bl _=>true|.str _,.str _=>true|.Pd _,.Pd _=>true
 | .int _,.str _=>true|.str _,.int _=>true|.bl _,.str _=>true|.str _,.bl _=>true
 | _,_=>false
def rEq:R2:=fun x y H Q=>aiH x y=true/\Q (.bl (decide (x=y))) H
def rNe:R2:=fun x y H Q=>aiH x y=true/\Q (.bl (!decide (x=y))) H
theorem Pj{i j:Int}:decide (V.int i=V.int j)=(i==j):=by
 rw[zw]
 simp
theorem Tw{i j:Bool}:decide (V.bl i=V.bl j)=(i==j):=by
 rw[zw]
 simp
theorem Pk{i j:qW}:decide (V.str i=V.str j)=(i==j):=by
 rw[zw]
 simp
theorem Ph{i j:Array UInt8}:decide (V.Pd i=V.Pd j)=(i.toList==j.toList):=by
 rw[zw]
 cases i
 cases j
 simp
section
variable{a b:Expr}{tb:TE}
theorem bR{Q:VK}{k k':Bool}(I:Inv X pins σ H s)(q:Q (.bl k) H)(e:k=k'):EP X pins σ Q (.bool k') s:=by
 subst e
 exact⟨.bl k,H,I,rfl,q⟩
theorem eP:wX X (WC .Eq) rEq:=by
 exists 20
 obtain⟨hs,q⟩:=h
 cases x with
 | non =>
  cases rx
  cases y with
  | non=>cases ry;exact GS #[51]
  | bl j=>cases ry;exact GU #[51]
  | int j=>obtain⟨t',rfl⟩:=ry;exact Gh #[51]
  | str j=>obtain⟨t',rfl⟩:=ry;exact Gi #[51]
  | _=>exact absurd (show false=true from hs) jd
 | bl i =>
  cases rx
  cases y with
  | non=>cases ry;exact GV #[51]
  | bl j=>cases ry;exact eq_bool (bR I q Tw)
  | str j=>obtain⟨t',rfl⟩:=ry;exact GW #[51]
  | _=>exact absurd (show false=true from hs) jd
 | int i =>
  obtain⟨t,rfl⟩:=rx
  cases y with
  | non=>cases ry;exact Gj #[51]
  | int j=>obtain⟨t',rfl⟩:=ry;exact eq_int (bR I q Pj)
  | str j=>obtain⟨t',rfl⟩:=ry;exact Gk #[51]
  | _=>exact absurd (show false=true from hs) jd
 | str i =>
  obtain⟨t,rfl⟩:=rx
  cases y with
  | non=>cases ry;exact Gm #[51]
  | bl j=>cases ry;exact GX #[51]
  | int j=>obtain⟨t',rfl⟩:=ry;exact Gn #[51]
  | str j=>obtain⟨t',rfl⟩:=ry;exact eq_str (bR I q Pk)
  | _=>exact absurd (show false=true from hs) jd
 | Pd i =>
  obtain⟨t,rfl⟩:=rx
  cases y with
  | Pd j=>obtain⟨t',rfl⟩:=ry;exact PySem.W.eq_bytes (bR I q Ph)
  | _=>exact absurd (show false=true from hs) jd
 | _=>cases y<;>exact absurd (show false=true from hs) jd
theorem FC:wX X (WC .NotEq) rNe:=by
 exists 20
 obtain⟨hs,q⟩:=h
 cases x with
 | non =>
  cases rx
  cases y with
  | non=>cases ry;exact GY #[51]
  | bl j=>cases ry;exact GZ #[51]
  | int j=>obtain⟨t',rfl⟩:=ry;exact Gp #[51]
  | str j=>obtain⟨t',rfl⟩:=ry;exact Gq #[51]
  | _=>exact absurd (show false=true from hs) jd
 | bl i =>
  cases rx
  cases y with
  | non=>cases ry;exact Ga #[51]
  | bl j=>cases ry;exact ne_bool (bR I q (congrArg not Tw))
  | str j=>obtain⟨t',rfl⟩:=ry;exact Gb #[51]
  | _=>exact absurd (show false=true from hs) jd
 | int i =>
  obtain⟨t,rfl⟩:=rx
  cases y with
  | non=>cases ry;exact Gr #[51]
  | int j=>obtain⟨t',rfl⟩:=ry;exact ne_int (bR I q (congrArg not Pj))
  | str j=>obtain⟨t',rfl⟩:=ry;exact Gs #[51]
  | _=>exact absurd (show false=true from hs) jd
 | str i =>
  obtain⟨t,rfl⟩:=rx
  cases y with
  | non=>cases ry;exact Gu #[51]
  | bl j=>cases ry;exact Gd #[51]
  | int j=>obtain⟨t',rfl⟩:=ry;exact Gv #[51]
  | str j=>obtain⟨t',rfl⟩:=ry;exact ne_str (bR I q (congrArg not Pk))
  | _=>exact absurd (show false=true from hs) jd
 | Pd i =>
  obtain⟨t,rfl⟩:=rx
  cases y with
  | Pd j=>obtain⟨t',rfl⟩:=ry;exact PySem.W.ne_bytes (bR I q (congrArg not Ph))
  | _=>exact absurd (show false=true from hs) jd
 | _=>cases y<;>exact absurd (show false=true from hs) jd
theorem Lx:wX X (WC .Lt) (rI0 fun i j=>.bl (decide (i<j))):=acj fun _ _ _ _ _ _ _ q=>lt_int q
theorem adg:wX X (WC .LtE) (rI0 fun i j=>.bl (decide (i<=j))):=acj fun _ _ _ _ _ _ _ q=>le_int q
theorem FA:wX X (WC .Gt) (rI0 fun i j=>.bl (decide (j<i))):=acj fun _ _ _ _ _ _ _ q=>gt_int q
theorem P4:wX X (WC .GtE) (rI0 fun i j=>.bl (decide (j<=i))):=acj fun _ _ _ _ _ _ _ q=>ge_int q
theorem ae1:wX X (WC .Is) (fun x y H Q=>y=.non/\Q (.bl (decide (x=.non))) H):=by
 exists 20
 obtain⟨rfl,q⟩:=h
 cases ry
 refine is_none_gen (bR I q ?_)
 cases x<;>first
  | (cases rx;rfl)
  | (obtain⟨t,rfl⟩:=rx;rfl)
theorem aY(b:Expr){op:qA}(h:op≠.In:=by decide)(h2:op≠.NotIn:=by decide):qd op b=false:=by
 have e1:(op==CmpOp.In)=false:=by cases op<;>first|rfl|exact absurd rfl h
 have e2:(op==CmpOp.NotIn)=false:=by cases op<;>first|rfl|exact absurd rfl h2
 cases b<;>simp[qd,e1,e2]
theorem lV{op:qA}{r:R2}(ho:wX X (WC op) r)(ha:PE X a ta)(hb:PE X b tb)(hm:qd op b=false):PE X (.Compare a [op] [b] pos) (tOp r ta tb):=by
 exists 5
 exact wpAny_Compare1 (adQ ha hb I h fun v u s2 x y H2 I2 rx ry q=>ho pins s2 σ H2 x y v u Q I2 rx ry q) hm
def aiV(t:TE):TT:=fun σ H Q=>t σ H fun x H'=>∃ k,x=.bl k/\Q k H'
theorem aU{op:qA}{r:R2}(ho:wX X (WC op) r)(ha:PE X a ta)(hb:PE X b tb)(hm:qd op b=false):PT X (.Compare a [op] [b] pos) (aiV (tOp r ta tb)):=by
 exists 5
 refine YH (bP (ha pins s σ H _ I h) fun v s1 ⟨x,H1,I1,r1,q1⟩=>bP (hb pins s1 σ H1 _ I1 q1) fun u s2 ⟨y,H2,I2,r2,q2⟩ =>
  bP (ho pins s2 σ H2 x y v u _ I2 r1 r2 q2) fun c s3 ⟨z,H3,I3,r3,k,e,q3⟩=>?_) hm
 subst e
 cases r3
 exact Yq ⟨H3,I3,q3⟩
def agQ(K:Yv)(x:V)(H:Hp)(k:Bool):Prop:=
 match x with
 | .non=>k=false
 | .bl b=>k=b
 | .int i=>k=(i != 0)
 | .str y=>y.length<=sizeLine/\k=((y.length:Int) != 0)
 | .Pd y=>y.size<=sizeLine/\k=((y.size:Int) != 0)
 | .ref p=>(∃ xs,lh K H p xs/\k=!xs.isEmpty)\/(∃ xs,mT K H p xs/\k=!xs.isEmpty)\/∃ kvs,H p=some (.dK kvs)/\k=!kvs.isEmpty
 | _=>False
theorem MZ{kvs:List (κ×V)}{vs:List (κ×Value)}(r:KV kvs vs):(!vs.isEmpty)=!kvs.isEmpty:=by
 cases r<;>rfl
theorem Dw(r:Vals xs aV):(!aV.toArray.isEmpty)=!xs.isEmpty:=by
 cases r<;>simp
theorem DF:(sizeLine:Nat)<2^63:=by rw[WT];decide
theorem afM:aj1 X (fun x H Q=>∃ k,agQ X.K x H k/\Q k H):=by
 intro pins s σ H x v Q I rx h
 obtain⟨k,e,q⟩:=h
 have hl:=DF
 have hs:sizeLine=16777216:=WT
 cases x with
 | non =>
  cases rx
  have e':k=false:=e
  subst e'
  exact truthy_none ⟨H,I,q⟩
 | bl b =>
  cases rx
  have e':k=b:=e
  subst e'
  exact Yq ⟨H,I,q⟩
 | int i =>
  obtain⟨t,rfl⟩:=rx
  have e':k=(i != 0):=e
  subst e'
  exact PySem.P.truthy_int ⟨H,I,q⟩
 | str y =>
  obtain⟨t,rfl⟩:=rx
  obtain⟨hy,e'⟩:y.length<=sizeLine/\k=((y.length:Int) != 0):=e
  subst e'
  exact PySem.P.truthy_str #[0] ⟨H,I.tok _,q⟩
 | Pd y =>
  obtain⟨t,rfl⟩:=rx
  obtain⟨hy,e'⟩:y.size<=sizeLine/\k=((y.size:Int) != 0):=e
  subst e'
  exact PySem.W.truthy_bytes #[0] ⟨H,I.tok _,q⟩
 | ref p =>
  cases rx
  have e':(∃ xs,lh X.K H p xs/\k=!xs.isEmpty)\/(∃ xs,mT X.K H p xs/\k=!xs.isEmpty)\/∃ kvs,H p=some (.dK kvs)/\k=!kvs.isEmpty:=e
  rcases e' with⟨xs,hx,e'⟩|⟨xs,hx,e'⟩|⟨kvs,hx,e'⟩
  ·subst e'
   obtain⟨aV,r,pl,hz⟩:=I.list hx
   have hlen:=r.length
   exact wpAny_truthy_list pl.isList (by simp only[jP];omega) ⟨H,I.tok _,by rw[Dw r];exact q⟩
  ·subst e'
   obtain⟨aV,r,pl,hz⟩:=I.tuple hx
   have hlen:=r.length
   exact truthy_tuple pl (by simp only[jP];omega) ⟨H,I.tok _,by rw[Dw r];exact q⟩
  ·subst e'
   obtain⟨hz,hS,vs,r,m⟩:kvs.length<=sizeLine/\(p==WX)=false/\∃ vs,KV kvs vs/\s.heap.DictOf (bq X.prog X.w) p vs:=I.hok p _ hx
   have hlen:kvs.length=vs.length:=Paired.length r
   exact wpAny_truthy_dict hS m #[0] ⟨H,I.tok _,by rw[MZ r];exact q⟩
 | _=>exact(show False from e).elim
theorem AD(ha:PE X a ta)(he:∀ whole,isTrue a X.env whole=(do let v <- whole;standAt a.pos;holding [v] (truthy v))):
  PT X a (fun σ H Q=>ta σ H fun x H'=>∃ k,agQ X.K x H' k/\Q k H'):=by
 exists 5
 exact isTrue_plain (bP (ha pins s σ H _ I h) fun v s1 ⟨x,H1,I1,r1,q1⟩=>afM pins s1 σ H1 x v Q I1 r1 q1) (he _)
theorem vals1{x:V}(r:Vals [x] us):∃ u,us=[u]/\RelV x u:=by
 cases r with
 | cons r1 r2=>cases r2;exact⟨_,rfl,r1⟩
theorem vals2{x:V}(r:Vals [x,y] us):∃ u w',us=[u,w']/\RelV x u/\RelV y w' := by
 cases r with
 | cons r1 r2 =>
  cases r2 with
  | cons r3 r4=>cases r4;exact⟨_,_,rfl,r1,r3⟩
theorem ET(hc:X.calm=true):ie X (.builtin "min") (fun xs H Q=>∃ i j,xs=[.int i,.int j]/\Q (.int (if j<i then j else i)) H):=by
 exists 15
 obtain⟨i,j,rfl,q⟩:=h
 obtain⟨u,w',rfl,⟨t,rfl⟩,⟨t',rfl⟩⟩:=vals2 r
 refine min_two_ints (I.ok.hd hc) fun h' tk k=>⟨_,H,I.kept k,?_,q⟩
 by_cases hj:j<i
 ·rw[if_pos hj,if_pos hj];exact⟨_,rfl⟩
 ·rw[if_neg hj,if_neg hj];exact⟨_,rfl⟩
theorem RA:ie X (.type "int") (fun xs H Q=>(∃ i,xs=[.int i]/\Q (.int i) H)\/∃ k,xs=[.bl k]/\Q (.int (if k then 1 else 0)) H):=by
 exists 15
 rcases h with⟨i,rfl,q⟩|⟨k,rfl,q⟩
 ·obtain⟨u,rfl,t,rfl⟩:=vals1 r
  exact call_int_int ⟨.int i,H,I,⟨_,rfl⟩,q⟩
 ·obtain⟨u,rfl,r1⟩:=vals1 r
  cases r1
  exact call_int_bool ⟨.int (if k then 1 else 0),H,I.tok _,⟨_,rfl⟩,q⟩
end
variable{r:R2}
structure Mn(h:Heap)(x dx C:Qu)(mA:qW->Option Value):Prop where
 obj:h.get? x=some (ya C dx)
 ns:h.Ns1 dx mA
 ne:dx≠x
theorem Fx(n:h.Ns1 dx mA):∃ od,h.get? dx=some od/\∀ name,XX name od=some (mA name):=by
 obtain⟨o,es,ep,ho,hd,hk,_,hm⟩:=n
 refine⟨o,ho,fun name=>?_⟩
 have e:=hm name
 unfold nsFind findBy at e
 rw[<- QH]at e
 unfold XX
 rw[hd]
 dsimp only
 split
 ·rename_i y q
  rw[q]at e
  exact congrArg some e
 ·rename_i q
  rw[q]at e
  have a:es.toList.any (·.refKey)=false:=by
   rw[List.any_eq_false]
   intro y hy
   obtain⟨z,t,U9⟩:=hk y (Zv.mp hy)
   simp[DictEntry.refKey,U9]
  have a':¬ es.toList.any (·.refKey)=true:=by rw[a];exact jd
  rw[if_neg a']
  exact congrArg some e
theorem Mn.look{x:Qu}(I:Mn h x dx C mA):∃ od,PySem.W.InstAt h x (ya C dx) C (some od)/\∀ name,XX name od=some (mA name):=
 let ⟨od,ho,hl⟩:=Fx I.ns
 ⟨od,⟨I.obj,rfl,rfl,ho⟩,hl⟩
section
variable{x f:Qu}{v:Value}
theorem get_map(X:K.In s.heap)(I:Mn s.heap x dx C mA)(hg:XJ K C name=true)(hh:yr K C=true)(ha:yB K #[30] name=some none)(hv:mA name=some v)(hv':xt v=true)(h:Q v { s with toks:=s.toks+1 }):
  wpAny #[6] A (getAttr (.ref x) name expr) Q E s:=by
 obtain⟨od,J,hl⟩:=I.look
 exact PySem.W.get_value X J (XW hg).1 (PySem.W.findObj_own hh ha rfl (by rw[hl,hv])) hv' h
theorem TV{pl:qS Bool}{Q:Value×List Value->qV->Prop}(X:K.In s.heap)(I:Mn s.heap x dx C mA)(hg:XJ K C name=true)(hf:yB K #[30] name=some (some (.ref f)))(ht:yu K (.ref f)=true)(hv:mA name=none)(h:Q (.ref f,[.ref x]) s):
  wpAny #[6] A (getMethod (.ref x) name pl) Q E s:=by
 obtain⟨od,J,hl⟩:=I.look
 exact PySem.W.method_fn X J (XW hg).1 (XW hg).2 hf (beq_iff_eq.mp ht) (by show(XX name od).map (·.isSome)=some false;rw[hl,hv];rfl) h
theorem acG{Q:Unit->qV->Prop}(X:K.In s.heap)(I:Mn s.heap x dx C mA)(hs:yB K #[30] "__setattr__" = some (some (.builtin "object.__setattr__")))(hp:xb K C=true)(ht:Xt K C name=some none)(hh:yr K C=true)(hw:xR mA ns)(hsz:ns.length<=sizeLine)(h:∀ h',Mn h' x dx C (fun y=>if y=name then some v else mA y)->yL dx s.heap h'->Q () { s with heap:=h',toks:=s.toks+2 }):
  wpAny #[6] A (setAttr (.ref x) name v) Q E s:=by
 obtain⟨od,J,hl⟩:=I.look
 refine PySem.W.set_plain X J hs (PySem.W.osa_open (s:={ s with toks:=s.toks+1 }) (r:=none) X J hp ht fun b=>?_)
 obtain⟨cd,hc,hd'⟩:=PySem.W.any_some hh
 have hx:s.heap.get? x=some ⟨.ref C,some dx,.plain,#[]⟩:=I.obj
 refine Wj (YX (Wj (Wj (YM hx (Wj (xU (s:={ s with toks:=s.toks+1 }) (PySem.W.looks_clsIn X hc) ?_))))))
 rw[hd']
 refine YX (a:=some dx) (Wj (YX (Wj ?_)))
 refine wpAny_nsSet1 (s:={ s with toks:=s.toks+1 }) I.ns fun h' hn2 hs2=>?_
 obtain⟨oD,esD,epD,hoD,hdD,hcD⟩:=hn2.count (gc name v hw)
 refine Wj (YO hoD (by rw[hdD];exact WN (ji hcD (by rw[jc];omega))) ?_)
 exact YX (h _ ⟨(hs2.2 _ (Ne.symm I.ne)).trans I.obj,hn2,I.ne⟩ hs2)
theorem X9{vs:List Value}{kw:List (qW×Value)}(X:K.In s.heap)(hm:Xu K C=true)(hi:yB K #[30] "__init__" = some (some (.ref f)))(hf:ym K (.ref f)=some (.type "function"))(h:codeAny #[6] (A.under (.builtin "type.__call__" ⟨.ref C :: vs,kw⟩)) (.call (.ref f) ⟨.ref #[23] :: vs,kw⟩) (PySem.W.InitBack #[23] R)
   { s with heap:=(s.heap.push yT).push (ya C s.heap.objs.size) }):
  codeAny #[6] A (.call #[30] ⟨vs,kw⟩) R s:=by
 obtain⟨hh,g,d,t,os⟩:=s
 exact PySem.W.make_core (PySem.W.makes_of X hm) (PySem.W.looks_findIn X hi) (fun self=>PySem.W.bind_fn X self hf) (.inl rfl) h
end
def pd(f:qW)(v:V):List (qW×V)->List (qW×V)
 | []=>[(f,v)]
 | (g,x) :: r=>if g=f then(g,v) :: r else(g,x) :: pd f v r
theorem BQ(f g:qW)(v:V):∀ fs:List (qW×V),(pd f v fs).lookup g=if g=f then some v else fs.lookup g
 | []=>by
  show Jh g [(f,v)]=_
  by_cases h:g=f
  ·have hb:(g==f)=true:=beq_iff_eq.mpr h
   simp only[Jh,hb,if_pos h]
  ·have hb:(g==f)=false:=beq_eq_false_iff_ne.mpr h
   simp only[Jh,hb,if_neg h]
 | (k,x) :: r=>by
  have ih:=BQ f g v r
  rw[show pd f v ((k,x) :: r)=(if k=f then(k,v) :: r else(k,x) :: pd f v r)from rfl]
  by_cases hk:k=f
  ·rw[if_pos hk]
   by_cases h:g=k
   ·have hb:(g==k)=true:=beq_iff_eq.mpr h
    simp only[Jh,hb,if_pos (h.trans hk)]
   ·have hb:(g==k)=false:=beq_eq_false_iff_ne.mpr h
    simp only[Jh,hb,if_neg (fun e:g=f=>h (e.trans hk.symm))]
  ·rw[if_neg hk]
   by_cases h:g=k
   ·have hb:(g==k)=true:=beq_iff_eq.mpr h
    simp only[Jh,hb,if_neg (fun e:g=f=>hk (h.symm.trans e))]
   ·have hb:(g==k)=false:=beq_eq_false_iff_ne.mpr h
    simp only[Jh,hb]
    exact ih
theorem Bl(f:qW)(v:V):∀ fs:List (qW×V),f∈(pd f v fs).map (·.1)/\∀ g,g∈fs.map (·.1)->g∈(pd f v fs).map (·.1)
 | []=>⟨by simp[pd],fun g h=>by simp at h⟩
 | (k,x) :: r=>by
  obtain⟨i1,i2⟩:=Bl f v r
  rw[show pd f v ((k,x) :: r)=(if k=f then(k,v) :: r else(k,x) :: pd f v r)from rfl]
  by_cases hk:k=f
  ·rw[if_pos hk]
   subst hk
   exact⟨by simp,fun g h=>by simpa using h⟩
  ·rw[if_neg hk]
   refine⟨?_,fun g h=>?_⟩
   ·rw[JJ]
    exact jK _ i1
   ·rw[JJ]at h ⊢
    rcases jS.mp h with e|e
    ·exact jS.mpr (.inl e)
    ·exact jK _ (i2 g e)
theorem BP(f:qW)(v:V):∀ fs:List (qW×V),(pd f v fs).length<=fs.length+1
 | []=>by simp[pd]
 | (k,x) :: r=>by
  have ih:=BP f v r
  rw[show pd f v ((k,x) :: r)=(if k=f then(k,v) :: r else(k,x) :: pd f v r)from rfl]
  by_cases hk:k=f
  ·rw[if_pos hk,jc,jc];omega
  ·rw[if_neg hk,jc,jc];omega
theorem ow.some_of{o:Option Value}(r:ow (some v) o):∃ u,o=some u/\RelV v u:=by
 cases o with
 | none=>exact(show False from r).elim
 | some u=>exact⟨u,rfl,r⟩
theorem ow.none_of{o:Option Value}(r:ow none o):o=none:=by
 cases o with
 | none=>rfl
 | some u=>exact(show False from r).elim
theorem Ff(r:RelV v u):xt u=true:=by
 cases v with
 | non=>cases(show u=yC from r);rfl
 | bl b=>cases(show u=yj b from r);rfl
 | int i=>obtain⟨t,e⟩:=(show ∃ t,u=yI i t from r);cases e;rfl
 | str x=>obtain⟨t,e⟩:=(show ∃ t,u=XM x t from r);cases e;rfl
 | Pd b=>obtain⟨t,e⟩:=(show ∃ t,u=gD b t from r);cases e;rfl
 | flt b=>obtain⟨t,e⟩:=(show ∃ t,u=xr b t from r);cases e;rfl
 | ref a=>cases(show u=Yw a from r);rfl
 | ty n=>cases(show u=yK n from r);rfl
section
variable{fs:List (qW×V)}
theorem Ct(hok:ik P w H h)(e:H a=some (.ins C dx fs)):∃ mA,Mn h a dx C mA/\(∀ f,ow (fs.lookup f) (mA f))/\xR mA (fs.map (·.1))/\fs.length<=1000/\H dx=some (.own a):=by
 obtain⟨d,z,ne,ob,mA,n,r,q⟩:=(show bA P w H h a (.ins C dx fs)from hok a _ e)
 exact⟨mA,⟨ob,n,ne⟩,r,q,z,d⟩
end
structure Io(K:Yv)(C:Qu):Prop where
 pg:XJ K C Str.empty=true
 hd:yr K C=true
 po:xb K C=true
 sa:yB K #[30] "__setattr__" = some (some (.builtin "object.__setattr__"))
theorem Io.get(c:Io K C)(f:qW):XJ K C f=true:=c.pg
def iZ(K:Yv)(C:Qu)(f:qW):Prop:=yB K #[30] f=some none
theorem iZ.aiZ(n:iZ K C f):Xt K C f=some none:=by
 unfold Xt
 rw[show yB K #[30] f=some none from n]
 rfl
structure Meth(K:Yv)(C:Qu)(m:qW)(f:Qu):Prop where
 at_:yB K #[30] m=some (some (.ref f))
 fn:yu K (.ref f)=true
 kp:yH K (.ref f)=true
section
variable{fs:List (qW×V)}
theorem MQ{b:Bool}(I:Inv X pins σ H s)(e:H a=some (.ins C dx fs))(c:Io X.K C)(n:iZ X.K C f)(l:fs.lookup f=some v)(h:∀ u s',Inv X pins σ H s'->RelV v u->Q u s'):wpAny #[4] A (getAttr (.ref a) f b) Q E s:=by
 obtain⟨mA,O,r,_,_,_⟩:=Ct I.hok e
 obtain⟨u,hu,ru⟩:=ow.some_of (v:=v) (o:=mA f) (by rw[<- l];exact r f)
 exact get_map I.pN O (c.get f) c.hd n hu (Ff ru) (h u _ (I.tok _) ru)
theorem Dq{g:Qu}{pl:qS Bool}{Q:Value×List Value->qV->Prop}(I:Inv X pins σ H s)(e:H a=some (.ins C dx fs))(c:Io X.K C)(k:Meth X.K C m g)(l:fs.lookup m=none)(h:Q (.ref g,[.ref a]) s):wpAny #[4] A (getMethod (.ref a) m pl) Q E s:=by
 obtain⟨mA,O,r,_,_,_⟩:=Ct I.hok e
 have hn:mA m=none:=ow.none_of (by rw[<- l];exact r m)
 exact TV I.pN O (c.get m) k.at_ k.fn hn h
theorem OE{Q:Unit->qV->Prop}(I:Inv X pins σ H s)(e:H a=some (.ins C dx fs))(c:Io X.K C)(n:iZ X.K C f)(hl:fs.length<1000)(ry:RelV y u)(h:∀ s',Inv X pins σ (upd H a (.ins C dx (pd f y fs))) s'->Q () s'):wpAny #[4] A (setAttr (.ref a) f u) Q E s:=by
 obtain⟨mA,O,r,wi,_,ho⟩:=Ct I.hok e
 have hz:(fs.map (·.1)).length<=sizeLine:=by rw[jZ,WT];omega
 refine acG I.pN O c.sa c.po n.aiZ c.hd wi hz fun h' O' sb=>h _ ?_
 have hd:∃ o,h'.get? dx=some o:=let ⟨o,_,_,e',_⟩:=O'.ns;⟨o,e'⟩
 refine I.write (x:=a) (e:=dx) (by rw[e];exact True.intro) (.inr ho) (fun b q hb z=>(sb.2 b hb).trans z) hd ?_
 refine⟨by rw[aj O.ne];exact ho,?_,O.ne,O'.obj,_,O'.ns,fun g=>?_,fun g hg=>?_⟩
 ·have:=BP f y fs;omega
 ·show ow ((pd f y fs).lookup g) (if g=f then some u else mA g)
  rw[BQ]
  by_cases q:g=f
  ·rw[if_pos q,if_pos q];exact ry
  ·rw[if_neg q,if_neg q];exact r g
 ·by_cases q:g=f
  ·rw[q];exact(Bl f y fs).1
  ·refine(Bl f y fs).2 g (wi g fun z=>hg ?_)
   show(if g=f then some u else mA g)=none
   rw[if_neg q];exact z
theorem Inv.made(I:Inv X pins σ H s):Inv X pins σ (upd (upd H s.heap.objs.size (.own #[23])) #[23] (.ins C s.heap.objs.size []))
  { s with heap:=(s.heap.push yT).push (ya C s.heap.objs.size) }:=by
 have e1:(s.heap.push yT).get? s.heap.objs.size=some yT:=jH s.heap rfl
 have e2:((s.heap.push yT).push (ya C s.heap.objs.size)).get? #[23]=some (ya C s.heap.objs.size):=by
  have:=jH (s.heap.push yT) (o:=ya C s.heap.objs.size) rfl
  rwa[jx]at this
 have e3:(s.heap.push yT).Ns s.heap.objs.size (fun _=>none):=⟨yT,#[],_,e1,rfl,(fun e he=>absurd he #[11]),fun _=>rfl⟩
 have I1:=I.laid (a:=s.heap.objs.size) (o:=.own #[23]) (h' := s.heap.push yT) (t' := s.toks) (fun b u q=>jA _ q) (jF _) ⟨_,e1⟩
 refine I1.laid (a:=s.heap.objs.size+1) (o:=.ins C s.heap.objs.size []) (t' := s.toks) (fun b u q=>jA _ q) (zx (jx _ _)) ?_
 have ne:s.heap.objs.size≠s.heap.objs.size+1:=jM (JL _)
 refine⟨by rw[aj ne,ae],je _,ne,e2,fun _=>none,(xg e3).at fun o q=>jA _ q,fun _=>True.intro,fun y hy=>absurd rfl hy⟩
theorem O9(hb:attributeBase e f env (eval e env)=eval e env)(h:wpAny #[6] A (eval e env) (fun o s₁=>wpAny #[6] A (getAttr o f true) Q E s₁) E s):wpAny #[6] A (eval (.Attribute e f pos) env) Q E s:=
 Attribute_any_ h (by rw[arm_eval_Attribute,hb])
end
def amR(K:Yv)(ta:TE)(f:qW):TE:=fun σ H Q=>ta σ H fun x H1=>∃ a C dx fs v,x=.ref a/\H1 a=some (.ins C dx fs)/\Io K C/\iZ K C f/\fs.lookup f=some v/\Q v H1
def amM(K:Yv)(ta tv:TE)(f:qW):TS:=fun D σ H=>tv σ H fun y H1=>ta σ H1 fun x H2=>∃ a C dx fs,x=.ref a/\H2 a=some (.ins C dx fs)/\Io K C/\iZ K C f/\fs.length<1000 /\
 D.nx σ (upd H2 a (.ins C dx (pd f y fs)))
section
variable{o value:Expr}{tv:TE}
theorem dP(he:PE X e ta)(hb:attributeBase e f X.env (eval e X.env)=eval e X.env):PE X (.Attribute e f pos) (amR X.K ta f):=by
 exists 5
 refine O9 hb (bP #[63] fun u s1 ⟨x,H1,I1,rx,a,C,dx,fs,v,ex,ea,c,n,l,q⟩=>?_)
 subst ex
 obtain rfl:u=Yw a:=rx
 exact MQ I1 ea c n l fun u' s2 I2 ru=>⟨v,H1,I2,ru,q⟩
theorem Br(ha:PE X o ta)(hv:PE X value tv)(hs:WW value (some (.Attribute o f pos')) pos.line X.env=pure false):PS X (.Assign [.Attribute o f pos'] value pos) (amM X.K ta tv f):=by
 exists 27
 refine WQ (bP (hv pins s σ H _ I h) fun u s1 ⟨y,H1,I1,ry,q⟩=>bP (ha pins s1 σ H1 _ I1 q) fun ov s2 ⟨x,H2,I2,rx,a,C,dx,fs,ex,ea,c,n,l,q2⟩=>?_) hs
 subst ex
 obtain rfl:ov=Yw a:=rx
 exact OE I2 ea c n l ry fun s3 I3=>⟨σ,_,I3,q2⟩
end
section
variable{c:Value}{b:Bool}
inductive oO (K:Yv) (H:Hp):V->Value->Prop where
 | non:oO K H .non (.type "NoneType")
 | bl (x:Bool):oO K H (.bl x) (.type "bool")
 | int (i:Int):oO K H (.int i) (.type "int")
 | str (x:qW):oO K H (.str x) (.type "str")
 | flt (x:UInt64):oO K H (.flt x) (.type "float")
 | lst {a:Qu} {xs:List V} (e:H a=some (.lst xs)):oO K H (.ref a) (.type "list")
 | pB {a:Qu} {o:Obj} {xs:List V} (e:H a=some (.pB o (.lst xs))):oO K H (.ref a) (.type "list")
 | tup {a:Qu} {xs:List V} (e:H a=some #[42]):oO K H (.ref a) (.type "tuple")
 | dK {a:Qu} {kvs:List (Key×V)} (e:H a=some (.dK kvs)):oO K H (.ref a) (.type "dict")
 | dT {a:Qu} {kvs:List (List Key×V)} (e:H a=some (.dT kvs)):oO K H (.ref a) (.type "dict")
 | ins {a C dx:Qu} {fs:List (qW×V)} (e:H a=some (.ins C dx fs)) (cl:Io K C) (ha:yB K #[30] "__class__" = some (some #[32]))
   (hn:yt K #[32] "__get__" = some (some #[38])) (htk:GC K #[32]=some true)
   (hm:yR K C (.type "object")=some true):oO K H (.ref a) #[30]
theorem R6{x:V}{t:Value}(I:Inv X pins σ H s)(rx:RelV x u)(ty:oO X.K H x t)(e:yE X.K t c=some b)(h:∀ tk,Q (.bool b) { s with toks:=tk }):
  wpAny #[4] A (call (.builtin "isinstance") [u,c]) Q E s:=by
 cases ty with
 | non=>cases(show u=yC from rx);exact yO PySem.W.kitx_none I.pN True.intro e (fun z=>nomatch z) h
 | bl y=>cases(show u=yj y from rx);exact yO PySem.W.kitx_bool I.pN True.intro e (fun z=>nomatch z) h
 | int i=>obtain⟨t,q⟩:=(show ∃ t,u=yI i t from rx);cases q;exact yO PySem.W.kitx_int I.pN True.intro e (fun z=>nomatch z) h
 | str y=>obtain⟨t,q⟩:=(show ∃ t,u=XM y t from rx);cases q;exact yO PySem.W.kitx_str I.pN True.intro e (fun z=>nomatch z) h
 | flt y=>obtain⟨t,q⟩:=(show ∃ t,u=xr y t from rx);cases q;exact yO PySem.W.kitx_float I.pN True.intro e (fun z=>nomatch z) h
 | @lst a xs ea =>
  cases(show u=Yw a from rx)
  obtain⟨_,_,n,_,h1⟩:=(show bA X.prog X.w H s.heap a (.lst xs)from I.hok a _ ea)
  exact yO xh I.pN ⟨_,h1,rfl⟩ e (fun z=>nomatch z) h
 | @pB a ob xs ea =>
  cases(show u=Yw a from rx)
  obtain⟨_,_,_,n,_,h1⟩:=(show bA X.prog X.w H s.heap a (.pB ob (.lst xs))from I.hok a _ ea)
  exact yO xh I.pN ⟨_,h1,rfl⟩ e (fun z=>nomatch z) h
 | @tup a xs ea =>
  cases(show u=Yw a from rx)
  obtain⟨_,_,_,p⟩:=(show bA X.prog X.w H s.heap a #[42]from I.hok a _ ea)
  obtain⟨o,h1,h2,_⟩:=p
  exact yO PySem.W.kitx_tuple I.pN ⟨o,h1,h2⟩ e (fun z=>nomatch z) h
 | @dK a kvs ea =>
  cases(show u=Yw a from rx)
  obtain⟨_,_,vs,_,p⟩:=(show bA X.prog X.w H s.heap a (.dK kvs)from I.hok a _ ea)
  obtain⟨o,es,ep,h1,h2,_⟩:=p
  exact yO xj I.pN ⟨o,h1,h2.1⟩ e (fun z=>nomatch z) h
 | @dT a kvs ea =>
  cases(show u=Yw a from rx)
  obtain⟨_,_,xs,_,o,es,ep,h1,h2,_⟩:=(show bA X.prog X.w H s.heap a (.dT kvs)from I.hok a _ ea)
  exact yO xj I.pN ⟨o,h1,h2.1⟩ e (fun z=>nomatch z) h
 | @ins a C dx fs ea cl ha hn htk hm =>
  cases(show u=Yw a from rx)
  obtain⟨mA,O,_⟩:=Ct I.hok ea
  obtain⟨od,J,_⟩:=O.look
  exact yO (PySem.W.kitx_own (cl.get _) cl.hd ha hn htk hm) I.pN J e (fun z=>nomatch z) h
end
structure cV(k:Nat)(A:Around):Prop where
 hd:A.handled=none
 dp:A.depth+3*k+5<recursionLimit
 un:A.units+16*k+200<cLine
theorem cV.mono{k:Nat}(r:cV k A)(h:j<=k):cV j A:=⟨r.hd,by have:=r.dp;omega,by have:=r.un;omega⟩
theorem cV.deeper{k:Nat}(r:cV (k+1) A)(env:qF):cV k (A.deeper env):=
 ⟨r.hd,by have:=r.dp;show A.depth+1+3*k+5<_;omega,by have:=r.un;show A.units+3+16*k+200<_;omega⟩
theorem N2{kw:List (qW×Value)}:(A.under (.builtin "type.__call__" ⟨.ref C :: us,kw⟩)).depth=A.depth+1:=by
 first|rfl|simp[Around.under,Code.weight,Code.isCreation,Code.isGuard,Code.isCaller,Code.frames,Code.isFrame,guardIds]
theorem N3{kw:List (qW×Value)}:(A.under (.builtin "type.__call__" ⟨.ref C :: us,kw⟩)).units=A.units+1:=by
 first|rfl|simp[Around.under,Code.cUnits,Code.frames,Code.isFrame]
theorem cV.make{k:Nat}(r:cV (k+1) A)(C:Qu)(us:List Value)(kw:List (qW×Value)):cV k (A.under (.builtin "type.__call__" ⟨.ref C :: us,kw⟩)):=
 ⟨r.hd,by have:=r.dp;rw[N2];omega,by have:=r.un;rw[N3];omega⟩
theorem cV.depth{k:Nat}(r:cV k A):A.depth<recursionLimit:=by have:=r.dp;omega
theorem cV.units{k:Nat}(r:cV k A):A.units+64<cLine:=by have:=r.un;omega
theorem cV.aa6{k:Nat}(r:cV k A):A.units<cLine:=by have:=r.un;omega
def acP:TA:=fun _ H Q=>Q [] H
def adu(ta:TE)(tr:TA):TA:=fun σ H Q=>ta σ H fun x H1=>tr σ H1 fun xs H2=>Q (x :: xs) H2
section
variable{t:TA}
theorem af:PA X [] acP:=fun _ _ _ _ H Q I h=>yc ⟨[],H,I,.nil,h⟩
theorem aa(ha:PE X e te)(hr:PA X es t)(hs:WU (e :: es) X.env=#[21] :: WU es X.env:=by rfl):PA X (e :: es) (adu te t):=by
 intro pos pins s σ H Q I h
 rw[hs]
 show wpAny _ _ (spliced (#[21] :: backTo pos (WU es X.env))) _ _ s
 refine yP (bP (ha pins s σ H _ I h) fun u s1 ⟨x,H1,I1,r1,q1⟩=>?_)
 exact bP (hr pos pins s1 σ H1 _ I1 q1) fun us s2 ⟨xs,H2,I2,r2,q2⟩=>⟨x :: xs,H2,I2,.cons r1 r2,q2⟩
def aiX(t:TA):TE:=fun σ H Q=>t σ H fun xs H1=>xs.length<=sizeLine/\∀ p,H1 p=none->Q (.ref p) (upd H1 p #[42])
def amT(t:TA):TE:=fun σ H Q=>t σ H fun xs H1=>xs.length<=sizeLine/\∀ p,H1 p=none->Q (.ref p) (upd H1 p (.lst xs))
theorem fh{x1}(h:PA X es t):PE X (.Tuple es x1 pos) (aiX t):=by
 intro pins s σ H Q I hq
 refine wpAny_Tuple_spliced (bP (h pos pins s σ H _ I hq) fun us s1 ⟨xs,H1,I1,r,z,q⟩=>⟨by rw[<- r.length];exact z,?_⟩)
 have hf:H1 s1.heap.objs.size=none:=I1.hok.fresh (jF _)
 refine⟨.ref s1.heap.objs.size,upd H1 s1.heap.objs.size #[42],I1.laid (t' := s1.toks) (fun b u e=>jA _ e) (jF _) ?_,rfl,q _ hf⟩
 exact⟨z,us,r,⟨_,jH _ rfl,rfl,_,rfl⟩⟩
theorem cf(h:PA X es t):PE X (.List es pos) (amT t):=by
 intro pins s σ H Q I hq
 refine wpAny_List_spliced (bP (h pos pins s σ H _ I hq) fun us s1 ⟨xs,H1,I1,r,z,q⟩=>⟨by rw[<- r.length];exact z,?_⟩)
 have hf:H1 s1.heap.objs.size=none:=I1.hok.fresh (jF _)
 refine⟨.ref s1.heap.objs.size,upd H1 s1.heap.objs.size (.lst xs),I1.laid (t' := s1.toks) (fun b u e=>jA _ e) (jF _) ?_,rfl,q _ hf⟩
 exact⟨z,us,0,r,jH _ rfl⟩
end
abbrev Sp:=List V->Hp->VK->XK->Prop
abbrev Iv:=List qF->Hp->qV->XK->Value->qV->Prop
structure Ej(P:qR)(w:World)(K:Yv)(mg:qW->Option Value)(base:Heap)(A:Around)(outer:List qF)(s:qV)(H:Hp):Prop where
 frames:A.frames=some outer
 mod:Mod K mg base
 bs:∀ b o,base.get? b=some o->s.heap.get? b=some o/\H b=none
 bsz:base.objs.size<=s.heap.objs.size
 wz:s.heap.FunFrames base outer
 frf:∀ b∈Cb outer,H b=none
 hok:ik P w H s.heap
 bare:Qv s.gens
def CE(outer:List qF)(P:qR)(w:World)(H:Hp)(s:qV)(Q:VK)(u:Value)(s':qV):Prop:=
 ∃ v H',s'.os=s.os/\Qv s'.gens/\Un (Cb outer) [] H H' s.heap s'.heap/\ik P w H' s'.heap/\RelV v u/\Q v H'
def CR(CX:Iv)(outer:List qF)(P:qR)(w:World)(H:Hp)(s:qV)(Q:VK)(E:XK)(r:Result)(s':qV):Prop:=
 match r with
 | .ok (.ret u)=>CE outer P w H s Q u s'
 | .ok _=>False
 | .error e=>CX outer H s E e s'
structure bu(P:qR)(w:World)(K:Yv)(mg:qW->Option Value)(base:Heap)(CX:Iv)(k:Nat)(f:Qu)(fd:qG)(ps:List qW)(sp:Sp):Prop where
 len:∀ vs H Q E,sp vs H Q E->vs.length=ps.length
 run:∀ (A:Around) (outer:List qF) (s:qV) (H:Hp) (args:Args) (us:List Value) (vs:List V) (Q:VK) (E:XK),cV k A->Ej P w K mg base A outer s H->Qx s fd args (ps.zip us)->Vals vs us->sp vs H Q E ->
  codeAny #[31] A (.call (.ref f) args) (CR CX outer P w H s Q E) s
theorem Ej.make(e:Ej P w K mg base A outer s H)(C:Qu)(us:List Value)(kw:List (qW×Value)):
  Ej P w K mg base (A.under (.builtin "type.__call__" ⟨.ref C :: us,kw⟩)) outer s H:=⟨by first|exact e.frames|(simpa[Around.under,Code.envs,Code.isFrame,pushEnvs]using e.frames),e.mod,e.bs,e.bsz,e.wz,e.frf,e.hok,e.bare⟩
section
theorem Inv.TH(I:Inv X pins σ H s):Ej X.prog X.w X.K X.mg X.base X.A X.stack s H:=
 ⟨I.ok.frames,I.ok.mod,I.bs,ji I.ok.bsz I.sz,I.stack,I.Ic,I.hok,I.bare⟩
theorem Inv.after{Q:VK}(I:Inv X pins σ H s)(h:CE X.stack X.prog X.w H s Q u s'):EP X pins σ Q u s' := by
 obtain⟨v,H',os,bare,un,hok,r,q⟩:=h
 obtain⟨hh,g,d,t,os'⟩:=s'
 obtain rfl:os'=s.os:=os
 exact⟨v,H',I.call (h' := hh) (g' := g) (d' := d) (t' := t) (ch:=[]) un hok bare (fun b z=>absurd z #[11]),r,q⟩
end
def Mc(sp:Sp)(hX:List V)(E:XK)(t:TA):TE:=fun σ H Q=>t σ H fun vs H1=>sp (vs++hX) H1 Q E
def Rn(C:Qu)(m:qW)(sp:Sp)(hX:List V)(E:XK)(ta:TE)(t:TA):TE:=fun σ H Q=>ta σ H fun x H1=>∃ a dx fs,x=.ref a/\H1 a=some (.ins C dx fs)/\fs.lookup m=none /\
 t σ H1 fun vs H2=>sp (x :: (vs++hX)) H2 Q E
def adv(C:Qu)(sp:Sp)(hX:List V)(E:XK)(t:TA):TE:=fun σ H Q=>t σ H fun vs H1=>∀ x dx,H1 x=none->H1 dx=none->dx≠x ->
 sp (.ref x :: (vs++hX)) (upd (upd H1 dx (.own x)) x (.ins C dx [])) (fun v H2=>v=.non/\Q (.ref x) H2) E
def Binds(K:Yv)(fd:qG)(ps:List qW)(ds:List Value):Prop:=
 ∀ (s:qV) (us:List Value),K.In s.heap->(us++ds).length=ps.length->Qx s fd ⟨us,[]⟩ (ps.zip (us++ds))
theorem Binds.all(h:∀ us:List Value,us.length=ps.length->bindArgs fd ⟨us,[]⟩=pure (ps.zip us)):Binds K fd ps []:=fun s us _ hl=>by
 rw[JA]at hl ⊢
 exact .of_eq (h us hl)
def Passes(CX:Iv)(X:Cx)(E:XK):Prop := ∀ (pins:List #[58]) (σ:St) (H:Hp) (s:qV) (e:Value) (s':qV),Inv X pins σ H s->CX X.stack H s E e s'->X.xe e s'
section
variable{CX:Iv}{k:Nat}{f:Qu}{sp:Sp}{E:XK}{o:Expr}{t:TA}
theorem Oy{Q:VK}(F:bu X.prog X.w X.K X.mg X.base CX k f fd ps sp)(hr:cV k X.A)(hb:Binds X.K fd ps ds)(hd:Vals hX ds)(hx:Passes CX X E)(I:Inv X pins σ H s)(r:Vals vs us)(h:sp (vs++hX) H Q E):wpAny #[4] X.A (call (.ref f) us) #[59] X.xe s:=by
 have r2:Vals (vs++hX) (us++ds):=r.append hd
 have hl:(us++ds).length=ps.length:=by rw[<- r2.length];exact F.len _ _ _ _ h
 refine Wk (WA (F.run X.A X.stack s H ⟨us,[]⟩ (us++ds) (vs++hX) Q E hr I.TH (hb s us I.pN hl) r2 h) fun r s' hq=>?_)
 cases r with
 | error e=>exact hx pins σ H s e s' I hq
 | ok fl =>
  cases fl with
  | ret u=>exact I.after hq
  | next=>exact False.elim hq
  | brk=>exact False.elim hq
  | cont=>exact False.elim hq
theorem HM(F:bu X.prog X.w X.K X.mg X.base CX k f fd ps sp)(hr:cV k X.A)(hg:Gl X x)(hm:X.mg x=some (.ref f))(hk:yH X.K (.ref f)=true)(hb:Binds X.K fd ps ds)(hd:Vals hX ds)(hx:Passes CX X E)(ha:PA X (e :: es) t)(Bk:#[19]=false:=by decide)(he:WU (e :: es) X.env=#[21] :: WU es X.env:=by rfl)(rJ:#[29].any (·.1)=false:=by rfl):
  PE X #[27] (Mc sp hX E t):=by
 exists 5
 refine Wd (oa I hg hm ?_ Bk)
 refine yg (h₀:=X.base) I.ok.mod.kin hk (bP (ha pos pins s σ H _ I h) fun us s1 ⟨vs,H1,I1,r,q⟩=>⟨I1.pN,?_⟩) he rJ
 exact Oy F hr hb hd hx I1 r q
theorem acq{pl:qS Bool}(he:PE X o ta)(c:Io X.K C)(hm:Meth X.K C m f)(F:bu X.prog X.w X.K X.mg X.base CX k f fd ps sp)(hr:cV k X.A)(hb:Binds X.K fd ps ds)(hd:Vals hX ds)(hx:Passes CX X E)(ha:PA X (e :: es) t)(tR:WU (e :: es) X.env=#[21] :: WU es X.env:=by rfl)(rJ:#[29].any (·.1)=false:=by rfl)(ht:eval (.Call (.Attribute o m apos) (e :: es) [] pos) X.env=(do
   let ov <- eval o X.env
   standAt apos.atName
   let (f,first) <- holding [ov] (getMethod ov m pl)
   callWith pos f first (backTo pos (WU (e :: es) X.env)) (backToKw pos (keywordEach [] X.env))):=by rfl):
  PE X (.Call (.Attribute o m apos) (e :: es) [] pos) (Rn C m sp hX E ta t):=by
 exists 5
 refine XN (pl:=pl) (bP #[63] fun u s1 ⟨x,H1,I1,rx,a,dx,fs,ex,ea,l,q⟩=>?_) ht
 subst ex
 obtain rfl:u=Yw a:=rx
 refine Dq I1 ea c hm l ?_
 refine yg (first:=[.ref a]) (h₀:=X.base) I.ok.mod.kin hm.kp (bP (ha pos pins s1 σ H1 _ I1 q) fun us s2 ⟨vs,H2,I2,r,q2⟩=>⟨I2.pN,?_⟩) tR rJ
 exact Oy (us:=.ref a :: us) (vs:=.ref a :: vs) F hr hb hd hx I2 (.cons rfl r) q2
theorem aaj{pl:qS Bool}(he:PE X o ta)(c:Io X.K C)(hm:Meth X.K C m f)(F:bu X.prog X.w X.K X.mg X.base CX k f fd ps sp)(hr:cV k X.A)(hb:Binds X.K fd ps ds)(hd:Vals hX ds)(hx:Passes CX X E)(ht:eval (.Call (.Attribute o m apos) [] [] pos) X.env=(do
   let ov <- eval o X.env
   standAt apos.atName
   let (f,first) <- holding [ov] (getMethod ov m pl)
   callWith pos f first (backTo pos (WU [] X.env)) (backToKw pos (keywordEach [] X.env))):=by rfl):
  PE X (.Call (.Attribute o m apos) [] [] pos) (Rn C m sp hX E ta acP):=by
 exists 5
 refine XN (pl:=pl) (bP #[63] fun u s1 ⟨x,H1,I1,rx,a,dx,fs,ex,ea,l,q⟩=>?_) ht
 subst ex
 obtain rfl:u=Yw a:=rx
 refine Dq I1 ea c hm l ?_
 exact PySem.W.callWith_K0 (first:=[.ref a]) I1.pN hm.kp (Oy (us:=[.ref a]) (vs:=[.ref a]) F hr hb hd hx I1 (.cons rfl .nil) q)
structure Mk(K:Yv)(C f:Qu):Prop where
 makes:Xu K C=true
 init:yB K #[30] "__init__" = some (some (.ref f))
 fn:yu K (.ref f)=true
 kp:yH K #[30]=true
theorem aaK{Q:VK}(M:Mk X.K C f)(F:bu X.prog X.w X.K X.mg X.base CX k f fd ps sp)(hr:cV (k+1) X.A)(hb:Binds X.K fd ps ds)(hd:Vals hX ds)(hx:Passes CX X E)(I:Inv X pins σ H s)(r:Vals vs us)(h:∀ x dx,H x=none->H dx=none->dx≠x->sp (.ref x :: (vs++hX)) (upd (upd H dx (.own x)) x (.ins C dx [])) (fun v H2=>v=.non/\Q (.ref x) H2) E):
  wpAny #[4] X.A (call #[30] us) #[59] X.xe s:=by
 have hq:=h #[23] s.heap.objs.size (I.hok.fresh (JF _)) #[56] (jM (JL _))
 have I2:=Inv.made (C:=C) I
 have r2:Vals (V.ref #[23] :: (vs++hX)) (Yw #[23] :: (us++ds)):=.cons rfl (r.append hd)
 have hl:(Yw #[23] :: us++ds).length=ps.length:=by
  have e:=r2.length
  rw[F.len _ _ _ _ hq]at e
  exact e.symm
 refine Wk (X9 (f:=f) I.pN M.makes M.init (beq_iff_eq.mp M.fn) (WA (F.run _ X.stack _ _ ⟨Yw #[23] :: us,[]⟩ (Yw #[23] :: (us++ds)) _ _ E (hr.make C us [])
  (I2.TH.make C us []) (hb _ (Yw #[23] :: us) I2.pN hl) r2 hq) fun r s' BN=>?_))
 cases r with
 | error e=>exact hx pins σ _ _ e s' I2 BN
 | ok fl =>
  cases fl with
  | ret u =>
   obtain⟨v,H',I3,rv,ev,q3⟩:=I2.after BN
   subst ev
   exact⟨rv,⟨V.ref #[23],H',I3,rfl,q3⟩⟩
  | next=>exact False.elim BN
  | brk=>exact False.elim BN
  | cont=>exact False.elim BN
theorem acp(M:Mk X.K C f)(F:bu X.prog X.w X.K X.mg X.base CX k f fd ps sp)(hr:cV (k+1) X.A)(hg:Gl X x)(hm:X.mg x=some #[30])(hb:Binds X.K fd ps ds)(hd:Vals hX ds)(hx:Passes CX X E)(ha:PA X (e :: es) t)(Bk:#[19]=false:=by decide)(he:WU (e :: es) X.env=#[21] :: WU es X.env:=by rfl)(rJ:#[29].any (·.1)=false:=by rfl):
  PE X #[27] (adv C sp hX E t):=by
 exists 5
 refine Wd (oa I hg hm ?_ Bk)
 refine yg (h₀:=X.base) I.ok.mod.kin M.kp (bP (ha pos pins s σ H _ I h) fun us s1 ⟨vs,H1,I1,r,q⟩=>⟨I1.pN,?_⟩) he rJ
 exact aaK M F hr hb hd hx I1 r q
end
structure aH(N P:List qW)(sc:Scope):Prop where
 kind:sc.kind=.function
 co:sc.isCoroutine=false
 gen:sc.isGenerator=false
 nd:N.Nodup
 pre:N.take P.length=P
 par:∀ x∈P,sc.names.lookup x=some .local\/sc.names.lookup x=some .cell
 nofree:∀ y∈sc.names,y.2≠.free
theorem ES{kindOf:qW->Option qO}:∀ {binds:List (qW×Value)} {m:qW->Option Value},(∀ v,(x,v)∉binds)->bindL kindOf binds m x=m x
 | [],_,_=>rfl
 | (n,v) :: r,m,h=>by
  unfold bindL
  rw[ES fun w hw=>h w (jK _ hw)]
  split
  ·have:x≠n:=by rintro rfl;exact h v jE
   simp[this]
  ·rfl
theorem EO{kindOf:qW->Option qO}:∀ {binds:List (qW×Value)} {m:qW->Option Value},(∀ v,(x,v)∉binds)->bindC kindOf binds m x=m x
 | [],_,_=>rfl
 | (n,v) :: r,m,h=>by
  unfold bindC
  rw[EO fun w hw=>h w (jK _ hw)]
  split
  ·rfl
  ·have:x≠n:=by rintro rfl;exact h v jE
   simp[this]
theorem ER{kindOf:qW->Option qO}{v:Value}:∀ {P:List qW} {vs:List Value} {i:Nat} {m:qW->Option Value},P.Nodup->P[i]?=some x->vs[i]?=some v->kindOf x=some .local ->
  bindL kindOf (P.zip vs) m x=some v
 | [],_,_,_,_,h,_,_=>by simp at h
 | _ :: _,[],_,_,_,_,h,_=>by simp at h
 | p :: P,w :: vs,0,m,nd,h1,h2,hk=>by
  simp at h1 h2;subst h1;subst h2
  show bindL kindOf ((p,w) :: P.zip vs) m p=_
  unfold bindL
  rw[ES fun v hv=>(JE.mp nd).1 (zy hv).1,if_pos hk]
  simp
 | p :: P,w :: vs,i+1,m,nd,h1,h2,hk=>by
  show bindL kindOf ((p,w) :: P.zip vs) m x=_
  unfold bindL
  exact ER (i:=i) (JE.mp nd).2 (by simpa using h1) (by simpa using h2) hk
theorem EN{kindOf:qW->Option qO}{v:Value}:∀ {P:List qW} {vs:List Value} {i:Nat} {m:qW->Option Value},P.Nodup->P[i]?=some x->vs[i]?=some v->kindOf x≠some .local ->
  bindC kindOf (P.zip vs) m x=some v
 | [],_,_,_,_,h,_,_=>by simp at h
 | _ :: _,[],_,_,_,_,h,_=>by simp at h
 | p :: P,w :: vs,0,m,nd,h1,h2,hk=>by
  simp at h1 h2;subst h1;subst h2
  show bindC kindOf ((p,w) :: P.zip vs) m p=_
  unfold bindC
  rw[EO fun v hv=>(JE.mp nd).1 (zy hv).1,if_neg hk]
  simp
 | p :: P,w :: vs,i+1,m,nd,h1,h2,hk=>by
  show bindC kindOf ((p,w) :: P.zip vs) m x=_
  unfold bindC
  exact EN (i:=i) (JE.mp nd).2 (by simpa using h1) (by simpa using h2) hk
def start(N:List qW)(vs:List V):St:=vs.map some++Jf (N.length-vs.length) none
def Dd(CX:Iv)(P:qR)(w:World)(K:Yv)(mg:qW->Option Value)(base:Heap)(N:List qW)(qual:qW)(scope:Scope)(f:Qu)(cd:Value)(A:Around)(outer:List qF)(s:qV)(H:Hp)(E:XK):Cx where
 prog:=P
 w:=w
 K:=K
 mg:=mg
 base:=base
 A:=A.deeper #[16]
 N:=N
 s₀:=s
 H₀:=H
 env:=envOfC qual scope s.heap.objs.size f cd
 outer:=outer
 stack:=envOfC qual scope s.heap.objs.size f cd :: outer
 ex:=[]
 calm:=true
 fn:=fun _=>true
 pn:=[]
 xe:=fun e s'=>wpAny #[31] (A.deeper #[16]) (leaving #[16] e) (fun _ s''=>CX outer H s E e s'') (fun e' s''=>CX outer H s E e' s'') s'
theorem IV(h:sc.names.lookup x=some .cell):∃ c,(cellsFrom n sc.names []).lookup x=some c:=by
 have q:=XH sc.names n [] (.inl h)
 exact Jm.mp q
theorem Fl{CX:Iv}{f:Qu}{s1:qV}{E:XK}(S:aH N ps scope)(hd:A.handled=none)(e0:Ej P w K mg base A outer s H)(hl:vs.length=ps.length)(r:Vals vs us)(x:InCallC s s.heap.objs.size (bindL #[16].kindOf (ps.zip us) fun _=>none) (cellsFrom #[23] scope.names []) (bindC #[16].kindOf (ps.zip us) fun _=>none) s1):
  Inv (Dd CX P w K mg base N qual scope f cd A outer s H E) [] (start N vs) H s1:=by
 have rJ:ps.length<=N.length:=by have:=congrArg zE S.pre;rw[jX]at this;omega
 obtain⟨h1,tk,rfl,hk⟩:=x.done
 have noA:∀ b:Qu,b∉(Dd CX P w K mg base N qual scope f cd A outer s H E).ex:=fun b z=>absurd (show b∈([]:List Qu)from z) #[11]
 refine⟨⟨e0.mod,S.kind,rfl,rfl,jF _,fun y z c h1 h2=>?_,fun y hy=>?_,fun y c _ h=>?_,fun _=>hd,Around.frames_deeper e0.frames,.inr ⟨rfl,rfl⟩,fun b z=>absurd z (noA b),e0.bs,e0.bsz,fun b _ _=>noA b,fun b z=>absurd z (noA b),e0.wz,e0.frf⟩,
  rfl,e0.bare,Un.kept hk,⟨_,x.toInCall.ns,fun i y v h1 h2 h3=>?_⟩,fun y c h=>⟨_,x.cell y c h⟩,e0.hok.fresh (jF _),fun y c h=>?_,fun p hp=>absurd (show p∈([]:List #[58])from hp) #[11],e0.hok.kept hk,?_⟩
 ·exact name_of_addr x.apart (ye h1) (ye h2)
 ·have hy:scope.names.lookup y=some .cell\/scope.names.lookup y=some .free:=hy
  rcases hy with hy|hy
  ·exact IV hy
  ·exact absurd rfl (S.nofree _ (ye hy))
 ·exact Js (x.above y c (ye h))
 ·have hi:i<vs.length:=by
   unfold start at h2
   by_cases hi:i<vs.length
   ·exact hi
   ·rw[JM (by simpa using hi)]at h2
    rw[Zk]at h2
    split at h2<;>cases h2
  have ha:vs[i]?=some v:=by
   unfold start at h2
   rw[JB (by simpa using hi),jV]at h2
   cases e:vs[i]? with
   | none=>rw[e]at h2;cases h2
   | some a=>rw[e]at h2;cases h2;rfl
  obtain⟨u,hu,rv⟩:=r.get ha
  have hp:ps[i]?=some y:=by
   rw[<- S.pre,List.getElem?_take_of_lt #[0]];exact h1
  have ndP:ps.Nodup:=by rw[<- S.pre];exact S.nd.sublist (ZT _ _)
  exists u,rv
  rcases S.par y (zP hp)with k|k
  ·exact .inl ⟨k,ER ndP hp hu k⟩
  ·obtain⟨c,e⟩:=IV (n:=s.heap.objs.size+1) k
   refine .inr ⟨.inl k,c,e,?_⟩
   have q:=x.cell y c e
   rw[EN ndP hp hu (by show scope.names.lookup y≠_;rw[k];decide)]at q
   exact q
 ·exact e0.hok.fresh (Js (x.above y c (ye h)))
 ·unfold start
  show _=N.length
  rw[jL,jZ,Ja]
  omega
theorem acY{CX:Iv}{k:Nat}{f:Qu}{dV kV doc pm cA ct oc:Value}{sp:Sp}(lk:K.lookup f=some ⟨oc,od,.func (yJ name qual params body scope dV kV doc pm an cA ct),FF⟩)(Hu:yY K cA qual=true)(S:aH N ps scope)(len:∀ vs H Q E,sp vs H Q E->vs.length=ps.length)(Ao:∀ (A:Around) (outer:List qF) (s:qV) (H:Hp) (vs:List V) (Q:VK) (E:XK),cV k (A.deeper (envOfC qual scope s.heap.objs.size f cA))->sp vs H Q E ->
   ∃ t,G2 (Dd CX P w K mg base N qual scope f cA A outer s H E) body t/\t { nx:=fun _ H'=>Q .non H',rt:=Q } (start N vs) H):
  bu P w K mg base CX (k+1) f (yJ name qual params body scope dV kV doc pm an cA ct) ps sp:=by
 refine⟨len,fun A outer s H args us vs Q E hr e0 hb r MX=>?_⟩
 have hl:=len _ _ _ _ MX
 have KX:K.In s.heap:=e0.mod.kin.keeps fun b o e=>(e0.bs b o e).1
 have lim:s.heap.NoLimit:=e0.mod.nolimit.keeps fun b o e=>(e0.bs b o e).1
 have V0:∀ y∈ps.zip us,scope.names.lookup y.1=some .local\/(scope.names.lookup y.1=some .cell/\((cellsFrom #[23] scope.names []).lookup y.1).isSome=true):=fun⟨n,v⟩ hy=>by
  rcases S.par n (zy hy).1 with q|q
  ·exact .inl q
  ·exact .inr ⟨q,XH _ _ _ (.inl q)⟩
 refine qx hr.depth (KX _ _ lk) rfl S.co S.gen rfl (xV KX Hu) (hb _ _ _ _ ?_)
 refine YS S.kind V0 fun env he s1 x=>?_
 subst he
 refine⟨lim.keeps x.toInCall.keep,codeAny_func ?_⟩
 obtain⟨t,ht,hq⟩:=Ao A outer s H vs Q E (hr.deeper _) MX
 have I:Inv (Dd CX P w K mg base N qual scope f cA A outer s H E) [] (start N vs) H s1:=Fl S hr.hd e0 hl r x
 refine YQ (ht [] s1 (start N vs) H _ I hq) (fun fl s' hs=>?_) fun e s' hs=>hs
 have fin:∀ {σ':St} {H':Hp} {v:V} {u:Value},Inv (Dd CX P w K mg base N qual scope f cA A outer s H E) [] σ' H' s'->RelV v u->Q v H'->CE outer P w H s Q u s' :=
  fun {σ' H' v u} J rv q=>⟨v,H',J.os,J.bare,J.base,J.hok,rv,q⟩
 cases fl with
 | ret u =>
  obtain⟨v,σ',H',J,rv,q⟩:=hs
  exact fin J rv q
 | next =>
  obtain⟨σ',H',J,q⟩:=hs
  exact fin (v:=V.non) (u:=yC) J rfl q
 | brk =>
  obtain⟨_,_,_,q⟩:=hs
  exact False.elim q
 | cont =>
  obtain⟨_,_,_,q⟩:=hs
  exact False.elim q
section
variable{t:TA}{id T:String}{r:List V->Hp->VK->Prop}
def tCB(r:List V->Hp->VK->Prop)(t:TA):TE:=fun σ H Q=>t σ H fun vs H1=>r vs H1 Q
theorem aA(hc:ie X (.builtin id) r)(hg:Gl X x)(hm:X.mg x=none)(hv:qf x=some (.builtin id))(ha:PA X (e :: es) t)(hn:x ≠ "__name__" := by decide)(Bk:#[19]=false:=by decide)(he:WU (e :: es) X.env=#[21] :: WU es X.env:=by rfl)(rJ:#[29].any (·.1)=false:=by rfl):PE X #[27] (tCB r t):=by
 exists 5
 refine Wd (mB I hg hm hv ?_ hn Bk)
 exact XQ (bP (ha pos pins s σ H _ I h) fun us s1 ⟨vs,H1,I1,r1,q1⟩=>hc pins s1 σ H1 vs us Q I1 r1 q1) he rJ
theorem aW(hc:ie X (.type T) r)(hg:Gl X x)(hm:X.mg x=none)(hv:qf x=some (.type T))(ha:PA X (e :: es) t)(hn:x ≠ "__name__" := by decide)(Bk:#[19]=false:=by decide)(he:WU (e :: es) X.env=#[21] :: WU es X.env:=by rfl)(rJ:#[29].any (·.1)=false:=by rfl):PE X #[27] (tCB r t):=by
 exists 5
 refine Wd (mB I hg hm hv ?_ hn Bk)
 exact yG (bP (ha pos pins s σ H _ I h) fun us s1 ⟨vs,H1,I1,r1,q1⟩=>hc pins s1 σ H1 vs us Q I1 r1 q1) he rJ
end
end L2
namespace HT
open PySem PyProof.Rows
variable{prog:qR}{w:World}{A:Around}{E Q:Value→qV→Prop}{s:qV}{v vl vu:Value}{sl:Qu}{n:Nat}{items:Array Value}
section
open PySem.SeqAt
open PySem.AutoSeq1 (wpAny_loadPart')
open PySem.MeetsSeq PySem.MeetsSeq2 PySem.MeetsSeq3
end
section
def eR(n d:Nat):Option Int->Nat
 | none=>d
 | some v=>if v<0 then(v+(n:Int)).toNat else min v.toNat n
theorem afv(n d:Nat)(hd:d<=n)(o:Option Int):eR n d o<=n:=by
 cases o with
 | none=>exact hd
 | some v =>
  show(if v<0 then(v+(n:Int)).toNat else min v.toNat n)<=n
  by_cases hv:v<0
  ·rw[if_pos hv];omega
  ·rw[if_neg hv];exact Nat.min_le_right _ _
theorem Pe(v:Int)(n d:Nat):(if v<0 then max (v+(n:Int)) 0 else min v (n:Int))=((eR n d (some v):Nat):Int):=by
 show(if v<0 then max (v+(n:Int)) 0 else min v (n:Int))=(((if v<0 then(v+(n:Int)).toNat else min v.toNat n):Nat):Int)
 by_cases hv:v<0
 ·simp only[if_pos hv];omega
 ·simp only[if_neg hv];omega
theorem Mr(lo hi:Option Int)(n:Nat):Yx lo hi 1 (n:Int)=(((eR n 0 lo:Nat):Int),((eR n n hi:Nat):Int)):=by
 have h1:¬ ((1:Int)<0):=by omega
 unfold Yx
 simp only[h1,if_false]
 refine Prod.ext ?_ ?_
 ·cases lo with
  | none=>rfl
  | some v=>exact Pe v n 0
 ·cases hi with
  | none=>rfl
  | some v=>exact Pe v n n
theorem Ou(i j:Nat):yD (i:Int) (j:Int) 1=j-i:=by
 unfold yD
 have h1:(1:Int) > 0:=by omega
 simp only[h1,if_true,Qh]
 split<;>omega
theorem mM{o:Option Int}{Q:Option Int->qV->Prop}(p:qJ v o)(h:Q o s):wpAny #[6] A (GK v) Q E s:=by
 cases p with
 | none=>exact slicePart_none h
 | int i t=>exact slicePart_int h
theorem pf{lo hi:Option Int}{Q:Int×Int×Nat->qV->Prop}(hs:s.heap.IsSliceOf sl vl vu .none)(pl:qJ vl lo)(pu:qJ vu hi)(h:Q (((eR n 0 lo:Nat):Int),1,eR n n hi-eR n 0 lo) s):wpAny #[6] A (yh (.ref sl) (pure (n:Int))) Q E s:=by
 obtain⟨os,R4,Py,hds⟩:=id hs
 unfold yh Xj
 refine Wj (Wj (Wx R4 hds (x:=vl) rfl (Wj (Wx R4 hds (x:=vu) rfl (Wj (Wx R4 hds (x:=.none) rfl (YX ?_)))))))
 refine Wj (slicePart_none ?_)
 show wpAny _ _ (if ((1:Int)==0)=true then _ else _) _ _ s
 rw[if_neg #[8]]
 refine Wj (mM pl (Wj (mM pu (Wj (YX ?_)))))
 show wpAny _ _ (match Yx lo hi 1 (n:Int)with|(lo,hi)=>pure (lo,(1:Int),yD lo hi 1)) _ _ s
 rw[Mr lo hi n]
 show wpAny _ _ (pure (((eR n 0 lo:Nat):Int),(1:Int),yD ((eR n 0 lo:Nat):Int) ((eR n n hi:Nat):Int) 1)) _ _ s
 rw[Ou]
 exact YX h
theorem aau(xs:Array Value)(i k:Nat):((jO k).filterMap fun(m:Nat)=>xs[((i:Int)+(m:Int)*1).toNat]?).toArray=((xs.toList.drop i).take k).toArray:=by
 have e:(fun(m:Nat)=>xs[((i:Int)+(m:Int)*1).toNat]?)=fun m=>xs[i+m]? := by
  funext m
  have:((i:Int)+(m:Int)*1).toNat=i+m:=by omega
  rw[this]
 rw[e]
 have:=pick_run xs i k
 rw[zY]at this
 have e2:((fun x=>xs[x]?) ∘ fun x=>i+x)=fun m=>xs[i+m]? := rfl
 rw[e2]at this
 rw[this]
theorem Al{t:Qu}{lo hi:Option Int}(ht:qK s.heap t items)(hs:s.heap.IsSliceOf sl vl vu .none)(pl:qJ vl lo)(pu:qJ vu hi)(hw:¬ (eR items.size 0 lo=0/\eR items.size items.size hi=items.size))(h:Q #[13] { s with heap:=s.heap.push { cls:=.type "tuple",data:=.seq #[55].toArray } })(hsz:items.size<=sizeLine):wpAny #[6] A (getItem (.ref t) (.ref sl)) Q E s:=by
 have Ap:sizeOk (.seq #[55].toArray):=by
  show#[55].toArray.size<=sizeLine
  rw[jP,jX,Za,jU]
  omega
 have hj:eR items.size items.size hi<=items.size:=afv _ _ (jF _) hi
 obtain⟨os,R4,Py,hds⟩:=id hs
 have hTs:s.TypeIs (.ref sl) "slice" := ⟨os,R4,Py⟩
 unfold getItem
 try with_reducible refine YC ?_
 first|refine Wj (YX ?_)|skip
 refine Wj (Yj ht.typeIs #[8] ?_)
 refine Wj (Wl (name:=Str.ofString "__getitem__") ht.typeIs yN
  (Wm yN ht.typeIs entry_tuple_getitem ?_ (qY _ _)))
 show wpAny _ _ (yz (.ref t)>>=_) _ _ s
 refine Wj (WY ht ?_)
 refine Wj (Yt hTs ?_)
 rw[if_pos #[8]]
 refine Wj (pf hs pl pu ?_)
 have hno:¬ (#[22]=true):=by
  intro q
  rw[Jc,Jc]at q
  have q1:((eR items.size 0 lo:Nat):Int)=0:=eq_of_beq q.1.1
  have q2:eR items.size items.size hi-eR items.size 0 lo=items.size:=eq_of_beq q.2
  exact hw ⟨by omega,by omega⟩
 show wpAny _ _ (if #[22]=true then _ else _) _ _ s
 rw[if_neg hno,aau]
 first
  | exact Wj (m:=yM _) (YT (YX ⟨_,rfl,YX h⟩) Ap)
  | exact Wj (m:=yM _) (YT (Wj (YX (YX ⟨_,rfl,YX h⟩))) Ap)
  | exact Wj (Wj (m:=yM _) (YT (YX (YX ⟨_,rfl,YX h⟩)) Ap))
  | exact Wj (Wj (m:=yM _) (YT (YX ⟨_,rfl,YX h⟩) Ap))
end
end HT
namespace L2
open PySem PySem.Spec PyProof.Rows
variable{X:Cx}{e:Expr}{te:TE}{pos:Pos}{α:Type}{n j t':Nat}{i:Int}{r:R2}{pins:List (Qu×Obj)}{σ:St}{H:Hp}{s:qV}{p:Qu}{xs ys:List V}{aV its' us:List Value}{A:Around}{y x:V}{u v:Value}{es:List Expr}{name:qW}{prog:qR}{w:World}
abbrev TO:=St->Hp->(Option Int->Hp->Prop)->Prop
def PO(X:Cx)(e:Option Expr)(t:TO):Prop:=
 ∀ (pins:List #[58]) (s:qV) (σ:St) (H:Hp) (Q:Option Int->Hp->Prop),Inv X pins σ H s->t σ H Q ->
  wpAny #[4] X.A (evalPart e X.env) (fun u s'=>∃ o H',Inv X pins σ H' s'/\qJ u o/\Q o H') X.xe s
def acQ:TO:=fun _ H Q=>Q none H
def aiT(t:TE):TO:=fun σ H Q=>t σ H fun x H1=>∃ i,x=.int i/\Q (some i) H1
section
variable{lo hi:Option Expr}{tl th:TO}{p2:Pos}
theorem HQ:PO X none acQ:=by
 exists 5
 rw[evalPart_none]
 exact YX ⟨none,H,I,.none,h⟩
theorem P9(h:PE X e te):PO X (some e) (aiT te):=by
 intro pins s σ H Q I hw
 rw[evalPart_some]
 refine bP (h pins s σ H _ I hw) fun u s1 ⟨x,H1,I1,r1,q1⟩=>?_
 obtain⟨i,rfl,q⟩:=q1
 obtain⟨t,rfl⟩:=r1
 exact⟨some i,H1,I1,.int i t,q⟩
def SlR(X:Cx)(r:V->Option Int->Option Int->Hp->VK->Prop):Prop:=
 ∀ (pins:List #[58]) (s:qV) (σ:St) (H:Hp) (x:V) (v vl vu:Value) (lo hi:Option Int) (sl:Qu) (Q:VK),Inv X pins σ H s->RelV x v->s.heap.IsSliceOf sl vl vu .none->qJ vl lo->qJ vu hi->r x lo hi H Q ->
  ∃ T id,typeLookup (.type T) "__getitem__" = pure (some (.builtin id))/\s.TypeIs v T/\wpAny #[4] X.A (getItem v (.ref sl)) #[59] X.xe s
def tSl(r:V->Option Int->Option Int->Hp->VK->Prop)(te:TE)(tl th:TO):TE:=fun σ H Q=>te σ H fun x H1=>tl σ H1 fun l H2=>th σ H2 fun u H3=>r x l u H3 Q
theorem aal{r:V->Option Int->Option Int->Hp->VK->Prop}(hr:SlR X r)(he:PE X e te)(hl:PO X lo tl)(hu:PO X hi th):PE X (.Subscript e (.Slice lo hi none p2) pos) (tSl r te tl th):=by
 exists 5
 refine qX (bP #[63] fun v s1 ⟨x,H1,I1,r1,q1⟩=>?_)
 refine wpAny_Slice (bP (hl pins s1 σ H1 _ I1 q1) fun vl s2 ⟨l,H2,I2,pl,q2⟩=>bP (hu pins s2 σ H2 _ I2 q2) fun vu s3 ⟨u,H3,I3,pu,q3⟩=>?_)
 rw[evalPart_none]
 refine YX ?_
 have I4:Inv X pins σ H3 { s3 with heap:=s3.heap.push { cls:=.type "slice",data:=.fields #[vl,vu,.none] } }:=I3.kept (t' := s3.toks) fun b ob q=>jA _ q
 obtain⟨T,id,hT,ht,hg⟩:=hr pins { s3 with heap:=s3.heap.push { cls:=.type "slice",data:=.fields #[vl,vu,.none] } } σ H3 x v vl vu l u s3.heap.objs.size Q I4 r1 (xW ..) pl pu q3
 show wpAny #[4] X.A (subscriptTail e (.Slice lo hi none p2) v (.ref s3.heap.objs.size)) #[59] X.xe { s3 with heap:=s3.heap.push { cls:=.type "slice",data:=.fields #[vl,vu,.none] } }
 exact tail_any (ops:=[.ref s3.heap.objs.size,v]) ht hT hg (by with_unfolding_all rfl)
def C9(xs:List V)(lo hi:Option Int):List V:=(xs.drop (HT.eR xs.length 0 lo)).take (HT.eR xs.length xs.length hi-HT.eR xs.length 0 lo)
theorem BK(xs:List V)(lo hi:Option Int):(C9 xs lo hi).length<=xs.length:=by
 unfold C9
 rw[jX,Za]
 omega
def amG(K:Yv):V->Option Int->Option Int->Hp->VK->Prop:=fun x lo hi H Q=>∃ a xs,x=.ref a/\mT K H a xs /\
 ¬ (HT.eR xs.length 0 lo=0/\HT.eR xs.length xs.length hi=xs.length)/\∀ p,H p=none->Q (.ref p) (upd H p (.tup (C9 xs lo hi)))
theorem afz:SlR X (amG X.K):=by
 intro pins s σ H x v vl vu lo hi sl Q I rx hs pl pu h
 obtain⟨a,xs,rfl,hx,hw,q⟩:=h
 cases rx
 obtain⟨aV,r,ht,hz⟩:=I.tuple hx
 have hlen:aV.toArray.size=xs.length:=by rw[jP];exact r.length.symm
 exists "tuple",_,PyProof.Rows.slot_tuple_getitem.lookup,ht.typeIs
 refine HT.Al ht hs pl pu (by rw[hlen];exact hw) ?_ (by rw[hlen];exact hz)
 rw[hlen]
 refine⟨.ref s.heap.objs.size,_,I.laid (t' := s.toks) (o:=.tup (C9 xs lo hi)) (fun b ob q=>jA _ q) (jF _) ?_,rfl,q _ #[56]⟩
 exact⟨ji (BK xs lo hi) hz,_,(r.drop (HT.eR xs.length 0 lo)).take (HT.eR xs.length xs.length hi-HT.eR xs.length 0 lo),IsTup.new _ _⟩
end
def W4(n:Nat)(i:Int):Option Nat:=if 0<=i then(if i<n then some i.toNat else none)else if -(n:Int)<=i then some (i+n).toNat else none
def tW(xs:List α)(i:Int):Option α:=(W4 xs.length i).bind fun j=>xs[j]?
theorem PM(h:W4 n i=some j):seqIndex? i n=some j/\j<n/\-(n:Int)<=i/\i<n:=by
 unfold W4 at h
 by_cases h0:0<=i
 ·rw[if_pos h0]at h
  by_cases h1:i<n
  ·rw[if_pos h1]at h
   have e:i.toNat=j:=Option.some.inj h
   exact⟨by rw[WS h0 h1,e],by omega,by omega,h1⟩
  ·rw[if_neg h1]at h;cases h
 ·rw[if_neg h0]at h
  by_cases h1 : -(n:Int)<=i
  ·rw[if_pos h1]at h
   have e:(i+n).toNat=j:=Option.some.inj h
   exact⟨by rw[seqIndex_neg #[0] h1,e],by omega,h1,by omega⟩
  ·rw[if_neg h1]at h;cases h
theorem O8{xs:List α}{v:α}(h:tW xs i=some v):∃ j,seqIndex? i xs.length=some j/\xs[j]?=some v/\j<xs.length/\-(xs.length:Int)<=i/\i<xs.length:=by
 unfold tW at h
 cases e:W4 xs.length i with
 | none=>rw[e]at h;cases h
 | some j =>
  rw[e]at h
  obtain⟨h1,h2,h3,h4⟩:=PM e
  exact⟨j,h1,h,h2,h3,h4⟩
theorem Ag{xs:List α}{v:α}(h:xs[j]?=some v):tW xs (j:Int)=some v:=by
 have hj:j<xs.length:=(jb.mp h).1
 have e:W4 xs.length (j:Int)=some j:=by
  unfold W4
  rw[if_pos #[0],if_pos #[0]];simp
 unfold tW;rw[e];exact h
theorem IP(xs:List α)(v:α):tW (xs++[v]) (-1)=some v:=by
 have hl:(xs++[v]).length=xs.length+1:=by simp
 have e:W4 (xs++[v]).length (-1)=some xs.length:=by
  unfold W4
  rw[hl,if_neg #[8],if_pos #[0]]
  congr 1
  omega
 unfold tW
 rw[e]
 show(xs++[v])[xs.length]?=some v
 simp
def abm(b:Expr):Prop := ∀ o i,subscripted b false o i=operate [o,i] (getItem o i)
def IxR(X:Cx)(r:R2):Prop:=
 ∀ (value slice:Expr) (pins:List #[58]) (s:qV) (σ:St) (H:Hp) (x y:V) (v u:Value) (Q:VK),Inv X pins σ H s->RelV x v->RelV y u->r x y H Q ->
  subscripted slice false v u=operate [v,u] (getItem v u)->wpAny #[4] X.A (subscriptTail value slice v u) #[59] X.xe s
def MtR(X:Cx)(id:String)(r:V->List V->Hp->VK->Prop):Prop:=
 ∀ (pins:List #[58]) (s:qV) (σ:St) (H:Hp) (x:V) (xs:List V) (v:Value) (us:List Value) (Q:VK),Inv X pins σ H s->RelV x v->Vals xs us->r x xs H Q ->
  wpAny #[4] X.A (call (.builtin id) (v :: us)) #[59] X.xe s
section
variable{a b:Expr}{ta tb:TE}
theorem aN(hr:IxR X r)(ha:PE X a ta)(hb:PE X b tb)(hs:abm b):PE X (.Subscript a b pos) (tOp r ta tb):=by
 exists 5
 exact qX (adQ ha hb I h fun v u s2 x y H2 I2 rx ry q=>hr a b pins s2 σ H2 x y v u Q I2 rx ry q (hs _ _))
def aiw(K:Yv):R2:=fun x y H Q=>∃ p xs i v,x=.ref p/\y=.int i/\lh K H p xs/\tW xs i=some v/\Q v H
def aix(K:Yv):R2:=fun x y H Q=>∃ p xs i v,x=.ref p/\y=.int i/\mT K H p xs/\tW xs i=some v/\Q v H
theorem dS:IxR X (aiw X.K):=by
 intro value slice pins s σ H x y v u Q I rx ry h hs
 obtain⟨p,xs,i,z,rfl,rfl,hq,he,q⟩:=h
 cases rx
 obtain⟨t,rfl⟩:=ry
 obtain⟨aV,r,pl,hz⟩:=I.list hq
 obtain⟨j,h1,h2,h3,h4,h5⟩:=O8 he
 obtain⟨w,ew,FL⟩:=r.get h2
 have hl:=r.length
 have hn:=DF
 have fin:EP X pins σ Q w s:=⟨z,H,I,FL,q⟩
 by_cases h0:0<=i
 ·have hj:i.toNat=j:=by
   rw[WS h0 h5]at h1
   exact Option.some.inj h1
  exact item_listR pl.isList h0 #[0] (by rw[hj];simpa using ew) fin hs
 ·have hj:(i+(aV.toArray.size:Int)).toNat=j:=by
   rw[seqIndex_neg #[0] h4]at h1
   rw[jP,<- hl]
   exact Option.some.inj h1
  exact WV (x:=w) pl.isList.typeIs slot_list_getitem.lookup
   (wpAny_getItem_list_neg (Q:=fun r s'=>r=w/\EP X pins σ Q r s') pl.isList #[0] (by rw[jP]<;>omega) #[0] (by rw[hj];simpa using ew) ⟨rfl,fin⟩) hs
theorem aO:IxR X (aix X.K):=by
 intro value slice pins s σ H x y v u Q I rx ry h hs
 obtain⟨p,xs,i,z,rfl,rfl,hq,he,q⟩:=h
 cases rx
 obtain⟨t,rfl⟩:=ry
 obtain⟨aV,r,pl,hz⟩:=I.tuple hq
 obtain⟨j,h1,h2,h3,h4,h5⟩:=O8 he
 obtain⟨w,ew,FL⟩:=r.get h2
 have hl:=r.length
 have hn:=DF
 have fin:EP X pins σ Q w s:=⟨z,H,I,FL,q⟩
 exact WV (x:=w) pl.typeIs slot_tuple_getitem.lookup
  (getItem_tuple (j:=j) (Q:=fun r s'=>r=w/\EP X pins σ Q r s') pl #[0] #[0] (by rw[jP,<- hl];exact h1) (by simpa using ew) ⟨rfl,fin⟩) hs
theorem N4(aV:List Value)(n j:Nat)(u:Value):Obj.mapSeq (·.setIfInBounds j u) { cls:=.type "list",data:=.seq aV.toArray n }={ cls:=.type "list",data:=.seq (aV.set j u).toArray n }:=by
 simp[Obj.mapSeq]
theorem Inv.lst{pins:List #[58]}{σ:St}{H:Hp}{s:qV}{p:Qu}{xs:List V}(I:Inv X pins σ H s)(h:H p=some (.lst xs)):
  ∃ (aV:List Value) (n:Nat),Vals xs aV/\s.heap.get? p=some { cls:=.type "list",data:=.seq aV.toArray n }/\xs.length<=sizeLine:=by
 obtain⟨z,aV,n,r,e⟩:=I.hok p _ h
 exact⟨aV,n,r,e,z⟩
theorem Inv.aeU{n':Nat}{f:Obj->Obj}(I:Inv X pins σ H s)(h:H p=some (.lst xs))(ho:s.heap.get? p=some { cls:=.type "list",data:=.seq aV.toArray n })(hf:f { cls:=.type "list",data:=.seq aV.toArray n }={ cls:=.type "list",data:=.seq its'.toArray n' })(r:Vals ys its')(hz:ys.length<=sizeLine)(t:Nat):
  Inv X pins σ (upd H p (.lst ys)) { s with heap:=s.heap.update p f,toks:=t }:=by
 have e:(s.heap.update p f).get? p=some { cls:=.type "list",data:=.seq its'.toArray n' }:=by
  rw[jg f ho (by rw[hf]<;>rfl),hf]
 refine I.write (x:=p) (e:=p) (by rw[h];trivial) (.inl rfl) (fun b u hb q=>(jo _ _ (Ne.symm hb)).trans q) ⟨_,e⟩ ?_
 exact⟨hz,its',n',r,e⟩
def aiy:V->V->V->Hp->(Hp->Prop)->Prop:=fun o i v H Q=>∃ p xs k j,o=.ref p/\i=.int k/\H p=some (.lst xs)/\W4 xs.length k=some j/\Q (upd H p (.lst (xs.set j v)))
theorem set_list:agK X aiy:=by
 intro pins s σ H o i v ov iv u Q I ro ri rv h
 obtain⟨p,xs,k,j,rfl,rfl,hp,hj,q⟩:=h
 cases ro
 obtain⟨t,rfl⟩:=ri
 obtain⟨aV,n,r,ho,hz⟩:=I.lst hp
 obtain⟨h1,h2,h3,h4⟩:=PM hj
 have hl:=r.length
 have hn:=DF
 have I':Inv X pins σ (upd H p (.lst (xs.set j v))) { s with heap:=s.heap.update p (Obj.mapSeq (·.setIfInBounds j u)) }:=
  I.aeU hp ho (N4 aV n j u) (r.set rv j) (by rw[ZA];exact hz) s.toks
 by_cases h0:0<=k
 ·have hk:k.toNat=j:=by
   rw[WS h0 h4]at h1
   exact Option.some.inj h1
  exact PySem.W.ki_setAt ho h0 #[0] (by rw[jP,<- hl];exact h4) (by rw[hk];exact⟨_,I',q⟩)
 ·have hk:(k+(aV.toArray.size:Int)).toNat=j:=by
   rw[seqIndex_neg #[0] h3]at h1
   rw[jP,<- hl]
   exact Option.some.inj h1
  exact PySem.W.ki_setBack ho #[0] (by rw[jP,<- hl];exact h3) #[0] (by rw[hk];exact⟨_,I',q⟩)
theorem Ib(lo hi:Option Int)(n:Nat):(sliceBounds lo hi none n).1=((HT.eR n 0 lo:Nat):Int)/\(sliceBounds lo hi none n).2.1=((HT.eR n n hi:Nat):Int)/\(sliceBounds lo hi none n).2.2=1:=by
 refine⟨?_,?_,rfl⟩
 ·cases lo with
  | none=>simp[sliceBounds,HT.eR]
  | some i =>
   simp only[sliceBounds,HT.eR,QT,show(1:Int) > 0 by decide,if_true]
   by_cases h:i<0
   ·simp only[h,if_true]<;>omega
   ·simp only[h,if_false]<;>omega
 ·cases hi with
  | none=>simp[sliceBounds,HT.eR]
  | some i =>
   simp only[sliceBounds,HT.eR,QT,show(1:Int) > 0 by decide,if_true]
   by_cases h:i<0
   ·simp only[h,if_true]<;>omega
   ·simp only[h,if_false]<;>omega
theorem EG(aV:List Value)(lo hi:Option Int):slicePick aV.toArray lo hi none=((aV.drop (HT.eR aV.length 0 lo)).take (HT.eR aV.length aV.length hi-HT.eR aV.length 0 lo)).toArray:=by
 obtain⟨h1,h2,h3⟩:=Ib lo hi aV.toArray.size
 unfold slicePick
 rw[h1,h2,h3]
 simp only[sliceRange_one,pick_run,jP]<;>rfl
def amF(K:Yv):V->Option Int->Option Int->Hp->VK->Prop:=fun x lo hi H Q=>∃ a xs,x=.ref a/\lh K H a xs/\∀ p,H p=none->Q (.ref p) (upd H p (.lst (C9 xs lo hi)))
theorem acI:SlR X (amF X.K):=by
 intro pins s σ H x v vl vu lo hi sl Q I rx hs pl pu h
 obtain⟨a,xs,rfl,hx,q⟩:=h
 cases rx
 obtain⟨aV,r,ht,hz⟩:=I.list hx
 have hlen:=r.length
 exists "list",_,slot_list_getitem.lookup,ht.isList.typeIs
 refine wpAny_getItem_list_slice ht.isList hs pl pu .none #[11] ?_ (by rw[jP]<;>omega)
 rw[EG,<- hlen]
 refine⟨.ref s.heap.objs.size,_,I.laid (t' := s.toks) (o:=.lst (C9 xs lo hi)) (fun b ob q=>jA _ q) (jF _) ?_,rfl,q _ #[56]⟩
 exact⟨ji (BK xs lo hi) hz,_,0,(r.drop (HT.eR xs.length 0 lo)).take (HT.eR xs.length xs.length hi-HT.eR xs.length 0 lo),jH _ rfl⟩
def fU:V->Bool
 | .non=>true
 | .bl _=>true
 | .int _=>true
 | .str _=>true
 | _=>false
def E1:V->V->Bool
 | .non,.non=>true
 | .bl a,.bl b=>a==b
 | .bl a,.int b=>(if a then 1 else 0)==b
 | .int a,.bl b=>a==(if b then 1 else 0)
 | .int a,.int b=>a==b
 | .str a,.str b=>a==b
 | _,_=>false
theorem MN(ry:RelV y u)(rx:RelV x v)(fy:fU y=true)(fx:fU x=true):XC A s u v (E1 y x):=by
 cases y with
 | non =>
  cases ry
  cases x with
  | non=>cases rx;exact GD _
  | bl b=>cases rx;exact gL b
  | int b=>obtain⟨t,rfl⟩:=rx;exact gP b t
  | str b=>obtain⟨t,rfl⟩:=rx;exact gQ b t
  | _=>exact absurd (show false=true from fx) jd
 | bl a =>
  cases ry
  cases x with
  | non=>cases rx;exact gM a
  | bl b=>cases rx;exact gN a b
  | int b=>obtain⟨t,rfl⟩:=rx;exact gR a b t
  | str b=>obtain⟨t,rfl⟩:=rx;exact gS a b t
  | _=>exact absurd (show false=true from fx) jd
 | int a =>
  obtain⟨t',rfl⟩:=ry
  cases x with
  | non=>cases rx;exact gT a t'
  | bl b=>cases rx;exact gU a t' b
  | int b=>obtain⟨t,rfl⟩:=rx;exact Xc a t' b t
  | str b=>obtain⟨t,rfl⟩:=rx;exact xP a t' b t
  | _=>exact absurd (show false=true from fx) jd
 | str a =>
  obtain⟨t',rfl⟩:=ry
  cases x with
  | non=>cases rx;exact gV a t'
  | bl b=>cases rx;exact gW a t' b
  | int b=>obtain⟨t,rfl⟩:=rx;exact xQ a t' b t
  | str b=>obtain⟨t,rfl⟩:=rx;exact gY a t' b t
  | _=>exact absurd (show false=true from fx) jd
 | _=>exact absurd (show false=true from fy) jd
def MO(x:V)(u:Value):Bool:=match u with
 | .none=>E1 .non x
 | .bool b=>E1 (.bl b) x
 | .int i _=>E1 (.int i) x
 | .str z _=>E1 (.str z) x
 | _=>false
theorem TJ(r:RelV y u)(f:fU y=true):MO x u=E1 y x:=by
 cases y with
 | non=>cases r;rfl
 | bl b=>cases r;rfl
 | int i=>obtain⟨t,rfl⟩:=r;rfl
 | str z=>obtain⟨t,rfl⟩:=r;rfl
 | _=>exact absurd (show false=true from f) jd
theorem Ae:∀ {xs:List V} {us:List Value},Vals xs us->xs.all fU=true->us.any (MO x)=xs.any fun y=>E1 y x
 | _,_,.nil,_=>rfl
 | y :: xs,u :: us,.cons r t,f=>by
  rw[QA,Jc]at f
  rw[zU,zU,TJ r f.1,Ae t f.2]
theorem sy(rx:RelV x v)(fx:fU x=true):∀ {xs:List V} {us:List Value},Vals xs us->xs.all fU=true->∀ u∈us,XC A s u v (MO x u)
 | _,_,.nil,_=>fun u hu=>by cases hu
 | y :: xs,u :: us,.cons r t,f=>fun u' hu=>by
  rw[QA,Jc]at f
  rcases jS.mp hu with rfl|hu
  ·rw[TJ r f.1];exact MN r rx f.1 fx
  ·exact sy rx fx t f.2 u' hu
def inV(x:V)(xs:List V):Bool:=xs.any fun y=>E1 y x
def rIn(K:Yv)(neg:Bool):R2:=fun x y H Q=>∃ p xs,y=.ref p/\(lh K H p xs\/mT K H p xs)/\fU x=true/\xs.all fU=true/\Q (.bl (if neg then !inV x xs else inV x xs)) H
theorem Sx:wX X (WC .In) (rIn X.K false):=by
 exists 20
 obtain⟨p,xs,rfl,hq,fx,fs,q⟩:=h
 cases ry
 rcases hq with hq|hq
 ·obtain⟨aV,r,pl,hz⟩:=I.list hq
  refine SeqAt.in_listAt (MO x) pl.isList (fun w hw=>sy rx fx r fs w (by simpa using hw)) ⟨.bl _,H,I,rfl,?_⟩
  rw[show aV.toArray.any (MO x)=aV.any (MO x) by simp,Ae r fs]
  exact q
 ·obtain⟨aV,r,pl,hz⟩:=I.tuple hq
  refine SeqAt.in_tupleAt (MO x) pl (fun w hw=>sy rx fx r fs w (by simpa using hw)) ⟨.bl _,H,I,rfl,?_⟩
  rw[show aV.toArray.any (MO x)=aV.any (MO x) by simp,Ae r fs]
  exact q
theorem HJ:wX X (WC .NotIn) (rIn X.K true):=by
 exists 20
 obtain⟨p,xs,rfl,hq,fx,fs,q⟩:=h
 cases ry
 rcases hq with hq|hq
 ·obtain⟨aV,r,pl,hz⟩:=I.list hq
  refine SeqAt.notIn_listAt (MO x) pl.isList (fun w hw=>sy rx fx r fs w (by simpa using hw)) ⟨.bl _,H,I,rfl,?_⟩
  rw[show aV.toArray.any (MO x)=aV.any (MO x) by simp,Ae r fs]
  exact q
 ·obtain⟨aV,r,pl,hz⟩:=I.tuple hq
  refine SeqAt.notIn_tupleAt (MO x) pl (fun w hw=>sy rx fx r fs w (by simpa using hw)) ⟨.bl _,H,I,rfl,?_⟩
  rw[show aV.toArray.any (MO x)=aV.any (MO x) by simp,Ae r fs]
  exact q
theorem aI:ie X (.builtin "len") (fun xs H Q=>∃ p ys,xs=[.ref p]/\(lh X.K H p ys\/mT X.K H p ys)/\Q (.int ys.length) H):=by
 exists 15
 obtain⟨p,ys,rfl,hq,q⟩:=h
 exists 22
 cases rx
 have hn:=DF
 rcases hq with hq|hq
 ·obtain⟨aV,r',pl,hz⟩:=I.list hq
  have hlen:=r'.length
  exact Calls.call_len_list pl.isList (by simp only[jP]<;>omega) ⟨.int ys.length,H,I.tok _,⟨s.toks+1,by rw[jP,hlen]⟩,q⟩
 ·obtain⟨aV,r',pl,hz⟩:=I.tuple hq
  have hlen:=r'.length
  exact len_tuple pl (by simp only[jP]<;>omega) ⟨.int ys.length,H,I.tok _,⟨s.toks+1,by rw[jP,hlen]⟩,q⟩
theorem aP:ie X (.type "tuple") (fun xs H Q=>∃ p ys,xs=[.ref p]/\((lh X.K H p ys/\∀ l,H l=none->Q (.ref l) (upd H l (.tup ys)))\/(mT X.K H p ys/\Q (.ref p) H))):=by
 exists 15
 obtain⟨p,ys,rfl,h⟩:=h
 exists 22
 cases rx
 rcases h with⟨hq,q⟩|⟨hq,q⟩
 ·obtain⟨aV,r',pl,hz⟩:=I.list hq
  have hlen:=r'.length
  refine call_tuple_list pl.isList (fun h' kp=>?_) (by simp only[jP]<;>omega)
  have I1:Inv X pins σ H { s with heap:=h' }:=I.kept (t' := s.toks) kp
  have I2:Inv X pins σ (upd H h'.objs.size (.tup ys)) { s with heap:=h'.push { cls:=.type "tuple",data:=.seq aV.toArray } }:=
   I1.laid (t' := s.toks) (fun b o e=>jA _ e) (jF _) (show bA X.prog X.w _ _ _ (.tup ys)from⟨hz,aV,r',IsTup.new _ _⟩)
  exact⟨.ref h'.objs.size,_,I2,rfl,q _ (I1.hok.fresh (jF _))⟩
 ·obtain⟨aV,r',pl,hz⟩:=I.tuple hq
  exact call_tuple_same pl ⟨.ref p,H,I,rfl,q⟩
def tyV(K:Yv)(T:String)(x:V)(H:Hp):Prop:=match x with
 | .str _=>T = "str"
 | .int _=>T = "int"
 | .ref p=>(T = "list" /\ ∃ xs,lh K H p xs)\/(T = "tuple" /\ ∃ o,K.lookup p=some o/\o.cls=.type "tuple" /\ o.dict=none) \/
   (T = "dict" /\ ((∃ kvs,H p=some (.dK kvs))\/∃ kvs,H p=some (.dT kvs)))\/(T = "set" /\ ∃ S n,H p=some (.set S n))
 | _=>False
theorem aa5{T:String}(I:Inv X pins σ H s)(r:RelV x v)(ty:tyV X.K T x H):
  s.TypeIs v T/\∀ a,v=.ref a->∃ ob,s.heap.get? a=some ob/\ob.dict=none:=by
 cases x with
 | str z =>
  obtain⟨t,rfl⟩:=r
  cases(show T = "str" from ty)
  exact⟨typeIs_str s z t,fun _ e=>nomatch e⟩
 | int i =>
  obtain⟨t,rfl⟩:=r
  cases(show T = "int" from ty)
  exact⟨typeIs_int s i t,fun _ e=>nomatch e⟩
 | ref p =>
  cases r
  rcases ty with⟨rfl,xs,hq⟩|⟨rfl,o,hk,hc,hd⟩|⟨rfl,hk⟩|⟨rfl,S,n,hk⟩
  ·obtain⟨aV,_,pl,_⟩:=I.list hq
   refine⟨pl.isList.typeIs,fun a e=>?_⟩
   cases e
   obtain⟨o,n,e,c,hd,_⟩:=pl
   exact⟨o,e,hd⟩
  ·refine⟨⟨o,I.pN p o hk,hc⟩,fun a e=>?_⟩
   cases e
   exact⟨o,I.pN _ o hk,hd⟩
  ·have z:∃ o,s.heap.get? p=some o/\o.ExactDict:=by
    rcases hk with⟨kvs,hk⟩|⟨kvs,hk⟩
    ·obtain⟨_,_,_,_,o,_,_,e,ex,_⟩:=I.hok p _ hk
     exact⟨o,e,ex⟩
    ·obtain⟨_,_,_,_,o,_,_,e,ex,_⟩:=I.hok p _ hk
     exact⟨o,e,ex⟩
   obtain⟨o,e,ex⟩:=z
   refine⟨⟨o,e,ex.1⟩,fun a e2=>?_⟩
   cases e2
   exact⟨o,e,ex.2.1⟩
  ·obtain⟨o,_,_,_,e,ex,_⟩:=I.hok p _ hk
   refine⟨⟨o,e,ex.1⟩,fun a e2=>?_⟩
   cases e2
   exact⟨o,e,ex.2.1⟩
 | _=>exact False.elim ty
def amP(K:Yv)(T:String)(r:V->List V->Hp->VK->Prop)(to:TE):TE:=fun σ H Q=>to σ H fun x H1=>tyV K T x H1/\r x [] H1 Q
def tBM(K:Yv)(T:String)(r:V->List V->Hp->VK->Prop)(to:TE)(t:TA):TE:=fun σ H Q=>to σ H fun x H1=>tyV K T x H1/\t σ H1 fun xs H2=>r x xs H2 Q
variable{o:Expr}{to:TE}{t:TA}{apos cN:Pos}{T id:String}{r:V->List V->Hp->VK->Prop}
theorem Om(pa:qQ T)(slot:Slot T name id)(hty:typeOf (.builtin id)=pure (.type "method_descriptor"))(hm:MtR X id r)(ho:PE X o to)(Ds:attributeBase o name X.env (eval o X.env)=eval o X.env:=by rfl)(K1:(apos.endLine==cN.line)=true:=by rfl):PE X (.Call (.Attribute o name apos) [] [] cN) (amP X.K T r to):=by
 exists 5
 refine wpAny_Call_method0_late Ds K1 (bP (ho pins s σ H _ I h) fun v s1 ⟨x,H1,I1,r1,ty,q1⟩=>?_)
 obtain⟨h1,h2⟩:=aa5 I1 r1 ty
 exact⟨T,id,pa,slot,hty,h1,h2,yW rfl (PySem.evalArgs_none (hm pins s1 σ H1 x [] v [] Q I1 r1 .nil q1))⟩
theorem fA(pa:qQ T)(slot:Slot T name id)(hty:typeOf (.builtin id)=pure (.type "method_descriptor"))(hm:MtR X id r)(ho:PE X o to)(ha:PA X (e :: es) t)(Ds:attributeBase o name X.env (eval o X.env)=eval o X.env:=by rfl)(ael:((backTo cN (WU (e :: es) X.env)).all (fun x=>!x.1)&&(backToKw cN (keywordEach [] X.env)).all (fun x=>x.1.isSome)
   && decide ((e :: es).length+([]:List qN).length+(if ([]:List qN).isEmpty then 0 else 1)<30))=true:=by rfl)(K1:(apos.endLine==cN.line)=true:=by rfl)(hs:WU (e :: es) X.env=#[21] :: WU es X.env:=by rfl)(MW:(backTo cN (WU es X.env)).any (·.1)=false:=by rfl):
  PE X (.Call (.Attribute o name apos) (e :: es) [] cN) (tBM X.K T r to t):=by
 exists 5
 refine wpAny_Call_method_late Ds ael K1 rfl (bP (ho pins s σ H _ I h) fun v s1 ⟨x,H1,I1,r1,ty,q1⟩=>?_)
 obtain⟨h1,h2⟩:=aa5 I1 r1 ty
 exists T,id,pa,slot,hty,h1,h2
 have hA:=ha cN pins s1 σ H1 _ I1 q1
 rw[hs]at hA ⊢
 refine yW (by show(false||(backTo cN (WU es X.env)).any (·.1))=false;rw[MW]<;>rfl) (yk ?_)
 exact bP hA fun us s2 ⟨vs,H2,I2,r2,q2⟩=>hm pins s2 σ H2 x vs v us Q I2 r1 r2 q2
/- xs.append(e),list.index on a aid tuple .. are MtR facts of 06m -/
end
def MtM(X:Cx)(id:String)(r:V->List V->Hp->VK->Prop):Prop:=
 ∀ (pins:List #[58]) (s:qV) (σ:St) (H:Hp) (x:V) (xs:List V) (v:Value) (us:List Value) (Q:VK),Inv X pins σ H s->RelV x v->Vals xs us->r x xs H Q ->
  wpAny #[4] X.A (call (.builtin id) (v :: us)) #[59] X.xe s
theorem Vals.one:∀ {x:V} {us:List Value},Vals [x] us->∃ u,us=[u]/\RelV x u
 | _,_,.cons r .nil=>⟨_,rfl,r⟩
theorem Vals.two:∀ {x y:V} {us:List Value},Vals [x,y] us->∃ u v,us=[u,v]/\RelV x u/\RelV y v
 | _,_,_,.cons r (.cons q .nil)=>⟨_,_,rfl,r,q⟩
theorem Vals.zero:∀ {us:List Value},Vals [] us->us=[]
 | _,.nil=>rfl
theorem Vals.dropLast(h:Vals xs us):Vals xs.dropLast us.dropLast:=by
 induction h with
 | nil=>exact .nil
 | cons r t ih =>
  cases t with
  | nil=>exact .nil
  | cons q t'=>exact .cons r ih
theorem MP(l:List α):l.eraseIdx (l.length-1)=l.dropLast:=by
 induction l with
 | nil=>rfl
 | cons a r ih =>
  cases r with
  | nil=>rfl
  | cons b r =>
   have e:(a :: b :: r).length-1=((b :: r).length-1)+1:=by
    have h1:(a :: b :: r).length=r.length+2:=rfl
    have h2:(b :: r).length=r.length+1:=rfl
    omega
   rw[e,List.eraseIdx_cons_succ,ih]
   all_goals rfl
section
variable{l:Qu}
theorem Inv.ab5{f:Array Value->Array Value}{t':Nat}(I:Inv X pins σ H s)(hH:H l=some (.lst xs))(e:s.heap.get? l=some { cls:=.type "list",data:=.seq aV.toArray n })(hf:f aV.toArray=its'.toArray)(hv:Vals ys its')(hz:ys.length<=sizeLine):
  Inv X pins σ (upd H l (.lst ys)) { s with heap:=s.heap.update l (Obj.mapSeq f),toks:=t' }:=by
 have q:=gh e f
 rw[hf]at q
 refine I.write (x:=l) (e:=l) (by rw[hH];exact trivial) (.inl rfl) (fun b' u hb hu=>(jo s.heap (Obj.mapSeq f) (Ne.symm hb)).trans hu) ⟨_,q⟩ ?_
 exact⟨hz,its',_,hv,q⟩
theorem Inv.aic{t':Nat}(I:Inv X pins σ H s)(hv:Vals ys aV)(hz:ys.length<=sizeLine):
  Inv X pins σ (upd H s.heap.objs.size (.lst ys)) { s with heap:=s.heap.push { cls:=.type "list",data:=.seq aV.toArray },toks:=t' }:=
 I.laid (fun _ _ q=>jA _ q) (jF _) ⟨hz,aV,0,hv,jH _ rfl⟩
theorem Inv.fresh(I:Inv X pins σ H s):H s.heap.objs.size=none:=I.hok.fresh (jF _)
theorem Inv.Cf(I:Inv X pins σ H s)(hH:H l=some (.lst xs)):xs.length<=sizeLine/\∃ (aV:List Value) (n:Nat),Vals xs aV/\xs.length=aV.length/\s.heap.get? l=some { cls:=.type "list",data:=.seq aV.toArray n }:=by
 obtain⟨z,aV,n,r,e⟩:=I.hok l _ hH
 exact⟨z,aV,n,r,r.length,e⟩
theorem Lo(h:n<=sizeLine):yb n=false:=by
 unfold yb
 exact decide_eq_false #[0]
end
section
def acA:V->List V->Hp->VK->Prop:=fun x vs H Q=>∃ l xs y,x=.ref l/\vs=[y]/\H l=some (.lst xs)/\xs.length<sizeLine/\Q .non (upd H l (.lst (xs++[y])))
theorem bE:MtM X "list.append" acA:=by
 exists 28
 obtain⟨l,xs,y,rfl,rfl,hH,hz,q⟩:=h
 cases rx
 obtain⟨u,rfl,ru⟩:=rv.one
 obtain⟨z,aV,n,r,hl,e⟩:=I.Cf hH
 refine qj F.slot_list_append ⟨_,e,rfl⟩ F.entry_list_append (F.args_list_append_2 _ _) (PySem.list_append l aV.toArray n u (by rw[jP];omega)) ⟨e,?_⟩
 refine⟨.non,_,I.ab5 (its' := aV++[u]) hH e #[11] (r.append (.cons ru .nil)) ?_,rfl,q⟩
 rw[jL,js]
 omega
def Q1:V->List V->Hp->VK->Prop:=fun x vs H Q=>∃ l b xs zs,x=.ref l/\vs=[.ref b]/\H l=some (.lst xs)/\H b=some (.lst zs)/\xs.length+zs.length<=sizeLine/\Q .non (upd H l (.lst (xs++zs)))
theorem Sf:MtM X "list.extend" Q1:=by
 exists 28
 obtain⟨l,b,xs,zs,rfl,rfl,hH,hB,hz,q⟩:=h
 cases rx
 obtain⟨u,rfl,ru⟩:=rv.one
 cases ru
 obtain⟨z,aV,n,r,hl,e⟩:=I.Cf hH
 obtain⟨z2,wC,n2,r2,hl2,e2⟩:=I.Cf hB
 have hsz:aV.toArray.size+wC.toArray.size<=sizeLine:=by rw[jP,jP];omega
 have V3:¬ (!aV.toArray.isEmpty&&yb (aV.toArray.size+wC.toArray.size))=true:=by
  rw[Lo hsz,zJ]
  exact jd
 refine qj xX ⟨_,e,rfl⟩ xM (xH _ _)
  (AutoSeq1.list_extend_list_list_0 l aV.toArray n b wC.toArray n2 V3 (by rw[jP];omega) #[0]) ⟨e,e2,?_⟩
 refine⟨.non,_,I.ab5 (its' := aV++wC) hH e #[11] (r.append r2) ?_,rfl,q⟩
 rw[jL]
 omega
def amE:V->List V->Hp->VK->Prop:=fun x vs H Q=>∃ l xs y,x=.ref l/\vs=[]/\H l=some (.lst xs)/\xs[xs.length-1]?=some y/\Q y (upd H l (.lst xs.dropLast))
theorem Y2:MtM X "list.pop" amE:=by
 exists 28
 obtain⟨l,xs,y,rfl,rfl,hH,hy,q⟩:=h
 cases rx
 have hus:=rv.zero
 subst hus
 obtain⟨z,aV,n,r,hl,e⟩:=I.Cf hH
 obtain⟨u,hu,ru⟩:=r.get hy
 have hy':aV.toArray[aV.toArray.size-1]?=some u:=by
  show aV.toArray[aV.length-1]?=some u
  rw[<- JG,<- hl]
  exact hu
 refine qj F.slot_list_pop ⟨_,e,rfl⟩ F.entry_list_pop (F.args_list_pop_1 _) (MeetsSeq.list_pop_last l aV.toArray n u hy' (by rw[jP];omega)) ⟨e,?_⟩
 refine⟨y,_,I.ab5 (its' := aV.dropLast) hH e ?_ r.dropLast ?_,ru,q⟩
 ·show aV.toArray.eraseIdxIfInBounds (aV.toArray.size-1)=aV.dropLast.toArray
  rw[jP,List.eraseIdxIfInBounds_toArray,MP]
 ·rw[Zw]
  omega
def amy:R2:=fun x y H Q=>∃ l b xs zs,x=.ref l/\y=.ref b/\H l=some (.lst xs)/\H b=some (.lst zs)/\xs.length+zs.length<=sizeLine/\∀ p,H p=none->Q (.ref p) (upd H p (.lst (xs++zs)))
theorem HH:wX X (binaryOp .Add) amy:=by
 exists 20
 obtain⟨l,b,xs,zs,rfl,rfl,hH,hB,hz,q⟩:=h
 cases rx
 cases ry
 obtain⟨z,aV,n,r,hl,e⟩:=I.Cf hH
 obtain⟨z2,wC,n2,r2,hl2,e2⟩:=I.Cf hB
 refine PySem.P.add_list e e2 ?_ (by rw[jP,jP];omega)
 have ea:aV.toArray++wC.toArray=(aV++wC).toArray:=by simp
 rw[ea]
 exact⟨.ref _,_,I.aic (t' := s.toks) (r.append r2) (by rw[jL];omega),rfl,q _ I.fresh⟩
end
end L2
namespace Att
open PySem PySem.W PySem.Calls PyProof.Rows
variable{h:Heap}{n:Nat}{vals:List Value}{q prog:qR}{loose:List qW}{w:World}
theorem Cd{P:Params}:∀ (ns:List Int) (vs:List Value),WellAll P h vs (ns.map WData.int)->qI vs ns:=by
 intro ns
 induction ns with
 | nil =>
  intro vs w
  rw[Zb]at w
  cases w
  exact .nil
 | cons n ns ih =>
  intro vs w
  rw[JJ]at w
  cases w with
  | cons a b =>
   cases a
   exact .cons _ _ (ih _ b)
theorem SK{l:OpenLaw}(hn:l.most=some n){P:Params}{args:List WData}(abQ:l.row.toRowW.claim.pre args=true)(hwl:WellAll P h vals args):
  ∃ a vs ns,vals=[Yw a]/\args=[WData.list (ns.map WData.int)]/\h.get? a=some { cls:=.type "list",data:=.seq vs.toArray }/\qI vs ns/\ns.length<=n:=by
 have hsh:WShape.hasAll [] args [.list .int]=true:=(pre_splitW abQ).1
 have hc:l.pre.holds [] { args:=args }=true:=(pre_splitW abQ).2
 obtain⟨d,r,rfl,h1,h2⟩:=hasAllW_cons hsh
 obtain rfl:=hasAllW_nil h2
 obtain⟨xs,rfl,h3⟩:=hasW_list h1
 obtain⟨ns,rfl⟩:=items_int h3
 have hlen:ns.length<=n:=by
  unfold OpenLaw.pre at hc
  have h4:(WTm.not (.lt (.lit (.int (n:Int))) (.len (.arg 0)))).holds [] { args:=[.list (ns.map .int)] }=true:=by
   have h4:=(holds_andW hc).1
   rw[hn]at h4
   exact h4
  have h5:=condW_of h4 (w_not (w_lt w_lit (w_len_list (w_arg rfl))))
  rw[jZ]at h5
  refine Zc fun q=>?_
  have q':(n:Int)<((ns.length:Nat):Int):=by omega
  first
   | (rw[decide_eq_true q']at h5;exact absurd h5 #[8])
   | (simp at h5;omega)
 cases hwl with
 | cons w1 w2 =>
  cases w2
  cases w1 with
  | list ho hZ=>exact⟨_,_,ns,rfl,rfl,ho,Cd ns _ hZ,hlen⟩
theorem SD(l:OpenLaw)(args:List WData):l.row.toRowW.claim.post args (.bool true) args=true:=
 postW_of (r:=l.row.toRowW) (X:=(true==true))
  (show WShape.has [] (.bool true) .bool=true by first|rfl|decide|simp[WShape.has,WShape.arms,WShape.armsAll])
  (show(WTm.eq .res (.lit (.bool true))).value [] { args:=args,res:=some (.bool true),after:=args }=some (.bool (true==true))from w_eq_bool (w_res rfl) w_lit) rfl
theorem IQ{l:OpenLaw}{XP:(qW->Option Value)->Heap->Prop}{YP:World->Heap->Prop}{d:DefRec}(hn:l.most=some n)(hdf:d.params.defaults=[])(call:∀ (w:World) (s₀ s₁:qV) (mg mb:qW->Option Value) (fa:Qu) (o:Obj) (pm cd doc:Value) (a:Qu) (vs:List Value) (ns:List Int),
   Ground q loose [] XP w s₀ mg mb s₁.heap->YP w s₁.heap ->
   s₁.heap.get? fa=some o->o.data=.func (docDef d.name d.params d.body d.scope pm cd doc)->s₁.heap.CodeRec cd d.name->mg d.name=some (.ref fa) ->
   s₁.heap.get? a=some { cls:=.type "list",data:=.seq vs.toArray }->qI vs ns->ns.length<=n->s₁.gens=#[] ->
   codeAny (model l.prog w) callerA (.call (.ref fa) ⟨[.ref a],[]⟩) (fun r s'=>r=.ok (.ret (.bool true))/\OldK s₁.heap s'.heap/\s'.os=s₁.os/\Qv s'.gens) s₁):
  WalkO q loose XP YP l.row.toRowW d [] (fun f vs=>GF f vs):=by
 intro w s₀ s₁ mg mb G Y fa o pm cd doc dV kV ho hd Hu hD hmg hg args vals as abQ aqb hrd hwl hlo
 obtain rfl:dV=.none:=Dflts.none hD hdf
 obtain rfl:kV=.none:=Dflts.noKw hD
 obtain⟨a,vs,ns,rfl,rfl,aet,hints,hlen⟩:=SK hn abQ hwl
 refine enter_call (WA (call w s₀ s₁ mg mb fa o pm cd doc a vs ns G Y ho (fd_plain hd) Hu hmg aet hints hlen hg) fun r s' hq=>?_)
 obtain⟨rfl,h2,h3,h4⟩:=hq
 exact⟨.inl ⟨.bool true,.bool true,[],rfl,fun _=>rfl,.bool true,SD l _,fun _=>⟨List.Pairwise.nil,fun _ hm=>(nomatch hm)⟩⟩,h2,h3,h4⟩
section
def ledger(h:Heap)(L d:Qu):List #[58]:=(jO h.objs.size).filterMap fun a=>if a=L\/a=d then none else(h.get? a).map fun o=>(a,o)
end
end Att
namespace L2
open PySem PySem.Spec PyProof.Rows
variable{P q prog:qR}{w:World}{K:Yv}{mg mb m:qW→Option Value}{CX:Iv}{a l c it:Qu}{fd:qG}{x y:qW}{sp:Sp}{s₁ s:qV}{vs:List Value}{ns:List Int}{n tk i:Nat}{loose N:List qW}{X:Cx}{base h':Heap}{A:Around}{pos py:Pos}{H H':Hp}{xs:List V}{scope:Scope}{env:qF}{pins:List (Qu×Obj)}{σ:St}{ix:List (Option Nat)}{fp:List Qu}{R:Result→qV→Prop}{elt iter:Expr}{te:TE}{wi:TI}{Qd:Qu→Hp→Prop}{E:Value→qV→Prop}{lo:Int}{items:Array Value}{elts es:List Expr}{Q:Unit→qV→Prop}
theorem FZ:∀ {vs:List Value} {ns:List Int},qI vs ns->Vals #[14] vs
 | _,_,.nil=>.nil
 | _,_,.cons n t h=>.cons ⟨t,rfl⟩ (FZ h)
def adH(H:Hp):Prop := ∀ b,H b=none\/∃ o xs,H b=some (.pB o (.lst xs))
theorem X4{k:Nat}{fa:Qu}(KX:K.In s₁.heap)(hns:s₁.heap.Ns WM mg)(hb:s₁.heap.Ns builtinsNs mb)(hbb:∀ x:qW,x ≠ "__name__" -> mb x=qf x)(alh:s₁.heap.NoLimit)(hg:s₁.gens=#[])(ha:s₁.heap.get? a=some { cls:=.type "list",data:=.seq vs.toArray })(hi:qI vs ns)(hl:ns.length<=sizeLine)(hr:cV k callerA)(F:∀ base:Heap,K.In base->base.Ns WM mg->bu P w K mg base CX k fa fd [x] sp)(aho:∀ (s:qV) (u:Value),Qx s fd ⟨[u],[]⟩ [(x,u)])(MX:∀ H:Hp,adH H->lh K H a #[14]->sp [.ref a] H (fun v _=>v=.bl true) fun _ _ _=>False)(hCX:∀ H e s',CX [] H s₁ (fun _ _ _=>False) e s'->False):
  codeAny #[31] callerA (.call (.ref fa) ⟨[.ref a],[]⟩) (fun r s'=>r=.ok (.ret (.bool true))/\OldK s₁.heap s'.heap/\s'.os=s₁.os/\Qv s'.gens) s₁:=by
 have rv:=FZ hi
 have al0:=hi.length
 have core:∀ H:Hp,adH H->lh K H a #[14]->ik P w H s₁.heap->(∀ b,H b≠none->b=a)->(H a≠none->K.lookup a=none) ->
   codeAny #[31] callerA (.call (.ref fa) ⟨[.ref a],[]⟩) (fun r s'=>r=.ok (.ret (.bool true))/\OldK s₁.heap s'.heap/\s'.os=s₁.os/\Qv s'.gens) s₁:=by
  intro H hO hS hok hA hK
  have Pa:∀ {b:Qu} {o:Obj},s₁.heap.get? b=some o->H b=none->(Hv s₁.heap H).get? b=some o:=fun e n=>U5 e n
  have noA:∀ {b:Qu} {o:Obj} {es:Array qB} {ep:Nat},s₁.heap.get? b=some o->o.data=.dict es ep->H b=none:=fun {b o es ep} e d=>by
   cases q:H b with
   | none=>rfl
   | some u =>
    have e':b=a:=hA b (by rw[q];simp)
    subst e'
    rw[ha]at e;cases e
    have d':Data.seq vs.toArray _=Data.dict es ep:=d
    cases d'
  have nsK:∀ {b:Qu} {m:qW->Option Value},s₁.heap.Ns b m->(Hv s₁.heap H).Ns b m:=fun {b m} ⟨o,es,ep,e,d,r⟩=>⟨o,es,ep,Pa e (noA e d),d,r⟩
  have hKb:K.In (Hv s₁.heap H):=fun b o e=>Pa (KX b o e) (by
   cases q:H b with
   | none=>rfl
   | some u =>
    have e':b=a:=hA b (by rw[q];simp)
    subst e'
    rw[hK (by rw[q];simp)]at e;cases e)
  have hM:Mod K mg (Hv s₁.heap H):=⟨hKb,nsK hns,⟨mb,nsK hb,hbb⟩,let ⟨mc,h1,h2⟩:=alh;⟨mc,nsK h1,h2⟩⟩
  have e0:Ej P w K mg (Hv s₁.heap H) callerA [] s₁ H:=⟨rfl,hM,fun b o e=>ab8 e,zx (RZ _ _),trivial,fun b hb=>absurd (show b∈([]:List Qu)from hb) #[11],hok,.of_eq hg⟩
  refine WA ((F _ hKb (nsK hns)).run callerA [] s₁ H ⟨[.ref a],[]⟩ [.ref a] [.ref a] _ _ hr e0 (aho s₁ (.ref a)) (.cons rfl .nil) (MX H hO hS)) fun r s' h=>?_
  cases r with
  | error e=>exact(hCX H e s' h).elim
  | ok fl =>
   cases fl with
   | next=>exact False.elim h
   | brk=>exact False.elim h
   | cont=>exact False.elim h
   | ret u =>
    obtain⟨v,H',os,bare,un,als,r',q⟩:=h
    have q':v=.bl true:=q
    subst q'
    obtain rfl:u=yj true:=r'
    refine⟨rfl,OldK.of_keep fun b o e=>?_,os,bare⟩
    cases q:H b with
    | none=>exact un.keep b o e q (by intro z;exact absurd (show b∈([]:List Qu)from z) #[11]) #[11]
    | some u =>
     rcases hO b with z|⟨ob,xs,z⟩
     ·rw[q]at z;cases z
     ·have z2:=un.frzs b ob _ z
      obtain⟨e1,_⟩:=hok b _ z
      obtain⟨e2,_⟩:=als b _ z2
      rw[e]at e1;cases e1
      exact e2
 cases hk:K.lookup a with
 | some o =>
  have e:=KX a o hk
  rw[ha]at e
  cases e
  refine core (fun _=>none) (fun _=>.inl rfl) (.inr ⟨_,vs.toArray,_,hk,rfl,rfl,rfl,by rw[jP,al0];exact hl,by simpa using rv⟩) (fun b u z=>by have z':(none:Option HO)=some u:=z;cases z') (fun b z=>absurd rfl z) fun z=>absurd rfl z
 | none =>
  refine core (fun b=>if b=a then some (.pB { cls:=.type "list",data:=.seq vs.toArray } (.lst #[14]))else none) (fun b=>?_) (.inl (.inr ⟨{ cls:=.type "list",data:=.seq vs.toArray },if_pos rfl⟩)) (fun b u z=>?_) (fun b z=>?_) fun _=>hk
  ·by_cases hb:b=a
   ·exact .inr ⟨_,_,if_pos hb⟩
   ·exact .inl (if_neg hb)
  ·by_cases hb:b=a
   ·have z' := (if_pos hb).symm.trans z
    cases z'
    subst hb
    exact⟨ha,by rw[jZ];exact hl,vs,_,rv,ha⟩
   ·have z' := (if_neg hb).symm.trans z
    cases z'
  ·by_cases hb:b=a
   ·exact hb
   ·exact absurd (if_neg hb) z
theorem acU{l:XR}{k:Nat}{XP:(qW->Option Value)->Heap->Prop}{YP:World->Heap->Prop}{d:DefRec}{K:Params->Yv}{CX:World->Iv}{sp:World->Sp}(hn:l.most=some n)(hn2:n<=sizeLine)(hdf:d.params.defaults=[])(hr:cV k callerA)(hY:∀ (w:World) (h:Heap),YP w h->(K w.params).In h)(F:∀ (w:World) (mg:qW->Option Value) (fa:Qu) (h:Heap),(K w.params).In h->h.Ns WM mg->mg d.name=some (.ref fa) ->
   ∃ fd:qG,(∀ (s:qV) (u:Value),Qx s fd ⟨[u],[]⟩ [(x,u)]) /\
    ∀ base:Heap,(K w.params).In base->base.Ns WM mg->bu l.prog w (K w.params) mg base (CX w) k fa fd [x] (sp w))(MX:∀ (w:World) (H:Hp) (a:Qu) (ns:List Int),ns.length<=n->adH H->lh (K w.params) H a #[14]->sp w [.ref a] H (fun v _=>v=.bl true) fun _ _ _=>False)(hCX:∀ (w:World) (H:Hp) (s:qV) (e:Value) (s':qV),CX w [] H s (fun _ _ _=>False) e s'->False):
  GO q loose XP YP l.row.toRowW d [] (fun f vs=>GF f vs):=by
 refine Att.IQ hn hdf fun w s₀ s₁ mg mb fa o pm cd doc a vs ns G Y ho hd Hu hmg aet hints hlen hg=>?_
 have KX:=hY w _ Y
 obtain⟨fd,hb,hF⟩:=F w mg fa _ KX G.T.g hmg
 exact X4 KX G.T.g G.T.b G.T.builtins G.T.nolimit hg aet hints (ji hlen hn2) hr hF hb (fun H hO hS=>MX w H a ns hlen hO hS) fun H e s'=>hCX w H s₁ e s'
def inClass(s:Stmt)(j:Nat):Stmt:=match s with
 | .ClassDef _ _ _ body _ _ _ _ _ _ _=>body.getD j (.Pass ⟨0,0,0,0⟩)
 | _=>.Pass ⟨0,0,0,0⟩
def dQ(s:Stmt):Qw:=match s with
 | .FunctionDef _ a _ _ _ _ _ _ _ _=>a
 | _=>{ posonlyargs:=[],args:=[],vararg:=none,kwonlyargs:=[],kw_defaults:=[],kwarg:=none,defaults:=[] }
def cO(s:Stmt):List Stmt:=match s with
 | .FunctionDef _ _ b _ _ _ _ _ _ _=>b
 | _=>[]
def av(s:Stmt):Scope:=match s with
 | .FunctionDef _ _ _ _ _ _ sc _ _ _=>sc
 | _=>{ kind:=.function,names:=[],isGenerator:=false,isCoroutine:=false }
abbrev eM:Iv:=fun _ _ _ _ _ _=>False
abbrev E0:XK:=fun _ _ _=>False
theorem aae:Passes eM X E0:=fun _ _ _ _ _ _ _ h=>h.elim
theorem oW{k:Nat}(hr:cV k A):A.units+1<cLine:=ZN (Nat.add_le_add_left (by decide:1<=64) _) hr.units
theorem ay(h:n<=1000):n<sizeLine:=ZN h #[8]
section
theorem pv(i:Nat)(hN:X.N[i]?=some x:=by rfl)(hv:Vis X.env.scope x:=by first|exact Or.inl rfl|exact Or.inr (Or.inl rfl)|exact Or.inr (Or.inr rfl))(hd:#[19]=false:=by decide)(Hu:(x==("__classdict__" : qW))=false:=by decide):PE X (.Name x pos) (aiY i):=afe hN hv hd Hu
end
theorem ic{A B:Prop}(h:B):if false=true then A else B:=by
 rw[if_neg jd]
 exact h
theorem Dx{A B:Prop}(h:A):if true=true then A else B:=by
 rw[if_pos rfl]
 exact h
theorem abX{c A B:Prop}[Decidable c](h1:c->A)(h2:¬ c->B):if c then A else B:=by
 by_cases h:c
 ·rw[if_pos h]
  exact h1 h
 ·rw[if_neg h]
  exact h2 h
theorem ah4{c A B:Prop}[Decidable c](hc:c)(h:B):if (!decide c)=true then A else B:=by
 rw[decide_eq_true hc]
 exact ic h
def aB(H H':Hp):Prop := ∀ b o,H b=some o->H' b=some o
theorem aB.refl(H:Hp):aB H H:=fun _ _ h=>h
theorem aB.trans{H1 H2:Hp}(a:aB H H1)(b:aB H1 H2):aB H H2:=fun c o h=>b c o (a c o h)
theorem aB.free(e:aB H H')(h:H' l=QQ):H l=QQ:=by
 cases q:H l with
 | none=>rfl
 | some o =>
  rw[e l o q]at h
  cases h
theorem aB.seq(e:aB H H')(h:lh K H a xs):lh K H' a xs:=by
 rcases h with(h|⟨o,h⟩)|h
 ·exact .inl (.inl (e _ _ h))
 ·exact .inl (.inr ⟨o,e _ _ h⟩)
 ·exact .inr h
def df(cells:List (qW×Qu)):List (qW×qO)->List (qW×Qu)->List (qW×Qu)
 | [],cs=>cs
 | (n,k) :: r,cs=>df cells r (if k==.free then(n,(cells.lookup n).getD 0) :: cs else cs)
theorem ox(h:∀ y∈scope.names,y.2=.free->∃ c,env.cells.lookup y.1=some c):
  closureFor scope env=pure (df env.cells scope.names []):=by
 have all:∀ (ns:List (qW×qO)) (cs:List (qW×Qu)),(∀ y∈ns,y.2=.free->∃ c,env.cells.lookup y.1=some c) ->
   (forIn ns cs (fun(x:qW×qO) (r:List (qW×Qu))=>(match x with
    | (name,kind)=>if (kind==NameKind.free)=true then(do let c <- cellOf env name;pure (ForInStep.yield ((name,c) :: r)))else pure (ForInStep.yield r):qS (ForInStep (List (qW×Qu))))):qS (List (qW×Qu)))
   = pure (df env.cells ns cs):=by
  intro ns
  induction ns with
  | nil=>intro cs _;rfl
  | cons y r ih =>
   intro cs hy
   obtain⟨n,k⟩:=y
   rw[QZ]
   by_cases hk:k=.free
   ·subst hk
    obtain⟨c,e⟩:=hy (n,.free) jE rfl
    have e':env.cells.lookup n=some c:=e
    have e1:cellOf env n=pure c:=by unfold cellOf;rw[e']
    simp only[beq_self_eq_true,if_true,e1,pure_bind]
    rw[ih _ fun z hz=>hy z (jK _ hz)]
    simp only[df,beq_self_eq_true,if_true,e',Jy]
   ·have hb:(k==NameKind.free)=false:=by simpa using hk
    simp only[hb,jf,if_false,pure_bind]
    rw[ih _ fun z hz=>hy z (jK _ hz)]
    simp only[df,hb,jf,if_false]
 unfold closureFor
 have q:=all scope.names [] h
 simp only[bind_pure]
 exact q
theorem tX(cells:List (qW×Qu)):∀ (ns:List (qW×qO)) (cs:List (qW×Qu)),(df cells ns cs).lookup x=some c ->
  ((x,NameKind.free)∈ns/\(cells.lookup x).getD 0=c)\/cs.lookup x=some c
 | [],_,h=>.inr h
 | (n,k) :: r,cs,h=>by
  rcases tX cells r _ h with⟨h1,h2⟩|h1
  ·exact .inl ⟨jK _ h1,h2⟩
  ·by_cases hk:k=.free
   ·subst hk
    simp only[beq_self_eq_true,if_true]at h1
    by_cases hx:x=n
    ·subst hx
     simp only[JI,beq_self_eq_true]at h1
     exact .inl ⟨jE,Option.some.inj h1⟩
    ·have hb:(x==n)=false:=by simpa using hx
     simp only[JI,hb]at h1
     exact .inr h1
   ·have hb:(k==NameKind.free)=false:=by simpa using hk
    simp only[hb,jf,if_false]at h1
    exact .inr h1
theorem pJ(cells:List (qW×Qu))(e:cells.lookup x=some c):∀ (ns:List (qW×qO)) (cs:List (qW×Qu)),((x,NameKind.free)∈ns\/cs.lookup x=some c) ->
  (df cells ns cs).lookup x=some c
 | [],_,h=>by
  rcases h with h|h
  ·cases h
  ·exact h
 | (n,k) :: r,cs,h=>by
  refine pJ cells e r _ ?_
  rcases h with h|h
  ·rcases jS.mp h with z|z
   ·cases z
    right
    simp only[beq_self_eq_true,if_true,JI,e,Jy]
   ·exact .inl z
  ·right
   by_cases hk:(k==NameKind.free)=true
   ·rw[if_pos hk]
    by_cases hx:x=n
    ·subst hx
     simp only[JI,beq_self_eq_true,e,Jy]
    ·have hb:(x==n)=false:=by simpa using hx
     simp only[JI,hb]
     exact h
   ·rw[if_neg hk]
    exact h
theorem AF{env:qF}:∀ {names:List (qW×qO)} {x:qW},names.lookup x=some .free ->
  (names.map fun(n,k)=>if #[10]then(n,NameKind.cell)else(n,k)).lookup x=some .cell \/
  (names.map fun(n,k)=>if #[10]then(n,NameKind.cell)else(n,k)).lookup x=some .free
 | [],_,h=>by simp at h
 | (n,k) :: r,x,h=>by
  have ih:=@AF env r x
  show Jh x ((if #[10]=true then(n,NameKind.cell)else(n,k)) :: _)=_ \/
   Jh x ((if #[10]=true then(n,NameKind.cell)else(n,k)) :: _)=_
  cases hx:x==n with
  | true =>
   simp only[JI,hx]at h
   cases h
   by_cases hc:(NameKind.free==NameKind.free&&env.scope.kind==.function&&env.kindOf n==some .cell)=true
   ·rw[if_pos hc];simp only[JI,hx];first|exact .inl trivial|exact .inl rfl
   ·rw[if_neg hc];simp only[JI,hx];first|exact .inr trivial|exact .inr rfl
  | false =>
   simp only[JI,hx]at h
   by_cases hc:#[10]=true
   ·rw[if_pos hc];simp only[JI,hx];exact ih h
   ·rw[if_neg hc];simp only[JI,hx];exact ih h
theorem pS{env:qF}:∀ {names:List (qW×qO)} {x:qW} {k':qO},k'=.cell\/k'=.free->(∀ y∈names,y.2≠.cell) ->
  (names.map fun(n,k)=>if #[10]then(n,NameKind.cell)else(n,k)).lookup x=some k'->(x,NameKind.free)∈names
 | [],_,_,_,_,h=>by simp at h
 | (n,k) :: r,x,k',U8,hn,h=>by
  have ih:=@pS env r x k' U8 (fun y hy=>hn y (jK _ hy))
  have h':Jh x ((if #[10]=true then(n,NameKind.cell)else(n,k)) :: (r.map fun(n,k)=>if #[10]then(n,NameKind.cell)else(n,k)))=some k' := h
  have hkc:k≠.cell:=hn (n,k) jE
  cases hx:x==n with
  | true =>
   have hxn:x=n:=by simpa using hx
   subst hxn
   by_cases hc:(k==NameKind.free&&env.scope.kind==.function&&env.kindOf x==some .cell)=true
   ·have hk:k=.free:=by
     simp only[Jc,beq_iff_eq]at hc
     exact hc.1.1
    subst hk
    exact jE
   ·rw[if_neg hc]at h'
    simp only[JI,beq_self_eq_true]at h'
    have hk:k=k' := Option.some.inj h'
    rcases U8 with z|z
    ·exact absurd (hk.trans z) hkc
    ·rw[hk,z];exact jE
  | false =>
   refine jK _ (ih ?_)
   by_cases hc:#[10]=true
   ·rw[if_pos hc]at h'
    simpa only[JI,hx]using h'
   ·rw[if_neg hc]at h'
    simpa only[JI,hx]using h'
def aX(ix:List (Option Nat))(σ:St):St:=ix.map fun o=>match o with
 | none=>none
 | some i=>(σ[i]?).join
structure aZ(NX:List qW)(scX:Scope)(N:List qW)(ix:List (Option Nat))(sc:Scope):Prop where
 kind:sc.kind=.function
 nd:N.Nodup
 nocell:∀ y∈sc.names,y.2≠.cell
 locs:∀ y∈sc.names,y.2=.local->sc.names.lookup y.1=some .local
 free:∀ y∈sc.names,y.2=.free->scX.names.lookup y.1=some .cell\/scX.names.lookup y.1=some .free
 len:ix.length=N.length
 at_:∀ p∈N.zip ix,∀ i,p.2=some i->NX[i]?=some p.1/\sc.names.lookup p.1=some .free
def cF(X:Cx)(N:List qW)(scope:Scope)(fp:List Qu)(s:qV)(H:Hp)(C:Qu):Cx:=
 { prog:=X.prog,w:=X.w,K:=X.K,mg:=X.mg,base:=X.base,A:=X.A,N:=N,s₀:=s,H₀:=H,env:=compEnvC scope (df X.env.cells scope.names []) C X.env,outer:=X.stack,stack:=X.stack,ex:=fp,fn:=fun _=>false,calm:=X.calm,pn:=X.pn,xe:=fun _ _=>False }
theorem Cg{names:List (qW×qO)}(h:names.lookup x=some .free):(x,NameKind.free)∈names:=ye h
section
theorem aZ.Tq(S:aZ X.N X.env.scope N ix scope)(ok:X.Ok):∀ y∈scope.names,y.2=.free->∃ c,X.env.cells.lookup y.1=some c:=fun y hy hf=>ok.has y.1 (S.free y hy hf)
theorem Fj{D C:Qu}{tk:Nat}(I:Inv X pins σ H s)(S:aZ X.N X.env.scope N ix scope)(hf:∀ b∈fp,rE X pins H b)(hfo:∀ b∈fp,∃ o,s.heap.get? b=some o/\∀ v,o.data≠.cell v)(hD:s.heap.objs.size<=D)(hC:s.heap.objs.size<=C)(hDC:D≠C)(hk:∀ b o,s.heap.get? b=some o->h'.get? b=some o)(hns:h'.Ns C m)(hl:∃ n,h'.get? D=some { cls:=.type "list",data:=.seq ([]:List Value).toArray n }):
  Inv #[40] pins (aX ix σ) (upd H D (.lst [])) { s with heap:=h',toks:=tk }:=by
 have fresh:∀ {a:Qu},s.heap.objs.size<=a->H a=none:=fun h=>I.hok.fresh h
 have EU:∀ x c,(df X.env.cells scope.names []).lookup x=some c->X.env.cells.lookup x=some c:=fun x c e=>by
  rcases tX _ _ _ e with⟨h1,h2⟩|h1
  ·obtain⟨c',e'⟩:=S.Tq I.ok _ h1 rfl
   have e'':X.env.cells.lookup x=some c' := e'
   rw[e'']at h2
   rw[e'']
   exact congrArg some h2
  ·simp at h1
 have ltO:∀ {b:Qu} {o:Obj},s.heap.get? b=some o->b<s.heap.objs.size:=fun e=>jI e
 have neC:∀ {b:Qu} {o:Obj},s.heap.get? b=some o->b≠C:=fun e=>jM (jh (ltO e) hC)
 have neD:∀ {b:Qu} {o:Obj},s.heap.get? b=some o->b≠D:=fun e=>jM (jh (ltO e) hD)
 have agU:∀ x c,X.env.cells.lookup x=some c->∃ o,s.heap.get? c=some o:=fun x c e=>by
  obtain⟨v,o,ho,_⟩:=I.cell x c e
  exact⟨o,ho⟩
 refine⟨⟨I.ok.mod,?_,I.ok.glob,I.ok.blt,hC,fun x y c e1 e2=>I.ok.inj x y c (EU x c e1) (EU y c e2),fun x hx=>?_,fun x c h _=>?_,I.ok.hd,I.ok.frames,.inl rfl,fun b hb=>?_,I.bs,ji I.ok.bsz I.sz,fun b o e hb=>?_,fun b hb hb2=>?_,I.stack,I.Ic⟩,
  rfl,I.bare,Un.laid hk hD (fresh hD),⟨m,hns,fun j x v e1 e2 e3=>?_⟩,fun x c e=>?_,?_,fun x c e=>?_,fun p hp=>?_,I.hok.laid hk hD ?_,?_⟩
 ·exact S.kind
 ·have Iq:(x,NameKind.free)∈scope.names:=by
   rcases hx with hx|hx
   ·exact pS (.inl rfl) S.nocell hx
   ·exact pS (.inr rfl) S.nocell hx
  obtain⟨c,e⟩:=S.Tq I.ok _ Iq rfl
  exact⟨c,pJ _ e _ _ (.inl Iq)⟩
 ·exact absurd (show false=true from h) jd
 ·obtain⟨f0,f1,f2,f3,f4,f5⟩:=hf b hb
  obtain⟨o,e,_⟩:=hfo b hb
  exact⟨neC e,fun x c ec=>f4 x c (EU x c ec)⟩
 ·obtain⟨f0,f1,f2,f3,f4,f5⟩:=hf b hb
  rcases f3 with z|z
  ·exact I.ok.noex b o e z
  ·exact absurd (jh (jI (I.ok.bs b o e).1) z) (Ji _)
 ·obtain⟨f0,f1,f2,f3,f4,f5⟩:=hf b hb
  rcases jS.mp (I.Ie b hb2)with z|z
  ·exact f1 z
  ·exact f2 z
 ·-- a amg value
  obtain⟨mX,hnX,hlX⟩:=id I.loc
  have hj:(aX ix σ)[j]?=some (some v):=e2
  unfold aX at hj
  rw[jV]at hj
  cases ej:ix[j]? with
  | none=>rw[ej]at hj;cases hj
  | some o =>
   rw[ej]at hj
   cases o with
   | none=>cases hj
   | some i =>
    have hj':(σ[i]?).join=some v:=Option.some.inj hj
    have hz:(x,some i)∈N.zip ix:=JH.mpr ⟨j,by rw[List.getElem?_zip_eq_some];exact⟨e1,ej⟩⟩
    obtain⟨hNi,PB⟩:=S.at_ _ hz i rfl
    have ahL:=Cg PB
    have hσ:σ[i]?=some (some v):=by
     cases q:σ[i]? with
     | none=>rw[q]at hj';cases hj'
     | some w' =>
      rw[q]at hj'
      have q':w'=some v:=hj'
      rw[q']
    have hvx:X.env.scope.names.lookup x=some .cell\/X.env.scope.names.lookup x=some .free:=S.free _ ahL rfl
    obtain⟨u,r,lk⟩:=hlX i x v hNi hσ (.inr hvx)
    refine⟨u,r,.inr ⟨?_,?_⟩⟩
    ·exact AF PB
    ·rcases lk with⟨k,_⟩|⟨k,c,ec,ci⟩
     ·have k':X.env.scope.names.lookup x=some .local:=k
      rcases hvx with z|z
      ·rw[z]at k';cases k'
      ·rw[z]at k';cases k'
     ·obtain⟨oc,hoc,aeu⟩:=ci
      exact⟨c,pJ _ ec _ _ (.inl ahL),oc,hk c oc hoc,aeu⟩
 ·obtain⟨v,o,ho,hd⟩:=I.cell x c (EU x c e)
  exact⟨v,o,hk c o ho,hd⟩
 ·show upd H D (.lst []) C=none
  rw[aj (Ne.symm hDC)]
  exact fresh hC
 ·obtain⟨o,ho⟩:=agU x c (EU x c e)
  rw[aj (neD ho)]
  exact I.freeC x c (EU x c e)
 ·obtain⟨e,n,ne,nf,d⟩:=I.pin p hp
  refine⟨hk _ _ e,by rw[aj (neD e)];exact n,neC e,fun z=>?_,d⟩
  rcases jS.mp (I.Ie p.1 z)with q|q
  ·exact ne q
  ·exact nf q
 ·obtain⟨n,hl⟩:=hl
  exact⟨je _,[],n,.nil,hl⟩
 ·show(aX ix σ).length=N.length
  unfold aX
  rw[jZ]
  exact S.len
end
theorem IW{target:Expr}{it acc:Value}(I:Nat->qV->Prop)(turn:∀ n s,I n s->wpAny #[6] A (pyNext it) (fun r s₁=>match r with
   | none=>R (.ok .next) s₁
   | some v=>wpAny #[6] A (letOwnedTupleGo target it v) (fun _ Mb=>wpAny #[6] A (assign target env v) (fun _ s₂=>wpAny #[6] A (eval elt env) (fun x s₃ =>
     wpAny #[6] A (call (.builtin "list.append") [acc,x]) (fun _ s₄=>∃ m,m<n/\I m s₄) (fun _ _=>False) s₃)
     (fun _ _=>False) s₂) (fun _ _=>False) Mb) (fun _ _=>False) s₁) (fun _ _=>False) s)(n:Nat)(h:I n s):
  codeAny #[6] A (.compLoop (.ListComp elt [⟨target,iter,[],0⟩] scope pos) 0 it acc env) R s:=by
 refine codeAny_loop rfl I (fun n s hI=>?_) n h
 show wpAny _ _ ((compTurn (.ListComp elt [⟨target,iter,[],0⟩] scope pos) 0 it acc env).onRaise (fun x=>do noteFrame x env;theTreesLotGoes x)) _ _ s
 refine wpAny_noted ?_
 rw[compTurn_list1]
 refine Wj (Yn (Wj (YQ (turn n s hI) (fun r s₁ h₁=>?_) fun _ _ h'=>h'.elim)))
 cases r with
 | none=>exact YX h₁
 | some v =>
  refine Wj (YQ h₁ (fun _ Mb W0=>?_) fun _ _ h'=>h'.elim)
  exact Wj (YQ W0 (fun _ s₂ h₂=>Wj (Wj (YQ h₂ (fun x s₃ h₃=>Wj (YQ h₃
   (fun _ s₄ h₄=>YX (YX ⟨rfl,h₄⟩)) fun _ _ h'=>h'.elim)) fun _ _ h'=>h'.elim))) fun _ _ h'=>h'.elim)
def wQ(J:It)(ix:List (Option Nat))(g:TG)(te:TE)(σ:St)(H:Hp)(Qd:Qu->Hp->Prop):Prop:=
 ∀ D,H D=none->∃ W:Nat->Nat->St->Hp->Prop,(∃ m,W 0 m (aX ix σ) (upd H D (.lst [])))/\∀ i m σ' H',W i m σ' H' ->
  (J.stop i H'/\Qd D H')\/(J.go i H'/\∀ x H2,J.yld i H' x H2->g x σ' H2 fun σ3 H3=>te σ3 H3 fun y H4=>∃ ys,H4 D=some (.lst ys)/\ys.length<sizeLine/\∃ m',m'<m/\W (i+1) m' σ3 (upd H4 D (.lst (ys++[y]))))
section
variable{tg:Expr}{acM:Pos}{J:It}{tn:Nat->Heap->Prop}{g:TG}
theorem IX{RR:Value->Qu->Result->qV->Prop}{E:Value->qV->Prop}(I:Inv X pins σ H s)(hc:X.calm=true)(S:aZ X.N X.env.scope N ix scope)(T:Turn X.prog X.w X.K tg J fp it tn)(st:tn 0 s.heap)(f2:∀ b∈fp,rE X pins H b)(hg:∀ C,PG #[40] tg g)(he:∀ C,PE #[40] elt te)(hW:wQ J ix g te σ H Qd)(hR:∀ D C s' H' m,Inv X pins σ H' s'->s'.heap.Ns C m->rE X pins H' C->Qd D H'->RR (.ref D) C (.ok .next) s'):
  wpAny #[4] X.A (newList []) (fun acc s₃=>wpAny #[4] X.A (newFunctionEnv scope X.env.globals (df X.env.cells scope.names []) [] X.env.qual none .none (some X.env)) (fun Tn s₄ =>
   codeAny #[4] X.A (.compStart #[44] 0 (.ref it) acc { Tn with scope:=relabel scope X.env }) (RR acc Tn.locals) s₄) E s₃) E s:=by
 refine YT (YR S.nocell (by intro y hy;simp at hy) (fun h₁ wA pM=>?_) S.kind)
 dsimp only at wA pM ⊢
 generalize hH2:s.heap.push { cls:=.type "list",dict:=none,data:=.seq ([]:List Value).toArray }=H2 at wA pM ⊢
 have hC:H2.objs.size=s.heap.objs.size+1:=by rw[<- hH2,jx]
 have hDC:s.heap.objs.size≠H2.objs.size:=by rw[hC];exact jM (JL _)
 have TY:s.heap.objs.size<=H2.objs.size:=by rw[hC];exact JF _
 have below:∀ b,b<s.heap.objs.size->b≠H2.objs.size:=fun b hb=>by rw[hC];exact jM (Jg hb)
 have old:∀ b o,s.heap.get? b=some o->h₁.get? b=some o:=fun b o e=>pM.extBut b o (below b (jI e)) (jA _ (hH2 ▸ jA _ e))
 have lA:∃ n,h₁.get? s.heap.objs.size=some { cls:=.type "list",data:=.seq ([]:List Value).toArray n }:=⟨_,pM.extBut _ _ hDC (jA _ (hH2 ▸ jH _ rfl))⟩
 have OJ:tn 0 h₁:=T.keep _ _ _ st fun b _ o e=>old b o e
 have fo:∀ b∈fp,∃ o,s.heap.get? b=some o/\∀ v,o.data≠.cell v:=T.obj _ _ st
 have I0:Inv #[33] pins (aX ix σ) (upd H s.heap.objs.size (.lst [])) { s with heap:=h₁,toks:=s.toks+([]:List (qW×Value)).length }:=
  Fj I S f2 fo (jF _) TY hDC old wA lA
 have freshD:H s.heap.objs.size=none:=I.hok.fresh (jF _)
 obtain⟨W,⟨m0,w0⟩,turn⟩:=hW s.heap.objs.size freshD
 have Tp:∀ b∈fp,b≠H2.objs.size:=fun b hb=>by
  obtain⟨o,e,_⟩:=fo b hb
  exact below b (jI e)
 have Eb:∀ {H':Hp},(∀ b∈fp,H' b=none)->∀ b∈fp,rE #[33] pins H' b:=fun hn b hb=>by
  obtain⟨f0,f1,f3,f4,f5,f6⟩:=f2 b hb
  exact⟨hn b hb,Tp b hb,I0.ok.exfs b hb,.inl hb,(I0.ok.exf b hb).2,f6⟩
 have fr0:∀ b∈fp,(upd H s.heap.objs.size (.lst [])) b=none:=fun b hb=>by
  obtain⟨o,e,_⟩:=fo b hb
  rw[aj (jM (jI e))]
  exact(f2 b hb).1
 have loop:codeAny #[4] X.A (.compLoop #[44] 0 (.ref it) #[13] (compEnvC scope (df X.env.cells scope.names []) H2.objs.size X.env))
   (RR #[13] H2.objs.size) { s with heap:=h₁,toks:=s.toks+([]:List (qW×Value)).length }:=by
  refine IW (fun n s'=>∃ i σ' H',Inv #[33] pins σ' H' s'/\tn i s'.heap/\(∀ b∈fp,H' b=none)/\W i n σ' H') ?_ m0 ⟨0,_,_,I0,OJ,fr0,w0⟩
  rintro n s3 ⟨i,σ3,H3,I3,st3,fr3,w3⟩
  rcases turn i n σ3 H3 w3 with⟨stop,qn⟩|⟨go,step⟩
  ·refine bP (T.done #[33] rfl rfl rfl hc i pins s3 σ3 H3 _ I3 (Eb fr3) st3 stop) fun r s4 ⟨hr,I4⟩=>?_
   subst hr
   obtain⟨m4,hn4,_⟩:=id I4.loc
   refine hR _ _ s4 H3 m4 ?_ hn4 (I.Bf TY I4.free) qn
   exact I.C6 (ch:=fp) I4.os I4.base I4.hok I4.bare fun b hb=>by
    obtain⟨f0,f1,f3,f4,f5,f6⟩:=f2 b hb
    exact⟨f4,f1,f5,f6⟩
  ·refine bP (T.item #[33] rfl rfl rfl hc i pins s3 σ3 H3 _ I3 (Eb fr3) st3 go) fun r s4 ⟨u,hr,h4⟩=>?_
   subst hr
   refine bP h4 fun _ s5 ⟨x,H5,I5,r5,y5,SN,fr5⟩=>?_
   have I5' := I5.pinned (Eb fr5) (T.obj _ _ SN)
   refine bP (hg _ _ s5 σ3 H5 x u _ I5' r5 (step x H5 y5)) fun _ s6 ⟨σ6,H6,I6,q6⟩=>?_
   refine bP (he _ _ s6 σ6 H6 _ I6 q6) fun yv s7 ⟨y,H7,I7,r7,ys,TZ,hz7,m',hm,w7⟩=>?_
   exists 8
   refine⟨m',hm,i+1,σ6,H8,I8.pA,T.keep _ _ _ SN fun b hb o e=>(I8.pin (b,o) (jR _ (jR _ (dX hb e)))).1,fun b hb=>?_,w8⟩
   obtain⟨o,e,d⟩:=T.obj _ _ SN b hb
   exact(I8.pin (b,o) (jR _ (jR _ (dX hb e)))).2.1
 exact qy loop (T.self _ _ _ _ _ OJ loop)
def adt(ix:List (Option Nat))(wi:TI)(g:TG)(te:TE):TE:=fun σ H Q=>wi σ H fun J H1=>wQ J ix g te σ H1 fun D H'=>Q (.ref D) H'
theorem cM(hc:X.calm=true)(S:aZ X.N X.env.scope N ix scope)(hi:PI X tg iter wi)(hg:∀ fp s H C,PG #[40] tg g)(he:∀ fp s H C,PE #[40] elt te)(hs:∀ x,foldedSetIterable iter X.env x=pure x:=by intro _;rfl):PE X #[44] (adt ix wi g te):=by
 exists 5
 rw[eval_ListComp]
 refine Wn (use:=none) rfl hs (ox (S.Tq I.ok)) S.kind S.locs #[57]
 obtain⟨it,fp,tn,J,H2,e,I2,T,OK,f2,hW⟩:=h2
 subst e
 refine IX (RR:=fun acc C=>compPost #[4] X.A X.xe none #[59] acc C) I2 hc S T OK f2 (hg _ _ _) (he _ _ _) hW ?_
 intro D C s' H' m I' hn fC q
 exact⟨m,hn,fun h' sb=>⟨.ref D,H',I'.turned (t' := s'.toks) (fun b o hb e=>(sb.2 b hb).trans e) fC.1 fC.2.1 fC.2.2.2.1 fC.2.2.2.2.1 fC.2.2.2.2.2,rfl,q⟩⟩
theorem iA(hc:X.calm=true)(hN:X.N.Nodup)(hyi:X.N[i]?=some y)(hy:Loc X.env.scope y)(S:aZ X.N X.env.scope N ix scope)(hi:PI X tg iter wi)(hg:∀ fp s H C,PG #[40] tg g)(he:∀ fp s H C,PE #[40] elt te)(hsw:WW #[44] (some (.Name y py)) acM.line X.env=pure true:=by rfl)(hf:X.fn y=true\/X.env.scope.names.lookup y=some .local:=by first|exact .inl rfl|exact .inr rfl|assumption)(hs:∀ x,foldedSetIterable iter X.env x=pure x:=by intro _;rfl):PS X (.Assign [.Name y py] #[44] acM) (wM (adt ix wi g te) (bB i)):=by
 exists 27
 rw[exec_Assign_Name_used _ _ _ _ hsw]
 refine Wj (Yn (Wj ?_))
 show wpAny _ X.A (do let _ <- comprehension #[44] scope X.env _ (newList []) false (eval iter X.env) (some (assign (.Name y py) X.env))) _ _ s
 refine Wj (YQ (Wn (use:=some (assign (.Name y py) X.env)) (Q:=fun _ s'=>SP X pins D .next s') rfl hs (ox (S.Tq I.ok)) S.kind S.locs
  #[57]) (fun _ s' hq=>YX (YX hq)) fun _ _ e=>e)
 obtain⟨it,fp,tn,J,H2,e,I2,T,OK,f2,hW⟩:=h2
 subst e
 refine IX (RR:=fun acc C=>compPost #[4] X.A X.xe (some (assign (.Name y py) X.env)) (fun _ s'=>SP X pins D .next s') acc C) I2 hc S T OK f2 (hg _ _ _) (he _ _ _) hW ?_
 intro Dl C s' H' m I' hn fC q
 show wpAny _ X.A (assign (.Name y py) X.env (.ref Dl)) _ _ s'
 refine Wh (FU I' hN hyi hy (v:=.ref Dl) rfl (fun s2 I2' hsb=>?_) hf)
 obtain⟨a,sb,ha⟩:=hsb
 refine⟨m,hn.sameBut sb ?_,fun h3 sb3=>⟨_,H',I2'.turned (t' := s2.toks) (fun b o hb e=>(sb3.2 b hb).trans e) fC.1 fC.2.1 fC.2.2.2.1 fC.2.2.2.2.1 fC.2.2.2.2.2,q⟩⟩
 rcases ha with z|z
 ·rw[z];exact fC.2.1
 ·exact Ne.symm (fC.2.2.2.2.1 _ _ z)
end
theorem ff(Pv:Qu->Nat->List V->Hp->Prop)(h0:∀ D,H D=none->Pv D 0 [] (upd H D (.lst [])))(hs:∀ D i ys H' (Q':VK),H D=none->i<n->H' D=some (.lst ys)->Pv D i ys H'->#[9] ->
   te ((aX ix σ).set 0 (some (.int (lo+i)))) H' Q')(hd:∀ D ys H',H D=none->H' D=some (.lst ys)->Pv D n ys H'->Qd D H'):wQ (Itr lo n) ix (bB 0) te σ H Qd:=by
 intro D hD
 refine⟨fun i m σ' H'=>m=n-i/\i<=n/\(σ'=aX ix σ\/∃ t,σ'=(aX ix σ).set 0 t)/\∃ ys,H' D=some (.lst ys)/\Pv D i ys H',⟨n,by simp,je _,.inl rfl,[],ae,h0 D hD⟩,?_⟩
 exists 24
 by_cases cT:i<n
 ·refine .inr ⟨cT,fun x H2 y=>?_⟩
  obtain⟨e1,e2⟩:=y
  subst e1
  subst e2
  have es:σ'.set 0 (some (V.int (lo+i)))=(aX ix σ).set 0 (some (V.int (lo+i))):=by
   rcases hσ with z|⟨t,z⟩
   ·rw[z]
   ·rw[z,Jz]
  show te (σ'.set 0 (some (V.int (lo+i)))) _ _
  rw[es]
  refine hs D i ys _ _ hD cT hy p fun y H4 h4 hz p4=>⟨ys,h4,hz,n-(i+1),by omega,rfl,cT,.inr ⟨_,rfl⟩,ys++[y],ae,p4⟩
 ·have e:i=n:=by omega
  subst e
  exact .inl ⟨jF _,hd D ys H' hD hy p⟩
theorem eA(Pv:Qu->Nat->List V->Hp->Prop)(h0:∀ D,H D=none->Pv D 0 [] (upd H D (.lst [])))(hl:∀ D i ys H',i<=xs.length->Pv D i ys H'->lh K H' a xs)(hs:∀ D i x ys H' (Q':VK),H D=none->xs[i]?=some x->H' D=some (.lst ys)->Pv D i ys H'->#[9] ->
   te ((aX ix σ).set 0 (some x)) H' Q')(hd:∀ D ys H',H D=none->H' D=some (.lst ys)->Pv D xs.length ys H'->Qd D H'):wQ (Itl K a) ix (bB 0) te σ H Qd:=by
 intro D hD
 exists 3
 exists 24
 have q:=hl D i ys H' hi p
 by_cases cT:i<xs.length
 ·refine .inr ⟨⟨xs,xs[i],q,by simp[cT]⟩,fun x H2 y=>?_⟩
  obtain⟨e1,e2⟩:=y
  subst e1
  have ex:=e2 xs q
  have es:σ'.set 0 (some x)=(aX ix σ).set 0 (some x):=by
   rcases hσ with z|⟨t,z⟩
   ·rw[z]
   ·rw[z,Jz]
  show te (σ'.set 0 (some x)) _ _
  rw[es]
  refine hs D i x ys _ _ hD ex hy p fun y H4 h4 hz p4=>⟨ys,h4,hz,xs.length-(i+1),by omega,rfl,cT,.inr ⟨_,rfl⟩,ys++[y],ae,p4⟩
 ·have e:i=xs.length:=by omega
  subst e
  exact .inl ⟨⟨xs,q,jF _⟩,hd D ys H' hD hy p⟩
section
def amD(K:Yv):List V->Hp->VK->Prop:=fun xs H Q=>∃ x n t b,xs=[x,.ty n]/\oO K H x t/\yE K t (.type n)=some b/\Q (.bl b) H
theorem mw:ie X (.builtin "isinstance") (amD X.K):=by
 exists 15
 obtain⟨x,n,t,b,rfl,ty,e,q⟩:=h
 obtain⟨u,v,rfl,ru,rv⟩:=r.two
 cases(show v=yK n from rv)
 exact R6 I ru ty e fun tk=>⟨.bl b,H,I.tok tk,rfl,q⟩
end
section
theorem EY{t:Qu}(R3:t≠it):∀ (n i:Nat) (s:qV) (Q:List Value->qV->Prop),s.heap.IsListIter it t i->s.heap.IsList t items->i+n<=items.size ->
  (∀ h',h'.IsListIter it t (i+n)->yL it s.heap h'->Q ((items.toList.drop i).take n) { s with heap:=h' })->wpAny #[6] A (draw (.ref it) n) Q E s
 | 0,i,s,Q,hit,_,_,hQ=>by
  show wpAny _ _ (pure []) Q E s
  exact YX (by simpa using hQ s.heap hit (xk ..))
 | n+1,i,s,Q,hit,ht,hle,hQ=>by
  have cT:i<items.size:=by omega
  show wpAny _ _ (pyNext (.ref it)>>=_) Q E s
  refine Wj (Yf hit ht (x:=items[i]) (by simp[cT]) fun h₁ MT K5=>?_)
  refine Wj (YC (EY R3 n (i+1) _ _ MT (ht.extBut K5.extBut R3) #[0] fun h₂ aep ahS=>YX ?_))
  have hd:items.toList.drop i=items[i] :: items.toList.drop (i+1):=by simp[jy,cT]
  have:=hQ h₂ (by rw[show i+(n+1)=i+1+n by omega];exact aep) (K5.trans ahS)
  rw[hd,List.take_succ_cons]at this
  exact this
theorem BE{t:Qu}{Q:List Value->qV->Prop}(hh:A.handled=none)(ht:s.heap.IsList t items)(hQ:∀ h',XI s.heap.objs.size s.heap h'->Q items.toList { s with heap:=h' }):wpAny #[6] A (unpackItems (.ref t) items.size none) Q E s:=by
 have cT:t≠s.heap.objs.size:=by obtain⟨o,ho,_⟩:=ht;exact jM (jI ho)
 unfold unpackItems
 refine Wj ?_
 ·unfold notIterableAtAll
  refine Wj (Ym ht.typeIs slot_list_iter.lookup ?_)
  refine YX ?_
  simp only[jf,if_false]
  refine Wj (YC (YZ ht ?_))
  refine Wj (YC (EY cT items.size 0 _ _ ⟨_,jH _ rfl,rfl,rfl⟩ (ht.push _) #[0] fun h₁ MT K5=>?_))
  have hZ:List.take items.size (Qt 0 items.toList)=items.toList:=by
   rw[Qf];exact zF #[11]
  rw[hZ]
  rw[if_neg #[11]]
  have ahV:h₁.IsList t items:=(ht.push _).extBut K5.extBut cT
  refine Wj (YC (Ye hh MT ahV #[11] fun h₂ ahy=>?_))
  simp only[Option.isSome_none,jf,if_false]
  refine YX (hQ h₂ fun b o hb e=>ahy b o hb (K5.extBut b o hb (jA _ e)))
theorem Af{x1}{t:Qu}(hh:A.handled=none)(ht:s.heap.IsList t items)(hn:(qZ elts env).length=items.size)(ahR:(qZ elts env).findIdx? (·.1)=none)(h:∀ h',XI s.heap.objs.size s.heap h'->wpAny #[6] A (assignInOrder ((qZ elts env).map (·.2)) items.toList) Q E { s with heap:=h' }):
  wpAny #[6] A (assign (.Tuple elts x1 pos) env (.ref t)) Q E s:=by
 rw[Ge]
 refine Wj (Yn ?_)
 unfold unpack
 rw[hn,ahR]
 exact Wj (YC (BE hh ht h))
end
section
def aku(K:Yv)(n:Nat)(t:TGs):TG:=fun v σ H Q=>∃ a xs,v=.ref a/\lh K H a xs/\xs.length=n/\t xs σ H Q
theorem afh{k:Nat}{t:TGs}(hc:X.calm=true)(h:PGs X es t)(hn:(qZ es X.env).length=n:=by rfl)(tR:(qZ es X.env).findIdx? (·.1)=none:=by rfl):PG X (.Tuple es k pos) (aku X.K n t):=by
 intro pins s σ H v u Q I r hw
 obtain⟨a,xs,e1,hq,hl,hw⟩:=hw
 subst e1
 cases r
 obtain⟨aV,rv,ht,hz⟩:=I.list hq
 refine Af (I.ok.hd hc) ht.isList (by simp[hn,<- hl,rv.length]) tR fun h' hx=>?_
 have I1:Inv X pins σ H { s with heap:=h' }:=I.kept (t' := s.toks) fun b o e=>hx b o (jM (jI e)) e
 exact h pins _ σ H xs _ Q I1 (by simpa using rv) hw
def tN:List V->List V->Bool
 | [],[]=>true
 | x :: xs,y :: ys=>E1 x y&&tN xs ys
 | _,_=>false
theorem tY(ns:List Int):tN #[14] #[14]=true:=by
 induction ns with
 | nil=>rfl
 | cons n r ih=>simp[tN,E1,ih]
theorem Di:∀ {xs ys:List V},xs.length≠ys.length->tN xs ys=false
 | [],[],h=>absurd rfl h
 | [],_ :: _,_=>rfl
 | _ :: _,[],_=>rfl
 | x :: xs,y :: ys,h=>by
  have:=@Di xs ys (by simpa using h)
  simp[tN,this]
theorem Dh:∀ {xs ys:List V},xs.length=ys.length->tN xs ys=(jO xs.length).all fun j=>E1 (xs.getD j .non) (ys.getD j .non)
 | [],[],_=>rfl
 | [],_ :: _,h=>by simp at h
 | _ :: _,[],h=>by simp at h
 | x :: xs,y :: ys,h=>by
  have ih:=@Dh xs ys (by simpa using h)
  rw[jc,List.range_succ_eq_map,QA,Qi]
  show(E1 x y&&tN xs ys)=(E1 x y&&_)
  rw[ih]
  rfl
def amz(K:Yv):R2:=fun x y H Q=>∃ a b xs ys,x=.ref a/\y=.ref b/\lh K H a xs/\lh K H b ys/\xs.all fU=true/\ys.all fU=true/\Q (.bl (tN xs ys)) H
theorem ae0(hu:X.A.units<cLine):wX X (WC .Eq) (amz X.K):=by
 intro pins s σ H x y v u Q I r1 r2 h
 obtain⟨a,b,xs,ys,rfl,rfl,ha,hb,fa,fb,q⟩:=h
 cases r1
 cases r2
 obtain⟨aV,rv,ht,hz⟩:=I.list ha
 obtain⟨wC,rv2,ht2,hz2⟩:=I.list hb
 have l1:=rv.length
 have l2:=rv2.length
 by_cases hl:xs.length=ys.length
 ·refine SeqAt.eq_listAt (e:=fun j=>E1 (xs.getD j .non) (ys.getD j .non)) ht.isList ht2.isList (by simp;omega) hu (fun j h1 h2=>?_) ?_
  ·have j1:j<xs.length:=by simp at h1;omega
   have j2:j<ys.length:=by omega
   obtain⟨u1,e1,q1⟩:=rv.get (i:=j) (x:=xs[j]) (by simp[j1])
   obtain⟨u2,e2,q2⟩:=rv2.get (i:=j) (x:=ys[j]) (by simp[j2])
   have f1:fU xs[j]=true:=zQ.mp fa _ (jG j1)
   have f2:fU ys[j]=true:=zQ.mp fb _ (jG j2)
   have g1:aV.toArray[j]=u1:=by
    have:=(jb.mp e1).2
    simpa using this
   have g2:wC.toArray[j]=u2:=by
    have:=(jb.mp e2).2
    simpa using this
   rw[g1,g2]
   have d1:xs.getD j V.non=xs[j]:=by simp[j1]
   have d2:ys.getD j V.non=ys[j]:=by simp[j2]
   show XC _ _ _ _ (E1 (xs.getD j V.non) (ys.getD j V.non))
   rw[d1,d2]
   exact MN q1 q2 f1 f2
  ·refine⟨.bl (tN xs ys),H,I,?_,q⟩
   show yj _=yj _
   rw[Dh hl]
   simp[l1]
 ·refine SeqAt.eq_list_lengthsAt ht.isList ht2.isList ?_ hu ?_
  ·simp
   omega
  ·refine⟨.bl (tN xs ys),H,I,?_,q⟩
   rw[Di hl]
   rfl
end
end L2
namespace HT
open PySem PySem.Spec PyProof.Rows
variable{prog:qR}{w:World}{A:Around}{E Q:Value→qV→Prop}{s:qV}{items:Array Value}
section
theorem tQ{t sl:Qu}{vl vu:Value}{lo hi:Option Int}(ht:qK s.heap t items)(hs:s.heap.IsSliceOf sl vl vu .none)(pl:qJ vl lo)(pu:qJ vu hi)(hw:eR items.size 0 lo=0/\eR items.size items.size hi=items.size)(h:Q (.ref t) s):wpAny #[6] A (getItem (.ref t) (.ref sl)) Q E s:=by
 obtain⟨os,R4,Py,hds⟩:=id hs
 have hTs:s.TypeIs (.ref sl) "slice" := ⟨os,R4,Py⟩
 unfold getItem
 try with_reducible refine YC ?_
 first|refine Wj (YX ?_)|skip
 refine Wj (Yj ht.typeIs #[8] ?_)
 refine Wj (Wl (name:=Str.ofString "__getitem__") ht.typeIs yN
  (Wm yN ht.typeIs entry_tuple_getitem ?_ (qY _ _)))
 show wpAny _ _ (yz (.ref t)>>=_) _ _ s
 refine Wj (WY ht ?_)
 refine Wj (Yt hTs ?_)
 rw[if_pos #[8]]
 refine Wj (pf hs pl pu ?_)
 have alM:(#[22]=true):=by
  rw[hw.1,hw.2];simp
 show wpAny _ _ (if #[22]=true then _ else _) _ _ s
 rw[if_pos alM]
 unfold Xf
 refine Wj (Wj (Yt ht.typeIs (YX ?_)))
 rw[if_pos #[8]]
 first
  | exact Wj (Yg (YX ⟨_,rfl,YX h⟩))
  | exact Wj (Yg (Wj (YX (YX ⟨_,rfl,YX h⟩))))
  | exact Wj (Wj (Yg (YX ⟨_,rfl,YX h⟩)))
end
end HT
namespace L2
open PySem PySem.Spec PyProof.Rows
variable{X:Cx}{xs hX ys:List V}{P:qR}{w:World}{K:Yv}{mg:qW→Option Value}{base:Heap}{x qual:qW}{st:Stmt}{dV oc:Value}{f:Qu}{fd:qG}{ps:List qW}{sp:Sp}{ds:List Value}{o:Obj}{items:Array Value}{n:Nat}{od an:Option Qu}{FF:Array (Option Value)}{p pos:Pos}{e tg a:Expr}{es:List Expr}{H:Hp}{ta:TA}{tb:TS}{D:Ends}{σ:St}{c:TT}{pins:List (Qu×Obj)}{s:qV}{A:Around}
section
def aiA(K:Yv):V->Option Int->Option Int->Hp->VK->Prop:=fun x lo hi H Q=>∃ a xs,x=.ref a/\mT K H a xs /\
 (HT.eR xs.length 0 lo=0/\HT.eR xs.length xs.length hi=xs.length)/\Q (.ref a) H
theorem acJ:SlR X (aiA X.K):=by
 intro pins s σ H x v vl vu lo hi sl Q I rx hs pl pu h
 obtain⟨a,xs,rfl,hx,hw,q⟩:=h
 cases rx
 obtain⟨aV,r,ht,hz⟩:=I.tuple hx
 have hlen:aV.toArray.size=xs.length:=by rw[jP];exact r.length.symm
 exists "tuple",_,PyProof.Rows.slot_tuple_getitem.lookup,ht.typeIs
 exact HT.tQ ht hs pl pu (by rw[hlen];exact hw) ⟨.ref a,H,I,rfl,q⟩
def rSl(K:Yv):V->Option Int->Option Int->Hp->VK->Prop:=fun x lo hi H Q=>∃ a xs,x=.ref a /\
 ((lh K H a xs/\∀ p,H p=none->Q (.ref p) (upd H p (.lst (C9 xs lo hi)))) \/
  (mT K H a xs/\(C9 xs lo hi=xs->Q (.ref a) H)/\∀ p,H p=none->Q (.ref p) (upd H p (.tup (C9 xs lo hi)))))
theorem MJ{lo hi:Option Int}(h:HT.eR xs.length 0 lo=0/\HT.eR xs.length xs.length hi=xs.length):C9 xs lo hi=xs:=by
 unfold C9
 rw[h.1,h.2]
 simp
theorem afy:SlR X (rSl X.K):=by
 intro pins s σ H x v vl vu lo hi sl Q I rx hs pl pu h
 obtain⟨a,xs,rfl,h⟩:=h
 rcases h with⟨hx,q⟩|⟨hx,q1,q2⟩
 ·exact acI pins s σ H _ v vl vu lo hi sl Q I rx hs pl pu ⟨a,xs,rfl,hx,q⟩
 ·by_cases hw:HT.eR xs.length 0 lo=0/\HT.eR xs.length xs.length hi=xs.length
  ·exact acJ pins s σ H _ v vl vu lo hi sl Q I rx hs pl pu ⟨a,xs,rfl,hx,hw,q1 (MJ hw)⟩
  ·exact afz pins s σ H _ v vl vu lo hi sl Q I rx hs pl pu ⟨a,xs,rfl,hx,hw,q2⟩
end
structure bG(K:Yv)(x qual:qW)(st:Stmt)(dV:Value)(f:Qu)(fd:qG):Prop where
 ex:∃ (oc:Value) (od:Option Qu) (kV doc pm:Value) (an:Option Qu) (cA ct:Value) (FF:Array (Option Value)),
  fd=yJ x qual (dQ st) (cO st) (av st) dV kV doc pm an cA ct/\K.lookup f=some ⟨oc,od,.func fd,FF⟩/\yY K cA qual=true
 kp:yH K (.ref f)=true
section
theorem bG.ok{N:List qW}{k:Nat}(F:bG K x qual st dV f fd)(S:aH N ps (av st))(len:∀ vs H Q E,sp vs H Q E->vs.length=ps.length)(Ao:∀ (cA:Value) (A:Around) (outer:List qF) (s:qV) (H:Hp) (vs:List V) (Q:VK) (E:XK),cV k (A.deeper (envOfC qual (av st) s.heap.objs.size f cA))->sp vs H Q E ->
   ∃ t,G2 (Dd eM P w K mg base N qual (av st) f cA A outer s H E).nox (cO st) t/\t { nx:=fun _ H'=>Q .non H',rt:=Q } (start N vs) H):bu P w K mg base eM (k+1) f fd ps sp:=by
 exists 19
 refine acY lk Hu S len fun A outer s H vs Q E hr MX=>?_
 obtain⟨t,h,q⟩:=Ao cA A outer s H vs Q E hr MX
 exact⟨t,h.nox,q⟩
theorem bG.binds(F:bG K x qual st .none f fd)(h:∀ (kV doc pm:Value) (an:Option Qu) (cA ct:Value) (us:List Value),us.length=ps.length->bindArgs (yJ x qual (dQ st) (cO st) (av st) .none kV doc pm an cA ct) ⟨us,[]⟩=pure (ps.zip us)):Binds K fd ps []:=by
 exists 19
 exact .all (h kV doc pm an cA ct)
theorem bG.Hi{T:Qu}(F:bG K x qual st (.ref T) f fd)(ho:K.lookup T=some o)(hs:o.data=.seq items n)(m:Nat)(hm:m+ds.length=ps.length)(h:∀ (kV doc pm:Value) (an:Option Qu) (cA ct:Value) (us:List Value),us.length=m->∃ k:Option (Array Value)->qS (List (qW×Value)),
   bindArgs (yJ x qual (dQ st) (cO st) (av st) (.ref T) kV doc pm an cA ct) ⟨us,[]⟩=seqItems? (.ref T)>>=k/\k (some items)=pure (ps.zip (us++ds))):Binds K fd ps ds:=by
 exists 19
 intro s us X hl
 obtain⟨k,h1,h2⟩:=h kV doc pm an cA ct us (by rw[jL]at hl;omega)
 exact BindsTo.of_defaults (fd:=yJ x qual (dQ st) (cO st) (av st) (.ref T) kV doc pm an cA ct) rfl (X _ _ ho) hs h1 h2
theorem Ak{kV doc pm cA ct:Value}(l:K.lookup f=some ⟨oc,od,.func (yJ x qual (dQ st) (cO st) (av st) dV kV doc pm an cA ct),FF⟩)(c:yY K cA qual=true)(k:yH K (.ref f)=true):bG K x qual st dV f (yJ x qual (dQ st) (cO st) (av st) dV kV doc pm an cA ct):=⟨⟨oc,od,kV,doc,pm,an,cA,ct,FF,rfl,l,c⟩,k⟩
structure bO(P:qR)(w:World)(K:Yv)(mg:qW->Option Value)(base:Heap)(x:qW)(k:Nat)(ps:List qW)(hX:List V)(sp:Sp):Prop where
 ex:∃ (f:Qu) (fd:qG) (ds:List Value),mg x=some (.ref f)/\yH K (.ref f)=true/\Vals hX ds/\Binds K fd ps ds/\bu P w K mg base eM k f fd ps sp
end
section
variable{j k:Nat}{t:TA}
theorem bC(G:bO X.prog X.w X.K X.mg X.base x k ps hX sp)(hr:cV j X.A)(ha:PA X (e :: es) t)(hx:∀ e s,X.xe e s=False:=by intro _ _;rfl)(K0:k<=j:=by decide)(hg:Gl X x:=by rfl)(Bk:#[19]=false:=by decide)(he:WU (e :: es) X.env=#[21] :: WU es X.env:=by rfl)(rJ:#[29].any (·.1)=false:=by rfl):
  PE X #[27] (Mc sp hX E0 t):=by
 obtain⟨f,fd,ds,hm,hk,hd,hb,F⟩:=G.ex
 exact HM F (hr.mono K0) hg hm hk hb hd (fun _ _ _ _ _ _ _ h=>h.elim) ha Bk he rJ
end
theorem su(K:Yv):yE K (.type "int") (.type "int")=some true:=by with_unfolding_all rfl
theorem pQ(K:Yv):yE K (.type "int") (.type "bool")=some false:=by with_unfolding_all rfl
theorem ak{p:Qu}(h:H p=none)(o:HO):aB H (upd H p o):=fun b u q=>by rw[aj (ar q h)];exact q
theorem small(h:n<=1000):n<=sizeLine:=Js (ay h)
theorem bW:qf "len" = some (.builtin "len"):=by decide +kernel
theorem Ti:qf "min" = some (.builtin "min"):=by decide +kernel
theorem ba:qf "isinstance" = some (.builtin "isinstance"):=by decide +kernel
theorem Rz:qf "sorted" = some (.builtin "sorted"):=by decide +kernel
theorem Mv:qf "int" = some (.type "int"):=by decide +kernel
theorem Pc:qf "bool" = some (.type "bool"):=by decide +kernel
theorem bH:qf "tuple" = some (.type "tuple"):=by decide +kernel
theorem Ai:qf "list" = some (.type "list"):=by decide +kernel
theorem Cr:qf "dict" = some (.type "dict"):=by decide +kernel
theorem Tj:qf "set" = some (.type "set"):=by decide +kernel
theorem BJ:qf "reversed" = some (.type "reversed"):=by decide +kernel
def OZ:Int:=2^4000
theorem IT{k:Int}(h0:0<=k)(h:k<OZ):k.natAbs.log2<4000:=by
 rcases zZ k.natAbs with z|hp
 ·rw[z];decide +kernel
 ·refine(Qr #[0]).mpr ?_
  have e:OZ=((2^4000:Nat):Int):=by unfold OZ;norm_cast
  rw[e]at h
  omega
def Tc(i j:Int):Prop:=(0<=i/\i<OZ)/\(0<=j/\j<OZ)
theorem Tc.ok{i j:Int}(h:Tc i j):IntMulOk i j:=by
 have one:∀ {k:Int},0<=k->k<OZ->xN k<=2^20:=fun {k} h0 h1=>by
  unfold xN
  have:=IT h0 h1
  split<;>omega
 exact .of_bits (one h.1.1 h.1.2) (one h.2.1 h.2.2)
def agv(i j:Int):Prop:=0<j/\j<OZ
section
theorem ack:wX X (binaryOp .Mult) (rI Tc fun i j=>.int (i*j)):=opI fun _ _ _ _ _ _ _ hc q=>gO q hc.ok
theorem DL:wX X (binaryOp .FloorDiv) (rI agv fun i j=>.int (i / j)):=opI fun i j _ _ _ _ _ hc q=>by
 have h1:(0:Int)<j:=hc.1
 have h2:j<OZ:=hc.2
 have h3:=IT (zK h1) h2
 exact floordiv_int #[0] (by rw[ZQ i #[0]];exact q) (.inl (PyProof.noPylong_of_log2 #[0]))
end
def Itv(K:Yv)(a:Qu)(n:Nat):It:=
 ⟨fun i H=>i<n/\∃ xs,lh K H a xs/\xs.length=n,fun i H x H'=>H'=H/\∀ xs,lh K H a xs->xs[n-1-i]?=some x,fun i H=>i=n⟩
theorem aa4(a it:Qu)(n:Nat):Turn P w K tg (Itv K a n) [it] it (fun i h=>i<=n/\XS h it a ((n:Int)-1-(i:Int))) where
 mem:=by simp
 obj:=fun i h st b hb=>by
  have e:b=it:=by simpa using hb
  subst e
  obtain⟨_,o,e,c,d⟩:=st
  exists 21
 keep:=fun i h h' st k=>⟨st.1,st.2.at fun o e=>k it #[11] o e⟩
 item:=by
  exists 0
  subst hP hw hK
  obtain⟨hi,xs,hq,hn⟩:=hg
  obtain⟨aV,rv,p,hz⟩:=I.list hq
  have hj:n-1-i<xs.length:=by omega
  obtain⟨u,hu,ru⟩:=rv.get (i:=n-1-i) (x:=xs[n-1-i]) (by simp[hj])
  exists 2
  have e:(n:Int)-1-(i:Int)=((n-1-i:Nat):Int):=by omega
  have OK:=st.2
  rw[e]at OK
  refine wpAny_pyNext_rev_item OK p.isList (x:=u) (by simpa using hu) fun h' Ea sb=>?_
  exists 4
  obtain⟨o,eo,c,d⟩:=id Ea
  refine⟨u,rfl,Fd (s:={ s with heap:=h' }) eo c d #[8] ⟨xs[n-1-i],H,I1,ru,⟨rfl,fun ys hy=>by rw[I.DG hy hq];simp[hj]⟩,⟨by omega,?_⟩,fun b hb=>(hf b hb).1⟩⟩
  have e2:(n:Int)-1-((i+1:Nat):Int)=((n-1-i:Nat):Int)-1:=by omega
  rw[e2]
  exact Ea
 done:=by
  exists 0
  subst hP hw hK
  have hg':i=n:=hg
  exists 2
  have e:(n:Int)-1-(i:Int) = -1:=by omega
  have OK:=st.2
  rw[e]at OK
  exact wpAny_pyNext_rev_end (I.ok.hd hc) OK fun h' eb=>⟨rfl,I.turned (t' := s.toks) (fun b o hb e=>eb b o hb e) f0 f1 f3 f4 f5⟩
 self:=fun _ _ _ _ _ st h=>Ya st.2 h
section
def alO(K:Yv)(ta:TA):TI:=fun σ H R=>ta σ H fun vs H1=>∃ a xs,vs=[.ref a]/\lh K H1 a xs/\R (Itv K a xs.length) H1
theorem afj(hg:Gl X "reversed")(hm:X.mg "reversed" = none)(ha:PA X [a] ta)(hs:WU [a] X.env=[(false,eval a X.env)]:=by rfl):PI X tg (.Call (.Name "reversed" p) [a] [] pos) (alO X.K ta):=by
 intro pins s σ H R I h
 refine Qz (mB I hg hm BJ (yG (bP (ha pos pins s σ H _ I h) fun us s1 ⟨vs,H1,I1,r1,q1⟩=>?_) hs rfl))
 obtain⟨l,xs,e,hq,q⟩:=q1
 subst e
 cases r1 with
 | cons r rr =>
  cases rr
  cases r
  obtain⟨aV,rv,pl,hz⟩:=I1.list hq
  have hlen:=rv.length
  refine qq pl.isList ?_
  have I2:Inv X pins σ H1 { s1 with heap:=s1.heap.push (revObj l ((aV.toArray.size:Int)-1)) }:=I1.kept (t' := s1.toks) fun b o e=>jA _ e
  have hit:XS #[39] s1.heap.objs.size l ((xs.length:Int)-1-((0:Nat):Int)):=by
   refine⟨_,jH _ rfl,rfl,?_⟩
   have e:((aV.toArray.size:Int)-1)=(xs.length:Int)-1-((0:Nat):Int):=by rw[jP];omega
   rw[<- e]
   rfl
  refine Ya hit ?_
  refine⟨s1.heap.objs.size,[s1.heap.objs.size],_,_,H1,rfl,I2,aa4 l _ xs.length,⟨je _,hit⟩,fun b hb=>?_,q⟩
  exists 26
  subst e
  exact I1.Bf (jF _) (I1.hok.fresh (jF _))
end
theorem abz{a:Qu}{g:TG}(Pv:Nat->St->Hp->Prop)(h0:Pv 0 σ H)(hl:∀ i σ H,i<=xs.length->Pv i σ H->lh K H a xs)(hs:∀ i x σ H,i<xs.length->xs[xs.length-1-i]?=some x->Pv i σ H->g x σ H fun σ2 H2=>tb { D with nx:=Pv (i+1),ct:=Pv (i+1),bk:=D.nx } σ2 H2)(hd:∀ σ H,Pv xs.length σ H->D.nx σ H):
  ∃ W:Nat->Nat->St->Hp->Prop,(∃ m,W 0 m σ H)/\∀ i m σ H,W i m σ H ->
   ((Itv K a xs.length).stop i H/\D.nx σ H)\/((Itv K a xs.length).go i H/\∃ N:St->Hp->Prop,#[18]/\∀ x H',(Itv K a xs.length).yld i H x H'->g x σ H' fun σ2 H2=>tb { D with nx:=N,ct:=N,bk:=D.nx } σ2 H2):=by
 exists 9
 rintro i m σ H ⟨rfl,hi,p⟩
 have q:=hl i σ H hi p
 by_cases cT:i<xs.length
 ·refine .inr ⟨⟨cT,xs,q,rfl⟩,Pv (i+1),fun σ' H' p'=>⟨xs.length-(i+1),by omega,rfl,cT,p'⟩,fun x H' y=>?_⟩
  obtain⟨e,y⟩:=y
  subst e
  exact hs i x σ _ cT (y xs q) p
 ·have e:i=xs.length:=by omega
  subst e
  exact .inl ⟨rfl,hd σ H p⟩
theorem pZ(Pv:Nat->St->Hp->Prop)(h0:∃ m,Pv m σ H)(hs:∀ m σ H,Pv m σ H->c σ H fun b H1=>if b=true then ∃ N:St->Hp->Prop,(∀ σ' H',N σ' H'->∃ m',m'<m/\Pv m' σ' H')/\tb { D with nx:=N,ct:=N,bk:=D.nx } σ H1 else D.nx σ H1):pX c tb D σ H:=⟨Pv,h0,hs⟩
section
theorem RO{us ws:List Value}(rv:Vals xs us)(FL:Vals ys ws)(fa:xs.all fU=true)(fb:ys.all fU=true)(j:Nat)(h1:j<us.toArray.size)(h2:j<ws.toArray.size):
  XC A s us.toArray[j] ws.toArray[j] (E1 (xs.getD j .non) (ys.getD j .non)):=by
 have l1:=rv.length
 have l2:=FL.length
 have j1:j<xs.length:=by simp at h1;omega
 have j2:j<ys.length:=by simp at h2;omega
 obtain⟨u1,e1,q1⟩:=rv.get (i:=j) (x:=xs[j]) (by simp[j1])
 obtain⟨u2,e2,q2⟩:=FL.get (i:=j) (x:=ys[j]) (by simp[j2])
 have f1:fU xs[j]=true:=zQ.mp fa _ (jG j1)
 have f2:fU ys[j]=true:=zQ.mp fb _ (jG j2)
 have g1:us.toArray[j]=u1:=by
  have:=(jb.mp e1).2
  simpa using this
 have g2:ws.toArray[j]=u2:=by
  have:=(jb.mp e2).2
  simpa using this
 rw[g1,g2]
 have d1:xs.getD j V.non=xs[j]:=by simp[j1]
 have d2:ys.getD j V.non=ys[j]:=by simp[j2]
 rw[d1,d2]
 exact MN q1 q2 f1 f2
theorem TL:tN xs ys=((jO (min xs.length ys.length)).all (fun j=>E1 (xs.getD j .non) (ys.getD j .non))&&xs.length==ys.length):=by
 by_cases hl:xs.length=ys.length
 ·rw[Dh hl,<- hl,Nat.min_self]
  simp
 ·rw[Di hl]
  have:(xs.length==ys.length)=false:=by simpa using hl
  rw[this,zJ]
def amA(K:Yv)(neg:Bool):R2:=fun x y H Q=>∃ a b xs ys,x=.ref a/\y=.ref b/\mT K H a xs/\mT K H b ys/\xs.all fU=true/\ys.all fU=true/\Q (.bl (if neg then !tN xs ys else tN xs ys)) H
theorem ae3(hu:X.A.units<cLine):wX X (WC .NotEq) (amA X.K true):=by
 intro pins s σ H x y v u Q I r1 r2 h
 obtain⟨a,b,xs,ys,rfl,rfl,ha,hb,fa,fb,q⟩:=h
 cases r1
 cases r2
 obtain⟨aV,rv,ht,hz⟩:=I.tuple ha
 obtain⟨wC,rv2,ht2,hz2⟩:=I.tuple hb
 have l1:=rv.length
 have l2:=rv2.length
 refine xO (e:=fun j=>E1 (xs.getD j .non) (ys.getD j .non)) ht ht2 hu (fun j h1 h2=>RO rv rv2 fa fb j h1 h2) X.prog X.w X.xe _ ⟨.bl (!tN xs ys),H,I,?_,q⟩
 show yj _=yj _
 rw[TL]
 simp[l1,l2]
end
end L2
namespace PySem
end PySem
namespace L2
open PySem PySem.Spec PyProof.Rows
variable{X:Cx}{pos:Pos}{e value:Expr}{d y v:V}{td te tv:TE}{xs:List V}{us:List Value}{prog P:qR}{w:World}{A:Around}{E Q:Value→qV→Prop}{s:qV}{sl a b:Qu}{vl vu d' u r:Value}{vs values:List Expr}{st:Int}{n t':Nat}{items:Array Value}{K:Yv}{ix:List (Option Nat)}{σ:St}{H H':Hp}{Qd:Qu→Hp→Prop}{κ:Type}{o:Option V}{kvs:List (List Key×V)}{h h':Heap}{ks:List Key}{pins:List (Qu×Obj)}{ob:HO}{env:qF}
def AM(xs:List V)(lo hi:Option Int)(st:Int):List V:=
 (jO (yD (Yx lo hi st xs.length).1 (Yx lo hi st xs.length).2 st)).filterMap fun(m:Nat)=>xs[((Yx lo hi st xs.length).1+(m:Int)*st).toNat]?
theorem Vals.pick(r:Vals xs us)(f:Nat->Nat):∀ ks:List Nat,Vals (ks.filterMap fun m=>xs[f m]?) (ks.filterMap fun m=>us[f m]?)
 | []=>.nil
 | k :: ks=>by
  have ih:=Vals.pick r f ks
  cases e:xs[f k]? with
  | none =>
   have e2:=r.none_of e
   rw[Zd (f:=fun m=>xs[f m]?) e,Zd (f:=fun m=>us[f m]?) e2]
   exact ih
  | some x =>
   obtain⟨u,e2,ru⟩:=r.get e
   rw[Ze (f:=fun m=>xs[f m]?) e,Ze (f:=fun m=>us[f m]?) e2]
   exact .cons ru ih
section
theorem Ck{vs:Value}{lo hi:Option Int}{Q:Int×Int×Nat->qV->Prop}(hs:s.heap.IsSliceOf sl vl vu vs)(pl:qJ vl lo)(pu:qJ vu hi)(ps:qJ vs (some st))(h0:st≠0)(h:Q ((Yx lo hi st n).1,st,yD (Yx lo hi st n).1 (Yx lo hi st n).2 st) s):wpAny #[6] A (yh (.ref sl) (pure (n:Int))) Q E s:=by
 obtain⟨os,R4,Py,hds⟩:=id hs
 unfold yh Xj
 refine Wj (Wj (Wx R4 hds (x:=vl) rfl (Wj (Wx R4 hds (x:=vu) rfl (Wj (Wx R4 hds (x:=vs) rfl (YX ?_)))))))
 refine Wj (HT.mM ps ?_)
 show wpAny _ _ (if (st==0)=true then _ else _) _ _ s
 rw[if_neg (by simpa using h0)]
 refine Wj (HT.mM pl (Wj (HT.mM pu (Wj (YX ?_)))))
 exact YX h
theorem Bi{t:Qu}{vs:Value}{lo hi:Option Int}(ht:qK s.heap t items)(hs:s.heap.IsSliceOf sl vl vu vs)(pl:qJ vl lo)(pu:qJ vu hi)(ps:qJ vs (some st))(h0:st≠0)(hw:(#[20].1==0&&st==1&&yD #[20].1 #[20].2 st==items.size)=true->Q (.ref t) s)(h:Q #[13] { s with heap:=s.heap.push { cls:=.type "tuple",data:=.seq ((jO (yD #[20].1 #[20].2 st)).filterMap fun(m:Nat)=>items[(#[20].1+(m:Int)*st).toNat]?).toArray } })(hsz:((jO (yD #[20].1 #[20].2 st)).filterMap fun(m:Nat)=>items[(#[20].1+(m:Int)*st).toNat]?).length<=sizeLine):wpAny #[6] A (getItem (.ref t) (.ref sl)) Q E s:=by
 have Ap:sizeOk (.seq ((jO (yD #[20].1 #[20].2 st)).filterMap fun(m:Nat)=>items[(#[20].1+(m:Int)*st).toNat]?).toArray):=by
  show(List.toArray _).size<=sizeLine
  rw[jP]
  exact hsz
 obtain⟨os,R4,Py,hds⟩:=id hs
 have hTs:s.TypeIs (.ref sl) "slice" := ⟨os,R4,Py⟩
 unfold getItem
 try with_reducible refine YC ?_
 first|refine Wj (YX ?_)|skip
 refine Wj (Yj ht.typeIs #[8] ?_)
 refine Wj (Wl (name:=Str.ofString "__getitem__") ht.typeIs yN
  (Wm yN ht.typeIs entry_tuple_getitem ?_ (qY _ _)))
 show wpAny _ _ (yz (.ref t)>>=_) _ _ s
 refine Wj (WY ht ?_)
 refine Wj (Yt hTs ?_)
 rw[if_pos #[8]]
 refine Wj (Ck hs pl pu ps h0 ?_)
 show wpAny _ _ (if (#[20].1==0&&st==1&&yD #[20].1 #[20].2 st==items.size)=true then _ else _) _ _ s
 by_cases hc:(#[20].1==0&&st==1&&yD #[20].1 #[20].2 st==items.size)=true
 ·rw[if_pos hc]
  unfold Xf
  refine Wj (Wj (Yt ht.typeIs (YX ?_)))
  rw[if_pos #[8]]
  first
   | exact Wj (Yg (YX ⟨_,rfl,YX (hw hc)⟩))
   | exact Wj (Yg (Wj (YX (YX ⟨_,rfl,YX (hw hc)⟩))))
   | exact Wj (Wj (Yg (YX ⟨_,rfl,YX (hw hc)⟩)))
 rw[if_neg hc]
 first
  | exact Wj (m:=yM _) (YT (YX ⟨_,rfl,YX h⟩) Ap)
  | exact Wj (m:=yM _) (YT (Wj (YX (YX ⟨_,rfl,YX h⟩))) Ap)
  | exact Wj (Wj (m:=yM _) (YT (YX (YX ⟨_,rfl,YX h⟩)) Ap))
  | exact Wj (Wj (m:=yM _) (YT (YX ⟨_,rfl,YX h⟩) Ap))
end
section
variable{lo hi:Option Expr}{st:Expr}{tl th ts:TO}{p2:Pos}
def agN(X:Cx)(r:V->Option Int->Option Int->Option Int->Hp->VK->Prop):Prop:=
 ∀ (pins:List #[58]) (s:qV) (σ:St) (H:Hp) (x:V) (v vl vu vs:Value) (lo hi st:Option Int) (sl:Qu) (Q:VK),Inv X pins σ H s->RelV x v->s.heap.IsSliceOf sl vl vu vs->qJ vl lo->qJ vu hi->qJ vs st->r x lo hi st H Q ->
  ∃ T id,typeLookup (.type T) "__getitem__" = pure (some (.builtin id))/\s.TypeIs v T/\wpAny #[4] X.A (getItem v (.ref sl)) #[59] X.xe s
def amV(r:V->Option Int->Option Int->Option Int->Hp->VK->Prop)(te:TE)(tl th ts:TO):TE:=fun σ H Q=>te σ H fun x H1=>tl σ H1 fun l H2=>th σ H2 fun u H3=>ts σ H3 fun c H4=>r x l u c H4 Q
theorem SA{r:V->Option Int->Option Int->Option Int->Hp->VK->Prop}(hr:agN X r)(he:PE X e te)(hl:PO X lo tl)(hu:PO X hi th)(hs:PO X (some st) ts):PE X (.Subscript e (.Slice lo hi (some st) p2) pos) (amV r te tl th ts):=by
 exists 5
 refine qX (bP #[63] fun v s1 ⟨x,H1,I1,r1,q1⟩=>?_)
 refine wpAny_Slice (bP (hl pins s1 σ H1 _ I1 q1) fun vl s2 ⟨l,H2,I2,pl,q2⟩=>bP (hu pins s2 σ H2 _ I2 q2) fun vu s3 ⟨u,H3,I3,pu,q3⟩=>bP (hs pins s3 σ H3 _ I3 q3) fun vc s4 ⟨c,H4,I4,pc,q4⟩=>?_)
 have I5:Inv X pins σ H4 { s4 with heap:=s4.heap.push { cls:=.type "slice",data:=.fields #[vl,vu,vc] } }:=I4.kept (t' := s4.toks) fun b ob q=>jA _ q
 obtain⟨T,id,hT,ht,hg⟩:=hr pins { s4 with heap:=s4.heap.push { cls:=.type "slice",data:=.fields #[vl,vu,vc] } } σ H4 x v vl vu vc l u c s4.heap.objs.size Q I5 r1 (xW ..) pl pu pc q4
 show wpAny #[4] X.A (subscriptTail e (.Slice lo hi (some st) p2) v (.ref s4.heap.objs.size)) #[59] X.xe { s4 with heap:=s4.heap.push { cls:=.type "slice",data:=.fields #[vl,vu,vc] } }
 exact tail_any (ops:=[v,.ref s4.heap.objs.size]) ht hT hg (by with_unfolding_all rfl)
def aiz(K:Yv):V->Option Int->Option Int->Option Int->Hp->VK->Prop:=fun x lo hi st H Q=>∃ a xs c,x=.ref a/\st=some c/\mT K H a xs/\c≠0/\(AM xs lo hi c).length<=sizeLine /\
 (c=1->(Yx lo hi c xs.length).1=0->yD (Yx lo hi c xs.length).1 (Yx lo hi c xs.length).2 c=xs.length->Q (.ref a) H)/\∀ p,H p=none->Q (.ref p) (upd H p (.tup (AM xs lo hi c)))
theorem acH:agN X (aiz X.K):=by
 intro pins s σ H x v vl vu vc lo hi st sl Q I rx hs pl pu pc h
 obtain⟨a,xs,c,rfl,rfl,hx,h0,hz,q1,q2⟩:=h
 cases rx
 obtain⟨aV,r,ht,Fg⟩:=I.tuple hx
 have hlen:aV.toArray.size=xs.length:=by rw[jP];exact r.length.symm
 exists "tuple",_,PyProof.Rows.slot_tuple_getitem.lookup,ht.typeIs
 have rp:=r.pick (fun(m:Nat)=>((Yx lo hi c xs.length).1+(m:Int)*c).toNat) (jO (yD (Yx lo hi c xs.length).1 (Yx lo hi c xs.length).2 c))
 have eg:(fun(m:Nat)=>aV.toArray[((Yx lo hi c xs.length).1+(m:Int)*c).toNat]?)=fun(m:Nat)=>aV[((Yx lo hi c xs.length).1+(m:Int)*c).toNat]? := by
  funext m
  simp
 refine Bi ht hs pl pu pc h0 (fun hc=>?_) ?_ ?_
 ·rw[hlen]at hc
  simp only[Jc,beq_iff_eq]at hc
  exact⟨.ref a,H,I,rfl,q1 hc.1.2 hc.1.1 hc.2⟩
 ·rw[hlen,eg]
  refine⟨.ref s.heap.objs.size,_,I.laid (t' := s.toks) (o:=.tup (AM xs lo hi c)) (fun b ob q=>jA _ q) (jF _) ?_,rfl,q2 _ #[56]⟩
  exact⟨hz,_,rp,IsTup.new _ _⟩
 ·rw[hlen,eg,<- rp.length]
  exact hz
end
theorem rX(Pv:Qu->Nat->List V->Hp->Prop)(h0:∀ D,H D=none->Pv D 0 [] (upd H D (.lst [])))(hl:∀ D i ys H',i<=xs.length->Pv D i ys H'->mT K H' a xs)(hs:∀ D i x ys H' (Q':VK),H D=none->xs[i]?=some x->H' D=some (.lst ys)->Pv D i ys H'->#[9] ->
   te ((aX ix σ).set 0 (some x)) H' Q')(hd:∀ D ys H',H D=none->H' D=some (.lst ys)->Pv D xs.length ys H'->Qd D H'):wQ (Itt K a) ix (bB 0) te σ H Qd:=by
 intro D hD
 exists 3
 exists 24
 have q:=hl D i ys H' hi p
 by_cases cT:i<xs.length
 ·refine .inr ⟨⟨xs,xs[i],q,by simp[cT]⟩,fun x H2 y=>?_⟩
  obtain⟨e1,e2⟩:=y
  subst e1
  have ex:=e2 xs q
  have es:σ'.set 0 (some x)=(aX ix σ).set 0 (some x):=by
   rcases hσ with z|⟨t,z⟩
   ·rw[z]
   ·rw[z,Jz]
  show te (σ'.set 0 (some x)) _ _
  rw[es]
  refine hs D i x ys _ _ hD ex hy p fun y H4 h4 hz p4=>⟨ys,h4,hz,xs.length-(i+1),by omega,rfl,cT,.inr ⟨_,rfl⟩,ys++[y],ae,p4⟩
 ·have e:i=xs.length:=by omega
  subst e
  exact .inl ⟨⟨xs,q,jF _⟩,hd D ys H' hD hy p⟩
section
theorem W5(K:Yv)(h:X.K=K:=by rfl):IxR X (aiw K):=by subst h;exact dS
theorem mZ(K:Yv)(h:X.K=K:=by rfl):IxR X (aix K):=by subst h;exact aO
theorem EC(K:Yv)(h:X.K=K:=by rfl):wX X (WC .NotIn) (rIn K true):=by subst h;exact HJ
end
section
variable[DecidableEq κ]
def eC(kvs:List (κ×V))(k:κ):Option V:=(kvs.find? fun kv=>decide (kv.1=k)).map (·.2)
def putK(kvs:List (κ×V))(k:κ)(v:V):List (κ×V):=
 if (kvs.any fun kv=>decide (kv.1=k))=true then kvs.map (fun kv=>if kv.1=k then(kv.1,v)else kv)else kvs++[(k,v)]
def Dg(kvs:List (κ×V))(k:κ):List (κ×V):=kvs.filter fun kv=>decide (kv.1≠k)
theorem mO{p:κ×V}{r:List (κ×V)}{k:κ}(e:p.1=k):eC (p :: r) k=some p.2:=by simp[eC,zC,e]
theorem hV{p:κ×V}{r:List (κ×V)}{k:κ}(e:¬ p.1=k):eC (p :: r) k=eC r k:=by simp[eC,zC,e]
theorem Ed(k:κ):∀ kvs:List (κ×V),(kvs.any fun kv=>decide (kv.1=k))=(eC kvs k).isSome
 | []=>rfl
 | p :: r=>by
  rw[zU]
  by_cases e:p.1=k
  ·simp only[mO e,decide_eq_true e,Bool.true_or,Option.isSome_some]
  ·rw[hV e,decide_eq_false e,Bool.false_or];exact Ed k r
theorem iR(kvs:List (κ×V))(k:κ)(v:V):(putK kvs k v).length<=kvs.length+1:=by
 unfold putK
 split
 ·rw[jZ];omega
 ·rw[jL,jc,Jn];omega
theorem aaz{kvs:List (κ×V)}{k:κ}(v:V)(h:eC kvs k=none):putK kvs k v=kvs++[(k,v)]:=by
 unfold putK
 rw[Ed,h]
 exact if_neg #[8]
theorem ow.oX{u:Option Value}(r:ow o u):o.isSome=u.isSome:=by
 cases o with
 | none=>cases u with
  | none=>rfl
  | some _=>exact(show False from r).elim
 | some _=>cases u with
  | none=>exact(show False from r).elim
  | some _=>rfl
theorem ow.getD{u:Option Value}(r:ow o u)(rd:RelV d d'):RelV (o.getD d) (u.getD d'):=by
 cases o with
 | none=>cases u with
  | none=>exact rd
  | some _=>exact(show False from r).elim
 | some _=>cases u with
  | none=>exact(show False from r).elim
  | some _=>exact r
theorem KV.val{kvs:List (κ×V)}{vs:List (κ×Value)}(r:KV kvs vs)(k:κ):ow (eC kvs k) (valueAt vs k):=by
 unfold KV at r
 induction r with
 | nil=>exact True.intro
 | @cons p q ps qs h t ih =>
  obtain⟨h1,h2⟩:=h
  by_cases e:p.1=k
  ·have e':q.1=k:=h1.symm.trans e
   have b:valueAt (q :: qs) k=some q.2:=by simp[valueAt,zC,e']
   rw[mO e,b];exact h2
  ·have e':¬ q.1=k:=fun z=>e (h1.trans z)
   have b:valueAt (q :: qs) k=valueAt qs k:=by simp[valueAt,zC,e']
   rw[hV e,b];exact ih
theorem KV.any{kvs:List (κ×V)}{vs:List (κ×Value)}(r:KV kvs vs)(k:κ):(kvs.any fun kv=>decide (kv.1=k))=vs.any fun kv=>decide (kv.1=k):=by
 unfold KV at r
 induction r with
 | nil=>rfl
 | cons h t ih=>rw[zU,zU,ih,h.1]
theorem KV.afq{kvs:List (κ×V)}{vs:List (κ×Value)}(r:KV kvs vs)(k:κ)(ry:RelV y u):
  KV (kvs.map fun kv=>if kv.1=k then(kv.1,y)else kv) (vs.map fun kv=>if kv.1=k then(kv.1,u)else kv):=by
 unfold KV at r ⊢
 induction r with
 | nil=>exact .nil
 | @cons p q ps qs h t ih =>
  rw[JJ,JJ]
  refine .cons ?_ ih
  obtain⟨h1,h2⟩:=h
  by_cases e:p.1=k
  ·rw[if_pos e,if_pos (h1.symm.trans e)];exact⟨h1,ry⟩
  ·rw[if_neg e,if_neg (fun z=>e (h1.trans z))];exact⟨h1,h2⟩
theorem KV.put{kvs:List (κ×V)}{vs:List (κ×Value)}(r:KV kvs vs)(k:κ)(ry:RelV y u):KV (putK kvs k y) (stored vs k u):=by
 unfold putK stored
 rw[r.any k]
 by_cases e:(vs.any fun kv=>decide (kv.1=k))=true
 ·rw[if_pos e,if_pos e];exact r.afq k ry
 ·rw[if_neg e,if_neg e];exact Paired.snoc r ⟨rfl,ry⟩
theorem KV.drop{kvs:List (κ×V)}{vs:List (κ×Value)}(r:KV kvs vs)(k:κ):KV (Dg kvs k) (without vs k):=by
 unfold KV at r ⊢
 unfold Dg without
 induction r with
 | nil=>exact .nil
 | @cons p q ps qs h t ih =>
  obtain⟨h1,h2⟩:=h
  rw[QU,QU]
  by_cases e:p.1=k
  ·have a:¬ decide (p.1≠k)=true:=by simp[e]
   have b:¬ decide (q.1≠k)=true:=by simp[h1.symm.trans e]
   rw[if_neg a,if_neg b];exact ih
  ·have e':¬ q.1=k:=fun z=>e (h1.trans z)
   have a:decide (p.1≠k)=true:=by simp[e]
   have b:decide (q.1≠k)=true:=by simp[e']
   rw[if_pos a,if_pos b];exact .cons ⟨h1,h2⟩ ih
theorem KV.length{kvs:List (κ×V)}{vs:List (κ×Value)}(r:KV kvs vs):kvs.length=vs.length:=Paired.length r
theorem Tx(kvs:List (κ×V))(k:κ):(Dg kvs k).length<=kvs.length:=Jk _ _
end
theorem sk{k:Key}(r:RelV (kV k) u):(bq P w).is k u=true:=by
 cases k with
 | inl i=>obtain⟨t,e⟩:=(show ∃ t,u=yI i t from r);subst e;exact Lj P w i t
 | inr x=>obtain⟨t,e⟩:=(show ∃ t,u=XM x t from r);subst e;exact Lk P w x t
theorem Fm:∀ {ks:List Key} {us:List Value},Vals (ks.map kV) us->ItemsAre (bq P w) ks us
 | [],_,r=>by rw[Zb]at r;cases r;exact .nil
 | k :: ks,_,r=>by
  rw[JJ]at r
  cases r with
  | cons h t=>exact .cons (sk h) (Fm t)
abbrev KT(H:Hp):List (List Key×V)->List (List Key×Qu×Value)->Prop:=qP fun p q=>p.1=q.1/\H q.2.1=some (.tup (p.1.map kV))/\RelV p.2 q.2.2
theorem KT.val{xs:List (List Key×Qu×Value)}(r:KT H kvs xs)(k:List Key):ow (eC kvs k) ((atKey xs k).map (·.2)):=by
 induction r with
 | nil=>exact True.intro
 | @cons p q ps qs h t ih =>
  obtain⟨h1,_,h2⟩:=h
  by_cases e:p.1=k
  ·have e':q.1=k:=h1.symm.trans e
   have b:atKey (q :: qs) k=some q.2:=by simp[atKey,zC,e']
   rw[mO e,b];exact h2
  ·have e':¬ q.1=k:=fun z=>e (h1.trans z)
   have b:atKey (q :: qs) k=atKey qs k:=by simp[atKey,zC,e']
   rw[hV e,b];exact ih
theorem KT.afq{xs:List (List Key×Qu×Value)}(r:KT H kvs xs)(k:List Key)(ry:RelV y u):
  KT H (kvs.map fun kv=>if kv.1=k then(kv.1,y)else kv) (xs.map (putAt k u)):=by
 induction r with
 | nil=>exact .nil
 | @cons p q ps qs h t ih =>
  rw[JJ,JJ]
  refine .cons ?_ ih
  obtain⟨h1,h2,h3⟩:=h
  unfold putAt
  by_cases e:p.1=k
  ·rw[if_pos e,if_pos (h1.symm.trans e)];exact⟨h1,h2,ry⟩
  ·rw[if_neg e,if_neg (fun z=>e (h1.trans z))];exact⟨h1,h2,h3⟩
theorem KT.put{xs:List (List Key×Qu×Value)}(r:KT H kvs xs)(k:List Key)(hb:H b=some (.tup (k.map kV)))(ry:RelV y u):
  KT H (putK kvs k y) (storedH xs k b u):=by
 have e:(kvs.any fun kv=>decide (kv.1=k))=(atKey xs k).isSome:=by
  rw[Ed,(r.val k).oX,ZU]
 unfold putK storedH
 rw[e]
 by_cases q:(atKey xs k).isSome=true
 ·rw[if_pos q,if_pos q];exact r.afq k ry
 ·rw[if_neg q,if_neg q];exact Paired.snoc r ⟨rfl,hb,ry⟩
theorem KT.keeps{xs:List (List Key×Qu×Value)}(r:KT H kvs xs)(ht:∀ b ys,H b=some (.tup ys)->H' b=some (.tup ys)):KT H' kvs xs:=
 Paired.Ez r fun _ _ z=>⟨z.1,ht _ _ z.2.1,z.2.2⟩
section
theorem adm{u:HO}(ok:ik P w H h)(e:Rd H a u):bA P w H h a u:=e.ok ok
theorem Aj{kvs:List (Key×V)}(ok:ik P w H h)(e:Rd H a (.dK kvs)):kvs.length<=sizeLine/\(a==WX)=false/\∃ vs,KV kvs vs/\h.DictOf (bq P w) a vs:=
 show bA P w H h a (.dK kvs)from adm ok e
theorem Pl{kvs:List (Key×V)}(ok:ik P w H h)(e:H a=some (.dK kvs)):kvs.length<=sizeLine/\(a==WX)=false/\∃ vs,KV kvs vs/\h.DictOf (bq P w) a vs:=Aj ok (.inl e)
theorem pP(ok:ik P w H h)(e:H a=some (.tup (ks.map kV))):(WZ (bq P w)).is h ks a:=by
 obtain⟨_,aV,r,o,h1,h2,n,h3⟩:=(show bA P w H h a (.tup (ks.map kV))from ok a _ e)
 exact⟨o,aV.toArray,n,h1,h2,h3,by simpa using Fm r⟩
theorem BL(ok:ik P w H h)(e:Rd H a (.dT kvs)):kvs.length<=sizeLine/\(a==WX)=false /\
  ∃ xs,KT H kvs xs/\h.DictOfH (WZ (bq P w)) a xs:=by
 obtain⟨z,y,xs,r,o,es,ep,h1,h2,h3,h4,h5⟩:=(show bA P w H h a (.dT kvs)from adm ok e)
 refine⟨z,y,xs,r,o,es,ep,h1,h2,h3,h4,fun x hx=>?_,h5⟩
 have all:∀ {l:List (List Key×V)} {m:List (List Key×Qu×Value)},KT H l m->∀ x∈m,(WZ (bq P w)).is h x.1 x.2.1:=by
  intro l m q
  induction q with
  | nil=>intro x hx;exact nomatch hx
  | @cons p q ps qs hq t ih =>
   intro x hx
   rcases jS.mp hx with e|hx
   ·subst e
    exact pP ok (by rw[<- hq.1];exact hq.2.1)
   ·exact ih x hx
 exact all r x hx
theorem TB(ok:ik P w H h)(e:H a=some (.dT kvs)):kvs.length<=sizeLine/\(a==WX)=false /\
  ∃ xs,KT H kvs xs/\h.DictOfH (WZ (bq P w)) a xs:=BL ok (.inl e)
end
def fH(H:Hp)(a:Qu)(y:V)(r:Option V):Prop:=
 (∃ kvs k,Rd H a (.dK kvs)/\y=kV k/\r=eC kvs k)\/∃ kvs k b,Rd H a (.dT kvs)/\y=.ref b/\H b=some (.tup (k.map kV))/\r=eC kvs k
def CH(H:Hp)(a:Qu)(y v:V)(H':Hp):Prop:=
 (∃ kvs k,H a=some (.dK kvs)/\y=kV k/\kvs.length<sizeLine/\H'=upd H a (.dK (putK kvs k v))) \/
 ∃ kvs k b,H a=some (.dT kvs)/\y=.ref b/\H b=some (.tup (k.map kV))/\kvs.length<sizeLine/\H'=upd H a (.dT (putK kvs k v))
theorem fH.k{kvs:List (Key×V)}{k:Key}(e:H a=some (.dK kvs)):fH H a (kV k) (eC kvs k):=.inl ⟨kvs,k,.inl e,rfl,rfl⟩
theorem fH.t{k:List Key}(e:H a=some (.dT kvs))(eb:H b=some (.tup (k.map kV))):fH H a (.ref b) (eC kvs k):=.inr ⟨kvs,k,b,.inl e,rfl,eb,rfl⟩
theorem CH.k{kvs:List (Key×V)}{k:Key}(e:H a=some (.dK kvs))(hl:kvs.length<sizeLine):CH H a (kV k) v (upd H a (.dK (putK kvs k v))):=.inl ⟨kvs,k,e,rfl,hl,rfl⟩
theorem CH.t{k:List Key}(e:H a=some (.dT kvs))(eb:H b=some (.tup (k.map kV)))(hl:kvs.length<sizeLine):
  CH H a (.ref b) v (upd H a (.dT (putK kvs k v))):=.inr ⟨kvs,k,b,e,rfl,eb,hl,rfl⟩
section
theorem Inv.big(I:Inv X pins σ H s):WX<s.heap.objs.size:=by
 have h:WM<s.heap.objs.size:=(I.mod.glob.keeps I.bk).lt
 exact Jt #[8] h
theorem RH(hu:A.units+1<cLine)(I:Inv X pins σ H s)(g:fH H a y (some v))(ry:RelV y u)(h:∀ w' s',Inv X pins σ H s'->RelV v w'->Q w' s'):
  wpAny #[4] A (getItem (.ref a) u) Q E s:=by
 exists 25
 ·subst ey
  obtain⟨z,hd,vs,rel,dd⟩:=Aj I.hok e
  obtain⟨w',hw,FL⟩:=ow.some_of (v:=v) (o:=valueAt vs k) (by rw[l];exact rel.val k)
  exact wpAny_getItem_of (sk ry) dd.mapOf hw (h w' _ (I.tok _) FL)
 ·subst ey
  cases(show u=Yw b from ry)
  obtain⟨z,hd,xs,rel,dd⟩:=BL I.hok e
  obtain⟨w',hw,FL⟩:=ow.some_of (v:=v) (o:=(atKey xs k).map (·.2)) (by rw[l];exact rel.val k)
  obtain⟨p,hp,hp2⟩:=zG.mp hw
  refine wpAny_getItem_heap (Wa hu) (pP I.hok eb) dd hp ?_
  rw[hp2]
  exact h w' _ (I.tok _) FL
theorem aj7(hu:A.units+1<cLine)(I:Inv X pins σ H s)(g:fH H a y o)(ry:RelV y u)(h:∀ s',Inv X pins σ H s'->Q (.bool o.isSome) s'):
  wpAny #[4] A (WC .In u (.ref a)) Q E s:=by
 exists 25
 ·subst ey
  obtain⟨z,hd,vs,rel,dd⟩:=Aj I.hok e
  refine wpAny_in_of (sk ry) hd dd.mapOf ?_
  rw[<- (rel.val k).oX,<- l]
  exact h _ (I.tok _)
 ·subst ey
  cases(show u=Yw b from ry)
  obtain⟨z,hd,xs,rel,dd⟩:=BL I.hok e
  refine wpAny_in_heap (Wa hu) (pP I.hok eb) hd dd ?_
  have q:=(rel.val k).oX
  rw[ZU]at q
  rw[<- q,<- l]
  exact h _ (I.tok _)
theorem abu(hu:A.units+1<cLine)(I:Inv X pins σ H s)(g:fH H a y o)(ry:RelV y u)(h:∀ s',Inv X pins σ H s'->Q (.bool (!o.isSome)) s'):
  wpAny #[4] A (WC .NotIn u (.ref a)) Q E s:=by
 exists 25
 ·subst ey
  obtain⟨z,hd,vs,rel,dd⟩:=Aj I.hok e
  refine wpAny_notIn_of (sk ry) hd dd.mapOf ?_
  rw[<- (rel.val k).oX,<- l]
  exact h _ (I.tok _)
 ·subst ey
  cases(show u=Yw b from ry)
  obtain⟨z,hd,xs,rel,dd⟩:=BL I.hok e
  refine wpAny_notIn_heap (Wa hu) (pP I.hok eb) hd dd ?_
  have q:=(rel.val k).oX
  rw[ZU]at q
  rw[<- q,<- l]
  exact h _ (I.tok _)
theorem tw{t':Nat}(I:Inv X pins σ H s)(mu:Mut (H a))(hs:yL a s.heap h')(he:∃ q,h'.get? a=some q)(new:bA X.prog X.w (upd H a ob) h' a ob):
  Inv X pins σ (upd H a ob) { s with heap:=h',toks:=t' }:=
 I.write (x:=a) (e:=a) mu (.inl rfl) (fun b q hb z=>(hs.2 b hb).trans z) he new
theorem Df{kvs:List (Key×V)}{vs:List (Key×Value)}(z:kvs.length<=sizeLine)(hd:(a==WX)=false)(rel:KV kvs vs)(dd:h'.DictOf (bq P w) a vs):
  bA P w H' h' a (.dK kvs):=⟨z,hd,vs,rel,dd⟩
theorem RI{Q:Unit->qV->Prop}(hu:A.units+1<cLine)(I:Inv X pins σ H s)(g:CH H a y v H')(ry:RelV y u)(rv:RelV v r)(h:∀ s',Inv X pins σ H' s'->Q () s'):
  wpAny #[4] A (setItem (.ref a) u r) Q E s:=by
 rcases g with⟨kvs,k,e,ey,l,eH⟩|⟨kvs,k,b,e,ey,eb,l,eH⟩
 ·subst ey eH
  obtain⟨z,hd,vs,rel,dd⟩:=Pl I.hok e
  have hz:vs.length<=sizeLine:=by rw[<- rel.length];exact z
  have hl:(putK kvs k v).length<=sizeLine:=by have:=iR kvs k v;omega
  refine wpAny_setItem_pairs (hsz:=hz) (sk ry) dd fun h' MK hs=>h _ ?_
  have he:∃ q,h'.get? a=some q:=let ⟨q,_,_,hq,_⟩:=MK;⟨q,hq⟩
  exact tw I (by rw[e];exact True.intro) hs he (Df hl hd (rel.put k rv) MK)
 ·subst ey eH
  cases(show u=Yw b from ry)
  obtain⟨z,hd,xs,rel,dd⟩:=TB I.hok e
  have hz:xs.length<=sizeLine:=by rw[<- Paired.length rel];exact z
  have hl:(putK kvs k v).length<=sizeLine:=by have:=iR kvs k v;omega
  refine wpAny_setItem_heap (hsz:=hz) (Wa hu) (pP I.hok eb) dd fun h' MK hs=>h _ ?_
  obtain⟨q,es,ep,hq,h2,h3,h4,_,h5⟩:=MK
  refine tw I (by rw[e];exact True.intro) hs ⟨q,hq⟩ ⟨hl,hd,_,(rel.put k eb rv).keeps fun c ys ec=>?_,q,es,ep,hq,h2,h3,h4,h5⟩
  rw[aj (aG ec e (fun z=>nomatch z))]
  exact ec
end
section
variable{kvs:List (Key×V)}{k:Key}
theorem agX{more:List Value}(I:Inv X pins σ H s)(e:H a=some (.dK kvs))(ry:RelV (kV k) u)(l:eC kvs k=some v)(hm:more=[]\/∃ x,more=[x])(h:∀ w' s',Inv X pins σ (upd H a (.dK (Dg kvs k))) s'->RelV v w'->Q w' s'):wpAny #[4] A (call (.builtin "dict.pop") (.ref a :: u :: more)) Q E s:=by
 obtain⟨z,hd,vs,rel,dd⟩:=Pl I.hok e
 obtain⟨w',hw,FL⟩:=ow.some_of (v:=v) (o:=valueAt vs k) (by rw[<- l];exact rel.val k)
 have hp:(keyPart u).isSome=true:=by
  cases k with
  | inl i=>obtain⟨t,q⟩:=(show ∃ t,u=yI i t from ry);subst q;rfl
  | inr x=>obtain⟨t,q⟩:=(show ∃ t,u=XM x t from ry);subst q;rfl
 have ha:argsOk "dict.pop" ⟨.ref a :: u :: more,[]⟩:=by
  rcases hm with q|⟨x,q⟩
  ·subst q;exact PySem.F.args_dict_pop_2 _ _
  ·subst q;exact PySem.F.args_dict_pop_3 _ _ _
 refine qp xA dd.typeIs PySem.F.entry_dict_pop ha (meets_dict_pop_there (bq X.prog X.w) a (sk ry) more hm hp)
  ⟨vs,w',dd,by rw[<- rel.length];exact z,hw,fun h' MK hs=>h w' _ ?_ FL⟩
 have he:∃ q,h'.get? a=some q:=let ⟨q,_,_,hq,_⟩:=MK;⟨q,hq⟩
 exact tw I (by rw[e];exact True.intro) hs he (Df (ji (Tx kvs k) z) hd (rel.drop k) MK)
theorem agW(I:Inv X pins σ H s)(e:Rd H a (.dK kvs))(h:∀ t s',Inv X pins σ H s'->Q (.int kvs.length t) s'):wpAny #[4] A (call (.builtin "len") [.ref a]) Q E s:=by
 obtain⟨z,hd,vs,rel,dd⟩:=Aj I.hok e
 refine call_len_dict hd dd (by rw[<- rel.length];rw[WT]at z;omega) ?_
 rw[<- rel.length]
 exact h _ _ (I.tok _)
end
def agG(i:Expr):Prop := ∀ ov iv,subscripted i false ov iv=operate [ov,iv] (getItem ov iv)
theorem acN{slice:Expr}{T id:String}(hl:typeLookup (.type T) "__getitem__" = pure (some (.builtin id)))(hs:agG slice)(h:wpAny #[6] A (eval value env) (fun o s₁=>wpAny #[6] A (eval slice env) (fun i s₂=>s₂.TypeIs o T/\wpAny #[6] A (getItem o i) Q E s₂) E s₁) E s):
  wpAny #[6] A (eval (.Subscript value slice pos) env) Q E s:=by
 refine qX (YQ h (fun o s₁ h₁=>YQ h₁ (fun i s₂ h₂=>?_) fun _ _ x=>x) fun _ _ x=>x)
 obtain⟨hT,h₂⟩:=h₂
 unfold subscriptTail
 refine Wj ?_
 rw[getitemInPython_of_ne hT.not_modules]
 refine Wj (Ym hT hl ?_)
 have fin:wpAny #[6] A (subscripted slice false o i) (fun r s₃=>wpAny #[6] A (letTemporaryGo value o r>>=fun _=>pure r) Q E s₃) E s₂:=by
  rw[hs o i]
  exact wpAny_operating (YQ h₂ (fun r s₃ h₃=>Wj (wpAny_letTemporaryGo (YX h₃))) fun _ _ x=>x)
 first
  | exact YX (Wj fin)
  | exact Wj (YX (Wj fin))
  | exact Wj fin
theorem J0(I:Inv X pins σ H s)(g:fH H a y o):s.TypeIs (.ref a) "dict" := by
 rcases g with⟨kvs,k,e,_,_⟩|⟨kvs,k,b,e,_,_,_⟩
 ·obtain⟨_,_,vs,_,dd⟩:=Aj I.hok e
  exact dd.typeIs
 ·obtain⟨_,_,xs,_,dd⟩:=BL I.hok e
  exact dd.typeIs
def aiL(td ty:TE):TE:=fun σ H Q=>td σ H fun x H1=>ty σ H1 fun y H2=>∃ a v,x=.ref a/\fH H2 a y (some v)/\Q v H2
def amQ(ty td:TE):TE:=fun σ H Q=>ty σ H fun y H1=>td σ H1 fun x H2=>∃ a o,x=.ref a/\fH H2 a y o/\Q (.bl o.isSome) H2
def acO(ty td:TE):TE:=fun σ H Q=>ty σ H fun y H1=>td σ H1 fun x H2=>∃ a o,x=.ref a/\fH H2 a y o/\Q (.bl (!o.isSome)) H2
def aiF(td ty tv:TE):TS:=fun D σ H=>tv σ H fun v H1=>td σ H1 fun x H2=>ty σ H2 fun y H3=>∃ a H4,x=.ref a/\CH H3 a y v H4/\D.nx σ H4
section
variable{o i:Expr}{pos':Pos}{ty:TE}
theorem Az(hu:X.A.units+1<cLine)(ho:PE X o td)(hi:PE X i ty)(hs:agG i):PE X (.Subscript o i pos) (aiL td ty):=by
 exists 5
 refine acN PySem.F.slot_dict_getitem.lookup hs (bP (ho pins s σ H _ I h) fun u s1 ⟨x,H1,I1,rx,q1⟩=>bP (hi pins s1 σ H1 _ I1 q1) fun iv s2 ⟨y,H2,I2,ry,a,v,ex,g,q2⟩=>?_)
 subst ex
 obtain rfl:u=Yw a:=rx
 exact⟨J0 I2 g,RH hu I2 g ry fun w' s3 I3 FL=>⟨v,H2,I3,FL,q2⟩⟩
theorem ae9(hu:X.A.units+1<cLine)(hi:PE X i ty)(ho:PE X o td):PC X .In i o (amQ ty td):=by
 exists 5
 refine bP (hi pins s σ H _ I h) fun iv s1 ⟨y,H1,I1,ry,q1⟩=>bP (ho pins s1 σ H1 _ I1 q1) fun u s2 ⟨x,H2,I2,rx,a,ov,ex,g,q2⟩=>?_
 subst ex
 obtain rfl:u=Yw a:=rx
 exact aj7 hu I2 g ry fun s3 I3=>⟨.bl ov.isSome,H2,I3,rfl,q2⟩
theorem Bo(hu:X.A.units+1<cLine)(hi:PE X i ty)(ho:PE X o td):PC X .NotIn i o (acO ty td):=by
 exists 5
 refine bP (hi pins s σ H _ I h) fun iv s1 ⟨y,H1,I1,ry,q1⟩=>bP (ho pins s1 σ H1 _ I1 q1) fun u s2 ⟨x,H2,I2,rx,a,ov,ex,g,q2⟩=>?_
 subst ex
 obtain rfl:u=Yw a:=rx
 exact abu hu I2 g ry fun s3 I3=>⟨.bl (!ov.isSome),H2,I3,rfl,q2⟩
theorem AB(hu:X.A.units+1<cLine)(ho:PE X o td)(hi:PE X i ty)(hv:PE X value tv)(hs:WW value (some (.Subscript o i pos')) pos.line X.env=pure false):
  PS X (.Assign [.Subscript o i pos'] value pos) (aiF td ty tv):=by
 exists 27
 refine wpAny_Assign_Subscript (bP (hv pins s σ H _ I h) fun r s1 ⟨v,H1,I1,rv,q1⟩=>bP (ho pins s1 σ H1 _ I1 q1) fun u s2 ⟨x,H2,I2,rx,q2⟩=>bP (hi pins s2 σ H2 _ I2 q2) fun iv s3 ⟨y,H3,I3,ry,a,H4,ex,g,q3⟩=>?_) hs
 subst ex
 obtain rfl:u=Yw a:=rx
 exact RI hu I3 g ry rv fun s4 I4=>⟨σ,H4,I4,q3⟩
end
theorem J1(h:Heap)(hb:WX<h.objs.size):bA P w H (h.push { cls:=.type "dict",data:=.dict #[] }) h.objs.size (.dK []):=
 ⟨je _,beq_eq_false_iff_ne.mpr (Ne.symm (jM hb)),[],.nil,GG h⟩
theorem Tz(h:Heap)(hb:WX<h.objs.size):bA P w H (h.push { cls:=.type "dict",data:=.dict #[] }) h.objs.size (.dT []):=
 ⟨je _,beq_eq_false_iff_ne.mpr (Ne.symm (jM hb)),[],.nil,_,#[],0,jH _ rfl,⟨rfl,rfl,rfl⟩,rfl,rfl,Jx⟩
def afE:TE:=fun _ H Q=>∀ p,H p=none->Q (.ref p) (upd H p (.dK []))
section
theorem sI:PE X (.Dict [] [] pos) afE:=fun pins s σ H Q I h =>
 wpAny_Dict_empty ⟨.ref s.heap.objs.size,_,I.laid (a:=s.heap.objs.size) (o:=.dK []) (t' := s.toks) (fun _ _ q=>jA _ q) (jF _) (J1 s.heap I.big),rfl,h _ #[56]⟩
end
def Ig:List (TE×TE)->St->Hp->(List (V×V)->Hp->Prop)->Prop
 | [],_,H,Q=>Q [] H
 | (tk,tv) :: r,σ,H,Q=>tk σ H fun x H1=>tv σ H1 fun y H2=>Ig r σ H2 fun ps H3=>Q ((x,y) :: ps) H3
abbrev VV:List (V×V)->List (Value×Value)->Prop:=qP fun p q=>RelV p.1 q.1/\RelV p.2 q.2
def PPs(X:Cx)(pos:Pos)(keys:List (Option Expr))(values:List Expr)(Rq:List (TE×TE)):Prop:=
 ∀ (pins:List #[58]) (s:qV) (σ:St) (H:Hp) (Q:List (V×V)->Hp->Prop),Inv X pins σ H s->Ig Rq σ H Q ->
  wpAny #[4] X.A (evalPairs (pairTrees keys values X.env pos)) (fun vs s'=>∃ ps H',Inv X pins σ H' s'/\VV ps vs/\Q ps H') X.xe s
theorem HR:PPs X pos [] [] []:=fun pins s σ H Q I h=>pairTrees_nil_walk ⟨[],H,I,.nil,h⟩
theorem DN{k v:Expr}{ks:List (Option Expr)}{tk:TE}{Rq:List (TE×TE)}(hk:PE X k tk)(hv:PE X v tv)(hr:PPs X pos ks vs Rq):
  PPs X pos (some k :: ks) (v :: vs) ((tk,tv) :: Rq):=fun pins s σ H Q I h =>
 pairTrees_cons_walk (bP (hk pins s σ H _ I h) fun u s1 ⟨x,H1,I1,rx,q1⟩=>bP (hv pins s1 σ H1 _ I1 q1) fun w2 s2 ⟨y,H2,I2,ry,q2⟩ =>
  bP (hr pins s2 σ H2 _ I2 q2) fun ws s3 ⟨ps,H3,I3,rel,q3⟩=>⟨(x,y) :: ps,H3,I3,.cons ⟨rx,ry⟩ rel,q3⟩)
def dN(kvs more:List (Key×V)):List (Key×V):=more.foldl (fun acc kv=>putK acc kv.1 kv.2) kvs
theorem KV.merge:∀ {more:List (Key×V)} {rs:List (Key×Value)} {kvs:List (Key×V)} {vs:List (Key×Value)},KV more rs->KV kvs vs->KV (dN kvs more) (merged vs rs):=by
 intro more rs kvs vs r
 unfold KV at r
 induction r generalizing kvs vs with
 | nil=>intro q;exact q
 | @cons p q ps qs h t ih =>
  intro r0
  have e:KV (putK kvs p.1 p.2) (stored vs q.1 q.2):=by
   have:=r0.put p.1 h.2
   rw[<- h.1];exact this
  exact ih e
theorem oy:∀ (more kvs:List (Key×V)),(dN kvs more).length<=kvs.length+more.length
 | [],kvs=>by show kvs.length<=kvs.length+0;omega
 | p :: r,kvs=>by
  have h1:=oy r (putK kvs p.1 p.2)
  have h2:=iR kvs p.1 p.2
  show(dN (putK kvs p.1 p.2) r).length<=_
  rw[jc];omega
theorem C8{P:qR}{w:World}:∀ {kvs:List (Key×V)} {ws:List (Value×Value)},VV (kvs.map fun kv=>(kV kv.1,kv.2)) ws->∃ rs,Carries (bq P w) ws rs/\KV kvs rs
 | [],_,r=>by rw[Zb]at r;cases r;exact⟨[],True.intro,.nil⟩
 | p :: kvs,_,r=>by
  rw[JJ]at r
  cases r with
  | @cons a b as bs h t =>
   obtain⟨rs,c,q⟩:=C8 (P:=P) (w:=w) t
   obtain⟨b1,b2⟩:=b
   exact⟨(p.1,b2) :: rs,⟨sk h.1,rfl,c⟩,.cons ⟨rfl,h.2⟩ q⟩
def aiN(Rq:List (TE×TE)):TE:=fun σ H Q=>∀ p,H p=none->Ig Rq σ (upd H p (.dK [])) fun ps H2=>H2 p=some (.dK [])/\∃ kvs:List (Key×V),ps=kvs.map (fun kv=>(kV kv.1,kv.2))/\kvs.length<=15/\Q (.ref p) (upd H2 p (.dK (dN [] kvs)))
theorem P6{keys:List (Option Expr)}{Rq:List (TE×TE)}(h:PPs X pos keys values Rq)(hZ:keys.all (·.isSome)=true)(hl:keys.length=values.length)(h0:keys≠[])(h15:keys.length<=15):PE X (.Dict keys values pos) (aiN Rq):=by
 intro pins s σ H Q I q
 have hn:=I.hok.fresh (jF s.heap.objs.size)
 have I1:=I.laid (a:=s.heap.objs.size) (o:=.dK []) (h' := s.heap.push { cls:=.type "dict",data:=.dict #[] }) (t' := s.toks) (fun _ _ q=>jA _ q) (jF _) (J1 s.heap I.big)
 refine wpAny_Dict_walk (knd:=bq X.prog X.w) hZ hl h0 h15 (bP (h pins _ σ _ _ I1 (q _ hn)) fun ws s2 ⟨ps,H2,I2,rel,e,kvs,ep,lk,q2⟩=>?_)
 subst ep
 obtain⟨rs,c,rk⟩:=C8 (P:=X.prog) (w:=X.w) rel
 obtain⟨z,hd,vs0,r0,dd⟩:=Pl I2.hok e
 cases r0
 refine⟨rs,c,dd,fun h' MK hs=>⟨.ref s.heap.objs.size,_,?_,rfl,q2⟩⟩
 have hz:(dN [] kvs).length<=sizeLine:=by
  have h1:=oy kvs []
  rw[Jn]at h1
  rw[WT];omega
 have he:∃ q,h'.get? s.heap.objs.size=some q:=let ⟨q,_,_,hq,_⟩:=MK;⟨q,hq⟩
 exact tw I2 (by rw[e];exact True.intro) hs he (Df hz hd (rk.merge .nil) MK)
structure M1(X:Cx)(o:Expr)(m:qW)(apos:Pos)(e:Expr)(cN:Pos):Prop where
 base:attributeBase o m X.env (eval o X.env)=eval o X.env
 Hr:((backTo cN (WU [e] X.env)).all (fun x=>!x.1)&&(backToKw cN (keywordEach [] X.env)).all (fun x=>x.1.isSome)
  && decide (([e]:List Expr).length+([]:List qN).length+(if ([]:List qN).isEmpty then 0 else 1)<30))=true
 line:(apos.endLine==cN.line)=true
 trees:backTo cN (WU [e] X.env)=[#[21]]
structure M2(X:Cx)(o:Expr)(m:qW)(apos:Pos)(e f:Expr)(cN:Pos):Prop where
 base:attributeBase o m X.env (eval o X.env)=eval o X.env
 Hr:((backTo cN (WU [e,f] X.env)).all (fun x=>!x.1)&&(backToKw cN (keywordEach [] X.env)).all (fun x=>x.1.isSome)
  && decide (([e,f]:List Expr).length+([]:List qN).length+(if ([]:List qN).isEmpty then 0 else 1)<30))=true
 line:(apos.endLine==cN.line)=true
 trees:backTo cN (WU [e,f] X.env)=[#[21],(false,eval f X.env)]
def IsD(H:Hp)(a:Qu):Prop:=(∃ kvs,Rd H a (.dK kvs))\/∃ kvs,Rd H a (.dT kvs)
theorem HA(I:Inv X pins σ H s)(d:IsD H a):
  s.TypeIs (.ref a) "dict" /\ (∀ b,Yw a=.ref b->∃ ob,s.heap.get? b=some ob/\ob.dict=none)/\(a==WX)=false:=by
 rcases d with⟨kvs,e⟩|⟨kvs,e⟩
 ·obtain⟨_,hd,vs,_,dd⟩:=Aj I.hok e
  refine⟨dd.typeIs,fun b q=>?_,hd⟩
  cases q
  obtain⟨ob,_,_,h1,h2,_⟩:=dd
  exact⟨ob,h1,h2.2.1⟩
 ·obtain⟨_,hd,xs,_,dd⟩:=BL I.hok e
  refine⟨dd.typeIs,fun b q=>?_,hd⟩
  cases q
  obtain⟨ob,_,_,h1,h2,_⟩:=dd
  exact⟨ob,h1,h2.2.1⟩
section
theorem adR(hu:A.units+1<cLine)(I:Inv X pins σ H s)(g:fH H a y o)(ry:RelV y u)(h:∀ w' s',Inv X pins σ H s'->RelV (o.getD .non) w'->Q w' s'):
  wpAny #[4] A (call (.builtin "dict.get") [.ref a,u]) Q E s:=by
 exists 25
 ·subst ey
  obtain⟨z,hd,vs,rel,dd⟩:=Aj I.hok e
  refine qp yZ dd.typeIs yq (Xo _ _) (meets_dict_get (bq X.prog X.w) a (sk ry) hd) ⟨_,dd.mapOf,h _ _ (I.tok _) ?_⟩
  rw[l]
  exact(rel.val k).getD rfl
 ·subst ey
  cases(show u=Yw b from ry)
  obtain⟨z,hd,xs,rel,dd⟩:=BL I.hok e
  refine qp yZ dd.typeIs yq (Xo _ _) (meetsH_dict_get (WZ (bq X.prog X.w)) a b hd) ⟨Wa hu,k,xs,pP I.hok eb,dd,h _ _ (I.tok _) ?_⟩
  rw[l]
  exact(rel.val k).getD rfl
theorem adS(hu:A.units+1<cLine)(I:Inv X pins σ H s)(g:fH H a y o)(ry:RelV y u)(rd:RelV d r)(h:∀ w' s',Inv X pins σ H s'->RelV (o.getD d) w'->Q w' s'):
  wpAny #[4] A (call (.builtin "dict.get") [.ref a,u,r]) Q E s:=by
 exists 25
 ·subst ey
  obtain⟨z,hd,vs,rel,dd⟩:=Aj I.hok e
  refine qp yZ dd.typeIs yq (Xp _ _ _) (meets_dict_get_default (bq X.prog X.w) a (sk ry) hd r) ⟨_,dd.mapOf,h _ _ (I.tok _) ?_⟩
  rw[l]
  exact(rel.val k).getD rd
 ·subst ey
  cases(show u=Yw b from ry)
  obtain⟨z,hd,xs,rel,dd⟩:=BL I.hok e
  refine qp yZ dd.typeIs yq (Xp _ _ _) (meetsH_dict_get_default (WZ (bq X.prog X.w)) a b hd r) ⟨Wa hu,k,xs,pP I.hok eb,dd,h _ _ (I.tok _) ?_⟩
  rw[l]
  exact(rel.val k).getD rd
end
def afC(td ty:TE):TE:=fun σ H Q=>td σ H fun x H1=>∃ a,x=.ref a/\IsD H1 a/\ty σ H1 fun y H2=>∃ o,fH H2 a y o/\Q (o.getD .non) H2
def afD(td ty tx:TE):TE:=fun σ H Q=>td σ H fun x H1=>∃ a,x=.ref a/\IsD H1 a/\ty σ H1 fun y H2=>tx σ H2 fun z H3=>∃ o,fH H3 a y o/\Q (o.getD z) H3
def afF(td ty:TE):TE:=fun σ H Q=>td σ H fun x H1=>∃ a,x=.ref a/\IsD H1 a/\ty σ H1 fun y H2=>∃ kvs k v,H2 a=some (.dK kvs)/\y=kV k/\eC kvs k=some v/\Q v (upd H2 a (.dK (Dg kvs k)))
section
variable{o f:Expr}{apos cN:Pos}{ty tx:TE}
theorem aag(hu:X.A.units+1<cLine)(ho:PE X o td)(he:PE X e ty)(m:M1 X o "get" apos e cN):PE X (.Call (.Attribute o "get" apos) [e] [] cN) (afC td ty):=by
 exists 5
 refine We m.base m.Hr m.line yd yZ xB #[52]
 subst ex
 obtain rfl:u=Yw a:=rx
 obtain⟨t1,t2,_⟩:=HA I1 d
 exists t1,t2
 rw[m.trees]
 refine yW rfl (yk (yP (bP (he pins s1 σ H1 _ I1 q1) fun iv s2 ⟨y,H2,I2,ry,ov,g,q2⟩=>yc ?_)))
 exact adR hu I2 g ry fun w' s3 I3 FL=>⟨_,H2,I3,FL,q2⟩
theorem aah(hu:X.A.units+1<cLine)(ho:PE X o td)(he:PE X e ty)(hf:PE X f tx)(m:M2 X o "get" apos e f cN):PE X (.Call (.Attribute o "get" apos) [e,f] [] cN) (afD td ty tx):=by
 exists 5
 refine We m.base m.Hr m.line yd yZ xB #[52]
 subst ex
 obtain rfl:u=Yw a:=rx
 obtain⟨t1,t2,_⟩:=HA I1 d
 exists t1,t2
 rw[m.trees]
 refine yW rfl (yk (yP (bP (he pins s1 σ H1 _ I1 q1) fun iv s2 ⟨y,H2,I2,ry,q2⟩ =>
  yP (bP (hf pins s2 σ H2 _ I2 q2) fun fv s3 ⟨z,H3,I3,rz,ov,g,q3⟩=>yc ?_))))
 exact adS hu I3 g ry rz fun w' s4 I4 FL=>⟨_,H3,I4,FL,q3⟩
theorem LC(ho:PE X o td)(he:PE X e ty)(m:M1 X o "pop" apos e cN):PE X (.Call (.Attribute o "pop" apos) [e] [] cN) (afF td ty):=by
 exists 5
 refine We m.base m.Hr m.line yd xA PySem.F.type_dict_pop #[52]
 subst ex
 obtain rfl:u=Yw a:=rx
 obtain⟨t1,t2,_⟩:=HA I1 d
 exists t1,t2
 rw[m.trees]
 refine yW rfl (yk (yP (bP (he pins s1 σ H1 _ I1 q1) fun iv s2 ⟨y,H2,I2,ry,kvs,k,v,ea,ey,l,q2⟩=>yc ?_)))
 subst ey
 exact agX I2 ea ry l (.inl rfl) fun w' s3 I3 FL=>⟨v,_,I3,FL,q2⟩
end
section
variable[DecidableEq κ]
theorem Av:∀ {l:List κ} {k:κ},l.Nodup->¬ k∈l->(l++[k]).Nodup
 | [],k,_,_=>by simp
 | a :: r,k,h,hk=>by
  obtain⟨h1,h2⟩:=JE.mp h
  show(a :: (r++[k])).Nodup
  refine JE.mpr ⟨fun m=>?_,Av h2 fun m=>hk (jS.mpr (Or.inr m))⟩
  rcases zB.mp m with q|q
  ·exact h1 q
  ·exact hk (jS.mpr (Or.inl (jJ.mp q).symm))
end
end L2
namespace PySem
open Sem (wp)
open Builtin
end PySem
namespace L2
open PySem PySem.Spec PyProof.Rows
variable{X:Cx}{a f:Qu}{b:List Stmt}{e:Expr}{es:List Expr}{te:TE}{pos p:Pos}{st:Stmt}{P:qR}{w:World}{H:Hp}{h B base:Heap}{K:Yv}{mg:qW→Option Value}{ps:List qW}{qual x:qW}{scope:Scope}{cd:Value}{A:Around}{outer:List qF}{s:qV}{j n:Nat}{hX:List V}{sp:Sp}
structure PEW(X:Cx)(e:Expr)(t:TE):Prop where
 out:PE X e t
structure PAW(X:Cx)(es:List Expr)(t:TA):Prop where
 out:PA X es t
structure B1(X:Cx)(s:Stmt)(t:TS):Prop where
 out:PS X s t
structure abl(X:Cx)(s:List Stmt)(t:TS):Prop where
 out:G2 X s t
section
variable{b:Expr}{t:TA}
theorem afP:PAW X [] acP:=⟨af⟩
theorem Ik(ha:PEW X e te)(hr:PAW X es t)(hs:WU (e :: es) X.env=#[21] :: WU es X.env:=by rfl):PAW X (e :: es) (adu te t):=⟨aa ha.out hr.out hs⟩
theorem ai4{x1}(h:PAW X es t):PEW X (.Tuple es x1 pos) (aiX t):=⟨fh h.out⟩
variable{rest:List Stmt}{ts us:TS}
theorem cE(h1:B1 X st ts)(h2:abl X rest us):abl X (st :: rest) (OM ts us):=⟨ah h1.out h2.out⟩
theorem OY(h1:B1 X st ts):abl X [st] ts:=⟨ao h1.out⟩
theorem ai3(he:PEW X e te):B1 X (.Return (some e) pos) (aiU te):=⟨aL he.out⟩
theorem Mu{b:List Stmt}{R:TS->Prop}(h:abl X b ts)(r:R ts):∃ t,G2 X b t/\R t:=⟨ts,h.out,r⟩
end
theorem bA.ex:∀ {o:HO},bA P w H h a o->∃ ob,h.get? a=some ob
 | .lst _,⟨_,_,_,_,e⟩=>⟨_,e⟩
 | .tup _,⟨_,_,_,o,e,_⟩=>⟨o,e⟩
 | .dK _,⟨_,_,_,_,o,_,_,e,_⟩=>⟨o,e⟩
 | .dT _,⟨_,_,_,_,o,_,_,e,_,_,_,_⟩=>⟨o,e⟩
 | .set _ _,⟨o,_,_,_,e,_⟩=>⟨o,e⟩
 | .ins _ _ _,⟨_,_,_,e,_⟩=>⟨_,e⟩
 | .own _,⟨o,e⟩=>⟨o,e⟩
 | .xd _,⟨_,⟨o,_,_,e,_⟩,_⟩=>⟨o,e⟩
 | .rng _ _,⟨_,_,_,e⟩=>⟨_,e⟩
 | .pB _ _,⟨e,_⟩=>⟨_,e⟩
 | .tbl _,e=>⟨_,e⟩
 | .met _ _,e=>⟨_,e⟩
 | .ext _,⟨_,⟨o,e⟩,_⟩=>⟨o,e⟩
theorem ik.none(x:ik P w H h)(e:h.get? a=none):H a=none:=by
 cases q:H a with
 | none=>rfl
 | some o =>
  obtain⟨ob,e'⟩:=(x a o q).ex
  rw[e]at e'
  cases e'
theorem ik.less(x:ik P w H h)(k:∀ b u,(∃ o,H b=some o)->h.get? b=some u->B.get? b=some u):ik P w H B:=fun a o e =>
 (x a o e).AK (fun b u hb q=>k b u (by
  rcases hb with z|z
  ·rw[z];exact⟨o,e⟩
  ·exact⟨_,z⟩) q) (fun _ z=>z) fun _ _ z=>z
theorem Un.fly{fs:List Qu}{H1:Hp}{h1 h2:Heap}(u:Un fs [] H H1 h h1)(stays:B.StaysIn h2)(inB:∀ b o o1,h.get? b=some o->h1.get? b=some o1->b∉fs->B.get? b=some o1)(frame:∀ b o,b∈fs->h1.get? b=some o->∃ sl,h2.get? b=some { o with slots:=sl }):Un fs [] H H1 h h2 where
 keep:=fun b o q n hb hx=>stays b o (inB b o o q (u.keep b o q n hb hx) hb)
 slot:=fun b o q n hb hx=>by
  obtain⟨sl,e⟩:=u.slot b o q n hb hx
  obtain⟨sl',e'⟩:=frame b _ hb e
  exact⟨sl',e'⟩
 free:=u.free
 there:=fun b o q hx=>by
  obtain⟨o',e⟩:=u.there b o q hx
  by_cases hb:b∈fs
  ·obtain⟨sl,e'⟩:=frame b _ hb e
   exact⟨_,e'⟩
  ·exact⟨o',stays b o' (inB b o o' q e hb)⟩
 tups:=u.tups
 frzs:=u.frzs
 tbls:=u.tbls
section
theorem sH(b:Qu):b∈Cb (envOfC qual scope s.heap.objs.size f cd :: outer)↔b=s.heap.objs.size\/b∈Cb outer:=by
 unfold Cb
 rw[JY]
 show b∈(s.heap.objs.size :: _)↔_
 rw[jS]
end
abbrev VEm:List Value:=[.type "ValueError",.type "Exception",.type "BaseException",.type "object"]
section
variable{k:Nat}{t:TA}
theorem aiu(G:bO X.prog X.w X.K X.mg X.base x k ps hX sp)(hr:cV j X.A)(ha:PA X (e :: es) t)(K0:k<=j:=by decide)(hg:Gl X x:=by rfl)(Bk:#[19]=false:=by decide)(he:WU (e :: es) X.env=#[21] :: WU es X.env:=by rfl)(rJ:#[29].any (·.1)=false:=by rfl):
  PE X #[27] (Mc sp hX E0 t):=by
 obtain⟨f,fd,ds,hm,hk,hd,hb,F⟩:=G.ex
 exact HM F (hr.mono K0) hg hm hk hb hd (fun _ _ _ _ _ _ _ h=>h.elim) ha Bk he rJ
end
section
variable{v1 v2:Expr}{rest:List Expr}
abbrev TF:=St->Hp->(qW->Hp->Prop)->Prop
def PF(X:Cx)(e:Expr)(t:TF):Prop := ∀ (pins:List #[58]) (s:qV) (σ:St) (H:Hp) (Q:qW->Hp->Prop),Inv X pins σ H s->t σ H Q ->
 wpAny #[4] X.A (eval e X.env) (fun u s'=>∃ x tk H',u=.str x tk/\Inv X pins σ H' s'/\x.length<=1000/\Q x H') X.xe s
theorem afg{k:Nat}(hx:x.length<=1000:=by decide):PF X (.Constant (.str x) k pos) (fun _ H Q=>Q x H):=fun pins s σ H Q I q =>
 xT (show _ from⟨x,_,H,rfl,I.tok _,hx,q⟩)
def amS(te:TE):TF:=fun σ H Q=>te σ H fun v H1=>(∃ x,v=.str x/\x.length<=1000/\Q x H1)\/∃ i:Int,v=.int i/\i.natAbs.log2<1920/\(Str.ofString (toString i)).length<=1000/\Q (Str.ofString (toString i)) H1
theorem aff(he:PE X e te):PF X (.FormattedValue e (-1) none pos) (amS te):=by
 exists 5
 refine FormattedValue_plain (bP #[63] fun u s1 ⟨v,H1,I1,r,q⟩=>?_)
 rcases q with⟨x,rfl,hx,q⟩|⟨i,rfl,hd,hx,q⟩
 ·obtain⟨tk,rfl⟩:=(show ∃ t,u=XM x t from r)
  exact formatField_str (fun t' tk'=>⟨x,t',H1,rfl,I1.tok _,hx,q⟩) (ji hx #[8])
 ·obtain⟨tk,rfl⟩:=(show ∃ t,u=yI i t from r)
  exact formatField_int_small hd ⟨_,_,H1,rfl,I1.tok _,hx,q⟩
def PFs(X:Cx)(n:Nat)(es:List Expr)(t:TF):Prop := ∀ (pins:List #[58]) (s:qV) (σ:St) (H:Hp) (Q:qW->Hp->Prop) (out:qW),out.length<=n->Inv X pins σ H s->t σ H Q ->
 wpAny #[4] X.A (joinParts out (evalEach es X.env)) (fun u s'=>∃ x tk H',u=.str x tk/\Inv X pins σ H' s'/\Q x H') X.xe s
def aiQ:TF:=fun _ H Q=>∀ x,Q x H
def afH(t1 t2:TF):TF:=fun σ H Q=>t1 σ H fun _ H1=>t2 σ H1 Q
theorem acr(hn:n<=sizeLine:=by decide):PFs X n [] aiQ:=fun pins s σ H Q out ho I h=>joinParts_nil ⟨out,_,H,rfl,I.tok _,h out⟩ (ji ho hn)
theorem LD{t1 t2:TF}(h1:PF X e t1)(h2:PFs X (n+1000) es t2)(hn:n+1000<=sizeLine:=by decide):PFs X n (e :: es) (afH t1 t2):=by
 intro pins s σ H Q out ho I h
 refine joinParts_cons (bP (h1 pins s σ H _ I h) fun u s1 ⟨x,tk,H1,hu,I1,hx,q⟩=>?_)
 subst hu
 have hl:(out++x).length<=n+1000:=by rw[strLen_append];omega
 exact⟨ji hl hn,h2 pins s1 σ H1 Q (out++x) hl I1 q⟩
def aiR(t:TF):TE:=fun σ H Q=>t σ H fun x H1=>Q (.str x) H1
theorem aco{t:TF}(h:PFs X 0 (v1 :: v2 :: rest) t):PE X (.JoinedStr (v1 :: v2 :: rest) pos) (aiR t):=by
 intro pins s σ H Q I q
 exact JoinedStr_many (bP (h pins s σ H _ Str.empty #[8] I q) fun u s1 ⟨x,tk,H1,hu,I1,q1⟩=>⟨.str x,H1,I1,⟨tk,hu⟩,q1⟩)
end
end L2
namespace L2
open PySem PySem.Spec PySem.W PySem.Builtin PySem.Builtin.Getset_descriptor
variable{prog:qR}{w:World}{A:Around}{E:Value→qV→Prop}{s:qV}{K:Yv}{ob:Obj}{h hh:Heap}{tp ade:Value}{R:Result→qV→Prop}{Q:Option Value→qV→Prop}
structure CW(K:Yv)(C:Qu):Prop where
 ga:findIn K #[30] "__getattribute__" = some (some (.builtin "BaseException.__getattribute__"))
 gt:findIn K #[30] "__getattr__" = some none
 cl:findIn K #[30] "__class__" = some (some #[32])
 gg:specialIn K #[32] "__get__" = some (some #[38])
 tk:takesIn K #[32]=some true
 ob:mroIn K C (.type "object")=some true
 be:mroIn K C (.type "BaseException")=some true
 ci:(clsIn K C).isSome=true
section
variable{ea C:Qu}
theorem TM{M:Model}(c:CW K C)(X:K.In h):Looks M h (Xq (.ref ea) #[30] "__class__") (.bind #[38] #[32]):=by
 have l1:=looks_findIn (M:=M) X c.cl
 have l2:Looks M h (Gw (some #[32])) (some #[38]):=looks_specialIn (M:=M) X c.gg
 have l3:=looks_takesIn (M:=M) X c.tk
 have l4:Looks M h (xn (some #[32]) (some #[38])) (some (.builtin "getset_descriptor.__get__",.builtin "object.__class__")):=l3.andThen .now
 unfold Xq
 exact l1.andThen (l2.andThen (l4.andThen (Looks.tag .now)))
theorem abx(X:K.In s.heap)(LT:Looks #[6] s.heap (typeOf (.ref ea)) #[30])(hm:mroIn K C (.type "object")=some true)(q:R (.ok (.ret #[30])) s):
  codeAny #[6] A (.call #[38] ⟨[.builtin "object.__class__",.ref ea,tp],[]⟩) R s:=by
 have LM:=WL (M:=model prog w) X hm
 obtain⟨hp,gs,dr,tk,os⟩:=s
 dsimp only at LT LM
 refine qw KF.slot_gs.plain KF.entry_gs (KF.slot_gs.check _ _ _ _ _ _ _ _ KF.type_class (KF.args_gs _ _ _) ?_)
 unfold Builtin.«getset_descriptor.__get__» descrGet;rw[dga_obj]
 refine Wj (YX ?_);unfold descrGetter descrCheckInstance descrNameAndClass isInstance
 simp only[KF.owner_class];repeat lk
 refine⟨Code.quiet_builtin _ #[3],qv KF.entry_class ?_⟩;unfold Builtin.«object.__class__» shownTypeOf
 repeat lk
 exact q
theorem Fb{M:Model}{g:Array qH}{d:qD}{t:Nat}{os:OsState}{Q:Unit->qV->Prop}(LB:Looks M hh (isInstance (.ref ea) (.type "BaseException")) true)(hq:Q () ⟨hh,g,d,t,os⟩):
  wpAny M A (checkBuiltinCall "BaseException.__getattribute__" ⟨[.ref ea,ade],[]⟩) Q E ⟨hh,g,d,t,os⟩:=by
 have hk:builtinKind "BaseException.__getattribute__" = some .slot:=by decide +kernel
 have V9:splitId "BaseException.__getattribute__" = some ("BaseException","__getattribute__"):=by decide +kernel
 have ha:=xI (.ref ea) ade
 simp only[checkBuiltinCall,hk,V9]
 refine Wj (LB.at ?_)
 simp only[zt,jf,if_false]
 exists 17
theorem RK(c:CW K C)(X:K.In s.heap)(LT:∀ M:Model,Looks M s.heap (typeOf (.ref ea)) #[30])(h:Q (some #[30]) { s with toks:=s.toks+1 }):
  wpAny #[6] A (getAttr? (.ref ea) "__class__") Q E s:=by
 obtain⟨hh,g,d,t,os⟩:=s
 have L0:=LT #[6]
 have L1:=looks_findIn (M:=model prog w) X c.ga
 have L2:=looks_findIn (M:=model prog w) X c.gt
 have LF:=TM (M:=model prog w) (ea:=ea) c X
 have LB:Looks #[6] hh (isInstance (.ref ea) (.type "BaseException")) true:=L0.andThen (WL (M:=model prog w) X c.be)
 unfold getAttr? getAttrBy? getAttrBy
 refine Wj (wpAny_mkText (Wj (Wi (YC (Wj (L0.at (Wj (L1.at ?_))))))))
 have ne:(onTheHeap (Yw C)&&yS "BaseException.__getattribute__" == yS "object.__getattribute__")=false:=by
  have:(yS "BaseException.__getattribute__" == yS "object.__getattribute__")=false:=by decide +kernel
  rw[this];rfl
 dsimp only
 rw[ne]
 simp only[jf,if_false]
 unfold getAttrByItsOwn hookBefore
 rw[if_pos (show onTheHeap (Yw C)=true from rfl)]
 refine Wj (L2.at ?_)
 refine Wj (Wi (YC ?_))
 unfold callGetattribute
 simp only[Qe,jf,if_false]
 unfold boundAndCalled
 rw[PySem.F.attrBase_ValueError.ga.bind (.ref ea)]
 refine Wj (YX ?_)
 have hk:builtinKind "BaseException.__getattribute__" = some .slot:=by decide +kernel
 have V9:splitId "BaseException.__getattribute__" = some ("BaseException","__getattribute__"):=by decide +kernel
 have ha:=xI (.ref ea) (.str "__class__" t)
 refine Wk (qw PySem.F.attrBase_ValueError.ga.plain xC ?_)
 refine Fb LB ?_
 unfold Builtin.«object.__getattribute__»
 refine Wj (YX ?_)
 dsimp only
 refine Wj ?_
 refine(show wpAny _ _ (pure _) _ _ _ from YX ?_)
 refine Wj (L0.at ?_)
 refine Wj (LF.at ?_)
 dsimp only
 show wpAny _ _ (holding [yS "object.__class__"] (call #[38] [.builtin "object.__class__",.ref ea,.ref C])>>=ret) _ _ _
 refine Wj (YC (Wk (abx (s:=⟨hh,g,d,t+1,os⟩) X L0 c.ob ?_)))
 refine YX ?_
 exact handed_on rfl (YX h)
def abh(ea C:Qu)(h:Heap):Prop := ∃ ob vs,h.get? ea=some ob/\ob.cls=.ref C/\ob.data=.fields vs
theorem abh.ty{M:Model}(p:abh ea C h):Looks M h (typeOf (.ref ea)) #[30]:=by
 obtain⟨ob,vs,e,c,_⟩:=p
 exact c ▸ (Looks.ld e).andThen .now
theorem W9(c:CW K C):KitX K (.ref ea) #[30] (abh ea C) where
 ty:=fun M h _ p=>p.ty
 it:=fun M h X _=>by
  obtain⟨cd,e⟩:=Jm.mp c.ci
  unfold clsIn at e
  split at e
  ·rename_i ho
   intro A' Q' E' s' k q
   unfold isType loadHead;exact Wj (YM (k _ _ (X _ _ ho)) (YX q))
  ·cases e
 ne:=fun h tp dd aV n sl X htp=>by
  obtain⟨cd,e⟩:=Jm.mp c.ci
  refine Bool.eq_false_iff.mpr fun q=>?_
  cases(show C=tp from GP (beq_iff_eq.mp q))
  unfold clsIn at e
  split at e
  ·rename_i ho;cases(X _ _ ho).symm.trans htp
  ·cases e
 ca:=fun X p k=>RK c X (fun M=>p.ty) k
end
end L2
namespace L2
open PySem PySem.Spec PyProof.Rows
variable{X:Cx}{pins:List (Qu×Obj)}{σ:St}{H H':Hp}{s:qV}{E EE Q:Value→qV→Prop}{ea C f it:Qu}{A:Around}{x qual:qW}{j i:Nat}{ps N:List qW}{hX vs xs:List V}{sp:Sp}{p pos:Pos}{e a elt iter cond tg:Expr}{es:List Expr}{P prog:qR}{w:World}{o:HO}{v c:V}{body:List Stmt}{st:Stmt}{h5 B base:Heap}{CX:Iv}{K:Yv}{mg:qW→Option Value}{scope:Scope}{cd dV:Value}{outer:List qF}{us:List Value}{params:Qw}{an od:Option Qu}{FF:Array (Option Value)}{fd:qG}{items acc:Array Value}{R:Result→qV→Prop}{ta:TA}{env:qF}{ix:List (Option Nat)}{fp:List Qu}{tc:TT}{te:TE}{wi:TI}{Qd:Qu→Hp→Prop}
abbrev Cx.held(X:Cx)(ea:Qu):Cx:={ X with A:=X.A.mark (some (.ref ea)),calm:=false,xe:=fun _ _=>False }
section
theorem Lh{v:Option Value}:(A.mark v).frames=A.frames:=by first|rfl|simp[Around.mark]
theorem Cx.Ok.held(ok:X.Ok):(X.held ea).Ok:=
 ⟨ok.mod,ok.kind,ok.glob,ok.blt,ok.above,ok.inj,ok.has,ok.cab,(fun z=>by cases z),Lh.trans ok.frames,ok.stk,ok.exf,ok.bs,ok.bsz,ok.noex,ok.exfs,ok.wz,ok.frf⟩
theorem Inv.held(I:Inv X pins σ H s):Inv (X.held ea) pins σ H s:=⟨I.ok.held,I.os,I.bare,I.base,I.loc,I.cell,I.free,I.freeC,I.pin,I.hok,I.len⟩
theorem Inv.afO(ok:X.Ok)(I:Inv (X.held ea) pins σ H s):Inv X pins σ H s:=⟨ok,I.os,I.bare,I.base,I.loc,I.cell,I.free,I.freeC,I.pin,I.hok,I.len⟩
abbrev TXE:=St->Hp->VK->XK->Prop
abbrev TX:=Ends->XK->St->Hp->Prop
end
section
variable{t:TA}{E:XK}
def afJ(sp:Sp)(hX:List V)(t:TA):TXE:=fun σ H Q E=>t σ H fun vs H1=>sp (vs++hX) H1 Q E
def afN(t:TXE):TX:=fun D E σ H=>t σ H (fun _ H1=>D.nx σ H1) E
def am3(c:TT)(t u:TX):TX:=fun D E σ H=>c σ H fun b H1=>if b=true then t D E σ H1 else u D E σ H1
end
section
variable{fs:List Qu}{H1:Hp}{h h1:Heap}
theorem Un.more(u:Un fs [] H H1 h h1)(n:h.get? ea=none)(z:H ea=none):Un fs [] H (upd H1 ea o) h h1 where
 keep:=u.keep
 slot:=u.slot
 free:=fun b ob q e hx=>by
  rw[aj (fun c=>by rw[c,n]at q;cases q)]
  exact u.free b ob q e hx
 there:=u.there
 tups:=fun b xs q=>by rw[aj (ar q z)];exact u.tups b xs q
 frzs:=fun b ob v q=>by rw[aj (ar q z)];exact u.frzs b ob v q
 tbls:=fun b ps q=>by rw[aj (ar q z)];exact u.tbls b ps q
end
section
theorem SV{M:Model}{v:V}{Q:Unit->qV->Prop}(I:Inv X pins σ H s)(hN:X.N.Nodup)(hi:X.N[i]?=some x)(hx:X.env.scope.names.lookup x=some .local)(h:∀ s',Inv X pins (σ.set i none) H s'->Q () s'):wpAny M A (do bindName X.env x .none;unbindBehindTheSuite X.env x pos) Q EE s:=by
 have aej:(X.env.scope.kind==.class||(X.env.scope.kind==.module&&X.env.locals != X.env.globals))=false:=by rw[I.ok.kind];rfl
 have U7:i<σ.length:=by rw[I.len];exact(jb.mp hi).1
 refine Wj (wpAny_bindName (AL I hN hi (.inl hx) (v:=.non) rfl (fun s1 I1=>?_) (.inr hx)))
 unfold unbindBehindTheSuite
 refine wpAny_onRaise ?_
 obtain⟨m,hn,hl⟩:=id I1.loc
 have hv:m x=some .none:=by
  obtain⟨u,ru,lk⟩:=hl i x .non hi (Jr U7) (.inl hx)
  cases(show u=yC from ru)
  rcases lk with⟨_,e⟩|⟨k,_⟩
  ·exact e
  ·have k0:X.env.kindOf x=some .local:=hx
   rw[k0]at k
   rcases k with k|k<;>cases k
 refine wpAny_unbindName_local hx hn hv aej fun h' u hn' hs=>h _ ?_
 have Ts:=I1.Ts
 obtain⟨oL,_,_,hoL,_⟩:=id hn
 refine⟨I1.ok,I1.os,I1.bare,⟨fun b o e n hb hz=>?_,fun b o e n hb hz=>?_,I1.base.free,fun b o e hz=>?_,I1.base.tups,I1.base.frzs,I1.base.tbls⟩,⟨_,hn',fun j y v' e1 e2 e3=>?_⟩,fun y c e=>?_,I1.free,I1.freeC,fun p hp=>?_,fun b ob e=>?_,?_⟩
 ·exact(hs.2 b (jM (jh (jI e) I1.ok.above))).trans (I1.base.keep b o e n hb hz)
 ·obtain⟨sl,f⟩:=I1.base.slot b o e n hb hz
  exact⟨sl,(hs.2 b (jM (jh (jI e) I1.ok.above))).trans f⟩
 ·obtain⟨o',f⟩:=I1.base.there b o e hz
  exact⟨o',(hs.2 b (jM (jh (jI e) I1.ok.above))).trans f⟩
 ·by_cases hj:j=i
  ·subst hj
   rw[Jr U7]at e2
   cases e2
  ·rw[Jw (Ne.symm hj)]at e2
   obtain⟨u',r',q⟩:=hl j y v' e1 (by rw[Jw (Ne.symm hj)];exact e2) e3
   exists u',r'
   rcases q with⟨k,e⟩|⟨k,c,e,z⟩
   ·refine .inl ⟨k,?_⟩
    have:y≠x:=fun e=>hj (DJ hN e1 (e ▸ hi))
    simp[this,e]
   ·exact .inr ⟨k,c,e,z.sameBut hs (Ts y c e)⟩
 ·obtain⟨w',z⟩:=I1.cell y c e
  exact⟨w',z.sameBut hs (Ts y c e)⟩
 ·obtain⟨e,n,ne,nf,d⟩:=I1.pin p hp
  exact⟨(hs.2 p.1 ne).trans e,n,ne,nf,d⟩
 ·refine(I1.hok b ob e).AK (fun c w' hc q=>(hs.2 c ?_).trans q) (fun _ q=>q) fun _ _ q=>q
  rintro rfl
  rcases hc with rfl|hc
  ·rw[I1.free]at e;cases e
  ·rw[I1.free]at hc;cases hc
 ·rw[ZA];exact I.len
end
section
variable{s':qV}
theorem land(I:Inv X pins σ H s)(os:s'.os=s.os)(bare:Qv s'.gens)(un:Un (Cb X.stack) [] H H' s.heap s'.heap)(hok:ik X.prog X.w H' B)(there:∀ b o,s.heap.get? b=some o->b∉Cb X.stack->∃ o',B.get? b=some o')(f0:B.StaysIn s'.heap)(f5:B.StaysIn h5)(sm:s'.heap.UpToSlots h5):Un (Cb X.stack) [] H H' s.heap h5/\ik X.prog X.w H' h5:=by
 have V5:ik X.prog X.w H' s'.heap:=hok.kept fun b u q=>f0 b u q
 have J:Inv X pins σ H' s' := I.C6 (ch:=[]) os un V5 bare (fun b z=>by cases z)
 refine⟨Un.fly un f5 (fun b o o1 q q1 hb=>?_) fun b o hb q=>?_,hok.kept fun b u q=>f5 b u q⟩
 ·obtain⟨o',e'⟩:=there b o q hb
  have:=f0 b o' e'
  rw[q1]at this
  cases this
  exact e'
 ·obtain⟨_,o',e',hd⟩:=J.stack.mem hb
  rw[q]at e'
  cases e'
  exact sm b o q hd
end
structure oK(k:Nat)(A:Around):Prop where
 dp:A.depth+3*k+5<recursionLimit
 un:A.units+16*k+200<cLine
theorem oK.mono{k:Nat}(r:oK k A)(h:j<=k):oK j A:=⟨by have:=r.dp;omega,by have:=r.un;omega⟩
theorem oK.deeper{k:Nat}(r:oK (k+1) A)(env:qF):oK k (A.deeper env):=
 ⟨by have:=r.dp;show A.depth+1+3*k+5<_;omega,by have:=r.un;show A.units+3+16*k+200<_;omega⟩
theorem oK.depth{k:Nat}(r:oK k A):A.depth<recursionLimit:=by have:=r.dp;omega
theorem cV.held{k:Nat}{v:Option Value}(r:cV k A):oK k (A.mark v):=
 ⟨by have:=r.dp;first|exact this|(simp only[Around.mark];exact this),by have:=r.un;first|exact this|(simp only[Around.mark];exact this)⟩
structure IA(P:qR)(w:World)(K:Yv)(mg:qW->Option Value)(base:Heap)(CX:Iv)(k:Nat)(f:Qu)(fd:qG)(ps:List qW)(sp:Sp):Prop where
 len:∀ vs H Q E,sp vs H Q E->vs.length=ps.length
 run:∀ (A:Around) (outer:List qF) (s:qV) (H:Hp) (args:Args) (us:List Value) (vs:List V) (Q:VK) (E:XK),oK k A->Ej P w K mg base A outer s H->Qx s fd args (ps.zip us)->Vals vs us->sp vs H Q E ->
  codeAny #[31] A (.call (.ref f) args) (CR CX outer P w H s Q E) s
abbrev IY(CX:Iv)(P:qR)(w:World)(K:Yv)(mg:qW->Option Value)(base:Heap)(N:List qW)(qual:qW)(scope:Scope)(f:Qu)(cd:Value)(A:Around)(outer:List qF)(s:qV)(H:Hp)(E:XK):Cx:=
 { Dd CX P w K mg base N qual scope f cd A outer s H E with calm:=false }
theorem MY{s1:qV}{E:XK}(S:aH N ps scope)(e0:Ej P w K mg base A outer s H)(hl:vs.length=ps.length)(r:Vals vs us)(x:InCallC s s.heap.objs.size (bindL #[16].kindOf (ps.zip us) fun _=>none) (cellsFrom #[23] scope.names []) (bindC #[16].kindOf (ps.zip us) fun _=>none) s1):
  Inv (IY CX P w K mg base N qual scope f cd A outer s H E) [] (start N vs) H s1:=by
 have e1:Ej P w K mg base { A with handled:=none } outer s H:=⟨e0.frames,e0.mod,e0.bs,e0.bsz,e0.wz,e0.frf,e0.hok,e0.bare⟩
 have I:=Fl (CX:=CX) (E:=E) (qual:=qual) (f:=f) (cd:=cd) S rfl e1 hl r x
 have ok:=I.ok
 exact⟨⟨ok.mod,ok.kind,ok.glob,ok.blt,ok.above,ok.inj,ok.has,ok.cab,(fun z=>by cases z),Around.frames_deeper e0.frames,ok.stk,ok.exf,ok.bs,ok.bsz,ok.noex,ok.exfs,ok.wz,ok.frf⟩,I.os,I.bare,I.base,I.loc,I.cell,I.free,I.freeC,I.pin,I.hok,I.len⟩
theorem ad0{k:Nat}{name:qW}{kV doc pm cA ct oc:Value}(lk:K.lookup f=some ⟨oc,od,.func (yJ name qual params body scope dV kV doc pm an cA ct),FF⟩)(Hu:yY K cA qual=true)(S:aH N ps scope)(len:∀ vs H Q E,sp vs H Q E->vs.length=ps.length)(Ao:∀ (A:Around) (outer:List qF) (s:qV) (H:Hp) (vs:List V) (Q:VK) (E:XK),oK k (A.deeper (envOfC qual scope s.heap.objs.size f cA))->sp vs H Q E ->
   ∃ t,G2 (IY CX P w K mg base N qual scope f cA A outer s H E) body t/\t { nx:=fun _ H'=>Q .non H',rt:=Q } (start N vs) H):
  IA P w K mg base CX (k+1) f (yJ name qual params body scope dV kV doc pm an cA ct) ps sp:=by
 refine⟨len,fun A outer s H args us vs Q E hr e0 hb r MX=>?_⟩
 have hl:=len _ _ _ _ MX
 have KX:K.In s.heap:=e0.mod.kin.keeps fun b o e=>(e0.bs b o e).1
 have lim:s.heap.NoLimit:=e0.mod.nolimit.keeps fun b o e=>(e0.bs b o e).1
 have V0:∀ y∈ps.zip us,scope.names.lookup y.1=some .local\/(scope.names.lookup y.1=some .cell/\((cellsFrom #[23] scope.names []).lookup y.1).isSome=true):=fun⟨n,v⟩ hy=>by
  rcases S.par n (zy hy).1 with q|q
  ·exact .inl q
  ·exact .inr ⟨q,XH _ _ _ (.inl q)⟩
 refine qx hr.depth (KX _ _ lk) rfl S.co S.gen rfl (xV KX Hu) (hb _ _ _ _ ?_)
 refine YS S.kind V0 fun env he s1 x=>?_
 subst he
 refine⟨lim.keeps x.toInCall.keep,codeAny_func ?_⟩
 obtain⟨t,ht,hq⟩:=Ao A outer s H vs Q E (hr.deeper _) MX
 have I:Inv (IY CX P w K mg base N qual scope f cA A outer s H E) [] (start N vs) H s1:=MY S e0 hl r x
 refine YQ (ht [] s1 (start N vs) H _ I hq) (fun fl s' hs=>?_) fun e s' hs=>hs
 have fin:∀ {σ':St} {H':Hp} {v:V} {u:Value},Inv (IY CX P w K mg base N qual scope f cA A outer s H E) [] σ' H' s'->RelV v u->Q v H'->CE outer P w H s Q u s' :=
  fun {σ' H' v u} J rv q=>⟨v,H',J.os,J.bare,J.base,J.hok,rv,q⟩
 cases fl with
 | ret u =>
  obtain⟨v,σ',H',J,rv,q⟩:=hs
  exact fin J rv q
 | next =>
  obtain⟨σ',H',J,q⟩:=hs
  exact fin (v:=V.non) (u:=yC) J rfl q
 | brk =>
  obtain⟨_,_,_,q⟩:=hs
  exact False.elim q
 | cont =>
  obtain⟨_,_,_,q⟩:=hs
  exact False.elim q
structure adA(P:qR)(w:World)(K:Yv)(mg:qW->Option Value)(base:Heap)(x:qW)(k:Nat)(ps:List qW)(hX:List V)(sp:Sp):Prop where
 ex:∃ (f:Qu) (fd:qG) (ds:List Value),mg x=some (.ref f)/\yH K (.ref f)=true/\Vals hX ds/\Binds K fd ps ds/\IA P w K mg base eM k f fd ps sp
section
theorem bG.okH{k:Nat}(F:bG K x qual st dV f fd)(S:aH N ps (av st))(len:∀ vs H Q E,sp vs H Q E->vs.length=ps.length)(Ao:∀ (cA:Value) (A:Around) (outer:List qF) (s:qV) (H:Hp) (vs:List V) (Q:VK) (E:XK),oK k (A.deeper (envOfC qual (av st) s.heap.objs.size f cA))->sp vs H Q E ->
   ∃ t,G2 (IY eM P w K mg base N qual (av st) f cA A outer s H E).nox (cO st) t/\t { nx:=fun _ H'=>Q .non H',rt:=Q } (start N vs) H):IA P w K mg base eM (k+1) f fd ps sp:=by
 exists 19
 refine ad0 lk Hu S len fun A outer s H vs Q E hr MX=>?_
 obtain⟨t,h,q⟩:=Ao cA A outer s H vs Q E hr MX
 exact⟨t,h.nox,q⟩
end
section
variable{k:Nat}{t:TA}
theorem aiv(G:adA X.prog X.w X.K X.mg X.base x k ps hX sp)(hr:oK j X.A)(ha:PA X (e :: es) t)(K0:k<=j:=by decide)(hg:Gl X x:=by rfl)(Bk:#[19]=false:=by decide)(he:WU (e :: es) X.env=#[21] :: WU es X.env:=by rfl)(rJ:#[29].any (·.1)=false:=by rfl):
  PE X #[27] (Mc sp hX E0 t):=by
 obtain⟨f,fd,ds,hm,hk,hd,hb,F⟩:=G.ex
 exists 5
 refine Wd (oa I hg hm ?_ Bk)
 refine yg (h₀:=X.base) I.ok.mod.kin hk (bP (ha pos pins s σ H _ I h) fun us s1 ⟨vs,H1,I1,r,q⟩=>⟨I1.pN,?_⟩) he rJ
 have r2:Vals (vs++hX) (us++ds):=r.append hd
 have hl:(us++ds).length=ps.length:=by rw[<- r2.length];exact F.len _ _ _ _ q
 refine Wk (WA (F.run X.A X.stack s1 H1 ⟨us,[]⟩ (us++ds) (vs++hX) Q E0 (hr.mono K0) I1.TH (hb s1 us I1.pN hl) r2 q) fun r' s' hq=>?_)
 cases r' with
 | error e'=>exact False.elim hq
 | ok fl =>
  cases fl with
  | ret u=>exact I1.after hq
  | next=>exact False.elim hq
  | brk=>exact False.elim hq
  | cont=>exact False.elim hq
end
section
def agV:V->Option Value
 | .ref a=>some (.ref a)
 | .ty n=>some (.type n)
 | _=>none
theorem Tr{cv u:Value}(e:agV c=some cv)(r:RelV c u):u=cv:=by
 cases c<;>first|cases e
 ·exact r
 ·exact r
end
theorem Se:typeLookup (.type "list_reverseiterator") "__len__" = pure none:=by rw[Wb,qg];kernel_rfl
theorem X8:typeLookup (.type "list_reverseiterator") "__length_hint__" = pure (some (.builtin "list_reverseiterator.__length_hint__")):=by rw[Wb,qg];kernel_rfl
section
variable{l S:Qu}
theorem U6{Q:Bool->qV->Prop}(hT:s.TypeIs (.ref it) "list_reverseiterator")(h:Q false s):wpAny #[6] A (yx (.ref it)) Q E s:=by
 unfold yx
 refine Wj (Ym hT Se ?_)
 dsimp only
 refine YI (fun z=>absurd z #[8]) (fun _=>?_)
 refine YI (fun z=>absurd z #[8]) (fun _=>?_)
 refine Wj (Ym hT X8 ?_)
 generalize hid:("list_reverseiterator.__length_hint__" : String)=id0
 wp_delta
 rw[show splitId id0=some ("list_reverseiterator","__length_hint__")from by subst hid;decide +kernel]
 subst hid
 refine Wj (YD (T := "list_reverseiterator") (b:=true) hT (by rw[WJ];kernel_rfl) ?_)
 refine YI (fun z=>absurd z #[8]) (fun _=>?_)
 refine YI (fun _=>?_) (fun z=>absurd #[3] z)
 refine YI (fun z=>absurd z #[3]) (fun _=>?_)
 exact YX h
abbrev adJ(items:Array Value):Nat->Value->Prop:=fun i v=>items[items.size-1-i]?=some v
theorem Ow(hh:A.handled=none)(hit:s.heap.IsRevIter it l ((items.size:Int)-1))(hl:s.heap.IsList l items)(R3:l≠it)(n1:S≠it)(n2:S≠l)(res:Value)(c₀:Nat)(hS:s.heap.get? S=some { cls:=.type "list",data:=.seq #[] c₀ })(hR:∀ h' tk tM c',(∀ b o,b≠S->b≠it->s.heap.get? b=some o->h'.get? b=some o)->h'.get? S=some { cls:=.type "list",dict:=none,data:=.seq tM c',slots := #[] }->qM (adJ items) tM items.size->R (.ok (.ret res)) { s with heap:=h',toks:=tk })(hn:items.size<=sizeLine):
  wpAny #[6] A.in1 (yQ (.ref S) (.ref it) res)
   (fun fin s'=>match fin with|.done f=>R (.ok f) s'|.again c'=>c'.quiet=true/\codeAny #[6] A c' R s') (fun e s'=>R (.error e) s') s:=by
 have hT:s.TypeIs (.ref it) "list_reverseiterator" := hit.typeIs
 have W:=gX (prog:=prog) (w:=w) (A:=A.in1) hh it l R3 items
 have nf:S∉[it,l]:=by simp only[jS,JP,or_false,not_or];exact⟨n1,n2⟩
 have key:∀ (h:Heap) (c₁ tk:Nat),h.IsRevIter it l ((items.size:Int)-1)->h.IsList l items->(∀ b o,b≠S->b≠it->s.heap.get? b=some o->h.get? b=some o) ->
   h.get? S=some { cls:=.type "list",data:=.seq #[] c₁ }->codeAny #[6] A (.builtin "list.extend.loop" ⟨[.ref S,.ref it,res],[]⟩) R { s with heap:=h,toks:=tk }:=by
  intro h c₁ tk i1 i2 hk e
  refine qz W.toS hn S nf res items.size 0 _ #[] c₁ rfl (je _) ⟨je _,by simpa using i1,i2⟩ e (ItemsOf.nil _) fun s' tM c' hm Et lA=>?_
  rw[Moved.eq_with hm]
  refine hR s'.heap s'.toks tM c' (fun b o nb ni q=>hm.heap b o (fun z=>?_) (hk b o nb ni q)) Et lA
  rcases jS.mp z with z|z
  ·exact nb z
  ·exact ni (jJ.mp z)
 unfold yQ
 refine Wj (Yt (T := "list_reverseiterator") hT ?_)
 have sr:yn (.ref S) (.ref it)=false:=by simp[yn,n1]
 have t1:(yK "list_reverseiterator" == yK "list")=false:=by decide
 have t2:(yK "list_reverseiterator" == yK "tuple")=false:=by decide
 simp only[sr,t1,t2,Bool.or_false,jf,if_false]
 refine Wj (Ya hit ?_)
 refine Wj (YC (U6 hT ?_))
 refine YI (fun _=>?_) (fun _=>YX ⟨WO Xk _,key _ c₀ _ hit hl (fun _ _ _ _ q=>q) hS⟩)
 refine Wj (Yg ?_)
 refine Wj ?_
 show wpAny _ _ (updateSeq S (·.push .none)>>=fun _=>updateSeq S (·.pop)) _ _ _
 refine Wj (Yu hS rfl ?_)
 have u1:=jg (Obj.mapSeq (·.push yC)) hS rfl
 refine Yu (hz:=by seq_fits) u1 rfl ?_
 have u2:=jg (Obj.mapSeq (·.pop)) u1 rfl
 have oth:∀ b o,b≠S->s.heap.get? b=some o->((s.heap.update S (Obj.mapSeq (·.push yC))).update S (Obj.mapSeq (·.pop))).get? b=some o:=fun b o nb q =>
  (jo _ _ (Ne.symm nb)).trans ((jo _ _ (Ne.symm nb)).trans q)
 exact YX ⟨WO Xk _,key _ _ _ (hit.at fun o q=>oth _ o (Ne.symm n1) q) (hl.at fun o q=>oth _ o (Ne.symm n2) q) (fun b o nb _ q=>oth b o nb q) u2⟩
theorem aaJ(hh:A.handled=none)(hit:s.heap.IsRevIter it l ((items.size:Int)-1))(hl:s.heap.IsList l items)(R3:l≠it)(i1:it<s.heap.objs.size)(i2:l<s.heap.objs.size)(hn:items.size<=sizeLine)(hQ:∀ h' tk tM c',(∀ b o,b≠it->s.heap.get? b=some o->h'.get? b=some o)->h'.get? s.heap.objs.size=some { cls:=.type "list",dict:=none,data:=.seq tM c',slots := #[] }->qM (adJ items) tM items.size->Q #[13] { s with heap:=h',toks:=tk }):
  wpAny #[6] A (call (.type "list") [.ref it]) Q E s:=by
 refine qh (Q₁:=fun obj s₁=>obj=.ref s.heap.objs.size/\s₁={ s with heap:=s.heap.push { cls:=.type "list",data:=.seq #[] } }) PySem.F.called_list (PySem.F.typeCall_list_1 _) PySem.F.entry_list_init
  (code_list_new _ ⟨rfl,rfl⟩) fun obj s₁ z=>?_
 obtain⟨rfl,rfl⟩:=z
 have p0:(s.heap.push { cls:=.type "list",data:=.seq #[] }).get? s.heap.objs.size=some { cls:=.type "list",data:=.seq #[] }:=jH _ rfl
 have a1:s.heap.objs.size≠it:=JX i1
 have a2:s.heap.objs.size≠l:=JX i2
 exists ⟨_,p0,rfl⟩,PySem.F.args_list_init_2 _ _
 show wpAny _ _ (do let old <- Xx #[13];gA #[13] (fun _=>#[]);letGo old.toList.reverse;yQ #[13] (.ref it) .none) _ _ _
 refine Wj ?_
 unfold Xx
 refine Wj (Yi p0 rfl (YX ?_))
 show wpAny _ _ (updateSeq s.heap.objs.size (fun _=>#[])>>=fun _=>letGo (#[]:Array Value).toList.reverse>>=fun _=>yQ #[13] (.ref it) .none) _ _ _
 refine Wj (Yu p0 rfl ?_)
 have p1:=jg (Obj.mapSeq (fun _=>(#[]:Array Value))) p0 rfl
 have oth:∀ b o,s.heap.get? b=some o->((s.heap.push { cls:=.type "list",data:=.seq #[] }).update s.heap.objs.size (Obj.mapSeq (fun _=>(#[]:Array Value)))).get? b=some o:=fun b o q =>
  (jo _ _ (JX (jI q))).trans (jA _ q)
 refine Wj (YJ ?_)
 refine Ow (A:=A.in1) hh (hit.at fun o q=>oth _ o q) (hl.at fun o q=>oth _ o q) R3 a1 a2 .none _ p1 (fun h' tk tM c' hk Et lA=>?_) hn
 exact⟨rfl,hQ h' tk tM c' (fun b o ni q=>hk b o (jM (jI q)) ni (oth b o q)) Et lA⟩
end
theorem R8(h:qM (adJ items) acc items.size):acc.toList=items.toList.reverse:=by
 refine QO fun j=>?_
 by_cases hj:j<items.size
 ·have ha:j<acc.size:=by rw[h.1];exact hj
  have e:=h.2 j acc[j] (ju ha)
  rw[JG,ju ha,List.getElem?_reverse (by simpa using hj)]
  rw[jU,JG]
  exact e.symm
 ·rw[Jb (by rw[jU,h.1];omega),Jb (by rw[ZI,jU];omega)]
theorem Vals.rev(r:Vals xs us):Vals xs.reverse us.reverse:=by
 induction r with
 | nil=>exact .nil
 | cons a t ih =>
  rw[ZV,ZV]
  exact ih.append (.cons a .nil)
section
variable{p2 ED:Pos}
def aa0(K:Yv)(ta:TA):TE:=fun σ H Q=>ta σ H fun vs H1=>∃ l xs,vs=[.ref l]/\lh K H1 l xs/\∀ n,H1 n=none->Q (.ref n) (upd H1 n (.lst xs.reverse))
theorem Oo(hc:X.calm=true)(hgl:Gl X "list")(hml:X.mg "list" = none)(hg:Gl X "reversed")(hm:X.mg "reversed" = none)(ha:PA X [a] ta)(hs:WU [a] X.env=[(false,eval a X.env)]:=by rfl)(hs2:WU [.Call (.Name "reversed" p2) [a] [] ED] X.env=[(false,eval (.Call (.Name "reversed" p2) [a] [] ED) X.env)]:=by rfl):
  PE X (.Call (.Name "list" p) [.Call (.Name "reversed" p2) [a] [] ED] [] pos) (aa0 X.K ta):=by
 exists 5
 refine Wd (mB I hgl hml Ai ?_)
 refine yG ?_ hs2 rfl
 rw[hs2]
 refine yP ?_
 refine Qz (mB I hg hm BJ (yG (bP (ha ED pins s σ H _ I h) fun us s1 ⟨vs,H1,I1,r1,q1⟩=>?_) hs rfl))
 obtain⟨l,xs,e,hq,q⟩:=q1
 subst e
 cases r1 with
 | cons r rr =>
  cases rr
  cases r
  obtain⟨aV,rv,pl,hz⟩:=I1.list hq
  refine qq pl.isList ?_
  refine yc ?_
  have hll:l<s1.heap.objs.size:=by
   obtain⟨o,e1,_⟩:=pl.isList
   exact jI e1
  have hit:XS #[39] s1.heap.objs.size l ((aV.toArray.size:Int)-1):=⟨_,jH _ rfl,rfl,rfl⟩
  have hl2:#[39].IsList l aV.toArray:=pl.isList.at fun o e=>jA _ e
  have sz:#[39].objs.size=s1.heap.objs.size+1:=jx _ _
  refine aaJ (s:={ s1 with heap:=s1.heap.push (revObj l ((aV.toArray.size:Int)-1)) }) (I1.ok.hd hc) hit hl2 (jM hll) (by rw[sz];exact JL _) (by rw[sz];exact Jg hll) (by rw[jP,<- rv.length];exact hz) fun h' tk tM c' kp e lA=>?_
  have ei:=R8 lA
  have Ew:∀ b o,s1.heap.get? b=some o->h'.get? b=some o:=fun b o f=>kp b o (jM (jI f)) (jA _ f)
  have ob:bA X.prog X.w (upd H1 #[39].objs.size (.lst xs.reverse)) h' #[39].objs.size (.lst xs.reverse):=by
   exists by rw[ZI];exact hz,aV.reverse,c',rv.rev
   have ea:tM=aV.reverse.toArray:=by
    apply Array.ext'
    rw[ei]
   rw[<- ea]
   exact e
  exact⟨.ref _,_,I1.laid (t' := tk) Ew (by rw[sz];exact JF _) ob,rfl,q _ (I1.hok.fresh (by rw[sz];exact JF _))⟩
end
theorem iT{α β:Type}{F:α->β->Prop}:∀ {l₁:List α} {l₂:List β} {j:Nat} {q:β},qP F l₁ l₂->l₂[j]?=some q->∃ p,l₁[j]?=some p/\F p q
 | _,_,_,_,.nil,e=>by simp at e
 | _,_,0,_,.cons r _,e=>by simp at e;subst e;exact⟨_,rfl,r⟩
 | _,_,j+1,_,.cons _ t,e=>by
  obtain⟨p,h1,h2⟩:=iT (j:=j) t (by simpa using e)
  exact⟨p,by simpa using h1,h2⟩
section
theorem Fs:∀ {ks:List Key} {us:List Value},us.length=ks.length->(∀ (j:Nat) (v:Value),us[j]?=some v->∃ k,ks[j]?=some k/\BO k v=true)->Vals (ks.map kV) us
 | [],[],_,_=>.nil
 | [],_ :: _,h,_=>by simp at h
 | _ :: _,[],h,_=>by simp at h
 | k :: ks,u :: us,h,q=>by
  obtain⟨k',e,i⟩:=q 0 u rfl
  cases(show k=k' from by simpa using e)
  refine .cons ?_ (Fs (by simpa using h) fun j v e=>by simpa using q (j+1) v (by simpa using e))
  rcases cB i with⟨n,t,rfl,rfl⟩|⟨x,t,rfl,rfl⟩
  ·exact⟨t,rfl⟩
  ·exact⟨t,rfl⟩
def afo:List V->Hp->VK->Prop:=fun xs H Q=>∃ p kvs,xs=[.ref p]/\H p=some (.dK kvs)/\∀ l,H l=none->Q (.ref l) (upd H l (.lst (kvs.map fun q=>kV q.1)))
theorem C7(hc:X.calm=true):ie X (.type "list") afo:=by
 exists 15
 obtain⟨p,kvs,rfl,hp,q⟩:=h
 exists 22
 cases rx
 obtain⟨hz,lo,vs,kv,dof⟩:=(show bA X.prog X.w H s.heap p (.dK kvs)from I.hok p _ hp)
 obtain⟨ep,hat⟩:=dof.dictAt
 have hlen:kvs.length=vs.length:=Paired.length kv
 refine xu (PySem.W.kdl_dict (knd:=bq X.prog X.w) (kvs:=vs) (ep:=ep) lo) (I.ok.hd hc) hat (by rw[<- hlen];exact hz) fun h' tk acc c' kp e lA=>?_
 have rv:Vals ((kvs.map (·.1)).map kV) acc.toList:=Fs (by rw[jU,lA.1,jZ,hlen]) fun j v ej=>by
  obtain⟨k,x,e1,e2⟩:=lA.2 j v (by rw[<- JG];exact ej)
  refine⟨k,?_,e2⟩
  obtain⟨pv,f1,f2⟩:=iT kv e1
  rw[jV,f1]
  exact congrArg some f2.1
 rw[JO]at rv
 have ob:bA X.prog X.w (upd H s.heap.objs.size (.lst (kvs.map fun q=>kV q.1))) h' s.heap.objs.size (.lst (kvs.map fun q=>kV q.1)):=by
  exists by rw[jZ];exact hz,acc.toList,c',rv
  rw[Zx]
  exact e
 exact⟨.ref _,_,I.laid (t' := tk) kp (jF _) ob,rfl,q _ #[56]⟩
end
theorem Hm{target:Expr}{it acc:Value}(I:Nat->qV->Prop)(turn:∀ n s,I n s->wpAny #[6] A (pyNext it) (fun r s₁=>match r with
   | none=>R (.ok .next) s₁
   | some v=>wpAny #[6] A (letOwnedTupleGo target it v) (fun _ Mb=>wpAny #[6] A (assign target env v) (fun _ s₂=>wpAny #[6] A (isTrue cond env (eval cond env)) (fun ok adq =>
     if ok=true then wpAny #[6] A (eval elt env) (fun x s₃ =>
     wpAny #[6] A (call (.builtin "list.append") [acc,x]) (fun _ s₄=>∃ m,m<n/\I m s₄) (fun _ _=>False) s₃)
     (fun _ _=>False) adq else ∃ m,m<n/\I m adq) (fun _ _=>False) s₂) (fun _ _=>False) Mb) (fun _ _=>False) s₁) (fun _ _=>False) s)(n:Nat)(h:I n s):
  codeAny #[6] A (.compLoop (.ListComp elt [⟨target,iter,[cond],0⟩] scope pos) 0 it acc env) R s:=by
 refine codeAny_loop rfl I (fun n s hI=>?_) n h
 show wpAny _ _ ((compTurn (.ListComp elt [⟨target,iter,[cond],0⟩] scope pos) 0 it acc env).onRaise (fun x=>do noteFrame x env;theTreesLotGoes x)) _ _ s
 refine wpAny_noted ?_
 rw[compTurn_list]
 refine Wj (Yn (Wj (YQ (turn n s hI) (fun r s₁ h₁=>?_) fun _ _ h'=>h'.elim)))
 cases r with
 | none=>exact YX h₁
 | some v =>
  refine Wj (YQ h₁ (fun _ Mb W0=>?_) fun _ _ h'=>h'.elim)
  refine Wj (YQ W0 (fun _ s₂ h₂=>Wj (YQ (wpAny_tests_one h₂) (fun ok s₃ h₃=>?_) fun _ _ h'=>h'.elim)) fun _ _ h'=>h'.elim)
  cases ok with
  | false=>exact YX ⟨rfl,h₃⟩
  | true=>exact Wj (Wj (YQ h₃ (fun x s₄ h₄=>Wj (YQ h₄ (fun _ s₅ h₅=>YX (YX ⟨rfl,h₅⟩)) fun _ _ h'=>h'.elim)) fun _ _ h'=>h'.elim))
def Mm(J:It)(ix:List (Option Nat))(g:TG)(tc:TT)(te:TE)(σ:St)(H:Hp)(Qd:Qu->Hp->Prop):Prop:=
 ∀ D,H D=none->∃ W:Nat->Nat->St->Hp->Prop,(∃ m,W 0 m (aX ix σ) (upd H D (.lst [])))/\∀ i m σ' H',W i m σ' H' ->
  (J.stop i H'/\Qd D H')\/(J.go i H'/\∀ x H2,J.yld i H' x H2->g x σ' H2 fun σ3 H3=>tc σ3 H3 fun b H4=>if b=true then te σ3 H4 fun y H5=>∃ ys,H5 D=some (.lst ys)/\ys.length<sizeLine/\∃ m',m'<m/\W (i+1) m' σ3 (upd H5 D (.lst (ys++[y])))else ∃ m',m'<m/\W (i+1) m' σ3 H4)
section
variable{J:It}{tn:Nat->Heap->Prop}{g:TG}
theorem RF{RR:Value->Qu->Result->qV->Prop}{E:Value->qV->Prop}(I:Inv X pins σ H s)(hc:X.calm=true)(S:aZ X.N X.env.scope N ix scope)(T:Turn X.prog X.w X.K tg J fp it tn)(st:tn 0 s.heap)(f2:∀ b∈fp,rE X pins H b)(hg:∀ C,PG #[40] tg g)(ht:∀ C,PT #[40] cond tc)(he:∀ C,PE #[40] elt te)(hW:Mm J ix g tc te σ H Qd)(hR:∀ D C s' H' m,Inv X pins σ H' s'->s'.heap.Ns C m->rE X pins H' C->Qd D H'->RR (.ref D) C (.ok .next) s'):
  wpAny #[4] X.A (newList []) (fun acc s₃=>wpAny #[4] X.A (newFunctionEnv scope X.env.globals (df X.env.cells scope.names []) [] X.env.qual none .none (some X.env)) (fun Tn s₄ =>
   codeAny #[4] X.A (.compStart (.ListComp elt [⟨tg,iter,[cond],0⟩] scope pos) 0 (.ref it) acc { Tn with scope:=relabel scope X.env }) (RR acc Tn.locals) s₄) E s₃) E s:=by
 refine YT (YR S.nocell (by intro y hy;simp at hy) (fun h₁ wA pM=>?_) S.kind)
 dsimp only at wA pM ⊢
 generalize hH2:s.heap.push { cls:=.type "list",dict:=none,data:=.seq ([]:List Value).toArray }=H2 at wA pM ⊢
 have hC:H2.objs.size=s.heap.objs.size+1:=by rw[<- hH2,jx]
 have hDC:s.heap.objs.size≠H2.objs.size:=by rw[hC];exact jM (JL _)
 have TY:s.heap.objs.size<=H2.objs.size:=by rw[hC];exact JF _
 have below:∀ b,b<s.heap.objs.size->b≠H2.objs.size:=fun b hb=>by rw[hC];exact jM (Jg hb)
 have old:∀ b o,s.heap.get? b=some o->h₁.get? b=some o:=fun b o e=>pM.extBut b o (below b (jI e)) (jA _ (hH2 ▸ jA _ e))
 have lA:∃ n,h₁.get? s.heap.objs.size=some { cls:=.type "list",data:=.seq ([]:List Value).toArray n }:=⟨_,pM.extBut _ _ hDC (jA _ (hH2 ▸ jH _ rfl))⟩
 have OJ:tn 0 h₁:=T.keep _ _ _ st fun b _ o e=>old b o e
 have fo:∀ b∈fp,∃ o,s.heap.get? b=some o/\∀ v,o.data≠.cell v:=T.obj _ _ st
 have I0:Inv #[33] pins (aX ix σ) (upd H s.heap.objs.size (.lst [])) { s with heap:=h₁,toks:=s.toks+([]:List (qW×Value)).length }:=
  Fj I S f2 fo (jF _) TY hDC old wA lA
 have freshD:H s.heap.objs.size=none:=I.hok.fresh (jF _)
 obtain⟨W,⟨m0,w0⟩,turn⟩:=hW s.heap.objs.size freshD
 have Tp:∀ b∈fp,b≠H2.objs.size:=fun b hb=>by
  obtain⟨o,e,_⟩:=fo b hb
  exact below b (jI e)
 have Eb:∀ {H':Hp},(∀ b∈fp,H' b=none)->∀ b∈fp,rE #[33] pins H' b:=fun hn b hb=>by
  obtain⟨f0,f1,f3,f4,f5,f6⟩:=f2 b hb
  exact⟨hn b hb,Tp b hb,I0.ok.exfs b hb,.inl hb,(I0.ok.exf b hb).2,f6⟩
 have fr0:∀ b∈fp,(upd H s.heap.objs.size (.lst [])) b=none:=fun b hb=>by
  obtain⟨o,e,_⟩:=fo b hb
  rw[aj (jM (jI e))]
  exact(f2 b hb).1
 have loop:codeAny #[4] X.A (.compLoop (.ListComp elt [⟨tg,iter,[cond],0⟩] scope pos) 0 (.ref it) #[13] (compEnvC scope (df X.env.cells scope.names []) H2.objs.size X.env))
   (RR #[13] H2.objs.size) { s with heap:=h₁,toks:=s.toks+([]:List (qW×Value)).length }:=by
  refine Hm (fun n s'=>∃ i σ' H',Inv #[33] pins σ' H' s'/\tn i s'.heap/\(∀ b∈fp,H' b=none)/\W i n σ' H') ?_ m0 ⟨0,_,_,I0,OJ,fr0,w0⟩
  rintro n s3 ⟨i,σ3,H3,I3,st3,fr3,w3⟩
  rcases turn i n σ3 H3 w3 with⟨stop,qn⟩|⟨go,step⟩
  ·refine bP (T.done #[33] rfl rfl rfl hc i pins s3 σ3 H3 _ I3 (Eb fr3) st3 stop) fun r s4 ⟨hr,I4⟩=>?_
   subst hr
   obtain⟨m4,hn4,_⟩:=id I4.loc
   refine hR _ _ s4 H3 m4 ?_ hn4 (I.Bf TY I4.free) qn
   exact I.C6 (ch:=fp) I4.os I4.base I4.hok I4.bare fun b hb=>by
    obtain⟨f0,f1,f3,f4,f5,f6⟩:=f2 b hb
    exact⟨f4,f1,f5,f6⟩
  ·refine bP (T.item #[33] rfl rfl rfl hc i pins s3 σ3 H3 _ I3 (Eb fr3) st3 go) fun r s4 ⟨u,hr,h4⟩=>?_
   subst hr
   refine bP h4 fun _ s5 ⟨x,H5,I5,r5,y5,SN,fr5⟩=>?_
   have I5' := I5.pinned (Eb fr5) (T.obj _ _ SN)
   refine bP (hg _ _ s5 σ3 H5 x u _ I5' r5 (step x H5 y5)) fun _ s6 ⟨σ6,H6,I6,q6⟩=>?_
   refine bP (ht _ _ s6 σ6 H6 _ I6 q6) fun ok s6' ⟨H6',I6',q6'⟩=>?_
   cases ok with
   | false =>
    obtain⟨m',hm,w7⟩:=q6'
    refine⟨m',hm,i+1,σ6,H6',I6'.pA,T.keep _ _ _ SN fun b hb o e=>(I6'.pin (b,o) (jR _ (jR _ (dX hb e)))).1,fun b hb=>?_,w7⟩
    obtain⟨o,e,d⟩:=T.obj _ _ SN b hb
    exact(I6'.pin (b,o) (jR _ (jR _ (dX hb e)))).2.1
   | true =>
    refine bP (he _ _ s6' σ6 H6' _ I6' q6') fun yv s7 ⟨y,H7,I7,r7,ys,TZ,hz7,m',hm,w7⟩=>?_
    exists 8
    refine⟨m',hm,i+1,σ6,H8,I8.pA,T.keep _ _ _ SN fun b hb o e=>(I8.pin (b,o) (jR _ (jR _ (dX hb e)))).1,fun b hb=>?_,w8⟩
    obtain⟨o,e,d⟩:=T.obj _ _ SN b hb
    exact(I8.pin (b,o) (jR _ (jR _ (dX hb e)))).2.1
 exact qy loop (T.self _ _ _ _ _ OJ loop)
def afB(ix:List (Option Nat))(wi:TI)(g:TG)(tc:TT)(te:TE):TE:=fun σ H Q=>wi σ H fun J H1=>Mm J ix g tc te σ H1 fun D H'=>Q (.ref D) H'
theorem aaf(hc:X.calm=true)(S:aZ X.N X.env.scope N ix scope)(hi:PI X tg iter wi)(hg:∀ fp s H C,PG #[40] tg g)(ht:∀ fp s H C,PT #[40] cond tc)(he:∀ fp s H C,PE #[40] elt te)(hs:∀ x,foldedSetIterable iter X.env x=pure x:=by intro _;rfl):PE X (.ListComp elt [⟨tg,iter,[cond],0⟩] scope pos) (afB ix wi g tc te):=by
 exists 5
 rw[eval_ListComp]
 refine Wn (use:=none) rfl hs (ox (S.Tq I.ok)) S.kind S.locs #[57]
 obtain⟨it,fp,tn,J,H2,e,I2,T,OK,f2,hW⟩:=h2
 subst e
 refine RF (RR:=fun acc C=>compPost #[4] X.A X.xe none #[59] acc C) I2 hc S T OK f2 (hg _ _ _) (ht _ _ _) (he _ _ _) hW ?_
 intro D C s' H' m I' hn fC q
 exact⟨m,hn,fun h' sb=>⟨.ref D,H',I'.turned (t' := s'.toks) (fun b o hb e=>(sb.2 b hb).trans e) fC.1 fC.2.1 fC.2.2.2.1 fC.2.2.2.2.1 fC.2.2.2.2.2,rfl,q⟩⟩
end
theorem RG{a:Qu}(Pv:Qu->Nat->List V->Hp->Prop)(h0:∀ D,H D=none->Pv D 0 [] (upd H D (.lst [])))(hl:∀ D i ys H',i<=xs.length->Pv D i ys H'->mT K H' a xs)(hs:∀ D i x ys H' (Qy:VK) (Qn:Hp->Prop),H D=none->xs[i]?=some x->H' D=some (.lst ys)->Pv D i ys H'->(∀ y H4,H4 D=some (.lst ys)->ys.length<sizeLine->Pv D (i+1) (ys++[y]) (upd H4 D (.lst (ys++[y])))->Qy y H4) ->
   (∀ H4,H4 D=some (.lst ys)->Pv D (i+1) ys H4->Qn H4)->tc ((aX ix σ).set 0 (some x)) H' fun b H4=>if b=true then te ((aX ix σ).set 0 (some x)) H4 Qy else Qn H4)(hd:∀ D ys H',H D=none->H' D=some (.lst ys)->Pv D xs.length ys H'->Qd D H'):Mm (Itt K a) ix (bB 0) tc te σ H Qd:=by
 intro D hD
 exists 3
 exists 24
 have q:=hl D i ys H' hi p
 by_cases cT:i<xs.length
 ·refine .inr ⟨⟨xs,xs[i],q,by simp[cT]⟩,fun x H2 y=>?_⟩
  obtain⟨e1,e2⟩:=y
  subst e1
  have ex:=e2 xs q
  have es:σ'.set 0 (some x)=(aX ix σ).set 0 (some x):=by
   rcases hσ with z|⟨t,z⟩
   ·rw[z]
   ·rw[z,Jz]
  show tc (σ'.set 0 (some x)) _ _
  rw[es]
  exact hs D i x ys _ _ _ hD ex hy p (fun y H4 h4 hz p4=>⟨ys,h4,hz,xs.length-(i+1),by omega,rfl,cT,.inr ⟨_,rfl⟩,ys++[y],ae,p4⟩) fun H4 h4 p4=>⟨xs.length-(i+1),by omega,rfl,cT,.inr ⟨_,rfl⟩,ys,h4,p4⟩
 ·have e:i=xs.length:=by omega
  subst e
  exact .inl ⟨⟨xs,q,jF _⟩,hd D ys H' hD hy p⟩
end L2
namespace L2
open PySem PySem.Spec PySem.W PySem.Builtin PySem.Builtin.ObjectAttr PyProof.Rows
variable{prog:qR}{w:World}{A:Around}{E Q:Value→qV→Prop}{s:qV}{K:Yv}{x C N f fI tp:Qu}{vs:Array Value}{name:qW}{v u:Value}{as:List Qu}{h:Heap}{tk:Tok}{R:Result→qV→Prop}{hdct ab:Bool}{sn:List qW}{sub:List Value}{mN:qW→Option Value}{oI:Obj}
abbrev eG(C:Qu)(dx:Option Qu)(vs:Array Value):Obj:={ cls:=.ref C,dict:=dx,data:=.fields vs }
def mroIs(K:Yv)(C:Qu)(as:List Qu):Bool:=(clsIn K C).any fun cd=>cd.mro==as.map Yw++VEm
theorem BV(self:Value):∀ as:List Qu,refuseLoop self "__setattr__" (as.map Yw++VEm)=pure ()
 | []=>PySem.F.store_ValueError.passes self
 | a :: r=>by
  rw[JJ,Zf,refuseLoop_ref]
  exact BV self r
section
theorem K7(hx:h.get? x=some (eG C none vs)):InstAt h x (eG C none vs) C none:=⟨hx,rfl,rfl,trivial⟩
theorem acm(X:K.In s.heap)(hx:s.heap.get? x=some (eG C none vs))(hm:mroIs K C as=true)(ob:mroIn K C (.type "object")=some true)(na:findIn K #[30] name=some none)(h:wpAny #[6] A.in1 (storeInOwnDict (.ref x) #[30] (.str name tk) name v false)
   (fun fin s'=>match fin with|.done f=>R (.ok f) s'|.again c'=>c'.quiet=true/\codeAny #[6] A c' R s') (fun e s'=>R (.error e) s') s):
  codeAny #[6] A (.call (.builtin "object.__setattr__") ⟨[.ref x,.str name tk,v],[]⟩) R s:=by
 have SF:=PySem.F.store_object
 have I:=K7 hx
 obtain⟨cd,hc,ho⟩:=any_some hm
 have em:cd.mro=as.map Yw++VEm:=by simpa using ho
 have sub:Looks #[6] s.heap (isInstance (.ref x) (.type "object")) true:=I.type.andThen (WL X ob)
 refine qw SF.slot.plain SF.entry (@check_slot #[6] _ _ s "object.__setattr__" "object" "__setattr__" (.ref x) [.str name tk,v] [] _ SF.kind SF.split sub (SF.args (.ref x) (.str name tk) v) ?_)
 have lm:Looks #[6] s.heap (mroOf #[30]) cd.mro:=(looks_clsIn X hc).andThen .now
 rw[osa_eq,refuse_eq]
 refine Wj (Wj (I.type.here (Wj (lm.here ?_))))
 rw[em,BV]
 refine YX (Wj (I.type.here (Wj ((looks_findIn X na).here (Wj (YX ?_))))))
 exact h
theorem acF{Q:Unit->qV->Prop}(X:K.In s.heap)(hx:s.heap.get? x=some (eG C none vs))(hs:findIn K #[30] "__setattr__" = some (some (.builtin "object.__setattr__")))(hm:mroIs K C as=true)(ob:mroIn K C (.type "object")=some true)(na:findIn K #[30] name=some none)(hh:hasDictIn K C=true)(h:∀ h' d,h'.get? x=some (eG C (some d) vs)->h'.Ns1 d (fun y=>if y=name then some v else none)->s.heap.objs.size<=d->(∀ b o,b≠x->s.heap.get? b=some o->h'.get? b=some o)->Q () { s with heap:=h',toks:=s.toks+2 }):
  wpAny #[6] A (setAttr (.ref x) name v) Q E s:=by
 have J:=K7 hx
 refine set_plain X J hs (acm (s:={ s with toks:=s.toks+1 }) X hx hm ob na ?_)
 obtain⟨cd,hc,hd'⟩:=any_some hh
 refine Wj (YX (Wj (Wj (YM hx (Wj (xU (s:={ s with toks:=s.toks+1 }) (looks_clsIn X hc) ?_))))))
 rw[hd']
 rw[if_neg #[8],if_neg (by simp[typeHasDict])]
 have Ml:#[28].get? x=some (eG C none vs):=jA _ hx
 have hxs:x≠s.heap.objs.size:=jM (jI hx)
 refine Wj (wpAny_alloc' (Wj (wpAny_update' Ml (YX ?_))))
 have hgd:(#[28].update x fun o=>{ cls:=o.cls,dict:=some s.heap.objs.size,data:=o.data,slots:=o.slots }).get? s.heap.objs.size=some { cls:=.type "dict",data:=.dict #[] }:=
  (QD _ _ _ _ hxs.symm).trans (Heap.get?_push_at rfl rfl)
 have hnd:(#[28].update x fun o=>{ cls:=o.cls,dict:=some s.heap.objs.size,data:=o.data,slots:=o.slots }).Ns s.heap.objs.size (fun _=>none):=
  ⟨_,#[],_,hgd,rfl,fun e he=>absurd he #[11],fun _=>rfl⟩
 dsimp only
 unfold storeInDict newKeyGuard
 refine Wj (YX (Wj (wpAny_nsSet1 (xg hnd) fun h' hn' hs'=>?_)))
 obtain⟨oD,esD,epD,hoD,hdD,hcD⟩:=hn'.count (Within.cons name v Within.nil)
 refine Wj (YO hoD (by rw[hdD];exact WN (ji hcD (by rw[jc,Jn,WT];omega))) ?_)
 refine YX (h h' s.heap.objs.size ?_ ?_ (jF _) fun b o hb q=>?_)
 ·exact(hs'.2 x hxs).trans (jg _ Ml rfl)
 ·obtain⟨o',es,ep,e1,e2,e3,eu,e4⟩:=hn'
  exact⟨o',es,ep,e1,e2,e3,eu,fun y=>by rw[e4 y]⟩
 ·exact(hs'.2 b (jM (jI q))).trans ((QD _ _ _ _ hb).trans (jA _ q))
end
def wy(K:Yv)(C:Qu)(f:Qu):Bool:=match K.lookup C with
 | some ⟨.type "type",_,.cls cd,sl⟩=>(match cd.mro,sl.toList with
  | .ref C' :: tl,[_,_,_,_,some (.builtin n),_]=>C'==C&&n == "ValueError.__new__" && !cd.hasDel&&tailIn K VEm tl&&nsOkIn K cd.ns&&nsIn K cd.ns "__init__" == some (some (.ref f))
  | _,_=>false)
 | _=>false
theorem Lp{x:qW}(X:K.In h)(e:nsOkIn K N=true)(q:nsIn K N x=some (some v)):h.nsMap N x=some v:=by
 have G:=gK (isNs_of_in X e)
 obtain⟨o,es,ep,ho,hd,_,hf⟩:=id G
 unfold nsIn at q
 split at q
 ·rename_i c d lN n' sl z
  have y:=X _ _ z
  rw[ho]at y
  cases y
  cases hd
  split at q
  ·rename_i en he
   cases q
   rw[<- hf]
   unfold nsFind findBy
   rw[<- QH,he]
   rfl
  ·split at q<;>cases q
 ·cases q
theorem Hq(X:K.In h)(q:wy K C f=true):
  ∃ tl N nm qn bs hd sn sub ab col dd k0 k1 k2 k3 k5 mN,h.get? C=some (excClassObj nm qn C N bs tl hd sn sub ab col dd k0 k1 k2 k3 k5 "ValueError.__new__")/\h.Ns N mN/\mN "__init__" = some (.ref f)/\OwnTail h VEm tl:=by
 unfold wy at q
 cases e:K.lookup C with
 | none=>rw[e]at q;cases q
 | some ob =>
  rw[e]at q
  obtain⟨oc,od,dt,sl⟩:=ob
  split at q
  ·rename_i dd cd sl' he
   cases he
   split at q
   ·rename_i C' tl k0 k1 k2 k3 n k5 m1 m2
    simp only[Jc,beq_iff_eq,Bool.not_eq_true']at q
    obtain⟨⟨⟨⟨⟨rfl,rfl⟩,d1⟩,t1⟩,o1⟩,i1⟩:=q
    obtain⟨nm,bs,mro,ns,qn,hd,sn,sub,ab,col,del⟩:=cd
    dsimp only at m1 d1 o1 i1
    subst m1 d1
    have es:sl=#[k0,k1,k2,k3,some (.builtin "ValueError.__new__"),k5]:=by
     cases sl with
     | mk l=>exact congrArg Array.mk m2
    subst es
    exact⟨tl,ns,nm,qn,bs,hd,sn,sub,ab,col,_,k0,k1,k2,k3,k5,_,X _ _ e,.of_isNs (isNs_of_in X o1),Lp X o1 i1,tail_of_in X t1⟩
   ·cases q
  ·cases q
section
variable{g:Array qH}{d:qD}{t:Nat}{os:OsState}
variable{nm q:qW}{bs bm:List Value}{col:Option Bool}{dd:Option Qu}{k0 k1 k2 k3 k5:Option Value}
theorem Cm(T:OwnTail h VEm bm){rest:List Value}{Q:Fin->qV->Prop}(hC:h.get? C=some (excClassObj nm q C N bs bm hdct sn sub ab col dd k0 k1 k2 k3 k5 "ValueError.__new__"))(hn:h.Ns N mN)(hi:mN "__init__" = some (.ref fI))(hfI:h.get? fI=some oI)(hfc:oI.cls=.type "function")(hq:∀ h' e tp,h'.get? e=some (eG C none #[.ref tp,.none,.none,.none,.bool false,.none])->h.get? e=none->h.objs.size<=e->(∀ b o,h.get? b=some o->h'.get? b=some o) ->
   wpAny #[6] A (call (.ref fI) (.ref e :: rest)) (fun r s'=>r=.none/\Q (.done (.ret (.ref e))) s') E ⟨h',g,d,t,os⟩)(V7:rest.length<=sizeLine):
  wpAny #[6] A (Builtin.«type.__call__» ⟨.ref C :: rest,[]⟩) Q E ⟨h,g,d,t,os⟩:=by
 have Fn:=Xg
 repeat (first|with_reducible refine YN hC ?_|with_reducible refine wpAny_madeBy_exc hC ?_|wp_step)
 refine codeAny_call_builtin_code (Code.quiet_builtin _ Fn.quiet) (wpAny_check_new_subU Fn #[8] T hC ?_)
 refine codeAny_exc_new_subU Fn #[8] Fn T hC ?_ V7
 show wpAny _ _ _ _ _ _
 generalize hE:({ cls:=.ref C,data:=.fields #[.ref h.objs.size,.none,.none,.none,.bool false,.none] }:Obj)=oE
 generalize hT:({ cls:=.type "tuple",data:=.seq rest.toArray }:Obj)=oT
 have keep:∀ b o,h.get? b=some o->((h.push oT).push oE).get? b=some o:=fun b o e=>jA _ (jA _ e)
 have hC1:=keep _ _ hC
 have hn1:((h.push oT).push oE).Ns N mN:=let ⟨o,es,ep,e,r⟩:=hn;⟨o,es,ep,keep _ _ e,r⟩
 have ahA:((h.push oT).push oE).get? (h.objs.size+1)=some (eG C none #[.ref h.objs.size,.none,.none,.none,.bool false,.none]):=by
  have q:=jH (h.push oT) (o:=oE) (by rw[<- hE];rfl)
  rw[jx]at q
  rw[q,<- hE]
 have hcC:(Yw C :: bm).contains #[30]=true:=by simp
 have T1:=T.keeps (h' := (h.push oT).push oE) keep
 unfold isInstance
 repeat (first|with_reducible refine YN ahA ?_|(with_reducible refine YG hC1 ?_;rw[hcC])|wp_step)
 show wpAny _ _ (typeLookup #[30] _) _ _ _
 refine wpAny_typeLookup_tail hC1 hn1 T1 Fn.mroIs Fn.init.lookup ?_
 rw[hi]
 refine YC (Wj ?_)
 unfold bindSpecial
 refine Wj (Yt (T := "function") ⟨_,keep _ _ hfI,hfc⟩ ?_)
 rw[if_pos #[8]]
 refine YX (Wj (YQ (hq _ (h.objs.size+1) h.objs.size ahA (zv (JF _)) (JF _) keep) (fun r s' hr=>?_) fun _ _ x=>x))
 obtain⟨rfl,hQ⟩:=hr
 wp_walk
 exact hQ
end
section
theorem Mw{rest:List Value}(X:K.In s.heap)(hx:wy K C f=true)(hf:isFn K (.ref f)=true)(hq:∀ h' e tp,h'.get? e=some (eG C none #[.ref tp,.none,.none,.none,.bool false,.none])->s.heap.get? e=none->s.heap.objs.size<=e->#[61] ->
   wpAny #[6] (A.under (.builtin "type.__call__" ⟨.ref C :: rest,[]⟩)) (call (.ref f) (.ref e :: rest)) (fun r s'=>r=.none/\Q (.ref e) s') E { s with heap:=h' })(V7:rest.length<=sizeLine):
  wpAny #[6] A (call #[30] rest) Q E s:=by
 obtain⟨tl,N,nm,qn,bs,hd,sn,sub,ab,col,dd,k0,k1,k2,k3,k5,mN,hC,hN,hi,T⟩:=Hq X hx
 obtain⟨oI,hfI,hfc⟩:∃ oI,s.heap.get? f=some oI/\oI.cls=.type "function" := by
  have q:(K.lookup f).map (·.cls)=some (.type "function"):=beq_iff_eq.mp hf
  obtain⟨o,ho,e⟩:=zG.mp q
  exact⟨o,X _ _ ho,e⟩
 obtain⟨hp,g,d,t,os⟩:=s
 have f1:=tc_lookup
 have f2:=tc_bind #[30]
 have hT:(⟨hp,g,d,t,os⟩:qV).TypeIs #[30] "type" := ⟨_,hC,rfl⟩
 refine Wk (WB ?_)
 show wpAny _ _ (callAny #[30] _) _ _ _
 repeat (any_goals (first|assumption|with_reducible refine YN hC ?_|wp_step))
 exists rfl
 refine codeAny_call_builtin_at (Code.quiet_builtin _ #[3]) entry_typeCall (wpAny_check_type_call_sub hC (Cm T hC hN hi hfI hfc (fun h' e tp a1 a2 a3 a4=>?_) V7))
 exact hq h' e tp a1 a2 a3 a4
abbrev Ov(tp:Qu):Array Value := #[.ref tp,.none,.none,.none,.bool false,.none]
theorem Ep(X:K.In s.heap)(hxc:wy K C f=true)(hx:s.heap.get? x=some (eG C none (Ov tp)))(h:∀ h' tp',h'.get? x=some (eG C none (Ov tp'))->(∀ b o,b≠x->s.heap.get? b=some o->h'.get? b=some o)->Q .none { s with heap:=h' }):
  wpAny #[6] A (call (.builtin "ValueError.__init__") [.ref x,u]) Q E s:=by
 obtain⟨tl,N,nm,qn,bs,hd,sn,sub,ab,col,dd,k0,k1,k2,k3,k5,mN,hC,hN,hi,T⟩:=Hq X hxc
 have Fn:=Xg
 obtain⟨hp,g,d,t,os⟩:=s
 refine Wk (qw Fn.init.plain Fn.initEntry (wpAny_check_init_subU Fn T hC hx rfl ?_))
 unfold Builtin.«BaseException.__init__»
 dsimp only
 rw[if_neg #[8]]
 refine Wj (wpAny_newTuple ?_)
 have Ml:(hp.push (seqObj "tuple" [u].toArray 0)).get? x=some (eG C none (Ov tp)):=jA _ hx
 refine Wj (m:=BaseException.bexcPut (.ref x) 0 _) ?_
 unfold BaseException.bexcPut
 refine Wj (Wx Ml rfl (x:=.ref tp) rfl ?_)
 refine Wj (Yk Ml rfl #[11] ?_)
 refine YJ (YX ?_)
 have Mi:=Obj.data_mapFields (o:=eG C none (Ov tp)) rfl (·.setIfInBounds 0 (Yw hp.objs.size))
 refine h _ hp.objs.size (jg _ Ml (Obj.isFreed_of_fields Mi)) fun b o hb q=>?_
 exact(jo _ _ (Ne.symm hb)).trans (jA _ q)
end
end L2
namespace L2
open PySem PySem.Spec PyProof.Rows
variable{X:Cx}{fd:qG}{ps:List qW}{sp:Sp}{es:List Expr}{pos':Pos}
def lM(x C:Qu)(h:Heap):Prop := ∃ tp,h.get? x=some (eG C none (Ov tp))
def fK(x C d:Qu)(h:Heap):Prop := ∃ tp,h.get? x=some (eG C (some d) (Ov tp))
structure BI(K:Yv)(C f:Qu):Prop where
 ex:wy K C f=true
 fn:yu K (.ref f)=true
 kp:yH K #[30]=true
 sa:yB K #[30] "__setattr__" = some (some (.builtin "object.__setattr__"))
 hd:yr K C=true
 mr:∃ as,mroIs K C as=true
 xc:CW K C
section
variable{f C B:Qu}{x y fl:qW}{p pos apos:Pos}{e o value:Expr}{t:TA}{ta tv:TE}
def SQ(K:Yv)(t:TA):TE:=fun σ H Q=>t σ H fun vs H1=>∃ (x C f:Qu) (v:V),vs=[.ref x,v]/\H1 x=some (.ext (lM x C))/\wy K C f=true/\Q .non H1
theorem LA(hg:Gl X y)(hm:X.mg y=some (.ref B))(hga:yt X.K (.ref B) "__getattribute__" = some (some (.builtin "type.__getattribute__")))(hrd:Xv X.K B (.type "type")=true)(hfc:Xw X.K (.ref B) (.type "type") "__init__" = some (.val (.builtin "ValueError.__init__")))(ha:PA X (e :: es) t){pl:qS Bool}(ht:eval (.Call (.Attribute (.Name y p) "__init__" apos) (e :: es) [] pos) X.env=(do
   let ov <- eval (.Name y p) X.env
   standAt apos.atName
   let (f,first) <- holding [ov] (getMethod ov "__init__" pl)
   callWith pos f first (backTo pos (WU (e :: es) X.env)) (backToKw pos (keywordEach [] X.env))):=by rfl)(Bk:(y==("__debug__" : qW))=false:=by decide)(he:WU (e :: es) X.env=#[21] :: WU es X.env:=by rfl)(rJ:#[29].any (·.1)=false:=by rfl):
  PE X (.Call (.Attribute (.Name y p) "__init__" apos) (e :: es) [] pos) (SQ X.K t):=by
 exists 5
 refine XN (pl:=pl) (oa I hg hm ?_ Bk) ht
 refine PySem.W.method_cls I.pN hga (PySem.W.cls_value I.pN hrd hfc rfl ?_)
 refine XQ (bP (ha pos pins _ σ H _ (I.tok _) h) fun us s1 ⟨vs,H1,I1,r,ea,C,f,v,ev,hx,hxc,q⟩=>?_) he rJ
 subst ev
 obtain⟨u1,u2,rfl,r1,r2⟩:=vals2 r
 cases r1
 obtain⟨⟨tp,z⟩,_,_⟩:=(show bA X.prog X.w H1 s1.heap ea (.ext (lM ea C))from I1.hok ea _ hx)
 refine Ep I1.pN hxc z fun h' tp' z' keep=>?_
 have I2:Inv X pins σ (upd H1 ea (.ext (lM ea C))) { s1 with heap:=h' }:=I1.write (x:=ea) (e:=ea) (t' := s1.toks) (by rw[hx];exact trivial) (.inl rfl) keep ⟨_,z'⟩
  (show lM ea C h'/\(∃ o,h'.get? ea=some o)/\∀ h1 h2:Heap,lM ea C h1->(∀ o,h1.get? ea=some o->h2.get? ea=some o)->lM ea C h2 from⟨⟨tp',z'⟩,⟨_,z'⟩,fun h1 h2 ⟨tp,z⟩ kk=>⟨tp,kk _ z⟩⟩)
 have eH:upd H1 ea (.ext (lM ea C))=H1:=by
  funext b
  by_cases c:b=ea
  ·rw[c,ae,hx]
  ·rw[aj c]
 rw[eH]at I2
 exact⟨.non,H1,I2,rfl,q⟩
def aiG(K:Yv)(ta tv:TE)(fl:qW):TS:=fun D σ H=>tv σ H fun y H1=>ta σ H1 fun v H2=>∃ x C f:Qu,v=.ref x/\H2 x=some (.ext (lM x C))/\BI K C f/\yB K #[30] fl=some none /\
 ∀ d,H2 d=none->d≠x->D.nx σ (upd (upd H2 x (.ext (fK x C d))) d (.xd [(fl,y)]))
theorem acw(ha:PE X o ta)(hv:PE X value tv)(hs:WW value (some (.Attribute o fl pos')) pos.line X.env=pure false:=by rfl):PS X (.Assign [.Attribute o fl pos'] value pos) (aiG X.K ta tv fl):=by
 exists 27
 refine WQ (bP (hv pins s σ H _ I h) fun u s1 ⟨yv,H1,I1,ry,q⟩=>bP (ha pins s1 σ H1 _ I1 q) fun ov s2 ⟨xv,H2,I2,rx,ea,C,f,ex,hx,M,na,q2⟩=>?_) hs
 subst ex
 obtain rfl:ov=Yw ea:=rx
 obtain⟨⟨tp,z⟩,_,_⟩:=(show bA X.prog X.w H2 s2.heap ea (.ext (lM ea C))from I2.hok ea _ hx)
 obtain⟨as,mr⟩:=M.mr
 refine acF I2.pN z M.sa mr M.xc.ob na M.hd fun h' d Iq hn hle keep=>?_
 have hd0:H2 d=none:=I2.hok.fresh hle
 have hdx:d≠ea:=fun c=>by rw[c,hx]at hd0;cases hd0
 have alu:ik X.prog X.w (upd H2 ea (.ext (fK ea C d))) h' := I2.hok.write (x:=ea) (e:=ea) (by rw[hx];exact trivial) (.inl rfl) keep ⟨_,Iq⟩
  (show fK ea C d h'/\(∃ o,h'.get? ea=some o)/\∀ h1 h2:Heap,fK ea C d h1->(∀ o,h1.get? ea=some o->h2.get? ea=some o)->fK ea C d h2 from⟨⟨tp,Iq⟩,⟨_,Iq⟩,fun h1 h2 ⟨tp,z⟩ kk=>⟨tp,kk _ z⟩⟩)
 have z1:(upd H2 ea (.ext (fK ea C d))) d=none:=by rw[aj hdx];exact hd0
 have alv:ik X.prog X.w (upd (upd H2 ea (.ext (fK ea C d))) d (.xd [(fl,yv)])) h' := by
  intro a uo qa
  by_cases c:a=d
  ·subst c
   rw[ae]at qa
   cases qa
   refine⟨_,hn,fun g=>?_⟩
   show ow ([(fl,yv)].lookup g) (if g=fl then some u else none)
   by_cases cg:g=fl
   ·subst cg
    rw[if_pos rfl]
    simp[Jh]
    exact ry
   ·rw[if_neg cg]
    have:(g==fl)=false:=beq_eq_false_iff_ne.mpr cg
    simp[Jh,this]
    exact trivial
  ·rw[aj c]at qa
   exact(alu a uo qa).AK (fun b v _ f=>f) (fun b f=>by rw[aj (ar f z1)];exact f) fun b xs f=>by rw[aj (ar f z1)];exact f
 have u1:Un X.fs [] H2 (upd H2 ea (.ext (fK ea C d))) s2.heap h' := Un.write (by rw[hx];exact trivial) (.inl rfl) keep ⟨_,Iq⟩
 have u2:Un X.fs [] H2 (upd (upd H2 ea (.ext (fK ea C d))) d (.xd [(fl,yv)])) s2.heap h' := u1.more (zv hle) hd0
 exact⟨σ,_,I2.un (t' := s2.toks+2) u2 alv,q2 d hd0 hdx⟩
end
structure adB(P:qR)(w:World)(K:Yv)(mg:qW->Option Value)(base:Heap)(x:qW)(C f:Qu)(k:Nat)(ps:List qW)(sp:Sp):Prop where
 m:mg x=some #[30]
 M:BI K C f
 F:∃ fd,Binds K fd ps []/\bu P w K mg base eM k f fd ps sp
end L2
set_option maxHeartbeats 4000000
namespace L2
open PySem PySem.Spec PyProof.Rows
variable{A:Around}{E:Value→qV→Prop}{s:qV}{base h:Heap}{env:qF}{outer l:List qF}{L a C f:Qu}{e:Expr}{a0 cls cd:Value}{Q:Unit→qV→Prop}{oe:Obj}{vs:Array Value}{hn hdct ab:Bool}{d:Option Qu}{H:Hp}{N sn ps:List qW}{sub ds:List Value}{P:qR}{w:World}{K:Yv}{mg:qW→Option Value}{qual x:qW}{scope:Scope}{X:Cx}{fd:qG}{sp:Sp}{hX:List V}{p pos:Pos}{es:List Expr}
structure tV(h base:Heap)(e:Qu)(cls a0 fl:Value)(d:Option Qu):Prop where
 ex:∃ (oe:Obj) (vs:Array Value) (T:Qu) (oT:Obj) (ts:Array Value),h.get? e=some oe/\oe.cls=cls/\oe.dict=d/\oe.data=.fields vs/\vs[0]?=some a0/\vs[1]?=some (.ref T)/\base.get? T=none/\T≠e/\h.get? T=some oT/\oT.data=.fields ts/\ts[3]?=some fl
theorem I9(g:Array Value->Array Value)(o:Obj):(Obj.mapFields g o).dict=o.dict:=by
 unfold Obj.mapFields
 split<;>rfl
section
variable{M:Model}{e:Qu}
theorem TC{head:Value}(PB:A.frames=some (env :: outer))(fr:s.heap.FunFrames base (env :: outer))(hf:env.frame=some L)(xe:s.heap.get? e=some oe)(st:base.StaysIn s.heap)(ne:base.get? e=none)(xd:oe.data=.fields vs)(two:1<vs.size)(x0:vs[0]?=some a0)(hQ:∀ h',base.StaysIn h'->h'.FunFrames base (env :: outer)->tV h' base e oe.cls a0 .none oe.dict->s.heap.UpToSlots h'->Q () { s with heap:=h' }):
  wpAny M A (do let fv <- frameOf env;let place <- entryPlaceOf L hn;let tb <- EntryCells.newEntry head fv .none (rawInt L) .none place;setField (.ref e) 1 tb) (fun _ s'=>wpAny M A (setFlight (.ref e) none) Q E s') E s:=by
 have eNo:e∉(env :: outer).filterMap (·.frame):=fun z=>by
  obtain⟨_,o,q,nf⟩:=fr.mem z
  rw[xe]at q
  cases q
  exact nf vs xd
 refine Wj (YA PB fr hf fun g1 only=>?_)
 refine Wj (Ws fun place okp=>?_)
 unfold EntryCells.newEntry newFields
 refine Wj (YT ?_ (okp.sizeOk5 _ _ _ _ _))
 generalize etb:({ cls:=.type "traceback",dict:=none,data:=.fields #[24].toArray }:Obj)=tb
 have tbd:tb.data=.fields #[24].toArray:=by rw[<- etb]
 have tbf:tb.isFreed=false:=by rw[<- etb];rfl
 have q1:g1.get? e=some oe:=(only.2.1 e eNo).trans xe
 have OJ:base.StaysIn g1:=fun b o z=>(only.2.1 b fun y=>by rw[(fr.mem y).1]at z;cases z).trans (st b o z)
 have q2:(g1.push tb).get? e=some oe:=jA tb q1
 refine Yk q2 xd two ?_
 have apart:g1.objs.size≠e:=JX (jI q1)
 have d3:=Obj.data_mapFields xd #[25]
 have q3:=jg (Obj.mapFields #[25]) q2 (Obj.isFreed_of_fields d3)
 have qT:((g1.push tb).update e (Obj.mapFields #[25])).get? g1.objs.size=some tb:=by
  rw[jo _ _ (Ne.symm apart)]
  exact jH g1 tbf
 unfold setFlight
 refine Wj (Wx q3 d3 (x:=.ref g1.objs.size) (by simp[two]) ?_)
 rw[if_pos (show(Yw g1.objs.size != yC)=true by simp)]
 have three:3<#[24].toArray.size:=by simp only[jP,jL,jc,Jn];omega
 obtain⟨g3,eg3⟩:∃ g3,((g1.push tb).update e (Obj.mapFields #[25])).update g1.objs.size (Obj.mapFields #[37])=g3:=⟨_,rfl⟩
 have rest:∀ b o,b≠e->g1.get? b=some o->g3.get? b=some o:=fun b o be z=>by
  have bT:g1.objs.size≠b:=JX (jI z)
  rw[<- eg3,jo _ _ bT,jo _ _ (Ne.symm be)]
  exact jA _ z
 have plain:∀ b o,s.heap.get? b=some o->(∀ ws,o.data≠.fields ws)->b≠e:=fun b o z nf y=>by
  rw[y,xe]at z
  cases z
  exact nf vs xd
 refine Yk qT tbd three ?_
 dsimp only
 rw[eg3]
 refine hQ g3 ?_ ?_ ?_ ?_
 ·exact fun b o z=>rest b o (fun y=>by rw[y,ne]at z;cases z) (OJ b o z)
 ·refine fr.of_keeps fun b o z nf=>?_
  obtain⟨sl,y⟩:=only.2.2 b o z
  exact⟨_,rest b _ (plain b o z nf) y,rfl⟩
 ·have fe:g3.get? e=some (Obj.mapFields #[25] oe):=by
   rw[<- eg3,jo _ _ apart]
   exact q3
  have dT:=Obj.data_mapFields tbd #[37]
  have fT:g3.get? g1.objs.size=some (Obj.mapFields #[37] tb):=by
   rw[<- eg3]
   exact jg _ qT (Obj.isFreed_of_fields dT)
  refine⟨_,_,g1.objs.size,_,_,fe,Obj.cls_mapFields _ _,I9 _ _,d3,by rw[zu #[8]];exact x0,by simp[two],OJ.fresh,apart,fT,dT,?_⟩
  rw[zV three]
  rfl
 ·intro b o z nf
  obtain⟨sl,y⟩:=only.2.2 b o z
  exact⟨sl,rest b _ (plain b o z nf) y⟩
theorem Ey(PB:A.frames=some (env :: outer))(fr:s.heap.FunFrames base (env :: outer))(hf:env.frame=some L)(xe:s.heap.get? e=some oe)(st:base.StaysIn s.heap)(ne:base.get? e=none)(xd:oe.data=.fields vs)(x1:vs[1]?=some .none)(x0:vs[0]?=some a0)(hQ:∀ h',base.StaysIn h'->h'.FunFrames base outer->tV h' base e oe.cls a0 .none oe.dict->s.heap.UpToSlots h'->Q () { s with heap:=h' }):wpAny M A (leaving env (.ref e)) Q E s:=by
 unfold leaving noteFrame
 simp only[hf]
 refine Wj (Wj (Wx xe xd x1 ?_))
 rw[if_neg #[8]]
 exact TC PB fr hf xe st ne xd (JS.mp x1).1 x0 fun h' k1 ⟨_,_,k2⟩ k3 k4=>hQ h' k1 k2 k3 k4
theorem HC(PB:A.frames=some (env :: outer))(fr:s.heap.FunFrames base (env :: outer))(hf:env.frame=some L)(w:tV s.heap base e cls a0 .none d)(st:base.StaysIn s.heap)(ne:base.get? e=none)(hQ:∀ h',base.StaysIn h'->h'.FunFrames base outer->tV h' base e cls a0 .none d->s.heap.UpToSlots h'->Q () { s with heap:=h' }):wpAny M A (leaving env (.ref e)) Q E s:=by
 obtain⟨oe,vs,T,oT,ts,x1,rfl,rfl,x4,x5,x6,x7,x8,x9,Im,S0⟩:=w.ex
 unfold leaving noteFrame
 simp only[hf]
 refine Wj (Wj (Wx x1 x4 x6 ?_))
 rw[if_pos (show(Yw T != yC)=true by simp)]
 refine Wj (Wx x9 Im S0 ?_)
 rw[if_neg (show ¬ ((yC==rawInt L)=true) by simp[rawInt])]
 refine Wj (Yk x9 Im (JS.mp S0).1 ?_)
 have oth:∀ b,b≠T->(s.heap.update T (Obj.mapFields (·.setIfInBounds 3 yC))).get? b=s.heap.get? b:=fun b y=>jo _ _ (Ne.symm y)
 have pl:∀ b o,s.heap.get? b=some o->(∀ ws,o.data≠.fields ws)->b≠T:=fun b o z nf y=>by
  rw[y,x9]at z
  cases z
  exact nf ts Im
 refine TC PB (fr.of_keeps fun b o z nf=>⟨o,(oth b (pl b o z nf)).trans z,rfl⟩) hf ((oth e (Ne.symm x8)).trans x1) (fun b o z=>(oth b fun y=>by rw[y,x7]at z;cases z).trans (st b o z)) ne x4 (JS.mp x6).1 x5
  fun h' k1 ⟨_,_,k2⟩ k3 k4=>hQ h' k1 k2 k3 fun b o z nf=>k4 b o ((oth b (pl b o z nf)).trans z) nf
end
def but(H:Hp)(a:Qu):Hp:=fun b=>if b=a then none else H b
theorem C5:but H a a=none:=if_pos rfl
theorem lS{b:Qu}(h:b≠a):but H a b=H b:=if_neg h
def O0(P:qR)(w:World):Iv:=fun outer H s E e s'=>∃ (ea t C d:Qu) (B:Heap) (H':Hp),e=.ref ea/\s'.os=s.os/\Qv s'.gens/\Un (Cb outer) [] H H' s.heap s'.heap/\ik P w H' B /\
 (B.StaysIn s'.heap/\B.get? ea=none/\s'.heap.FunFrames B outer/\tV s'.heap B ea #[30] (.ref t) .none (some d))/\(∀ b o,s.heap.get? b=some o->b∉Cb outer->∃ o',B.get? b=some o')/\H' ea=none/\E #[30] (some d) H'
theorem acC{M:Model}{nm q:qW}{N:Qu}{bs bm:List Value}{col:Option Bool}{dd:Option Qu}{k0 k1 k2 k3 k5:Option Value}{newId:String}{x:qS Value}{Q:Flow->qV->Prop}(Ds:bm.contains (.type "BaseException")=true)(hh:A.handled=none)(h:wpAny M A x (fun v s₁=>∃ e t d,v=.ref e/\s₁.heap.get? C=some (excClassObj nm q C N bs bm hdct sn sub ab col dd k0 k1 k2 k3 k5 newId)/\s₁.heap.get? e=some (eG C d (Ov t))/\E (.ref e) s₁) E s):
  wpAny M A (raiseStmt env (some x) none) Q E s:=by
 have inB:(Yw C :: bm).contains (.type "BaseException")=true:=by rw[List.contains_cons,Ds,Bool.or_true]
 unfold raiseStmt
 refine Wj (YQ h (fun v s₁ h₁=>?_) fun _ _ y=>y)
 obtain⟨e,t,d,rfl,qC,qe,hE⟩:=h₁
 obtain⟨hp,g,dr,tk,os⟩:=s₁
 repeat (first|with_reducible refine YN qe ?_|with_reducible refine YN qC ?_|(with_reducible refine YG qC ?_;rw[inB])|wp_step)
 exact wpAny_raiseNew_none hh hE
def adO(X:Cx)(E:XK):Prop := ∀ (pins:List #[58]) (σ:St) (H:Hp) (s:qV) (ea C d:Qu),Inv X pins σ H s->H ea=some (.ext (fK ea C d))->X.s₀.heap.get? ea=none->E #[30] (some d) (but H ea)->X.xe (.ref ea) s
theorem ik.but{T:Heap->Prop}(x:ik P w H h)(e:H a=some (.ext T)):ik P w (L2.but H a) h:=fun b u q=>by
 have hb:b≠a:=fun z=>by rw[z,C5]at q;cases q
 rw[lS hb]at q
 refine(x b u q).AK (fun _ _ _ y=>y) (fun c y=>?_) fun c xs y=>?_<;>rw[lS]<;>first|exact y|(intro z;rw[z,e]at y;cases y)
theorem Un.but{fs:List Qu}{H1:Hp}{h1:Heap}{T:Heap->Prop}(u:Un fs [] H H1 h h1)(e:H1 a=some (.ext T)):Un fs [] H (L2.but H1 a) h h1 where
 keep:=u.keep
 slot:=u.slot
 free:=fun b o q n hx=>by
  by_cases z:b=a
  ·rw[z];exact C5
  ·rw[lS z];exact u.free b o q n hx
 there:=u.there
 tups:=fun b xs q=>by
  have y:=u.tups b xs q
  rw[lS fun z=>by rw[z,e]at y;cases y]
  exact y
 frzs:=fun b o v q=>by
  have y:=u.frzs b o v q
  rw[lS fun z=>by rw[z,e]at y;cases y]
  exact y
 tbls:=fun b ps q=>by
  obtain⟨more,y⟩:=u.tbls b ps q
  exact⟨more,by rw[lS fun z=>by rw[z,e]at y;cases y];exact y⟩
section
variable{E:XK}
theorem aa3:adO (Dd (O0 P w) P w K mg base N qual scope f cd A outer s H E) E:=by
 intro pins σ H1 s1 ea C d I hea hold hE
 have hold:s.heap.get? ea=none:=hold
 obtain⟨⟨tp,z⟩,_,_⟩:=(show bA P w H1 s1.heap ea (.ext (fK ea C d))from I.hok ea _ hea)
 show wpAny #[31] (A.deeper #[16]) (leaving #[16] (.ref ea)) _ _ _
 have oV:∀ env∈(envOfC qual scope s.heap.objs.size f cd :: outer),∀ b,env.frame=some b->b∈ea :: Cb (envOfC qual scope s.heap.objs.size f cd :: outer):=fun env he b hb=>jK _ (ZM.mpr ⟨env,he,hb⟩)
 have fst:=I.stack
 have mem:∀ {b},b∈Cb (envOfC qual scope s.heap.objs.size f cd :: outer)->∃ o,s1.heap.get? b=some o/\∀ vs,o.data≠.fields vs:=fun {b} hb=>(fst.mem hb).2
 have old:∀ b o,s.heap.get? b=some o->b≠ea:=fun b o q y=>by rw[y,hold]at q;cases q
 refine Ey (base:=GB s1.heap (ea :: Cb (envOfC qual scope s.heap.objs.size f cd :: outer))) I.ok.frames (PySem.W.funFrames_hide fst oV) rfl z (fun b o q=>xS _ q) (XO _ jE) rfl rfl rfl fun h'' k1 k2 k3 k4=>?_
 refine⟨ea,tp,C,d,_,L2.but H1 ea,rfl,I.os,I.bare,?_,?_,⟨k1,XO _ jE,k2,k3⟩,fun b o q hb=>?_,C5,hE⟩
 ·refine Un.fly (h1:=s1.heap) (I.base.but hea) k1 (fun b o o1 q q1 hb=>XA _ q1 fun y=>?_) fun b o hb q=>?_
  ·rcases jS.mp y with y|y
   ·exact old b o q y
   ·rcases(sH b).mp y with e|e
    ·exact Ji _ (e ▸ jI q)
    ·exact hb e
  ·obtain⟨o',e',hd⟩:=mem ((sH (qual:=qual) (scope:=scope) (s:=s) (f:=f) (cd:=cd) b).mpr (.inr hb))
   rw[q]at e'
   cases e'
   exact k4 b o q hd
 ·exact(ik.but I.hok hea).less fun b u ⟨o,e⟩ q=>XA _ q fun y=>by
   rcases jS.mp y with y|y
   ·rw[y,C5]at e;cases e
   ·have n:=I.Ic b y
    have n':L2.but H1 ea b=none:=by
     by_cases yy:b=ea
     ·rw[yy];exact C5
     ·rw[lS yy];exact n
    rw[e]at n'
    cases n'
 ·obtain⟨o',e'⟩:=I.base.there b o q #[1]
  exact⟨o',XA _ e' fun y=>by
   rcases jS.mp y with y|y
   ·exact old b o q y
   ·rcases(sH b).mp y with e|e
    ·exact Ji _ (e ▸ jI q)
    ·exact hb e⟩
theorem Sz:Passes (O0 P w) (Dd (O0 P w) P w K mg base N qual scope f cd A outer s H E) E:=by
 intro pins σ H1 s1 e s' I hc
 obtain⟨ea,t,C,d,B,H',rfl,os,bare,un,hok,⟨f1,f2,f3,f4⟩,there,hn,hE⟩:=hc
 have V5:ik P w H' s'.heap:=hok.kept fun b u q=>f1 b u q
 have J:Inv (Dd (O0 P w) P w K mg base N qual scope f cd A outer s H E) pins σ H' s' := I.C6 (ch:=[]) os un V5 bare (fun b z=>by cases z)
 have fst:=J.stack
 have mem:∀ {b},b∈Cb (envOfC qual scope s.heap.objs.size f cd :: outer)->∃ o,s'.heap.get? b=some o/\∀ vs,o.data≠.fields vs:=fun {b} hb=>(fst.mem hb).2
 show wpAny #[31] (A.deeper #[16]) (leaving #[16] (.ref ea)) _ _ _
 have aa2:∀ b o,s.heap.get? b=some o->b∉Cb outer->∃ o',B.get? b=some o' := fun b o q hb=>by
  obtain⟨o1,e1⟩:=I.base.there b o q #[1]
  exact there b o1 e1 fun z=>by
   rcases(sH b).mp z with e|e
   ·exact Ji _ (e ▸ jI q)
   ·exact hb e
 refine HC I.ok.frames f3 rfl f4 f1 f2 fun h'' k1 k2 k3 k4=>?_
 refine⟨ea,t,C,d,B,H',rfl,J.os,J.bare,?_,hok,⟨k1,f2,k2,k3⟩,aa2,hn,hE⟩
 refine Un.fly (h1:=s'.heap) J.base k1 (fun b o o1 q q1 hb=>?_) fun b o hb q=>?_
 ·obtain⟨o',e'⟩:=aa2 b o q hb
  have y:=f1 b o' e'
  rw[q1]at y
  cases y
  exact e'
 ·obtain⟨o',e',hd⟩:=mem ((sH (qual:=qual) (scope:=scope) (s:=s) (f:=f) (cd:=cd) b).mpr (.inr hb))
  rw[q]at e'
  cases e'
  exact k4 b o q hd
end
section
variable{k:Nat}{y fl:qW}{cN:Pos}{t:TA}{E:XK}
def Rp(C:Qu)(sp:Sp)(hX:List V)(E:XK)(t:TA):TS:=fun _ σ H=>t σ H fun vs H1=>vs.length<=8/\∀ x,H1 x=none->sp (.ref x :: (vs++hX)) (upd H1 x (.ext (lM x C))) (fun v H2=>v=.non/\∃ d,H2 x=some (.ext (fK x C d))/\E #[30] (some d) (L2.but H2 x)) E0
theorem SG(M:BI X.K C f)(F:bu X.prog X.w X.K X.mg X.base eM k f fd ps sp)(hr:cV (k+1) X.A)(hc:X.calm=true)(hm:X.mg x=some #[30])(hb:Binds X.K fd ps ds)(hd:Vals hX ds)(ht:adO X E)(ha:PA X (e :: es) t)(hex:X.ex=[]:=by rfl)(hg:Gl X x:=by rfl)(Bk:#[19]=false:=by decide)(he:WU (e :: es) X.env=#[21] :: WU es X.env:=by rfl)(rJ:(backTo cN (WU es X.env)).any (·.1)=false:=by rfl):
  PS X (.Raise (some (.Call (.Name x p) (e :: es) [] cN)) none pos) (Rp C sp hX E t):=by
 exists 27
 obtain⟨tl,N,nm,qn,bs,hdd,sn,sub,ab,col,dd,k0,k1,k2,k3,k5,mN,hC,hN,hni,T⟩:=Hq I.ok.mod.kin M.ex
 show wpAny _ X.A (do standAt pos;raiseStmt X.env (some (do let v <- eval (.Call (.Name x p) (e :: es) [] cN) X.env;standAt pos;pure v)) none) _ _ s
 refine Wj (Yn (acC (C:=C) (nm:=nm) (q:=qn) (N:=N) (bs:=bs) (bm:=tl) (hdct:=hdd) (sn:=sn) (sub:=sub) (ab:=ab) (col:=col) (dd:=dd) (k0:=k0) (k1:=k1) (k2:=k2) (k3:=k3) (k5:=k5) (newId := "ValueError.__new__") (T.hasType #[8]) (I.ok.hd hc) (Wj ?_)))
 refine Wd (oa I hg hm ?_ Bk)
 refine yg (h₀:=X.base) I.ok.mod.kin M.kp (bP (ha cN pins s σ H _ I h) fun us s1 ⟨vs,H1,I1,r,l8,q⟩=>⟨I1.pN,?_⟩) he rJ
 refine Mw I1.pN M.ex M.fn (fun h' ea tp a1 a2 a3 a4=>?_) (by show us.length<=sizeLine;rw[<- r.length];exact ji l8 #[8])
 have hq:=q ea (I1.hok.fresh a3)
 have I2:Inv X pins σ (upd H1 ea (.ext (lM ea C))) { s1 with heap:=h' }:=I1.laid (o:=.ext (lM ea C)) (t' := s1.toks) a4 a3
  (show lM ea C h'/\(∃ o,h'.get? ea=some o)/\∀ h1 h2:Heap,lM ea C h1->(∀ o,h1.get? ea=some o->h2.get? ea=some o)->lM ea C h2 from⟨⟨tp,a1⟩,⟨_,a1⟩,fun h1 h2 ⟨tp,z⟩ kk=>⟨tp,kk _ z⟩⟩)
 have r2:Vals (V.ref ea :: (vs++hX)) (Yw ea :: (us++ds)):=.cons rfl (r.append hd)
 have hl:(Yw ea :: us++ds).length=ps.length:=by
  have z:=r2.length
  rw[F.len _ _ _ _ hq]at z
  exact z.symm
 have ad1:X.s₀.heap.get? ea=none:=by
  cases z:X.s₀.heap.get? ea with
  | none=>rfl
  | some o =>
   obtain⟨o',z'⟩:=I1.base.there ea o z (by rw[hex];intro y;cases y)
   rw[a2]at z'
   cases z'
 refine Wk (WA (F.run _ X.stack _ _ ⟨Yw ea :: us,[]⟩ (Yw ea :: (us++ds)) _ _ E0 (hr.make C us []) (I2.TH.make C us []) (hb _ (Yw ea :: us) I2.pN hl) r2 hq) fun r s' BN=>?_)
 cases r with
 | error e=>exact BN.elim
 | ok fl =>
  cases fl with
  | ret u =>
   obtain⟨v,H',I3,rv,ev,d,hx,hE⟩:=I2.after BN
   subst ev
   refine⟨rv,Wj (Yn (YX ?_))⟩
   obtain⟨⟨tp',z⟩,_,_⟩:=(show bA X.prog X.w H' s'.heap ea (.ext (fK ea C d))from I3.hok ea _ hx)
   exact⟨ea,tp',some d,rfl,I3.bk _ _ hC,z,ht pins σ H' s' ea C d I3 hx ad1 hE⟩
  | next=>exact False.elim BN
  | brk=>exact False.elim BN
  | cont=>exact False.elim BN
end
structure rM(P:qR)(w:World)(K:Yv)(mg:qW->Option Value)(base:Heap)(x:qW)(k:Nat)(ps:List qW)(hX:List V)(sp:Sp):Prop where
 ex:∃ (f:Qu) (fd:qG) (ds:List Value),mg x=some (.ref f)/\yH K (.ref f)=true/\Vals hX ds/\Binds K fd ps ds/\bu P w K mg base (O0 P w) k f fd ps sp
section
variable{j k:Nat}{t:TA}{E:XK}
theorem afb(G:rM X.prog X.w X.K X.mg X.base x k ps hX sp)(hr:cV j X.A)(hx:Passes (O0 X.prog X.w) X E)(ha:PA X (e :: es) t)(K0:k<=j:=by decide)(hg:Gl X x:=by rfl)(Bk:#[19]=false:=by decide)(he:WU (e :: es) X.env=#[21] :: WU es X.env:=by rfl)(rJ:#[29].any (·.1)=false:=by rfl):
  PE X #[27] (Mc sp hX E t):=by
 obtain⟨f,fd,ds,hm,hk,hd,hb,F⟩:=G.ex
 exact HM F (hr.mono K0) hg hm hk hb hd hx ha Bk he rJ
end
section
variable{M:Model}{e:Qu}
theorem adW{head:Value}(PB:A.frames=some (env :: outer))(fr:s.heap.FunFrames base (env :: outer))(hf:env.frame=some L)(xe:s.heap.get? e=some oe)(st:base.StaysIn s.heap)(ne:base.get? e=none)(xd:oe.data=.fields vs)(two:1<vs.size)(x0:vs[0]?=some a0)(hQ:∀ h',base.StaysIn h'->h'.FunFrames base (env :: outer)->tV h' base e oe.cls a0 (rawInt L) oe.dict->s.heap.UpToSlots h'->Q () { s with heap:=h' }):
  wpAny M A (do let fv <- frameOf env;let place <- entryPlaceOf L hn;let tb <- EntryCells.newEntry head fv .none (rawInt L) .none place;setField (.ref e) 1 tb) Q E s:=by
 have eNo:e∉(env :: outer).filterMap (·.frame):=fun z=>by
  obtain⟨_,o,q,nf⟩:=fr.mem z
  rw[xe]at q
  cases q
  exact nf vs xd
 refine Wj (YA PB fr hf fun g1 only=>?_)
 refine Wj (Ws fun place okp=>?_)
 unfold EntryCells.newEntry newFields
 refine Wj (YT ?_ (okp.sizeOk5 _ _ _ _ _))
 generalize etb:({ cls:=.type "traceback",dict:=none,data:=.fields #[24].toArray }:Obj)=tb
 have tbd:tb.data=.fields #[24].toArray:=by rw[<- etb]
 have tbf:tb.isFreed=false:=by rw[<- etb];rfl
 have q1:g1.get? e=some oe:=(only.2.1 e eNo).trans xe
 have OJ:base.StaysIn g1:=fun b o z=>(only.2.1 b fun y=>by rw[(fr.mem y).1]at z;cases z).trans (st b o z)
 have q2:(g1.push tb).get? e=some oe:=jA tb q1
 have apart:g1.objs.size≠e:=JX (jI q1)
 have d3:=Obj.data_mapFields xd #[25]
 have q3:=jg (Obj.mapFields #[25]) q2 (Obj.isFreed_of_fields d3)
 have qT:((g1.push tb).update e (Obj.mapFields #[25])).get? g1.objs.size=some tb:=by
  rw[jo _ _ (Ne.symm apart)]
  exact jH g1 tbf
 obtain⟨g3,eg3⟩:∃ g3,(g1.push tb).update e (Obj.mapFields #[25])=g3:=⟨_,rfl⟩
 have rest:∀ b o,b≠e->g1.get? b=some o->g3.get? b=some o:=fun b o be z=>by
  rw[<- eg3,jo _ _ (Ne.symm be)]
  exact jA _ z
 have plain:∀ b o,s.heap.get? b=some o->(∀ ws,o.data≠.fields ws)->b≠e:=fun b o z nf y=>by
  rw[y,xe]at z
  cases z
  exact nf vs xd
 refine Yk q2 xd two ?_
 dsimp only
 rw[eg3]
 refine hQ g3 ?_ ?_ ?_ ?_
 ·exact fun b o z=>rest b o (fun y=>by rw[y,ne]at z;cases z) (OJ b o z)
 ·refine fr.of_keeps fun b o z nf=>?_
  obtain⟨sl,y⟩:=only.2.2 b o z
  exact⟨_,rest b _ (plain b o z nf) y,rfl⟩
 ·have fe:g3.get? e=some (Obj.mapFields #[25] oe):=by
   rw[<- eg3]
   exact q3
  have fT:g3.get? g1.objs.size=some tb:=by
   rw[<- eg3]
   exact qT
  refine⟨_,_,g1.objs.size,_,_,fe,Obj.cls_mapFields _ _,I9 _ _,d3,by rw[zu #[8]];exact x0,by simp[two],OJ.fresh,apart,fT,tbd,?_⟩
  simp
 ·intro b o z nf
  obtain⟨sl,y⟩:=only.2.2 b o z
  exact⟨sl,rest b _ (plain b o z nf) y⟩
theorem aeS(PB:A.frames=some (env :: outer))(fr:s.heap.FunFrames base (env :: outer))(hf:env.frame=some L)(w:tV s.heap base e cls a0 .none d)(st:base.StaysIn s.heap)(ne:base.get? e=none)(hQ:∀ h',base.StaysIn h'->h'.FunFrames base (env :: outer)->tV h' base e cls a0 (rawInt L) d->s.heap.UpToSlots h'->Q () { s with heap:=h' }):wpAny M A (noteFrame (.ref e) env) Q E s:=by
 obtain⟨oe,vs,T,oT,ts,x1,rfl,rfl,x4,x5,x6,x7,x8,x9,Im,S0⟩:=w.ex
 unfold noteFrame
 simp only[hf]
 refine Wj (Wx x1 x4 x6 ?_)
 rw[if_pos (show(Yw T != yC)=true by simp)]
 refine Wj (Wx x9 Im S0 ?_)
 rw[if_neg (show ¬ ((yC==rawInt L)=true) by simp[rawInt])]
 refine Wj (Yk x9 Im (JS.mp S0).1 ?_)
 have oth:∀ b,b≠T->(s.heap.update T (Obj.mapFields (·.setIfInBounds 3 yC))).get? b=s.heap.get? b:=fun b y=>jo _ _ (Ne.symm y)
 have pl:∀ b o,s.heap.get? b=some o->(∀ ws,o.data≠.fields ws)->b≠T:=fun b o z nf y=>by
  rw[y,x9]at z
  cases z
  exact nf ts Im
 refine adW PB (fr.of_keeps fun b o z nf=>⟨o,(oth b (pl b o z nf)).trans z,rfl⟩) hf ((oth e (Ne.symm x8)).trans x1) (fun b o z=>(oth b fun y=>by rw[y,x7]at z;cases z).trans (st b o z)) ne x4 (JS.mp x6).1 x5
  fun h' k1 k2 k3 k4=>hQ h' k1 k2 k3 fun b o z nf=>k4 b o ((oth b (pl b o z nf)).trans z) nf
theorem X2{fl:Value}(st:base.StaysIn s.heap)(fr:s.heap.FunFrames base l)(w:tV s.heap base e cls a0 fl d)(hQ:∀ h',base.StaysIn h'->h'.FunFrames base l->tV h' base e cls a0 .none d->s.heap.UpToSlots h'->Q () { s with heap:=h' }):wpAny M A (setFlight (.ref e) none) Q E s:=by
 obtain⟨oe,vs,T,oT,ts,x1,x2,x3,x4,x5,x6,x7,x8,x9,Im,S0⟩:=w.ex
 have three:3<ts.size:=(JS.mp S0).1
 have oth:∀ b,b≠T->(s.heap.update T (Obj.mapFields #[37])).get? b=s.heap.get? b:=fun b y=>jo _ _ (Ne.symm y)
 have pl:∀ b o,s.heap.get? b=some o->(∀ ws,o.data≠.fields ws)->b≠T:=fun b o z nf y=>by
  rw[y,x9]at z
  cases z
  exact nf ts Im
 unfold setFlight
 refine Wj (Wx x1 x4 x6 ?_)
 rw[if_pos (show(Yw T != yC)=true by simp)]
 have dT:=Obj.data_mapFields Im #[37]
 refine Yk x9 Im three (hQ _ (fun b o z=>(oth b fun y=>by rw[y,x7]at z;cases z).trans (st b o z)) (fr.of_keeps fun b o z nf=>⟨o,(oth b (pl b o z nf)).trans z,rfl⟩) ?_ fun b o z nf=>⟨o.slots,(oth b (pl b o z nf)).trans z⟩)
 refine⟨oe,vs,T,_,_,(oth e (Ne.symm x8)).trans x1,x2,x3,x4,x5,x6,x7,x8,jg _ x9 (Obj.isFreed_of_fields dT),dT,?_⟩
 rw[zV three]
 rfl
end
open AutoSeq1 (wpAny_loadPart')
variable{prog:qR}{w:World}{A:Around}{E Q:Value→qV→Prop}{s:qV}{it l:Qu}{i:Nat}{items:Array Value}{x:Value}
section
theorem Aw{t:Qu}(hit:s.heap.IsTupleIter it t i)(ht:s.heap.IsTuple t items)(hx:items[i]?=some x)(hQ:∀ h',h'.IsTupleIter it t (i+1)->yL it s.heap h'->Q x { s with heap:=h' }):wpAny #[6] A (yl (.ref it)) Q E s:=by
 obtain⟨o,ho,hc,hd⟩:=id hit
 obtain⟨ol,hol,_,nl,U1⟩:=ht
 unfold yl
 refine Wj (Wl (name:=Str.ofString "__next__") hit.typeIs yi
  (Wm yi hit.typeIs Xd ?_ (XY _)))
 show wpAny _ _ (field (.ref it) 0>>=_) _ _ s
 refine Wj (Wx ho hd (x:=.ref t) rfl ?_)
 show wpAny _ _ (if (Yw t==yC)=true then _ else _) _ _ s
 rw[if_neg (show ¬ ((Yw t==yC)=true)from jd)]
 show wpAny _ _ (field (.ref it) 1>>=_) _ _ s
 refine Wj (Wx ho hd (x:=.int i 0) rfl ?_)
 show wpAny _ _ (seqItems? (.ref t)>>=_) _ _ s
 refine Wj (Yi hol U1 ?_)
 simp only[jB,hx]
 refine Wj (Yk ho hd #[11] (YX ⟨x,rfl,YX (hQ _ ?_ (yF ..))⟩))
 exact⟨_,jg _ ho (Obj.isFreed_of_fields (Obj.data_mapFields hd _)),(Obj.cls_mapFields ..).trans hc,by
  rw[Obj.data_mapFields hd];simp[rawInt]⟩
theorem oZ{t:Qu}(hh:A.handled=none)(hit:s.heap.IsTupleIter it t i)(ht:s.heap.IsTuple t items)(hx:items[i]?=none)(hE:∀ h' e,XI it s.heap h'->(∃ o,h'.get? e=some o/\o.cls=.type "StopIteration")->E (.ref e) { s with heap:=h' }):wpAny #[6] A (yl (.ref it)) Q E s:=by
 obtain⟨o,ho,hc,hd⟩:=id hit
 obtain⟨ol,hol,_,nl,U1⟩:=ht
 unfold yl
 refine Wj (Wl (name:=Str.ofString "__next__") hit.typeIs yi
  (Wm yi hit.typeIs Xd ?_ (XY _)))
 show wpAny _ _ (field (.ref it) 0>>=_) _ _ s
 refine Wj (Wx ho hd (x:=.ref t) rfl ?_)
 show wpAny _ _ (if (Yw t==yC)=true then _ else _) _ _ s
 rw[if_neg (show ¬ ((Yw t==yC)=true)from jd)]
 show wpAny _ _ (field (.ref it) 1>>=_) _ _ s
 refine Wj (Wx ho hd (x:=.int i 0) rfl ?_)
 show wpAny _ _ (seqItems? (.ref t)>>=_) _ _ s
 refine Wj (Yi hol U1 ?_)
 simp only[jB,hx]
 refine Wj (Yg (Wj (Yk ho hd #[11] ?_)))
 show wpAny _ _ (newExc (.type "StopIteration") []>>=_) _ _ _
 refine Wj ?_
 simp only[newExc,newTuple]
 refine Wj (YT ?_ (by size_fits))
 refine Wj (m:=firstArgMember _ _) (YV (a:=yC) (by first|rfl|(simp only[firstArgMember];rfl)) ?_)
 refine YT ?_ (by size_fits)
 simp only[raiseNew]
 refine Wj (YB ?_)
 first|rw[show A.in1.handled=none from hh]|rw[hh]
 refine Wj (YX (Yp ?_))
 exact hE _ _ (((yF ..).extBut.push _).push _) ⟨_,jH _ rfl,rfl⟩
end
theorem ML(hh:A.handled=none)(it t:Qu)(R3:t≠it)(items:Array Value):
  Draws prog w A it [it,t] items.size (fun i v=>items[i]?=some v) (fun i h=>h.IsTupleIter it t i/\h.IsTuple t items) where
 live:=fun _ _ st=>let ⟨o,ho,_⟩:=st.1;⟨o,ho⟩
 frame:=fun _ _ _ st hk=>⟨st.1.at fun o e=>hk it #[11] o e,st.2.at fun o e=>hk t #[11] o e⟩
 item:=fun i s Q E hi st hQ=>by
  refine Aw st.1 st.2 (x:=items[i]) (by simp[hi]) fun h' ale hs'=>?_
  exact hQ _ h' s.toks (by simp[hi]) ⟨ale,st.2.at fun o e=>(hs'.2 t R3).trans e⟩ hs'
 done:=fun s Q E st hE=>oZ hh st.1 st.2 #[11] hE
theorem sx(l:Qu)(items:Array Value)(n:Nat)(dct:Option Qu)(sl:Array (Option Value)):
  Meets (Builtin.«enumerate.__new__» ⟨[.type "enumerate",.ref l],[]⟩) (fun _ R s=>s.heap.get? l=some { cls:=.type "tuple",dict:=dct,data:=.seq items n,slots:=sl } /\
   R (.ok (.ret (.ref #[26].objs.size)))
    { s with heap:=#[26].push { cls:=.type "enumerate",data:=.fields #[.none,.bool false,.ref s.heap.objs.size,rawInt 0,.none,.none] } }):=
 .of_wp fun prog w A R s h=>by
  obtain⟨hp,g,d,tk,os⟩:=s;obtain⟨hl,h⟩:=h
  have aey:=sub_enumerate
  have hL:Heap.IsTuple (Shared.heap ⟨hp,g,d,tk,os⟩) l items:=⟨_,hl,rfl,n,rfl⟩
  wp_walk using wpAny_loadPart' hl
  refine wpAny_stack_any fun st=>YX ?_
  split
  ·rename_i c _ _ _ _ _
   cases(c==yK "enumerate")
   ·wp_walk using wpAny_loadPart' hl,Yc hL
    exact⟨_,rfl,h⟩
   ·wp_walk using wpAny_loadPart' hl,Yc hL
    exact⟨_,rfl,h⟩
  ·wp_walk using wpAny_loadPart' hl,Yc hL
   exact⟨_,rfl,h⟩
theorem rW(hL:s.heap.IsTuple l items)(h:∀ h',IsEnum h' #[23] s.heap.objs.size 0 .none->h'.IsTupleIter s.heap.objs.size l 0->h'.objs.size=s.heap.objs.size+2 ->
   #[61]->Q (.ref #[23]) { s with heap:=h' }):
  wpAny #[6] A (call (.type "enumerate") [.ref l]) Q E s:=by
 obtain⟨⟨c,dct,dt,sl⟩,hl,hc,n,hd⟩:=hL
 replace hc:c=.type "tuple" := hc
 replace hd:dt=.seq items n:=hd
 subst hc hd
 refine callType_new F.called_enumerate #[8] (F.typeCall_enumerate_1 _) (F.newCall_enumerate_1 _) (fun obj=>F.args_object_init_2 obj _) F.entry_enumerate_new
  (sx l items n dct sl) ⟨hl,?_⟩
 have hz:#[26].objs.size=s.heap.objs.size+1:=jx ..
 show _/\_
 rw[hz]
 have he:IsEnum (#[26].push
   { cls:=.type "enumerate",data:=.fields #[.none,.bool false,.ref s.heap.objs.size,rawInt 0,.none,.none] }) #[23] s.heap.objs.size 0 .none:=by
  have:=jH #[26]
   (o:={ cls:=.type "enumerate",data:=.fields #[.none,.bool false,.ref s.heap.objs.size,rawInt 0,.none,.none] }) rfl
  rw[hz]at this;exact this
 refine⟨⟨_,he,rfl⟩,h _ he ⟨_,jA _ (jH _ rfl),rfl,rfl⟩ (by rw[jx,hz]) fun b o x=>jA _ (jA _ x)⟩
variable{X:Cx}{pins:List (Qu×Obj)}{σ B:St}{H:Hp}{s:qV}{h':Heap}{t' n j:Nat}{e l:Expr}{P prog:qR}{w:World}{K:Yv}{elts es:List Expr}{pos SR p:Pos}{tl ta:TA}{a C:Qu}{xs:List V}{tb:TS}{D:Ends}{acc:Array Value}{x m:qW}{ps:List qW}{sp:Sp}{A:Around}{E:Value→qV→Prop}{ns:List Int}{us:List Value}{ix:List (Option Nat)}{te:TE}{Qd:Qu→Hp→Prop}{v:Value}
section
theorem Inv.Rr{t':Nat}{e it:Qu}(I:Inv X pins σ H s)(k:∀ b o,b≠e->b≠it->s.heap.get? b=some o->h'.get? b=some o)(fe:rE X pins H e)(fi:rE X pins H it):Inv X pins σ H { s with heap:=h',toks:=t' }:=by
 have nn:∀ b u,H b=some u->b≠e/\b≠it:=fun b u q=>⟨fun z=>(by rw[z,fe.1]at q;cases q),fun z=>(by rw[z,fi.1]at q;cases q)⟩
 have kk:∀ b o,b∉[e,it]->s.heap.get? b=some o->h'.get? b=some o:=fun b o hc q=>k b o (fun z=>hc (by simp[z])) (fun z=>hc (by simp[z])) q
 refine I.step (g' := s.gens) (d' := s.drawn) (ch:=[e,it]) (fun b hb=>?_) (fun b o _ _ hc q _=>kk b o hc q) (fun b o _ _ hc q _=>⟨o.slots,kk b o hc q⟩) (fun _ _ _ _ n=>n)
  (fun b o hc q=>⟨o,kk b o hc q⟩) (fun _ _ q=>q) (fun _ _ _ q=>q) (fun b ps q=>⟨#[],by rw[q];simp⟩) (fun m hm=>?_) (fun b u q=>?_) I.bare
 ·have q:b=e\/b=it:=by simpa using hb
  rcases q with rfl|rfl
  ·exact⟨fe.2.2.2.1,fe.2.1,fe.2.2.2.2.1,fe.2.2.2.2.2⟩
  ·exact⟨fi.2.2.2.1,fi.2.1,fi.2.2.2.2.1,fi.2.2.2.2.2⟩
 ·obtain⟨o,es,ep,ho,r⟩:=hm
  exact⟨o,es,ep,k _ o (Ne.symm fe.2.1) (Ne.symm fi.2.1) ho,r⟩
 ·refine(I.hok b u q).AK (fun c v hc z=>k c v ?_ ?_ z) (fun _ z=>z) fun _ _ z=>z
  ·rcases hc with z|z
   ·rw[z];exact(nn b u q).1
   ·exact(nn c _ z).1
  ·rcases hc with z|z
   ·rw[z];exact(nn b u q).2
   ·exact(nn c _ z).2
end
def Ite(K:Yv)(a:Qu):It:=
 ⟨fun i H=>∃ xs x,mT K H a xs/\xs[i]?=some x,fun i H v H'=>∃ T x,v=.ref T/\H T=none/\H'=upd H T (.tup [.int i,x])/\∀ xs,mT K H a xs->xs[i]?=some x,fun i H=>∃ xs,mT K H a xs/\xs.length<=i⟩
theorem OQ{x1:_}(a e it:Qu):Turn P w K (.Tuple elts x1 pos) (Ite K a) [e,it] e (fun i h=>(∃ old,IsEnum h e it i old)/\h.IsTupleIter it a i) where
 mem:=by simp
 obj:=fun i h st b hb=>by
  have q:b=e\/b=it:=by simpa using hb
  rcases q with rfl|rfl
  ·obtain⟨⟨old,st⟩,_⟩:=st
   exact⟨_,st,fun v z=>by
    have z':Data.fields _=Data.cell v:=z
    cases z'⟩
  ·obtain⟨_,o,e,c,d⟩:=st
   exists 21
 keep:=fun i h h' st k=>⟨let ⟨old,z⟩:=st.1;⟨old,k e #[11] _ z⟩,st.2.at fun o z=>k it #[11] o z⟩
 item:=by
  exists 0
  subst hP hw hK
  obtain⟨xs,x,hq,hx⟩:=hg
  obtain⟨aV,rv,p,hz⟩:=I.tuple hq
  obtain⟨u,hu,ru⟩:=rv.get hx
  obtain⟨⟨old,he⟩,hit⟩:=st
  have p':s.heap.IsTuple a aV.toArray:=p
  have fe:=hf e #[11]
  have fi:=hf it #[11]
  have ne:e≠it:=fun z=>by
   subst z
   obtain⟨o,e1,c,d⟩:=hit
   rw[he]at e1
   cases e1
   have c':yK "enumerate" = yK "tuple_iterator" := c
   injection c' with c'
   exact absurd c' #[8]
  have nae:a≠e:=fun z=>by
   subst z
   obtain⟨o,e1,c,d⟩:=p'
   rw[he]at e1
   cases e1
   have c':yK "enumerate" = yK "tuple" := c
   injection c' with c'
   exact absurd c' #[8]
  have nai:a≠it:=fun z=>by
   subst z
   obtain⟨o,e1,c,d⟩:=p'
   obtain⟨o2,e2,c2,d2⟩:=hit
   rw[e1]at e2
   cases e2
   rw[c]at c2
   injection c2 with c'
   exact absurd c' #[8]
  have hi:i<aV.toArray.size:=by
   have:i<aV.length:=(jb.mp hu).1
   simpa using this
  have D:=ML (prog:=X.prog) (w:=X.w) (A:=X.A.in1) (show X.A.in1.handled=none from I.ok.hd hc) it a nai aV.toArray
  refine Yd D he ⟨hit,p'⟩ hi ne (by simp[ne,Ne.symm nae]) fun y h1 tk hy ho OJ hT hsz hk=>?_
  have ey:y=u:=by
   have:aV.toArray[i]?=some u:=by simpa using hu
   rw[this]at hy
   exact(Option.some.inj hy).symm
  subst ey
  refine⟨_,rfl,YK ho fun h2 he2 hs2=>?_⟩
  have fr:H s.heap.objs.size=none:=I.hok.fresh (jF _)
  have I1:Inv X pins σ #[53] { s with heap:=s.heap.push { cls:=.type "tuple",data:=.seq #[.int i tk,y] },toks:=tk+1 }:=
   I.laid (o:=.tup [.int i,x]) (fun b ob q=>jA _ q) (jF _) ⟨by show 2<=sizeLine;decide,[.int i tk,y],.cons ⟨tk,rfl⟩ (.cons ru .nil),⟨_,jH _ rfl,rfl,_,rfl⟩⟩
  have lt:∀ b∈[e,it],b<s.heap.objs.size:=fun b hb=>by
   have q:b=e\/b=it:=by simpa using hb
   rcases q with rfl|rfl
   ·exact jI he
   ·obtain⟨o,e1,_⟩:=hit
    exact jI e1
  have f2:∀ b∈[e,it],rE X pins #[53] b:=fun b hb=>by
   refine⟨?_,(hf b hb).2⟩
   rw[aj (jM (lt b hb))]
   exact(hf b hb).1
  have I2:Inv X pins σ #[53] { s with heap:=h2,toks:=tk+1 }:=by
   refine I1.Rr (t' := tk+1) (h' := h2) (fun b o b1 b2 q=>?_) (f2 e #[11]) (f2 it #[11])
   refine(hs2.2 b b1).trans ?_
   rcases ZC (show(s.heap.push { cls:=.type "tuple",data:=.seq #[.int i tk,y] }).get? b=some o from q)with⟨rfl,rfl⟩|z
   ·exact hT
   ·exact hk b o b1 b2 z
  refine⟨.ref s.heap.objs.size,_,I2,rfl,⟨s.heap.objs.size,x,rfl,fr,rfl,fun ys hy=>by rw[I.FW hy hq];exact hx⟩,⟨⟨y,?_⟩,?_⟩,fun b hb=>(f2 b hb).1⟩
  ·have:((i+1:Nat):Int)=(i:Int)+1:=by push_cast;rfl
   rw[this]
   exact he2
  ·exact OJ.1.at fun o z=>(hs2.2 it (Ne.symm ne)).trans z
 done:=by
  exists 0
  subst hP hw hK
  obtain⟨xs,hq,hx⟩:=hg
  obtain⟨aV,rv,p,hz⟩:=I.tuple hq
  obtain⟨⟨old,he⟩,hit⟩:=st
  exists 2
  have p':s.heap.IsTuple a aV.toArray:=p
  have hl:=rv.length
  have hT:s.TypeIs (.ref e) "enumerate" := ⟨_,he,rfl⟩
  unfold pyNext
  refine Wj (Wi (Wl (name:=Str.ofString "__next__") hT yw
   (Wm yw hT Xy ?_ (Xr _))))
  show wpAny _ _ (field (.ref e) 2>>=_) _ _ _
  refine Wj (Wx he rfl (x:=.ref it) rfl ?_)
  refine Wj (oZ (show X.A.in1.handled=none from I.ok.hd hc) hit p' (by simp;omega) fun h' x he' Iq=>?_)
  obtain⟨o,ho,Px⟩:=Iq
  refine Wj (YD (T := "StopIteration") (b:=true) ⟨o,ho,Px⟩ WI ?_)
  exact YX ⟨rfl,I.turned (t' := s.toks) (fun b o hb z=>he' b o hb z) f0 f1 f3 f4 f5⟩
 self:=fun _ _ _ _ _ st h=>let ⟨_,z⟩:=st.1;YY z h
section
def aeG(K:Yv)(tl:TA):TI:=fun σ H R=>tl σ H fun vs H1=>∃ a,vs=[.ref a]/\(∃ xs,mT K H1 a xs)/\R (Ite K a) H1
theorem Ah:qf "enumerate" = some (.type "enumerate"):=by decide +kernel
theorem aas{x1:_}(hg:Gl X "enumerate")(hm:X.mg "enumerate" = none)(hl:PA X [l] tl)(hs:WU [l] X.env=[(false,eval l X.env)]:=by rfl):
  PI X (.Tuple elts x1 SR) (.Call (.Name "enumerate" p) [l] [] pos) (aeG X.K tl):=by
 intro pins s σ H R I h
 refine Qz (mB I hg hm Ah (yG (bP (hl pos pins s σ H _ I h) fun us s1 ⟨vs,H1,I1,r1,q1⟩=>?_) hs rfl))
 obtain⟨a,e,⟨xs,hq⟩,q⟩:=q1
 subst e
 cases r1 with
 | cons r rr =>
  cases rr
  cases r
  obtain⟨aV,rv,p,hz⟩:=I1.tuple hq
  refine rW (show s1.heap.IsTuple a aV.toArray from p) fun h' he hit hsz hk=>?_
  refine YY he ?_
  refine⟨s1.heap.objs.size+1,[s1.heap.objs.size+1,s1.heap.objs.size],_,_,H1,rfl,I1.kept (t' := s1.toks) hk,OQ a _ s1.heap.objs.size,⟨⟨_,he⟩,hit⟩,fun b hb=>?_,q⟩
  have e:b=s1.heap.objs.size+1\/b=s1.heap.objs.size:=by simpa using hb
  rcases e with rfl|rfl
  ·exact I1.Bf (JF _) (I1.hok.fresh (JF _))
  ·exact I1.Bf (jF _) (I1.hok.fresh (jF _))
end
theorem RP{g:TG}(Pv:Nat->St->Hp->Prop)(h0:Pv 0 σ H)(hl:∀ i σ H,i<=xs.length->Pv i σ H->mT K H a xs)(hs:∀ i x σ H T,xs[i]?=some x->Pv i σ H->H T=none->g (.ref T) σ (upd H T (.tup [.int i,x])) fun σ2 H2=>tb { D with nx:=Pv (i+1),ct:=Pv (i+1),bk:=D.nx } σ2 H2)(hd:∀ σ H,Pv xs.length σ H->D.nx σ H):
  ∃ W:Nat->Nat->St->Hp->Prop,(∃ m,W 0 m σ H)/\∀ i m σ H,W i m σ H ->
   ((Ite K a).stop i H/\D.nx σ H)\/((Ite K a).go i H/\∃ N:St->Hp->Prop,#[18]/\∀ x H',(Ite K a).yld i H x H'->g x σ H' fun σ2 H2=>tb { D with nx:=N,ct:=N,bk:=D.nx } σ2 H2):=by
 exists 9
 rintro i m σ H ⟨rfl,hi,p⟩
 have q:=hl i σ H hi p
 by_cases cT:i<xs.length
 ·exists 6
  obtain⟨T,x0,rfl,hT,rfl,y⟩:=y
  exact hs i x0 σ _ T (y xs q) p hT
 ·have e:i=xs.length:=by omega
  subst e
  exact .inl ⟨⟨xs,q,jF _⟩,hd σ H p⟩
theorem M9(h:qM (fun i v=>∃ t,v=.int (0+(i:Int)*1) t) acc n):Vals ((jO n).map fun i:Nat=>V.int i) acc.toList:=by
 have go:∀ (n:Nat) (us:List Value),us.length=n->(∀ (j:Nat) (v:Value),us[j]?=some v->∃ t,v=yI (0+(j:Int)*1) t)->Vals ((jO n).map fun i:Nat=>V.int i) us:=by
  intro n
  induction n with
  | zero =>
   intro us hl _
   cases us with
   | nil=>exact .nil
   | cons a r=>cases hl
  | succ n ih =>
   intro us hl hv
   have ne:us≠[]:=fun z=>by rw[z]at hl;cases hl
   have e:=ZJ ne
   rw[<- e,JK,jD]
   have hd:us.dropLast.length=n:=by rw[Zw,hl];rfl
   refine(ih us.dropLast hd fun j v hj=>?_).append (.cons ?_ .nil)
   ·refine hv j v ?_
    have lt:=(jb.mp hj).1
    rw[<- e,JB lt]
    exact hj
   ·obtain⟨t,ht⟩:=hv n (us.getLast ne) (by rw[List.getLast_eq_getElem,jC #[0]];simp[hl])
    rw[ht]
    exact⟨t,by rw[Jo,Qq]⟩
 exact go n acc.toList (by rw[jU,h.1]) fun j v hj=>h.2 j v (by rw[<- JG];exact hj)
section
variable{a:Expr}{p2 ED:Pos}
def aa1(ta:TA):TE:=fun σ H Q=>ta σ H fun vs H1=>∃ n:Nat,vs=[.int n]/\n<=sizeLine/\∀ l,H1 l=none->Q (.ref l) (upd H1 l (.lst ((jO n).map fun i:Nat=>V.int i)))
theorem Oq(hc:X.calm=true)(hgl:Gl X "list")(hml:X.mg "list" = none)(hg:Gl X "range")(hm:X.mg "range" = none)(ha:PA X [a] ta)(hs:WU [a] X.env=[(false,eval a X.env)]:=by rfl)(hs2:WU [.Call (.Name "range" p2) [a] [] ED] X.env=[(false,eval (.Call (.Name "range" p2) [a] [] ED) X.env)]:=by rfl):
  PE X (.Call (.Name "list" p) [.Call (.Name "range" p2) [a] [] ED] [] pos) (aa1 ta):=by
 exists 5
 refine Wd (mB I hgl hml Ai ?_)
 refine yG ?_ hs2 rfl
 rw[hs2]
 refine yP ?_
 refine Qz (mB I hg hm boot_range (yG (bP (ha ED pins s σ H _ I h) fun us s1 ⟨vs,H1,I1,r1,q1⟩=>?_) hs rfl))
 obtain⟨n,e,hn,q⟩:=q1
 subst e
 cases r1 with
 | cons r rr =>
  cases rr
  obtain⟨t,rfl⟩:=r
  have big:sizeLine<=2^24:=by decide
  have ao1:((sizeLine:Nat):Int)<2^62:=by decide
  have alp:(n:Int)<2^62:=by omega
  refine call_range_1 ?_
  refine yc ?_
  have sz:#[54].objs.size=s1.heap.objs.size+1:=jx _ _
  refine PySem.call_list_range (s:={ s1 with heap:=s1.heap.push { cls:=.type "range",data:=.fields #[.int 0 s1.toks,.int n t,.int 1 (s1.toks+1)] },toks:=s1.toks+1+1 }) (n:=n) (I1.ok.hd hc) (IsRange.new ..) (small_one #[0] #[0] #[0] alp)
   (by rw[rangeSize_one];split<;>omega) #[0] fun h' tk tM c' kp e lA=>?_
  have Ew:∀ b o,s1.heap.get? b=some o->h'.get? b=some o:=fun b o f=>kp b o (jA _ f)
  have ob:bA X.prog X.w (upd H1 #[54].objs.size (.lst ((jO n).map fun i:Nat=>V.int i))) h' #[54].objs.size (.lst ((jO n).map fun i:Nat=>V.int i)):=by
   exists by rw[jZ,jT];exact hn,tM.toList,c',M9 lA
   exact e
  exact⟨.ref _,_,I1.laid (t' := tk) Ew (by rw[sz];exact JF _) ob,rfl,q _ (I1.hok.fresh (by rw[sz];exact JF _))⟩
end
structure O3(P:qR)(w:World)(K:Yv)(mg:qW->Option Value)(base:Heap)(x:qW)(C:Qu)(k:Nat)(ps:List qW)(sp:Sp):Prop where
 m:mg x=some #[30]
 cl:Io K C
 ex:∃ (f:Qu) (fd:qG),Mk K C f/\Binds K fd ps []/\bu P w K mg base eM k f fd ps sp
theorem aak{k:Nat}{t:TA}(G:O3 X.prog X.w X.K X.mg X.base x C k ps sp)(hr:cV j X.A)(ha:PA X (e :: es) t)(K0:k+1<=j:=by decide)(hg:Gl X x:=by rfl)(Bk:#[19]=false:=by decide)(he:WU (e :: es) X.env=#[21] :: WU es X.env:=by rfl)(rJ:#[29].any (·.1)=false:=by rfl):PE X #[27] (adv C sp [] E0 t):=by
 obtain⟨f,fd,M,hb,F⟩:=G.ex
 exact acp M F (hr.mono K0) hg G.m hb .nil aae ha Bk he rJ
structure rL(P:qR)(w:World)(K:Yv)(mg:qW->Option Value)(base:Heap)(C:Qu)(m:qW)(k:Nat)(ps:List qW)(sp:Sp):Prop where
 cl:Io K C
 ex:∃ (f:Qu) (fd:qG),Meth K C m f/\Binds K fd ps []/\bu P w K mg base eM k f fd ps sp
theorem FH{k:Nat}{apos:Pos}{o:Expr}{ta:TE}{t:TA}{pl:qS Bool}(G:rL X.prog X.w X.K X.mg X.base C m k ps sp)(hr:cV j X.A)(ho:PE X o ta)(ha:PA X (e :: es) t)(K0:k<=j:=by decide)(tR:WU (e :: es) X.env=#[21] :: WU es X.env:=by rfl)(rJ:#[29].any (·.1)=false:=by rfl)(ht:eval (.Call (.Attribute o m apos) (e :: es) [] pos) X.env=(do
   let ov <- eval o X.env
   standAt apos.atName
   let (f,first) <- holding [ov] (getMethod ov m pl)
   callWith pos f first (backTo pos (WU (e :: es) X.env)) (backToKw pos (keywordEach [] X.env))):=by rfl):
  PE X (.Call (.Attribute o m apos) (e :: es) [] pos) (Rn C m sp [] E0 ta t):=by
 obtain⟨f,fd,hm,hb,F⟩:=G.ex
 exact acq ho G.cl hm F (hr.mono K0) hb .nil aae ha tR rJ ht
section
theorem aa7(r:Vals #[14] us):∀ (j:Nat) (u:Value),us[j]?=some u->∃ n t,ns[j]?=some n/\u=yI n t:=by
 intro j u hu
 have hj:j<us.length:=(jb.mp hu).1
 have hl:=r.length
 rw[jZ]at hl
 obtain⟨v,hv,rv⟩:=r.get (i:=j) (x:=V.int (ns[j]'#[0])) (by rw[jV,jC #[0]];rfl)
 rw[hu]at hv
 cases hv
 obtain⟨t,rfl⟩:=(show ∃ t,u=yI _ t from rv)
 exact⟨_,t,jC #[0],rfl⟩
end
def Rw(K:Yv)(a:Qu):It:=
 ⟨fun i H=>∃ xs x,lh K H a xs/\xs[i]?=some x,fun i H v H'=>∃ T x,v=.ref T/\H T=none/\H'=upd H T (.tup [.int i,x])/\∀ xs,lh K H a xs->xs[i]?=some x,fun i H=>∃ xs,lh K H a xs/\xs.length<=i⟩
theorem OP{x1:_}(a e it:Qu):Turn P w K (.Tuple elts x1 pos) (Rw K a) [e,it] e (fun i h=>(∃ old,IsEnum h e it i old)/\h.IsListIter it a i) where
 mem:=by simp
 obj:=fun i h st b hb=>by
  have q:b=e\/b=it:=by simpa using hb
  rcases q with rfl|rfl
  ·obtain⟨⟨old,st⟩,_⟩:=st
   exact⟨_,st,fun v z=>by
    have z':Data.fields _=Data.cell v:=z
    cases z'⟩
  ·obtain⟨_,o,e,c,d⟩:=st
   exists 21
 keep:=fun i h h' st k=>⟨let ⟨old,z⟩:=st.1;⟨old,k e #[11] _ z⟩,st.2.at fun o z=>k it #[11] o z⟩
 item:=by
  exists 0
  subst hP hw hK
  obtain⟨xs,x,hq,hx⟩:=hg
  obtain⟨aV,rv,p,hz⟩:=I.list hq
  obtain⟨u,hu,ru⟩:=rv.get hx
  obtain⟨⟨old,he⟩,hit⟩:=st
  have p':s.heap.IsList a aV.toArray:=p.isList
  have fe:=hf e #[11]
  have fi:=hf it #[11]
  have ne:e≠it:=fun z=>by
   subst z
   obtain⟨o,e1,c,d⟩:=hit
   rw[he]at e1
   cases e1
   have c':yK "enumerate" = yK "list_iterator" := c
   injection c' with c'
   exact absurd c' #[8]
  have nae:a≠e:=fun z=>by
   subst z
   obtain⟨o,e1,c,d⟩:=p'
   rw[he]at e1
   cases e1
   have c':yK "enumerate" = yK "list" := c
   injection c' with c'
   exact absurd c' #[8]
  have nai:a≠it:=fun z=>by
   subst z
   obtain⟨o,e1,c,d⟩:=p'
   obtain⟨o2,e2,c2,d2⟩:=hit
   rw[e1]at e2
   cases e2
   rw[c]at c2
   injection c2 with c'
   exact absurd c' #[8]
  have hi:i<aV.toArray.size:=by
   have:i<aV.length:=(jb.mp hu).1
   simpa using this
  have D:=Draws.list (prog:=X.prog) (w:=X.w) (A:=X.A.in1) (show X.A.in1.handled=none from I.ok.hd hc) it a nai aV.toArray
  refine Yd D he ⟨hit,p'⟩ hi ne (by simp[ne,Ne.symm nae]) fun y h1 tk hy ho OJ hT hsz hk=>?_
  have ey:y=u:=by
   have:aV.toArray[i]?=some u:=by simpa using hu
   rw[this]at hy
   exact(Option.some.inj hy).symm
  subst ey
  refine⟨_,rfl,YK ho fun h2 he2 hs2=>?_⟩
  have fr:H s.heap.objs.size=none:=I.hok.fresh (jF _)
  have I1:Inv X pins σ #[53] { s with heap:=s.heap.push { cls:=.type "tuple",data:=.seq #[.int i tk,y] },toks:=tk+1 }:=
   I.laid (o:=.tup [.int i,x]) (fun b ob q=>jA _ q) (jF _) ⟨by show 2<=sizeLine;decide,[.int i tk,y],.cons ⟨tk,rfl⟩ (.cons ru .nil),⟨_,jH _ rfl,rfl,_,rfl⟩⟩
  have lt:∀ b∈[e,it],b<s.heap.objs.size:=fun b hb=>by
   have q:b=e\/b=it:=by simpa using hb
   rcases q with rfl|rfl
   ·exact jI he
   ·obtain⟨o,e1,_⟩:=hit
    exact jI e1
  have f2:∀ b∈[e,it],rE X pins #[53] b:=fun b hb=>by
   refine⟨?_,(hf b hb).2⟩
   rw[aj (jM (lt b hb))]
   exact(hf b hb).1
  have I2:Inv X pins σ #[53] { s with heap:=h2,toks:=tk+1 }:=by
   refine I1.Rr (t' := tk+1) (h' := h2) (fun b o b1 b2 q=>?_) (f2 e #[11]) (f2 it #[11])
   refine(hs2.2 b b1).trans ?_
   rcases ZC (show(s.heap.push { cls:=.type "tuple",data:=.seq #[.int i tk,y] }).get? b=some o from q)with⟨rfl,rfl⟩|z
   ·exact hT
   ·exact hk b o b1 b2 z
  refine⟨.ref s.heap.objs.size,_,I2,rfl,⟨s.heap.objs.size,x,rfl,fr,rfl,fun ys hy=>by rw[I.DG hy hq];exact hx⟩,⟨⟨y,?_⟩,?_⟩,fun b hb=>(f2 b hb).1⟩
  ·have:((i+1:Nat):Int)=(i:Int)+1:=by push_cast;rfl
   rw[this]
   exact he2
  ·exact OJ.1.at fun o z=>(hs2.2 it (Ne.symm ne)).trans z
 done:=by
  exists 0
  subst hP hw hK
  obtain⟨xs,hq,hx⟩:=hg
  obtain⟨aV,rv,p,hz⟩:=I.list hq
  obtain⟨⟨old,he⟩,hit⟩:=st
  exists 2
  have p':s.heap.IsList a aV.toArray:=p.isList
  have hl:=rv.length
  have hT:s.TypeIs (.ref e) "enumerate" := ⟨_,he,rfl⟩
  unfold pyNext
  refine Wj (Wi (Wl (name:=Str.ofString "__next__") hT yw
   (Wm yw hT Xy ?_ (Xr _))))
  show wpAny _ _ (field (.ref e) 2>>=_) _ _ _
  refine Wj (Wx he rfl (x:=.ref it) rfl ?_)
  refine Wj (wpAny_nextOf_list_end (show X.A.in1.handled=none from I.ok.hd hc) hit p' (by simp;omega) fun h' x he' Iq=>?_)
  obtain⟨o,ho,Px⟩:=Iq
  refine Wj (YD (T := "StopIteration") (b:=true) ⟨o,ho,Px⟩ WI ?_)
  exact YX ⟨rfl,I.turned (t' := s.toks) (fun b o hb z=>he' b o hb z) f0 f1 f3 f4 f5⟩
 self:=fun _ _ _ _ _ st h=>let ⟨_,z⟩:=st.1;YY z h
section
def aeF(K:Yv)(tl:TA):TI:=fun σ H R=>tl σ H fun vs H1=>∃ a,vs=[.ref a]/\(∃ xs,lh K H1 a xs)/\R (Rw K a) H1
theorem DM{x1:_}(hg:Gl X "enumerate")(hm:X.mg "enumerate" = none)(hl:PA X [l] tl)(hs:WU [l] X.env=[(false,eval l X.env)]:=by rfl):
  PI X (.Tuple elts x1 SR) (.Call (.Name "enumerate" p) [l] [] pos) (aeF X.K tl):=by
 intro pins s σ H R I h
 refine Qz (mB I hg hm Ah (yG (bP (hl pos pins s σ H _ I h) fun us s1 ⟨vs,H1,I1,r1,q1⟩=>?_) hs rfl))
 obtain⟨a,e,⟨xs,hq⟩,q⟩:=q1
 subst e
 cases r1 with
 | cons r rr =>
  cases rr
  cases r
  obtain⟨aV,rv,p,hz⟩:=I1.list hq
  refine call_enumerate_list (show s1.heap.IsList a aV.toArray from p.isList) fun h' he hit hsz hk=>?_
  refine YY he ?_
  refine⟨s1.heap.objs.size+1,[s1.heap.objs.size+1,s1.heap.objs.size],_,_,H1,rfl,I1.kept (t' := s1.toks) hk,OP a _ s1.heap.objs.size,⟨⟨_,he⟩,hit⟩,fun b hb=>?_,q⟩
  have e:b=s1.heap.objs.size+1\/b=s1.heap.objs.size:=by simpa using hb
  rcases e with rfl|rfl
  ·exact I1.Bf (JF _) (I1.hok.fresh (JF _))
  ·exact I1.Bf (jF _) (I1.hok.fresh (jF _))
end
theorem Fc{g:TG}(Pv:Nat->St->Hp->Prop)(h0:Pv 0 σ H)(hl:∀ i σ H,i<=xs.length->Pv i σ H->lh K H a xs)(hs:∀ i x σ H T,xs[i]?=some x->Pv i σ H->H T=none->g (.ref T) σ (upd H T (.tup [.int i,x])) fun σ2 H2=>tb { D with nx:=Pv (i+1),ct:=Pv (i+1),bk:=D.nx } σ2 H2)(hd:∀ σ H,Pv xs.length σ H->D.nx σ H):
  ∃ W:Nat->Nat->St->Hp->Prop,(∃ m,W 0 m σ H)/\∀ i m σ H,W i m σ H ->
   ((Rw K a).stop i H/\D.nx σ H)\/((Rw K a).go i H/\∃ N:St->Hp->Prop,#[18]/\∀ x H',(Rw K a).yld i H x H'->g x σ H' fun σ2 H2=>tb { D with nx:=N,ct:=N,bk:=D.nx } σ2 H2):=by
 exists 9
 rintro i m σ H ⟨rfl,hi,p⟩
 have q:=hl i σ H hi p
 by_cases cT:i<xs.length
 ·exists 6
  obtain⟨T,x0,rfl,hT,rfl,y⟩:=y
  exact hs i x0 σ _ T (y xs q) p hT
 ·have e:i=xs.length:=by omega
  subst e
  exact .inl ⟨⟨xs,q,jF _⟩,hd σ H p⟩
theorem aaO{t u a b:Option V}:((((B.set 0 t).set 1 u).set 0 a).set 1 b)=(B.set 0 a).set 1 b:=by
 rw[List.set_comm u a (l:=B.set 0 t) (by decide:(1:Nat)≠0),Jz,Jz]
theorem ME{J:It}{item:Nat->V}{g:TG}(Pv:Qu->Nat->List V->Hp->Prop)(hg:∀ (T:Qu) (σ:St) (H:Hp) (Q:St->Hp->Prop) (i:Int) (x:V),H T=some (.tup [.int i,x])->Q ((σ.set 0 (some (.int i))).set 1 (some x)) H->g (.ref T) σ H Q)(h0:∀ D,H D=none->Pv D 0 [] (upd H D (.lst [])))(J8:∀ D i ys H',i<n->Pv D i ys H'->J.go i H'/\∀ x H2,J.yld i H' x H2->∃ T,x=.ref T/\H' T=none/\H2=upd H' T (.tup [.int i,item i]))(tR:∀ D ys H',Pv D n ys H'->J.stop n H')(hs:∀ D i ys H' T (Q':VK),H D=none->i<n->H' D=some (.lst ys)->Pv D i ys H'->H' T=none->#[9] ->
   te (((aX ix σ).set 0 (some (.int i))).set 1 (some (item i))) (upd H' T (.tup [.int i,item i])) Q')(hd:∀ D ys H',H D=none->H' D=some (.lst ys)->Pv D n ys H'->Qd D H'):wQ J ix g te σ H Qd:=by
 intro D hD
 refine⟨fun i m σ' H'=>m=n-i/\i<=n/\(σ'=aX ix σ\/∃ t u,σ'=((aX ix σ).set 0 t).set 1 u)/\∃ ys,H' D=some (.lst ys)/\Pv D i ys H',⟨n,by simp,je _,.inl rfl,[],ae,h0 D hD⟩,?_⟩
 exists 24
 by_cases cT:i<n
 ·obtain⟨g1,g2⟩:=J8 D i ys H' cT p
  refine .inr ⟨g1,fun x H2 y=>?_⟩
  obtain⟨T,rfl,hT,rfl⟩:=g2 x H2 y
  refine hg T σ' _ _ i (item i) ae ?_
  have es:((σ'.set 0 (some (V.int i))).set 1 (some (item i)))=((aX ix σ).set 0 (some (V.int i))).set 1 (some (item i)):=by
   rcases hσ with z|⟨t,u,z⟩
   ·rw[z]
   ·rw[z,aaO]
  show te ((σ'.set 0 (some (V.int i))).set 1 (some (item i))) _ _
  rw[es]
  refine hs D i ys _ T _ hD cT hy p hT fun y H4 h4 hz p4=>⟨ys,h4,hz,n-(i+1),by omega,rfl,cT,.inr ⟨_,_,rfl⟩,ys++[y],ae,p4⟩
 ·have e:i=n:=by omega
  subst e
  exact .inl ⟨tR D ys H' p,hd D ys H' hD hy p⟩
theorem PN{k:Key}(h:BO k v=true):RelV (kV k) v:=by
 rcases cB h with⟨n,t,rfl,rfl⟩|⟨x,t,rfl,rfl⟩
 ·exact⟨t,rfl⟩
 ·exact⟨t,rfl⟩
section
abbrev wW(v d:Qu):HO:=.ext fun h=>h.IsItemsView v d
def afn:V->List V->Hp->VK->Prop:=fun x vs H Q=>∃ d kvs,x=.ref d/\vs=[]/\H d=some (.dK kvs)/\∀ v,H v=none->Q (.ref v) (upd H v (wW v d))
theorem Y1:MtM X "dict.items" afn:=by
 exists 28
 obtain⟨d,kvs,rfl,rfl,hd,q⟩:=h
 cases rx
 have hus:=rv.zero
 subst hus
 obtain⟨z,lo,vs,kv,dof⟩:=(show bA X.prog X.w H s.heap d (.dK kvs)from I.hok d _ hd)
 refine qp Xs dof.typeIs PySem.F.entry_dict_items (PySem.F.args_dict_items_1 _) (meets_dict_items (bq X.prog X.w) d lo) ⟨⟨vs,dof⟩,?_⟩
 refine⟨.ref _,_,I.laid (o:=wW s.heap.objs.size d) (t' := s.toks) (fun b o e=>jA _ e) (jF _) ?_,rfl,q _ #[56]⟩
 exact⟨⟨_,jH _ rfl,rfl,rfl⟩,⟨_,jH _ rfl⟩,fun h1 h2 ⟨o,ho,x⟩ kp=>⟨o,kp o ho,x⟩⟩
end
end L2
namespace PySem
open PyProof.Rows
namespace F
end F
end PySem
namespace L2
open PySem PySem.Spec PyProof.Rows
variable{X:Cx}{o:Expr}{es:List Expr}{pos:Pos}{n:Nat}{m:qW}{C:Qu}{ps:List qW}{sp:Sp}{ta:TE}{prog:qR}{w:World}{A:Around}{s:qV}{D:Ends}{σ:St}{H:Hp}
section
theorem acu(K:Yv){k:Nat}{t:TGs}(hc:X.calm=true)(h:PGs X es t)(hK:X.K=K:=by rfl)(hn:(qZ es X.env).length=n:=by rfl)(tR:(qZ es X.env).findIdx? (·.1)=none:=by rfl):PG X (.Tuple es k pos) (ag5 K n t):=by
 subst hK
 exact wG hc h hn tR
theorem Ot{j k:Nat}{apos:Pos}{pl:qS Bool}(G:rL X.prog X.w X.K X.mg X.base C m k ps sp)(hr:cV j X.A)(ho:PE X o ta)(K0:k<=j:=by decide)(ht:eval (.Call (.Attribute o m apos) [] [] pos) X.env=(do
   let ov <- eval o X.env
   standAt apos.atName
   let (f,first) <- holding [ov] (getMethod ov m pl)
   callWith pos f first (backTo pos (WU [] X.env)) (backToKw pos (keywordEach [] X.env))):=by rfl):
  PE X (.Call (.Attribute o m apos) [] [] pos) (Rn C m sp [] E0 ta acP):=by
 obtain⟨f,fd,hm,hb,F⟩:=G.ex
 exact aaj ho G.cl hm F (hr.mono K0) hb .nil aae ht
end
theorem eO{t u:TS}(R:St->Hp->Prop)(h1:∀ σ' H',R σ' H'->u D σ' H')(h2:∀ D':Ends,(∀ σ' H',R σ' H'->D'.nx σ' H')->t D' σ H):OM t u D σ H:=
 h2 { D with nx:=u D } h1
theorem tu:ie X (.builtin "len") (fun xs H Q=>∃ a kvs,xs=[.ref a]/\H a=some (.dK kvs)/\Q (.int kvs.length) H):=by
 exists 15
 obtain⟨a,kvs,rfl,ha,q⟩:=h
 exists 22
 cases rx
 exact agW I (.inl ha) fun t s' I'=>⟨.int kvs.length,H,I',⟨t,rfl⟩,q⟩
theorem EA(l b:Qu)(items Dy:Array Value)(n n2:Nat)(dc:Option Qu)(sl:Array (Option Value))(h0:¬(!items.isEmpty&&yb (items.size+Dy.size))=true)(h1:items.size<=sizeLine)(h2:items.size+Dy.size<=sizeLine+1):
  Meets (Builtin.«list.extend» ⟨[.ref l,.ref b],[]⟩) (fun _ R s=>s.heap.get? l=some { cls:=.type "list",dict:=none,data:=.seq items n,slots := #[] }/\s.heap.get? b=some { cls:=.type "tuple",dict:=dc,data:=.seq Dy n2,slots:=sl }/\R (.ok (.ret yC)) { s with heap:=s.heap.update l (Obj.mapSeq (·++Dy)) }):=
 .of_wp fun prog w A R s h=>by
  obtain⟨hp,g,d,tk,os⟩:=s
  obtain⟨hl,hb,h⟩:=h
  have f1:=AutoSeq1.idx_int
  have f2:=AutoSeq1.sub_tuple_tuple
  have f3:=AutoSeq1.sub_list_list
  have f4:=AutoSeq1.sub_tuple_list
  have f5:=AutoSeq1.sub_list_tuple
  have Fg:(items++Dy).size<=sizeLine+1:=by rw[Array.size_append];exact h2
  wp_walk using (Yu hl rfl (hz:=h1) (_hz' := Fg)),wpAny_loadPart' hl,wpAny_loadPart' hb
  exact⟨_,rfl,h⟩
section
def LQ:V->List V->Hp->VK->Prop:=fun x vs H Q=>∃ l b xs zs,x=.ref l/\vs=[.ref b]/\H l=some (.lst xs)/\H b=some (.tup zs)/\xs.length+zs.length<=sizeLine/\Q .non (upd H l (.lst (xs++zs)))
theorem N6:MtM X "list.extend" LQ:=by
 exists 28
 obtain⟨l,b,xs,zs,rfl,rfl,hH,hB,hz,q⟩:=h
 cases rx
 obtain⟨u,rfl,ru⟩:=rv.one
 cases ru
 obtain⟨z,aV,n,r,hl,e⟩:=I.Cf hH
 obtain⟨wC,r2,ht,hz2⟩:=I.tuple (mT.of (K:=X.K) hB)
 have hl2:=r2.length
 obtain⟨⟨c,dc,da,sl⟩,e2,c2,n2,d2⟩:=ht
 cases c2
 cases d2
 have hsz:aV.toArray.size+wC.toArray.size<=sizeLine:=by rw[jP,jP];omega
 have V3:¬ (!aV.toArray.isEmpty&&yb (aV.toArray.size+wC.toArray.size))=true:=by
  rw[Lo hsz,zJ]
  exact jd
 refine qj xX ⟨_,e,rfl⟩ xM (xH _ _)
  (EA l b aV.toArray wC.toArray n n2 dc sl V3 (by rw[jP];omega) #[0]) ⟨e,e2,?_⟩
 refine⟨.non,_,I.ab5 (its' := aV++wC) hH e #[11] (r.append r2) ?_,rfl,q⟩
 rw[jL]
 omega
def aaH:V->List V->Hp->VK->Prop:=fun x vs H Q=>Q1 x vs H Q\/LQ x vs H Q
theorem N5:MtM X "list.extend" aaH:=by
 exists 28
 rcases h with h|h
 ·exact Sf pins s σ H x vs v us Q I rx rv h
 ·exact N6 pins s σ H x vs v us Q I rx rv h
end
end L2
namespace PySem
open PyProof.Rows
variable{prog:qR}{w:World}{A:Around}{E:Value→qV→Prop}{s:qV}{a l:Qu}{xs:Array Value}{sl:Array (Option Value)}{Q:Option Value→qV→Prop}{K:Type}{R:Result→qV→Prop}{ts:List Qu}{c:Nat}
theorem DA:typeLookup (.type "list") "keys" = pure none:=by rw[Wb,qg];kernel_rfl
theorem sq{k:Nat}(hx:s.heap.get? a=some { cls:=.type "list",dict:=none,data:=.seq xs k,slots:=sl })(hA:A.handled=none)(h:∀ h' tk,#[61]->Q none { s with heap:=h',toks:=tk }):wpAny #[6] A (getAttr? (.ref a) "keys") Q E s:=by
 obtain⟨hp,g,d,tk,os⟩:=s
 have hT:∀ tk',(⟨hp,g,d,tk',os⟩:qV).TypeIs (.ref a) "list" := fun _=>⟨_,hx,rfl⟩
 have f1:=sub_AttributeError
 have f3:=F.slot_list_getattribute.lookup
 have f4:=F.slot_list_getattribute.bind (.ref a)
 have f5:=am_list_getattr_none
 have ahO:=DA
 have ahQ:(["__module__","__name__","__qualname__","__doc__","__annotations__"]:List qW).contains (Str.ofString "keys")=false:=by decide +kernel
 unfold getAttr? getAttrBy? getAttrBy
 repeat (any_goals (first|assumption|exact hT _|((with_reducible show wpAny _ _ (call (yS "list.__getattribute__") _ _) _ _ _);refine qj F.slot_list_getattribute (hT _) am_entry_list_getattribute (F.args_list_getattribute_2 _ _) (meets_getattribute_miss_list a xs k sl (Str.ofString "keys") _ ahO ahQ #[8]) ⟨hx,hA,fun h' tk' e Iq=>?_⟩)|wp_step))
 obtain⟨t',u',he⟩:=Iq.there
 show wpAny _ _ (getattributeRaised _ _ _ _ _ _ _) _ _ _
 unfold getattributeRaised
 exists 17
 exact h h' tk' Iq.keeps
section
variable[DecidableEq K]{knd:KeyKind prog w K}
theorem dR:entryFor table "dict.update.loop" = some Builtin.«dict.update.loop» := WE (by kernel_rfl)
theorem bJ:plainId "dict.update.loop" = true:=by decide +kernel
def CM(knd:KeyKind prog w K)(h:Heap)(ts:List Qu)(ps:List (K×Value)):Prop := ∀ (j:Nat) (t:Qu) (p:K×Value),ts[j]?=some t->ps[j]?=some p->∃ key,knd.is p.1 key=true/\qK h t #[key,p.2]
theorem Mf{D I:Qu}{ps:List (K×Value)}(W:Walks prog w A.in1 I [I,l] [I] ts.length (fun i v=>(ts.map Yw).toArray[i]?=some v) (fun i h=>h.IsListIter I l i/\h.IsList l (ts.map Yw).toArray))(hl:ts.length=ps.length)(hDI:D≠I)(hDl:D≠l)(hDt:∀ t∈ts,t≠D/\t≠I)(hz:ps.length<=sizeLine):
  ∀ (k i:Nat) (s:qV) (acc:List (K×Value)),ts.length-i=k->i<=ts.length->(s.heap.IsListIter I l i/\s.heap.IsList l (ts.map Yw).toArray)->s.heap.DictOf knd D acc->acc.length<=i->CM knd s.heap ts ps ->
  (∀ h' tk,(∀ b o,b≠D->b≠I->s.heap.get? b=some o->h'.get? b=some o)->h'.DictOf knd D (merged acc (ps.drop i))->R (.ok (.ret .none)) { s with heap:=h',toks:=tk }) ->
  codeAny #[6] A (.builtin "dict.update.loop" ⟨[.ref D,.ref I,rawInt (i:Int),.none],[]⟩) R s:=by
 intro k
 induction k with
 | zero =>
  intro i s acc hk hi tR hD lA hP hR
  have oV:i=ts.length:=by omega
  subst oV
  refine qv dR ?_
  rw[Around.under_plainId bJ _]
  show wpAny _ A.in1 (pyNext (.ref I)>>=_) _ _ s
  refine Wj (W.done s _ _ tR fun h' tk hm=>?_)
  show wpAny _ _ (Xm D []>>=_) _ _ _
  refine Wj (YV (a:=()) rfl ?_)
  have e:ps.drop ts.length=[]:=by rw[hl,zA]
  refine YX (hR h' tk (fun b o _ hb q=>hm b o (by simpa using hb) q) ?_)
  rw[e]
  exact hD.extBut (b:=I) (fun b o hb q=>hm b o (by simpa using hb) q) hDI
 | succ k ih =>
  intro i s acc hk hi tR hD lA hP hR
  have cT:i<ts.length:=by omega
  have V4:i<ps.length:=by omega
  refine qv dR ?_
  rw[Around.under_plainId bJ _]
  show wpAny _ A.in1 (pyNext (.ref I)>>=_) _ _ s
  refine Wj (W.item i s _ _ cT tR fun v h' tk hv Hy hm=>?_)
  have ev:v=.ref ts[i]:=by
   have:(ts.map Yw).toArray[i]?=some (.ref ts[i]):=by simp[cT]
   rw[this]at hv
   exact(Option.some.inj hv).symm
  subst ev
  have keep:∀ b o,b≠I->s.heap.get? b=some o->h'.get? b=some o:=fun b o hb q=>hm b o (by simpa using hb) q
  obtain⟨key,U9,ht⟩:=hP i ts[i] ps[i] (jC cT) (jC V4)
  have tn:=hDt ts[i] (jG cT)
  have S8:qK h' ts[i] #[key,(ps[i]).2]:=ht.extBut (b:=I) keep tn.2
  have hD':h'.DictOf knd D acc:=hD.extBut (b:=I) keep hDI
  obtain⟨ot,hot,hct,nt,hdt⟩:=id S8
  try dsimp only
  refine Wj (YC ?_)
  refine Wj (wpAny_tryCatch ?_)
  unfold Xz
  refine Wj (Yt (s:={ s with heap:=h',toks:=tk }) S8.typeIs ?_)
  rw[if_pos #[8]]
  refine Wj (Yi (s:={ s with heap:=h',toks:=tk }) hot hdt ?_)
  refine YX ?_
  show wpAny _ _ (holding [key,(ps[i]).2] (dictSet D key (ps[i]).2)) _ _ _
  refine YC (wpAny_dictSet_pairs (knd:=knd) (s:={ s with heap:=h',toks:=tk }) U9 hD' (fun h2 hD2 sb2=>?_) #[0])
  have tZ:∀ b o,b≠D->h'.get? b=some o->h2.get? b=some o:=fun b o hb q=>sb2.extBut b o hb q
  refine YX ⟨WO bJ _,?_⟩
  have ri:rawInt ((i:Int)+1)=rawInt (((i+1:Nat)):Int):=by push_cast;rfl
  rw[ri]
  refine ih (i+1) { s with heap:=h2,toks:=tk+1 } (stored acc (ps[i]).1 (ps[i]).2) #[0] cT ⟨Hy.1.at fun o q=>tZ I o (Ne.symm hDI) q,Hy.2.at fun o q=>tZ l o (Ne.symm hDl) q⟩ hD2 (by
   have:=stored_length_le acc (ps[i]).1 (ps[i]).2
   omega) (fun j t p h1 Cs=>?_) (fun h3 tk3 Ir Cc=>?_)
  ·obtain⟨alU,U8,aez⟩:=hP j t p h1 Cs
   have tn' := hDt t (zP h1)
   exact⟨alU,U8,(aez.extBut (b:=I) keep tn'.2).extBut (b:=D) tZ tn'.1⟩
  ·refine hR h3 tk3 (fun b o hb hb2 q=>Ir b o hb hb2 (tZ b o hb (keep b o hb2 q))) ?_
   rw[jy V4]
   exact Cc
theorem B8{ps:List (K×Value)}{Q:Value->qV->Prop}(hh:A.handled=none)(hL:s.heap.get? l=some { cls:=.type "list",dict:=none,data:=.seq (ts.map Yw).toArray c,slots := #[] })(hl:ts.length=ps.length)(hP:CM knd s.heap ts ps)(hz:ps.length<=sizeLine)(hQ:∀ h' tk,#[61]->h'.DictOf knd s.heap.objs.size (merged [] ps)->Q #[13] { s with heap:=h',toks:=tk }):
  wpAny #[6] A (call (.type "dict") [.ref l]) Q E s:=by
 refine qh (Q₁:=fun obj s₁=>obj=.ref s.heap.objs.size/\s₁={ s with heap:=s.heap.push { cls:=.type "dict",data:=.dict #[] } }) xw (xJ _) xo (WK _ ⟨rfl,rfl⟩) ?_
 rintro obj s₁ ⟨rfl,rfl⟩
 have MV:#[28].DictOf knd s.heap.objs.size []:=GG s.heap
 have cT:l<s.heap.objs.size:=jI hL
 have hL':#[28].get? l=some { cls:=.type "list",dict:=none,data:=.seq (ts.map Yw).toArray c,slots := #[] }:=jA _ hL
 exists MV.typeIs,xY _ _
 unfold Builtin.«dict.__init__»
 refine Wj ?_
 unfold Xn
 refine Wj (YU MV.typeIs ?_)
 show wpAny _ _ (pure (s.heap.objs.size,[Yw l])) _ _ _
 refine YX ?_
 show wpAny _ _ (yo "dict.__init__" s.heap.objs.size (.ref l) [] .none) _ _ _
 unfold yo
 refine Wj (Yt (T := "list") ⟨_,hL',rfl⟩ ?_)
 rw[if_pos #[8]]
 refine Wj (sq hL' hh fun h1 tk1 Ew=>?_)
 rw[if_pos #[41]]
 refine Wj (Yg ?_)
 have hL1:=Ew _ _ hL'
 have il1:gE h1 l (ts.map Yw).toArray:=⟨_,hL1,rfl,c,rfl⟩
 refine Wj (YZ (s:={ s with heap:=h1,toks:=tk1 }) il1 ?_)
 refine YX ⟨WO bJ _,?_⟩
 have oI:#[45].get? h1.objs.size=some { cls:=.type "list_iterator",data:=.fields #[.ref l,.int 0 0] }:=jH _ rfl
 have l1:l<h1.objs.size:=jI hL1
 have d1:s.heap.objs.size<h1.objs.size:=jI (Ew _ _ (jH s.heap rfl))
 have W:=Walks.list (prog:=prog) (w:=w) (A:=A.in1.in1) hh h1.objs.size l (jM l1) (ts.map Yw).toArray
 have sz:(ts.map Yw).toArray.size=ts.length:=by simp
 rw[sz]at W
 have kp2:∀ b o,s.heap.get? b=some o->#[45].get? b=some o:=fun b o q=>jA _ (Ew _ _ (jA _ q))
 refine Mf (A:=A.in1) (knd:=knd) (D:=s.heap.objs.size) (ps:=ps) W hl (jM d1) (JX cT) (fun t ht=>?_) hz ts.length 0 { s with heap:=h1.push { cls:=.type "list_iterator",data:=.fields #[.ref l,.int 0 0] },toks:=tk1 } [] rfl (je _) ⟨⟨_,oI,rfl,rfl⟩,il1.at fun o q=>jA _ q⟩ ?_ (je _) (fun j t p a1 a2=>?_) (fun h3 tk3 Ir Cc=>?_)
 ·obtain⟨j,hj⟩:=JH.mp ht
  have jl:j<ps.length:=by
   rw[<- hl]
   exact(jb.mp hj).1
  obtain⟨key,_,o,ho,_⟩:=hP j t ps[j] hj (jC jl)
  have tl:=jI ho
  exact⟨jM tl,jM (Jt tl d1)⟩
 ·exact MV.extBut (b:=h1.objs.size) (fun b o _ q=>jA _ (Ew _ _ q)) (jM d1)
 ·obtain⟨key,hk,ht⟩:=hP j t p a1 a2
  exact⟨key,hk,ht.keeps kp2⟩
 ·exact⟨rfl,hQ h3 tk3 (fun b o q=>Ir b o (jM (jI q)) (jM (Jt (jI q) d1)) (kp2 b o q)) Cc⟩
end
end PySem
namespace L2
open PySem PySem.Spec PyProof.Rows
variable{X:Cx}{P:qR}{w:World}{pins:List (Qu×Obj)}{σ:St}{H:Hp}{s:qV}{a I:Qu}{z:V}{u:Tok}{A:Around}{E Q Q₁:Value→qV→Prop}{kvs:List (Key×V)}{o:Obj}{h:Heap}{K:Yv}{tg l:Expr}{tl:TE}{elts:List Expr}{pos SR:Pos}{tb:TS}{D:Ends}{i j n ep:Nat}{α:Type}{b wd:Bool}{ns:List Int}{R:Result→qV→Prop}{items:Array Value}
section
def ir(H:Hp):List Qu->List (Key×V)->Prop:=qP fun a p=>H a=some (.tup [kV p.1,p.2])
theorem DI:∀ {kvs:List (Key×V)} {ts:List Qu} {H:Hp} {h:Heap},ir H ts kvs->ik P w H h->∃ ps:List (Key×Value),KV kvs ps/\ps.length=ts.length/\CM (bq P w) h ts ps
 | [],[],_,_,.nil,_=>⟨[],.nil,rfl,fun j t p h=>by simp at h⟩
 | _,_,_,_,.cons (a:=a) (b:=p) (l₁:=ts) (l₂:=kvs) q t,ok=>by
  obtain⟨ps,r1,r2,r3⟩:=DI t ok
  obtain⟨z,aV,rv,ht⟩:=ok a _ q
  obtain⟨u,v,rfl,ru,rv'⟩:=Vals.two rv
  refine⟨(p.1,v) :: ps,.cons ⟨rfl,rv'⟩ r1,by simp[r2],fun j t' p' h1 h2=>?_⟩
  cases j with
  | zero =>
   simp at h1 h2
   subst h1 h2
   exact⟨u,sk ru,by simpa using ht⟩
  | succ j=>exact r3 j t' p' (by simpa using h1) (by simpa using h2)
def acB:List V->Hp->VK->Prop:=fun xs H Q=>∃ l ts kvs,xs=[.ref l]/\H l=some (.lst (ts.map V.ref))/\ir H ts kvs/\∀ D,H D=none->Q (.ref D) (upd H D (.dK (dN [] kvs)))
theorem tK:∀ {ts:List Qu} {us:List Value},Vals (ts.map V.ref) us->us=ts.map Yw
 | [],_,.nil=>rfl
 | t :: ts,_,.cons r q=>by
  cases r
  rw[JJ,tK q]
theorem rV(hc:X.calm=true):ie X (.type "dict") acB:=by
 exists 15
 obtain⟨l,ts,kvs,rfl,hl,hp,q⟩:=h
 exists 22
 cases rx
 obtain⟨z,aV,n,rv,hln,e⟩:=I.Cf hl
 have ei:=tK rv
 subst ei
 obtain⟨ps,r1,r2,r3⟩:=DI hp I.hok
 have hlen:kvs.length=ps.length:=Paired.length r1
 have zl:ps.length<=sizeLine:=by
  rw[r2]
  rw[jZ]at z
  exact z
 refine B8 (knd:=bq X.prog X.w) (I.ok.hd hc) e r2.symm r3 zl fun h' tk kp dd=>?_
 have ob:bA X.prog X.w (upd H s.heap.objs.size (.dK (dN [] kvs))) h' s.heap.objs.size (.dK (dN [] kvs)):=by
  refine Df ?_ (beq_eq_false_iff_ne.mpr (Ne.symm (jM I.big))) (KV.merge r1 .nil) dd
  have:=oy kvs []
  simp only[Jn]at this
  omega
 exact⟨.ref _,_,I.laid (t' := tk) kp (jF _) ob,rfl,q _ #[56]⟩
end
section
variable{u r:Value}{k:Key}
theorem Hn(I:Inv X pins σ H s)(e:H a=some (.dK kvs))(hz:kvs.length<sizeLine)(ry:RelV (kV k) u)(rz:RelV z r)(h1:∀ v w' s',eC kvs k=some v->Inv X pins σ H s'->RelV v w'->Q w' s')(h2:∀ s',eC kvs k=none->Inv X pins σ (upd H a (.dK (putK kvs k z))) s'->Q r s'):
  wpAny #[4] A (call (.builtin "dict.setdefault") [.ref a,u,r]) Q E s:=by
 obtain⟨zl,hd,vs,rel,dd⟩:=Pl I.hok e
 have rv:=rel.val k
 refine qp XZ dd.typeIs PySem.F.entry_dict_setdefault (PySem.F.args_dict_setdefault_3 _ _ _) (kt_meets_setdefault (bq X.prog X.w) a (sk ry) hd r) ⟨vs,dd,by rw[<- rel.length];exact zl,fun v hv=>?_,fun hn h' MK sb=>?_⟩
 ·cases hk:eC kvs k with
  | none=>rw[hk,hv]at rv;exact rv.elim
  | some x =>
   rw[hk,hv]at rv
   exact h1 x v _ hk (I.tok _) rv
 ·have hk:eC kvs k=none:=by
   cases hk:eC kvs k with
   | none=>rfl
   | some x=>rw[hk,hn]at rv;exact rv.elim
  refine h2 _ hk (tw (t' := s.toks+1) I (by rw[e];trivial) sb ?_ (Df (kvs:=putK kvs k z) (by have:=iR kvs k z;omega) hd (rel.put k rz) MK))
  obtain⟨ob,_,_,g,_⟩:=MK
  exact⟨ob,g⟩
end
def aiM(td ty tx:TE):TE:=fun σ H Q=>td σ H fun x H1=>∃ a,x=.ref a/\IsD H1 a/\ty σ H1 fun y H2=>tx σ H2 fun z H3=>∃ kvs k,H3 a=some (.dK kvs)/\y=kV k/\kvs.length<sizeLine /\
 (∀ v,eC kvs k=some v->Q v H3)/\(eC kvs k=none->Q z (upd H3 a (.dK (putK kvs k z))))
section
variable{o e f:Expr}{apos cN:Pos}{td ty tx:TE}
theorem Cz(ho:PE X o td)(he:PE X e ty)(hf:PE X f tx)(m:M2 X o "setdefault" apos e f cN):PE X (.Call (.Attribute o "setdefault" apos) [e,f] [] cN) (aiM td ty tx):=by
 exists 5
 refine We m.base m.Hr m.line yd XZ PySem.F.type_dict_setdefault #[52]
 subst ex
 obtain rfl:u=Yw a:=rx
 obtain⟨t1,t2,_⟩:=HA I1 d
 exists t1,t2
 rw[m.trees]
 refine yW rfl (yk (yP (bP (he pins s1 σ H1 _ I1 q1) fun iv s2 ⟨y,H2,I2,ry,q2⟩ =>
  yP (bP (hf pins s2 σ H2 _ I2 q2) fun fv s3 ⟨z,H3,I3,rz,kvs,k,ea,ey,hz,q3,q4⟩=>yc ?_))))
 subst ey
 exact Hn I3 ea hz ry rz (fun v w' s' hv I4 rv=>⟨v,H3,I4,rv,q3 v hv⟩) fun s' hn I4=>⟨z,_,I4,rz,q4 hn⟩
end
section
theorem Inv.freeze(I:Inv X pins σ H s)(e:H a=some (.dK kvs))(ho:s.heap.get? a=some o):Inv X pins σ (upd H a (.pB o (.dK kvs))) s:=by
 have nt:∀ b u,H b=some u->(u=.dK kvs->False)->b≠a:=fun b u q d=>aG q e d
 exists 14
 ·rw[aj (fun z=>by rw[z,e]at n;cases n)];exact n
 ·rw[aj (nt b _ q #[1])];exact q
 ·rw[aj (nt b _ q #[1])];exact q
 ·rw[aj (nt b _ q #[1]),q];simp
 ·by_cases hb:b=a
  ·subst hb
   rw[ae]at q
   cases q
   exact⟨ho,(I.hok b _ e)⟩
  ·rw[aj hb]at q
   exact(I.hok b u q).AK (fun c v _ z=>z) (fun c z=>by rw[aj (nt c _ z (by intro y;cases y))];exact z) fun c xs z=>by rw[aj (nt c _ z (by intro y;cases y))];exact z
end
def lU(o:Obj):Nat:=match o.data with
 | .dict _ ep=>ep
 | _=>0
def Itd(a:Qu)(o:Obj)(kvs:List (Key×V)):It:=
 ⟨fun i H=>i<kvs.length/\H a=some (.pB o (.dK kvs)),fun i H x H'=>H'=H/\∀ p,kvs[i]?=some p->x=kV p.1,fun i H=>kvs.length<=i/\H a=some (.pB o (.dK kvs))⟩
def Iti(a:Qu)(o:Obj)(kvs:List (Key×V)):It:=
 ⟨fun i H=>i<kvs.length/\H a=some (.pB o (.dK kvs)),fun i H x H'=>∃ T p,x=.ref T/\H T=none/\H'=upd H T (.tup [kV p.1,p.2])/\kvs[i]?=some p,fun i H=>kvs.length<=i/\H a=some (.pB o (.dK kvs))⟩
theorem pz(ok:ik P w H h)(e:H a=some (.pB o (.dK kvs))):∃ vs,KV kvs vs/\h.DictAt (bq P w) a vs (lU o)/\(a==WX)=false/\h.get? a=some o:=by
 obtain⟨ho,z,lo,vs,rel,ob,es,ep,hg,hx,hd,rest⟩:=ok a _ e
 rw[ho]at hg
 cases hg
 have ee:lU o=ep:=by unfold lU;rw[hd]
 exact⟨vs,rel,⟨o,es,ho,hx,by rw[ee];exact hd,rest⟩,lo,ho⟩
theorem SS(a it:Qu)(o:Obj)(kvs:List (Key×V)):Turn P w K tg (Itd a o kvs) [it] it (fun i h=>h.IsKeyIter it a i kvs.length (lU o)) where
 mem:=by simp
 obj:=fun i h st b hb=>by
  have e:b=it:=by simpa using hb
  subst e
  obtain⟨o,e,c,d⟩:=st
  exists 21
 keep:=fun i h h' st k=>by
  obtain⟨ob,e,r⟩:=st
  exact⟨ob,k it #[11] ob e,r⟩
 item:=by
  exists 0
  subst hP hw hK
  obtain⟨hi,U2⟩:=hg
  obtain⟨vs,rel,dat,lo,ho⟩:=pz I.hok U2
  exists 23
  have hv:i<vs.length:=by omega
  exists 2
  rw[hlen]at st
  refine wpAny_pyNext_dict_item (knd:=bq X.prog X.w) st dat (k:=(vs[i]).1) (v:=(vs[i]).2) (jC hv) fun key h' hk Ea sb=>?_
  exists 4
  obtain⟨p,e1,e2⟩:=iT rel (jC hv)
  rw[<- hlen]at Ea
  obtain⟨ob,e,c,d⟩:=id Ea
  refine⟨key,rfl,Fd (s:={ s with heap:=h' }) e c d #[8] ⟨kV p.1,H,I1,?_,⟨rfl,fun p' Mj=>by rw[e1]at Mj;cases Mj;rfl⟩,Ea,fun b hb=>(hf b hb).1⟩⟩
  rw[e2.1]
  exact PN hk
 done:=by
  exists 0
  subst hP hw hK
  obtain⟨hi,U2⟩:=hg
  obtain⟨vs,rel,dat,lo,ho⟩:=pz I.hok U2
  exists 23
  exists 2
  rw[hlen]at st
  exact wpAny_pyNext_dict_end (I.ok.hd hc) st dat (Jb #[0]) fun h' eb=>⟨rfl,I.turned (t' := s.toks) (fun b o hb e=>eb b o hb e) f0 f1 f3 f4 f5⟩
 self:=fun A i s Q E st h=>by
  refine Yb st.typeIs yV (Wm yV st.typeIs XD ?_ (XB _))
  show wpAny _ _ (ret (.ref it)) _ _ s
  exact YX ⟨_,rfl,"dict_keyiterator",_,st.typeIs,PySem.F.slot_dict_keyiterator_next.lookup,h⟩
section
def ahY(tl:TE):TI:=fun σ H R=>tl σ H fun x H1=>∃ a kvs,x=.ref a/\((H1 a=some (.dK kvs)/\∀ o,R (Itd a o kvs) (upd H1 a (.pB o (.dK kvs))))\/∃ o,H1 a=some (.pB o (.dK kvs))/\R (Itd a o kvs) H1)
theorem acv(hl:PE X l tl):PI X tg l (ahY tl):=by
 intro pins s σ H R I h
 exists 18
 obtain⟨a,kvs,e,q⟩:=q1
 subst e
 cases r1
 have main:∀ (o:Obj) (H2:Hp),Inv X pins σ H2 s1->H2 a=some (.pB o (.dK kvs))->R (Itd a o kvs) H2->wpAny #[4] X.A (pyIter (.ref a)) (PIE X pins σ tg R) X.xe s1:=fun o H2 I2 e2 q2=>by
  obtain⟨vs,rel,dat,lo,ho⟩:=pz I2.hok e2
  exists 23
  refine wpAny_pyIter_dict lo dat ?_
  refine⟨s1.heap.objs.size,[s1.heap.objs.size],_,_,H2,rfl,I2.kept (t' := s1.toks) fun b o e=>jA _ e,SS a _ o kvs,⟨_,jH _ rfl,rfl,by rw[hlen];rfl⟩,fun b hb=>?_,q2⟩
  exists 26
  subst e
  exact I2.Bf (jF _) (I2.hok.fresh (jF _))
 rcases q with⟨hd,q⟩|⟨o,hd,q⟩
 ·obtain⟨z,lo,vs,rel,ob,es,ep,hg,rest⟩:=I1.hok a _ hd
  exact main ob _ (I1.freeze hd hg) ae (q ob)
 ·exact main o H1 I1 hd q
end
theorem B9:entryFor table "dict_itemiterator.__iter__" = some Builtin.«dict_keyiterator.__iter__» :=
 WD (id' := "dict_keyiterator.__iter__") (by kernel_rfl) (by first|rfl|decide +kernel|(unfold String.splitOn;simp +decide [String.splitOnAux])) #[3] (by kernel_rfl)
theorem OS{x1:_}(a it:Qu)(o:Obj)(kvs:List (Key×V)):Turn P w K (.Tuple elts x1 pos) (Iti a o kvs) [it] it (fun i h=>∃ ok ov,IsItemIter h it a i kvs.length (lU o) ok ov) where
 mem:=by simp
 obj:=fun i h st b hb=>by
  have e:b=it:=by simpa using hb
  subst e
  obtain⟨ok,ov,st⟩:=st
  exact⟨_,st,fun v z=>by
   have z':Data.fields _=Data.cell v:=z
   cases z'⟩
 keep:=fun i h h' st k=>by
  obtain⟨ok,ov,st⟩:=st
  exact⟨ok,ov,k it #[11] _ st⟩
 item:=by
  exists 0
  subst hP hw hK
  obtain⟨hi,U2⟩:=hg
  obtain⟨ok,ov,st⟩:=st
  obtain⟨vs,rel,dat,lo,ho⟩:=pz I.hok U2
  exists 23
  have hv:i<vs.length:=by omega
  exists 2
  rw[hlen]at st
  have itl:it<s.heap.objs.size:=jI st
  refine wpAny_pyNext_items_item (knd:=bq X.prog X.w) st dat (k:=(vs[i]).1) (v:=(vs[i]).2) (jC hv) fun key h' hk Ea ht hsz kp=>?_
  obtain⟨p,e1,e2⟩:=iT rel (jC hv)
  refine⟨.ref s.heap.objs.size,rfl,wpAny_letOwnedTupleGo_items (s:={ s with heap:=h' }) Ea fun h2 OK sb2=>?_⟩
  have kp2:∀ b u,s.heap.get? b=some u->b≠it->h2.get? b=some u:=fun b u e hb=>(sb2.2 b hb).trans (kp b u hb e)
  have nT:s.heap.objs.size≠it:=JX itl
  have ht2:h2.get? s.heap.objs.size=some { cls:=.type "tuple",data:=.seq #[key,(vs[i]).2] }:=(sb2.2 _ nT).trans ht
  have fr:H s.heap.objs.size=none:=I.hok.fresh (jF _)
  have fit:rE X pins (upd H s.heap.objs.size (.tup [kV p.1,p.2])) it:=⟨by rw[aj (Ne.symm nT)];exact f0,f1,f2,f3,f4,f5⟩
  have I0:Inv X pins σ (upd H s.heap.objs.size (.tup [kV p.1,p.2])) { s with heap:=s.heap.push { cls:=.type "tuple",data:=.seq #[key,(vs[i]).2] } }:=
   I.laid (t' := s.toks) (o:=.tup [kV p.1,p.2]) (fun b ob q=>jA _ q) (jF _) ⟨by show 2<=sizeLine;decide,[key,(vs[i]).2],.cons (by rw[e2.1];exact PN hk) (.cons e2.2 .nil),⟨_,jH _ rfl,rfl,_,rfl⟩⟩
  have I2:Inv X pins σ (upd H s.heap.objs.size (.tup [kV p.1,p.2])) { s with heap:=h2 }:=by
   refine I0.turned (t' := s.toks) (h' := h2) (fun b ob hb q=>?_) fit.1 fit.2.1 fit.2.2.2.1 fit.2.2.2.2.1 fit.2.2.2.2.2
   rcases ZC (show(s.heap.push { cls:=.type "tuple",data:=.seq #[key,(vs[i]).2] }).get? b=some ob from q)with⟨rfl,rfl⟩|z
   ·exact ht2
   ·exact kp2 b ob z hb
  refine⟨.ref s.heap.objs.size,_,I2,rfl,⟨s.heap.objs.size,p,rfl,fr,rfl,e1⟩,⟨_,_,by rw[hlen];exact OK⟩,fun b hb=>?_⟩
  have e:b=it:=by simpa using hb
  subst e
  exact fit.1
 done:=by
  exists 0
  subst hP hw hK
  obtain⟨hi,U2⟩:=hg
  obtain⟨ok,ov,st⟩:=st
  obtain⟨vs,rel,dat,lo,ho⟩:=pz I.hok U2
  exists 23
  exists 2
  rw[hlen]at st
  exact wpAny_pyNext_items_end (I.ok.hd hc) st dat (Jb #[0]) fun h' eb=>⟨rfl,I.turned (t' := s.toks) (fun b o hb e=>eb b o hb e) f0 f1 f3 f4 f5⟩
 self:=fun A i s Q E st h=>by
  obtain⟨ok,ov,st⟩:=st
  have hT:s.TypeIs (.ref it) "dict_itemiterator" := ⟨_,st,rfl⟩
  refine Yb hT XE (Wm XE hT B9 ?_ (PySem.F.args_dict_itemiterator_iter_1 _))
  show wpAny _ _ (ret (.ref it)) _ _ s
  exact YX ⟨_,rfl,"dict_itemiterator",_,hT,PySem.F.slot_dict_itemiterator_next.lookup,h⟩
section
def aeH(tl:TE):TI:=fun σ H R=>tl σ H fun x H1=>∃ v d kvs,x=.ref v/\H1 v=some (wW v d)/\H1 d=some (.dK kvs)/\∀ o,R (Iti d o kvs) (upd H1 d (.pB o (.dK kvs)))
theorem aat{x1:_}(hl:PE X l tl):PI X (.Tuple elts x1 SR) l (aeH tl):=by
 intro pins s σ H R I h
 exists 18
 obtain⟨v,a,kvs,e,hv,hd,q⟩:=q1
 subst e
 cases r1
 obtain⟨ahW,_,_⟩:=(show bA X.prog X.w H1 s1.heap v (wW v a)from I1.hok v _ hv)
 obtain⟨z,lo,vs0,art,ob,es,ep,hg,rest⟩:=I1.hok a _ hd
 have I2:=I1.freeze hd hg
 obtain⟨vs,rel,dat,lo2,ho⟩:=pz I2.hok ae
 exists 23
 refine wpAny_pyIter_items ahW dat ?_
 refine⟨s1.heap.objs.size,[s1.heap.objs.size],_,_,_,rfl,I2.kept (t' := s1.toks) fun b o e=>jA _ e,OS a _ ob kvs,⟨_,_,by rw[hlen];exact jH _ rfl⟩,fun b hb=>?_,q ob⟩
 exists 26
 subst e
 exact I2.Bf (jF _) (I2.hok.fresh (jF _))
end
theorem RQ{g:TG}(Pv:Nat->St->Hp->Prop)(h0:Pv 0 σ H)(hl:∀ i σ H,i<=kvs.length->Pv i σ H->H a=some (.pB o (.dK kvs)))(hs:∀ i p σ H T,kvs[i]?=some p->Pv i σ H->H T=none->g (.ref T) σ (upd H T (.tup [kV p.1,p.2])) fun σ2 H2=>tb { D with nx:=Pv (i+1),ct:=Pv (i+1),bk:=D.nx } σ2 H2)(hd:∀ σ H,Pv kvs.length σ H->D.nx σ H):
  ∃ W:Nat->Nat->St->Hp->Prop,(∃ m,W 0 m σ H)/\∀ i m σ H,W i m σ H ->
   ((Iti a o kvs).stop i H/\D.nx σ H)\/((Iti a o kvs).go i H/\∃ N:St->Hp->Prop,#[18]/\∀ x H',(Iti a o kvs).yld i H x H'->g x σ H' fun σ2 H2=>tb { D with nx:=N,ct:=N,bk:=D.nx } σ2 H2):=by
 refine⟨fun i m σ H=>m=kvs.length-i/\i<=kvs.length/\Pv i σ H,⟨kvs.length,by simp,je _,h0⟩,?_⟩
 rintro i m σ H ⟨rfl,hi,p⟩
 have q:=hl i σ H hi p
 by_cases cT:i<kvs.length
 ·refine .inr ⟨⟨cT,q⟩,Pv (i+1),fun σ' H' p'=>⟨kvs.length-(i+1),by omega,rfl,cT,p'⟩,fun x H' y=>?_⟩
  obtain⟨T,pr,rfl,hT,rfl,y⟩:=y
  exact hs i pr σ _ T y p hT
 ·have e:i=kvs.length:=by omega
  subst e
  exact .inl ⟨⟨jF _,q⟩,hd σ H p⟩
abbrev wY(xs:Array Nat):Prop:=xs.toList.Pairwise (·<·)
theorem wY.lt{xs:Array Nat}(r:wY xs)(hi:i<j)(hj:j<xs.size):xs[i]<xs[j]:=by
 have:=List.pairwise_iff_getElem.mp r i j (by simpa using Jt hi hj) (by simpa using hj) hi
 simpa using this
theorem C0{xs:Array Nat}(r:wY xs):∀ (fuel lo hi:Nat),hi-lo<=fuel->lo<=hi->hi<=xs.size->(∀ i (h:i<xs.size),i<lo->xs[i]<j)->(∀ i (h:i<xs.size),hi<=i->j<=xs[i]) ->
  (SetTable.below.go xs j fuel lo hi<=xs.size/\(∀ i (h:i<xs.size),i<SetTable.below.go xs j fuel lo hi->xs[i]<j)/\∀ i (h:i<xs.size),SetTable.below.go xs j fuel lo hi<=i->j<=xs[i])
 | 0,lo,hi,hf,hl,hs,h1,h2=>by
  have e:lo=hi:=by omega
  subst e
  exact⟨hs,h1,h2⟩
 | fuel+1,lo,hi,hf,hl,hs,h1,h2=>by
  unfold SetTable.below.go
  by_cases c:lo<hi
  ·rw[if_pos c]
   dsimp only
   have hm:(lo+hi) / 2<xs.size:=by omega
   have eg:xs.getD ((lo+hi) / 2) j=xs[(lo+hi) / 2]:=by simp[Qa,hm]
   by_cases d:xs.getD ((lo+hi) / 2) j<j
   ·rw[if_pos d]
    refine C0 r fuel _ _ #[0] #[0] hs (fun i h hi'=>?_) h2
    rcases Jd i ((lo+hi) / 2)with z|z
    ·exact Jt (r.lt z hm) (by rw[eg]at d;exact d)
    ·have e:i=(lo+hi) / 2:=by omega
     subst e
     rw[eg]at d
     exact d
   ·rw[if_neg d]
    refine C0 r fuel _ _ #[0] #[0] #[0] h1 (fun i h hi'=>?_)
    rw[eg]at d
    rcases Jd ((lo+hi) / 2) i with z|z
    ·exact ji (Zc d) (Js (r.lt z h))
    ·have e:i=(lo+hi) / 2:=by omega
     subst e
     exact Zc d
  ·rw[if_neg c]
   have e:lo=hi:=by omega
   subst e
   exact⟨hs,h1,h2⟩
theorem C1{xs:Array Nat}(r:wY xs)(j:Nat):SetTable.below xs j<=xs.size/\(∀ i (h:i<xs.size),i<SetTable.below xs j->xs[i]<j)/\∀ i (h:i<xs.size),SetTable.below xs j<=i->j<=xs[i]:=
 C0 r xs.size 0 xs.size #[0] (je _) (jF _) (fun i h z=>by omega) (fun i h z=>by omega)
theorem Mt{xs:Array Nat}(r:wY xs):SetTable.below xs 0=0:=by
 obtain⟨h0,h1,_⟩:=C1 r 0
 rcases zZ (SetTable.below xs 0)with z|z
 ·exact z
 ·exact absurd (h1 0 (jh z h0) z) (Jp _)
theorem Ms{xs:Array Nat}(r:wY xs)(hi:i<xs.size):SetTable.below xs (xs[i]+1)=i+1:=by
 obtain⟨h0,h1,h2⟩:=C1 r (xs[i]+1)
 rcases Nat.lt_trichotomy (SetTable.below xs (xs[i]+1)) (i+1)with z|z|z
 ·have:=h2 i hi #[0]
  omega
 ·exact z
 ·have hi2:i+1<xs.size:=by omega
  have a1:=h1 (i+1) hi2 z
  have a2:xs[i]<xs[i+1]:=r.lt (JL i) hi2
  omega
theorem toList_insertAt(xs:Array α)(p:Nat)(x:α):(SetTable.insertAt xs p x).toList=xs.toList.take p++x :: xs.toList.drop p:=by
 unfold SetTable.insertAt
 simp
 rw[zF #[11]]
theorem wY.put{xs:Array Nat}(r:wY xs)(hj:xs[SetTable.below xs j]?≠some j):wY (SetTable.insertAt xs (SetTable.below xs j) j):=by
 obtain⟨h0,h1,h2⟩:=C1 r j
 unfold wY
 rw[toList_insertAt,List.pairwise_append]
 have tk:∀ a∈xs.toList.take (SetTable.below xs j),a<j:=fun a ha=>by
  obtain⟨i,hi,rfl⟩:=List.mem_take_iff_getElem.mp ha
  have:i<SetTable.below xs j/\i<xs.size:=by simp at hi;omega
  simpa using h1 i this.2 this.1
 have dr:∀ b∈xs.toList.drop (SetTable.below xs j),j<b:=fun b hb=>by
  obtain⟨i,hi,rfl⟩:=List.mem_drop_iff_getElem.mp hb
  have hs:i+SetTable.below xs j<xs.size:=by simpa using hi
  have hle:=h2 (i+SetTable.below xs j) hs #[0]
  have hb0:SetTable.below xs j<xs.size:=by omega
  have R3:xs[SetTable.below xs j]≠j:=fun z=>hj (by rw[ju hb0,z])
  have h3:=h2 (SetTable.below xs j) hb0 (jF _)
  have:j<xs[i+SetTable.below xs j]:=by
   rcases zZ i with z|z
   ·subst z
    simp only[Je]
    omega
   ·have:=r.lt (i:=SetTable.below xs j) (j:=i+SetTable.below xs j) #[0] hs
    omega
  simpa[Zg]using this
 refine⟨List.Pairwise.sublist (ZT _ _) r,List.pairwise_cons.mpr ⟨dr,List.Pairwise.sublist (List.drop_sublist _ _) r⟩,fun a ha b hb=>?_⟩
 rcases jS.mp hb with e|hb
 ·rw[e];exact tk a ha
 ·exact Jt (tk a ha) (dr b hb)
theorem Ox(n:Nat):wY (Array.range n):=by
 unfold wY
 rw[Array.toList_range]
 exact Zp
structure ft(t:qU)(led:Bool):Prop where
 rise:wY t.place
 nod:t.dummies=#[]
 led:t.led=led
theorem ft.standIn{t:qU}{led:Bool}(k:ft t led)(n:Nat):ft (t.standIn n) led:=⟨Ox n,rfl,k.led⟩
theorem ft.orStandIn{t:qU}{led:Bool}(k:ft t led)(n:Nat):ft (t.orStandIn n) led:=by
 unfold SetTable.orStandIn
 split
 ·exact k
 ·exact k.standIn n
theorem Pu(j:Nat):SetTable.has #[] j=false:=by
 unfold SetTable.has
 simp
theorem DP{t:qU}{led:Bool}(k:ft t led){h:Int}:∀ (fuel:Nat) (p:SetTable.Probe) (j:Nat) (dm:Option Nat),p.dummy=none->SetTable.probe.go t (fun _=>h+1) h fuel p=some (.empty j dm)->t.slot j=.empty/\dm=none
 | 0,p,j,dm,_,e=>by cases e
 | fuel+1,p,j,dm,hp,e=>by
  unfold SetTable.probe.go at e
  cases hs:t.slot p.j with
  | empty =>
   rw[hs]at e
   cases e
   exact⟨hs,hp⟩
  | dummy =>
   exfalso
   unfold SetTable.slot at hs
   dsimp only at hs
   split at hs
   ·cases hs
   ·rw[k.nod,Pu]at hs
    simp at hs
  | live i =>
   rw[hs]at e
   dsimp only at e
   rw[if_neg (by simp;omega)]at e
   refine DP k fuel _ j dm ?_ e
   unfold SetTable.advance
   split
   ·exact hp
   ·exact hp
theorem RS{t:qU}{led:Bool}(k:ft t led){h:Int}(e:t.freeSlot h=some (j,b)):t.place[SetTable.below t.place j]?≠some j/\b=false:=by
 unfold SetTable.freeSlot SetTable.probe at e
 split at e
 ·rename_i j' dm e'
  obtain⟨h1,rfl⟩:=DP k _ _ _ _ rfl e'
  simp at e
  obtain⟨rfl,rfl⟩:=e
  refine⟨fun z=>?_,rfl⟩
  unfold SetTable.slot at h1
  dsimp only at h1
  rw[if_pos (by rw[z];simp)]at h1
  cases h1
 ·cases e
theorem N0{t:qU}{led:Bool}(k:ft t led)(es:Array (Int×Value))(h:Int)(x:Value):ft (layNew t es h x).2.1 led:=by
 unfold layNew
 split
 ·rename_i slot wd e
  obtain⟨hj,rfl⟩:=RS k e
  have k1:ft (t.put slot).1 led:=by
   refine⟨k.rise.put hj,?_,k.led⟩
   show(if SetTable.has t.dummies slot=true then _ else t.dummies)=#[]
   rw[k.nod,Pu]
   rfl
  exact k1.orStandIn _
 ·exact k.standIn _
theorem HZ{t:qU}{led:Bool}(k:ft t led)(es:Array (Int×Value))(n:Nat):ft (relayAll t es n).2.1 led:=by
 unfold relayAll
 split
 ·rename_i t' order e
  dsimp only
  split
  ·unfold SetTable.relaid SetTable.laid at e
   simp only[Option.bind_eq_bind,zj]at e
   obtain⟨owner,_,e⟩:=e
   cases e
   refine⟨?_,rfl,k.led⟩
   unfold wY
   dsimp only
   rw[List.map_filterMap]
   refine List.Pairwise.filterMap _ (fun a a' hr b hb b' hb'=>?_) Zp
   simp only[Option.map_map,Option.mem_def,zG,Function.comp]at hb hb'
   obtain⟨_,_,rfl⟩:=hb
   obtain⟨_,_,rfl⟩:=hb'
   exact hr
  ·exact k.standIn _
 ·exact k.standIn _
abbrev Ip(w:World):Bool:=w.params.followText "set-order"
def OX:Value->Int
 | .int n _=>n
 | _=>0
def oM(P:qR)(w:World)(h:Heap)(a:Qu)(ns:List Int):Prop:=
 ∃ o es ep t,h.get? a=some o/\o.ExactSet/\o.data=.set es ep t/\qE (intKind P w) es.toList/\(∀ e∈es.toList,∃ n u,e.2=.int n u)/\(es.toList.map fun e=>OX e.2).Perm ns/\es.size<scanBound/\t.fits es.size=true/\ft t (!Ip w)
theorem oM.keep{h':Heap}(x:oM P w h a ns)(k:∀ o,h.get? a=some o->h'.get? a=some o):oM P w h' a ns:=by
 obtain⟨o,es,ep,t,ho,r1,r2,r3,r4,r5,r6,r7,r8⟩:=x
 exact⟨o,es,ep,t,k o ho,r1,r2,r3,r4,r5,r6,r7,r8⟩
section
theorem W3{k n:Int}:(intKind P w).is k (.int n u)=decide (k=n):=KeyKind.is_eq_decide (WH P w n u) k
theorem aaY{es lN:Array (Int×Value)}{t t':qU}(ho:h.get? a=some o)(hex:o.ExactSet)(hd:o.data=.set es ep t)(hel:qE (intKind P w) lN.toList)(hi:∀ e∈lN.toList,∃ n u,e.2=.int n u)(hp:(lN.toList.map fun e=>OX e.2).Perm ns)(hb:lN.size<scanBound)(hf:t'.fits lN.size=true)(hk:ft t' (!Ip w)):
  (h.update a (Obj.putSet lN t')).get? a=some { o with data:=.set lN (ep+1) t' }/\oM P w (h.update a (Obj.putSet lN t')) a ns:=by
 have hg:(h.update a (Obj.putSet lN t')).get? a=some { o with data:=.set lN (ep+1) t' }:=by
  have q:=jg (Obj.putSet lN t') ho (by rw[WR lN t' hd];rfl)
  rw[WR lN t' hd]at q
  exact q
 exact⟨hg,_,lN,ep+1,t',hg,hex,rfl,hel,hi,hp,hb,hf,hk⟩
theorem O6{g:Bool->qS Unit}(hg:∀ (b:Bool) (s₁:qV) (Q':Unit->qV->Prop),Q' () s₁->wpAny #[31] A (g b) Q' E s₁){es rC:Array (Int×Value)}{t t2:qU}{R:Option Bool->qV->Prop}(ho:s.heap.get? a=some o)(hex:o.ExactSet)(hd:o.data=.set es ep t)(hel:qE (intKind P w) rC.toList)(hi:∀ e∈rC.toList,∃ n u,e.2=.int n u)(hp:(rC.toList.map fun e=>OX e.2).Perm ns)(hb:rC.size<scanBound)(hf:t2.fits rC.size=true)(hk:ft t2 (!Ip w))(h:∀ h',yL a s.heap h'->oM P w h' a ns->R (some true) { s with heap:=h' }):
  wpAny #[31] A (do
    storeSet a rC t2
    if (!wd&&t2.tooFull)=true then do
      g (relayAll t2 rC (SetTable.grown rC.size)).2.2
      storeSet a (relayAll t2 rC (SetTable.grown rC.size)).1 (relayAll t2 rC (SetTable.grown rC.size)).2.1
      pure (some true)
     else pure (some true)) R E s:=by
 refine Wj (Yo ho hd ?_ (WG hb))
 obtain⟨K3,hS1⟩:=aaY (P:=P) (w:=w) ho hex hd hel hi hp hb hf hk
 have sb1:=yF s.heap a (Obj.putSet rC t2)
 split
 ·have rp:=relayAll_perm t2 rC (SetTable.grown rC.size)
  have rf:=relayAll_fits t2 rC (SetTable.grown rC.size)
  have rt:=HZ hk rC (SetTable.grown rC.size)
  generalize relayAll t2 rC (SetTable.grown rC.size)=Rl at rp rf rt ⊢
  obtain⟨es2,t3,ad2⟩:=Rl
  dsimp only at rp rf rt ⊢
  have sz:es2.size=rC.size:=by rw[<- jU,rp.length_eq,jU]
  have hb2:es2.size<scanBound:=by rw[sz];exact hb
  refine Wj (hg _ _ _ ?_)
  refine Wj (Yo K3 rfl ?_ (WG hb2))
  obtain⟨_,hS2⟩:=aaY (P:=P) (w:=w) (ns:=ns) K3 hex rfl (hel.perm rp) (fun e he=>hi e (rp.mem_iff.mp he)) ((rp.map _).trans hp) hb2 rf rt
  exact YX (h _ (sb1.trans (yF _ a _)) hS2)
 ·exact YX (h _ sb1 hS1)
theorem OC{k:Int}{Q:Bool->qV->Prop}(hS:oM P w s.heap a ns)(ac6:ns.length+1<scanBound)(h:∀ h' b,yL a s.heap h'->oM P w h' a (step_dedup ns k)->Q b { s with heap:=h' }):wpAny #[31] A (setAddHashed a (.int k u) ((intKind P w).hash k)) Q E s:=by
 obtain⟨o,es,ep,t,ho,hex,hd,hel,hi,hp,hb,hf,hk⟩:=hS
 have hsz:es.size=ns.length:=by rw[<- hp.length_eq,jZ,jU]
 have mem:∀ z:Int,z∈ns↔∃ e∈es.toList,(intKind P w).is z e.2=true:=fun z=>by
  rw[<- hp.mem_iff,jN]
  constructor
  ·rintro⟨e,he,rfl⟩
   obtain⟨n,v,e2⟩:=hi e he
   exact⟨e,he,by rw[e2,W3];simp[OX]⟩
  ·rintro⟨e,he,q⟩
   obtain⟨n,v,e2⟩:=hi e he
   rw[e2,W3]at q
   exact⟨e,he,by rw[e2];exact(of_decide_eq_true q).symm⟩
 unfold setAddHashed setAddHashedIn
 refine YC (Wj (Yl ho hd hf ?_))
 dsimp only
 rw[byScan_of (x:=.int k u) rfl hb hel]
 simp only[↓reduceIte]
 unfold setAddByScan
 refine Wj (Wj (Yg ?_))
 refine Wj (wpAny_setScan_of (WH P w k u) ho hd hf hel ?_)
 cases hr:List.findIdx? (fun e=>(intKind P w).is k e.2) es.toList with
 | some j =>
  dsimp only
  obtain⟨hj,pj,_⟩:=List.findIdx?_eq_some_iff_getElem.mp hr
  have kin:k∈ns:=(mem k).mpr ⟨es.toList[j],jG hj,pj⟩
  refine YX (YX ?_)
  have q:=h s.heap false (xk a s.heap) ⟨o,es,ep,t,ho,hex,hd,hel,hi,by
   unfold step_dedup
   rw[if_pos (by simpa using kin)]
   exact hp,hb,hf,hk⟩
  cases s
  exact q
 | none =>
  dsimp only
  have nin:k∉ns:=fun z=>by
   obtain⟨e,he,q⟩:=(mem k).mp z
   have:=List.findIdx?_eq_none_iff.mp hr e he
   rw[q]at this
   cases this
  have gw:∀ (b:Bool) (s₁:qV) (Q':Unit->qV->Prop),Q' () s₁->wpAny #[31] A (match b with|true=>rule "set.scan.the-table-gave-way"|false=>pure ()) Q' E s₁:=fun b s₁ Q' q=>by
   cases b
   ·exact YX q
   ·exact Yg q
  have lp:=layNew_perm t es ((intKind P w).hash k) (.int k u)
  have lf:=layNew_fits t es ((intKind P w).hash k) (.int k u)
  have lt:=N0 hk es ((intKind P w).hash k) (.int k u)
  generalize layNew t es ((intKind P w).hash k) (.int k u)=L at lp lf lt ⊢
  obtain⟨rC,t1,wd,ad2⟩:=L
  dsimp only at lp lf lt ⊢
  rw[ZW]at lp
  have ahx:qE (intKind P w) rC.toList:=(hel.push (WH P w k u) rfl).perm lp
  have hi1:∀ e∈rC.toList,∃ n v,e.2=.int n v:=fun e he=>by
   rcases zB.mp (lp.mem_iff.mp he)with z|z
   ·exact hi e z
   ·rw[jJ.mp z];exact⟨k,u,rfl⟩
  have hp1:(rC.toList.map fun e=>OX e.2).Perm (step_dedup ns k):=by
   unfold step_dedup
   rw[if_neg (by simpa using nin)]
   refine(lp.map _).trans ?_
   rw[jD]
   exact hp.append (List.Perm.refl _)
  have hb1:rC.size<scanBound:=by rw[<- jU,lp.length_eq,jL,jU,hsz];exact ac6
  refine Wj (gw _ _ _ ?_)
  split
  ·refine Wj ?_
   rw[hashByValue_scannable 8 (x:=.int k u) rfl]
   refine YX ?_
   exact O6 (fun b s₁ Q' q=>gw b s₁ Q' q) ho hex hd ahx hi1 hp1 hb1 lf lt fun h' sb S=>YX (h h' true sb S)
  ·refine Wj (YX ?_)
   simp only[↓reduceIte]
   exact O6 (fun b s₁ Q' q=>gw b s₁ Q' q) ho hex hd ahx hi1 hp1 hb1 lf lt fun h' sb S=>YX (h h' true sb S)
end
section
variable{fp wr:List Qu}{G:Array qH->Array qH->Prop}{Pz:Nat->Value->Prop}{St:Nat->qV->Prop}
theorem Ij(W:WalksS P w A.in1 I fp wr G n Pz St)(S:Qu)(hSf:S∉fp)(val:Nat->Int)(si:∀ i v,Pz i v->∃ t,v=.int (val i) t)(hb:n+1<scanBound):
  ∀ (k i:Nat) (s:qV),n-i=k->i<=n->St i s->oM P w s.heap S (firstMet val i)->(∀ s',Moved (S :: wr) G s s'->oM P w s'.heap S (firstMet val n)->R (.ok (.ret .none)) s') ->
   codeAny #[31] A (.builtin "set.update.loop" ⟨[.ref S,.ref I],[]⟩) R s:=by
 have nw:S∉wr:=fun z=>hSf (W.sub _ z)
 have up:∀ b∈wr,b∈S :: wr:=fun b z=>jK _ z
 intro k
 induction k with
 | zero =>
  intro i s hk hi tR hS hR
  obtain rfl:i=n:=by omega
  refine qv yp ?_
  rw[Around.under_plainId yU _]
  refine Wj (m:=pyNext (.ref I)) (W.done s _ _ tR fun s' hm=>?_)
  exact YX (hR s' (hm.mono up) (hS.keep fun o q=>hm.heap S o nw q))
 | succ k ih =>
  intro i s hk hi tR hS hR
  have cT:i<n:=by omega
  refine qv yp ?_
  rw[Around.under_plainId yU _]
  refine Wj (m:=pyNext (.ref I)) (W.item i s _ _ cT tR fun v s' hP Hy hm=>?_)
  obtain⟨t,rfl⟩:=si i v hP
  have Et:oM P w s'.heap S (firstMet val i):=hS.keep fun o q=>hm.heap S o nw q
  refine Wj (m:=holding [yI (val i) t] (setAdd S (.int (val i) t))) (YC ?_)
  unfold setAdd
  refine YC (Wj ((intKind P w).pyHash (k:=val i) (WH _ _ _ _) ?_))
  have room:(firstMet val i).length+1<scanBound:=by
   have:=firstMet_length_le val i
   omega
  refine OC (s:={ s' with toks:=s'.toks+1 }) Et room fun h' b sb S2=>?_
  rw[<- firstMet_succ]at S2
  refine YX ⟨WO yU _,ih (i+1) _ #[0] cT (W.frame _ s' _ _ Hy (JF _) fun b hb o e=>?_) S2 fun s2 m2 S3=>?_⟩
  ·rw[sb.2 b (fun z:b=S=>hSf (z ▸ hb))];exact e
  ·refine hR s2 (Moved.trans W.gtrans ((hm.mono up).then_heap (JF _) fun b o hb e=>?_) m2) S3
   rw[sb.2 b (fun z:b=S=>hb (by rw[z];exact jE))];exact e
end
section
def bK(w:World):Obj:={ cls:=.type "set",dict:=none,data:=.set #[] 0 (.fresh 0 0 (!Ip w)) }
theorem ami(h:Heap)(hg:h.get? a=some (bK w)):oM P w h a []:=
 ⟨_,#[],0,_,hg,⟨rfl,rfl,rfl⟩,rfl,(fun e he=>by cases he),(fun e he=>by cases he),List.Perm.refl _,by decide,rfl,⟨List.Pairwise.nil,rfl,rfl⟩⟩
theorem EW(a:Value)(h:Q₁ #[13] { s with heap:=s.heap.push (bK w) }):
  codeAny #[31] A (.call (.builtin "set.__new__") ⟨[.type "set",a],[]⟩) (wants Q₁ E) s:=by
 refine WB ?_
 show wpAny _ A.in1 (do checkBuiltinCall "set.__new__" ⟨[.type "set",a],[]⟩;again (.builtin "set.__new__" ⟨[.type "set",a],[]⟩)) _ _ s
 refine Wj (YV (F.newCall_set_1 a) (YX ⟨WO GH _,qv F.entry_set_new ?_⟩))
 rw[Around.under_plainId GH _]
 unfold Builtin.«set.__new__» GQ
 have aey:=sub_set_self
 obtain⟨hp,g,d,tk,os⟩:=s
 dsimp only
 wp_walk
 refine Wg (YX ?_)
 dsimp only
 simp only[newObj]
 exact Wj (wpAny_alloc (YX (YX h)))
set_option maxHeartbeats 3200000 in
theorem RD{l:Qu}(hh:A.handled=none)(hl:s.heap.IsList l items)(hi:qI items.toList ns)(hb:items.size+1<scanBound)(h:∀ (h':Heap) (tk:Nat),oM P w h' s.heap.objs.size (firstMet (fun i=>ns.getD i 0) items.size)->#[47]->Q #[13] { s with heap:=h',toks:=tk }):
  wpAny #[31] A (call (.type "set") [.ref l]) Q E s:=by
 obtain⟨c,tl,alk⟩:=F.called_set.mro
 have ahK:=F.called_set.made
 have aey:=F.called_set.sub
 refine Wk (WB ?_)
 show wpAny _ _ (callAny (.type "set") _) _ _ _
 refine YX ⟨Code.quiet_builtin _ #[3],qv xp ?_⟩
 rw[Around.under_plain (Wc "set" [.ref l] []) rfl]
 have h1:=F.called_set.notType
 have h2:=F.called_set.canCreate
 have hct:=xx (.ref l)
 exists 17
 refine WA (EW (.ref l) (E:=E) (Q₁:=fun obj s₁=>obj=.ref s.heap.objs.size/\s₁={ s with heap:=s.heap.push (bK w) }) ⟨rfl,rfl⟩) fun r s₁ hr=>?_
 cases r with
 | error e=>exact hr
 | ok fl =>
  cases fl with
  | ret obj =>
   obtain⟨rfl,rfl⟩:=hr
   have hS:(s.heap.push (bK w)).get? s.heap.objs.size=some (bK w):=jH _ rfl
   have hT:Shared.TypeIs { s with heap:=s.heap.push (bK w) } #[13] "set" := ⟨_,hS,rfl⟩
   have hli:=F.called_set.init.lookup
   have hbi:=F.called_set.init.bind #[13]
   exists 17
   refine WA (qw (R:=wants (fun r s₂=>r=.none/\∃ h' tk,s₂={ s with heap:=h',toks:=tk }/\oM P w h' s.heap.objs.size (firstMet (fun i=>ns.getD i 0) items.size) /\
     #[47]) E) F.called_set.init.plain xy (qu hT ?_)) fun r₂ s₂ sh=>?_
   ·obtain⟨ol,hol,Px,nl,U1⟩:=hl
    obtain⟨amu,Y8,aio,Oj⟩:=ol
    simp only at Px U1
    subst Px;subst U1
    have aev:(s.heap.push (bK w)).get? l=some { cls:=.type "list",dict:=Y8,data:=.seq items nl,slots:=Oj }:=jA _ hol
    have alE:=GL
    have alD:=xK
    have MU:(s.heap.push (bK w)).IsList l items:=⟨_,aev,rfl,nl,rfl⟩
    have R3:(yK "list" == yK "dict")=false:=by decide
    have hS0:(s.heap.push (bK w)).get? s.heap.objs.size=some { cls:=.type "set",dict:=none,data:=.set #[] 0 (.fresh 0 0 (!Ip w)) }:=hS
    unfold Builtin.«set.__init__» noKeywords Xa
    generalize hPI:pyIter=PI
    wp_walk
    subst hPI
    refine YZ MU (Wj (Yh ?_))
    have hlS:l<s.heap.objs.size:=jI hol
    have hh3:A.in1.in1.in1.handled=none:=by simp[hh]
    have neI:l≠(s.heap.push (bK w)).objs.size:=by rw[jx];exact jM (Jg hlS)
    have nS:s.heap.objs.size∉[(s.heap.push (bK w)).objs.size,l]:=by
     rw[jx]
     simp only[jS,jJ,JP,or_false,not_or]
     exact⟨jM (JL _),JX hlS⟩
    refine Ij ((Walks.list hh3 _ l neI items).toS) s.heap.objs.size nS (fun i=>ns.getD i 0) (fun i v hv=>IntsAre.int_at hi i v (by rw[JG];exact hv)) hb (items.size-0) 0 _ #[0] (je _)
     ⟨⟨_,jH _ rfl,rfl,rfl⟩,(MU.push _)⟩ ?_ ?_
    ·exact ami (w:=w) _ (jA _ hS)
    ·rintro⟨h',g',d',tk',os'⟩ hm Et
     have eg:g'=s.gens:=hm.gens
     have ed:d'=s.drawn:=hm.drawn
     have eo:os'=s.os:=hm.os
     subst eg ed eo
     refine YX ?_
     show wpAny _ _ (ret yC) _ _ _
     refine YX ⟨rfl,h',tk',rfl,Et,fun b o hb e=>?_⟩
     refine hm.heap b o ?_ (jA _ (jA _ e))
     rw[jx]
     simp only[jS,jJ,JP,or_false,not_or]
     exact⟨jM hb,jM (Jg hb)⟩
   ·cases r₂ with
    | error e=>exact sh
    | ok TN =>
     cases TN with
     | ret r =>
      obtain⟨rfl,h',tk,rfl,Et,U8⟩:=sh
      exists 17
      exact h _ _ Et U8
     | next=>exact sh
     | brk=>exact sh
     | cont=>exact sh
  | next=>exact hr
  | brk=>exact hr
  | cont=>exact hr
end
namespace SF
theorem MM:entryFor table "set.__iter__" = some Builtin.«frozenset.__iter__» := WD (id' := "frozenset.__iter__") (by kernel_rfl) rfl #[3] (by kernel_rfl)
theorem slot_next:Slot "set_iterator" "__next__" "set_iterator.__next__" :=
 .of (owner := "set_iterator") (n := "__next__") (by rw[Wb,qg];kernel_rfl) #[3] #[3] #[3] (by first|exact .inl #[3]|exact .inr #[3])
  (by rw[WJ];kernel_rfl)
theorem entry_next:entryFor table "set_iterator.__next__" = some Builtin.«set_iterator.__next__» := WE (by kernel_rfl)
theorem args_next(a:Value):argsOk "set_iterator.__next__" ⟨[a],[]⟩:=by unfold argsOk;kernel_rfl
theorem sX:Slot "set_iterator" "__iter__" "set_iterator.__iter__" :=
 .of (owner := "set_iterator") (n := "__iter__") (by rw[Wb,qg];kernel_rfl) #[3] #[3] #[3] (by first|exact .inl #[3]|exact .inr #[3])
  (by rw[WJ];kernel_rfl)
end SF
theorem wx{α:Type}:∀ (l:List α) (i:Nat) (h:i<l.length),(l[i] :: l.eraseIdx i).Perm l
 | x :: r,0,_=>List.Perm.refl _
 | x :: r,i+1,h=>(List.Perm.swap _ _ _).trans (List.Perm.cons _ (wx r i (Nat.lt_of_succ_lt_succ h)))
theorem P7{α:Type}(next:Nat->Nat):∀ (fuel k:Nat) (left:List α) (out:Array α),left.length=fuel->(pickOrder.go next fuel k left out).toList.Perm (out.toList++left)
 | 0,k,left,out,h=>by
  rw[Zl.mp h,JA]
  exact List.Perm.refl _
 | fuel+1,k,left,out,h=>by
  unfold pickOrder.go
  have cT:next k%left.length<left.length:=zh _ #[0]
  rw[jC cT]
  dsimp only
  refine(P7 next fuel (k+1) _ _ (by rw[zW cT];omega)).trans ?_
  rw[ZW,jv]
  refine List.Perm.append_left _ ?_
  exact wx _ _ cT
theorem Bp{α:Type}(next:Nat->Nat)(xs:Array α):(pickOrder next xs).toList.Perm xs.toList:=by
 have q:=P7 next xs.size 0 xs.toList #[] #[11]
 unfold pickOrder
 simpa using q
theorem EJ{M:Model}{A:Around}{E:Value->qV->Prop}{s:qV}{src:Source}{n:Nat}{Q:Nat->qV->Prop}(hn:n≠0)(h:∀ i d',i<n->Q i { s with drawn:=d' }):wpAny M A (choose src n) Q E s:=
 fun _ _ _=>⟨hn,h _ _ (zh _ (Nat.pos_of_ne_zero hn))⟩
theorem EZ{M:Model}{A:Around}{E:Value->qV->Prop}{α:Type}:∀ (n:Nat) (xs:List α) (s:qV) (Q:List α->qV->Prop),xs.length=n->(∀ ys d',ys.Perm xs->Q ys { s with drawn:=d' })->wpAny M A (drawOrder n xs) Q E s
 | 0,xs,s,Q,hl,h=>by
  have e:xs=[]:=Zl.mp hl
  subst e
  unfold drawOrder
  exact YX (h [] s.drawn (List.Perm.refl _))
 | n+1,[],s,Q,hl,h=>by cases hl
 | n+1,x :: r,s,Q,hl,h=>by
  unfold drawOrder
  refine Wj (EJ #[11] fun i d' hi=>?_)
  rw[jC hi]
  dsimp only
  refine Wj (EZ n _ _ _ (by rw[zW hi];omega) fun ys d2 p=>YX ?_)
  exact h _ _ ((List.Perm.cons _ p).trans (wx _ _ hi))
def iq(h:Heap)(I S:Qu)(first:Value)(i n ep:Nat):Prop := ∃ o,h.get? I=some o/\o.cls=.type "set_iterator" /\ o.data=.fields #[first,.int i 0,.ref S,.int n 0,.int ep 0]
theorem iq.typeIs{s:qV}{I S:Qu}{first:Value}{i n ep:Nat}(x:iq s.heap I S first i n ep):s.TypeIs (.ref I) "set_iterator" := let ⟨o,ho,hc,_⟩:=x;⟨o,ho,hc⟩
def adP(w:World)(es:Array (Int×Value))(ep:Nat)(t:qU)(S T:Qu)(L:List Value)(h:Heap)(i:Nat)(first:Value):Prop:=
 (Ip w=true/\(∃ z:Nat,first=.int z 0)/\L=#[62].toList.map (·.2)) \/
 (Ip w=false/\(t.plain=true\/es.size<=1)/\(∃ z:Nat,first=.int z 0/\SetTable.below t.place z=i)/\L=es.toList.map (·.2)) \/
 (Ip w=false/\first=.ref T/\∃ pl:List Nat,pl.Perm (jO es.size)/\(∃ o e,h.get? T=some o/\o.data=.seq (pl.map fun p:Nat=>yI (p:Int) 0).toArray e)/\L=pl.map fun p=>(es.getD p (0,.none)).2)
structure EM(w:World)(es:Array (Int×Value))(ep:Nat)(t:qU)(S T I:Qu)(L:List Value)(i:Nat)(h:Heap):Prop where
 set:∃ o,h.get? S=some o/\o.data=.set es ep t
 it:∃ first,iq h I S first i es.size ep/\adP w es ep t S T L h i first
section
variable{P:qR}{w:World}{A:Around}{E:Value->qV->Prop}{s:qV}{es:Array (Int×Value)}{ep:Nat}{t:qU}{S T I:Qu}{L:List Value}{i:Nat}
theorem next_item(hf:t.fits es.size=true)(hk:ft t (!Ip w))(hL:L.length=es.size)(hTI:T≠I)(hSI:S≠I)(st:EM w es ep t S T I L i s.heap)(hi:i<es.size){Q:Option Value->qV->Prop}(h:∀ h',yL I s.heap h'->EM w es ep t S T I L (i+1) h'->Q (some (L.getD i .none)) { s with heap:=h' }):wpAny #[31] A (pyNext (.ref I)) Q E s:=by
 obtain⟨⟨oS,hS,RW⟩,first,hit,by_⟩:=st
 obtain⟨o,ho,hc,hd⟩:=id hit
 have hLi:L.getD i .none=L[i]'#[0]:=by simp[ZO,hL,hi]
 unfold pyNext
 refine Wj (Wi (Wl (name:=Str.ofString "__next__") hit.typeIs SF.slot_next (Wm SF.slot_next hit.typeIs SF.entry_next ?_ (SF.args_next _))))
 unfold Builtin.«set_iterator.__next__»
 refine Wj (m:=slotArgs "__next__" 0 _) (YX ?_)
 refine Wj (Wy ho hd ?_)
 dsimp only
 unfold setEntries
 refine Wj (Wj (Yl hS RW hf (YX ?_)))
 rw[if_neg #[11]]
 have upI:∀ (f:Array Value->Array Value),(s.heap.update I (Obj.mapFields f)).get? I=some (Obj.mapFields f o):=fun f=>jg _ ho (Obj.isFreed_of_fields (Obj.data_mapFields hd _))
 have other:∀ (f:Array Value->Array Value) b,b≠I->(s.heap.update I (Obj.mapFields f)).get? b=s.heap.get? b:=fun f b hb=>jo _ _ (Ne.symm hb)
 have afl:∀ (h1:Heap) (fi:Value),iq h1 I S fi i es.size ep->iq (h1.update I #[34]) I S fi (i+1) es.size ep:=by
  rintro h1 fi ⟨o1,K3,hc1,Mi⟩
  exact⟨_,jg _ K3 (Obj.isFreed_of_fields (Obj.data_mapFields Mi _)),(Obj.cls_mapFields ..).trans hc1,by rw[Obj.data_mapFields Mi];simp[rawInt]⟩
 have acy:∀ (h1:Heap) (fi:Value) (nx:Nat),iq h1 I S fi i es.size ep->iq (h1.update I (Obj.mapFields (·.setIfInBounds 0 (rawInt nx)))) I S (.int nx 0) i es.size ep:=by
  rintro h1 fi nx ⟨o1,K3,hc1,Mi⟩
  exact⟨_,jg _ K3 (Obj.isFreed_of_fields (Obj.data_mapFields Mi _)),(Obj.cls_mapFields ..).trans hc1,by rw[Obj.data_mapFields Mi];simp[rawInt]⟩
 have W6:∀ h1,yL I s.heap h1->∃ o,h1.get? S=some o/\o.data=.set es ep t:=fun h1 sb=>⟨oS,(sb.2 S hSI).trans hS,RW⟩
 rcases by_ with⟨bt,⟨z,rfl⟩,eL⟩|⟨bt,pl,⟨z,rfl,hz⟩,eL⟩|⟨bt,rfl,pl,pp,⟨oT,eT,hT,hTd⟩,eL⟩
 ·have px:=Bp (w.params.setOrder S ep) es
  have hx:i<#[62].size:=by rw[<- jU,px.length_eq,jU];exact hi
  refine Wj ?_
  unfold setNext
  refine Wj (Yl hS RW hf ?_)
  unfold setsByText
  refine Wj (Wj (Wg (YX ?_)))
  rw[if_pos (show#[31].w.params.followText "set-order" = true from bt),if_neg #[11]]
  unfold setWalk setsByText
  refine Wj (Wj (Yl hS RW hf ?_))
  refine Wj (Wj (Wg (YX ?_)))
  rw[if_pos (show#[31].w.params.followText "set-order" = true from bt)]
  refine Wj (Wg (YX (YX ?_)))
  have ex:(pickOrder (#[31].w.params.setOrder S ep) es)[((i:Nat):Int).toNat]?=some #[62][i]:=by
   rw[jB]
   exact ju hx
  rw[ex]
  dsimp only[Qs]
  refine Wj (Yk ho hd #[11] ?_)
  obtain⟨o1,K3,hc1,Mi⟩:=acy _ _ z hit
  rw[show((z:Nat):Int).toNat=z from jB z]
  refine Wj (Yk K3 Mi #[11] (YX ⟨_,rfl,YX ?_⟩))
  have sb:yL I s.heap ((s.heap.update I (Obj.mapFields (·.setIfInBounds 0 (rawInt z)))).update I #[34]):=(yF ..).trans (yF ..)
  have q:=h _ sb ⟨W6 _ sb,_,afl _ _ (acy _ _ z hit),.inl ⟨bt,⟨z,rfl⟩,eL⟩⟩
  rw[hLi]at q
  have eLi:L[i]'#[0]=#[62][i].2:=by simp[eL]
  rw[eLi]at q
  exact q
 ·have hpz:t.place.size=es.size:=by
   simp only[SetTable.fits,Jc,beq_iff_eq,decide_eq_true_eq]at hf
   exact hf.1
  have hip:i<t.place.size:=by omega
  refine Wj ?_
  unfold setNext
  refine Wj (Yl hS RW hf ?_)
  unfold setsByText
  refine Wj (Wj (Wg (YX ?_)))
  rw[if_neg (show ¬ (#[31].w.params.followText "set-order" = true)from by rw[show#[31].w.params.followText "set-order" = false from bt];exact jd)]
  show wpAny _ _ (if (!t.plain&&decide (es.size > 1))=true then _ else _) _ _ _
  rw[if_neg (by
   rcases pl with q|q
   ·rw[q];simp
   ·simp;omega)]
  show wpAny _ _ ((if (!t.led&&!es.isEmpty)=true then _ else pure ())>>=_) _ _ _
  rw[if_neg (by rw[hk.led,bt];simp)]
  refine Wj (YX (YX ?_))
  rw[jB,hz,ju hi,ju hip]
  dsimp only
  refine Wj (Yk ho hd #[11] ?_)
  obtain⟨o1,K3,hc1,Mi⟩:=acy _ _ (t.place[i]+1) hit
  refine Wj (Yk K3 Mi #[11] (YX ⟨_,rfl,YX ?_⟩))
  have sb:yL I s.heap ((s.heap.update I (Obj.mapFields (·.setIfInBounds 0 (rawInt (t.place[i]+1:Nat))))).update I #[34]):=(yF ..).trans (yF ..)
  have q:=h _ sb ⟨W6 _ sb,_,afl _ _ (acy _ _ (t.place[i]+1) hit),.inr (.inl ⟨bt,pl,⟨_,rfl,Ms hk.rise hip⟩,eL⟩)⟩
  rw[hLi]at q
  have eLi:L[i]'#[0]=es[i].2:=by simp[eL]
  rw[eLi]at q
  exact q
 ·have lpl:pl.length=es.size:=by rw[pp.length_eq,jT]
  have rJ:pl[i]'#[0]<es.size:=jq.mp (pp.mem_iff.mp (jG _))
  show wpAny _ _ (seqItems? (.ref T)>>=_) _ _ _
  unfold seqItems?
  refine Wj (Wj (YL hT ?_))
  rw[hTd]
  refine YX ?_
  dsimp only
  have ep1:(pl.map fun p:Nat=>yI (p:Int) 0).toArray[((i:Nat):Int).toNat]?=some (yI ((pl[i]'#[0]:Nat):Int) 0):=by
   rw[jB]
   simp[lpl,hi]
  rw[ep1]
  dsimp only
  unfold setNextDrawn
  refine Wj (Wj (Yl hS RW hf ?_))
  dsimp only
  rw[if_neg #[11],jB,ju rJ]
  dsimp only
  refine YX (Wj (Yk ho hd #[11] (YX ⟨_,rfl,YX ?_⟩)))
  have sb:yL I s.heap (s.heap.update I #[34]):=yF ..
  have q:=h _ sb ⟨W6 _ sb,_,afl _ _ hit,.inr (.inr ⟨bt,rfl,pl,pp,⟨oT,eT,(sb.2 T hTI).trans hT,hTd⟩,eL⟩)⟩
  rw[hLi]at q
  have eLi:L[i]'#[0]=es[pl[i]'#[0]].2:=by simp[eL,Qa,rJ]
  rw[eLi]at q
  exact q
theorem next_end(hh:A.handled=none)(hf:t.fits es.size=true)(hk:ft t (!Ip w))(hSI:S≠I)(st:EM w es ep t S T I L es.size s.heap){Q:Option Value->qV->Prop}(h:∀ h',XI I s.heap h'->Q none { s with heap:=h' }):wpAny #[31] A (pyNext (.ref I)) Q E s:=by
 obtain⟨⟨oS,hS,RW⟩,first,hit,by_⟩:=st
 obtain⟨o,ho,hc,hd⟩:=id hit
 unfold pyNext
 refine Wj (Wi (Wl (name:=Str.ofString "__next__") hit.typeIs SF.slot_next (Wm SF.slot_next hit.typeIs SF.entry_next ?_ (SF.args_next _))))
 unfold Builtin.«set_iterator.__next__»
 refine Wj (m:=slotArgs "__next__" 0 _) (YX ?_)
 refine Wj (Wy ho hd ?_)
 dsimp only
 unfold setEntries
 refine Wj (Wj (Yl hS RW hf (YX ?_)))
 rw[if_neg #[11]]
 have stop:∀ h1,XI I s.heap h1->wpAny #[31] A.in1 (do let e <- newExc (.type "StopIteration") [];raiseNew e:qS Fin) (fun fin s'=>∃ v,fin=Fin.done (Flow.ret v)/\wpAny #[31] A (pure (some v)) Q E s')
   (fun e s'=>wpAny #[31] A (do if <- isInstance e (.type "StopIteration")then pure none else throw e) Q E s') { s with heap:=h1 }:=by
  intro h1 e1
  refine Wj ?_
  simp only[newExc,newTuple]
  refine Wj (YT ?_ (by size_fits))
  refine Wj (m:=firstArgMember _ _) (YV (a:=yC) (by first|rfl|(simp only[firstArgMember];rfl)) ?_)
  refine YT ?_ (by size_fits)
  simp only[raiseNew]
  refine Wj (YB ?_)
  rw[show A.in1.handled=none from hh]
  refine Wj (YX (Yp ?_))
  refine Wj (YD (T := "StopIteration") (b:=true) ⟨_,jH _ rfl,rfl⟩ WI ?_)
  exact YX (h _ ((e1.push _).push _))
 rcases by_ with⟨bt,⟨z,rfl⟩,eL⟩|⟨bt,pl,⟨z,rfl,hz⟩,eL⟩|⟨bt,rfl,pl,pp,⟨oT,eT,hT,hTd⟩,eL⟩
 ·have px:=Bp (w.params.setOrder S ep) es
  have hx:#[62].size=es.size:=by rw[<- jU,px.length_eq,jU]
  refine Wj ?_
  unfold setNext
  refine Wj (Yl hS RW hf ?_)
  unfold setsByText
  refine Wj (Wj (Wg (YX ?_)))
  rw[if_pos (show#[31].w.params.followText "set-order" = true from bt),if_neg #[11]]
  unfold setWalk setsByText
  refine Wj (Wj (Yl hS RW hf ?_))
  refine Wj (Wj (Wg (YX ?_)))
  rw[if_pos (show#[31].w.params.followText "set-order" = true from bt)]
  refine Wj (Wg (YX (YX ?_)))
  have ex:(pickOrder (#[31].w.params.setOrder S ep) es)[((es.size:Nat):Int).toNat]?=none:=by
   rw[jB]
   exact zq (zx hx)
  rw[ex]
  dsimp only[Qs]
  refine Wj (Yk ho hd #[11] ?_)
  exact stop _ (yF ..).extBut
 ·have hpz:t.place.size=es.size:=by
   simp only[SetTable.fits,Jc,beq_iff_eq,decide_eq_true_eq]at hf
   exact hf.1
  refine Wj ?_
  unfold setNext
  refine Wj (Yl hS RW hf ?_)
  unfold setsByText
  refine Wj (Wj (Wg (YX ?_)))
  rw[if_neg (show ¬ (#[31].w.params.followText "set-order" = true)from by rw[show#[31].w.params.followText "set-order" = false from bt];exact jd)]
  show wpAny _ _ (if (!t.plain&&decide (es.size > 1))=true then _ else _) _ _ _
  rw[if_neg (by
   rcases pl with q|q
   ·rw[q];simp
   ·simp;omega)]
  show wpAny _ _ ((if (!t.led&&!es.isEmpty)=true then _ else pure ())>>=_) _ _ _
  rw[if_neg (by rw[hk.led,bt];simp)]
  refine Wj (YX (YX ?_))
  rw[jB,hz,zq (jF _)]
  dsimp only
  refine Wj (Yk ho hd #[11] ?_)
  exact stop _ (yF ..).extBut
 ·have lpl:pl.length=es.size:=by rw[pp.length_eq,jT]
  show wpAny _ _ (seqItems? (.ref T)>>=_) _ _ _
  unfold seqItems?
  refine Wj (Wj (YL hT ?_))
  rw[hTd]
  refine YX ?_
  dsimp only
  have ep1:(pl.map fun p:Nat=>yI (p:Int) 0).toArray[((es.size:Nat):Int).toNat]?=none:=by
   rw[jB]
   simp[lpl]
  rw[ep1]
  dsimp only
  refine Wj (Yk ho hd #[11] ?_)
  have hd0:=Obj.data_mapFields hd (·.setIfInBounds 0 (rawInt 0))
  refine Wj (Yk (jg _ ho (Obj.isFreed_of_fields hd0)) hd0 #[11] ?_)
  exact stop _ ((yF ..).trans (yF ..)).extBut
end
end L2
namespace L2
open PySem PySem.Spec PyProof.Rows
namespace SF
theorem Ca:entryFor table "set_iterator.__iter__" = some Builtin.«dict_keyiterator.__iter__» := WD (id' := "dict_keyiterator.__iter__") (by kernel_rfl) rfl #[3] (by kernel_rfl)
theorem CZ(a:Value):argsOk "set_iterator.__iter__" ⟨[a],[]⟩:=by unfold argsOk;kernel_rfl
end SF
section
variable{P:qR}{w:World}{A:Around}{E:Value->qV->Prop}{s:qV}{es:Array (Int×Value)}{ep:Nat}{t:qU}{S T I:Qu}{L:List Value}
theorem ai5(hh:A.handled=none)(hf:t.fits es.size=true)(hk:ft t (!Ip w))(hL:L.length=es.size)(hTI:T≠I)(hSI:S≠I):
  WalksS P w A I [I,S,T] [I] (fun a b=>b=a) es.size (fun i v=>v=L.getD i .none) (fun i s=>EM w es ep t S T I L i s.heap) where
 sub:=fun b hb=>by simp at hb;simp[hb]
 grefl:=fun _=>rfl
 gtrans:=fun _ _ _ h1 h2=>h2.trans h1
 frame:=fun i s h' tk st _ k=>by
  obtain⟨⟨oS,hS,RW⟩,first,⟨o,ho,r,r1⟩,by_⟩:=st
  refine⟨⟨oS,k S #[11] _ hS,RW⟩,first,⟨o,k I #[11] _ ho,r,r1⟩,?_⟩
  rcases by_ with z|z|⟨b,e,pl,pp,⟨oT,eT,hT,hTd⟩,eL⟩
  ·exact .inl z
  ·exact .inr (.inl z)
  ·exact .inr (.inr ⟨b,e,pl,pp,⟨oT,eT,k T #[11] _ hT,hTd⟩,eL⟩)
 item:=fun i s Q E hi st hQ=>next_item hf hk hL hTI hSI st hi fun h' sb Ea=>hQ _ _ rfl Ea ⟨fun b o hb e=>(sb.2 b fun z=>hb (by simp[z])).trans e,rfl,rfl,rfl,jF _⟩
 done:=fun s Q E st hQ=>next_end hh hf hk hSI st fun h' eb=>hQ _ ⟨fun b o hb e=>eb b o (fun z=>hb (by simp[z])) e,rfl,rfl,rfl,jF _⟩
 self:=fun i s Q E st hQ=>by
  obtain⟨_,first,hit,_⟩:=st
  refine Yb hit.typeIs SF.sX (Wm SF.sX hit.typeIs SF.Ca ?_ (SF.CZ _))
  show wpAny _ _ (ret (.ref I)) _ _ s
  exact YX ⟨_,rfl,"set_iterator",_,hit.typeIs,SF.slot_next.lookup,hQ⟩
theorem ah5{o:Obj}{Q:Value->qV->Prop}(ho:s.heap.get? S=some o)(hex:o.ExactSet)(hd:o.data=.set es ep t)(hb:es.size<scanBound)(hf:t.fits es.size=true)(hk:ft t (!Ip w))(h:∀ (h':Heap) (d':qD) (I T:Qu) (L:List Value),L.Perm (es.toList.map (·.2))->EM w es ep t S T I L 0 h'->(∀ b u,s.heap.get? b=some u->h'.get? b=some u)->s.heap.objs.size<=I->I<h'.objs.size->T≠I->(T=S\/s.heap.objs.size<=T)->Q (.ref I) { s with heap:=h',drawn:=d' }):
  wpAny #[31] A (pyIter (.ref S)) Q E s:=by
 have hT:s.TypeIs (.ref S) "set" := ⟨o,ho,hex.1⟩
 have hSl:S<s.heap.objs.size:=jI ho
 refine Yb hT GI (Wm GI hT SF.MM ?_ (F.args_set_iter_1 _))
 unfold Builtin.«frozenset.__iter__» gB Gx setEntries
 refine Wj (Wj (m:=slotArgs "__iter__" 0 _) (YX (YX ?_)))
 refine Wj (Wj (Wj (Yl ho hd hf (YX (YX ?_)))))
 refine Wj ?_
 unfold setDrawn setsByText
 refine Wj (Yl ho hd hf ?_)
 refine Wj (Wj (Wg (YX (YX ?_))))
 show wpAny _ _ (if (!Ip w&&(!t.plain&&decide (es.size > 1)))=true then _ else _) _ _ _
 by_cases c:(!Ip w&&(!t.plain&&decide (es.size > 1)))=true
 ·rw[if_pos c]
  have bt:Ip w=false:=by
   cases b:Ip w with
   | false=>rfl
   | true=>rw[b]at c;simp at c
  refine Wj (EZ _ _ _ _ #[11] fun pl d' pp=>Wj ?_)
  have al1:pl.length=es.size:=by rw[pp.length_eq,jT]
  refine wpAny_newTuple (hsz:=by rw[jZ,al1];exact WG hb) ?_
  have lpl:pl.length=es.size:=by rw[pp.length_eq,jT]
  have K3:(s.heap.push (seqObj "tuple" (pl.map fun i:Nat=>rawInt i).toArray 0)).get? S=some o:=jA _ ho
  unfold setEpoch
  refine Wj (Wj (Yl (s:={ s with heap:=s.heap.push (seqObj "tuple" (pl.map fun i:Nat=>rawInt i).toArray 0),drawn:=d' }) K3 hd hf (YX ?_)))
  unfold newFields
  refine Wj (YT (YX ⟨_,rfl,"set_iterator",_,⟨_,jH _ rfl,rfl⟩,SF.slot_next.lookup,?_⟩) (by size_fits))
  refine h _ d' _ s.heap.objs.size (pl.map fun p=>(es.getD p (0,.none)).2) ?_ ⟨⟨o,jA _ K3,hd⟩,_,⟨_,jH _ rfl,rfl,rfl⟩,.inr (.inr ⟨bt,rfl,pl,pp,⟨_,0,jA _ (jH _ rfl),rfl⟩,rfl⟩)⟩
   (fun b u q=>jA _ (jA _ q)) ?_ ?_ ?_ ?_
  ·refine(pp.map _).trans ?_
   rw[show(jO es.size).map (fun p=>(es.getD p (0,.none)).2)=es.toList.map (·.2)from by
    refine Jj #[11] fun i h1 h2=>?_
    have hi:i<es.size:=by simpa using h1
    simp[Qa,hi]]
  ·rw[jx];exact JF _
  ·exact jI (jH _ rfl)
  ·rw[jx];exact jM (JL _)
  ·exact .inr (jF _)
 ·rw[if_neg c]
  refine Wj (YX ?_)
  unfold setEpoch
  refine Wj (Wj (Yl ho hd hf (YX ?_)))
  unfold newFields
  refine Wj (YT (YX ⟨_,rfl,"set_iterator",_,⟨_,jH _ rfl,rfl⟩,SF.slot_next.lookup,?_⟩) (by size_fits))
  cases bt:Ip w with
  | true =>
   refine h _ s.drawn _ S (#[62].toList.map (·.2)) ((Bp _ es).map _) ⟨⟨o,jA _ ho,hd⟩,_,⟨_,jH _ rfl,rfl,rfl⟩,.inl ⟨bt,⟨0,rfl⟩,rfl⟩⟩
    (fun b u q=>jA _ q) (jF _) ?_ (jM hSl) ?_
   ·rw[jx];exact JL _
   ·exact .inl rfl
  | false =>
   rw[bt]at c
   have pl:t.plain=true\/es.size<=1:=by
    cases q:t.plain with
    | true=>exact .inl rfl
    | false =>
     rw[q]at c
     simp at c
     exact .inr c
   refine h _ s.drawn _ S (es.toList.map (·.2)) (List.Perm.refl _) ⟨⟨o,jA _ ho,hd⟩,_,⟨_,jH _ rfl,rfl,rfl⟩,.inr (.inl ⟨bt,pl,⟨0,rfl,Mt hk.rise⟩,rfl⟩)⟩
    (fun b u q=>jA _ q) (jF _) ?_ (jM hSl) ?_
   ·rw[jx];exact JL _
   ·exact .inl rfl
end
end L2
namespace L2
open PySem PySem.Spec PyProof.Rows
variable{P:qR}{w:World}{A:Around}{E Q:Value→qV→Prop}{s ns:List Int}{S:Qu}{v:Int}{X:Cx}
section
variable{s:qV}
theorem Tv{Q:List Value->qV->Prop}(hh:A.handled=none)(hS:oM P w s.heap S ns)(hQ:∀ (vs:List Value) (ms:List Int) (h':Heap) (d':qD) (tk:Nat),qI vs ms->ms.Perm ns->(∀ b u,s.heap.get? b=some u->h'.get? b=some u)->s.heap.objs.size<=h'.objs.size->Q vs { s with heap:=h',drawn:=d',toks:=tk }):
  wpAny #[31] A (collect (.ref S)) Q E s:=by
 obtain⟨o,es,ep,t,ho,hex,hd,hel,hi,hp,hb,hf,hk⟩:=hS
 have hSl:S<s.heap.objs.size:=jI ho
 unfold collect
 refine Wj (Yh (qv F.entry_proto_collect ?_))
 rw[Around.under_plainId F.plain_proto_collect _]
 show wpAny _ A.in1 (newList []>>=fun l=>again (.builtin "list.__iadd__" ⟨[l,.ref S],[]⟩)) _ _ s
 refine Wj (YT ?_)
 refine YX ⟨WO xq _,qv F.entry_list_iadd ?_⟩
 rw[Around.under_plainId xq _]
 generalize hN:({ cls:=.type "list",data:=.seq ([]:List Value).toArray }:Obj)=oN
 have K3:(s.heap.push oN).get? S=some o:=jA _ ho
 have hN1:(s.heap.push oN).get? s.heap.objs.size=some oN:=jH _ (by rw[<- hN];rfl)
 have ne:s.heap.objs.size≠S:=JX hSl
 have hT:(⟨s.heap.push oN,s.gens,s.drawn,s.toks,s.os⟩:qV).TypeIs (.ref S) "set" := ⟨o,K3,hex.1⟩
 show wpAny _ A.in1 (yQ #[13] (.ref S) #[13]) _ _ ⟨s.heap.push oN,s.gens,s.drawn,s.toks,s.os⟩
 unfold yQ
 refine Wj (Yt hT ?_)
 rw[if_neg (by
  have h1:yn #[13] (.ref S)=false:=by simp[yn,ne]
  rw[h1]
  decide)]
 refine Wj (ah5 K3 hex hd hb hf hk fun h1 d1 I T L pL st keep hI1 hI2 hTI hT2=>?_)
 have ho2:h1.get? S=some o:=keep S o K3
 have aef:(⟨h1,s.gens,d1,s.toks,s.os⟩:qV).TypeIs (.ref S) "set" := ⟨o,ho2,hex.1⟩
 refine Wj (YC ?_)
 unfold yx
 refine Wj (Ym aef F.slot_set_len.lookup ?_)
 (generalize hid:("set.__len__" : String)=id0;wp_delta;rw[show splitId id0=some ("set","__len__")from by subst hid;decide +kernel];subst hid)
 refine Wj (YD (b:=true) aef sub_set_self ?_)
 show wpAny _ _ (typeOf (.ref S)>>=_) _ _ _
 refine Wj (Yt aef (YX ?_))
 show wpAny _ A.in1 (rule "list.extend.makes-room" >>= fun _=>gJ #[13]>>=fun _ =>
  again (.builtin "list.extend.loop" ⟨[.ref s.heap.objs.size,.ref I,.ref s.heap.objs.size],[]⟩)) _ _ _
 refine Wj (Yg ?_)
 have MR:h1.get? s.heap.objs.size=some { cls:=.type "list",data:=.seq ([]:List Value).toArray }:=by rw[hN];exact keep _ _ hN1
 refine Wj ?_
 show wpAny _ A.in1 (updateSeq s.heap.objs.size (·.push .none)>>=fun _=>updateSeq s.heap.objs.size (·.pop)) _ _ _
 refine Wj (Yu MR rfl ?_)
 have J6:=jg (Obj.mapSeq (·.push yC)) MR rfl
 refine Yu J6 rfl ?_
 have hN4:=jg (Obj.mapSeq (·.pop)) J6 rfl
 have oth:∀ b u,b≠s.heap.objs.size->h1.get? b=some u->((h1.update s.heap.objs.size (Obj.mapSeq (·.push yC))).update s.heap.objs.size (Obj.mapSeq (·.pop))).get? b=some u:=
  fun b u hb q=>(jo _ _ (Ne.symm hb)).trans ((jo _ _ (Ne.symm hb)).trans q)
 have lL:L.length=es.size:=by rw[pL.length_eq,jZ,jU]
 have nI:s.heap.objs.size≠I:=by
  rw[jx]at hI1
  exact jM hI1
 have nT:s.heap.objs.size≠T:=by
  rcases hT2 with z|z
  ·rw[z];exact ne
  ·rw[jx]at z
   exact jM z
 have SI:S≠I:=by
  rw[jx]at hI1
  exact jM (jh hSl (ji (JF _) hI1))
 have W:WalksS P w A.in1 I [I,S,T] [I] (fun a b=>b=a) es.size (fun i v=>v=L.getD i .none) (fun i s=>EM w es ep t S T I L i s.heap):=ai5 (A:=A.in1) (by simp[hh]) hf hk lL hTI SI
 have nfp:s.heap.objs.size∉[I,S,T]:=by
  simp only[jS,JP,or_false,not_or]
  exact⟨nI,ne,nT⟩
 refine YX ⟨WO F.plain_extend_loop _,qz W (WG hb) _ nfp _ es.size 0 _ _ _ rfl (je _)
  (W.frame 0 ⟨h1,s.gens,d1,s.toks,s.os⟩ _ s.toks st (jF _) fun b hb' u q=>oth b u (fun z=>nfp (z ▸ hb')) q) hN4 (ItemsOf.nil _) fun s' tM c' hm Et lA=>?_⟩
 show wpAny _ A (load s.heap.objs.size>>=_) _ _ s'
 refine Wj (YL Et (YX ?_))
 obtain⟨h',g',d',tk',os'⟩:=s'
 have eg:g'=s.gens:=hm.gens
 have eo:os'=s.os:=hm.os
 subst eg eo
 have aki:tM.toList=L:=by
  refine Jj (by rw[jU,lA.1,lL]) fun i Dr Cs=>?_
  have:=lA.2 i tM[i] (by simp at Dr;simp[Dr])
  simp[this,Cs]
 rw[aki]
 have allI:∀ vs:List Value,(∀ v∈vs,∃ n u,v=yI n u)->qI vs (vs.map OX):=by
  intro vs
  induction vs with
  | nil=>intro _;exact .nil
  | cons v r ih =>
   intro al
   obtain⟨n,u,rfl⟩:=al v jE
   exact .cons n u (ih fun x hx=>al x (jK _ hx))
 refine hQ L (L.map OX) h' d' tk' (allI L fun v hv=>?_) ?_ (fun b u q=>?_) (Js (jI Et))
 ·obtain⟨e,he,rfl⟩:=jN.mp (pL.mem_iff.mp hv)
  exact hi e he
 ·refine(pL.map _).trans ?_
  rw[JO]
  exact hp
 ·have hbn:b≠s.heap.objs.size:=jM (jI q)
  refine hm.heap b u ?_ (oth b u hbn (keep b u (jA _ q)))
  simp only[jS,JP,or_false,not_or]
  refine⟨hbn,jM (jh (jI q) ?_)⟩
  rw[jx]at hI1
  exact ji (JF _) hI1
theorem acL(hh:A.handled=none)(hS:oM P w s.heap S ns)(h64:ns.length<64)(h:∀ (l:Qu) (out:List Value) (ms:List Int) (e:Nat) (h':Heap) (d':qD) (tk:Nat),qI out ms->ms.Perm ns->ms.Pairwise (·<=·)->s.heap.objs.size<=l->h'.get? l=some (seqObj "list" out.toArray e)->(∀ b u,s.heap.get? b=some u->h'.get? b=some u) ->
   Q (.ref l) { s with heap:=h',drawn:=d',toks:=tk }):wpAny #[31] A (call (.builtin "sorted") [.ref S]) Q E s:=by
 refine Xl kind_sorted plain_sorted entry_sorted (args_sorted1 _) ?_
 unfold Builtin.«sorted»
 refine Wj (m:=checkCount "sorted" 1 1 _) (YX ?_)
 refine Wj (Tv (by simp[hh]) hS fun vs ms h1 d1 tk1 hI hp keep alF=>?_)
 have l64:vs.length<64:=by
  have e1:vs.length=ms.length:=hI.length
  have e2:=hp.length_eq
  omega
 refine Wj (wpAny_newList (hsz:=ji (Js l64) #[8]) ?_)
 have hoL:(h1.push (seqObj "list" vs.toArray 0)).get? h1.objs.size=some (seqObj "list" vs.toArray 0):=jH _ rfl
 refine Wj (YC (Wm slot_list_sort ⟨_,hoL,rfl⟩ entry_list_sort (list_sort_tree hoL hI l64 fun out ns' a1 a2 a3=>⟨_,rfl,?_⟩) (args_list_sort _)))
 obtain⟨e,he⟩:=sortedHeap_at (vs:=vs) (out:=out) hoL
 refine YX ⟨_,rfl,?_⟩
 refine h h1.objs.size out.toList ns' e _ d1 tk1 a1 (a2.trans hp) a3 ?_ (by simpa using he) fun b u q=>?_
 ·exact alF
 ·have q1:=keep b u q
  have lt:=jI q1
  rw[sortedHeap_old (jM lt) (by rw[jx];exact Jg lt)]
  exact jA _ q1
end
abbrev IG(P:qR)(w:World)(S:Qu)(ns:List Int):HO:=.ext fun h=>oM P w h S ns
theorem Mg:∀ {ns:List Int} {us:List Value},Vals #[14] us->qI us ns
 | [],_,.nil=>.nil
 | n :: r,_,.cons ⟨t,e⟩ z=>by
  subst e
  exact .cons n t (Mg z)
theorem Md:∀ {ns:List Int} {us:List Value},qI us ns->Vals #[14] us
 | _,_,.nil=>.nil
 | _,_,.cons n t r=>.cons ⟨t,rfl⟩ (Md r)
def bp(ns:List Int):List Int:=ns.foldl step_dedup []
theorem Es(ns:List Int):firstMet (fun i=>ns.getD i 0) ns.length=bp ns:=by
 unfold firstMet bp
 congr 1
 refine Jj #[11] fun i h1 h2=>?_
 simp[ZO,h2]
theorem RJ{k:Int}:k∈step_dedup s v↔k∈s\/k=v:=by
 unfold step_dedup
 split
 ·rename_i h
  have hv:v∈s:=by simpa using h
  exact⟨.inl,fun z=>z.elim id fun e=>e ▸ hv⟩
 ·simp
theorem IZ(h:s.Nodup):(step_dedup s v).Nodup:=by
 unfold step_dedup
 split
 ·exact h
 ·rename_i c
  have hv:v∉s:=by simpa using c
  exact JU.mpr ⟨h,by simp,fun a ha b hb e=>hv (by rw[<- jJ.mp hb,<- e];exact ha)⟩
theorem BS:∀ (ns s:List Int) (k:Int),k∈ns.foldl step_dedup s↔k∈s\/k∈ns
 | [],s,k=>by simp
 | n :: r,s,k=>by
  rw[JZ,BS r,RJ,jS]
  constructor
  ·rintro((h|h)|h)
   ·exact .inl h
   ·exact .inr (.inl h)
   ·exact .inr (.inr h)
  ·rintro(h|h|h)
   ·exact .inl (.inl h)
   ·exact .inl (.inr h)
   ·exact .inr h
theorem sG{k:Int}:k∈bp ns↔k∈ns:=by
 unfold bp
 rw[BS]
 simp
theorem wa:∀ (ns s:List Int),s.Nodup->(ns.foldl step_dedup s).Nodup
 | [],s,h=>h
 | n :: r,s,h=>wa r _ (IZ h)
theorem Og(ns:List Int):(bp ns).Nodup:=wa ns [] List.Pairwise.nil
theorem fz:∀ (ns s:List Int),(ns.foldl step_dedup s).length<=s.length+ns.length
 | [],s=>jF _
 | n :: r,s=>by
  refine ji (fz r _) ?_
  have:(step_dedup s n).length<=s.length+1:=by
   unfold step_dedup
   split
   ·exact JF _
   ·rw[jL];exact jF _
  rw[jc]
  omega
theorem sC(ns:List Int):(bp ns).length<=ns.length:=by
 have q:=fz ns []
 unfold bp
 simpa using q
section
theorem RC(hc:X.calm=true):ie X (.type "set") (fun xs H Q=>∃ (a:Qu) (ns:List Int),xs=[.ref a]/\H a=some (.lst #[14])/\ns.length<4000/\∀ S,H S=none->Q (.ref S) (upd H S (IG X.prog X.w S (bp ns)))):=by
 exists 15
 obtain⟨a,ns,rfl,ha,hz,q⟩:=h
 exists 22
 cases rx
 obtain⟨_,aV,n,rv,hl,e⟩:=I.Cf ha
 have hln:aV.length=ns.length:=by rw[<- hl,jZ]
 refine RD (I.ok.hd hc) ⟨_,e,rfl,n,rfl⟩ (ns:=ns) (by simpa using Mg rv) (by simp only[jP];unfold scanBound;omega) fun h' tk hS keep=>?_
 have k2:∀ b o,s.heap.get? b=some o->h'.get? b=some o:=fun b o z=>keep b o (jI z) z
 have Et:oM X.prog X.w h' s.heap.objs.size (bp ns):=by
  simp only[jP]at hS
  rw[hln,Es]at hS
  exact hS
 refine⟨.ref s.heap.objs.size,_,I.laid (o:=IG X.prog X.w s.heap.objs.size (bp ns)) (t' := tk) k2 (jF _) (show oM X.prog X.w h' s.heap.objs.size (bp ns)/\(∃ o,h'.get? s.heap.objs.size=some o)/\∀ h1 h2:Heap,oM X.prog X.w h1 s.heap.objs.size (bp ns)->(∀ o,h1.get? s.heap.objs.size=some o->h2.get? s.heap.objs.size=some o)->oM X.prog X.w h2 s.heap.objs.size (bp ns)from⟨Et,?_,fun h1 h2 p kp=>p.keep kp⟩),rfl,q _ #[56]⟩
 obtain⟨o,es,ep,t,ho,_⟩:=Et
 exact⟨o,ho⟩
theorem Hk(hc:X.calm=true):ie X (.builtin "sorted") (fun xs H Q=>∃ (S:Qu) (ns:List Int),xs=[.ref S]/\H S=some (IG X.prog X.w S ns)/\ns.length<64 /\
  ∀ (l:Qu) (ms:List Int),H l=none->ms.Perm ns->ms.Pairwise (·<=·)->Q (.ref l) (upd H l (.lst (ms.map V.int)))):=by
 exists 15
 obtain⟨S,ns,rfl,hS,h64,q⟩:=h
 exists 22
 cases rx
 obtain⟨p,_,_⟩:=(show bA X.prog X.w H s.heap S (IG X.prog X.w S ns)from I.hok S _ hS)
 refine acL (I.ok.hd hc) p h64 fun l out ms e h' d' tk hI hp hs hle hg keep=>?_
 have I1:Inv X pins σ (upd H l (.lst (ms.map V.int))) { s with heap:=h',toks:=tk }:=I.laid (t' := tk) keep hle ⟨by
  rw[jZ,hp.length_eq]
  exact ji (Js h64) #[8],out,e,Md hI,hg⟩
 exact⟨.ref l,_,⟨I1.ok,I1.os,I1.bare,I1.base,I1.loc,I1.cell,I1.free,I1.freeC,I1.pin,I1.hok,I1.len⟩,rfl,q l ms (I.hok.fresh hle) hp hs⟩
end
end L2
namespace PySem
open PyProof.Rows
end PySem
namespace L2
open PySem PySem.Spec PyProof.Rows
variable{a:Expr}{p:Pos}{ix:List (Option Nat)}{te:TE}{σ:St}{H:Hp}{x:qW}{o:Obj}{kvs:List (Key×V)}{Qd:Qu→Hp→Prop}
theorem RE{a:Qu}(Pv:Qu->Nat->List V->Hp->Prop)(h0:∀ D,H D=none->Pv D 0 [] (upd H D (.lst [])))(hl:∀ D i ys H',i<=kvs.length->Pv D i ys H'->H' a=some (.pB o (.dK kvs)))(hs:∀ D i p ys H' (Q':VK),H D=none->kvs[i]?=some p->H' D=some (.lst ys)->Pv D i ys H'->#[9] ->
   te ((aX ix σ).set 0 (some (kV p.1))) H' Q')(hd:∀ D ys H',H D=none->H' D=some (.lst ys)->Pv D kvs.length ys H'->Qd D H'):wQ (Itd a o kvs) ix (bB 0) te σ H Qd:=by
 intro D hD
 exists 13
 exists 24
 have q:=hl D i ys H' hi p
 by_cases cT:i<kvs.length
 ·refine .inr ⟨⟨cT,q⟩,fun x H2 y=>?_⟩
  obtain⟨e1,e2⟩:=y
  subst e1
  have ex:=e2 kvs[i] (jC cT)
  subst ex
  have es:σ'.set 0 (some (kV (kvs[i]).1))=(aX ix σ).set 0 (some (kV (kvs[i]).1)):=by
   rcases hσ with z|⟨t,z⟩
   ·rw[z]
   ·rw[z,Jz]
  show te (σ'.set 0 (some (kV (kvs[i]).1))) _ _
  rw[es]
  refine hs D i kvs[i] ys _ _ hD (jC cT) hy p fun y H4 h4 hz p4=>⟨ys,h4,hz,kvs.length-(i+1),by omega,rfl,cT,.inr ⟨_,rfl⟩,ys++[y],ae,p4⟩
 ·have e:i=kvs.length:=by omega
  subst e
  exact .inl ⟨⟨jF _,q⟩,hd D ys H' hD hy p⟩
end L2
namespace PySem
open PyProof.Rows
variable{prog:qR}{w:World}{K:Type}{A:Around}{E Q:Value→qV→Prop}{s:qV}{R:Result→qV→Prop}{h h':Heap}{a D I l:Qu}{i c:Nat}{ts:List Qu}
section
variable[DecidableEq K]{knd:KeyKind prog w K}
theorem IsTupleKey.there{ks:List K}(x:qL knd h ks a)(k:∀ o,h.get? a=some o->h'.get? a=some o):qL knd h' ks a:=let ⟨o,it,n,ho,r⟩:=x;⟨o,it,n,k _ ho,r⟩
def AX(knd:KeyKind prog w K)(h:Heap)(ts:List Qu)(ps:List (List K×Qu×Value)):Prop := ∀ (j:Nat) (t:Qu) (p:List K×Qu×Value),ts[j]?=some t->ps[j]?=some p->qL knd h p.1 p.2.1/\qK h t #[.ref p.2.1,p.2.2]
def Cy(xs ps:List (List K×Qu×Value)):List (List K×Qu×Value):=ps.foldl (fun acc p=>storedH acc p.1 p.2.1 p.2.2) xs
theorem De{xs:List (List K×Qu×Value)}(x:h.DictOfH (WZ knd) D xs)(hD:∀ o,h.get? D=some o->h'.get? D=some o)(hk:∀ p∈xs,∀ o,h.get? p.2.1=some o->h'.get? p.2.1=some o):h'.DictOfH (WZ knd) D xs:=by
 obtain⟨o,es,ep,ho,hc,hd,he,his,hn⟩:=x
 exact⟨o,es,ep,hD _ ho,hc,hd,he,fun p hp=>IsTupleKey.there (his p hp) (hk p hp),hn⟩
theorem Ma(xs:List (List K×Qu×Value))(k:List K)(a:Qu)(v:Value):(storedH xs k a v).length<=xs.length+1:=by
 unfold storedH
 split
 ·rw[jZ];omega
 ·rw[jL];exact jF _
theorem pO{ks:List K}(x:qL knd h ks a)(y:h.IsListIter I l i):a≠I:=by
 rintro rfl
 obtain⟨o,_,_,ho,hc,_⟩:=x
 obtain⟨o',S7,Pw,_⟩:=y
 rw[ho]at S7
 cases S7
 rw[hc]at Pw
 exact absurd (gm Pw) #[8]
theorem Ii{ps:List (List K×Qu×Value)}(hu:A.units+1<cLine)(W:Walks prog w A.in1 I [I,l] [I] ts.length (fun i v=>(ts.map Yw).toArray[i]?=some v) (fun i h=>h.IsListIter I l i/\h.IsList l (ts.map Yw).toArray))(hl:ts.length=ps.length)(hDI:D≠I)(hDl:D≠l)(hDt:∀ t∈ts,t≠D/\t≠I)(hz:ps.length<=sizeLine):
  ∀ (k i:Nat) (s:qV) (acc:List (List K×Qu×Value)),ts.length-i=k->i<=ts.length->(s.heap.IsListIter I l i/\s.heap.IsList l (ts.map Yw).toArray)->s.heap.DictOfH (WZ knd) D acc->acc.length<=i->AX knd s.heap ts ps ->
  (∀ h' tk,(∀ b o,b≠D->b≠I->s.heap.get? b=some o->h'.get? b=some o)->h'.DictOfH (WZ knd) D (Cy acc (ps.drop i))->R (.ok (.ret .none)) { s with heap:=h',toks:=tk }) ->
  codeAny #[6] A (.builtin "dict.update.loop" ⟨[.ref D,.ref I,rawInt (i:Int),.none],[]⟩) R s:=by
 intro k
 induction k with
 | zero =>
  intro i s acc hk hi tR hD lA hP hR
  have oV:i=ts.length:=by omega
  subst oV
  refine qv dR ?_
  rw[Around.under_plainId bJ _]
  show wpAny _ A.in1 (pyNext (.ref I)>>=_) _ _ s
  refine Wj (W.done s _ _ tR fun h' tk hm=>?_)
  show wpAny _ _ (Xm D []>>=_) _ _ _
  refine Wj (YV (a:=()) rfl ?_)
  have e:ps.drop ts.length=[]:=by rw[hl,zA]
  refine YX (hR h' tk (fun b o _ hb q=>hm b o (by simpa using hb) q) ?_)
  rw[e]
  obtain⟨_,_,_,_,_,_,_,his,_⟩:=id hD
  exact De hD (fun o q=>hm D o (by simpa using hDI) q) fun p hp o q=>hm _ o (by simpa using pO (his p hp) tR.1) q
 | succ k ih =>
  intro i s acc hk hi tR hD lA hP hR
  have cT:i<ts.length:=by omega
  have V4:i<ps.length:=by omega
  refine qv dR ?_
  rw[Around.under_plainId bJ _]
  show wpAny _ A.in1 (pyNext (.ref I)>>=_) _ _ s
  refine Wj (W.item i s _ _ cT tR fun v h' tk hv Hy hm=>?_)
  have ev:v=.ref ts[i]:=by
   have:(ts.map Yw).toArray[i]?=some (.ref ts[i]):=by simp[cT]
   rw[this]at hv
   exact(Option.some.inj hv).symm
  subst ev
  have keep:∀ b o,b≠I->s.heap.get? b=some o->h'.get? b=some o:=fun b o hb q=>hm b o (by simpa using hb) q
  have ah8:∀ {ks:List K} {a:Qu},qL knd s.heap ks a->qL knd h' ks a:=fun x=>x.there fun o q=>keep _ o (pO x tR.1) q
  obtain⟨U9,ht⟩:=hP i ts[i] ps[i] (jC cT) (jC V4)
  have tn:=hDt ts[i] (jG cT)
  have S8:qK h' ts[i] #[.ref (ps[i]).2.1,(ps[i]).2.2]:=ht.extBut (b:=I) keep tn.2
  have hD':h'.DictOfH (WZ knd) D acc:=by
   obtain⟨_,_,_,_,_,_,_,his,_⟩:=id hD
   exact De hD (fun o q=>keep D o hDI q) fun p hp o q=>keep _ o (pO (his p hp) tR.1) q
  obtain⟨ot,hot,hct,nt,hdt⟩:=id S8
  try dsimp only
  refine Wj (YC ?_)
  refine Wj (wpAny_tryCatch ?_)
  unfold Xz
  refine Wj (Yt (s:={ s with heap:=h',toks:=tk }) S8.typeIs ?_)
  rw[if_pos #[8]]
  refine Wj (Yi (s:={ s with heap:=h',toks:=tk }) hot hdt ?_)
  refine YX ?_
  show wpAny _ _ (holding [.ref (ps[i]).2.1,(ps[i]).2.2] (dictSet D (.ref (ps[i]).2.1) (ps[i]).2.2)) _ _ _
  refine YC (Wr (knd:=WZ knd) (k:=(ps[i]).1) (s:={ s with heap:=h',toks:=tk }) hu (ah8 U9) hD' (fun h2 hD2 sb2=>?_) #[0])
  have tZ:∀ b o,b≠D->h'.get? b=some o->h2.get? b=some o:=fun b o hb q=>sb2.extBut b o hb q
  refine YX ⟨WO bJ _,?_⟩
  have ri:rawInt ((i:Int)+1)=rawInt (((i+1:Nat)):Int):=by push_cast;rfl
  rw[ri]
  have alV:∀ {ks:List K} {a:Qu},qL knd s.heap ks a->a≠D:=fun x z=>by
   obtain⟨o,_,_,ho,_,hd,_⟩:=x
   obtain⟨o',_,_,S7,_,hd',_⟩:=hD
   rw[z,S7]at ho
   cases ho
   rw[hd']at hd
   cases hd
  refine ih (i+1) { s with heap:=h2,toks:=_ } (storedH acc (ps[i]).1 (ps[i]).2.1 (ps[i]).2.2) #[0] cT ⟨Hy.1.at fun o q=>tZ I o (Ne.symm hDI) q,Hy.2.at fun o q=>tZ l o (Ne.symm hDl) q⟩ hD2 (by
   have:=Ma acc (ps[i]).1 (ps[i]).2.1 (ps[i]).2.2
   omega) (fun j t p h1 Cs=>?_) (fun h3 tk3 Ir Cc=>?_)
  ·obtain⟨U8,aez⟩:=hP j t p h1 Cs
   have tn' := hDt t (zP h1)
   exact⟨(ah8 U8).there fun o q=>tZ _ o (alV U8) q,(aez.extBut (b:=I) keep tn'.2).extBut (b:=D) tZ tn'.1⟩
  ·refine hR h3 tk3 (fun b o hb hb2 q=>Ir b o hb hb2 (tZ b o hb (keep b o hb2 q))) ?_
   rw[jy V4]
   exact Cc
theorem Ba{ps:List (List K×Qu×Value)}(hu:A.units+2<cLine)(hh:A.handled=none)(hL:s.heap.get? l=some { cls:=.type "list",dict:=none,data:=.seq (ts.map Yw).toArray c,slots := #[] })(hl:ts.length=ps.length)(hP:AX knd s.heap ts ps)(hz:ps.length<=sizeLine)(hQ:∀ h' tk,#[61]->h'.DictOfH (WZ knd) s.heap.objs.size (Cy [] ps)->Q #[13] { s with heap:=h',toks:=tk }):
  wpAny #[6] A (call (.type "dict") [.ref l]) Q E s:=by
 refine qh (Q₁:=fun obj s₁=>obj=.ref s.heap.objs.size/\s₁={ s with heap:=s.heap.push { cls:=.type "dict",data:=.dict #[] } }) xw (xJ _) xo (WK _ ⟨rfl,rfl⟩) ?_
 rintro obj s₁ ⟨rfl,rfl⟩
 have MV:#[28].DictOfH (WZ knd) s.heap.objs.size []:=gi s.heap
 have ac5:({ s with heap:=s.heap.push { cls:=.type "dict",data:=.dict #[] } }:qV).TypeIs #[13] "dict" := ⟨_,jH s.heap rfl,rfl⟩
 have cT:l<s.heap.objs.size:=jI hL
 have hL':#[28].get? l=some { cls:=.type "list",dict:=none,data:=.seq (ts.map Yw).toArray c,slots := #[] }:=jA _ hL
 exists ac5,xY _ _
 unfold Builtin.«dict.__init__»
 refine Wj ?_
 unfold Xn
 refine Wj (YU ac5 ?_)
 show wpAny _ _ (pure (s.heap.objs.size,[Yw l])) _ _ _
 refine YX ?_
 show wpAny _ _ (yo "dict.__init__" s.heap.objs.size (.ref l) [] .none) _ _ _
 unfold yo
 refine Wj (Yt (T := "list") ⟨_,hL',rfl⟩ ?_)
 rw[if_pos #[8]]
 refine Wj (sq hL' hh fun h1 tk1 Ew=>?_)
 rw[if_pos #[41]]
 refine Wj (Yg ?_)
 have hL1:=Ew _ _ hL'
 have il1:gE h1 l (ts.map Yw).toArray:=⟨_,hL1,rfl,c,rfl⟩
 refine Wj (YZ (s:={ s with heap:=h1,toks:=tk1 }) il1 ?_)
 refine YX ⟨WO bJ _,?_⟩
 have oI:#[45].get? h1.objs.size=some { cls:=.type "list_iterator",data:=.fields #[.ref l,.int 0 0] }:=jH _ rfl
 have l1:l<h1.objs.size:=jI hL1
 have d1:s.heap.objs.size<h1.objs.size:=jI (Ew _ _ (jH s.heap rfl))
 have W:=Walks.list (prog:=prog) (w:=w) (A:=A.in1.in1) hh h1.objs.size l (jM l1) (ts.map Yw).toArray
 have sz:(ts.map Yw).toArray.size=ts.length:=by simp
 rw[sz]at W
 have kp2:∀ b o,s.heap.get? b=some o->#[45].get? b=some o:=fun b o q=>jA _ (Ew _ _ (jA _ q))
 refine Ii (A:=A.in1) (knd:=knd) (D:=s.heap.objs.size) (ps:=ps) (by show A.units+1+1<cLine;exact hu) W hl (jM d1) (JX cT) (fun t ht=>?_) hz ts.length 0 { s with heap:=h1.push { cls:=.type "list_iterator",data:=.fields #[.ref l,.int 0 0] },toks:=tk1 } [] rfl (je _) ⟨⟨_,oI,rfl,rfl⟩,il1.at fun o q=>jA _ q⟩ ?_ (je _) (fun j t p a1 a2=>?_) fun h3 tk3 Ir Cc=>?_
 ·obtain⟨j,hj⟩:=JH.mp ht
  have jl:j<ps.length:=by
   rw[<- hl]
   exact(jb.mp hj).1
  obtain⟨_,o,ho,_⟩:=hP j t ps[j] hj (jC jl)
  have tl:=jI ho
  exact⟨jM tl,jM (Jt tl d1)⟩
 ·exact De MV (fun o q=>jA _ (Ew _ _ q)) fun p hp=>by cases hp
 ·obtain⟨hk,ht⟩:=hP j t p a1 a2
  exact⟨hk.there fun o q=>kp2 _ o q,ht.keeps kp2⟩
 ·exact⟨rfl,hQ h3 tk3 (fun b o q=>Ir b o (jM (jI q)) (jM (Jt (jI q) d1)) (kp2 b o q)) Cc⟩
end
end PySem
namespace L2
open PySem PySem.Spec PyProof.Rows
variable{X:Cx}{P:qR}{w:World}{H:Hp}{A:Around}
section
def Mo(H:Hp):List Qu->List (List Key×V)->Prop:=qP fun t p=>∃ b,H t=some (.tup [.ref b,p.2])/\H b=some (.tup (p.1.map kV))
theorem BR:∀ {kvs:List (List Key×V)} {ts:List Qu} {H:Hp} {h:Heap},Mo H ts kvs->ik P w H h->∃ ps:List (List Key×Qu×Value),KT H kvs ps/\ps.length=ts.length/\AX (bq P w) h ts ps
 | [],[],_,_,.nil,_=>⟨[],.nil,rfl,fun j t p h=>by simp at h⟩
 | _,_,_,_,.cons (a:=a) (b:=p) (l₁:=ts) (l₂:=kvs) q t,ok=>by
  obtain⟨ps,r1,r2,r3⟩:=BR t ok
  obtain⟨b,qa,qb⟩:=q
  obtain⟨z,aV,rv,ht⟩:=ok a _ qa
  obtain⟨u,v,rfl,ru,rv'⟩:=Vals.two rv
  cases(show u=Yw b from ru)
  refine⟨(p.1,b,v) :: ps,.cons ⟨rfl,qb,rv'⟩ r1,by simp[r2],fun j t' p' h1 h2=>?_⟩
  cases j with
  | zero =>
   simp at h1 h2
   subst h1 h2
   exact⟨pP ok qb,by simpa using ht⟩
  | succ j=>exact r3 j t' p' (by simpa using h1) (by simpa using h2)
def lD(acc kvs:List (List Key×V)):List (List Key×V):=kvs.foldl (fun a p=>putK a p.1 p.2) acc
theorem oz:∀ (kvs acc:List (List Key×V)),(lD acc kvs).length<=acc.length+kvs.length
 | [],acc=>jF _
 | p :: kvs,acc=>by
  have h1:=oz kvs (putK acc p.1 p.2)
  have h2:=iR acc p.1 p.2
  show(lD (putK acc p.1 p.2) kvs).length<=_
  rw[jc]
  omega
theorem KT.merge:∀ {kvs:List (List Key×V)} {ps:List (List Key×Qu×Value)} {acc:List (List Key×V)} {xs:List (List Key×Qu×Value)},KT H kvs ps->KT H acc xs->KT H (lD acc kvs) (Cy xs ps)
 | [],[],_,_,.nil,r=>r
 | p :: kvs,q :: ps,acc,xs,.cons h t,r=>by
  obtain⟨e,hb,rv⟩:=h
  have s:=r.put p.1 hb rv
  rw[e]at s
  have i:=KT.merge t s
  show KT H (lD (putK acc p.1 p.2) kvs) (Cy (storedH xs q.1 q.2.1 q.2.2) ps)
  rw[e]
  exact i
def aaG:List V->Hp->VK->Prop:=fun xs H Q=>∃ l ts kvs,xs=[.ref l]/\H l=some (.lst (ts.map V.ref))/\Mo H ts kvs/\∀ D,H D=none->Q (.ref D) (upd H D (.dT (lD [] kvs)))
theorem Hj(hc:X.calm=true)(hu:X.A.units+2<cLine):ie X (.type "dict") aaG:=by
 exists 15
 obtain⟨l,ts,kvs,rfl,hl,hp,q⟩:=h
 exists 22
 cases rx
 obtain⟨z,aV,n,rv,hln,e⟩:=I.Cf hl
 have ei:=tK rv
 subst ei
 obtain⟨ps,r1,r2,r3⟩:=BR hp I.hok
 have hlen:kvs.length=ps.length:=Paired.length r1
 have zl:ps.length<=sizeLine:=by
  rw[r2]
  rw[jZ]at z
  exact z
 refine Ba (knd:=bq X.prog X.w) hu (I.ok.hd hc) e r2.symm r3 zl fun h' tk kp dd=>?_
 have ob:bA X.prog X.w (upd H s.heap.objs.size (.dT (lD [] kvs))) h' s.heap.objs.size (.dT (lD [] kvs)):=by
  obtain⟨o,es,ep,h1,h2,h3,h4,_,h5⟩:=dd
  refine⟨?_,beq_eq_false_iff_ne.mpr (Ne.symm (jM I.big)),_,(KT.merge r1 .nil).keeps fun c ys ec=>?_,o,es,ep,h1,h2,h3,h4,h5⟩
  ·have:=oz kvs []
   simp only[Jn]at this
   omega
  ·rw[aj (ar ec #[56])]
   exact ec
 exact⟨.ref _,_,I.laid (t' := tk) kp (jF _) ob,rfl,q _ #[56]⟩
end
theorem aeA{k:Nat}(hr:cV k A):A.units+2<cLine:=by
 have:=hr.un
 omega
end L2
namespace PySem
variable{prog:qR}{w:World}{A:Around}{E:Value→qV→Prop}{s:qV}{d it:Qu}{es:Array qB}{ep:Nat}{Q:Option Value→qV→Prop}
section
def CN(h:Heap)(d:Qu)(es:Array qB)(ep:Nat):Prop := ∃ o,h.get? d=some o/\o.ExactDict/\o.data=.dict es ep
theorem CN.ty(x:CN s.heap d es ep):s.TypeIs (.ref d) "dict" := let ⟨o,h1,h2,_⟩:=x;⟨o,h1,h2.1⟩
theorem CN.to{h h':Heap}(x:CN h d es ep)(k:∀ o,h.get? d=some o->h'.get? d=some o):CN h' d es ep:=let ⟨o,h1,r,r1⟩:=x;⟨o,k _ h1,r,r1⟩
theorem K9{Q:Value->qV->Prop}(lo:(d==WX)=false)(x:CN s.heap d es ep)(q:Q #[13] { s with heap:=s.heap.push { cls:=.type "dict_keyiterator",data:=.fields #[.ref d,.int 0 0,.int es.size 0,.int ep 0] } }):wpAny #[6] A (pyIter (.ref d)) Q E s:=by
 have ty:=x.ty
 obtain⟨ob,g1,g2,g3⟩:=x
 refine Yb ty GA (Wm GA ty F.entry_dict_iter ?_ (F.args_dict_iter_1 _))
 unfold Builtin.«dict.__iter__» Gf
 refine Wj (Wj (YU ty ?_))
 show wpAny _ _ (pure (Yw d)) _ _ s
 refine YX ?_
 show wpAny _ _ (xD d>>=_) _ _ s
 unfold xD
 rw[if_neg (fun z=>by rw[lo]at z;cases z)]
 refine Wj (YX (Wj (Wo g1 g3 (Wj (Wq g1 g3 ?_)))))
 refine Wj (YT (YX ⟨_,rfl,"dict_keyiterator",_,⟨_,jH _ rfl,rfl⟩,F.slot_dict_keyiterator_next.lookup,?_⟩))
 simpa[rawInt]using q
theorem Lm{i:Nat}(y:s.heap.IsKeyIter it d i es.size ep)(x:CN s.heap d es ep)(hi:i<es.size)(q:∀ h',h'.IsKeyIter it d (i+1) es.size ep->yL it s.heap h'->Q (some es[i].key) { s with heap:=h' }):wpAny #[6] A (pyNext (.ref it)) Q E s:=by
 have ty:=y.typeIs
 obtain⟨oi,i1,i2,i3⟩:=id y
 obtain⟨ob,g1,g2,g3⟩:=x
 unfold pyNext
 refine Wj (Wi (Wl (name:=Str.ofString "__next__") ty yf (Wm yf ty XU ?_ (XT _))))
 refine Wj (YX (Wj (Wj ?_)))
 first|refine Wj (Yr ty (YX ?_))|refine Wj (Ys ty (YX ?_))
 refine Wj (Wy i1 i3 ?_)
 have own:Xb "dict_keyiterator" = false:=by decide
 simp only[own,jf,if_false]
 show wpAny _ _ (if (Yw d==yC)=true then _ else _) _ _ s
 rw[if_neg #[1]]
 refine Wj (YX (Wj (Wo g1 g3 ?_)))
 rw[if_neg #[11]]
 refine Wj (YX (Wj (Wq g1 g3 ?_)))
 rw[if_neg #[11]]
 refine YX ?_
 simp only[show ¬ ((i:Int)<0)from by omega,if_false,jB,ju hi]
 refine Wj ?_
 first|refine Wj (Yr ty (YX ?_))|refine Wj (Ys ty (YX ?_))
 refine Wj (YE ty ?_)
 show wpAny _ _ (setField (.ref it) 1 (rawInt ((i:Int)+1))>>=_) _ _ s
 refine Wj (Yk i1 i3 #[11] ?_)
 have y2:(s.heap.update it #[34]).IsKeyIter it d (i+1) es.size ep:=⟨_,jg _ i1 (Obj.isFreed_of_fields (Obj.data_mapFields i3 _)),(Obj.cls_mapFields ..).trans i2,by rw[Obj.data_mapFields i3];simp[rawInt]⟩
 refine Wj (YC (Wj (YE (s:={ s with heap:=s.heap.update it #[34] }) y2.typeIs ?_)))
 show wpAny _ _ (pure es[i].key) _ _ _
 exact YX (YX ⟨_,rfl,YX (q _ y2 (yF ..))⟩)
theorem Pn(hh:A.handled=none)(y:s.heap.IsKeyIter it d es.size es.size ep)(x:CN s.heap d es ep)(q:∀ h',XI it s.heap h'->Q none { s with heap:=h' }):wpAny #[6] A (pyNext (.ref it)) Q E s:=by
 have ty:=y.typeIs
 obtain⟨oi,i1,i2,i3⟩:=id y
 obtain⟨ob,g1,g2,g3⟩:=x
 unfold pyNext
 refine Wj (Wi (Wl (name:=Str.ofString "__next__") ty yf (Wm yf ty XU ?_ (XT _))))
 refine Wj (YX (Wj (Wj ?_)))
 first|refine Wj (Yr ty (YX ?_))|refine Wj (Ys ty (YX ?_))
 refine Wj (Wy i1 i3 ?_)
 have own:Xb "dict_keyiterator" = false:=by decide
 simp only[own,jf,if_false]
 show wpAny _ _ (if (Yw d==yC)=true then _ else _) _ _ s
 rw[if_neg #[1]]
 refine Wj (YX (Wj (Wo g1 g3 ?_)))
 rw[if_neg #[11]]
 refine Wj (YX (Wj (Wq g1 g3 ?_)))
 rw[if_neg #[11]]
 refine YX ?_
 simp only[show ¬ ((es.size:Int)<0)from by omega,if_false,jB,zq (jF es.size)]
 refine Wj ?_
 first|refine Wj (Yr ty (YX ?_))|refine Wj (Ys ty (YX ?_))
 show wpAny _ _ (setField (.ref it) 0 .none>>=_) _ _ s
 refine Wj (Yk i1 i3 #[11] ?_)
 show wpAny _ _ (newExc (.type "StopIteration") []>>=_) _ _ _
 refine Wj ?_
 simp only[newExc,newTuple]
 refine Wj (YT (Wj (m:=firstArgMember _ _) (YV (a:=yC) (by first|rfl|(simp only[firstArgMember];rfl)) (YT ?_ (by size_fits)))) (by size_fits))
 simp only[raiseNew]
 refine Wj (YB ?_)
 rw[show A.in1.handled=none from hh]
 refine(Wj (YX (Yp ?fin)))
 refine(Wj (YD (T := "StopIteration") (b:=true) ⟨_,(jH _ rfl),rfl⟩ WI ?_))
 exact YX (q _ (((yF ..).extBut.push _).push _))
theorem SY(hh:A.handled=none)(I d:Qu)(ne:d≠I)(es:Array qB)(ep:Nat):
  Walks prog w A I [I,d] [I] es.size (fun i v=>∃ hi:i<es.size,v=es[i].key) (fun i h=>h.IsKeyIter I d i es.size ep/\CN h d es ep) where
 sub:=fun b hb=>by simp at hb;simp[hb]
 frame:=fun _ _ _ st hk=>⟨st.1.at fun o e=>hk I #[11] o e,st.2.to fun o e=>hk d #[11] o e⟩
 item:=fun i s Q E hi st hQ=>Lm st.1 st.2 hi fun h' y2 sb=>hQ _ h' s.toks ⟨hi,rfl⟩ ⟨y2,st.2.to fun o e=>sb.extBut d o ne e⟩ fun b o hb e=>sb.extBut b o (fun h=>hb (by simp[h])) e
 done:=fun s Q E st hQ=>Pn hh st.1 st.2 fun h' he=>hQ h' s.toks fun b o hb e=>he b o (fun h=>hb (by simp[h])) e
 self:=fun _ _ _ _ st hQ=>wpAny_pyIter_keyiter st.1 hQ
end
theorem PySem.W.abZ(lo:(d==WX)=false):PySem.W.KdlSrc prog w "dict" d d es.size (fun i v=>∃ hi:i<es.size,v=es[i].key) (fun h=>CN h d es ep) where
 type:=fun _ x=>x.ty
 there:=fun _ x=>let ⟨_,h1,_,_⟩:=x;⟨jI h1,jI h1⟩
 keep:=fun _ _ x hk=>x.to fun o e=>hk d (.inl rfl) o e
 notList:=by decide
 notTuple:=by decide
 hint:=fun _ _ _ _ x hq=>PySem.W.kdl_hint_dict x.ty hq
 iter:=fun _ s hh x=>⟨_,_,(fun _ _ q=>K9 lo x q),SY hh _ d (let ⟨_,h1,_,_⟩:=x;jM (jI h1)) es ep,⟨⟨_,jH _ rfl,rfl,rfl⟩,x.to fun o e=>jA _ e⟩⟩
end PySem
namespace L2
open PySem PySem.Spec PyProof.Rows
variable{X:Cx}{H:Hp}{K:Yv}{a f d:Qu}{xs:List V}{ix:List (Option Nat)}{te tl:TE}{σ:St}{Qd:Qu→Hp→Prop}{P prog:qR}{w:World}{mg:qW→Option Value}{base h:Heap}{CX:Iv}{fd:qG}{ps:List qW}{pins:List (Qu×Obj)}{s:qV}{A:Around}{i:Int}{u:Value}{n:Nat}{o:Obj}{kvs:List (List Key×V)}{tg l:Expr}{E:Value→qV→Prop}{pos:Pos}
section
def IB(H:Hp):List Qu->List (List Key×V)->Prop:=qP fun b p=>H b=some (.tup (p.1.map kV))
theorem KT.keys:∀ {kvs:List (List Key×V)} {xs:List (List Key×Qu×Value)},KT H kvs xs->IB H (xs.map fun q=>q.2.1) kvs
 | [],[],.nil=>.nil
 | _ :: _,_ :: _,.cons h t=>.cons h.2.1 (KT.keys t)
def afp:List V->Hp->VK->Prop:=fun xs H Q=>∃ p kvs,xs=[.ref p]/\H p=some (.dT kvs)/\∀ l bs,H l=none->IB H bs kvs->Q (.ref l) (upd H l (.lst (bs.map V.ref)))
theorem Mz(hc:X.calm=true):ie X (.type "list") afp:=by
 exists 15
 obtain⟨p,kvs,rfl,hp,q⟩:=h
 exists 22
 cases rx
 obtain⟨hz,lo,xs,kt,o,es,ep,h1,h2,h3,h4,h5⟩:=(show bA X.prog X.w H s.heap p (.dT kvs)from I.hok p _ hp)
 have hlen:kvs.length=xs.length:=Paired.length kt
 have sz:es.size=xs.length:=by
  have:=congrArg zE h4
  rw[jZ]at this
  simpa using this
 refine xu (PySem.W.abZ (es:=es) (ep:=ep) lo) (I.ok.hd hc) ⟨o,h1,h2,h3⟩ (by rw[sz,<- hlen];exact hz) fun h' tk acc c' kp e lA=>?_
 have ea:acc.toList=(xs.map fun q=>q.2.1).map Yw:=by
  refine QO fun j=>?_
  rcases Jd j es.size with hj|hj
  ·have hja:j<acc.size:=by rw[lA.1];exact hj
   obtain⟨hi,ev⟩:=lA.2 j acc[j] (ju hja)
   have ek:es[j]=entryOfKey (WZ (bq X.prog X.w)) (xs[j]'(by rw[<- sz];exact hj)):=by
    have:=congrArg (fun l=>l[j]?) h4
    simp only[JG,jV]at this
    rw[ju hj,jC (by rw[<- sz];exact hj)]at this
    exact Option.some.inj this
   rw[JG,ju hja,ev,ek,jV,jV,jC (by rw[<- sz];exact hj)]
   rfl
  ·rw[Jb (by rw[jU,lA.1];exact hj),Jb (by rw[jZ,jZ,<- sz];exact hj)]
 have rv:∀ bs:List Qu,Vals (bs.map V.ref) (bs.map Yw):=fun bs=>by
  induction bs with
  | nil=>exact .nil
  | cons b bs ih=>exact .cons rfl ih
 have ob:bA X.prog X.w (upd H s.heap.objs.size (.lst ((xs.map fun q=>q.2.1).map V.ref))) h' s.heap.objs.size (.lst ((xs.map fun q=>q.2.1).map V.ref)):=by
  refine⟨by rw[jZ,jZ,<- hlen];exact hz,acc.toList,c',by rw[ea];exact rv _,?_⟩
  rw[Zx]
  exact e
 exact⟨.ref _,_,I.laid (t' := tk) kp (jF _) ob,rfl,q _ _ #[56] (KT.keys kt)⟩
end
theorem MH{g:TG}(Pv:Qu->Nat->List V->Hp->Prop)(hg:∀ (T:Qu) (σ:St) (H:Hp) (Q:St->Hp->Prop) (i:Int) (x:V),H T=some (.tup [.int i,x])->Q ((σ.set 0 (some (.int i))).set 1 (some x)) H->g (.ref T) σ H Q)(h0:∀ D,H D=none->Pv D 0 [] (upd H D (.lst [])))(hl:∀ D i ys H',i<=xs.length->Pv D i ys H'->lh K H' a xs)(hs:∀ D i x ys H' T (Q':VK),H D=none->xs[i]?=some x->H' D=some (.lst ys)->Pv D i ys H'->H' T=none->#[9] ->
   te (((aX ix σ).set 0 (some (.int i))).set 1 (some x)) (upd H' T (.tup [.int i,x])) Q')(hd:∀ D ys H',H D=none->H' D=some (.lst ys)->Pv D xs.length ys H'->Qd D H'):wQ (Rw K a) ix g te σ H Qd:=by
 refine ME (n:=xs.length) (item:=fun i=>xs.getD i .non) Pv hg h0 (fun D i ys H' hi p=>?_) (fun D ys H' p=>⟨xs,hl D _ ys H' (jF _) p,jF _⟩) (fun D i ys H' T Q' hD hi hy p hT k=>?_) hd
 ·have q:=hl D i ys H' (Js hi) p
  refine⟨⟨xs,xs[i],q,jC hi⟩,fun x H2 y=>?_⟩
  obtain⟨T,x0,rfl,hT,rfl,y⟩:=y
  have e:=y xs q
  exists T,rfl,hT
  show _=upd H' T (.tup [.int i,xs.getD i .non])
  rw[jQ,e]
  rfl
 ·have e:xs.getD i .non=xs[i]:=by rw[jQ,jC hi];rfl
  show te (((aX ix σ).set 0 (some (.int i))).set 1 (some (xs.getD i .non))) (upd H' T (.tup [.int i,xs.getD i .non])) Q'
  rw[e]
  exact hs D i xs[i] ys H' T Q' hD (jC hi) hy p hT k
theorem bu.or{k:Nat}{sp sp':Sp}(F:bu P w K mg base CX k f fd ps sp)(F':bu P w K mg base CX k f fd ps sp'):
  bu P w K mg base CX k f fd ps (fun vs H Q E=>sp vs H Q E\/sp' vs H Q E):=
 ⟨fun vs H Q E q=>q.elim (F.len vs H Q E) (F'.len vs H Q E),fun A outer s H args us vs Q E hr he hb hv hs=>hs.elim (F.run A outer s H args us vs Q E hr he hb hv) (F'.run A outer s H args us vs Q E hr he hb hv)⟩
def O4(K:Yv)(H:Hp):Nat->V->V->Prop
 | 0,x,y=>∃ i:Int,x=.int i/\y=.int i
 | n+1,x,y=>(∃ i:Int,x=.int i/\y=.int i)\/∃ a b xs ys,x=.ref a/\y=.ref b/\mT K H a xs/\mT K H b ys/\qP (O4 K H n) xs ys
theorem tH{α β:Type}{F:α->β->Prop}:∀ {xs:List α} {ys:List β} {j:Nat} (h1:j<xs.length) (h2:j<ys.length),qP F xs ys->F xs[j] ys[j]
 | _,_,j,h1,_,.nil=>absurd h1 (Jp _)
 | _,_,0,_,_,.cons a _=>a
 | _,_,j+1,h1,h2,.cons _ t=>tH (j:=j) (by simpa using h1) (by simpa using h2) t
section
theorem Po{v:Value}(ru:RelV (.int i) u)(rv:RelV (.int i) v):XC A s u v true:=by
 obtain⟨t,rfl⟩:=(show ∃ t,u=yI i t from ru)
 obtain⟨t',rfl⟩:=(show ∃ t,v=yI i t from rv)
 have z:=Xc (A:=A) (s:=s) i t i t'
 rw[beq_self_eq_true]at z
 exact z
theorem Pp(ih:∀ {A:Around} {x y:V} {u v:Value},A.units+n<cLine->O4 X.K H n x y->RelV x u->RelV y v->XC A s u v true){b:Qu}{ys:List V}(I:Inv X pins σ H s)(hu:A.units+(n+1)<cLine)(ha:mT X.K H a xs)(hb:mT X.K H b ys)(p:qP (O4 X.K H n) xs ys):SeqAt.RcAt A s (.ref a) (.ref b) true:=by
 obtain⟨aV,r1,p1,_⟩:=I.tuple ha
 obtain⟨jts,r2,p2,_⟩:=I.tuple hb
 have l1:=r1.length
 have l2:=r2.length
 have l3:=p.length
 have q:=gf (A:=A) (e:=fun _=>true) p1 p2 #[0] fun j h1 h2=>by
  have j1:j<xs.length:=by simp at h1;omega
  have j2:j<ys.length:=by omega
  obtain⟨u1,e1,q1⟩:=r1.get (i:=j) (x:=xs[j]) (by simp[j1])
  obtain⟨u2,e2,q2⟩:=r2.get (i:=j) (x:=ys[j]) (by simp[j2])
  have g1:aV.toArray[j]=u1:=by
   have:=(jb.mp e1).2
   simpa using this
  have g2:jts.toArray[j]=u2:=by
   have:=(jb.mp e2).2
   simpa using this
  rw[g1,g2]
  exact ih (show A.units+1+n<cLine by omega) (tH j1 j2 p) q1 q2
 have e:((jO (min aV.toArray.size jts.toArray.size)).all (fun _=>true)&&aV.toArray.size==jts.toArray.size)=true:=by
  simp
  omega
 rw[e]at q
 exact q
theorem O4.at(I:Inv X pins σ H s):∀ (n:Nat) {A:Around} {x y:V} {u v:Value},A.units+n<cLine->O4 X.K H n x y->RelV x u->RelV y v->XC A s u v true
 | 0,A,x,y,u,v,_,h,ru,rv=>by
  obtain⟨i,rfl,rfl⟩:=h
  exact Po ru rv
 | n+1,A,x,y,u,v,hu,h,ru,rv=>by
  rcases h with⟨i,rfl,rfl⟩|⟨a,b,xs,ys,rfl,rfl,ha,hb,p⟩
  ·exact Po ru rv
  ·cases ru
   cases rv
   by_cases e:a=b
   ·subst e;exact GD _
   ·exact gZ e (Pp (fun {A x y u v} h1 h2 h3 h4=>O4.at I n h1 h2 h3 h4) I hu ha hb p)
theorem aeZ(n:Nat)(hu:X.A.units+(n+1)<cLine):wX X (WC .Eq) (fun x y H Q=>∃ a b xs ys,x=.ref a/\y=.ref b/\mT X.K H a xs/\mT X.K H b ys/\qP (O4 X.K H n) xs ys/\Q (.bl true) H):=by
 intro pins s σ H x y v u Q I r1 r2 h
 obtain⟨a,b,xs,ys,rfl,rfl,ha,hb,e,q⟩:=h
 cases r1
 cases r2
 exact Pp (fun {A x y u v} h1 h2 h3 h4=>O4.at I n h1 h2 h3 h4) I hu ha hb e X.prog X.w X.xe _ ⟨.bl true,H,I,rfl,q⟩
end
def ah3(i:Int):Value->Bool
 | .int z _=>z==i
 | _=>false
def Q2:V->List V->Hp->VK->Prop:=fun x vs H Q=>∃ (l:Qu) (ns:List Int) (i:Int),x=.ref l/\vs=[.int i]/\H l=some (.lst #[14])/\i∈ns/\Q (.int ((ns.idxOf i:Nat):Int)) H
theorem Sg:MtM X "list.index" Q2:=by
 exists 28
 obtain⟨l,ns,i,rfl,rfl,hH,hi,q⟩:=h
 cases rx
 obtain⟨u,rfl,ru⟩:=rv.one
 obtain⟨t0,rfl⟩:=(show ∃ t,u=yI i t from ru)
 obtain⟨z,aV,n,r,hl,e⟩:=I.Cf hH
 have ll:=r.length
 rw[jZ]at ll z
 have jl:ns.idxOf i<ns.length:=jt hi
 have at':∀ (m:Nat) (hm:m<aV.toArray.size),∃ t,aV.toArray[m]=yI (ns[m]'(by simp at hm;omega)) t:=fun m hm=>by
  have hm':m<aV.length:=by simpa using hm
  obtain⟨w,t,h1,h2⟩:=aa7 r m aV[m] (jC hm')
  have e1:=(jb.mp h1).2
  exists t
  rw[e1]
  simpa using h2
 have small:((ns.idxOf i:Nat):Int)<2^63-1:=by
  have:(sizeLine:Int)<2^63-1:=by decide
  omega
 refine qj F.slot_list_index ⟨_,e,rfl⟩ F.entry_list_index (F.args_list_index_2 _ _) (SeqAt.list_indexAt l aV.toArray n none #[] (.int i t0) (ah3 i) (ns.idxOf i) (by simp;omega) small ?_ ?_) ⟨e,fun y hy=>?_,⟨.int _,H,I.tok _,⟨_,rfl⟩,q⟩⟩
 ·obtain⟨t,h⟩:=at' (ns.idxOf i) (by simp;omega)
  rw[h]
  show(ns[ns.idxOf i]==i)=true
  rw[Jl jl]
  exact beq_self_eq_true _
 ·intro m hm hmj
  obtain⟨t,h⟩:=at' m hm
  rw[h]
  show(_==i)=false
  exact List.not_of_lt_findIdx hmj
 ·obtain⟨m,hm,rfl⟩:=jk (show y∈aV by simpa using hy)
  obtain⟨t,h⟩:=at' m (by simpa using hm)
  have h':aV[m]=yI (ns[m]'#[0]) t:=by simpa using h
  rw[h']
  exact Xc (A:=X.A.in1) (s:=s) _ t i t0
theorem aeB{k:Nat}(hr:cV k A):A.units+3<cLine:=by
 have:=hr.un
 omega
theorem aeC{k:Nat}(hr:cV k A):A.units+9<cLine:=by
 have:=hr.un
 omega
section
open Classical in
noncomputable def isR(H:Hp)(ns:List Int)(u:Value):Bool:=decide (∃ b,u=Yw b/\H b=some (.tup #[14]))
def Hg(H:Hp):List Qu->List (List Int)->Prop:=qP fun b r=>H b=some (.tup (r.map V.int))
end
section
theorem ae2(n:Nat)(hu:X.A.units+(n+1)<cLine):wX X (WC .NotEq) (fun x y H Q=>∃ a b xs ys,x=.ref a/\y=.ref b/\mT X.K H a xs/\mT X.K H b ys/\qP (O4 X.K H n) xs ys/\Q (.bl false) H):=by
 intro pins s σ H x y v u Q I r1 r2 h
 obtain⟨a,b,xs,ys,rfl,rfl,ha,hb,p,q⟩:=h
 cases r1
 cases r2
 obtain⟨aV,r1,p1,_⟩:=I.tuple ha
 obtain⟨jts,r2,p2,_⟩:=I.tuple hb
 have l1:=r1.length
 have l2:=r2.length
 have l3:=p.length
 refine xO (e:=fun _=>true) p1 p2 #[0] (fun j h1 h2=>?_) X.prog X.w X.xe _ ⟨.bl false,H,I,?_,q⟩
 ·have j1:j<xs.length:=by simp at h1;omega
  have j2:j<ys.length:=by omega
  obtain⟨u1,e1,q1⟩:=r1.get (i:=j) (x:=xs[j]) (by simp[j1])
  obtain⟨u2,e2,q2⟩:=r2.get (i:=j) (x:=ys[j]) (by simp[j2])
  have g1:aV.toArray[j]=u1:=by
   have:=(jb.mp e1).2
   simpa using this
  have g2:jts.toArray[j]=u2:=by
   have:=(jb.mp e2).2
   simpa using this
  rw[g1,g2]
  exact O4.at I n (by show X.A.units+1+n<cLine;omega) (tH j1 j2 p) q1 q2
 ·show yj _=yj _
  simp
  omega
end
section
theorem Inv.abA(I:Inv X pins σ H s)(e:H a=some (.dT kvs))(ho:s.heap.get? a=some o):Inv X pins σ (upd H a (.pB o (.dT kvs))) s:=by
 have nt:∀ b u,H b=some u->(u=.dT kvs->False)->b≠a:=fun b u q d=>aG q e d
 exists 14
 ·rw[aj (fun z=>by rw[z,e]at n;cases n)];exact n
 ·rw[aj (nt b _ q #[1])];exact q
 ·rw[aj (nt b _ q #[1])];exact q
 ·rw[aj (nt b _ q #[1]),q];simp
 ·by_cases hb:b=a
  ·subst hb
   rw[ae]at q
   cases q
   exists ho
   exact(I.hok b _ e).AK (fun c v _ z=>z) (fun c z=>by rw[aj (nt c _ z (by intro y;cases y))];exact z) fun c xs z=>by rw[aj (nt c _ z (by intro y;cases y))];exact z
  ·rw[aj hb]at q
   exact(I.hok b u q).AK (fun c v _ z=>z) (fun c z=>by rw[aj (nt c _ z (by intro y;cases y))];exact z) fun c xs z=>by rw[aj (nt c _ z (by intro y;cases y))];exact z
end
def adC(a:Qu)(o:Obj)(kvs:List (List Key×V)):It:=
 ⟨fun i H=>i<kvs.length/\H a=some (.pB o (.dT kvs)),fun i H x H'=>H'=H/\∃ b,x=.ref b/\∀ p,kvs[i]?=some p->H b=some (.tup (p.1.map kV)),fun i H=>i=kvs.length/\H a=some (.pB o (.dT kvs))⟩
theorem BD(ok:ik P w H h)(e:H a=some (.pB o (.dT kvs))):∃ (bs:List Qu) (es:Array qB),CN h a es (lU o)/\(a==WX)=false/\h.get? a=some o/\es.size=kvs.length/\bs.length=kvs.length/\IB H bs kvs/\∀ (j:Nat) (hj:j<es.size) (hb:j<bs.length),es[j].key=.ref bs[j]:=by
 obtain⟨ho,z,lo,xs,kt,ob,es,ep,h1,h2,h3,h4,h5⟩:=ok a _ e
 rw[ho]at h1
 cases h1
 have ee:lU o=ep:=by unfold lU;rw[h3]
 have hlen:kvs.length=xs.length:=Paired.length kt
 have sz:es.size=xs.length:=by
  have:=congrArg zE h4
  rw[jZ]at this
  simpa using this
 refine⟨xs.map fun q=>q.2.1,es,⟨o,ho,h2,by rw[ee];exact h3⟩,lo,ho,by omega,by rw[jZ];omega,KT.keys kt,fun j hj hb=>?_⟩
 have ek:es[j]=entryOfKey (WZ (bq P w)) (xs[j]'(by rw[<- sz];exact hj)):=by
  have:=congrArg (fun l=>l[j]?) h4
  simp only[JG,jV]at this
  rw[ju hj,jC (by rw[<- sz];exact hj)]at this
  exact Option.some.inj this
 rw[ek,JC]
 rfl
theorem OO(a it:Qu)(o:Obj)(kvs:List (List Key×V)):Turn P w K tg (adC a o kvs) [it] it (fun i h=>h.IsKeyIter it a i kvs.length (lU o)) where
 mem:=by simp
 obj:=fun i h st b hb=>by
  have e:b=it:=by simpa using hb
  subst e
  obtain⟨o,e,c,d⟩:=st
  exists 21
 keep:=fun i h h' st k=>by
  obtain⟨ob,e,r⟩:=st
  exact⟨ob,k it #[11] ob e,r⟩
 item:=by
  exists 0
  subst hP hw hK
  obtain⟨hi,U2⟩:=hg
  obtain⟨bs,es,dat,lo,ho,sz,lb,kt,hk⟩:=BD I.hok U2
  exists 2
  rw[<- sz]at st
  refine Lm st dat #[0] fun h' Ea sb=>?_
  exists 4
  rw[sz]at Ea
  obtain⟨ob,e,c,d⟩:=id Ea
  refine⟨_,rfl,Fd (s:={ s with heap:=h' }) e c d #[8] ⟨.ref (bs[i]'#[0]),H,I1,?_,⟨rfl,_,rfl,fun p' Mj=>?_⟩,Ea,fun b hb=>(hf b hb).1⟩⟩
  ·rw[hk i #[0] #[0]]
   rfl
  ·have:=tH (j:=i) #[0] hi kt
   rw[jC hi]at Mj
   cases Mj
   exact this
 done:=by
  exists 0
  subst hP hw hK
  obtain⟨hi,U2⟩:=hg
  obtain⟨bs,es,dat,lo,ho,sz,lb,kt,hk⟩:=BD I.hok U2
  exists 2
  subst hi
  rw[<- sz]at st
  exact Pn (I.ok.hd hc) st dat fun h' eb=>⟨rfl,I.turned (t' := s.toks) (fun b o hb e=>eb b o hb e) f0 f1 f3 f4 f5⟩
 self:=fun A i s Q E st h=>by
  refine Yb st.typeIs yV (Wm yV st.typeIs XD ?_ (XB _))
  show wpAny _ _ (ret (.ref it)) _ _ s
  exact YX ⟨_,rfl,"dict_keyiterator",_,st.typeIs,PySem.F.slot_dict_keyiterator_next.lookup,h⟩
section
def aeE(tl:TE):TI:=fun σ H R=>tl σ H fun x H1=>∃ a kvs,x=.ref a/\H1 a=some (.dT kvs)/\∀ o,R (adC a o kvs) (upd H1 a (.pB o (.dT kvs)))
theorem aar(hl:PE X l tl):PI X tg l (aeE tl):=by
 intro pins s σ H R I h
 exists 18
 obtain⟨a,kvs,e,hd,q⟩:=q1
 subst e
 cases r1
 obtain⟨z,lo0,xs,kt0,ob,es0,ep,hg,rest⟩:=I1.hok a _ hd
 have I2:=I1.abA hd hg
 obtain⟨bs,es,dat,lo,ho,sz,lb,kt,hk⟩:=BD I2.hok ae
 refine K9 lo dat ?_
 refine⟨s1.heap.objs.size,[s1.heap.objs.size],_,_,_,rfl,I2.kept (t' := s1.toks) fun b o e=>jA _ e,OO a _ ob kvs,⟨_,jH _ rfl,rfl,by rw[sz];rfl⟩,fun b hb=>?_,q ob⟩
 exists 26
 subst e
 exact I2.Bf (jF _) (I2.hok.fresh (jF _))
end
theorem MD(Pv:Qu->Nat->List V->Hp->Prop)(h0:∀ D,H D=none->Pv D 0 [] (upd H D (.lst [])))(hl:∀ D i ys H',i<=kvs.length->Pv D i ys H'->H' a=some (.pB o (.dT kvs)))(hs:∀ D i p b ys H' (Q':VK),H D=none->kvs[i]?=some p->H' b=some (.tup (p.1.map kV))->H' D=some (.lst ys)->Pv D i ys H'->#[9] ->
   te ((aX ix σ).set 0 (some (.ref b))) H' Q')(hd:∀ D ys H',H D=none->H' D=some (.lst ys)->Pv D kvs.length ys H'->Qd D H'):wQ (adC a o kvs) ix (bB 0) te σ H Qd:=by
 intro D hD
 exists 13
 exists 24
 have q:=hl D i ys H' hi p
 by_cases cT:i<kvs.length
 ·refine .inr ⟨⟨cT,q⟩,fun x H2 y=>?_⟩
  obtain⟨e1,b,rfl,e2⟩:=y
  subst e1
  have ex:=e2 kvs[i] (jC cT)
  have es:σ'.set 0 (some (.ref b))=(aX ix σ).set 0 (some (.ref b)):=by
   rcases hσ with z|⟨t,z⟩
   ·rw[z]
   ·rw[z,Jz]
  show te (σ'.set 0 (some (.ref b))) _ _
  rw[es]
  refine hs D i kvs[i] b ys _ _ hD (jC cT) ex hy p fun y H4 h4 hz p4=>⟨ys,h4,hz,kvs.length-(i+1),by omega,rfl,cT,.inr ⟨_,rfl⟩,ys++[y],ae,p4⟩
 ·have e:i=kvs.length:=by omega
  subst e
  exact .inl ⟨⟨rfl,q⟩,hd D ys H' hD hy p⟩
def afG(Rq:List (TE×TE)):TE:=fun σ H Q=>∀ p,H p=none->Ig Rq σ (upd H p (.dT [])) fun ps H2=>H2 p=some (.dT [])/\∃ b k y,ps=[(.ref b,y)]/\H2 b=some (.tup (k.map kV))/\Q (.ref p) (upd H2 p (.dT [(k,y)]))
theorem SO{r:Value}{Q:PUnit->qV->Prop}(h:wpAny #[6] A (dictSet d u r) (fun _ s'=>Q PUnit.unit s') E s):wpAny #[6] A (storeAll d [(u,r)]) Q E s:=by
 unfold storeAll
 simp only[QZ,List.forIn_nil]
 exact Wj (Wj (YQ h (fun _ s' q=>YX (YX q)) fun _ _ e=>e))
theorem aai{k v:Expr}{Rq:List (TE×TE)}(hu:X.A.units+1<cLine)(h:PPs X pos [some k] [v] Rq):PE X (.Dict [some k] [v] pos) (afG Rq):=by
 intro pins s σ H Q I q
 have hn:=I.hok.fresh (jF s.heap.objs.size)
 have I1:=I.laid (a:=s.heap.objs.size) (o:=.dT []) (h' := s.heap.push { cls:=.type "dict",data:=.dict #[] }) (t' := s.toks) (fun _ _ q=>jA _ q) (jF _) (Tz s.heap I.big)
 refine wpAny_Dict_any rfl rfl #[1] (by show 1<=15;decide) (bP (h pins _ σ _ _ I1 (q _ hn)) fun ws s2 ⟨ps,H2,I2,rel,e,b,kk,y,ep,hb,q2⟩=>?_)
 subst ep
 obtain⟨u,rr,hws,ru,ry⟩:∃ u rr,ws=[(u,rr)]/\RelV (.ref b) u/\RelV y rr:=by
  cases rel with
  | cons r t =>
   cases t
   exact⟨_,_,rfl,r.1,r.2⟩
 subst hws
 have eu:u=Yw b:=ru
 subst eu
 obtain⟨z,hd,xs,rl,dd⟩:=TB I2.hok e
 cases rl
 refine SO (Wr (hsz:=by decide) (show X.A.units<cLine by omega) (pP I2.hok hb) dd fun h' MK hs=>⟨.ref s.heap.objs.size,_,?_,rfl,q2⟩)
 obtain⟨q',es,ep,hq,h2,h3,h4,_,h5⟩:=MK
 refine tw I2 (by rw[e];exact True.intro) hs ⟨q',hq⟩ ⟨by show 1<=sizeLine;decide,hd,_,(KT.put (H:=H2) (kvs:=[]) (xs:=[]) .nil kk hb ry).keeps fun c ys ec=>?_,q',es,ep,hq,h2,h3,h4,h5⟩
 rw[aj (aG ec e (fun z=>nomatch z))]
 exact ec
end L2
namespace PySem
variable{prog:qR}{w:World}{A:Around}{E Q:Value→qV→Prop}{s:qV}{d:Qu}{n:Nat}
theorem EB(d:Qu)(n:Nat)(hd:(d==WX)=false):
  MeetsIn prog w (Builtin.«dict.__len__» { pos:=[Yw d] }) fun _ R s=>(∃ o es ep,s.heap.get? d=some o/\o.data=Data.dict es ep/\es.size=n)/\R (.ok (.ret (yI (n:Int) s.toks))) { s with toks:=s.toks+1 }:=
 MeetsIn.of_wp fun A R s ⟨⟨o,es,ep,h1,h2,h3⟩,h⟩=>by
  show wpAny #[6] A.in1 (do
   let n1 <- dictSize d
   let n2 <- Gg d
   retInt ((n1:Int)+(n2:Int))) _ _ _
  refine Wj (Wj (Wo h1 h2 (YX (Wj (wpAny_pendingCount_other hd (wpAny_ret_mkInt ?_))))))
  rw[Qj,h3]
  exact h
theorem ab4(hd:(d==WX)=false)(ty:s.TypeIs (.ref d) "dict")(hx:∃ o es ep,s.heap.get? d=some o/\o.data=Data.dict es ep/\es.size=n)(ap2:(n:Int)<2^63)(h:Q (yI (n:Int) (s.toks+1)) { s with toks:=s.toks+1+1 }):
  wpAny #[6] A (call (yS "len") [Yw d]) Q E s:=by
 refine Xl kind_len plain_len entry_len (args_len1 (Yw d)) ?_
 show wpAny _ _ _ _ _ _
 refine Wj (YX (Wj (Wl ty GJ (qp GJ ty F.entry_dict_len (F.args_dict_len_1 _) (EB d n hd) ⟨hx,?_⟩))))
 show wpAny _ _ _ _ _ _
 refine Wj (YC (YX (Wj (YJ ?_))))
 show wpAny _ _ (if _ then _ else _) _ _ _
 rw[if_neg #[0]]
 show wpAny _ _ (if _ then _ else _) _ _ _
 rw[if_neg #[0]]
 exact Wj (wpAny_mkInt (YX ⟨_,rfl,h⟩))
end PySem
namespace L2
open PySem PySem.Spec PyProof.Rows
variable{X:Cx}
theorem RB:ie X (.builtin "len") (fun xs H Q=>∃ a kvs,xs=[.ref a]/\H a=some (.dT kvs)/\Q (.int kvs.length) H):=by
 exists 15
 obtain⟨a,kvs,rfl,ha,q⟩:=h
 exists 22
 cases rx
 obtain⟨hz,lo,xs,kt,o,es,ep,h1,h2,h3,h4,h5⟩:=(show bA X.prog X.w H s.heap a (.dT kvs)from I.hok a _ ha)
 have hlen:kvs.length=xs.length:=Paired.length kt
 have sz:es.size=xs.length:=by
  have:=congrArg zE h4
  rw[jZ]at this
  simpa using this
 have dd:=(TB I.hok ha).2.2
 obtain⟨xs',_,dd⟩:=dd
 exact ab4 lo dd.typeIs ⟨o,es,ep,h1,h3,by rw[sz,<- hlen]⟩ (by rw[WT]at hz;omega) ⟨.int kvs.length,H,I.tok _,⟨_,rfl⟩,q⟩
end L2
namespace PySem
end PySem
namespace L2
open PySem PySem.Spec PyProof.Rows
variable{X:Cx}{pins:List (Qu×Obj)}{σ:St}{H:Hp}{s:qV}{d C:Qu}{pos:Pos}{i:Nat}{x:qW}{h:Heap}{P:qR}{w:World}{ps:List qW}{hX:List V}{sp:Sp}{e c:Expr}{es:List Expr}{E:XK}{st b₀:Stmt}{tc:TT}{body aaZ:List Stmt}{ts:TS}
abbrev NK:=Int×List Int
def wR(x C d:Qu)(h:Heap):Prop := ∃ (o:Obj) (vs:Array Value),h.get? x=some o/\o.cls=.ref C/\o.dict=some d/\o.data=.fields vs
theorem wR.at{x:Qu}(z:wR x C d h):abh x C h:=let ⟨o,vs,a,b,_,c⟩:=z;⟨o,vs,a,b,c⟩
theorem ik.ag2{ea:Qu}(x:ik P w H h)(z:H ea=QQ)(p:wR ea C d h):ik P w (upd H ea (.ext (wR ea C d))) h:=by
 intro a u e
 by_cases q:a=ea
 ·subst q
  rw[ae]at e
  cases e
  obtain⟨ob,vs,e1,e2,e3,e4⟩:=p
  exists ⟨ob,vs,e1,e2,e3,e4⟩,⟨ob,e1⟩
  rintro h1 h2 ⟨ob',vs',f1,f2,f3,f4⟩ k
  exact⟨ob',vs',k _ f1,f2,f3,f4⟩
 ·rw[aj q]at e
  exact(x a u e).AK (fun b v _ f=>f) (fun b f=>by rw[aj (ar f z)];exact f) fun b xs f=>by rw[aj (ar f z)];exact f
section
def adz(X:Cx)(pins:List #[58])(σ:St)(E:XK)(e:Value)(s':qV):Prop := ∃ s H,Inv X pins σ H s/\O0 X.prog X.w X.stack H s E e s'
def agL(X:Cx)(e:Expr)(t:TXE):Prop := ∀ (pins:List #[58]) (s:qV) (σ:St) (H:Hp) (Q:VK) (E:XK),Inv X pins σ H s->t σ H Q E->wpAny #[4] X.A (eval e X.env) #[59] (adz X pins σ E) s
def adI(X:Cx)(st:Stmt)(t:TX):Prop := ∀ (pins:List #[58]) (s:qV) (σ:St) (H:Hp) (D:Ends) (E:XK),Inv X pins σ H s->t D E σ H->wpAny #[4] X.A (exec st X.env) (SP X pins D) (adz X pins σ E) s
def PX2(X:Cx)(st:List Stmt)(t:TX):Prop := ∀ (pins:List #[58]) (s:qV) (σ:St) (H:Hp) (D:Ends) (E:XK),Inv X pins σ H s->t D E σ H->wpAny #[4] X.A (execs st X.env) (SP X pins D) (adz X pins σ E) s
end
section
variable{j k:Nat}{p:Pos}{t:TA}
theorem FJ(G:rM X.prog X.w X.K X.mg X.base x k ps hX sp)(hr:cV j X.A)(ha:PA X (e :: es) t)(hx:∀ e s,X.xe e s=False:=by intro _ _;rfl)(K0:k<=j:=by decide)(hg:Gl X x:=by rfl)(Bk:#[19]=false:=by decide)(he:WU (e :: es) X.env=#[21] :: WU es X.env:=by rfl)(rJ:#[29].any (·.1)=false:=by rfl):
  agL X #[27] (afJ sp hX t):=by
 obtain⟨f,fd,ds,hm,hk,hd,hb,F⟩:=G.ex
 intro pins s σ H Q E I h
 refine Wd (oa I hg hm ?_ Bk)
 refine yg (h₀:=X.base) I.ok.mod.kin hk (YQ (ha pos pins s σ H _ I h) (fun us s1 ⟨vs,H1,I1,r,q⟩=>⟨I1.pN,?_⟩) fun e' s' z=>((hx e' s').mp z).elim) he rJ
 have r2:Vals (vs++hX) (us++ds):=r.append hd
 have hl:(us++ds).length=ps.length:=by rw[<- r2.length];exact F.len _ _ _ _ q
 refine Wk (WA (F.run X.A X.stack s1 H1 ⟨us,[]⟩ (us++ds) (vs++hX) Q E (hr.mono K0) I1.TH (hb s1 us I1.pN hl) r2 q) fun r' s' hq=>?_)
 cases r' with
 | error e'=>exact⟨s1,H1,I1,hq⟩
 | ok fl =>
  cases fl with
  | ret u=>exact I1.after hq
  | next=>exact False.elim hq
  | brk=>exact False.elim hq
  | cont=>exact False.elim hq
theorem LN{t:TXE}(he:agL X e t)(hs:WW e none pos.line X.env=pure false:=by rfl):adI X (.Expr e pos) (afN t):=by
 intro pins s σ H D E I h
 exact wpAny_Expr_any (bP (he pins s σ H _ E I h) fun v s1 ⟨y,H1,I1,r1,q1⟩=>⟨σ,H1,I1,q1⟩) I.quiet hs
theorem HW{t:TX}(h:adI X st t):PX2 X [st] t:=by
 intro pins s σ H D E I q
 refine Wv (bP (h pins s σ H D E I q) fun f s' hs=>?_)
 cases f with
 | next=>exact Ww hs
 | brk=>exact hs
 | cont=>exact hs
 | ret u=>exact hs
theorem afm{a b:List Stmt}{t u:TX}(hc:PT X c tc)(ha:PX2 X a t)(hb:PX2 X b u)(hx:∀ e s,X.xe e s=False:=by intro _ _;rfl):adI X (.If c a b pos) (am3 tc t u):=by
 intro pins s σ H D E I h
 refine wpAny_If (YQ (hc pins s σ H _ I h) (fun d s1 ⟨H1,I1,q1⟩=>?_) fun e' s' z=>((hx e' s').mp z).elim)
 cases d with
 | true=>exact ha pins s1 σ H1 D E I1 q1
 | false=>exact hb pins s1 σ H1 D E I1 q1
end
section
variable{F:Qu}{n:qW}{np aew:Pos}{tb:TX}
def aiW(C:Qu)(i:Nat)(tb:TX)(ts:TS):TS:=fun D σ H=>tb D (fun c dd H1=>c=.ref C/\∃ d,dd=some d/\∀ ea,H1 ea=none ->
 ts { nx:=fun σ' H'=>D.nx (σ'.set i none) H',rt:=D.rt,bk:=fun σ' H'=>D.bk (σ'.set i none) H',ct:=fun σ' H'=>D.ct (σ'.set i none) H' } (σ.set i (some (.ref ea))) (upd H1 ea (.ext (wR ea C d)))) σ H
theorem acx(hN:X.N.Nodup)(hi:X.N[i]?=some n)(hx:X.env.scope.names.lookup n=some .local)(hm:X.mg x=some (.ref F))(hq:XF X.K #[30] (.ref F)=some true)(hb:PX2 X body tb)(hs:∀ ea,G2 (X.held ea) (b₀ :: aaZ) ts)(tR:X.stack=X.env :: X.outer:=by rfl)(PB:X.env.frame=some X.env.locals:=by rfl)(hg:Gl X x:=by rfl)(Bk:#[19]=false:=by decide):
  PS X (.Try body [.ExceptHandler (some (.Name x np)) (some n) (b₀ :: aaZ) aew] [] [] pos) (aiW C i tb ts):=by
 exists 27
 refine wpAny_Try_except (YQ (hb pins s σ H D _ I h) (fun f s1 q=>?_) fun e s1 q=>?_)
 ·cases f with
  | next=>exact Ww q
  | brk=>exact q
  | cont=>exact q
  | ret u=>exact q
 obtain⟨s0,H0,I0,ea,t,C',d,B,H',rfl,os,bare,un,hok,⟨f1,f2,f3,f4⟩,there,hn,hc,d',ed,k⟩:=q
 cases ed
 obtain rfl:C'=C:=GP hc
 have f3t:=f3
 rw[tR]at f3t
 have ean:s0.heap.get? ea=none:=by
  cases q:s0.heap.get? ea with
  | none=>rfl
  | some o =>
   by_cases hb:ea∈Cb X.stack
   ·exfalso
    obtain⟨oe,vs,_,_,_,he,_,_,hd,_⟩:=f4.ex
    have V5:ik X.prog X.w H' s1.heap:=hok.kept fun b u q=>f1 b u q
    have J:Inv X pins σ H' s1:=I0.C6 (ch:=[]) os un V5 bare (fun b z=>by cases z)
    obtain⟨_,o',e',hnd⟩:=J.stack.mem hb
    rw[he]at e'
    cases e'
    exact hnd _ hd
   ·obtain⟨o',e'⟩:=there ea o q hb
    rw[f2]at e'
    cases e'
 have h0n:H0 ea=none:=I0.hok.none ean
 refine aeS (I0.ok.frames.trans (by rw[tR])) f3t PB f4 f1 f2 fun h4 a4 b4 w4 sm4=>?_
 refine X2 a4 b4 w4 fun h5 a5 b5 w5 sm5=>?_
 have sm:=sm4.trans sm5
 obtain⟨un5,alw⟩:=land I0 os bare un hok there f1 a5 sm
 have I5:Inv X pins σ H' { s1 with heap:=h5 }:=I0.C6 (ch:=[]) os un5 alw bare (fun b z=>by cases z)
 refine wpAny_handleBy_cons (codeAny_handlers_test ?_) (by intro q;cases q)
 refine oa (X:=X.held ea) I5.held hg hm ?_ Bk
 have ty5:PySem.W.Looks #[4] h5 (typeOf (.ref ea)) (.ref C'):=by
  obtain⟨ob,_,_,_,_,e1,e2,_⟩:=w5.ex
  exact e2 ▸ (gj e1).andThen .now
 refine(PySem.W.exm_one (M:=model X.prog X.w) I5.pN ty5 hq).here ?_
 refine codeAny_handlers_suite_as (X2 a5 b5 w5 fun h6 a6 b6 w6 sm6=>?_)
 obtain⟨un6,alx⟩:=land I0 os bare un hok there f1 a6 (sm.trans sm6)
 have ex6:wR ea C' d h6:=by
  obtain⟨oe,vs,_,_,_,he,Px,hdi,hd,_⟩:=w6.ex
  exact⟨oe,vs,he,Px,hdi,hd⟩
 have I6:Inv X pins σ (upd H' ea (.ext (wR ea C' d))) { s1 with heap:=h6 }:=I0.C6 (ch:=[]) os (un6.more ean h0n) (alx.ag2 hn ex6) bare (fun b z=>by cases z)
 refine AL (X:=X.held ea) I6.held hN hi (.inl hx) (v:=.ref ea) rfl (fun s7 I7=>?_) (.inr hx)
 refine YQ (hs ea pins s7 _ _ _ I7 (k ea hn)) (fun f s8 q8=>?_) fun _ _ z=>z.elim
 have fin:∀ {σ8:St} {H8:Hp} {Q:Unit->qV->Prop},Inv (X.held ea) pins σ8 H8 s8->(∀ s9,Inv X pins (σ8.set i none) H8 s9->Q () s9)->wpAny #[4] X.A (do bindName X.env n .none;unbindBehindTheSuite X.env n aew) Q X.xe s8:=
  fun {σ8 H8 Q} J g=>SV (v:=.non) (J.afO I.ok) hN hi hx g
 cases f with
 | next=>obtain⟨σ8,H8,J,q⟩:=q8;exact fin J fun s9 J9=>⟨_,H8,J9,q⟩
 | brk=>obtain⟨σ8,H8,J,q⟩:=q8;exact fin J fun s9 J9=>⟨_,H8,J9,q⟩
 | cont=>obtain⟨σ8,H8,J,q⟩:=q8;exact fin J fun s9 J9=>⟨_,H8,J9,q⟩
 | ret u=>obtain⟨v,σ8,H8,J,r,q⟩:=q8;exact fin J fun s9 J9=>⟨v,_,H8,J9,r,q⟩
end
end L2
namespace L2
variable{prog P:qR}{w:World}{A:Around}{E Q:Value→qV→Prop}{s:qV}{K:Yv}{x name:qW}{C d f:Qu}{vs:Array Value}{v dV:Value}{o:Obj}{mA mg:qW→Option Value}{base:Heap}{st:Stmt}{fd:qG}{ps:List qW}{sp:Sp}{hX:List V}{X:Cx}{e:Expr}{es:List Expr}{ta:TE}{j:Nat}
section
open PySem PySem.Spec PySem.W PySem.Builtin PySem.Builtin.ObjectAttr PyProof.Rows
variable{x:Qu}
theorem TU(c:CW K C)(X:K.In s.heap)(hx:s.heap.get? x=some o)(hc:o.cls=.ref C)(hdi:o.dict=some d)(hdt:o.data=.fields vs)(hn:s.heap.Ns1 d mA)(na:findIn K #[30] name=some none)(hh:hasDictIn K C=true)(hv:mA name=some v)(hhv:handedIn v=true)(h:Q v { s with toks:=s.toks+1 }):wpAny #[6] A (getAttr (.ref x) name true) Q E s:=by
 obtain⟨od,hod,hl⟩:=Fx hn
 have J:InstAt s.heap x o C (some od):=⟨hx,hc,by unfold notCls;rw[hdt],by rw[hdi];exact hod⟩
 have hf:findObj K C (some od) name=some (.value v):=findObj_own hh na rfl (by rw[hl,hv])
 obtain⟨hp,g,dr,t,os⟩:=s
 have L0:=J.type (M:=model prog w)
 have L1:=looks_findIn (M:=model prog w) X c.ga
 have L2:=looks_findIn (M:=model prog w) X c.gt
 have LF:=looks_find (M:=model prog w) X J hf
 have LB:Looks #[6] hp (isInstance (.ref x) (.type "BaseException")) true:=L0.andThen (WL (M:=model prog w) X c.be)
 unfold getAttr getAttrBy
 refine Wj (wpAny_mkText (YC (Wj (L0.at (Wj (L1.at ?_))))))
 have ne:(onTheHeap (Yw C)&&yS "BaseException.__getattribute__" == yS "object.__getattribute__")=false:=by
  have:(yS "BaseException.__getattribute__" == yS "object.__getattribute__")=false:=by decide +kernel
  rw[this];rfl
 dsimp only
 rw[ne]
 simp only[jf,if_false]
 unfold getAttrByItsOwn hookBefore
 rw[if_pos (show onTheHeap (Yw C)=true from rfl)]
 refine Wj (L2.at ?_)
 refine Wj (Wi (YC ?_))
 unfold callGetattribute
 rw[show(true&&onTheHeap (yS "BaseException.__getattribute__"))=false from rfl]
 simp only[jf,if_false]
 unfold boundAndCalled
 rw[PySem.F.attrBase_ValueError.ga.bind (.ref x)]
 refine Wj (YX ?_)
 refine Wk (qw PySem.F.attrBase_ValueError.ga.plain xC ?_)
 refine Fb LB ?_
 unfold Builtin.«object.__getattribute__»
 refine Wj (YX ?_)
 dsimp only
 refine Wj ?_
 refine(show wpAny _ _ (pure _) _ _ _ from YX ?_)
 refine Wj (L0.at ?_)
 refine Wj (LF.at ?_)
 dsimp only
 refine YX ?_
 exact handed_on hhv h
end
open PySem PySem.Spec PyProof.Rows
section
theorem bG.aip{qual:qW}{N:List qW}{k:Nat}(F:bG K x qual st dV f fd)(S:aH N ps (av st))(len:∀ vs H Q E,sp vs H Q E->vs.length=ps.length)(Ao:∀ (cA:Value) (A:Around) (outer:List qF) (s:qV) (H:Hp) (vs:List V) (Q:VK) (E:XK),cV k (A.deeper (envOfC qual (av st) s.heap.objs.size f cA))->sp vs H Q E ->
   ∃ t,G2 (Dd (O0 P w) P w K mg base N qual (av st) f cA A outer s H E) (cO st) t/\t { nx:=fun _ H'=>Q .non H',rt:=Q } (start N vs) H):bu P w K mg base (O0 P w) (k+1) f fd ps sp:=by
 exists 19
 exact acY lk Hu S len fun A outer s H vs Q E hr MX=>Ao cA A outer s H vs Q E hr MX
theorem bu.calm{k:Nat}(F:bu P w K mg base (O0 P w) k f fd ps sp):bu P w K mg base eM k f fd ps (fun vs H Q _=>sp vs H Q fun _ _ _=>False):=
 ⟨fun vs H Q E h=>F.len vs H Q _ h,fun A outer s H args us vs Q E hr he hb hv hs=>WA (F.run A outer s H args us vs Q (fun _ _ _=>False) hr he hb hv hs) fun r s' q=>by
  cases r with
  | ok fl=>cases fl<;>exact q
  | error e =>
   obtain⟨_,_,_,_,_,_,_,_,_,_,_,_,_,_,z⟩:=q
   exact z⟩
theorem rM.calm{k:Nat}(G:rM P w K mg base x k ps hX sp):bO P w K mg base x k ps hX (fun vs H Q _=>sp vs H Q fun _ _ _=>False):=by
 obtain⟨f,fd,ds,h1,h2,h3,h4,F⟩:=G.ex
 exact⟨f,fd,ds,h1,h2,h3,h4,F.calm⟩
end
section
variable{k:Nat}{y fl:qW}{p pos cN:Pos}{t:TA}{E:XK}
theorem SE(G:adB X.prog X.w X.K X.mg X.base x C f k ps sp)(hr:cV j X.A)(hc:X.calm=true)(ht:adO X E)(ha:PA X (e :: es) t)(K0:k+1<=j:=by decide)(hex:X.ex=[]:=by rfl)(hg:Gl X x:=by rfl)(Bk:#[19]=false:=by decide)(he:WU (e :: es) X.env=#[21] :: WU es X.env:=by rfl)(rJ:(backTo cN (WU es X.env)).any (·.1)=false:=by rfl):
  PS X (.Raise (some (.Call (.Name x p) (e :: es) [] cN)) none pos) (Rp C sp [] E t):=by
 obtain⟨fd,hb,F⟩:=G.F
 exact SG G.M F (hr.mono K0) hc G.m hb .nil ht ha hex hg Bk he rJ
def aiP(K:Yv)(ta:TE)(fl:qW):TE:=fun σ H Q=>ta σ H fun v H1=>∃ (x C d f:Qu) (fs:List (qW×V)) (y:V),v=.ref x/\H1 x=some (.ext (wR x C d))/\H1 d=some (.xd fs)/\BI K C f/\yB K #[30] fl=some none/\fs.lookup fl=some y/\Q y H1
theorem acn(K:Yv)(he:PE X e ta)(hK:X.K=K:=by rfl)(hb:attributeBase e fl X.env (eval e X.env)=eval e X.env:=by rfl):PE X (.Attribute e fl pos) (aiP K ta fl):=by
 subst hK
 exists 5
 refine O9 hb (bP #[63] fun u s1 ⟨v,H1,I1,rv,ea,C,d,f,fs,yv,ev,hx,hd,M,na,l,q⟩=>?_)
 subst ev
 obtain rfl:u=Yw ea:=rv
 obtain⟨⟨o,vs,z,zc,zd,zf⟩,_,_⟩:=(show bA X.prog X.w H1 s1.heap ea (.ext (wR ea C d))from I1.hok ea _ hx)
 obtain⟨mA,hn,hr⟩:=(show bA X.prog X.w H1 s1.heap d (.xd fs)from I1.hok d _ hd)
 obtain⟨w1,hw,rw1⟩:=ow.some_of (v:=yv) (o:=mA fl) (by rw[<- l];exact hr fl)
 exact TU M.xc I1.pN z zc zd zf hn na M.hd hw (Ff rw1) ⟨yv,H1,I1.tok _,rw1,q⟩
def amC(K:Yv):List V->Hp->VK->Prop:=fun xs H Q=>∃ (a C d:Qu) (c:V) (cv:Value) (b:Bool),xs=[.ref a,c]/\H a=some (.ext (wR a C d))/\CW K C/\agV c=some cv/\yE K #[30] cv=some b/\Q (.bl b) H
theorem eN(K:Yv)(hK:X.K=K:=by rfl):ie X (.builtin "isinstance") (amC K):=by
 subst hK
 exists 15
 obtain⟨a,C,d,c,cv,b,rfl,ha,cl,hc,e,q⟩:=h
 obtain⟨u,v,rfl,ru,rv⟩:=r.two
 cases(show u=Yw a from ru)
 cases Tr hc rv
 obtain⟨p,_⟩:=(show bA X.prog X.w H s.heap a (.ext (wR a C d))from I.hok a _ ha)
 exact yO (W9 cl) I.pN p.at e (fun z=>nomatch z) fun tk=>⟨.bl b,H,I.tok tk,rfl,q⟩
end
end L2
namespace L2
open PySem PySem.Spec PyProof.Rows SetTable
variable{M i j j0 n ep:Nat}{b a S x:Qu}{h hx:Int}{α:Type}{P:qR}{w:World}{A:Around}{E:Value→qV→Prop}{s:qV}{ks ns:List Int}{vs stored:List Value}{o:Obj}{h':Heap}{Q:Unit→qV→Prop}
def R7(f:Nat->Nat):Nat->Nat->Nat
 | 0,i=>i
 | n+1,i=>f (R7 f n i)
theorem Aq(f:Nat->Nat)(m i:Nat):∀ n,R7 f (m+n) i=R7 f n (R7 f m i)
 | 0=>rfl
 | n+1=>congrArg f (Aq f m i n)
def PU(M i:Nat):Nat:=(i*5+1)%(M+1)
def mq(M:Nat):Prop:=M=7\/M=31\/M=127\/M=511
def orb(f:Nat->Nat):Nat->Nat->List Nat
 | 0,_=>[]
 | n+1,i=>i :: orb f n (f i)
theorem Oh{f:Nat->Nat}:∀ {n i j:Nat},j∈orb f n i->∃ a,a<n/\R7 f a i=j
 | 0,_,_,h=>nomatch h
 | n+1,i,j,h=>by
  rcases jS.mp h with e|e
  ·exact⟨0,by omega,e.symm⟩
  ·obtain⟨a,ha,e⟩:=Oh e
   refine⟨a+1,by omega,?_⟩
   rw[Zg,Aq]
   exact e
theorem amw:(∀ j<8,j∈orb (PU 7) 8 0)/\R7 (PU 7) 8 0=0:=by decide +kernel
theorem air:(∀ j<32,j∈orb (PU 31) 32 0)/\R7 (PU 31) 32 0=0:=by decide +kernel
theorem ae6:(∀ j<128,j∈orb (PU 127) 128 0)/\R7 (PU 127) 128 0=0:=by decide +kernel
theorem ae7:(∀ j<512,j∈orb (PU 511) 512 0)/\R7 (PU 511) 512 0=0:=by decide +kernel
theorem amx(h:mq M):(∀ j<M+1,j∈orb (PU M) (M+1) 0)/\R7 (PU M) (M+1) 0=0:=by
 rcases h with e|e|e|e<;>subst e
 ·exact amw
 ·exact air
 ·exact ae6
 ·exact ae7
theorem ab3(h:mq M)(hi:i<=M)(hj:j<=M):∃ n,n<=M/\R7 (PU M) n i=j:=by
 obtain⟨all,back⟩:=amx h
 obtain⟨a,ha,ea⟩:=Oh (all i #[0])
 obtain⟨b,hb,eb⟩:=Oh (all j #[0])
 by_cases c:a<=b
 ·refine⟨b-a,by omega,?_⟩
  rw[<- ea,<- Aq,show a+(b-a)=b by omega]
  exact eb
 ·refine⟨M+1-a+b,by omega,?_⟩
  rw[<- ea,<- Aq,show a+(M+1-a+b)=(M+1)+b by omega,Aq,back]
  exact eb
def Iu(M:Nat):Nat->Nat×Nat->Nat×Nat
 | 0,p=>p
 | n+1,p=>leap M (Iu M n p).1 (Iu M n p).2
theorem HE(M m:Nat)(p:Nat×Nat):∀ n,Iu M (m+n) p=Iu M n (Iu M m p)
 | 0=>rfl
 | n+1=>by
  show leap M (Iu M (m+n) p).1 (Iu M (m+n) p).2=_
  rw[HE M m p n]
  rfl
theorem HF(M:Nat)(p:Nat×Nat):∀ n,(Iu M n p).2=p.2 / 32^n
 | 0=>(Nat.div_one _).symm
 | n+1=>by
  show(Iu M n p).2 / 32=_
  rw[HF M p n,Nat.div_div_eq_div_mul,ZD]
theorem aeT{p:Nat×Nat}(h:p.1<=M):∀ n,(Iu M n p).1<=M
 | 0=>h
 | n+1=>zI (zh _ (zb _))
theorem PX{p:Nat×Nat}(h:p.2=0):∀ n,(Iu M n p).1=R7 (PU M) n p.1
 | 0=>rfl
 | n+1=>by
  show((Iu M n p).1*5+1+(Iu M n p).2 / 32)%(M+1)=PU M (R7 (PU M) n p.1)
  rw[PX h n,HF,h,Qk,Qk]
  rfl
theorem Pb(h:Int):bits h<2^64:=by
 unfold bits
 have:=Ju h (show(0:Int)<2^64 by decide)
 have:=zD h (show(2^64:Int)≠0 by decide)
 omega
theorem Lf{b:Nat}(h:mq M)(hj:j<=M)(hi:i<=M)(hb:b<2^64):∃ n,n<=M+13/\(Iu M n (i,b)).1=j:=by
 have z:(Iu M 13 (i,b)).2=0:=by
  rw[HF]
  exact Nat.div_eq_of_lt (jh hb #[8])
 obtain⟨n,hn,e⟩:=ab3 h (aeT (p:=(i,b)) hi 13) hj
 exact⟨13+n,by omega,by rw[HE,PX z];exact e⟩
def Hh(t:qU):Nat->Probe->Probe
 | 0,p=>p
 | n+1,p=>Hh t n (t.advance p)
theorem CY(t:qU):∀ (m n:Nat) (p:Probe),Hh t (m+n) p=Hh t n (Hh t m p)
 | 0,n,p=>by rw[Je];rfl
 | m+1,n,p=>by rw[show m+1+n=(m+n)+1 by omega];exact CY t m n (t.advance p)
structure AtL(t:qU)(p:Probe)(q:Nat×Nat):Prop where
 j:p.j=q.1
 i:p.i=q.1
 per:p.perturb=q.2
 more:p.more=runEnd t.mask q.1-q.1
 dum:p.dummy=none
theorem aaL(t:qU):∀ (k:Nat) (p:Probe),p.more=k->p.dummy=none->∃ p',Hh t k p=p'/\p'.more=0/\p'.i=p.i/\p'.perturb=p.perturb/\p'.dummy=none
 | 0,p,h,d=>⟨p,rfl,h,rfl,rfl,d⟩
 | k+1,p,h,d=>by
  have e:t.advance p={ p with j:=p.j+1,more:=p.more-1 }:=by
   unfold advance
   rw[if_pos #[0]]
  obtain⟨p',e1,e2,e3,e4,e5⟩:=aaL t k (t.advance p) (by rw[e];show p.more-1=k;omega) (by rw[e];exact d)
  rw[e]at e3 e4
  exact⟨p',e1,e2,e3,e4,e5⟩
theorem AtL.next{t:qU}{p:Probe}{q:Nat×Nat}(h:AtL t p q):∃ c,c<=10/\AtL t (Hh t c p) (leap t.mask q.1 q.2):=by
 have m9:p.more<=9:=by
  rw[h.more]
  unfold runEnd
  split<;>omega
 obtain⟨p',e1,e2,e3,e4,e5⟩:=aaL t p.more p rfl h.dum
 refine⟨p.more+1,by omega,?_⟩
 rw[CY,e1]
 have e:Hh t 1 p'={ p' with j:=(leap t.mask p'.i p'.perturb).1,more:=runEnd t.mask (leap t.mask p'.i p'.perturb).1-(leap t.mask p'.i p'.perturb).1,i:=(leap t.mask p'.i p'.perturb).1,perturb:=(leap t.mask p'.i p'.perturb).2 }:=by
  show t.advance p'=_
  unfold advance
  rw[if_neg #[0]]
 rw[e,e3,e4,h.i,h.per]
 exact⟨rfl,rfl,rfl,rfl,e5⟩
theorem AtL.run{t:qU}{p:Probe}{q:Nat×Nat}(h:AtL t p q):∀ n,∃ c,c<=10*n/\AtL t (Hh t c p) (Iu t.mask n q)
 | 0=>⟨0,by omega,h⟩
 | n+1=>by
  obtain⟨c,hc,a⟩:=h.run n
  obtain⟨d,hd,b⟩:=a.next
  exact⟨c+d,by omega,by rw[CY];exact b⟩
theorem PV{t:qU}(h:t.slot j=.live i):t.place[i]?=some j:=by
 unfold slot at h
 dsimp only at h
 split at h
 ·rename_i c
  cases h
  exact eq_of_beq c
 ·split at h<;>cases h
theorem Ln{t:qU}(hd:t.dummies=#[]):t.slot j=.empty\/∃ i,t.slot j=.live i:=by
 unfold slot
 dsimp only
 split
 ·exact .inr ⟨_,rfl⟩
 ·rw[if_neg]
  ·exact .inl rfl
  ·rw[hd]
   unfold has
   simp
theorem sub_len:∀ {ps vs:List Nat},ps.Nodup->(∀ p∈ps,p∈vs)->ps.length<=vs.length
 | [],_,_,_=>je _
 | p :: ps,vs,nd,h=>by
  have PY:=JE.mp nd
  have hp:=h p jE
  have:=sub_len (vs:=vs.erase p) PY.2 fun q hq=>(ZE (show q≠p from fun z=>PY.1 (by rw[<- z];exact hq))).mpr (h q (jK _ hq))
  rw[zg hp]at this
  have:=zH hp
  rw[jc]
  omega
theorem RX{t:qU}(hd:t.dummies=#[])(hf:t.place.size<=t.mask):∃ j,j<=t.mask/\t.slot j=.empty:=by
 by_cases c:∃ j,j<=t.mask/\t.slot j=.empty
 ·exact c
 ·exfalso
  have:=sub_len (ps:=jO (t.mask+1)) (vs:=t.place.toList) QV fun j hj=>by
   have hj' := jq.mp hj
   rcases Ln (t:=t) hd (j:=j)with e|⟨i,e⟩
   ·exact absurd ⟨j,by omega,e⟩ c
   ·exact Zv.mpr (Array.mem_of_getElem? (PV e))
  rw[jT,jU]at this
  omega
def Gap(t:qU):Nat->Probe->Prop
 | 0,p=>t.slot p.j=.empty
 | n+1,p=>t.slot p.j=.empty\/Gap t n (t.advance p)
theorem TR{t:qU}:∀ {n:Nat} {p:Probe},t.slot (Hh t n p).j=.empty->Gap t n p
 | 0,_,h=>h
 | n+1,p,h=>.inr (TR (n:=n) h)
theorem RU{t:qU}(hM:mq t.mask)(hd:t.dummies=#[])(hf:t.place.size<=t.mask)(h:Int):∃ n,n<10*turns t.mask/\Gap t n (t.probeStart h)/\(t.probeStart h).dummy=none:=by
 obtain⟨j,hj,e⟩:=RX hd hf
 have hi:bits h%(t.mask+1)<=t.mask:=zI (zh _ (zb _))
 obtain⟨n,hn,en⟩:=Lf hM hj hi (Pb h)
 have a0:AtL t (t.probeStart h) (bits h%(t.mask+1),bits h):=⟨rfl,rfl,rfl,rfl,rfl⟩
 obtain⟨c,hc,a⟩:=a0.run n
 refine⟨c,by unfold turns;omega,TR ?_,rfl⟩
 rw[a.j,en]
 exact e
theorem O7{t:qU}{p:Probe}:(t.advance p).dummy=p.dummy:=by
 unfold advance
 split<;>rfl
theorem LK{t:qU}{hashAt:Nat->Int}(hd:t.dummies=#[]):∀ {fuel n:Nat} {p:Probe},Gap t n p->p.dummy=none->n<fuel ->
  (∃ j,probe.go t hashAt h fuel p=some (.empty j none))\/∃ (j i m:Nat) (q:Probe),probe.go t hashAt h fuel p=some (.candidate j i q)/\t.slot j=.live i/\Gap t m q/\q.dummy=none/\m<n
 | 0,_,_,_,_,l=>absurd l (Jp _)
 | fuel+1,n,p,g,dp,l=>by
  rw[probe.go]
  rcases Ln (t:=t) hd (j:=p.j)with e|⟨i,e⟩
  ·rw[e]
   dsimp only
   rw[dp]
   exact .inl ⟨_,rfl⟩
  ·cases n with
   | zero=>rw[show t.slot p.j=.empty from g]at e;cases e
   | succ n =>
    have g':Gap t n (t.advance p):=by
     rcases g with z|z
     ·rw[z]at e;cases e
     ·exact z
    rw[e]
    dsimp only
    split
    ·exact .inr ⟨p.j,i,n,_,rfl,e,g',by rw[O7];exact dp,by omega⟩
    ·rcases LK hd (fuel:=fuel) g' (by rw[O7];exact dp) #[0]with z|⟨j,i',m,q,h1,h2,h3,h4,h5⟩
     ·exact .inl z
     ·exact .inr ⟨j,i',m,q,h1,h2,h3,h4,by omega⟩
theorem Pq(hM:mq M){owner:Array (Option Nat)}(hs:owner.size=M+1)(hj:j0<=M)(hn:owner.getD j0 (some 0)=none):∀ (n fuel i p:Nat),i<=M->(Iu M n (i,p)).1=j0->n<fuel ->
  ∃ j,layClean.free M owner fuel i p=some j/\j<=M/\owner[j]?=some none
 | n,0,_,_,_,_,l=>absurd l (Jp _)
 | n,fuel+1,i,p,hi,e,l=>by
  rw[layClean.free]
  cases ef:(jO (runEnd M i+1-i)).find? fun k=>(owner.getD (i+k) (some 0)).isNone with
  | some k =>
   dsimp only
   have hk:=jq.mp (List.mem_of_find?_eq_some ef)
   have hz:=List.find?_some ef
   have rl:runEnd M i<=M:=by
    unfold runEnd
    split<;>omega
   refine⟨i+k,rfl,by omega,?_⟩
   have Fg:owner.getD (i+k) (some 0)=none:=Option.isNone_iff_eq_none.mp hz
   rw[zO]at Fg
   cases eo:owner[i+k]? with
   | none=>rw[eo]at Fg;cases Fg
   | some v=>rw[eo]at Fg;exact congrArg some Fg
  | none =>
   dsimp only
   cases n with
   | zero =>
    exfalso
    have e0:i=j0:=e
    have:=List.find?_eq_none.mp ef 0 (jq.mpr (by unfold runEnd;split<;>omega))
    rw[Qj,e0,hn]at this
    exact this rfl
   | succ n =>
    have e1:(Iu M n (leap M i p)).1=j0:=by
     rw[Zg,HE]at e
     exact e
    exact Pq hM hs hj hn n fuel _ _ (zI (zh _ (zb _))) e1 #[0]
theorem LX:∀ {l:List (Option Nat)} {j k:Nat},l[j]?=some none->((l.set j (some k)).filterMap id).Perm (l.filterMap id++[k])
 | [],_,_,h=>nomatch h
 | x :: l,0,k,h=>by
  cases(Option.some.inj h:x=none)
  show(k :: l.filterMap id).Perm (l.filterMap id++[k])
  exact(List.perm_append_singleton k _).symm
 | x :: l,j+1,k,h=>by
  have ih:=LX (l:=l) (j:=j) (k:=k) (by simpa using h)
  rw[List.set_cons_succ]
  cases x with
  | none=>exact ih
  | some v=>exact ih.cons v
theorem P0:∀ {l:List (Option Nat)},(l.filterMap id).length<l.length->∃ j,j<l.length/\l[j]?=some none
 | [],h=>absurd h (Jp _)
 | none :: l,_=>⟨0,zb _,rfl⟩
 | some v :: l,h=>by
  obtain⟨j,hj,e⟩:=P0 (l:=l) (by
   have h':(l.filterMap id).length+1<l.length+1:=h
   omega)
  exact⟨j+1,Nat.succ_lt_succ hj,by simpa using e⟩
def Cw(M:Nat):Option (Array (Option Nat)×Nat)->Int->Option (Array (Option Nat)×Nat):=fun acc h=>do
  let (owner,k) <- acc
  let j <- layClean.free M owner (turns M) (bits h%(M+1)) (bits h)
  pure (owner.setIfInBounds j (some k),k+1)
theorem J5(hM:mq M):∀ (hs:List Int) (owner:Array (Option Nat)) (k:Nat),owner.size=M+1->(owner.toList.filterMap id).Perm (jO k)->k+hs.length<=M ->
  ∃ Ol,hs.foldl (Cw M) (some (owner,k))=some (Ol,k+hs.length)/\Ol.size=M+1/\(Ol.toList.filterMap id).Perm (jO (k+hs.length))
 | [],owner,k,h1,h2,_=>⟨owner,rfl,h1,h2⟩
 | h :: hs,owner,k,h1,h2,l=>by
  rw[jc]at l
  have lk:=h2.length_eq
  rw[jT]at lk
  obtain⟨j0,hj0,e0⟩:=P0 (l:=owner.toList) (by rw[lk,jU];omega)
  rw[jU]at hj0
  rw[JG]at e0
  have hn:owner.getD j0 (some 0)=none:=by rw[zO,e0];rfl
  obtain⟨n,hn1,hn2⟩:=Lf (i:=bits h%(M+1)) hM (show j0<=M by omega) (zI (zh _ (zb _))) (Pb h)
  obtain⟨j,ej,jl,jn⟩:=Pq hM h1 (show j0<=M by omega) hn n (turns M) _ _ (zI (zh _ (zb _))) hn2 (by unfold turns;omega)
  have st:Cw M (some (owner,k)) h=some (owner.setIfInBounds j (some k),k+1):=by
   unfold Cw
   show(layClean.free M owner (turns M) (bits h%(M+1)) (bits h)).bind _=_
   rw[ej]
   rfl
  rw[JZ,st]
  obtain⟨o',f1,f2,f3⟩:=J5 hM hs (owner.setIfInBounds j (some k)) (k+1) (by rw[Array.size_setIfInBounds];exact h1) (by
   rw[Array.toList_setIfInBounds,JK]
   exact(LX (by rw[JG];exact jn)).trans (h2.append (List.Perm.refl _))) #[0]
  exact⟨o',by rw[f1,jc];congr 2;omega,f2,by rw[jc,show k+(hs.length+1)=k+1+hs.length by omega];exact f3⟩
theorem Sd(hM:mq M)(hs:Array Int)(l:hs.size<=M):∃ owner,layClean M hs=some owner/\owner.size=M+1/\(owner.toList.filterMap id).Perm (jO hs.size):=by
 have f0:((Zm (M+1) (none:Option Nat)).toList.filterMap id)=[]:=by
  rw[Array.toList_replicate]
  exact List.filterMap_eq_nil_iff.mpr fun a ha=>by rw[Zh ha];rfl
 obtain⟨o,f1,f2,f3⟩:=J5 hM hs.toList (Zm (M+1) none) 0 (Array.size_replicate ..) (by rw[f0];exact List.Perm.refl _) (by rw[jU];omega)
 refine⟨o,?_,f2,by rw[Je,jU]at f3;exact f3⟩
 unfold layClean
 rw[<- Array.foldl_toList]
 show(hs.toList.foldl (Cw M) (some (Zm (M+1) none,0))).map (·.1)=_
 rw[f1]
 rfl
theorem Au:∀ (f:Nat->Option Nat) (l:List Nat),((l.filterMap fun j=>(f j).map fun k=>(j,k)).map (·.2))=(l.map f).filterMap id
 | _,[]=>rfl
 | f,x :: l=>by
  rw[JY,JJ,JY]
  cases e:f x with
  | none=>exact Au f l
  | some k=>exact congrArg (k :: ·) (Au f l)
theorem Ly{owner:Array (Option Nat)}(h:owner.size=n):(jO n).map (fun j=>owner.getD j none)=owner.toList:=by
 subst h
 refine Jj #[11] fun i h1 h2=>?_
 rw[JC,JV,zO,ju (by simpa using h2)]
 simp
theorem ab2{finger moves:Nat}{led plain:Bool}(hM:mq M)(hs:Array Int)(l:hs.size<=M):∃ (place order:Array Nat),laid M finger moves led plain hs=some (⟨M,place,#[],finger,led,moves,plain⟩,order)/\place.size=hs.size/\order.toList.Perm (jO hs.size):=by
 obtain⟨owner,e,sz,pm⟩:=Sd hM hs l
 unfold laid
 rw[e]
 refine⟨_,_,rfl,?_,?_⟩
 ·rw[jP,jZ]
  have:=congrArg zE (Au (fun j=>owner.getD j none) (jO (M+1)))
  rw[jZ,Ly sz,pm.length_eq,jT]at this
  exact this
 ·show((jO (M+1)).filterMap fun j=>(owner.getD j none).map fun k=>(j,k)).map (·.2) |>.Perm _
  rw[Au,Ly sz]
  exact pm
theorem Oi(es:Array α){order:Array Nat}(h:order.toList.Perm (jO es.size)):(order.filterMap (es[·]?)).toList.Perm es.toList:=by
 rw[Array.toList_filterMap]
 refine(h.filterMap _).trans ?_
 have:(jO es.size).filterMap (fun x=>es[x]?)=es.toList:=by
  have e:(jO es.size).map (fun x=>es[x]?)=es.toList.map some:=by
   refine Jj #[11] fun i h1 h2=>?_
   have hi:i<es.size:=by simpa using h1
   rw[JC,JV,JC,ju hi,Array.getElem_toList]
  have e2:(jO es.size).filterMap (fun x=>es[x]?)=((jO es.size).map (fun x=>es[x]?)).filterMap id:=by
   rw[zY]
   rfl
  rw[e2,e,zY]
  show es.toList.filterMap some=_
  rw[List.filterMap_some]
 rw[this]
abbrev TK(P:qR)(w:World)(h:Heap)(ns:List Int)(a:Qu):Prop:=qL (Xh P w) h ns a
structure Ad(t:qU)(n:Nat):Prop where
 dm:t.dummies=#[]
 sz:t.place.size=n
 ms:(t.mask=7/\n<=4)\/(t.mask=31/\n<=18)\/(t.mask=127/\n<=76)\/(t.mask=511/\n<=306)
theorem Ad.masked{t:qU}(h:Ad t n):mq t.mask:=by
 rcases h.ms with h|h|h|h
 ·exact .inl h.1
 ·exact .inr (.inl h.1)
 ·exact .inr (.inr (.inl h.1))
 ·exact .inr (.inr (.inr h.1))
theorem Ad.room{t:qU}(h:Ad t n):n+5<=t.mask+2/\n<=t.mask:=by
 rcases h.ms with h|h|h|h<;>omega
theorem Ad.fits{t:qU}(h:Ad t n):t.fits n=true:=by
 unfold SetTable.fits SetTable.fill
 rw[h.dm,h.sz]
 have:=h.room
 simp
 omega
theorem Ad.ad2{t:qU}(h:Ad t n):t.gaveWay=false:=by
 unfold gaveWay
 rcases h.masked with e|e|e|e<;>rw[e]<;>rfl
section
theorem items_int(h:ItemsAre (Xh P w) ks vs):∀ v∈vs,∃ n t,v=yI n t:=by
 induction h with
 | nil=>intro v hv;cases hv
 | cons h1 _ ih =>
  intro v hv
  rcases jS.mp hv with rfl|hv
  ·obtain⟨t,rfl⟩:=xZ h1
   exact⟨_,t,rfl⟩
  ·exact ih v hv
theorem Pf{Q:Bool->qV->Prop}(hk:TK P w s.heap ns a)(h:Q false s):wpAny #[31] A (ofAClassStatement 8 (.ref a)) Q E s:=by
 obtain⟨o,items,n,ho,hc,hd,hi⟩:=id hk
 rw[ofAClassStatement.eq_def]
 refine Wj (Yt hk.typeIs ?_)
 refine Wj (YX ?_)
 simp only[zt,jf,if_false]
 refine Wj (Yi ho hd ?_)
 refine Wj ?_
 show wpAny _ _ (forIn items _ _) _ _ _
 rw[<- QI]
 refine Wz _ (fun rest r s'=>r.fst=none/\s'=s/\∀ y∈rest,y∈items.toList) _ ?_ ?_ _ _ ⟨rfl,rfl,fun y hy=>hy⟩
 ·rintro v rest ⟨r1,r2⟩ s' ⟨hr,rfl,hZ⟩
  obtain⟨m,t,rfl⟩:=items_int hi v (hZ v jE)
  refine Wj (YX ?_)
  simp only[jf,if_false]
  exact YX ⟨rfl,rfl,fun y hy=>hZ y (jK _ hy)⟩
 ·rintro⟨r1,r2⟩ s' ⟨hr,rfl,_⟩
  cases(show r1=none from hr)
  exact YX h
theorem abJ{Q:Bool->qV->Prop}(hk:TK P w s.heap ns a)(h:Q true s):wpAny #[31] A (hashByValue 8 (.ref a)) Q E s:=by
 obtain⟨o,items,n,ho,hc,hd,hi⟩:=id hk
 rw[hashByValue.eq_def]
 refine Wj (Ym hk.typeIs F.slot_tuple_hash.lookup ?_)
 dsimp only
 refine Wj (Yi ho hd ?_)
 refine Wj ?_
 show wpAny _ _ (forIn items _ _) _ _ _
 rw[<- QI]
 refine Wz _ (fun rest r s'=>r.fst=none/\s'=s/\∀ y∈rest,y∈items.toList) _ ?_ ?_ _ _ ⟨rfl,rfl,fun y hy=>hy⟩
 ·rintro v rest ⟨r1,r2⟩ s' ⟨hr,rfl,hZ⟩
  obtain⟨m,t,rfl⟩:=items_int hi v (hZ v jE)
  refine Wj (YX ?_)
  simp only[zt,jf,if_false]
  exact YX ⟨rfl,rfl,fun y hy=>hZ y (jK _ hy)⟩
 ·rintro⟨r1,r2⟩ s' ⟨hr,rfl,_⟩
  cases(show r1=none from hr)
  exact YX h
theorem aaN{Q:Bool->qV->Prop}(hk:TK P w s.heap ns a)(hs:∀ y∈stored,∃ b ms,y=Yw b/\TK P w s.heap ms b)(h:Q false s):wpAny #[31] A (searchCouldBeSeen (.ref a) stored) Q E s:=by
 unfold searchCouldBeSeen
 refine Wj ?_
 refine Wz _ (fun rest r s'=>r.fst=none/\s'=s/\∀ y∈rest,y∈stored) _ ?_ ?_ _ _ ⟨rfl,rfl,fun y hy=>hy⟩
 ·rintro v rest ⟨r1,r2⟩ s' ⟨hr,rfl,hZ⟩
  obtain⟨b,ms,rfl,hb⟩:=hs v (hZ v jE)
  dsimp only
  split
  ·exact YX ⟨rfl,rfl,fun y hy=>hZ y (jK _ hy)⟩
  ·refine Wj (Wu hk ?_)
   simp only[zt,jf,if_false]
   refine Wj (Wu hb ?_)
   simp only[zt,jf,if_false]
   refine Wj (Pf hk ?_)
   simp only[jf,if_false]
   refine Wj (Pf hb ?_)
   simp only[jf,if_false]
   exact YX ⟨rfl,rfl,fun y hy=>hZ y (jK _ hy)⟩
 ·rintro⟨r1,r2⟩ s' ⟨hr,rfl,_⟩
  cases(show r1=none from hr)
  exact YX h
theorem FI{t:qU}{m:Nat}{p:Probe}(T:Ad t n)(g:Gap t m p)(dp:p.dummy=none)(l:m<10*turns t.mask)(hashAt:Nat->Int)(r:Option Met)(e:t.probe hashAt h p=r):
  (∃ j,r=some (.empty j none))\/∃ (j i m':Nat) (q:Probe),r=some (.candidate j i q)/\t.slot j=.live i/\Gap t m' q/\q.dummy=none/\m'<m:=by
 subst e
 exact LK T.dm g dp l
theorem OB{es:Array (Int×Value)}{t:qU}{Q:SetFound->qV->Prop}(hu:A.units<cLine)(ho:s.heap.get? S=some o)(hd:o.data=.set es ep t)(T:Ad t es.size)(hx:TK P w s.heap ns x)(hZ:∀ e∈es.toList,∃ b ms,e.2=Yw b/\TK P w s.heap ms b/\ms≠ns)(hQ:∀ j,Q (.free j false) s):
  ∀ (m fuel:Nat) (Rm:Option Probe),Gap t m (Rm.getD (t.probeStart h))->(Rm.getD (t.probeStart h)).dummy=none->m<10*turns t.mask->m<fuel->wpAny #[31] A (setSearchFrom S (.ref x) h true fuel Rm) Q E s:=by
 intro m
 induction m using Nat.strongRecOn with
 | _ m ih =>
  intro fuel Rm g dp l lf
  cases fuel with
  | zero=>exact absurd lf (Jp _)
  | succ fuel =>
   rw[setSearchFrom]
   refine Wj (Yl ho hd T.fits ?_)
   dsimp only
   rw[T.ad2]
   simp only[jf,if_false]
   split
   rotate_left
   ·rename_i heq
    exfalso
    rcases FI (h:=h) T g dp l (fun i=>(es[i]?.map (·.1)).getD 0) _ rfl with⟨j,e⟩|⟨j,i,m',q,e,_⟩
    ·exact heq _ e
    ·exact heq _ e
   rename_i met heq
   rcases FI T g dp l _ _ heq with⟨j,e⟩|⟨j,i,m',q,e,V2,g',dq,lm⟩
   ·cases e
    exact YX (hQ j)
   cases e
   have hi:i<es.size:=by
    rw[<- T.sz]
    exact(JS.mp (PV V2)).1
   obtain⟨b,ms,eb,hb,ne⟩:=hZ es[i] (Array.getElem_mem_toList hi)
   have hes:es[i]?=some (es[i].1,Yw b):=by rw[ju hi,<- eb]
   have same:t.sameMemory t.moves t.mask=some true:=if_pos (beq_self_eq_true _)
   dsimp only
   cases aqc:t.led
   ·rw[if_pos (show(!false)=true from rfl)]
    refine Wj (aaN hx (fun y hy=>?_) ?_)
    ·obtain⟨e,he,rfl⟩:=jN.mp hy
     rw[Array.toList_filter]at he
     obtain⟨b',ms',e1,e2,_⟩:=hZ e (JD.mp he).1
     exact⟨b',ms',e1,e2⟩
    rw[if_neg (show ¬ false=true from fun z=>by cases z)]
    rw[hes]
    dsimp only
    refine Wj (YC (Wt hu hb hx ?_))
    rw[decide_eq_false ne]
    refine Wj (Yl ho hd T.fits ?_)
    simp only[zJ,jf,if_false]
    rw[same]
    dsimp only
    rw[if_pos rfl,V2]
    dsimp only
    rw[hes]
    dsimp only
    refine Wj (YF ?_)
    rw[if_pos rfl]
    refine Wj (YX ?_)
    dsimp only
    exact ih m' lm fuel (some q) g' dq #[0] #[0]
   ·rw[if_neg (show ¬ (!true)=true from fun z=>by cases z)]
    rw[hes]
    dsimp only
    refine Wj (YC (Wt hu hb hx ?_))
    rw[decide_eq_false ne]
    refine Wj (Yl ho hd T.fits ?_)
    simp only[zJ,jf,if_false]
    rw[same]
    dsimp only
    rw[if_pos rfl,V2]
    dsimp only
    rw[hes]
    dsimp only
    refine Wj (YF ?_)
    rw[if_pos rfl]
    refine Wj (YX ?_)
    dsimp only
    exact ih m' lm fuel (some q) g' dq #[0] #[0]
end
theorem Du(xs:Array α)(p:Nat)(x:α):(SetTable.insertAt xs p x).toList.Perm (x :: xs.toList):=by
 unfold SetTable.insertAt
 rw[Array.toList_append,ZW,Zy,Zy]
 simp only[List.extract_eq_drop_take,Ql,Qf]
 rw[jv,List.singleton_append]
 refine List.perm_middle.trans (List.Perm.cons _ ?_)
 rw[zF (l:=Qt p xs.toList) #[11],zL]
theorem K6(xs:Array α)(p:Nat)(x:α):(SetTable.insertAt xs p x).size=xs.size+1:=by
 rw[<- jU,(Du xs p x).length_eq,jc,jU]
theorem Ad.put{t:qU}(h:Ad t n):(t.put j).1.dummies=#[]/\(t.put j).1.place.size=n+1/\(t.put j).1.mask=t.mask/\(t.put j).1.plain=t.plain:=by
 unfold SetTable.put
 refine⟨?_,?_,rfl,rfl⟩
 ·show(if has t.dummies j=true then eraseAt t.dummies (below t.dummies j)else t.dummies)=#[]
  rw[h.dm]
  rfl
 ·show(insertAt t.place _ j).size=n+1
  rw[K6,h.sz]
theorem ad3:sizeAbove (grown 5)=32:=by decide
theorem abC:sizeAbove (grown 19)=128:=by decide
theorem abD:sizeAbove (grown 77)=512:=by decide
theorem aaB{t:qU}(h:(M=7/\n<=4)\/(M=31/\n<=18)\/(M=127/\n<=76)\/(M=511/\n<=306))(b:n+1<=306)(tm:t.mask=M)(td:t.dummies=#[])(ts:t.place.size=n+1):
  (t.tooFull=false/\Ad t (n+1))\/(t.tooFull=true/\∃ M',sizeAbove (grown (n+1))=M'+1/\mq M'/\n+1<=M'/\M'+1<=512/\((M'=7/\n+1<=4)\/(M'=31/\n+1<=18)\/(M'=127/\n+1<=76)\/(M'=511/\n+1<=306))):=by
 have tf:t.tooFull=decide ((n+1)*5 ≥ M*3):=by
  unfold SetTable.tooFull SetTable.fill
  rw[td,ts,tm]
  rfl
 rw[tf]
 by_cases e:(n+1)*5 ≥ M*3
 ·right
  exists decide_eq_true e
  rcases h with⟨rfl,l⟩|⟨rfl,l⟩|⟨rfl,l⟩|⟨rfl,l⟩
  ·obtain rfl:n=4:=by omega
   exact⟨31,ad3,.inr (.inl rfl),by omega,by omega,by omega⟩
  ·obtain rfl:n=18:=by omega
   exact⟨127,abC,.inr (.inr (.inl rfl)),by omega,by omega,by omega⟩
  ·obtain rfl:n=76:=by omega
   exact⟨511,abD,.inr (.inr (.inr rfl)),by omega,by omega,by omega⟩
  ·omega
 ·left
  exists decide_eq_false e,td,ts
  rw[tm]
  rcases h with⟨rfl,l⟩|⟨rfl,l⟩|⟨rfl,l⟩|⟨rfl,l⟩<;>omega
def AY(P:qR)(w:World)(h:Heap)(a:Qu)(S9:List (Qu×List Int)):Prop:=
 ∃ o es ep t,h.get? a=some o/\o.ExactSet/\o.data=.set es ep t/\Ad t es.size/\es.size=S9.length/\∀ e∈es.toList,∃ b ms,e.2=Yw b/\b≠a/\TK P w h ms b/\(b,ms)∈S9
theorem TK.keep{h:Heap}(x:TK P w h ns b)(k:∀ o,h.get? b=some o->h'.get? b=some o):TK P w h' ns b:=by
 obtain⟨o,items,n,ho,r⟩:=x
 exact⟨o,items,n,k o ho,r⟩
theorem AY.keep{h:Heap}{S9:List (Qu×List Int)}(x:AY P w h a S9)(ka:∀ o,h.get? a=some o->h'.get? a=some o)(k:∀ p∈S9,∀ o,h.get? p.1=some o->h'.get? p.1=some o):AY P w h' a S9:=by
 obtain⟨o,es,ep,t,ho,hex,hd,T,hz,hZ⟩:=x
 refine⟨o,es,ep,t,ka o ho,hex,hd,T,hz,fun e he=>?_⟩
 obtain⟨b,ms,e1,ne,e2,e3⟩:=hZ e he
 exact⟨b,ms,e1,ne,TK.keep e2 (k _ e3),e3⟩
section
theorem SH{es:Array (Int×Value)}{wanted:Nat}{t:qU}(ho:s.heap.get? S=some o)(hd:o.data=.set es ep t)(hf:t.fits es.size=true)(hM:sizeAbove wanted=M+1)(hm:mq M)(l:es.size<=M)(l2:M+1<=512)(h:∀ (lN:Array (Int×Value)) (t':qU),lN.toList.Perm es.toList->t'.mask=M->t'.dummies=#[]->t'.place.size=es.size->Q () { s with heap:=s.heap.update S (Obj.putSet lN t') }):wpAny #[31] A (setRelay S wanted) Q E s:=by
 obtain⟨place,order,e1,e2,e3⟩:=ab2 (finger:=t.finger) (moves:=t.movedTo M) (led:=t.led) (plain:=t.plain) hm (es.map (·.1)) (by simpa using l)
 rw[Array.size_map]at e2 e3
 have pe:=Oi es e3
 have ze:(order.filterMap (es[·]?)).size=es.size:=by rw[<- jU,pe.length_eq,jU]
 unfold setRelay
 refine Wj (Yl ho hd hf ?_)
 dsimp only
 rw[hM,if_neg (by unfold sizeLine;omega)]
 have er:t.relaid (es.map (·.1)) wanted=some (⟨M,place,#[],t.finger,t.led,t.movedTo M,t.plain⟩,order):=by
  unfold SetTable.relaid
  rw[hM]
  exact e1
 rw[er]
 refine Wj ?_
 show wpAny _ _ (if ((order.filterMap (es[·]?)).size != es.size)=true then _ else _) _ _ _
 rw[if_neg (by rw[ze];simp)]
 refine YX ?_
 refine Yo ho hd ?_ (by rw[ze];unfold sizeLine;omega)
 exact h _ _ pe rfl rfl e2
theorem OD{S9:List (Qu×List Int)}{Q:Bool->qV->Prop}(hu:A.units<cLine)(hS:AY P w s.heap S S9)(hk:TK P w s.heap ns x)(ne:x≠S)(nin:∀ p∈S9,p.2≠ns)(ac6:S9.length+1<=306)(h:∀ h' b,yL S s.heap h'->AY P w h' S (S9++[(x,ns)])->Q b { s with heap:=h' }):wpAny #[31] A (setAddHashed S (.ref x) hx) Q E s:=by
 obtain⟨o,es,ep,t,ho,hex,hd,T,hz,hZ⟩:=hS
 unfold setAddHashed
 refine YC ?_
 rw[setAddHashedIn]
 refine Wj (Yl ho hd T.fits ?_)
 dsimp only
 have bs:byScan (.ref x) es=false:=rfl
 rw[bs]
 simp only[jf,if_false]
 obtain⟨m,l,g,dp⟩:=RU T.masked T.dm (by rw[T.sz];exact T.room.2) hx
 have l2:m<100000:=by
  have:t.mask<=511:=by rcases T.masked with e|e|e|e<;>omega
  unfold turns at l
  omega
 unfold setSearch
 refine Wj (OB hu ho hd T hk (fun e he=>?_) (fun j=>?_) m 100000 none g dp l l2)
 ·obtain⟨b,ms,e1,_,e2,e3⟩:=hZ e he
  exact⟨b,ms,e1,e2,nin _ e3⟩
 dsimp only
 refine Wj (Yl ho hd T.fits ?_)
 dsimp only
 obtain⟨p1,p2,p3,p4⟩:=T.put (j:=j)
 generalize t.put j=pt at p1 p2 p3 p4 ⊢
 obtain⟨t1,p⟩:=pt
 dsimp only at p1 p2 p3 p4 ⊢
 have fin:∀ t2:qU,t2.dummies=#[]->t2.place.size=es.size+1->t2.mask=t.mask->wpAny #[31] A (do
   storeSet S (SetTable.insertAt es p (hx,Yw x)) t2
   if (!false&&t2.tooFull)=true then do
     setRelay S (SetTable.grown (es.size+1))
     pure true
    else pure true) Q E s:=by
  intro t2 q1 q2 q3
  have zi:=K6 es p (hx,Yw x)
  have pi:=Du es p (hx,Yw x)
  generalize SetTable.insertAt es p (hx,Yw x)=rC at zi pi ⊢
  have bound:es.size+1<=306:=by omega
  refine Wj (Yo ho hd ?_ (by rw[zi];unfold sizeLine;omega))
  have hg:(s.heap.update S (Obj.putSet rC t2)).get? S=some { o with data:=.set rC (ep+1) t2 }:=by
   have q:=jg (Obj.putSet rC t2) ho (by rw[WR rC t2 hd];rfl)
   rw[WR rC t2 hd]at q
   exact q
  have sb:=yF s.heap S (Obj.putSet rC t2)
  have all1:∀ (h':Heap),yL S s.heap h'->∀ e∈rC.toList,∃ b ms,e.2=Yw b/\b≠S/\TK P w h' ms b/\(b,ms)∈S9++[(x,ns)]:=fun h' sb e he=>by
   rcases jS.mp (pi.mem_iff.mp he)with rfl|he
   ·exact⟨x,ns,rfl,ne,TK.keep hk (fun o z=>by rw[sb.2 x ne];exact z),jR _ jE⟩
   ·obtain⟨b,ms,e1,nb,e2,e3⟩:=hZ e he
    exact⟨b,ms,e1,nb,TK.keep e2 (fun o z=>by rw[sb.2 b nb];exact z),jz _ e3⟩
  rcases aaB T.ms bound q3 q1 q2 with⟨tf,T2⟩|⟨tf,M',sa,hm,l1,l2,msM⟩
  ·rw[tf]
   simp only[zJ,jf,if_false]
   refine YX (h _ _ sb ⟨_,rC,ep+1,t2,hg,hex,rfl,zi ▸ T2,by rw[zi,hz,jL];rfl,all1 _ sb⟩)
  ·rw[tf]
   simp only[Bool.not_false,Bool.and_true,if_true]
   have f2:t2.fits rC.size=true:=by
    unfold SetTable.fits SetTable.fill
    rw[q1,q2,q3,zi]
    have:=T.room
    simp
    omega
   refine Wj (SH hg rfl f2 sa hm (by rw[zi];exact l1) l2 fun lN t' pe r1 r2 r3=>?_)
   have zz:lN.size=es.size+1:=by rw[<- jU,pe.length_eq,jU,zi]
   have hg2:((s.heap.update S (Obj.putSet rC t2)).update S (Obj.putSet lN t')).get? S=some { o with data:=.set lN (ep+1+1) t' }:=by
    have q:=jg (Obj.putSet lN t') hg (by rw[WR lN t' rfl];rfl)
    rw[WR lN t' rfl]at q
    exact q
   have sb2:=sb.trans (yF _ S (Obj.putSet lN t'))
   refine YX (h _ _ sb2 ⟨_,lN,ep+1+1,t',hg2,hex,rfl,⟨r2,by rw[r3,zi,zz],by rw[r1,zz];exact msM⟩,by rw[zz,hz,jL];rfl,fun e he=>all1 _ sb2 e (pe.mem_iff.mp he)⟩)
 split
 ·refine Wj (abJ hk ?_)
  exact fin t1 p1 p2 p3
 ·refine Wj (YX ?_)
  exact fin t1 p1 p2 p3
end
end L2
namespace L2
open PySem PySem.Spec PyProof.Rows
variable{P:qR}{w:World}{A:Around}{E Q:Value→qV→Prop}{R:Result→qV→Prop}{I a l:Qu}{n:Nat}{s:qV}{items:Array Value}{X:Cx}{H:Hp}{h:Heap}{ns:List Int}
section
variable{fp wr:List Qu}{G:Array qH->Array qH->Prop}{Pz:Nat->Value->Prop}{St:Nat->qV->Prop}
theorem EH(W:WalksS P w A.in1 I fp wr G n Pz St)(S:Qu)(hu:A.units+2<cLine)(hSf:S∉fp)(val:Nat->Qu×List Int)(si:∀ i v,Pz i v->v=.ref (val i).1)(aeh:∀ i,i<n->(val i).1∉S :: wr)(hb:n<=306)(dis:∀ i j,i<j->j<n->(val i).2≠(val j).2):
  ∀ (k i:Nat) (s:qV),n-i=k->i<=n->St i s->(∀ j,j<n->TK P w s.heap (val j).2 (val j).1)->AY P w s.heap S ((jO i).map val)->(∀ s',Moved (S :: wr) G s s'->AY P w s'.heap S ((jO n).map val)->R (.ok (.ret .none)) s') ->
   codeAny #[31] A (.builtin "set.update.loop" ⟨[.ref S,.ref I],[]⟩) R s:=by
 have nw:S∉wr:=fun z=>hSf (W.sub _ z)
 have up:∀ b∈wr,b∈S :: wr:=fun b z=>jK _ z
 have nv:∀ i,i<n->(val i).1∉wr:=fun i h z=>aeh i h (up _ z)
 have mv:∀ (i:Nat) (s s':qV),i<=n->Moved wr G s s'->AY P w s.heap S ((jO i).map val)->AY P w s'.heap S ((jO i).map val):=fun i s s' hi hm hS=>hS.keep (fun o q=>hm.heap S o nw q) fun p hp o q=>by
  obtain⟨j,hj,rfl⟩:=jN.mp hp
  exact hm.heap _ o (nv j (by have:=jq.mp hj;omega)) q
 intro k
 induction k with
 | zero =>
  intro i s hk hi tR hT hS hR
  obtain rfl:i=n:=by omega
  refine qv yp ?_
  rw[Around.under_plainId yU _]
  refine Wj (m:=pyNext (.ref I)) (W.done s _ _ tR fun s' hm=>?_)
  exact YX (hR s' (hm.mono up) (mv _ s s' (jF _) hm hS))
 | succ k ih =>
  intro i s hk hi tR hT hS hR
  have cT:i<n:=by omega
  refine qv yp ?_
  rw[Around.under_plainId yU _]
  refine Wj (m:=pyNext (.ref I)) (W.item i s _ _ cT tR fun v s' hP Hy hm=>?_)
  obtain rfl:=si i v hP
  have hT':∀ j,j<n->TK P w s'.heap (val j).2 (val j).1:=fun j hj=>TK.keep (hT j hj) fun o q=>hm.heap _ o (nv j hj) q
  have Et:=mv i s s' hi hm hS
  refine Wj (m:=holding [Yw (val i).1] (setAdd S (.ref (val i).1))) (YC ?_)
  unfold setAdd
  refine YC (Wj (wpAny_pyHash_tuple (knd:=Xh P w) (show A.units+1<cLine by omega) (hT' i cT) ?_))
  refine OD (s:={ s' with toks:=s'.toks+((val i).2.length+1) }) (ns:=(val i).2) (show A.units+1<cLine by omega) Et (hT' i cT) (fun z=>aeh i cT (by rw[z];exact jE)) (fun p hp=>?_) (by simp;omega) fun h' b sb S2=>?_
  ·obtain⟨j,hj,rfl⟩:=jN.mp hp
   exact dis j i (jq.mp hj) cT
  have S2':AY P w h' S ((jO (i+1)).map val):=by
   rw[JK,jD]
   exact S2
  refine YX ⟨WO yU _,ih (i+1) _ #[0] cT (W.frame _ s' _ _ Hy (QW _ _) fun b hb o e=>?_) (fun j hj=>TK.keep (hT' j hj) fun o q=>?_) S2' fun s2 m2 S3=>?_⟩
  ·rw[sb.2 b (fun z:b=S=>hSf (z ▸ hb))];exact e
  ·show h'.get? _=some o
   rw[sb.2 _ (fun z=>aeh j hj (by rw[z];exact jE))];exact q
  ·refine hR s2 (Moved.trans W.gtrans ((hm.mono up).then_heap (QW _ _) fun b o hb e=>?_) m2) S3
   rw[sb.2 b (fun z:b=S=>hb (by rw[z];exact jE))];exact e
end
section
theorem aij(h:Heap)(hg:h.get? a=some (bK w)):AY P w h a []:=
 ⟨_,#[],0,_,hg,⟨rfl,rfl,rfl⟩,rfl,⟨rfl,rfl,.inl ⟨rfl,by decide⟩⟩,rfl,(fun e he=>by cases he)⟩
set_option maxHeartbeats 3200000 in
theorem MA{val:Nat->Qu×List Int}(hu:A.units+9<cLine)(hh:A.handled=none)(hl:s.heap.IsList l items)(hv:∀ (i:Nat) (v:Value),items[i]?=some v->v=Yw (val i).1)(hT:∀ i,i<items.size->TK P w s.heap (val i).2 (val i).1)(R3:∀ i,i<items.size->(val i).1≠l)(dis:∀ i j,i<j->j<items.size->(val i).2≠(val j).2)(hb:items.size<=306)(h:∀ (h':Heap) (tk:Nat),AY P w h' s.heap.objs.size ((jO items.size).map val)->#[47]->Q #[13] { s with heap:=h',toks:=tk }):
  wpAny #[31] A (call (.type "set") [.ref l]) Q E s:=by
 obtain⟨c,tl,alk⟩:=F.called_set.mro
 have ahK:=F.called_set.made
 have aey:=F.called_set.sub
 refine Wk (WB ?_)
 show wpAny _ _ (callAny (.type "set") _) _ _ _
 refine YX ⟨Code.quiet_builtin _ #[3],qv xp ?_⟩
 rw[Around.under_plain (Wc "set" [.ref l] []) rfl]
 have h1:=F.called_set.notType
 have h2:=F.called_set.canCreate
 have hct:=xx (.ref l)
 exists 17
 refine WA (EW (.ref l) (E:=E) (Q₁:=fun obj s₁=>obj=.ref s.heap.objs.size/\s₁={ s with heap:=s.heap.push (bK w) }) ⟨rfl,rfl⟩) fun r s₁ hr=>?_
 cases r with
 | error e=>exact hr
 | ok fl =>
  cases fl with
  | ret obj =>
   obtain⟨rfl,rfl⟩:=hr
   have hS:(s.heap.push (bK w)).get? s.heap.objs.size=some (bK w):=jH _ rfl
   have hTy:Shared.TypeIs { s with heap:=s.heap.push (bK w) } #[13] "set" := ⟨_,hS,rfl⟩
   have hli:=F.called_set.init.lookup
   have hbi:=F.called_set.init.bind #[13]
   exists 17
   refine WA (qw (R:=wants (fun r s₂=>r=.none/\∃ h' tk,s₂={ s with heap:=h',toks:=tk }/\AY P w h' s.heap.objs.size ((jO items.size).map val) /\
     #[47]) E) F.called_set.init.plain xy (qu hTy ?_)) fun r₂ s₂ sh=>?_
   ·obtain⟨ol,hol,Px,nl,U1⟩:=hl
    obtain⟨amu,Y8,aio,Oj⟩:=ol
    simp only at Px U1
    subst Px;subst U1
    have aev:(s.heap.push (bK w)).get? l=some { cls:=.type "list",dict:=Y8,data:=.seq items nl,slots:=Oj }:=jA _ hol
    have alE:=GL
    have alD:=xK
    have MU:(s.heap.push (bK w)).IsList l items:=⟨_,aev,rfl,nl,rfl⟩
    have aqf:(yK "list" == yK "dict")=false:=by decide
    have hS0:(s.heap.push (bK w)).get? s.heap.objs.size=some { cls:=.type "set",dict:=none,data:=.set #[] 0 (.fresh 0 0 (!Ip w)) }:=hS
    unfold Builtin.«set.__init__» noKeywords Xa
    generalize hPI:pyIter=PI
    wp_walk
    subst hPI
    refine YZ MU (Wj (Yh ?_))
    have hlS:l<s.heap.objs.size:=jI hol
    have hh3:A.in1.in1.in1.handled=none:=by simp[hh]
    have neI:l≠(s.heap.push (bK w)).objs.size:=by rw[jx];exact jM (Jg hlS)
    have nS:s.heap.objs.size∉[(s.heap.push (bK w)).objs.size,l]:=by
     rw[jx]
     simp only[jS,jJ,JP,or_false,not_or]
     exact⟨jM (JL _),JX hlS⟩
    have lt:∀ i,i<items.size->(val i).1<s.heap.objs.size:=fun i hi=>by
     obtain⟨o,_,_,ho,_⟩:=hT i hi
     exact jI ho
    refine EH ((Walks.list hh3 _ l neI items).toS) s.heap.objs.size (by show A.units+1+1+2<cLine;omega) nS val (fun i v hv'=>hv i v hv') (fun i hi z=>?_) hb dis (items.size-0) 0 _ #[0] (je _)
     ⟨⟨_,jH _ rfl,rfl,rfl⟩,(MU.push _)⟩ (fun j hj=>TK.keep (hT j hj) fun o q=>jA _ (jA _ q)) ?_ ?_
    ·have:=lt i hi
     rw[jx]at z
     simp only[jS,jJ,JP,or_false]at z
     rcases z with z|z
     ·rw[z]at this;exact Ji _ this
     ·rw[z]at this;exact Nat.not_lt.mpr (JF _) this
    ·exact aij (w:=w) _ (jA _ hS)
    ·rintro⟨h',g',d',tk',os'⟩ hm Et
     have eg:g'=s.gens:=hm.gens
     have ed:d'=s.drawn:=hm.drawn
     have eo:os'=s.os:=hm.os
     subst eg ed eo
     refine YX ?_
     show wpAny _ _ (ret yC) _ _ _
     refine YX ⟨rfl,h',tk',rfl,Et,fun b o hb e=>?_⟩
     refine hm.heap b o ?_ (jA _ (jA _ e))
     rw[jx]
     simp only[jS,jJ,JP,or_false,not_or]
     exact⟨jM hb,jM (Jg hb)⟩
   ·cases r₂ with
    | error e=>exact sh
    | ok TN =>
     cases TN with
     | ret r =>
      obtain⟨rfl,h',tk,rfl,Et,U8⟩:=sh
      exists 17
      exact h _ _ Et U8
     | next=>exact sh
     | brk=>exact sh
     | cont=>exact sh
  | next=>exact hr
  | brk=>exact hr
  | cont=>exact hr
end
def Tf(h:Heap)(a:Qu)(n:Nat):Prop := ∃ o es ep t,h.get? a=some o/\o.ExactSet/\o.data=.set es ep t/\es.size=n/\t.fits es.size=true
abbrev CP(S:Qu)(n:Nat):HO:=.ext fun h=>Tf h S n
section
theorem K8:∀ {ns:List Int} {vs:List Value},Vals #[14] vs->ItemsAre (Xh P w) ns vs
 | [],_,r=>by rw[Zb]at r;cases r;exact .nil
 | n :: ns,_,r=>by
  rw[JJ]at r
  cases r with
  | cons h t=>exact .cons (by obtain⟨u,rfl⟩:=h;exact WH P w n u) (K8 t)
theorem ai0(ok:ik X.prog X.w H h)(e:H a=some (.tup #[14])):TK X.prog X.w h ns a:=by
 obtain⟨_,aV,r,o,h1,h2,n,h3⟩:=(show bA X.prog X.w H h a (.tup #[14])from ok a _ e)
 exact⟨o,aV.toArray,n,h1,h2,h3,by simpa using K8 r⟩
theorem Lz{α β:Type}{p:α->β->Prop}:∀ {as:List α} {bs:List β},qP p as bs->∀ (i:Nat) (a:α),as[i]?=some a->∃ b,bs[i]?=some b/\p a b
 | _,_,.nil,i,a,h=>by simp at h
 | _,_,.cons h t,0,a,e=>⟨_,rfl,by cases e;exact h⟩
 | _,_,.cons h t,i+1,a,e=>Lz t i a (by simpa using e)
theorem IU(hc:X.calm=true)(hu:X.A.units+9<cLine):ie X (.type "set") (fun xs H Q=>∃ (l:Qu) (as:List Qu) (pr:List (List Int)),xs=[.ref l]/\H l=some (.lst (as.map V.ref))/\Hg H as pr/\pr.Nodup/\as.length<=306/\∀ S,H S=none->Q (.ref S) (upd H S (CP S as.length))):=by
 exists 15
 obtain⟨a,as,pr,rfl,ha,tp,nd,hz,q⟩:=h
 exists 22
 cases rx
 obtain⟨_,aV,n,rv,hl,e⟩:=I.Cf ha
 have ei:aV=as.map Yw:=tK rv
 subst ei
 have sz:(as.map Yw).toArray.size=as.length:=by simp
 have lp:as.length=pr.length:=tp.length
 have g1:∀ i,i<as.length->∃ x ns,as[i]?=some x/\pr[i]?=some ns/\H x=some (.tup #[14]):=fun i hi=>by
  obtain⟨ns,e1,e2⟩:=Lz tp i as[i] (jC hi)
  exact⟨as[i],ns,jC hi,e1,e2⟩
 refine MA (val:=fun i=>(as.getD i 0,pr.getD i [])) hu (I.ok.hd hc) ⟨_,e,rfl,n,rfl⟩ (fun i v hv=>?_) (fun i hi=>?_) (fun i hi z=>?_) (fun i j l1 l2 z=>?_) (by rw[sz];exact hz) fun h' tk hS keep=>?_
 ·simp only[Zr,jV]at hv
  cases ea:as[i]? with
  | none=>rw[ea]at hv;cases hv
  | some x =>
   rw[ea]at hv
   cases hv
   simp[ZO,ea]
 ·rw[sz]at hi
  obtain⟨x,ns,e1,e2,e3⟩:=g1 i hi
  simp only[ZO,e1,e2,Jy]
  exact ai0 I.hok e3
 ·rw[sz]at hi
  obtain⟨x,ns,e1,e2,e3⟩:=g1 i hi
  simp only[ZO,e1,Jy]at z
  rw[z,ha]at e3
  cases e3
 ·rw[sz]at l2
  obtain⟨x,ns,e1,e2,e3⟩:=g1 j l2
  obtain⟨y,ms,f1,f2,f3⟩:=g1 i #[0]
  simp only[ZO,e2,f2,Jy]at z
  subst z
  have:=(List.getElem?_inj (i:=i) (j:=j) #[0] nd).mp (f2.trans e2.symm)
  omega
 have k2:∀ b o,s.heap.get? b=some o->h'.get? b=some o:=fun b o z=>keep b o (jI z) z
 obtain⟨o,es,ep,t,ho,hex,hd,T,Fg,hZ⟩:=hS
 have hN:Tf h' s.heap.objs.size as.length:=⟨o,es,ep,t,ho,hex,hd,by rw[Fg,jZ,jT,sz],T.fits⟩
 exact⟨.ref s.heap.objs.size,_,I.laid (o:=CP s.heap.objs.size as.length) (t' := tk) k2 (jF _) (show Tf h' s.heap.objs.size as.length/\(∃ o,h'.get? s.heap.objs.size=some o)/\∀ h1 h2:Heap,Tf h1 s.heap.objs.size as.length->(∀ o,h1.get? s.heap.objs.size=some o->h2.get? s.heap.objs.size=some o)->Tf h2 s.heap.objs.size as.length from⟨hN,⟨o,ho⟩,fun h1 h2 ⟨o,es,ep,t,x1,x2,x3,x4,x5⟩ kp=>⟨o,es,ep,t,kp o x1,x2,x3,x4,x5⟩⟩),rfl,q _ #[56]⟩
theorem Mx:ie X (.builtin "len") (fun xs H Q=>∃ (S:Qu) (n:Nat),xs=[.ref S]/\H S=some (CP S n)/\n<4000/\Q (.int n) H):=by
 exists 15
 obtain⟨S,n,rfl,hS,hz,q⟩:=h
 exists 22
 cases rx
 obtain⟨⟨o,es,ep,t,h1,h2,h3,h4,h5⟩,_⟩:=(show bA X.prog X.w H s.heap S (CP S n)from I.hok S _ hS)
 exact call_len_set h1 h2 h3 h5 (by rw[h4];omega) ⟨.int n,H,I.tok _,⟨s.toks+1,by rw[h4]⟩,q⟩
end
end L2
set_option maxHeartbeats 8000000
namespace My
open PySem L2
variable{α β:Type}{i m n many wide r j:Nat}{K:Yv}{H H' H0:Hp}{a x b lo hi y h q:Int}{N loose:List qW}{P:qR}{sc:Scope}{ix:List (Option Nat)}{X:Cx}{e:Expr}{te:TE}{pos:Pos}{D p ra f B L C go ms wt iw F0 f0 CT T fa de dZ bQ dI BG BH Iw EK O2 Iy Iz EL tP:Qu}{σ:St}{o:Obj}{ys:List V}{cS ts ds as:List Qu}{w:World}{mg:qW→Option Value}{base:Heap}{fd:qG}{dV doc cA tc:Value}{kvs:List (Key×V)}{sg grp RV c φ:Int→Int}{d:V}{es:List Expr}{name:qW}{st:Stmt}{od an td:Option Qu}{FF tsl:Array (Option Value)}{sp:Sp}
abbrev LL:=List (List Int)
abbrev LI:=List Int
abbrev OV:=Option V
theorem fV{l:List α}{a:α}(h:l[i]?=some a):∃ h:i<l.length,l[i]=a:=jb.mp h
theorem oY{l:List α}{a:α}(h:l[i]?=some a):a∈l:=zP h
theorem tT{a:α}{s t:List α}:a∈s++t↔a∈s\/a∈t:=zB
theorem bb{f:α->β}{l:List α}:(l.map f).length=l.length:=jZ f
theorem cj{a:Qu}{xs:List V}(h:H a=some #[42]):mT K H a xs:=mT.of h
theorem bZ{a:Qu}{xs:List V}(h:H a=some (.lst xs)):lh K H a xs:=lh.of h
def top(i:Nat):Stmt:=PySem.Challenge.pw_figuretell_k31_turned.main.body.getD i (.Pass ⟨0,0,0,0⟩)
abbrev wJ:Stmt:=top 12
abbrev lI:Stmt:=top 13
abbrev pU:Stmt:=top 14
abbrev Bu:Stmt:=top 15
abbrev DV:Stmt:=top 16
abbrev Oz:Stmt:=top 18
abbrev OA:Stmt:=top 19
abbrev sU:Stmt:=top 20
abbrev lJ:Stmt:=top 21
abbrev AH:Stmt:=top 23
abbrev dD:Stmt:=top 24
abbrev ma:Stmt:=top 25
abbrev cQ:Stmt:=top 26
abbrev Bt:Stmt:=top 27
abbrev CF:Stmt:=top 31
abbrev DW:Stmt:=top 34
abbrev sP:Stmt:=top 36
abbrev pT:Stmt:=top 37
abbrev lZ:Stmt:=top 38
abbrev hJ:Stmt:=top 39
abbrev sQ:Stmt:=top 40
abbrev oG:Stmt:=top 41
abbrev fZ:Stmt:=top 42
abbrev lH:Stmt:=top 43
abbrev oH:Stmt:=top 44
abbrev iV:Stmt:=top 45
abbrev lY:Stmt:=top 46
abbrev dC:Stmt:=top 47
abbrev mJ:Stmt:=top 48
abbrev oo:Stmt:=top 49
abbrev aaM:Stmt:=top 50
abbrev eJ:Stmt:=inClass (top 6) 0
abbrev cD:Stmt:=inClass (top 28) 0
abbrev iC:Stmt:=inClass (top 28) 1
abbrev dA:Stmt:=inClass (top 28) 2
abbrev iE:Stmt:=inClass (top 28) 3
abbrev dB:Stmt:=inClass (top 28) 4
abbrev fX:Stmt:=inClass (top 28) 5
abbrev fj:Stmt:=inClass (top 33) 0
abbrev lG:Stmt:=inClass (top 33) 1
abbrev fY:Stmt:=inClass (top 33) 2
abbrev mH:Stmt:=inClass (top 33) 3
theorem cW{P:List qW}(h:(sc.kind=.function/\sc.isCoroutine=false/\sc.isGenerator=false)/\N.Nodup/\N.take P.length=P/\(∀ x∈P,sc.names.lookup x=some .local\/sc.names.lookup x=some .cell)/\∀ y∈sc.names,y.2≠.free):aH N P sc:=⟨h.1.1,h.1.2.1,h.1.2.2,h.2.1,h.2.2.1,h.2.2.2.1,h.2.2.2.2⟩
theorem mC{NX:List qW}{scX:Scope}(h:sc.kind=.function/\N.Nodup/\(∀ y∈sc.names,y.2≠.cell)/\(∀ y∈sc.names,y.2=.local->sc.names.lookup y.1=some .local)/\(∀ y∈sc.names,y.2=.free->scX.names.lookup y.1=some .cell\/scX.names.lookup y.1=some .free)/\ix.length=N.length/\∀ p∈N.zip ix,∀ i∈p.2,NX[i]?=some p.1/\sc.names.lookup p.1=some .free):aZ NX scX N ix sc:=⟨h.1,h.2.1,h.2.2.1,h.2.2.2.1,h.2.2.2.2.1,h.2.2.2.2.2.1,fun p m i e=>h.2.2.2.2.2.2 p m i e⟩
theorem aC{x:qW}{pos':Pos}(hN:X.N.Nodup)(he:PE X e te)(hi:X.N[i]?=some x:=by rfl)(hx:Loc X.env.scope x:=by first|exact .inl rfl|exact .inr rfl)(hs:WW e (some (.Name x pos')) pos.line X.env=pure false:=by rfl)(hf:X.fn x=true\/X.env.scope.names.lookup x=some .local:=by first|exact .inl rfl|exact .inr rfl|assumption):PS X (.Assign [.Name x pos'] e pos) (wM te (bB i)):=afk hN hi hx he hs hf
theorem aS{x:qW}(hN:X.N.Nodup)(hi:X.N[i]?=some x:=by rfl)(hx:Loc X.env.scope x:=by first|exact .inl rfl|exact .inr rfl)(hf:X.fn x=true\/X.env.scope.names.lookup x=some .local:=by first|exact .inl rfl|exact .inr rfl|assumption):PG X (.Name x pos) (bB i):=acs hN hi hx hf
theorem rK{c A B:Prop}[Decidable c](h1:c->A)(h2:¬ c->B):if decide c=true then A else B:=abX (fun h=>h1 (of_decide_eq_true h)) fun h=>h2 fun z=>h (decide_eq_true z)
theorem Ar{c A B:Prop}[Decidable c](h1:¬ c->A)(h2:c->B):if (!decide c)=true then A else B:=abX (fun h=>h1 fun z=>by rw[decide_eq_true z]at h;cases h) fun h=>h2 (Decidable.byContradiction fun z=>h (by rw[decide_eq_false z];rfl))
theorem sj{A B:Prop}(h1:a=b->A)(h2:a≠b->B):if decide (V.int a=V.int b)=true then A else B:=rK (fun h=>h1 (V.int.inj h)) fun h=>h2 fun z=>h (congrArg V.int z)
theorem Y3{m n:Int}(a0:0<=a)(a1:a<=m)(b0:0<=b)(b1:b<=n):0<=a*b/\a*b<=m*n:=⟨Zs a0 b0,zM a1 b1 b0 (ZF a0 a1)⟩
theorem dY(h:0<b):0<=a%b/\a%b<b:=⟨zD a #[0],Ju a h⟩
theorem eB{t u:TS}{D:Ends}(R:St->Hp->Prop)(h2:∀ σ' H',R σ' H'->u D σ' H')(h1:(∀ σ' H',R σ' H'->u D σ' H')->OM t u D σ H):OM t u D σ H:=h1 h2
theorem eO{t u:TS}{D:Ends}(R:St->Hp->Prop)(h1:∀ σ' H',R σ' H'->u D σ' H')(h2:∀ D':Ends,(∀ σ' H',R σ' H'->D'.nx σ' H')->t D' σ H):OM t u D σ H:=h2 { D with nx:=u D } h1
theorem ax{o:HO}(h:aB H H')(hp:H p=none):aB H (upd H' p o):=fun b u e=>by rw[aj (ar e hp)];exact h b u e
def dM(lo hi:Int)(ys:List V):Prop := ∀ y∈ys,∃ v:Int,y=.int v/\lo<=v/\v<hi
theorem dM.nil:dM lo hi []:=fun y h=>by cases h
theorem dM.snoc{v:Int}(h:dM lo hi ys)(h0:lo<=v)(h1:v<hi):dM lo hi (ys++[.int v]):=fun y hy=>by
 rcases tT.mp hy with z|z
 ·exact h y z
 ·rw[jJ.mp z];exact⟨v,rfl,h0,h1⟩
theorem dM.ints:∀ {ys:List V},dM lo hi ys->∃ ns:LI,ys=ns.map V.int/\∀ z∈ns,lo<=z/\z<hi
 | [],_=>⟨[],rfl,fun z h=>by cases h⟩
 | y :: r,h=>by
  obtain⟨v,e,h0,h1⟩:=h y jE
  obtain⟨ns,e2,h2⟩:=dM.ints (ys:=r) fun z hz=>h z (jK _ hz)
  refine⟨v :: ns,by rw[e,e2];rfl,fun z hz=>?_⟩
  rcases jS.mp hz with q|q
  ·rw[q];exact⟨h0,h1⟩
  ·exact h2 z q
theorem mD(h:0<=x):∃ n:Nat,x=(n:Int):=⟨x.toNat,by omega⟩
theorem getD_at{xs:List α}{d:α}(h:i<xs.length):xs.getD i d=xs[i]:=by simp[h]
theorem cu{ns:LI}{k:Int}(h0:0<=k)(h:k<(ns.length:Int)):tW #[14] k=some (.int (ns.getD k.toNat 0)):=by
 have hk:k.toNat<ns.length:=by omega
 have ek:k=((k.toNat:Nat):Int):=by omega
 have q:tW #[14] ((k.toNat:Nat):Int)=some (.int ns[k.toNat]):=Ag (by rw[jV,jC hk]<;>rfl)
 rw[<- ek]at q
 rw[q,getD_at hk]
theorem iJ{k:Int}(h0:0<=k)(h:cS[k.toNat]?=some ra):tW #[50] k=some (.ref ra):=by
 have ek:k=((k.toNat:Nat):Int):=by omega
 have q:tW #[50] ((k.toNat:Nat):Int)=some (.ref ra):=Ag (by rw[jV,h]<;>rfl)
 rw[<- ek]at q
 exact q
theorem bw{ns:LI}{y:V}(h:#[14][i]?=some y):∃ z,y=V.int z/\ns[i]?=some z:=by
 rw[jV]at h
 cases e:ns[i]? with
 | none=>rw[e]at h;cases h
 | some z=>rw[e]at h;exact⟨z,(Option.some.inj h).symm,rfl⟩
theorem lC(K:Yv):yE K (.type "tuple") (.type "tuple")=some true:=by with_unfolding_all rfl
theorem oQ(ns:LI):#[14].all fU=true:=by
 rw[Qi]
 exact zQ.mpr fun _ _=>rfl
def stepI(rows:LL)(h f:Int):Int:=(rows.getD h.toNat []).getD f.toNat 0
def aM(rows:LL)(row:LI)(h:Int):Int:=row.foldl (stepI rows) h
structure aF(many wide:Nat)(rows:LL):Prop where
 len:rows.length=many
 row:∀ r∈rows,r.length=wide
 val:∀ r∈rows,∀ v∈r,0<=v/\v<(many:Int)
theorem dk{rows:LL}{f:Int}(R:aF many wide rows)(h0:0<=h)(h1:h<many)(f0:0<=f)(f1:f<wide):0<=stepI rows h f/\stepI rows h f<many:=by
 have l1:h.toNat<rows.length:=by rw[R.len];omega
 have l2:f.toNat<rows[h.toNat].length:=by rw[R.row _ (jG l1)];omega
 unfold stepI
 rw[getD_at l1,getD_at l2]
 exact R.val _ (jG l1) _ (jG l2)
theorem dH{rows:LL}(R:aF many wide rows):∀ {ns:LI} {h:Int},(∀ f∈ns,0<=f/\f<(wide:Int))->0<=h->h<many->0<=aM rows ns h/\aM rows ns h<many
 | [],h,_,h0,h1=>⟨h0,h1⟩
 | f :: r,h,hf,h0,h1=>by
  obtain⟨a,b⟩:=dk R h0 h1 (hf f jE).1 (hf f jE).2
  exact dH (ns:=r) R (fun g hg=>hf g (jK _ hg)) a b
theorem bN(rows:LL)(xs ys:LI)(h:Int):aM rows (xs++ys) h=aM rows ys (aM rows xs h):=by
 unfold aM
 rw[JQ]
theorem wO{rows:LL}{ns:LI}{z:Int}(e:ns[i]?=some z):aM rows (ns.take (i+1)) h=stepI rows (aM rows (ns.take i) h) z:=by
 rw[jW,e,bN]
 rfl
def aJ(H:Hp):List Qu->LL->Prop:=qP fun a r=>H a=some (.tup (r.map V.int))
theorem aJ.length{rows:LL}(h:aJ H cS rows):cS.length=rows.length:=Paired.length h
theorem aJ.get:∀ {H:Hp} {cS:List Qu} {rows:LL} {i:Nat},aJ H cS rows->(h:i<rows.length)->∃ ra,cS[i]?=some ra/\H ra=some (.tup (rows[i].map V.int))
 | _,_,_,_,.nil,h=>by simp at h
 | _,_,_,0,.cons (a:=a) r _,_=>⟨a,rfl,r⟩
 | _,_,_,i+1,.cons _ t,h=>by
  obtain⟨ra,h1,h2⟩:=aJ.get (i:=i) t (by simpa using h)
  exact⟨ra,by simpa using h1,by simpa using h2⟩
theorem aJ.same{rows:LL}(h:aJ H cS rows)(s:∀ b xs,H b=some #[42]->H' b=some #[42]):aJ H' cS rows:=Paired.Ez h fun _ _ q=>s _ _ q
theorem aJ.snoc:∀ {H:Hp} {cS:List Qu} {rows:LL} {a:Qu} {r:LI},aJ H cS rows->H a=some (.tup (r.map V.int))->aJ H (cS++[a]) (rows++[r])
 | _,_,_,_,_,.nil,h=>.cons h .nil
 | _,_,_,_,_,.cons q t,h=>.cons q (aJ.snoc t h)
structure bI(H:Hp)(m r g:Qu)(wide:Nat)(rows:LL)(signs:LI):Prop where
 tup:H m=some (.tup [.int wide,.ref r,.ref g])
 rows:∃ cS,H r=some (.tup #[50])/\aJ H cS rows
 sgn:H g=some (.tup (signs.map V.int))
theorem bI.same{m r g:Qu}{rows:LL}{signs:LI}(M:bI H m r g wide rows signs)(s:∀ b xs,H b=some #[42]->H' b=some #[42]):bI H' m r g wide rows signs:=by
 obtain⟨h1,⟨cS,h2,h3⟩,h4⟩:=M
 exact⟨s _ _ h1,⟨cS,s _ _ h2,h3.same s⟩,s _ _ h4⟩
theorem sN{rows:LL}{f:Int}(A:aJ H cS rows)(R:aF many wide rows)(h0:0<=h)(h1:h<many)(f0:0<=f)(f1:f<wide):
  ∃ (ra:Qu) (r:LI),tW #[50] h=some (.ref ra)/\H ra=some (.tup (r.map V.int))/\tW (r.map V.int) f=some (.int (stepI rows h f)):=by
 have l1:h.toNat<rows.length:=by rw[R.len];omega
 have l2:rows[h.toNat].length=wide:=R.row _ (jG l1)
 obtain⟨ra,e1,e2⟩:=A.get l1
 exists ra,rows[h.toNat],iJ h0 e1,e2
 rw[cu f0 (by rw[l2];exact f1)]
 unfold stepI
 rw[getD_at l1]
variable{xs u v ns signs ks gs ls col ins ws mem s dn az qs s1 s2 cs pW afx eK:LI}{rows cols au r1 r2 rs EX ps wb aiB lP:LL}
def cc(rows:LL)(ρ:Int->Int)(qs:LI):LL:=qs.map fun q=>(rows.getD q.toNat []).map ρ
def cn(signs qs:LI):LI:=qs.map fun q=>signs.getD q.toNat 0
def agH(H:Hp)(D:Qu)(many:Nat)(rows:LL)(qs:LI)(ρ:Int->Int):Prop := ∃ kvs,H D=some (.dK kvs)/\∀ q∈qs,∀ t∈rows.getD q.toNat [],eC kvs (Sum.inl t)=some (.int (ρ t))
def agI(H:Hp)(D:Qu)(many:Nat)(rows:LL)(qs:LI)(ρ:Int->Int):Prop := ∃ ns:LI,H D=some (.lst #[14])/\∀ q∈qs,∀ t∈rows.getD q.toNat [],(0<=t/\t<(ns.length:Int))/\ρ t=ns.getD t.toNat 0
def CG(K:Yv)(Num:Hp->Qu->Nat->LL->LI->(Int->Int)->Prop):Sp:=fun vs H Q _=>∃ (m kl D r g:Qu) (many wide:Nat) (rows:LL) (signs qs:LI) (ρ:Int->Int),vs=[.ref m,.ref kl,.ref D]/\bI H m r g wide rows signs/\aF many wide rows/\signs.length=many/\(many<=1000/\wide<=1000) /\
 H kl=some (.lst (qs.map V.int))/\qs.length<=1000/\(∀ q∈qs,0<=q/\q<(many:Int))/\Num H D many rows qs ρ /\
 ∀ (m' r' g':Qu) (H':Hp),aB H H'->bI H' m' r' g' wide (cc rows ρ qs) (cn signs qs)->Q (.ref m') H'
theorem aJ.kept(A:aJ H cS rows)(R:aF many wide rows)(h0:0<=q)(h1:q<(many:Int)):∃ ra,tW #[50] q=some (.ref ra)/\H ra=some (.tup ((rows.getD q.toNat []).map V.int))/\(rows.getD q.toNat []).length=wide:=by
 have l:q.toNat<rows.length:=by rw[R.len];omega
 obtain⟨ra,e1,e2⟩:=A.get l
 refine⟨ra,?_,by rw[getD_at l];exact e2,by rw[getD_at l];exact R.row _ (jG l)⟩
 have q':tW #[50] ((q.toNat:Nat):Int)=some (.ref ra):=Ag (by rw[jV,e1];rfl)
 rw[jm h0]at q'
 exact q'
section
theorem cb:aH ["machine","kept","numbers","rows","signs","kept_rows","here"] ["machine","kept","numbers"] (av dD):=cW #[3]
theorem eV:aZ ["machine","kept","numbers","rows","signs","kept_rows","here"] (av dD) ["there","numbers"] [none,some 2] ⟨.function,[#[60],("there",.local),("numbers",.free)],false,false,[]⟩:=mC #[3]
theorem eW:aZ ["machine","kept","numbers","rows","signs","kept_rows","here"] (av dD) ["here","signs"] [none,some 4] ⟨.function,[#[60],("here",.local),("signs",.free)],false,false,[]⟩:=mC #[3]
theorem Sv(F:bG K "with_rooms" "with_rooms" dD dV f fd)(aK:mg "tuple" = none):bu P w K mg base eM 1 f fd ["machine","kept","numbers"] (CG K agH):=by
 refine F.ok cb #[7] #[2]
 ·obtain⟨m,kl,D,r,g,many,wide,rows,signs,qs,ρ,rfl,_⟩:=h
  rfl
 obtain⟨m,kl,D,r,g,many,wide,rows,signs,qs,ρ,rfl,M,R,lsg,⟨n1,w1⟩,hkl,lq,K4,⟨kvs,hD,hv⟩,k⟩:=h
 obtain⟨hm,⟨cS,mP,hA⟩,hg⟩:=M
 have hu:=oW hr
 refine⟨_,(ah (aC (i:=3) cb.nd #[17])
   (ah (aC (i:=4) cb.nd #[17])
   (ah (aC (i:=5) cb.nd (cf af))
   (ah (bX PassesOwn.never rfl (cC (pv 1)) (aS (i:=6) cb.nd) (ao (bD (fA Yy Yz yA bE (pv 5) (aa (aW aP #[41] aK bH (aa (cM rfl eV (lF (aN aO (pv 3) (pv 6) #[5])) (fun _ _ _ _=>(aS (i:=0) eV.nd)) (fun _ _ _ _=>(Az hu (pv 1) (pv 0) #[5]))) af)) af)))))
   #[48])))),?_⟩
 exists _,rfl,m,_,_,_,rfl,rfl,cj hm,rfl
 exists _,rfl,m,_,_,_,rfl,rfl,cj hm,rfl
 refine⟨#[15],fun L hL=>?_⟩
 have sL:=ak hL (HO.lst [])
 try dsimp only[bB,dG]
 exists 7
 rotate_left
 ·exists _,rfl,kl,rfl,⟨_,bZ (sL _ _ hkl)⟩
  exists 1
  ·rintro i y σ' H3 hi ⟨as,v,rfl,s3,AQ,A3⟩
   obtain⟨z,rfl,hz⟩:=bw hi
   have zm:=oY hz
   have li:=(fV hz).1
   obtain⟨z0,z1⟩:=K4 z zm
   obtain⟨ra,e1,e2,e3⟩:=hA.kept R z0 z1
   have la:as.length=i:=by rw[A3.length];unfold cc;rw[bb,jX];omega
   exists _,rfl,.inl ⟨rfl,_,bZ AQ⟩,_,rfl,_,rfl,r,_,_,_,rfl,rfl,cj (s3 _ _ mP),e1,ra,rfl,⟨_,cj (s3 _ _ e2)⟩
   exists 10
   ·rintro T j y ys H4 Q' hT hj hy ⟨s4,rfl⟩ k'
    obtain⟨t,rfl,ht⟩:=bw hj
    have tm:=oY ht
    have lj:=(fV ht).1
    have s34:=s3.trans s4
    have dg:fH H4 D (.int t) (some (.int (ρ t))):=by
     rw[<- hv z zm t tm]
     exact fH.k (k:=Sum.inl t) (s34 _ _ hD)
    refine⟨_,rfl,_,rfl,D,_,rfl,dg,k' _ _ hy (ay (by rw[bb,bb,jX];omega)) ⟨ax s4 hT,?_⟩⟩
    rw[jW,ht,jD,jD]
    rfl
   ·rintro T ys H4 hT hy ⟨s4,rfl⟩
    rw[bb,jY]at hy
    refine⟨T,_,rfl,.inl ⟨bZ hy,fun t ht=>?_⟩⟩
    have T5:=s4 _ _ AQ
    have nL:L≠t:=ar T5 ht
    refine⟨L,_,_,rfl,rfl,by rw[aj nL];exact T5,ay #[36],?_⟩
    have sT:∀ b xs,H3 b=some #[42]->(upd (upd H4 t (.tup (((rows.getD z.toNat []).map ρ).map V.int))) L (.lst (as.map V.ref++[V.ref t]))) b=some #[42]:=fun b xs e=>by
     have e4:=s4 _ _ e
     rw[aj (aG e4 T5 #[1]),aj (ar e4 ht)]
     exact e4
    refine⟨as++[t],_,rfl,ax (ax (s3.trans s4) ((s3.trans s4).free ht)) hL,by rw[ae,jD];rfl,?_⟩
    have ek:cc rows ρ (qs.take (i+1))=cc rows ρ (qs.take i)++[(rows.getD z.toNat []).map ρ]:=by
     unfold cc
     rw[jW,hz,jD]
     rfl
    rw[ek]
    exact aJ.snoc (A3.same sT) (by rw[aj (Ne.symm nL),ae])
  ·rintro σ' H3 ⟨as,v,rfl,s3,AQ,A3⟩
   rw[bb,jY]at A3
   exact dU _ _ ⟨as,v,rfl,s3,AQ,A3⟩
 rintro σ' H1 ⟨as,v,rfl,s1,hL1,A1⟩
 refine⟨_,rfl,m,_,_,_,rfl,rfl,cj (s1 _ _ hm),rfl,_,rfl,L,_,rfl,.inl ⟨bZ hL1,fun rt hrt=>?_⟩⟩
 have s2:=ak hrt (HO.tup (as.map V.ref))
 have Ta:=s1.trans s2
 exists _,rfl,kl,rfl,⟨_,bZ (Ta _ _ hkl)⟩
 exists 11
 ·rintro T j y ys H4 Q' hT hj hy ⟨s4,rfl⟩ k'
  obtain⟨z,rfl,hz⟩:=bw hj
  have li:=(fV hz).1
  obtain⟨z0,z1⟩:=K4 z (oY hz)
  refine⟨_,rfl,_,rfl,g,_,_,_,rfl,rfl,cj ((Ta.trans s4) _ _ hg),cu z0 #[0],k' _ _ hy (ay (by unfold cn;rw[bb,bb,jX];omega)) ⟨ax s4 hT,?_⟩⟩
  unfold cn
  rw[jW,hz,jD,jD]
  rfl
 rintro G ys H4 hG hy ⟨s4,rfl⟩
 rw[bb,jY]at hy
 refine⟨G,_,rfl,.inl ⟨bZ hy,fun gt hgt=>⟨#[43],fun mm hmm=>?_⟩⟩⟩
 have s5:=ak hgt (HO.tup ((cn signs qs).map V.int))
 have s6:=ak hmm (HO.tup [V.int wide,V.ref rt,V.ref gt])
 have s56:=s5.trans s6
 exact k mm rt gt _ (Ta.trans (s4.trans s56)) ⟨ae,⟨as,(s4.trans s56) _ _ ae,A1.same fun b zs e=>(s2.trans (s4.trans s56)) _ _ e⟩,s6 _ _ ae⟩
theorem Sw(F:bG K "with_rooms" "with_rooms" dD dV f fd)(aK:mg "tuple" = none):bu P w K mg base eM 1 f fd ["machine","kept","numbers"] (CG K agI):=by
 refine F.ok cb #[7] #[2]
 ·obtain⟨m,kl,D,r,g,many,wide,rows,signs,qs,ρ,rfl,_⟩:=h
  rfl
 obtain⟨m,kl,D,r,g,many,wide,rows,signs,qs,ρ,rfl,M,R,lsg,⟨n1,w1⟩,hkl,lq,K4,⟨nl,hD,hv⟩,k⟩:=h
 obtain⟨hm,⟨cS,mP,hA⟩,hg⟩:=M
 have hu:=oW hr
 refine⟨_,(ah (aC (i:=3) cb.nd #[17])
   (ah (aC (i:=4) cb.nd #[17])
   (ah (aC (i:=5) cb.nd (cf af))
   (ah (bX PassesOwn.never rfl (cC (pv 1)) (aS (i:=6) cb.nd) (ao (bD (fA Yy Yz yA bE (pv 5) (aa (aW aP #[41] aK bH (aa (cM rfl eV (lF (aN aO (pv 3) (pv 6) #[5])) (fun _ _ _ _=>(aS (i:=0) eV.nd)) (fun _ _ _ _=>(aN (W5 K) (pv 1) (pv 0) #[5]))) af)) af)))))
   #[48])))),?_⟩
 exists _,rfl,m,_,_,_,rfl,rfl,cj hm,rfl
 exists _,rfl,m,_,_,_,rfl,rfl,cj hm,rfl
 refine⟨#[15],fun L hL=>?_⟩
 have sL:=ak hL (HO.lst [])
 try dsimp only[bB,dG]
 exists 7
 rotate_left
 ·exists _,rfl,kl,rfl,⟨_,bZ (sL _ _ hkl)⟩
  exists 1
  ·rintro i y σ' H3 hi ⟨as,v,rfl,s3,AQ,A3⟩
   obtain⟨z,rfl,hz⟩:=bw hi
   have zm:=oY hz
   have li:=(fV hz).1
   obtain⟨z0,z1⟩:=K4 z zm
   obtain⟨ra,e1,e2,e3⟩:=hA.kept R z0 z1
   have la:as.length=i:=by rw[A3.length];unfold cc;rw[bb,jX];omega
   exists _,rfl,.inl ⟨rfl,_,bZ AQ⟩,_,rfl,_,rfl,r,_,_,_,rfl,rfl,cj (s3 _ _ mP),e1,ra,rfl,⟨_,cj (s3 _ _ e2)⟩
   exists 10
   ·rintro T j y ys H4 Q' hT hj hy ⟨s4,rfl⟩ k'
    obtain⟨t,rfl,ht⟩:=bw hj
    have tm:=oY ht
    have lj:=(fV ht).1
    have s34:=s3.trans s4
    obtain⟨⟨t0,t1⟩,et⟩:=hv z zm t tm
    have at':tW (nl.map V.int) t=some (.int (ρ t)):=by rw[et];exact cu t0 t1
    refine⟨_,rfl,_,rfl,D,_,_,_,rfl,rfl,bZ (s34 _ _ hD),at',k' _ _ hy (ay (by rw[bb,bb,jX];omega)) ⟨ax s4 hT,?_⟩⟩
    rw[jW,ht,jD,jD]
    rfl
   ·rintro T ys H4 hT hy ⟨s4,rfl⟩
    rw[bb,jY]at hy
    refine⟨T,_,rfl,.inl ⟨bZ hy,fun t ht=>?_⟩⟩
    have T5:=s4 _ _ AQ
    have nL:L≠t:=ar T5 ht
    refine⟨L,_,_,rfl,rfl,by rw[aj nL];exact T5,ay #[36],?_⟩
    have sT:∀ b xs,H3 b=some #[42]->(upd (upd H4 t (.tup (((rows.getD z.toNat []).map ρ).map V.int))) L (.lst (as.map V.ref++[V.ref t]))) b=some #[42]:=fun b xs e=>by
     have e4:=s4 _ _ e
     rw[aj (aG e4 T5 #[1]),aj (ar e4 ht)]
     exact e4
    refine⟨as++[t],_,rfl,ax (ax (s3.trans s4) ((s3.trans s4).free ht)) hL,by rw[ae,jD];rfl,?_⟩
    have ek:cc rows ρ (qs.take (i+1))=cc rows ρ (qs.take i)++[(rows.getD z.toNat []).map ρ]:=by
     unfold cc
     rw[jW,hz,jD]
     rfl
    rw[ek]
    exact aJ.snoc (A3.same sT) (by rw[aj (Ne.symm nL),ae])
  ·rintro σ' H3 ⟨as,v,rfl,s3,AQ,A3⟩
   rw[bb,jY]at A3
   exact dU _ _ ⟨as,v,rfl,s3,AQ,A3⟩
 rintro σ' H1 ⟨as,v,rfl,s1,hL1,A1⟩
 refine⟨_,rfl,m,_,_,_,rfl,rfl,cj (s1 _ _ hm),rfl,_,rfl,L,_,rfl,.inl ⟨bZ hL1,fun rt hrt=>?_⟩⟩
 have s2:=ak hrt (HO.tup (as.map V.ref))
 have Ta:=s1.trans s2
 exists _,rfl,kl,rfl,⟨_,bZ (Ta _ _ hkl)⟩
 exists 11
 ·rintro T j y ys H4 Q' hT hj hy ⟨s4,rfl⟩ k'
  obtain⟨z,rfl,hz⟩:=bw hj
  have li:=(fV hz).1
  obtain⟨z0,z1⟩:=K4 z (oY hz)
  refine⟨_,rfl,_,rfl,g,_,_,_,rfl,rfl,cj ((Ta.trans s4) _ _ hg),cu z0 #[0],k' _ _ hy (ay (by unfold cn;rw[bb,bb,jX];omega)) ⟨ax s4 hT,?_⟩⟩
  unfold cn
  rw[jW,hz,jD,jD]
  rfl
 rintro G ys H4 hG hy ⟨s4,rfl⟩
 rw[bb,jY]at hy
 refine⟨G,_,rfl,.inl ⟨bZ hy,fun gt hgt=>⟨#[43],fun mm hmm=>?_⟩⟩⟩
 have s5:=ak hgt (HO.tup ((cn signs qs).map V.int))
 have s6:=ak hmm (HO.tup [V.int wide,V.ref rt,V.ref gt])
 have s56:=s5.trans s6
 exact k mm rt gt _ (Ta.trans (s4.trans s56)) ⟨ae,⟨as,(s4.trans s56) _ _ ae,A1.same fun b zs e=>(s2.trans (s4.trans s56)) _ _ e⟩,s6 _ _ ae⟩
end
theorem Fw(p:α->Bool):∀ l:List α,l.length=(l.filter p).length+(l.filter fun x=>!p x).length
 | []=>rfl
 | x :: l=>by
  have ih:=Fw p l
  cases e:p x
  ·rw[JN (by rw[e];decide),JR (by rw[e];rfl),jc,jc]
   omega
  ·rw[JR e,JN (by rw[e];decide),jc,jc]
   omega
theorem bS:∀ (many:Nat) {ks:LI},ks.Nodup->(∀ q∈ks,0<=q/\q<(many:Int))->ks.length<=many
 | 0,ks,_,h=>by
  cases ks with
  | nil=>exact jF _
  | cons q r=>have:=h q jE;omega
 | many+1,ks,nd,h=>by
  have e:(ks.filter fun q=>decide (q≠(many:Int))).length<=many:=bS many (nd.filter _) fun q hq=>by
   have h1:=h q (JD.mp hq).1
   have h2:q≠(many:Int):=of_decide_eq_true (JD.mp hq).2
   omega
  have c:(ks.filter fun q=>!decide (q≠(many:Int))).length<=1:=by
   have nd2:=nd.filter fun q=>!decide (q≠(many:Int))
   have al:∀ q∈ks.filter (fun q=>!decide (q≠(many:Int))),q=(many:Int):=fun q hq=>by
    have:=(JD.mp hq).2
    simpa using this
   match hm:ks.filter (fun q=>!decide (q≠(many:Int))),nd2,al with
   | [],_,_=>exact je _
   | [x],_,_=>exact jF _
   | x :: y :: r,nd2,al =>
    have h1:=al x jE
    have h2:=al y (jK _ jE)
    rw[h1,h2]at nd2
    exact absurd jE (JE.mp nd2).1
  have t:=Fw (fun q=>decide (q≠(many:Int))) ks
  omega
def dh(ks:LI):List (Key×V):=ks.map fun q=>(Sum.inl q,V.bl true)
theorem Cv(ks:LI)(q:Int):(eC (dh ks) (Sum.inl q)).isSome=decide (q∈ks):=by
 induction ks with
 | nil=>rfl
 | cons k r ih =>
  by_cases e:k=q
  ·subst e
   rw[show dh (k :: r)=(Sum.inl k,V.bl true) :: dh r from rfl,mO rfl]
   simp
  ·rw[show dh (k :: r)=(Sum.inl k,V.bl true) :: dh r from rfl,hV (fun z=>e (Sum.inl.inj z)),ih]
   simp[Ne.symm e]
theorem Cu(h:q∉ks):putK (dh ks) (Sum.inl q) (V.bl true)=dh (ks++[q]):=by
 unfold putK
 rw[if_neg (by
  intro z
  obtain⟨p,hp,e⟩:=zR.mp z
  obtain⟨k,hk,rfl⟩:=jN.mp hp
  have:=Sum.inl.inj (of_decide_eq_true e)
  exact h (this ▸ hk))]
 unfold dh
 rw[jD]
 rfl
def tS(es:List (Int×Qu)):List (Key×V):=es.map fun e=>(Sum.inl e.1,V.ref e.2)
theorem DB:∀ {es:List (Int×Qu)} {q:Int},q∉es.map Prod.fst->eC (tS es) (Sum.inl q)=none
 | [],_,_=>rfl
 | e :: es,q,h=>by
  rw[show tS (e :: es)=(Sum.inl e.1,V.ref e.2) :: tS es from rfl,hV (fun z=>h (by rw[<- Sum.inl.inj z];exact jE))]
  exact DB fun z=>h (jK _ z)
theorem Bm:∀ {es:List (Int×Qu)} {q:Int} {a:Qu} {j:Nat},(es.map Prod.fst).Nodup->es[j]?=some (q,a)->eC (tS es) (Sum.inl q)=some (V.ref a)
 | [],_,_,_,_,h=>by cases h
 | e :: es,q,a,0,_,h=>by
  cases h
  exact mO rfl
 | e :: es,q,a,j+1,nd,h=>by
  have PY:=JE.mp (show(e.1 :: es.map Prod.fst).Nodup from nd)
  have h':es[j]?=some (q,a):=h
  rw[show tS (e :: es)=(Sum.inl e.1,V.ref e.2) :: tS es from rfl,hV (fun z=>PY.1 (by
   have:e.1=q:=Sum.inl.inj z
   rw[this]
   exact jN.mpr ⟨(q,a),oY h',rfl⟩))]
  exact Bm PY.2 h'
theorem PQ{es:List (Int×Qu)}{a:Qu}(h:q∉es.map Prod.fst):putK (tS es) (Sum.inl q) (V.ref a)=tS (es++[(q,a)]):=by
 unfold putK
 rw[if_neg (by
  intro z
  obtain⟨p,hp,e⟩:=zR.mp z
  obtain⟨k,hk,rfl⟩:=jN.mp hp
  have:=Sum.inl.inj (of_decide_eq_true e)
  exact h (this ▸ jN.mpr ⟨k,hk,rfl⟩))]
 unfold tS
 rw[jD]
 rfl
theorem snoc_cases{xs:List α}{y z:α}(h:(xs++[y])[j]?=some z):xs[j]?=some z\/(j=xs.length/\z=y):=by
 rcases Jd j xs.length with q|q
 ·rw[JB q]at h
  exact .inl h
 ·rw[JM q]at h
  rcases Jd (j-xs.length) 1 with p|p
  ·have e:j=xs.length:=by omega
   subst e
   rw[zN]at h
   exact .inr ⟨rfl,(Option.some.inj h).symm⟩
  ·rw[Jb (by simpa using p)]at h
   cases h
theorem ir.same(h:ir H ts kvs)(s:∀ b xs,H b=some #[42]->H' b=some #[42]):ir H' ts kvs:=Paired.Ez h fun _ _ q=>s _ _ q
theorem Li:∀ {gs ks:LI},(ks++gs).Nodup->dN (dh ks) (dh gs)=dh (ks++gs)
 | [],ks,_=>by rw[JA];rfl
 | g :: gs,ks,nd=>by
  have hg:g∉ks:=fun z=>(JU.mp nd).2.2 g z g jE rfl
  show dN (putK (dh ks) (Sum.inl g) (V.bl true)) (dh gs)=_
  rw[Cu hg,Li (by rw[jv];exact nd),jv]
  rfl
theorem Fz(nd:gs.Nodup):dN [] (dh gs)=dh gs:=Li (ks:=[]) nd
structure cG(H0 H:Hp)(B:Qu)(es:List (Int×Qu))(P:Int->LI->Prop):Prop where
 at_:H B=some (.dK (tS es))
 nd:(es.map Prod.fst).Nodup
 nd2:(es.map Prod.snd).Nodup
 fresh:∀ e∈es,H0 e.2=none
 lst:∀ e∈es,∃ ls:LI,H e.2=some (.lst (ls.map V.int))/\P e.1 ls
 non:∀ q,q∉es.map Prod.fst->P q []
theorem cG.get{es:List (Int×Qu)}{P:Int->LI->Prop}(b:cG H0 H B es P){v:V}(h:eC (tS es) (Sum.inl q)=some v):∃ la ls,v=.ref la/\(q,la)∈es/\H la=some (.lst (ls.map V.int))/\P q ls:=by
 have hm:q∈es.map Prod.fst:=Classical.byContradiction fun z=>by rw[DB z]at h;cases h
 obtain⟨e,he,rfl⟩:=jN.mp hm
 obtain⟨j,hj⟩:=JH.mp he
 have:=Bm b.nd (q:=e.1) (a:=e.2) hj
 rw[this]at h
 obtain⟨ls,h1,h2⟩:=b.lst e he
 exact⟨e.2,ls,(Option.some.inj h).symm,he,h1,h2⟩
theorem abB{es:List (Int×Qu)}(nd:(es.map Prod.fst).Nodup){e e':Int×Qu}(h:e∈es)(h':e'∈es)(q:e.1=e'.1):e=e' := by
 obtain⟨i,hi,ei⟩:=jk h
 obtain⟨j,hj,ej⟩:=jk h'
 have:(es.map Prod.fst)[i]'(by simpa using hi)=(es.map Prod.fst)[j]'(by simpa using hj):=by simp[ei,ej,q]
 have:=(JT nd).mp this
 subst this
 rw[<- ei,<- ej]
theorem acK{es:List (Int×Qu)}(nd:(es.map Prod.snd).Nodup){e e':Int×Qu}(h:e∈es)(h':e'∈es)(q:e.2=e'.2):e=e' := by
 obtain⟨i,hi,ei⟩:=jk h
 obtain⟨j,hj,ej⟩:=jk h'
 have:(es.map Prod.snd)[i]'(by simpa using hi)=(es.map Prod.snd)[j]'(by simpa using hj):=by simp[ei,ej,q]
 have:=(JT nd).mp this
 subst this
 rw[<- ei,<- ej]
theorem cG.old{la:Qu}{es:List (Int×Qu)}{P P':Int->LI->Prop}(b:cG H0 H B es P)(hm:(q,la)∈es)(V1:H la=some (.lst (ls.map V.int)))(hp:P' q (ls++[h]))(ho:∀ p ls,p≠q->P p ls->P' p ls):
  cG H0 (upd H la (.lst (ls.map V.int++[.int h]))) B es P' where
 at_:=by rw[aj (aG b.at_ V1 #[1])];exact b.at_
 nd:=b.nd
 nd2:=b.nd2
 fresh:=b.fresh
 lst:=fun e he=>by
  by_cases c:e.2=la
  ·have:=acK b.nd2 he hm c
   subst this
   exact⟨ls++[h],by rw[ae,jD];rfl,hp⟩
  ·obtain⟨ms,h1,h2⟩:=b.lst e he
   refine⟨ms,by rw[aj c];exact h1,ho _ _ (fun z=>c ?_) h2⟩
   have:=abB b.nd he hm z
   rw[this]
 non:=fun p Mj=>ho p [] (fun z=>Mj (by rw[z];exact jN.mpr ⟨_,hm,rfl⟩)) (b.non p Mj)
theorem cG.new{es:List (Int×Qu)}{P P':Int->LI->Prop}(b:cG H0 H B es P)(hq:q∉es.map Prod.fst)(hL:H L=some (.lst []))(fL:H0 L=none)(nL:∀ e∈es,e.2≠L)(hp:P' q [h])(ho:∀ p ls,p≠q->P p ls->P' p ls):
  cG H0 (upd (upd H B (.dK (putK (tS es) (Sum.inl q) (.ref L)))) L (.lst [.int h])) B (es++[(q,L)]) P' where
 at_:=by rw[aj (aG b.at_ hL #[1]),ae,PQ hq]
 nd:=by rw[jD];exact Av b.nd hq
 nd2:=by
  rw[jD]
  refine Av b.nd2 fun z=>?_
  obtain⟨e,he,e2⟩:=jN.mp z
  exact nL e he e2
 fresh:=fun e he=>by
  rcases tT.mp he with z|z
  ·exact b.fresh e z
  ·rw[jJ.mp z];exact fL
 lst:=fun e he=>by
  rcases tT.mp he with z|z
  ·obtain⟨ms,h1,h2⟩:=b.lst e z
   refine⟨ms,by rw[aj (nL e z),aj (aG h1 b.at_ #[1])];exact h1,ho _ _ (fun y=>hq ?_) h2⟩
   rw[<- y]
   exact jN.mpr ⟨e,z,rfl⟩
  ·rw[jJ.mp z]
   exact⟨[h],by rw[ae];rfl,hp⟩
 non:=fun p Mj=>by
  rw[jD]at Mj
  exact ho p [] (fun z=>Mj (by rw[z];exact jR _ jE)) (b.non p fun z=>Mj (jz _ z))
theorem cG.keep{es:List (Int×Qu)}{P:Int->LI->Prop}(b:cG H0 H B es P)(hB:H' B=H B)(hl:∀ e∈es,H' e.2=H e.2):cG H0 H' B es P where
 at_:=by rw[hB];exact b.at_
 nd:=b.nd
 nd2:=b.nd2
 fresh:=b.fresh
 lst:=fun e he=>by rw[hl e he];exact b.lst e he
 non:=b.non
theorem cG.same{es:List (Int×Qu)}{P:Int->LI->Prop}(b:cG H0 H B es P)(s:aB H H'):cG H0 H' B es P where
 at_:=s _ _ b.at_
 nd:=b.nd
 nd2:=b.nd2
 fresh:=b.fresh
 lst:=fun e he=>by
  obtain⟨ls,h1,h2⟩:=b.lst e he
  exact⟨ls,s _ _ h1,h2⟩
 non:=b.non
def mW(rows:LL)(wide:Nat):LL:=(jO wide).map fun f=>rows.map fun r=>r.getD f 0
def OH(K:Yv):Sp:=fun vs H Q _=>∃ (m r g:Qu) (many wide:Nat) (rows:LL) (signs:LI),vs=[.ref m]/\bI H m r g wide rows signs/\aF many wide rows/\(many<=1000/\wide<=1000) /\
 ∀ (l:Qu) (cs:List Qu) (H':Hp),aB H H'->H' l=some (.lst (cs.map V.ref))->aJ H' cs (mW rows wide)->Q (.ref l) H'
def cX(col:LI)(q:Int):LI:=((jO col.length).filter fun i=>decide (col.getD i 0=q)).map fun i:Nat=>(i:Int)
theorem LJ(col:LI)(q:Int):(cX col q).length<=col.length:=by
 unfold cX
 rw[bb]
 exact ji (Jk _ _) #[11]
theorem Bq(col:LI)(t q:Int):cX (col++[t]) q=cX col q++(if t=q then [(col.length:Int)]else []):=by
 unfold cX
 rw[jL,js,JK,JW,jD]
 congr 1
 ·congr 1
  refine ZX fun i hi=>?_
  have l:=jq.mp hi
  rw[jQ,jQ,JB l]
 ·have e:(col++[t]).getD col.length 0=t:=by rw[jQ,JM (jF _),zN];rfl
  by_cases c:t=q
  ·rw[if_pos c,JR (by rw[e];exact decide_eq_true c)];rfl
  ·rw[if_neg c,JN (by rw[e,decide_eq_false c];decide)];rfl
theorem pb:x∈cX col q↔(0<=x/\x<(col.length:Int))/\col.getD x.toNat 0=q:=by
 unfold cX
 rw[jN]
 constructor
 ·rintro⟨i,hi,rfl⟩
  have h:=JD.mp hi
  have h1:=jq.mp h.1
  exact⟨⟨by omega,by omega⟩,by rw[jB];exact of_decide_eq_true h.2⟩
 ·rintro⟨⟨h0,h1⟩,h2⟩
  exact⟨x.toNat,JD.mpr ⟨jq.mpr #[0],decide_eq_true h2⟩,by omega⟩
def Q3(K:Yv):Sp:=fun vs H Q _=>∃ (c:Qu) (many:Nat) (col:LI),vs=[.ref c]/\H c=some (.tup (col.map V.int))/\col.length<=1000/\many<=1000/\(∀ t∈col,0<=t/\t<(many:Int)) /\
 ∀ (B:Qu) (es:List (Int×Qu)) (H':Hp),aB H H'->H B=none->cG H H' B es (fun q ls=>ls=cX col q)->Q (.ref B) H'
section
theorem iH:aH ["machine","rows","columns","figure"] ["machine"] (av ma):=cW #[3]
theorem rB:aZ ["machine","rows","columns","figure"] (av ma) ["row","figure"] [none,some 3] ⟨.function,[#[60],("row",.local),("figure",.free)],false,false,[]⟩:=mC #[3]
theorem pV:aH ["column","back","here","there"] ["column"] (av Bt):=cW #[3]
theorem ab9(F:bG K "columns_of" "columns_of" ma dV f fd)(bj:mg "range" = none)(aK:mg "tuple" = none):bu P w K mg base eM 1 f fd ["machine"] (OH K):=by
 refine F.ok iH #[7] #[2]
 ·obtain⟨m,r,g,many,wide,rows,signs,rfl,_⟩:=h
  rfl
 obtain⟨m,r,g,many,wide,rows,signs,rfl,M,R,⟨n1,w1⟩,k⟩:=h
 obtain⟨hm,⟨cS,mP,hA⟩,hg⟩:=M
 refine⟨_,(ah (aC (i:=1) iH.nd #[17])
   (ah (aC (i:=2) iH.nd (cf af))
   (ah (bX PassesOwn.never rfl (cx rfl bj (aa #[17] af)) (aS (i:=3) iH.nd) (ao (bD (fA Yy Yz yA bE (pv 2) (aa (aW aP #[41] aK bH (aa (cM rfl rB (lF (pv 1)) (fun _ _ _ _=>(aS (i:=0) rB.nd)) (fun _ _ _ _=>(aN (mZ K) (pv 0) (pv 1) #[5]))) af)) af)))))
   (ao (aL (pv 2)))))),?_⟩
 exists _,rfl,m,_,_,_,rfl,rfl,cj hm,rfl
 refine⟨#[15],fun L hL=>?_⟩
 have sL:=ak hL (HO.lst [])
 refine⟨_,rfl,m,_,_,_,rfl,rfl,cj (sL _ _ hm),rfl,_,rfl,by omega,by omega,?_⟩
 refine fu (fun i σ' H'=>∃ (as:List Qu) (v:OV),σ'=[some (.ref m),some (.ref r),some (.ref L),v]/\aB H H'/\H' L=some (.lst (as.map V.ref))/\aJ H' as ((jO i).map fun f=>rows.map fun r=>r.getD f 0)) ⟨[],none,rfl,sL,ae,.nil⟩ ?_ ?_
 ·rintro i σ' H3 hi ⟨as,v,rfl,s3,AQ,A3⟩
  rw[jB]at hi
  have la:as.length=i:=by rw[A3.length,bb,jT]
  have z0:(0:Int)+(i:Int)=(i:Int):=Jo _
  exists _,rfl,.inl ⟨rfl,_,bZ AQ⟩,_,rfl,r,rfl,⟨_,cj (s3 _ _ mP)⟩
  refine rX (K:=K) (xs:=cS.map V.ref) (fun D j ys H'=>aB H3 H'/\ys=((rows.take j).map fun r=>r.getD i 0).map V.int) (fun D hD=>⟨ak hD _,rfl⟩) (fun D j ys H' _ ⟨e,_⟩=>cj (e _ _ (s3 _ _ mP))) ?_ ?_
  ·rintro T j y ys H4 Q' hT hj hy ⟨s4,rfl⟩ k'
   have jl:j<rows.length:=by
    have:=(fV hj).1
    rw[bb,hA.length]at this
    exact this
   obtain⟨ra,e1,e2⟩:=hA.get jl
   have ey:y=.ref ra:=by rw[jV,e1]at hj;exact(Option.some.inj hj).symm
   subst ey
   have lr:=R.len
   have aqP:rows[j].length=wide:=R.row _ (jG jl)
   have at1:tW (rows[j].map V.int) (0+(i:Int))=some (.int (rows[j].getD i 0)):=by
    rw[z0,cu #[0] #[0],jB]
   refine⟨_,rfl,_,rfl,ra,_,_,_,rfl,rfl,cj ((s3.trans s4) _ _ e2),at1,k' _ _ hy (ay (by rw[bb,bb,jX];omega)) ⟨ax s4 hT,?_⟩⟩
   rw[jW,jC jl,jD,jD]
   rfl
  ·rintro T ys H4 hT hy ⟨s4,rfl⟩
   rw[bb,hA.length,jY]at hy
   refine⟨T,_,rfl,.inl ⟨bZ hy,fun t ht=>?_⟩⟩
   have T5:=s4 _ _ AQ
   have nL:L≠t:=ar T5 ht
   refine⟨L,_,_,rfl,rfl,by rw[aj nL];exact T5,ay #[36],?_⟩
   have sT:∀ b xs,H3 b=some #[42]->(upd (upd H4 t (.tup ((rows.map fun r=>r.getD i 0).map V.int))) L (.lst (as.map V.ref++[V.ref t]))) b=some #[42]:=fun b xs e=>by
    have e4:=s4 _ _ e
    rw[aj (aG e4 T5 #[1]),aj (ar e4 ht)]
    exact e4
   refine⟨as++[t],_,rfl,ax (ax (s3.trans s4) ((s3.trans s4).free ht)) hL,by rw[ae,jD];rfl,?_⟩
   rw[JK,jD]
   exact aJ.snoc (A3.same sT) (by rw[aj (Ne.symm nL),ae])
 ·rintro σ' H3 ⟨as,v,rfl,s3,AQ,A3⟩
  rw[jB]at A3
  exact⟨_,rfl,k L as _ s3 AQ A3⟩
theorem Y9(F:bG K "back_of" "back_of" Bt dV f fd)(cL:mg "enumerate" = none):bu P w K mg base eM 1 f fd ["column"] (Q3 K):=by
 refine F.ok pV #[7] #[2]
 ·obtain⟨c,many,col,rfl,_⟩:=h
  rfl
 obtain⟨c,many,col,rfl,hc,lc,n1,akZ,k⟩:=h
 have hu:=oW hr
 refine⟨_,(ah (aC (i:=1) pV.nd sI)
   (ah (bX PassesOwn.never rfl (aas rfl cL (aa (pv 0) af)) (wG rfl (bL (aS (i:=2) pV.nd) (bL (aS (i:=3) pV.nd) oj))) (ao (bD (fA Yy Yz yA bE (Cz (pv 1) (pv 3) (cf af) ⟨rfl,rfl,rfl,rfl⟩) (aa (pv 2) af)))))
   (ao (aL (pv 1))))),?_⟩
 refine fun B hB=>?_
 have s0:=ak hB (HO.dK [])
 have b0:cG H (upd H B (.dK [])) B [] (fun q ls=>ls=cX (col.take 0) q):=⟨ae,List.Pairwise.nil,List.Pairwise.nil,(fun e h=>by cases h),(fun e h=>by cases h),fun q _=>rfl⟩
 refine⟨_,rfl,c,rfl,⟨_,cj (s0 _ _ hc)⟩,RP (K:=K) (xs:=col.map V.int) (fun i σ' H'=>∃ (es:List (Int×Qu)) (v1 v2:OV),σ'=[some (.ref c),some (.ref B),v1,v2]/\aB H H'/\(∀ e∈es,0<=e.1/\e.1<(many:Int))/\cG H H' B es (fun q ls=>ls=cX (col.take i) q))
  ⟨[],none,none,rfl,s0,(fun e h=>by cases h),b0⟩ (fun i σ' H' _ ⟨_,_,_,_,e,_,_⟩=>cj (e _ _ hc)) ?_ ?_⟩
 ·rintro i y σ' H1 T hi ⟨es,v1,v2,rfl,s1,kr,b1⟩ hT
  obtain⟨t,rfl,ht⟩:=bw hi
  have il:=(fV ht).1
  have stq:=akZ t (oY ht)
  have sT:=ak hT (HO.tup [V.int i,V.int t])
  obtain⟨H2,Ho⟩:∃ H2,upd H1 T (HO.tup [V.int i,V.int t])=H2:=⟨_,rfl⟩
  have hT2:H2 T=some (.tup [V.int i,V.int t]):=by rw[<- Ho];exact ae
  rw[Ho]at sT ⊢
  have s2:=s1.trans sT
  have b2:=b1.same sT
  exists T,_,rfl,cj hT2,rfl,_,_,rfl,_,_,rfl,rfl
  refine⟨_,rfl,B,rfl,.inl ⟨_,.inl b2.at_⟩,_,rfl,#[15],fun L hL=>?_⟩
  have sL:=ak hL (HO.lst [])
  have b3:=b2.same sL
  have nL:∀ e∈es,e.2≠L:=fun e he z=>by
   obtain⟨ls,h1,_⟩:=b2.lst e he
   rw[z,hL]at h1
   cases h1
  have nLB:B≠L:=ar b2.at_ hL
  have fL:H L=none:=s2.free hL
  have Hr:=bS many b3.nd (fun q hq=>by
   obtain⟨e,he,rfl⟩:=jN.mp hq
   exact kr e he)
  rw[bb]at Hr
  have len:(tS es).length<sizeLine:=ay (by unfold tS;rw[bb];omega)
  have et:col.take (i+1)=col.take i++[t]:=by rw[jW,ht];rfl
  have ln:(col.take i).length=i:=by rw[jX];omega
  have oth:∀ (p:Int) (ls:LI),p≠t->ls=cX (col.take i) p->ls=cX (col.take (i+1)) p:=fun p ls np z=>by
   rw[et,Bq,if_neg (Ne.symm np),JA]
   exact z
  have grow:∀ ls:LI,ls=cX (col.take i) t->ls++[(i:Int)]=cX (col.take (i+1)) t:=fun ls z=>by
   rw[et,Bq,if_pos rfl,ln,z]
  refine⟨_,Sum.inl t,b3.at_,rfl,len,fun v hv=>?_,fun hn=>?_⟩
  ·obtain⟨la,ls,rfl,hm,V1,hp⟩:=b3.get hv
   have pl:=LJ (col.take i) t
   have lz:(ls.map V.int).length<sizeLine:=ay (by rw[bb,hp];omega)
   exists .inl ⟨rfl,_,bZ V1⟩,_,rfl,la,_,_,rfl,rfl,V1,lz
   exact⟨es,_,_,rfl,ax (s2.trans sL) (b2.fresh _ hm),kr,b3.old hm V1 (grow ls hp) oth⟩
  ·have hq:t∉es.map Prod.fst:=fun z=>by
    obtain⟨e,he,ee⟩:=jN.mp z
    obtain⟨jj,hjj⟩:=JH.mp he
    have:=Bm b3.nd (q:=e.1) (a:=e.2) hjj
    rw[ee,hn]at this
    cases this
   have AQ:(upd (upd H2 L (HO.lst [])) B (HO.dK (putK (tS es) (Sum.inl t) (V.ref L)))) L=some (.lst []):=by rw[aj (Ne.symm nLB),ae]
   refine⟨.inl ⟨rfl,_,bZ AQ⟩,_,rfl,L,_,_,rfl,rfl,AQ,(by show 0<sizeLine;decide),?_⟩
   refine⟨es++[(t,L)],_,_,rfl,ax (ax (s2.trans sL) hB) fL,fun e he=>?_,b3.new hq ae fL nL (grow [] (b3.non _ hq)) oth⟩
   rcases tT.mp he with z|z
   ·exact kr e z
   ·rw[jJ.mp z];exact stq
 ·rintro σ' H1 ⟨es,v1,v2,rfl,s1,kr,b1⟩
  rw[bb,jY]at b1
  exact⟨_,rfl,k B es _ s1 hB b1⟩
end
structure IC(K:Yv)(C:Qu):Prop where
 cl:Io K C
 ng:iZ K C "group_of"
 nm:iZ K C "members"
 nw:iZ K C "waiting"
 ni:iZ K C "is_waiting"
structure IE(H:Hp)(C x go ms wt iw:Qu):Prop where
 ob:∃ dx:Qu,H x=some (.ins C dx [("group_of",.ref go),("members",.ref ms),("waiting",.ref wt),("is_waiting",.ref iw)])
theorem IE.same{x:Qu}(h:IE H C x go ms wt iw)(s:aB H H'):IE H' C x go ms wt iw:=by
 obtain⟨dx,h1⟩:=h.ob
 exact⟨dx,s _ _ h1⟩
def L4(K:Yv)(C:Qu):Sp:=fun vs H Q _=>∃ (x go ms wt iw:Qu) (gs:LI) (ds:List Qu),vs=[.ref x]/\IE H C x go ms wt iw/\H go=some (.lst (gs.map V.int))/\H ms=some (.lst (ds.map V.ref))/\Q (.bl (decide (ds.length=gs.length))) H
def aaX(C:Qu):Sp:=fun vs H Q _=>∃ (x go ms wt iw:Qu) (n:Int) (ws ks:LI),vs=[.ref x,.int n]/\IE H C x go ms wt iw/\H wt=some (.lst (ws.map V.int))/\H iw=some (.dK (dh ks))/\ks.Nodup/\ws.length<=1000/\ks.length<=1000 /\
 Q .non (upd (upd H wt (.lst ((ws++[n]).map V.int))) iw (.dK (dh (if n∈ks then ks else ks++[n]))))
theorem Lc(ks:LI)(g:Int):Dg (dh ks) (Sum.inl g)=dh (ks.filter fun k=>decide (k≠g)):=by
 unfold Dg dh
 rw[List.filter_map]
 congr 1
 refine ZX fun k _=>?_
 by_cases c:k=g
 ·subst c
  simp
 ·have:(Sum.inl k:Key)≠Sum.inl g:=fun z=>c (Sum.inl.inj z)
  simp[c,this]
theorem X1(ks:LI):(dh ks).map (fun kv=>kV kv.1)=ks.map V.int:=by
 unfold dh
 rw[JO]
 rfl
def Q7(C:Qu):Sp:=fun vs H Q _=>∃ (x go ms wt iw da:Qu) (g:Int) (ws ks mem:LI) (ds:List Qu),vs=[.ref x]/\IE H C x go ms wt iw/\H wt=some (.lst ((ws++[g]).map V.int))/\H iw=some (.dK (dh ks))/\g∈ks/\H ms=some (.lst (ds.map V.ref))/\0<=g/\ds[g.toNat]?=some da/\ms≠wt/\H da=some (.dK (dh mem))/\da≠iw/\mem.length<=1000 /\
 ∀ l,H l=none->Q (.ref l) (upd (upd (upd H wt (.lst (ws.map V.int))) iw (.dK (dh (ks.filter fun k=>decide (k≠g))))) l (.lst (mem.map V.int)))
section
theorem AI:aH ["self"] ["self"] (av iC):=cW #[3]
theorem wK:aH ["self","group"] ["self","group"] (av fX):=cW #[3]
theorem fG:aH ["self","group"] ["self"] (av dA):=cW #[3]
theorem Sn(F:bG K "is_done" "Parted.is_done" iC dV f fd)(pc:IC K C)(bh:mg "len" = none):bu P w K mg base eM 1 f fd ["self"] (L4 K C):=by
 refine F.ok AI #[7] #[2]
 ·obtain⟨x,go,ms,wt,iw,gs,ds,rfl,_⟩:=h
  rfl
 obtain⟨x,go,ms,wt,iw,gs,ds,rfl,⟨dx,hx⟩,J8,Hw,q⟩:=h
 refine⟨_,(ao (aL (lV eP (aA aI #[41] bh bW (aa (dP (pv 0) rfl) af)) (aA aI #[41] bh bW (aa (dP (pv 0) rfl) af)) (aY _)))),?_⟩
 exists _,rfl,x,C,dx,_,_,rfl,hx,pc.cl,pc.nm,rfl,ms,_,rfl,.inl (bZ Hw),_,rfl,x,C,dx,_,_,rfl,hx,pc.cl,pc.ng,rfl,go,_,rfl,.inl (bZ J8),rfl
 rw[bb,bb]
 have e:decide (V.int (ds.length:Int)=V.int (gs.length:Int))=decide (ds.length=gs.length):=decide_eq_decide.mpr ⟨fun h=>by have:=V.int.inj h;omega,fun h=>by rw[h]⟩
 rw[e]
 exact q
theorem Oe(F:bG K "wait_for" "Parted.wait_for" fX dV f fd)(pc:IC K C):bu P w K mg base eM 1 f fd ["self","group"] (aaX C):=by
 refine F.ok wK #[7] #[2]
 ·obtain⟨x,go,ms,wt,iw,n,ws,ks,rfl,_⟩:=h
  rfl
 obtain⟨x,go,ms,wt,iw,n,ws,ks,rfl,⟨dx,hx⟩,Dt,Eu,nd,l1,l2,q⟩:=h
 have hu:=oW hr
 refine⟨_,(ah (bD (fA Yy Yz yA bE (dP (pv 0) rfl) (aa (pv 1) af)))
   (ao (AB hu (dP (pv 0) rfl) (pv 1) cU rfl))),?_⟩
 have nx:x≠wt:=aG hx Dt #[1]
 have ni:iw≠wt:=aG Eu Dt #[1]
 refine⟨_,rfl,x,C,dx,_,_,rfl,hx,pc.cl,pc.nw,rfl,.inl ⟨rfl,_,bZ Dt⟩,_,rfl,wt,_,_,rfl,rfl,Dt,ay (by rw[bb];exact l1),?_⟩
 refine⟨_,rfl,x,C,dx,_,_,rfl,by rw[aj nx];exact hx,pc.cl,pc.ni,rfl,_,rfl,iw,_,rfl,CH.k (k:=Sum.inl n) (by rw[aj ni];exact Eu) (ay (by unfold dh;rw[bb];exact l2)),?_⟩
 have e:putK (dh ks) (Sum.inl n) (V.bl true)=dh (if n∈ks then ks else ks++[n]):=by
  by_cases c:n∈ks
  ·rw[if_pos c]
   unfold putK
   rw[if_pos (show((dh ks).any fun kv=>decide (kv.fst=Sum.inl n))=true from zR.mpr ⟨(Sum.inl n,V.bl true),jN.mpr ⟨n,c,rfl⟩,by simp⟩)]
   refine(zX fun kv hk=>?_).trans (QR _)
   obtain⟨k,_,rfl⟩:=jN.mp hk
   show(if (Sum.inl k:Key)=Sum.inl n then((Sum.inl k:Key),V.bl true)else(Sum.inl k,V.bl true))=(Sum.inl k,V.bl true)
   split<;>rfl
  ·rw[if_neg c]
   exact Cu c
 rw[e]
 rw[jD]at q
 exact q
theorem Z2(F:bG K "next_splitter" "Parted.next_splitter" dA dV f fd)(pc:IC K C)(fq:mg "list" = none):bu P w K mg base eM 1 f fd ["self"] (Q7 C):=by
 refine F.ok fG #[7] #[2]
 ·obtain⟨x,go,ms,wt,iw,da,g,ws,ks,mem,ds,rfl,_⟩:=h
  rfl
 obtain⟨x,go,ms,wt,iw,da,g,ws,ks,mem,ds,rfl,⟨dx,hx⟩,Dt,Eu,gk,Hw,g0,rH,nmw,Ei,ndi,lm,q⟩:=h
 have hu:=oW hr
 refine⟨_,(ah (aC (i:=1) fG.nd (Om Yy xE xF Y2 (dP (pv 0) rfl)))
   (ah (bD (LC (dP (pv 0) rfl) (pv 1) ⟨rfl,rfl,rfl,rfl⟩))
   (ao (aL (aW (C7 rfl) #[41] fq Ai (aa (aN dS (dP (pv 0) rfl) (pv 1) #[5]) af)))))),?_⟩
 have nx:x≠wt:=aG hx Dt #[1]
 have nxi:x≠iw:=aG hx Eu #[1]
 have ni:iw≠wt:=aG Eu Dt #[1]
 have nmi:ms≠iw:=aG Hw Eu #[1]
 have ndw:da≠wt:=aG Ei Dt #[1]
 have last:((ws++[g]).map V.int)[((ws++[g]).map V.int).length-1]?=some (.int g):=by
  rw[bb,jL,js,QJ,jV,JM (jF _),zN]
  rfl
 have dl:((ws++[g]).map V.int).dropLast=ws.map V.int:=by rw[jD];exact Zz
 obtain⟨v,hv⟩:∃ v,eC (dh ks) (Sum.inl g)=some v:=by
  have h:=Cv ks g
  rw[decide_eq_true gk]at h
  exact Jm.mp h
 have at':tW (ds.map V.ref) g=some (.ref da):=by
  have q':tW (ds.map V.ref) ((g.toNat:Nat):Int)=some (.ref da):=Ag (by rw[jV,rH];rfl)
  rw[jm g0]at q'
  exact q'
 exists _,rfl,x,C,dx,_,_,rfl,hx,pc.cl,pc.nw,rfl,.inl ⟨rfl,_,bZ Dt⟩,wt,_,_,rfl,rfl,Dt,last
 rw[dl]
 have Ml:(upd H wt (HO.lst (ws.map V.int))) x=_:=(aj nx).trans hx
 have ahF:(upd H wt (HO.lst (ws.map V.int))) iw=_:=(aj ni).trans Eu
 exists _,rfl,x,C,dx,_,_,rfl,Ml,pc.cl,pc.ni,rfl,iw,rfl,.inl ⟨_,.inl ahF⟩,_,rfl,dh ks,Sum.inl g,v,ahF,rfl,hv
 rw[Lc]
 refine⟨_,rfl,x,C,dx,_,_,rfl,(aj nxi).trans Ml,pc.cl,pc.nm,rfl,_,rfl,ms,_,_,_,rfl,rfl,bZ ((aj nmi).trans ((aj nmw).trans Hw)),at',da,_,rfl,(aj ndi).trans ((aj ndw).trans Ei),fun l hl=>?_⟩
 rw[X1]
 refine q l ?_
 by_cases c1:l=iw
 ·rw[c1,ae]at hl
  cases hl
 ·rw[aj c1]at hl
  by_cases c2:l=wt
  ·rw[c2,ae]at hl
   cases hl
  ·rw[aj c2]at hl
   exact hl
end
def setG(gs done:LI)(n:Int):LI:=done.foldl (fun g q=>g.set q.toNat n) gs
def outF(mem done:LI):LI:=mem.filter fun q=>decide (q∉done)
theorem LW(gs:LI)(n:Int):∀ done:LI,(setG gs done n).length=gs.length:=fun done=>by
 unfold setG
 induction done generalizing gs with
 | nil=>rfl
 | cons q r ih=>rw[JZ,ih,ZA]
theorem SM(gs done:LI)(q n:Int):setG gs (done++[q]) n=(setG gs done n).set q.toNat n:=by
 unfold setG
 rw[JQ]
 rfl
theorem Sy(mem done:LI)(q:Int):(outF mem done).filter (fun k=>decide (k≠q))=outF mem (done++[q]):=by
 unfold outF
 rw[List.filter_filter]
 refine ZX fun k _=>?_
 by_cases c:k=q
 ·subst c
  simp
 ·simp[c]
def Rb(K:Yv)(C:Qu):Sp:=fun vs H Q _=>∃ (x go ms wt iw da il:Qu) (g:Int) (gs ws ks mem ins:LI) (ds:List Qu),vs=[.ref x,.int g,.ref il]/\IE H C x go ms wt iw/\H go=some (.lst (gs.map V.int))/\H ms=some (.lst (ds.map V.ref))/\H wt=some (.lst (ws.map V.int))/\H iw=some (.dK (dh ks))/\ks.Nodup/\(ws.length<=1000/\ks.length<=1000/\ds.length<1000/\ins.length<=1000) /\
 0<=g/\ds[g.toNat]?=some da/\H da=some (.dK (dh mem))/\H il=some (.lst (ins.map V.int))/\ins.Nodup/\(∀ q∈ins,q∈mem/\0<=q/\q<(gs.length:Int))/\(go≠ms/\go≠wt/\go≠il/\ms≠wt/\ms≠il/\wt≠il/\da≠iw) /\
 ∀ (E:Qu) (nw:Int) (H':Hp),H E=none->H' E=some (.dK (dh ins))->H' ms=some (.lst ((ds++[E]).map V.ref))->H' da=some (.dK (dh (outF mem ins)))->H' go=some (.lst ((setG gs ins (ds.length:Int)).map V.int))->H' wt=some (.lst ((ws++[nw]).map V.int))->H' iw=some (.dK (dh (if nw∈ks then ks else ks++[nw]))) ->
  ((g∈ks\/ins.length<=(outF mem ins).length)->nw=(ds.length:Int))->(¬ (g∈ks\/ins.length<=(outF mem ins).length)->nw=g)->(∀ c u,c≠go->c≠ms->c≠da->c≠wt->c≠iw->H c=some u->H' c=some u)->Q .non H'
theorem abY{z:Nat}(h:z<n):W4 n (z:Int)=some z:=by
 unfold W4
 rw[if_pos #[0],if_pos #[0],jB]
section
theorem cZ:aH ["self","group","inside","fresh","outside","here"] ["self","group","inside"] (av dB):=cW #[3]
theorem ig:aZ ["self","group","inside","fresh","outside","here"] (av dB) ["here"] [none] ⟨.function,[#[60],("here",.local)],false,false,[]⟩:=mC #[3]
theorem Z6(F:bG K "split_off" "Parted.split_off" dB dV f fd)(pc:IC K C)(mQ:rL P w K mg base C "wait_for" 1 ["self","group"] (aaX C))(bh:mg "len" = none)(lK:mg "dict" = none):bu P w K mg base eM 2 f fd ["self","group","inside"] (Rb K C):=by
 refine F.ok cZ #[7] #[2]
 ·obtain⟨x,go,ms,wt,iw,da,il,g,gs,ws,ks,mem,ins,ds,rfl,_⟩:=h
  rfl
 obtain⟨x,go,ms,wt,iw,da,il,g,gs,ws,ks,mem,ins,ds,rfl,⟨dx,hx⟩,J8,Hw,Dt,Eu,ndk,⟨lw,lk,ld,li⟩,g0,rH,Ei,PD,ndi,ald,⟨n1,n2,n3,n4,n5,n6,n7⟩,k⟩:=h
 have hu:=oW hr
 refine⟨_,(ah (aC (i:=3) cZ.nd (aA aI #[41] bh bW (aa (dP (pv 0) rfl) af)))
   (ah (aC (i:=4) cZ.nd (aN dS (dP (pv 0) rfl) (pv 1) #[5]))
   (ah (bX PassesOwn.never rfl (cC (pv 2)) (aS (i:=5) cZ.nd) (ah (bD (LC (pv 4) (pv 5) ⟨rfl,rfl,rfl,rfl⟩))
   (ao (HS (pv 3) (afi (dP (pv 0) rfl) (pv 5) set_list)))))
   (ah (bD (fA Yy Yz yA bE (dP (pv 0) rfl) (aa (aW (rV rfl) #[41] lK Cr (aa (cM rfl ig (cC (pv 2)) (fun _ _ _ _=>(aS (i:=0) ig.nd)) (fun _ _ _ _=>(fh (aa (pv 0) (aa cU af))))) af)) af)))
   (ao (cz (PW.pt (rD (HU (ae9 hu (pv 1) (dP (pv 0) rfl)) (by with_unfolding_all rfl)) (sJ (aU adg (aA aI #[41] bh bW (aa (pv 2) af)) (aA tu #[41] bh bW (aa (pv 4) af)) (aY _))))) (ao (bD (FH mQ hr (pv 0) (aa (pv 3) af)))) (ao (bD (FH mQ hr (pv 0) (aa (pv 1) af)))))))))),?_⟩
 have o0:outF mem []=mem:=QE.mpr fun _ _=>by simp
 have nxg:x≠go:=aG hx J8 #[1]
 have nxd:x≠da:=aG hx Ei #[1]
 have ngd:go≠da:=aG J8 Ei #[1]
 have at':tW (ds.map V.ref) g=some (.ref da):=by
  have q':tW (ds.map V.ref) ((g.toNat:Nat):Int)=some (.ref da):=Ag (by rw[jV,rH];rfl)
  rw[jm g0]at q'
  exact q'
 exists _,rfl,x,C,dx,_,_,rfl,hx,pc.cl,pc.nm,rfl,ms,_,rfl,.inl (bZ Hw)
 rw[bb]
 exists _,rfl,x,C,dx,_,_,rfl,hx,pc.cl,pc.nm,rfl,_,rfl,ms,_,_,_,rfl,rfl,bZ Hw,at'
 try dsimp only[bB,dG]
 refine eO (t:=Ec _ _ _) (fun σ' H'=>∃ v:OV,σ'=[some (.ref x),some (.int g),some (.ref il),some (.int (ds.length:Int)),some (.ref da),v]/\H' da=some (.dK (dh (outF mem ins)))/\H' go=some (.lst ((setG gs ins (ds.length:Int)).map V.int))/\∀ c u,c≠go->c≠da->H c=some u->H' c=some u) ?_ (fun D' dU=>?_)
 rotate_left
 ·exists _,rfl,il,rfl,⟨_,bZ PD⟩
  refine dW (K:=K) (xs:=ins.map V.int) (fun i σ' H'=>∃ v:OV,σ'=[some (.ref x),some (.int g),some (.ref il),some (.int (ds.length:Int)),some (.ref da),v]/\H' da=some (.dK (dh (outF mem (ins.take i))))/\H' go=some (.lst ((setG gs (ins.take i) (ds.length:Int)).map V.int))/\∀ c u,c≠go->c≠da->H c=some u->H' c=some u) ⟨none,rfl,by rw[ZK,o0];exact Ei,J8,fun _ _ _ _ e=>e⟩ (fun i σ' H' _ ⟨_,_,_,_,e⟩=>bZ (e _ _ (Ne.symm n3) (aG PD Ei #[1]) PD)) ?_ ?_
  ·rintro i y σ' H3 hi ⟨v,rfl,hd3,hg3,Ir⟩
   obtain⟨q,rfl,hq⟩:=bw hi
   have qm:=ald q (oY hq)
   have qo:q∈outF mem (ins.take i):=by
    refine JD.mpr ⟨qm.1,decide_eq_true fun z=>?_⟩
    obtain⟨j,hj,ej⟩:=jk z
    rw[jX]at hj
    rw[zo]at ej
    have ql:=fV hq
    have:=(JT ndi).mp (ej.trans ql.2.symm)
    omega
   obtain⟨vv,hvv⟩:∃ v,eC (dh (outF mem (ins.take i))) (Sum.inl q)=some v:=by
    have h:=Cv (outF mem (ins.take i)) q
    rw[decide_eq_true qo]at h
    exact Jm.mp h
   have et:ins.take (i+1)=ins.take i++[q]:=by rw[jW,hq];rfl
   exists _,rfl,da,rfl,.inl ⟨_,.inl hd3⟩,_,rfl,_,Sum.inl q,vv,hd3,rfl,hvv
   rw[Lc,Sy,<- et]
   have hx3:=Ir _ _ nxg nxd hx
   refine⟨_,rfl,_,rfl,x,C,dx,_,_,rfl,(aj nxd).trans hx3,pc.cl,pc.ng,rfl,_,rfl,go,_,q,q.toNat,rfl,rfl,(aj ngd).trans hg3,?_,?_⟩
   ·rw[bb,LW]
    have:=abY (n:=gs.length) (z:=q.toNat) #[0]
    rw[jm qm.2.1]at this
    exact this
   ·refine⟨_,rfl,by rw[aj (Ne.symm ngd),ae],?_,fun c u c1 c2 e=>by rw[aj c1,aj c2];exact Ir c u c1 c2 e⟩
    rw[ae,et,SM,List.map_set]
  ·rintro σ' H3 ⟨v,rfl,hd3,hg3,Ir⟩
   rw[bb,jY]at hd3 hg3
   exact dU _ _ ⟨v,rfl,hd3,hg3,Ir⟩
 rintro σ' H1 ⟨v,rfl,Mi,hg1,Ew⟩
 have Ml:=Ew _ _ nxg nxd hx
 have ahP:=Ew _ _ (Ne.symm n1) (aG Hw Ei #[1]) Hw
 have aem:=Ew _ _ (Ne.symm n3) (aG PD Ei #[1]) PD
 exists _,rfl,x,C,dx,_,_,rfl,Ml,pc.cl,pc.nm,rfl,.inl ⟨rfl,_,bZ ahP⟩,_,rfl,il,rfl,⟨_,bZ aem⟩
 refine eA (K:=K) (xs:=ins.map V.int) (fun D i ys H'=>aB H1 H'/\∃ ts,ys=ts.map V.ref/\ir H' ts (dh (ins.take i))) (fun D hD=>⟨ak hD _,[],rfl,.nil⟩) (fun D i ys H' _ ⟨e,_⟩=>bZ (e _ _ aem)) ?_ ?_
 ·rintro D i y ys H' Q' hD hi hy ⟨hs,ts,rfl,pv⟩ k'
  obtain⟨q,rfl,hq⟩:=bw hi
  have il':i<ins.length:=(fV hq).1
  refine⟨_,rfl,(by show 2<=sizeLine;decide),fun T hT=>?_⟩
  have sT:=ak hT (HO.tup [V.int q,V.bl true])
  have nD:D≠T:=ar hy hT
  have lts:ts.length=i:=by
   rw[Paired.length pv]
   unfold dh
   rw[bb,jX]
   omega
  have hyT:(upd H' T (HO.tup [V.int q,V.bl true])) D=some (.lst (ts.map V.ref)):=by rw[aj nD];exact hy
  refine k' _ _ hyT (ay #[36]) ⟨ax (ax hs (hs.free hT)) hD,ts++[T],by rw[jD];rfl,?_⟩
  rw[jW,hq]
  have up:∀ b xs,(upd H' T (HO.tup [V.int q,V.bl true])) b=some #[42]->(upd (upd H' T (HO.tup [V.int q,V.bl true])) D (.lst (ts.map V.ref++[V.ref T]))) b=some #[42]:=fun b xs e=>by
   rw[aj (aG e hyT #[1])];exact e
  show ir _ _ (dh (ins.take i++[q]))
  unfold dh
  rw[jD]
  exact Paired.snoc (ir.same pv fun b xs e=>up b xs (sT _ _ e)) (up _ _ ae)
 rintro L ys H2 fL hL ⟨s2,ts,rfl,pv⟩
 rw[bb,jY]at pv
 refine⟨L,ts,_,rfl,hL,pv,fun N hN=>?_⟩
 rw[Fz ndi]
 have s3:=s2.trans (ak hN (HO.dK (dh ins)))
 obtain⟨H3,Pm⟩:∃ H3,upd H2 N (HO.dK (dh ins))=H3:=⟨_,rfl⟩
 have J6:H3 N=some (.dK (dh ins)):=by rw[<- Pm];exact ae
 rw[Pm]at s3 ⊢
 have fN:H1 N=none:=s2.free hN
 have Hx:=s3 _ _ ahP
 have nxm:x≠ms:=aG hx Hw #[1]
 refine⟨ms,_,_,rfl,rfl,Hx,ay #[36],?_⟩
 have nNm:N≠ms:=aG J6 Hx #[1]
 have nxi:x≠iw:=aG hx Eu #[1]
 have nim:iw≠ms:=aG Eu Hw #[1]
 have ndm:da≠ms:=aG Ei Hw #[1]
 obtain⟨H4,Bc⟩:∃ H4,upd H3 ms (HO.lst (ds.map V.ref++[V.ref N]))=H4:=⟨_,rfl⟩
 have kp4:∀ c u,c≠ms->H1 c=some u->H4 c=some u:=fun c u c1 e=>by rw[<- Bc,aj c1];exact s3 _ _ e
 have K2:H4 ms=some (.lst ((ds++[N]).map V.ref)):=by rw[<- Bc,ae,jD];rfl
 have hN4:H4 N=some (.dK (dh ins)):=by rw[<- Bc,aj nNm];exact J6
 have R5:=kp4 _ _ nxm Ml
 have abM:=kp4 _ _ nim (Ew _ _ (aG Eu J8 #[1]) (Ne.symm n7) Eu)
 have abU:=kp4 _ _ (Ne.symm n4) (Ew _ _ (Ne.symm n2) (aG Dt Ei #[1]) Dt)
 have aht:=kp4 _ _ ndm Mi
 have MS:=kp4 _ _ n1 hg1
 have aen:=kp4 _ _ (Ne.symm n5) aem
 rw[Bc]
 have niw:iw≠wt:=aG Eu Dt #[1]
 have lo:(dh (outF mem ins)).length=(outF mem ins).length:=by unfold dh;rw[bb]
 have fN0:H N=none:=by
  cases e:H N with
  | none=>rfl
  | some u =>
   have z1:N=go\/N=da:=Classical.byContradiction fun z=>by
    have:=Ew N u (fun a=>z (.inl a)) (fun a=>z (.inr a)) e
    rw[fN]at this
    cases this
   rcases z1 with z|z
   ·rw[z,hg1]at fN;cases fN
   ·rw[z,Mi]at fN;cases fN
 have fin:∀ nw:Int,((g∈ks\/ins.length<=(outF mem ins).length)->nw=(ds.length:Int))->(¬ (g∈ks\/ins.length<=(outF mem ins).length)->nw=g)->Q .non (upd (upd H4 wt (.lst ((ws++[nw]).map V.int))) iw (.dK (dh (if nw∈ks then ks else ks++[nw])))):=fun nw h1 h2=>by
  have nNw:N≠wt:=aG hN4 abU #[1]
  have nNi:N≠iw:=fun z=>by rw[z,Eu]at fN0;cases fN0
  refine k N nw _ fN0 ?_ ?_ ?_ ?_ ?_ ae h1 h2 fun c u c1 c2 c3 c4 c5 e=>?_
  ·rw[aj nNi,aj nNw];exact hN4
  ·rw[aj (Ne.symm nim),aj n4];exact K2
  ·rw[aj n7,aj (aG Ei Dt #[1])];exact aht
  ·rw[aj (aG J8 Eu #[1]),aj n2];exact MS
  ·rw[aj (Ne.symm niw),ae]
  ·rw[aj c5,aj c4];exact kp4 _ _ c2 (Ew c u c1 c3 e)
 exists _,rfl,_,rfl,x,C,dx,_,_,rfl,R5,pc.cl,pc.ni,rfl,iw,_,rfl,fH.k (k:=Sum.inl g) abM,_,rfl
 rw[Cv]
 have yes:(g∈ks\/ins.length<=(outF mem ins).length)->Q .non (upd (upd H4 wt (.lst ((ws++[(ds.length:Int)]).map V.int))) iw (.dK (dh (if (ds.length:Int)∈ks then ks else ks++[(ds.length:Int)])))):=fun h=>fin _ (fun _=>rfl) (fun n=>absurd h n)
 refine rK #[46] #[46]
 ·exact Dx ⟨_,rfl,x,dx,_,rfl,R5,rfl,_,rfl,x,go,ms,wt,iw,(ds.length:Int),ws,ks,rfl,⟨dx,R5⟩,abU,abM,ndk,lw,lk,yes (.inl c)⟩
 ·refine⟨_,rfl,il,_,rfl,.inl (bZ aen),_,rfl,da,_,rfl,aht,_,_,rfl,rfl,_,rfl,rK (fun c2=>?_) (fun c2=>?_)⟩
  ·rw[bb,lo]at c2
   exact⟨_,rfl,x,dx,_,rfl,R5,rfl,_,rfl,x,go,ms,wt,iw,(ds.length:Int),ws,ks,rfl,⟨dx,R5⟩,abU,abM,ndk,lw,lk,yes (.inr #[0])⟩
  ·rw[bb,lo]at c2
   exact⟨_,rfl,x,dx,_,rfl,R5,rfl,_,rfl,x,go,ms,wt,iw,g,ws,ks,rfl,⟨dx,R5⟩,abU,abM,ndk,lw,lk,fin g (fun h=>absurd h (fun z=>by
    rcases z with z|z
    ·exact c z
    ·exact c2 #[0])) (fun _=>rfl)⟩
end
def aw(many:Nat)(q:Int):Prop:=0<=q/\q<(many:Int)
structure acV(many:Nat)(cols:List (Int->Int))(sg:Int->Int)(R:Int->Int->Prop):Prop where
 sgn:∀ x y,R x y->sg x=sg y
 led:∀ x y,R x y->∀ c∈cols,R (c x) (c y)
structure O5(many:Nat)(cols:List (Int->Int))(sg:Int->Int)(R:Int->Int->Prop)(grp:Int->Int)(W:Int->Prop):Prop where
 coarse:∀ x y,aw many x->aw many y->R x y->grp x=grp y
 signs:∀ x y,aw many x->aw many y->grp x=grp y->sg x=sg y
 cong:∀ x y,aw many x->aw many y->grp x=grp y->∀ c∈cols,grp (c x)=grp (c y)\/W (grp (c x))\/W (grp (c y))
structure wm(many:Nat)(cols:List (Int->Int))(sg:Int->Int)(R:Int->Int->Prop)(grp:Int->Int)(W:Int->Prop)(S:Int->Prop)(k:Nat):Prop where
 coarse:∀ x y,aw many x->aw many y->R x y->grp x=grp y
 signs:∀ x y,aw many x->aw many y->grp x=grp y->sg x=sg y
 whole:∀ x y,aw many x->aw many y->R x y->S x->S y
 cong:∀ x y,aw many x->aw many y->grp x=grp y->∀ (j:Nat) (c:Int->Int),cols[j]?=some c ->
  grp (c x)=grp (c y)\/W (grp (c x))\/W (grp (c y))\/(k<=j/\((S (c x)/\¬ S (c y))\/(S (c y)/\¬ S (c x))))
section
variable{cols:List (Int->Int)}{R:Int->Int->Prop}{W S:Int->Prop}{k:Nat}
theorem O5.pop(h:O5 many cols sg R grp W)(hc:∀ x,aw many x->∀ c∈cols,aw many (c x))(s:Int):wm many cols sg R grp (fun g=>W g/\g≠s) (fun q=>grp q=s) 0 where
 coarse:=h.coarse
 signs:=h.signs
 whole:=fun x y hx hy r e=>(h.coarse x y hx hy r).symm.trans e
 cong:=fun x y hx hy e j c hj=>by
  have cm:=oY hj
  rcases Classical.em (grp (c x)=grp (c y))with q|q
  ·exact .inl q
  rcases Classical.em (grp (c x)=s)with a|a
  ·exact .inr (.inr (.inr ⟨je _,.inl ⟨a,fun b=>q (a.trans b.symm)⟩⟩))
  rcases Classical.em (grp (c y)=s)with b|b
  ·exact .inr (.inr (.inr ⟨je _,.inr ⟨b,a⟩⟩))
  rcases h.cong x y hx hy e c cm with z|z|z
  ·exact .inl z
  ·exact .inr (.inl ⟨z,a⟩)
  ·exact .inr (.inr (.inl ⟨z,b⟩))
theorem wm.done(h:wm many cols sg R grp W S cols.length):O5 many cols sg R grp W where
 coarse:=h.coarse
 signs:=h.signs
 cong:=fun x y hx hy e c cm=>by
  obtain⟨j,hj⟩:=JH.mp cm
  rcases h.cong x y hx hy e j c hj with z|z|z|⟨z,_⟩
  ·exact .inl z
  ·exact .inr (.inl z)
  ·exact .inr (.inr z)
  ·have:=(fV hj).1
   omega
theorem wm.split(h:wm many cols sg R grp W S k)(sym:∀ x y,R x y->R y x)(hc:∀ x,aw many x->∀ c∈cols,aw many (c x)){L:Int->Prop}{n:Int}{W':Int->Prop}(hL:∀ x y,aw many x->aw many y->R x y->L x->L y)(nn:∀ x,aw many x->grp x≠n)(w1:∀ g,W g->W' g)(w2:W b->W' n)(w3:W' n\/W' b)(g1:∀ x,aw many x->grp x=b->L x->RV x=n)(g2:∀ x,aw many x->¬ (grp x=b/\L x)->RV x=grp x):
  wm many cols sg R RV W' S k:=by
 have back:∀ x y,aw many x->aw many y->RV x=RV y->grp x=grp y/\(grp x=b->(L x↔L y)):=fun x y hx hy e=>by
  rcases Classical.em (grp x=b/\L x)with q|q
  ·rcases Classical.em (grp y=b/\L y)with p|p
   ·exact⟨q.1.trans p.1.symm,fun _=>⟨fun _=>p.2,fun _=>q.2⟩⟩
   ·rw[g1 x hx q.1 q.2,g2 y hy p]at e
    exact absurd e.symm (nn y hy)
  ·rcases Classical.em (grp y=b/\L y)with p|p
   ·rw[g2 x hx q,g1 y hy p.1 p.2]at e
    exact absurd e (nn x hx)
   ·rw[g2 x hx q,g2 y hy p]at e
    exact⟨e,fun eb=>⟨fun lx=>absurd ⟨eb,lx⟩ q,fun ly=>absurd ⟨e.symm.trans eb,ly⟩ p⟩⟩
 have wait:∀ x,aw many x->W (grp x)->W' (RV x):=fun x hx w=>by
  rcases Classical.em (grp x=b/\L x)with q|q
  ·rw[g1 x hx q.1 q.2]
   exact w2 (q.1 ▸ w)
  ·rw[g2 x hx q]
   exact w1 _ w
 refine⟨fun x y hx hy r=>?_,fun x y hx hy e=>h.signs x y hx hy (back x y hx hy e).1,h.whole,fun x y hx hy e j c hj=>?_⟩
 ·have e:=h.coarse x y hx hy r
  rcases Classical.em (grp x=b/\L x)with q|q
  ·rw[g1 x hx q.1 q.2,g1 y hy (e.symm.trans q.1) (hL x y hx hy r q.2)]
  ·have p:¬ (grp y=b/\L y):=fun p=>q ⟨e.trans p.1,hL y x hy hx (sym x y r) p.2⟩
   rw[g2 x hx q,g2 y hy p,e]
 ·have cm:=oY hj
  have hcx:=hc x hx c cm
  have hcy:=hc y hy c cm
  rcases h.cong x y hx hy (back x y hx hy e).1 j c hj with z|z|z|z
  ·rcases Classical.em (grp (c x)=b/\L (c x))with q|q
   ·rcases Classical.em (grp (c y)=b/\L (c y))with p|p
    ·exact .inl (by rw[g1 _ hcx q.1 q.2,g1 _ hcy p.1 p.2])
    ·have ex:=g1 _ hcx q.1 q.2
     have ey:=g2 _ hcy p
     rcases w3 with a|a
     ·exact .inr (.inl (by rw[ex];exact a))
     ·exact .inr (.inr (.inl (by rw[ey,<- z,q.1];exact a)))
   ·rcases Classical.em (grp (c y)=b/\L (c y))with p|p
    ·have ex:=g2 _ hcx q
     have ey:=g1 _ hcy p.1 p.2
     rcases w3 with a|a
     ·exact .inr (.inr (.inl (by rw[ey];exact a)))
     ·exact .inr (.inl (by rw[ex,z,p.1];exact a))
    ·exact .inl (by rw[g2 _ hcx q,g2 _ hcy p,z])
  ·exact .inr (.inl (wait _ hcx z))
  ·exact .inr (.inr (.inl (wait _ hcy z)))
  ·exact .inr (.inr (.inr z))
theorem wm.next(h:wm many cols sg R grp W S k)(hk:cols[k]?=some c)(hn:∀ x y,aw many x->aw many y->grp x=grp y->S (c x)->S (c y)):wm many cols sg R grp W S (k+1) where
 coarse:=h.coarse
 signs:=h.signs
 whole:=h.whole
 cong:=fun x y hx hy e j c' hj=>by
  rcases h.cong x y hx hy e j c' hj with z|z|z|⟨kj,z⟩
  ·exact .inl z
  ·exact .inr (.inl z)
  ·exact .inr (.inr (.inl z))
  ·rcases Jd k j with l|l
   ·exact .inr (.inr (.inr ⟨l,z⟩))
   ·have ej:j=k:=by omega
    subst ej
    rw[hk]at hj
    cases hj
    rcases z with⟨a,b⟩|⟨a,b⟩
    ·exact absurd (hn x y hx hy e a) b
    ·exact absurd (hn y x hy hx e.symm a) b
theorem O5.afA(h:O5 many cols sg R grp W)(hw:∀ x,aw many x->¬ W (grp x))(hc:∀ x,aw many x->∀ c∈cols,aw many (c x)):∀ x y,aw many x->aw many y->grp x=grp y->∀ c∈cols,grp (c x)=grp (c y):=fun x y hx hy e c cm=>by
 rcases h.cong x y hx hy e c cm with z|z|z
 ·exact z
 ·exact absurd z (hw _ (hc x hx c cm))
 ·exact absurd z (hw _ (hc y hy c cm))
theorem O5.single(inj:∀ x y,aw many x->aw many y->grp x=grp y->x=y):∀ x y,aw many x->aw many y->grp x=grp y->∀ c∈cols,grp (c x)=grp (c y):=fun x y hx hy e c _=>by rw[inj x y hx hy e]
end
theorem O5.start{cols:List (Int->Int)}{R:Int->Int->Prop}(l:acV many cols sg R){W:Int->Prop}(hg:∀ x y,aw many x->aw many y->(grp x=grp y↔sg x=sg y))(hw:∀ x,aw many x->W (grp x))(hc:∀ x,aw many x->∀ c∈cols,aw many (c x)):O5 many cols sg R grp W where
 coarse:=fun x y hx hy r=>(hg x y hx hy).mpr (l.sgn x y r)
 signs:=fun x y hx hy e=>(hg x y hx hy).mp e
 cong:=fun x y hx hy _ c cm=>.inr (.inl (hw _ (hc x hx c cm)))
theorem iz:∀ {xs ys:LI},xs.Nodup->(∀ x∈xs,x∈ys)->xs.length<=ys.length
 | [],_,_,_=>je _
 | x :: xs,ys,nd,h=>by
  have n:=JE.mp nd
  have m:=h x jE
  have i:=iz (xs:=xs) (ys:=ys.erase x) n.2 fun y hy=>by
   have e:y≠x:=fun z=>n.1 (z ▸ hy)
   exact(ZE e).mpr (h y (jK _ hy))
  rw[zg m]at i
  have:=zH m
  rw[jc]
  omega
theorem N7{ys:LI}(nd:xs.Nodup)(h:∀ x∈xs,x∈ys)(l:ys.length<=xs.length):∀ y∈ys,y∈xs:=fun y hy=>Classical.byContradiction fun z=>by
 have:=iz (xs:=y :: xs) (ys:=ys) (JE.mpr ⟨z,nd⟩) fun q hq=>by
  rcases jS.mp hq with r|r
  ·rw[r];exact hy
  ·exact h q r
 rw[jc]at this
 omega
theorem LU{n:Int}:∀ {done gs:LI} {x:Nat},x<gs.length->(∀ q∈done,0<=q)->(setG gs done n).getD x 0=if (x:Int)∈done then n else gs.getD x 0
 | [],gs,x,_,_=>by rw[if_neg #[11]];rfl
 | q :: r,gs,x,hx,h=>by
  have ih:=LU (gs:=gs.set q.toNat n) (n:=n) (done:=r) (x:=x) (by rw[ZA];exact hx) fun p hp=>h p (jK _ hp)
  show(setG (gs.set q.toNat n) r n).getD x 0=_
  rw[ih]
  have q0:=h q jE
  by_cases c:(x:Int)∈r
  ·rw[if_pos c,if_pos (jK _ c)]
  ·rw[if_neg c]
   by_cases d:(x:Int)=q
   ·rw[if_pos (by rw[d];exact jE)]
    have e:q.toNat=x:=by omega
    rw[e,jQ,Jr hx]
    rfl
   ·rw[if_neg (fun z=>(jS.mp z).elim d c)]
    have e:q.toNat≠x:=by omega
    rw[jQ,Jw e,jQ]
def br(gs:LI)(q:Int):Int:=gs.getD q.toNat 0
theorem LV{n:Int}(h0:0<=q)(h1:q<(gs.length:Int))(hi:∀ p∈ins,0<=p):br (setG gs ins n) q=if q∈ins then n else br gs q:=by
 have h:=LU (n:=n) (done:=ins) (gs:=gs) (x:=q.toNat) #[0] hi
 rw[jm h0]at h
 exact h
structure B3(H:Hp)(C x go ms wt iw:Qu)(many:Nat)(gs:LI)(ds:List Qu)(ws:LI):Prop where
 pt:IE H C x go ms wt iw
 go_:H go=some (.lst (gs.map V.int))
 ms_:H ms=some (.lst (ds.map V.ref))
 wt_:H wt=some (.lst (ws.map V.int))
 iw_:H iw=some (.dK (dh ws))
 lg:gs.length=many
 val:∀ q,aw many q->0<=br gs q/\br gs q<(ds.length:Int)
 mem:∀ (i:Nat) (da:Qu),ds[i]?=some da->∃ mem:LI,H da=some (.dK (dh mem))/\mem.Nodup/\mem≠[]/\∀ q,q∈mem↔aw many q/\br gs q=(i:Int)
 dn:ds.Nodup
 ndi:iw∉ds
 n1:go≠ms
 n2:go≠wt
 n3:ms≠wt
 wn:ws.Nodup
 wv:∀ g∈ws,0<=g/\g<(ds.length:Int)
section
variable{x:Qu}
theorem B3.at_(h:B3 H C x go ms wt iw many gs ds ws){d:Qu}(hd:d∈ds):∃ mem:LI,H d=some (.dK (dh mem)):=by
 obtain⟨i,hi⟩:=JH.mp hd
 obtain⟨mem,h1,_⟩:=h.mem i d hi
 exact⟨mem,h1⟩
theorem B3.same(h:B3 H C x go ms wt iw many gs ds ws)(s:aB H H'):B3 H' C x go ms wt iw many gs ds ws:=
 ⟨h.pt.same s,s _ _ h.go_,s _ _ h.ms_,s _ _ h.wt_,s _ _ h.iw_,h.lg,h.val,fun i da hi=>by
  obtain⟨mem,h1,h2,h3,h4⟩:=h.mem i da hi
  exact⟨mem,s _ _ h1,h2,h3,h4⟩,h.dn,h.ndi,h.n1,h.n2,h.n3,h.wn,h.wv⟩
theorem B3.Hr(h:B3 H C x go ms wt iw many gs ds ws):ds.length<=many:=by
 have t:=iz (xs:=(jO ds.length).map fun i:Nat=>(i:Int)) (ys:=gs) (Jv.mpr (List.nodup_range.imp fun {a b} n z=>n (by
  have z':(a:Int)=(b:Int):=z
  omega))) (fun g hg=>by
  obtain⟨i,hi,rfl⟩:=jN.mp hg
  have il:=jq.mp hi
  obtain⟨mem,_,_,ne,iff⟩:=h.mem i _ (jC il)
  obtain⟨q,r,rfl⟩:=ZR ne
  obtain⟨⟨q0,q1⟩,e⟩:=(iff q).mp jE
  have l:q.toNat<gs.length:=by rw[h.lg];omega
  unfold br at e
  rw[getD_at l]at e
  rw[<- e]
  exact jG l)
 rw[bb,jT,h.lg]at t
 exact t
theorem B3.am6(h:B3 H C x go ms wt iw many gs ds ws):ws.length<=ds.length:=bS ds.length h.wn h.wv
theorem B3.split{da E:Qu}{g nw:Int}(h:B3 H C x go ms wt iw many gs ds ws)(g0:0<=g)(rH:ds[g.toNat]?=some da)(Ei:H da=some (.dK (dh mem)))(hm:∀ q,q∈mem↔aw many q/\br gs q=g)(nm:mem.Nodup)(ndi:ins.Nodup)(oV:∀ q∈ins,q∈mem)(R3:ins≠[])(lt:ins.length<mem.length)(fE:H E=none)(hE:H' E=some (.dK (dh ins)))(Hw:H' ms=some (.lst ((ds++[E]).map V.ref)))(hd':H' da=some (.dK (dh (outF mem ins))))(J8:H' go=some (.lst ((setG gs ins (ds.length:Int)).map V.int)))(Dt:H' wt=some (.lst ((ws++[nw]).map V.int)))(Eu:H' iw=some (.dK (dh (if nw∈ws then ws else ws++[nw]))))(hnw:nw∉ws)(nwv:nw=(ds.length:Int)\/nw=g)(kp:∀ c u,c≠go->c≠ms->c≠da->c≠wt->c≠iw->H c=some u->H' c=some u):B3 H' C x go ms wt iw many (setG gs ins (ds.length:Int)) (ds++[E]) (ws++[nw]):=by
 have gl:g.toNat<ds.length:=(fV rH).1
 have ip:∀ p∈ins,0<=p:=fun p hp=>((hm p).mp (oV p hp)).1.1
 have gr:∀ q,aw many q->br (setG gs ins (ds.length:Int)) q=if q∈ins then(ds.length:Int)else br gs q:=fun q hq=>LV hq.1 (by rw[h.lg];exact hq.2) ip
 have eE:E∉ds:=fun z=>by
  obtain⟨m,hm⟩:=h.at_ z
  rw[fE]at hm
  cases hm
 obtain⟨dx,hx⟩:=h.pt.ob
 refine⟨⟨dx,kp _ _ (aG hx h.go_ #[1]) (aG hx h.ms_ #[1]) (aG hx Ei #[1]) (aG hx h.wt_ #[1]) (aG hx h.iw_ #[1]) hx⟩,J8,Hw,Dt,by rw[if_neg hnw]at Eu;exact Eu,by rw[LW];exact h.lg,fun q hq=>?_,fun i d hi=>?_,?_,?_,h.n1,h.n2,h.n3,Av h.wn hnw,fun p hp=>?_⟩
 ·rw[gr q hq,jL,js]
  have v:=h.val q hq
  split<;>omega
 ·rcases snoc_cases hi with hi|⟨rfl,rfl⟩
  ·have il:=(fV hi).1
   by_cases c:d=da
   ·subst c
    have ei:i=g.toNat:=by
     have e1:=(fV hi).2
     have e2:=(fV rH).2
     exact(JT h.dn).mp (e1.trans e2.symm)
    refine⟨outF mem ins,hd',nm.filter _,fun z=>?_,fun q=>?_⟩
    ·have all:∀ q∈mem,q∈ins:=fun q hq=>Classical.byContradiction fun n=>by
      have:q∈outF mem ins:=JD.mpr ⟨hq,decide_eq_true n⟩
      rw[z]at this
      cases this
     have:=iz nm all
     omega
    ·unfold outF
     rw[JD,hm,ei,jm g0]
     constructor
     ·rintro⟨⟨h1,h2⟩,h3⟩
      exact⟨h1,by rw[gr q h1,if_neg (of_decide_eq_true h3)];exact h2⟩
     ·rintro⟨h1,h2⟩
      rw[gr q h1]at h2
      by_cases n:q∈ins
      ·rw[if_pos n]at h2
       omega
      ·rw[if_neg n]at h2
       exact⟨⟨h1,h2⟩,decide_eq_true n⟩
   ·obtain⟨m2,h1,h2,h3,h4⟩:=h.mem i d hi
    refine⟨m2,kp _ _ (aG h1 h.go_ #[1]) (aG h1 h.ms_ #[1]) c (aG h1 h.wt_ #[1]) (fun z=>h.ndi (z ▸ oY hi)) h1,h2,h3,fun q=>?_⟩
    have ni:(i:Int)≠g:=fun z=>by
     have e:i=g.toNat:=by omega
     rw[e,rH]at hi
     exact c (Option.some.inj hi).symm
    rw[h4]
    refine and_congr_right fun hq=>?_
    rw[gr q hq]
    by_cases n:q∈ins
    ·have e:=((hm q).mp (oV q n)).2
     rw[if_pos n,e]
     constructor<;>intro z<;>omega
    ·rw[if_neg n]
  ·refine⟨ins,hE,ndi,R3,fun q=>?_⟩
   constructor
   ·intro hq
    have r:=((hm q).mp (oV q hq)).1
    exact⟨r,by rw[gr q r,if_pos hq]⟩
   ·rintro⟨hq,e⟩
    rw[gr q hq]at e
    by_cases n:q∈ins
    ·exact n
    ·rw[if_neg n]at e
     have:=h.val q hq
     omega
 ·refine JU.mpr ⟨h.dn,JE.mpr ⟨by simp,Jx⟩,fun a ha b hb=>?_⟩
  rw[jJ.mp hb]
  exact fun z=>eE (z ▸ ha)
 ·intro z
  rcases tT.mp z with z|z
  ·exact h.ndi z
  ·have e:=jJ.mp z
   rw[<- e,h.iw_]at fE
   cases fE
 ·rw[jL,js]
  rcases tT.mp hp with z|z
  ·have:=h.wv p z
   omega
  ·rw[jJ.mp z]
   rcases nwv with e|e<;>omega
end
def abn(many:Nat)(L gs:LI)(n:Nat)(ws tF AN:LI):Prop := ∃ b nw:Int,AN=ws++[nw]/\(nw=(n:Int)\/nw=b)/\(b∈ws->nw=(n:Int))/\(∀ q,aw many q->br gs q=b->q∈L->br tF q=(n:Int))/\(∀ q,aw many q->¬ (br gs q=b/\q∈L)->br tF q=br gs q)
def L6(C:Qu):Sp:=fun vs H Q _=>∃ (x go ms wt iw ll:Qu) (many:Nat) (gs ws L:LI) (ds:List Qu) (J:LI->Nat->LI->Prop),vs=[.ref x,.ref ll]/\B3 H C x go ms wt iw many gs ds ws/\many<1000/\H ll=some (.lst (L.map V.int))/\(ll≠go/\ll≠ms/\ll≠wt)/\L.Nodup/\(∀ q∈L,aw many q)/\J gs ds.length ws /\
 (∀ gs n ws tF AN,J gs n ws->(∀ q,aw many q->0<=br gs q/\br gs q<(n:Int))->abn many L gs n ws tF AN->J tF (n+1) AN) /\
 ∀ (H':Hp) (tF AN:LI) (more:List Qu),B3 H' C x go ms wt iw many tF (ds++more) AN->J tF (ds++more).length AN->(∀ a b,aw many a->aw many b->br tF a=br tF b->a∈L->b∈L)->(∀ d∈more,H d=none)->(∀ c u,c≠go->c≠ms->c≠wt->c≠iw->c∉ds->H c=some u->H' c=some u)->Q .non H'
section
theorem cR:aH ["self","leading","touched","here","group","inside"] ["self","leading"] (av iE):=cW #[3]
theorem Sr(F:bG K "part_by" "Parted.part_by" iE dV f fd)(pc:IC K C)(pC:rL P w K mg base C "split_off" 2 ["self","group","inside"] (Rb K C))(bh:mg "len" = none):bu P w K mg base eM 3 f fd ["self","leading"] (L6 C):=by
 refine F.ok cR #[7] #[2]
 ·obtain⟨x,go,ms,wt,iw,ll,many,gs,ws,L,ds,J,rfl,_⟩:=h
  rfl
 obtain⟨x,go,ms,wt,iw,ll,many,gs,ws,L,ds,J,rfl,S,aod,hll,⟨l1,l2,l3⟩,ndL,hL,j0,jst,k⟩:=h
 have hu:=oW hr
 obtain⟨dx,hx⟩:=S.pt.ob
 have apn:L.length<=many:=bS many ndL hL
 have apl:=S.Hr
 refine⟨_,(ah (aC (i:=2) cR.nd sI)
   (ah (bX PassesOwn.never rfl (cC (pv 1)) (aS (i:=3) cR.nd) (ao (bD (fA Yy Yz yA bE (Cz (pv 2) (aN dS (dP (pv 0) rfl) (pv 3) #[5]) (cf af) ⟨rfl,rfl,rfl,rfl⟩) (aa (pv 3) af)))))
   (ao (bX PassesOwn.never rfl (aat (Om yd Xs PySem.F.type_dict_items Y1 (pv 2))) (wG rfl (bL (aS (i:=4) cR.nd) (bL (aS (i:=5) cR.nd) oj))) (ao (cz (aU Lx (aA aI #[41] bh bW (aa (pv 5) af)) (aA tu #[41] bh bW (aa (aN dS (dP (pv 0) rfl) (pv 4) #[5]) af)) (aY _)) (ao (bD (FH pC hr (pv 0) (aa (pv 4) (aa (pv 5) af))))) bg)))))),?_⟩
 refine fun B hB=>?_
 have s0:=ak hB (HO.dK [])
 try dsimp only[bB,dG]
 refine eO (t:=Ec _ _ _) (fun σ' H'=>∃ (es:List (Int×Qu)) (v:OV),σ'=[some (.ref x),some (.ref ll),some (.ref B),v,none,none]/\aB H H'/\cG H H' B es (fun q ls=>ls=L.filter fun h=>decide (br gs h=q))/\∀ e∈es,∃ h∈L,br gs h=e.1) ?_ (fun D' dU=>?_)
 rotate_left
 ·have b0:cG H (upd H B (.dK [])) B [] (fun q ls=>ls=(L.take 0).filter fun h=>decide (br gs h=q)):=⟨ae,List.Pairwise.nil,List.Pairwise.nil,(fun e h=>by cases h),(fun e h=>by cases h),fun q _=>rfl⟩
  exists _,rfl,ll,rfl,⟨_,bZ (s0 _ _ hll)⟩
  refine dW (K:=K) (xs:=L.map V.int) (fun i σ' H'=>∃ (es:List (Int×Qu)) (v:OV),σ'=[some (.ref x),some (.ref ll),some (.ref B),v,none,none]/\aB H H'/\cG H H' B es (fun q ls=>ls=(L.take i).filter fun h=>decide (br gs h=q))/\∀ e∈es,∃ h∈L,br gs h=e.1) ⟨[],none,rfl,s0,b0,fun e h=>by cases h⟩ (fun i σ' H' _ ⟨_,_,_,e,_,_⟩=>bZ (e _ _ hll)) ?_ ?_
  ·rintro i y σ' H2 hi ⟨es,v,rfl,s2,b2,kr⟩
   obtain⟨h,rfl,hh⟩:=bw hi
   have hm:=oY hh
   have il:=(fV hh).1
   have oV:=hL h hm
   have gv:=S.val h oV
   have at':tW (gs.map V.int) h=some (.int (br gs h)):=cu oV.1 (by rw[S.lg];exact oV.2)
   refine⟨_,rfl,B,rfl,.inl ⟨_,.inl b2.at_⟩,_,rfl,x,C,dx,_,_,rfl,s2 _ _ hx,pc.cl,pc.ng,rfl,_,rfl,go,_,_,_,rfl,rfl,bZ (s2 _ _ S.go_),at',#[15],fun La Pt=>?_⟩
   have sL:=ak Pt (HO.lst [])
   have b3:=b2.same sL
   have nL:∀ e∈es,e.2≠La:=fun e he z=>by
    obtain⟨ls,h1,_⟩:=b2.lst e he
    rw[z,Pt]at h1
    cases h1
   have nLB:B≠La:=ar b2.at_ Pt
   have fL:H La=none:=s2.free Pt
   have Hr:=bS ds.length b3.nd (fun q hq=>by
    obtain⟨e,he,rfl⟩:=jN.mp hq
    obtain⟨p,hp,ep⟩:=kr e he
    rw[<- ep]
    exact S.val p (hL p hp))
   rw[bb]at Hr
   have len:(tS es).length<sizeLine:=ay (by unfold tS;rw[bb];omega)
   have et:L.take (i+1)=L.take i++[h]:=by rw[jW,hh];rfl
   have oth:∀ (p:Int) (ls:LI),p≠br gs h->(ls=(L.take i).filter fun h=>decide (br gs h=p))->ls=(L.take (i+1)).filter fun h=>decide (br gs h=p):=fun p ls np z=>by
    rw[et,JW,JN (by rw[decide_eq_false (Ne.symm np)];decide),Zn,JA]
    exact z
   have grow:∀ ls:LI,(ls=(L.take i).filter fun q=>decide (br gs q=br gs h))->ls++[h]=(L.take (i+1)).filter fun q=>decide (br gs q=br gs h):=fun ls z=>by
    have e1:[h].filter (fun q=>decide (br gs q=br gs h))=[h]:=by simp
    rw[et,JW,e1,z]
   refine⟨_,Sum.inl (br gs h),b3.at_,rfl,len,fun v hv=>?_,fun hn=>?_⟩
   ·obtain⟨la,ls,rfl,hme,V1,hp⟩:=b3.get hv
    have pl:ls.length<=i:=by
     rw[hp]
     exact ji (Jk _ _) (by rw[jX];omega)
    have lz:(ls.map V.int).length<sizeLine:=ay #[36]
    exists .inl ⟨rfl,_,bZ V1⟩,_,rfl,la,_,_,rfl,rfl,V1,lz
    exact⟨es,_,rfl,ax (s2.trans sL) (b2.fresh _ hme),b3.old hme V1 (grow ls hp) oth,kr⟩
   ·have hq:br gs h∉es.map Prod.fst:=fun z=>by
     obtain⟨e,he,ee⟩:=jN.mp z
     obtain⟨jj,hjj⟩:=JH.mp he
     have:=Bm b3.nd (q:=e.1) (a:=e.2) hjj
     rw[ee,hn]at this
     cases this
    have AQ:(upd (upd H2 La (HO.lst [])) B (HO.dK (putK (tS es) (Sum.inl (br gs h)) (V.ref La)))) La=some (.lst []):=by rw[aj (Ne.symm nLB),ae]
    refine⟨.inl ⟨rfl,_,bZ AQ⟩,_,rfl,La,_,_,rfl,rfl,AQ,(by show 0<sizeLine;decide),?_⟩
    refine⟨es++[(br gs h,La)],_,rfl,ax (ax (s2.trans sL) hB) fL,b3.new hq ae fL nL (grow [] (b3.non _ hq)) oth,fun e he=>?_⟩
    rcases tT.mp he with z|z
    ·exact kr e z
    ·rw[jJ.mp z]
     exact⟨h,hm,rfl⟩
  ·rintro σ' H1 ⟨es,v,rfl,s1,b1,kr⟩
   rw[bb,jY]at b1
   exact dU _ _ ⟨es,v,rfl,s1,b1,kr⟩
 rintro σ' H1 ⟨es,v,rfl,s1,b1,kr⟩
 refine⟨_,rfl,.inr (.inr (.inl ⟨rfl,.inl ⟨_,b1.at_⟩⟩)),B,_,rfl,rfl,b1.at_,fun vw hvw=>?_⟩
 have nBv:B≠vw:=ar b1.at_ hvw
 refine⟨vw,B,tS es,rfl,ae,by rw[aj nBv];exact b1.at_,fun o=>?_⟩
 have fvw:H vw=none:=s1.free hvw
 obtain⟨H2,Ho⟩:∃ H2,upd (upd H1 vw (wW vw B)) B (.pB o (.dK (tS es)))=H2:=⟨_,rfl⟩
 have s2:aB H H2:=by rw[<- Ho];exact ax (ax s1 fvw) hB
 have hB2:H2 B=some (.pB o (.dK (tS es))):=by rw[<- Ho,ae]
 have ls2:∀ e∈es,H2 e.2=some (.lst ((L.filter fun h=>decide (br gs h=e.1)).map V.int)):=fun e he=>by
  obtain⟨ls,h1,h2⟩:=b1.lst e he
  rw[<- Ho,aj (aG h1 b1.at_ #[1]),aj (ar h1 hvw),h1,h2]
 rw[Ho]
 have ndk:=b1.nd
 have lk:(tS es).length=es.length:=by unfold tS;rw[bb]
 refine RQ (o:=o) (kvs:=tS es) (fun i σ' H'=>∃ (tF AN:LI) (more:List Qu) (v1 v2 v3:OV),σ'=[some (.ref x),some (.ref ll),some (.ref B),v1,v2,v3]/\B3 H' C x go ms wt iw many tF (ds++more) AN/\J tF (ds++more).length AN/\(∀ d∈more,H d=none)/\H' B=some (.pB o (.dK (tS es))) /\
   (∀ e∈es,H' e.2=some (.lst ((L.filter fun h=>decide (br gs h=e.1)).map V.int)))/\(∀ c u,c≠go->c≠ms->c≠wt->c≠iw->c∉ds->H c=some u->H' c=some u)/\(∀ q,aw many q->br gs q∉(es.take i).map Prod.fst->br tF q=br gs q) /\
   (∀ a b,aw many a->aw many b->br tF a=br tF b->br gs a=br gs b/\(br gs a∈(es.take i).map Prod.fst->(a∈L↔b∈L))))
  ⟨gs,ws,[],v,none,none,rfl,by rw[JA];exact S.same s2,by rw[JA];exact j0,(fun d hd=>by cases hd),hB2,ls2,(fun c u _ _ _ _ _ e=>s2 _ _ e),(fun _ _ _=>rfl),fun a b _ _ e=>⟨e,fun z=>by rw[ZK]at z;cases z⟩⟩
  (fun i σ' H' _ ⟨_,_,_,_,_,_,_,_,_,_,e,_,_,_,_⟩=>e) ?_ ?_
 ·rintro i p σ' H3 T hi ⟨tF,AN,more,v1,v2,v3,rfl,S3,j3,fm,hB3,ls3,Ir,ga,gb⟩ hT
  obtain⟨e,he,rfl⟩:∃ e,es[i]?=some e/\p=(Sum.inl e.1,V.ref e.2):=by
   unfold tS at hi
   rw[jV]at hi
   obtain⟨e,h1,h2⟩:=zG.mp hi
   exact⟨e,h1,h2.symm⟩
  obtain⟨b,il⟩:=e
  have hme:=oY he
  have ilt:i<es.length:=(fV he).1
  have sT:=ak hT (HO.tup [V.int b,V.ref il])
  exists T,_,rfl,cj ae,rfl,_,_,rfl,_,_,rfl,rfl
  obtain⟨H4,Bc⟩:∃ H4,upd H3 T (HO.tup [V.int b,V.ref il])=H4:=⟨_,rfl⟩
  have sT':aB H3 H4:=by rw[<- Bc];exact sT
  have akf:upd H3 T (HO.tup [kV (Sum.inl b),V.ref il])=H4:=Bc
  try rw[Bc]
  try rw[akf]
  have S4:=S3.same sT'
  obtain⟨dx4,R5⟩:=S4.pt.ob
  obtain⟨h0,h0m,e0⟩:=kr _ hme
  have bv:=S.val h0 (hL h0 h0m)
  rw[e0]at bv
  have bl:b.toNat<ds.length:=by omega
  have rH:(ds++more)[b.toNat]?=some ds[b.toNat]:=by rw[JB bl,jC bl]
  obtain⟨da,eda⟩:∃ da,ds[b.toNat]=da:=⟨_,rfl⟩
  rw[eda]at rH
  obtain⟨mem,Ei,ndm,nem,hm⟩:=S4.mem b.toNat da rH
  rw[jm bv.1]at hm
  have at':tW ((ds++more).map V.ref) b=some (.ref da):=iJ bv.1 rH
  have aen:=sT' _ _ (ls3 _ hme)
  obtain⟨ins,adV⟩:∃ ins,(L.filter fun h=>decide (br gs h=b))=ins:=⟨_,rfl⟩
  have PD:H4 il=some (.lst (ins.map V.int)):=by rw[<- adV];exact aen
  have insm:∀ q,q∈ins↔q∈L/\br gs q=b:=fun q=>by
   rw[<- adV,JD]
   exact and_congr_right fun _=>⟨of_decide_eq_true,decide_eq_true⟩
  have N8:b∉(es.take i).map Prod.fst:=fun z=>by
   obtain⟨e,h1,h2⟩:=jN.mp z
   obtain⟨j,hj,ej⟩:=jk h1
   rw[jX]at hj
   rw[zo]at ej
   have e2:=(fV he).2
   have:(es.map Prod.fst)[j]'#[36]=(es.map Prod.fst)[i]'#[36]:=by
    rw[JC,JC,ej,e2]
    exact h2
   have:=(JT ndk).mp this
   omega
  have Dv:∀ q∈ins,q∈mem:=fun q hq=>by
   have h1:=(insm q).mp hq
   refine(hm q).mpr ⟨hL q h1.1,?_⟩
   rw[ga q (hL q h1.1) (by rw[h1.2];exact N8),h1.2]
  have PZ:ins.Nodup:=by rw[<- adV];exact ndL.filter _
  have aii:ins≠[]:=fun z=>by
   have:=(insm h0).mpr ⟨h0m,e0⟩
   rw[z]at this
   cases this
  have etk:(es.take (i+1)).map Prod.fst=(es.take i).map Prod.fst++[b]:=by rw[jW,he,jD];rfl
  have lkm:(dh mem).length=mem.length:=by unfold dh;rw[bb]
  have ngo:=S4.go_
  have nms:=S4.ms_
  have nwt:=S4.wt_
  have fil:H il=none:=b1.fresh _ hme
  have g1:go≠il:=fun z=>by rw[<- z,S.go_]at fil;cases fil
  have g2:ms≠il:=fun z=>by rw[<- z,S.ms_]at fil;cases fil
  have g3:wt≠il:=fun z=>by rw[<- z,S.wt_]at fil;cases fil
  have apo:=S4.Hr
  have apq:=S4.am6
  have akp:mem.length<=many:=bS many ndm fun q hq=>((hm q).mp hq).1
  have apm:ins.length<=mem.length:=iz PZ Dv
  refine⟨_,rfl,il,_,rfl,.inl (bZ PD),_,rfl,x,C,dx4,_,_,rfl,R5,pc.cl,pc.nm,rfl,_,rfl,ms,_,_,_,rfl,rfl,bZ nms,at',da,_,rfl,Ei,_,_,rfl,rfl,_,rfl,rK #[46] #[46]⟩
  ·rw[bb,lkm]at c
   have lt:ins.length<mem.length:=by omega
   have dsn:(ds++more).length<1000:=by omega
   refine⟨_,rfl,x,dx4,_,rfl,R5,rfl,_,rfl,_,rfl,x,go,ms,wt,iw,da,il,b,tF,AN,AN,mem,ins,ds++more,rfl,⟨dx4,R5⟩,ngo,nms,nwt,S4.iw_,S4.wn,⟨by omega,by omega,dsn,by omega⟩,bv.1,rH,Ei,PD,PZ,fun q hq=>?_,⟨S4.n1,S4.n2,g1,S4.n3,g2,g3,fun z=>S4.ndi (z ▸ oY rH)⟩,fun E nw H5 fE hE abO ak2 RY abV alf hy hn Sb=>?_⟩
   ·have h1:=(hm q).mp (Dv q hq)
    exact⟨Dv q hq,h1.1.1,by rw[S4.lg];exact h1.1.2⟩
   ·have nwv:nw=((ds++more).length:Int)\/nw=b:=by
     by_cases z:b∈AN\/ins.length<=(outF mem ins).length
     ·exact .inl (hy z)
     ·exact .inr (hn z)
    have nww:nw∉AN:=fun z=>by
     by_cases y:b∈AN\/ins.length<=(outF mem ins).length
     ·have:=S4.wv nw z
      rw[hy y]at this
      omega
     ·rw[hn y]at z
      exact y (.inl z)
    have S5:=S4.split bv.1 rH Ei hm ndm PZ Dv aii lt fE hE abO ak2 RY abV alf nww nwv Sb
    have ip:∀ p∈ins,0<=p:=fun p hp=>((hm p).mp (Dv p hp)).1.1
    have gr:∀ q,aw many q->br (setG tF ins ((ds++more).length:Int)) q=if q∈ins then((ds++more).length:Int)else br tF q:=fun q hq=>LV hq.1 (by rw[S4.lg];exact hq.2) ip
    have gh0:br tF h0=b:=by rw[ga h0 (hL h0 h0m) (by rw[e0];exact N8),e0]
    have inb:∀ q,aw many q->(q∈ins↔br tF q=b/\q∈L):=fun q hq =>
     ⟨fun z=>⟨((hm q).mp (Dv q z)).2,((insm q).mp z).1⟩,fun z=>(insm q).mpr ⟨z.2,by
      rw[(gb q h0 hq (hL h0 h0m) (z.1.trans gh0.symm)).1]
      exact e0⟩⟩
    have fE0:H E=none:=by
     cases e:H E with
     | none=>rfl
     | some u =>
      have:=sT' _ _ (Ir E u (fun z=>by rw[z,ngo]at fE;cases fE) (fun z=>by rw[z,nms]at fE;cases fE) (fun z=>by rw[z,nwt]at fE;cases fE) (fun z=>by rw[z,S4.iw_]at fE;cases fE) (fun z=>by
       obtain⟨m,hm⟩:=S4.at_ (jz _ z)
       rw[fE]at hm
       cases hm) e)
      rw[fE]at this
      cases this
    have hB4:=sT' _ _ hB3
    have dam:da∈ds:=eda ▸ jG bl
    refine⟨setG tF ins ((ds++more).length:Int),AN++[nw],more++[E],_,_,_,rfl,by rw[<- jv];exact S5,?_,fun d hd=>?_,Sb _ _ (aG hB4 ngo #[1]) (aG hB4 nms #[1]) (aG hB4 Ei #[1]) (aG hB4 nwt #[1]) (aG hB4 S4.iw_ #[1]) hB4,fun e he=>?_,fun c u c1 c2 c3 c4 c5 e=>Sb c u c1 c2 (fun z=>c5 (z ▸ dam)) c3 c4 (sT' _ _ (Ir c u c1 c2 c3 c4 c5 e)),fun q hq nq=>?_,fun a c ha hc e=>?_⟩
    ·have el:(ds++(more++[E])).length=(ds++more).length+1:=by simp only[jL,js];omega
     rw[el]
     exact jst tF _ AN _ _ j3 S4.val ⟨b,nw,rfl,nwv,fun z=>hy (.inl z),fun q hq e hl=>by rw[gr q hq,if_pos ((inb q hq).mpr ⟨e,hl⟩)],fun q hq n=>by rw[gr q hq,if_neg fun z=>n ((inb q hq).mp z)]⟩
    ·rcases tT.mp hd with z|z
     ·exact fm d z
     ·rw[jJ.mp z];exact fE0
    ·have fe:=b1.fresh e he
     have he4:=sT' _ _ (ls3 e he)
     exact Sb _ _ (fun z=>by rw[z,S.go_]at fe;cases fe) (fun z=>by rw[z,S.ms_]at fe;cases fe) (aG he4 Ei #[1]) (fun z=>by rw[z,S.wt_]at fe;cases fe) (aG he4 S4.iw_ #[1]) he4
    ·rw[etk]at nq
     rw[gr q hq,if_neg fun z=>nq (jR _ (by rw[((insm q).mp z).2];exact jE))]
     exact ga q hq fun z=>nq (jz _ z)
    ·rw[gr a ha,gr c hc]at e
     by_cases ai:a∈ins
     ·by_cases ci:c∈ins
      ·have h1:=(insm a).mp ai
       have h2:=(insm c).mp ci
       exact⟨h1.2.trans h2.2.symm,fun _=>⟨fun _=>h2.1,fun _=>h1.1⟩⟩
      ·rw[if_pos ai,if_neg ci]at e
       have:=S4.val c hc
       omega
     ·by_cases ci:c∈ins
      ·rw[if_neg ai,if_pos ci]at e
       have:=S4.val a ha
       omega
      ·rw[if_neg ai,if_neg ci]at e
       have g:=gb a c ha hc e
       refine⟨g.1,fun z=>?_⟩
       rw[etk]at z
       rcases tT.mp z with z|z
       ·exact g.2 z
       ·have za:=jJ.mp z
        exact⟨fun h=>absurd ((insm a).mpr ⟨h,za⟩) ai,fun h=>absurd ((insm c).mpr ⟨h,g.1.symm.trans za⟩) ci⟩
  ·rw[bb,lkm]at c
   have all:=N7 PZ Dv #[0]
   refine⟨tF,AN,more,_,_,_,rfl,S4,j3,fm,sT' _ _ hB3,(fun e he=>sT' _ _ (ls3 e he)),(fun c u c1 c2 c3 c4 c5 e=>sT' _ _ (Ir c u c1 c2 c3 c4 c5 e)),fun q hq nq=>?_,fun a c ha hc e=>?_⟩
   ·rw[etk]at nq
    exact ga q hq fun z=>nq (jz _ z)
   ·have g:=gb a c ha hc e
    refine⟨g.1,fun z=>?_⟩
    rw[etk]at z
    rcases tT.mp z with z|z
    ·exact g.2 z
    ·have za:=jJ.mp z
     have inL:∀ q,aw many q->br gs q=b->q∈L:=fun q hq eq=>((insm q).mp (all q ((hm q).mpr ⟨hq,by rw[ga q hq (by rw[eq];exact N8),eq]⟩))).1
     exact⟨fun _=>inL c hc (g.1.symm.trans za),fun _=>inL a ha za⟩
 ·rintro σ' H' ⟨tF,AN,more,v1,v2,v3,rfl,S3,j3,fm,hB3,ls3,Ir,ga,gb⟩
  rw[lk,jY]at gb
  refine k H' tF AN more S3 j3 (fun a b ha hb e hm=>?_) fm Ir
  have g:=gb a b ha hb e
  refine(g.2 (Classical.byContradiction fun z=>?_)).mp hm
  have:=b1.non _ z
  have h2:a∈L.filter fun h=>decide (br gs h=br gs a):=JD.mpr ⟨hm,decide_eq_true rfl⟩
  rw[<- this]at h2
  cases h2
end
def Reach(wide:Nat)(rows:LL)(q:Int):Prop := ∃ row:LI,(∀ f∈row,0<=f/\f<(wide:Int))/\aM rows row 0=q
theorem Reach.zero:Reach wide rows 0:=⟨[],(fun f h=>by cases h),rfl⟩
theorem Reach.step{wide:Nat}{rows:LL}{q f:Int}(h:Reach wide rows q)(f0:0<=f)(f1:f<(wide:Int)):Reach wide rows (stepI rows q f):=by
 obtain⟨row,hr,rfl⟩:=h
 refine⟨row++[f],fun g hg=>?_,by rw[bN];rfl⟩
 rcases tT.mp hg with z|z
 ·exact hr g z
 ·rw[jJ.mp z];exact⟨f0,f1⟩
theorem Reach.of{S:Int->Prop}(h0:S 0)(hs:∀ q,S q->∀ f,0<=f->f<(wide:Int)->S (stepI rows q f))(h:Reach wide rows q):S q:=by
 obtain⟨row,hr,rfl⟩:=h
 have go:∀ (row:LI) (p:Int),(∀ f∈row,0<=f/\f<(wide:Int))->S p->S (aM rows row p):=by
  intro row
  induction row with
  | nil=>intro p _ hp;exact hp
  | cons f r ih=>intro p hr hp;exact ih (stepI rows p f) (fun g hg=>hr g (jK _ hg)) (hs p hp f (hr f jE).1 (hr f jE).2)
 exact go row 0 hr h0
def dw(s:LI)(x:Int):LI:=if x∈s then s else s++[x]
def eD(rows:LL)(s:LI)(q:Int):LI:=(rows.getD q.toNat []).foldl dw s
theorem aay(h:y∈s):y∈dw s x:=by
 unfold dw
 split
 ·exact h
 ·exact jz _ h
theorem aax(s:LI)(x:Int):x∈dw s x:=by
 unfold dw
 split
 ·assumption
 ·exact jR _ jE
theorem wH:∀ (xs:LI) {s:LI} {y:Int},y∈s->y∈xs.foldl dw s
 | [],_,_,h=>h
 | x :: xs,_,_,h=>wH xs (aay h)
theorem DQ:∀ (xs:LI) {s:LI} {y:Int},y∈xs->y∈xs.foldl dw s
 | [],_,_,h=>by cases h
 | x :: xs,s,y,h=>by
  rcases jS.mp h with rfl|h
  ·exact wH xs (aax s y)
  ·exact DQ xs h
theorem tE(rows:LL):∀ (qs:LI) {s:LI} {y:Int},y∈s->y∈qs.foldl (eD rows) s
 | [],_,_,h=>h
 | q :: qs,_,_,h=>tE rows qs (wH _ h)
theorem oU(rows:LL):∀ (qs:LI) {s:LI} {q y:Int},q∈qs->y∈rows.getD q.toNat []->y∈qs.foldl (eD rows) s
 | [],_,_,_,h,_=>by cases h
 | p :: qs,s,q,y,h,hy=>by
  rcases jS.mp h with rfl|h
  ·exact tE rows qs (DQ _ hy)
  ·exact oU rows qs h hy
structure Bfs(many wide:Nat)(rows:LL)(qs:LI):Prop where
 eq:qs=qs.foldl (eD rows) [0]
 nd:qs.Nodup
 inr:∀ q∈qs,0<=q/\q<(many:Int)
 re:∀ q,q∈qs↔Reach wide rows q
def FT(K:Yv):Sp:=fun vs H Q _=>∃ (m r g:Qu) (many wide:Nat) (rows:LL) (signs:LI),vs=[.ref m,.int 0]/\bI H m r g wide rows signs/\aF many wide rows/\(1<=many/\many<=1000) /\
 ∀ (l:Qu) (H':Hp) (qs:LI),aB H H'->H' l=some (.lst (qs.map V.int))->Bfs many wide rows qs->Q (.ref l) H'
structure Found(many wide:Nat)(rows:LL)(dn ks:LI):Prop where
 eq:ks=dn.foldl (eD rows) [0]
 nd:ks.Nodup
 inr:∀ q∈ks,0<=q/\q<(many:Int)
 re:∀ q∈ks,Reach wide rows q
structure Part(many wide:Nat)(rows:LL)(dn:LI)(xs:LI)(ks:LI):Prop where
 eq:ks=xs.foldl dw (dn.foldl (eD rows) [0])
 nd:ks.Nodup
 inr:∀ q∈ks,0<=q/\q<(many:Int)
 re:∀ q∈ks,Reach wide rows q
theorem Part.put(F:Part many wide rows dn xs ks)(h:q∉ks)(q0:0<=q)(q1:q<(many:Int))(r:Reach wide rows q):Part many wide rows dn (xs++[q]) (ks++[q]) where
 eq:=by
  rw[JQ,<- F.eq]
  show _=dw ks q
  unfold dw
  rw[if_neg h]
 nd:=JU.mpr ⟨F.nd,by simp,fun a ha b hb e=>h (by rw[<- jJ.mp hb,<- e];exact ha)⟩
 inr:=fun p hp=>by
  rcases tT.mp hp with z|z
  ·exact F.inr p z
  ·rw[jJ.mp z];exact⟨q0,q1⟩
 re:=fun p hp=>by
  rcases tT.mp hp with z|z
  ·exact F.re p z
  ·rw[jJ.mp z];exact r
theorem Part.old(F:Part many wide rows dn xs ks)(h:q∈ks):Part many wide rows dn (xs++[q]) ks where
 eq:=by
  rw[JQ,<- F.eq]
  show _=dw ks q
  unfold dw
  rw[if_pos h]
 nd:=F.nd
 inr:=F.inr
 re:=F.re
section
theorem bU:aH ["machine","start","rows","reached","level","fresh","here","there"] ["machine","start"] (av lJ):=cW #[3]
theorem Od(F:bG K "reached_rooms" "reached_rooms" lJ dV f fd)(fq:mg "list" = none):bu P w K mg base eM 1 f fd ["machine","start"] (FT K):=by
 refine F.ok bU #[7] #[2]
 ·obtain⟨m,r,g,many,wide,rows,signs,rfl,_⟩:=h
  rfl
 obtain⟨m,r,g,many,wide,rows,signs,rfl,M,R,⟨n0,n1⟩,k⟩:=h
 obtain⟨cS,mP,hA⟩:=M.rows
 have hu:=oW hr
 refine⟨_,(ah (aC (i:=2) bU.nd #[17])
   (ah (aC (i:=3) bU.nd (P6 (DN (pv 1) cU HR) rfl rfl #[1] #[8]))
   (ah (aC (i:=4) bU.nd (cf (aa (pv 1) af)))
   (ah (mE PassesOwn.never (AD (pv 4) (fun _=>rfl)) (ah (aC (i:=5) bU.nd (cf af))
   (ah (bX PassesOwn.never rfl (cC (pv 4)) (aS (i:=6) bU.nd) (ao (bX PassesOwn.never rfl (lF (aN aO (pv 2) (pv 6) #[5])) (aS (i:=7) bU.nd) (ao (cz (HU (Bo hu (pv 7) (pv 3)) (by with_unfolding_all rfl)) (ah (AB hu (pv 3) (pv 7) cU rfl)
   (ao (bD (fA Yy Yz yA bE (pv 5) (aa (pv 7) af))))) bg)))))
   (ao (aC (i:=4) bU.nd (pv 5))))))
   (ao (aL (aW (C7 rfl) #[41] fq Ai (aa (pv 3) af)))))))),?_⟩
 exists _,rfl,m,_,_,_,rfl,rfl,cj M.tup,rfl
 refine fun D hD=>⟨_,rfl,ae,[(Sum.inl 0,V.bl true)],rfl,by show 1<=15;decide,?_⟩
 rw[Rt]
 have sD:=ak hD (HO.dK (dh [0]))
 refine⟨_,rfl,(by show 1<=sizeLine;decide),fun W hW=>?_⟩
 have hWD:W≠D:=fun z=>by rw[z,ae]at hW;cases hW
 have hW0:H W=none:=by rw[aj hWD]at hW;exact hW
 try dsimp only[bB]
 refine eB (t:=pX _ _) (fun σ' H'=>∃ (ks:LI) (W:Qu) (v0 v1 v2:OV),σ'=[some (.ref m),some (.int 0),some (.ref r),some (.ref D),some (.ref W),v0,v1,v2]/\aB H H'/\H' D=some (.dK (dh ks))/\Found many wide rows ks ks) ?_ (fun dU=>?_)
 rotate_left
 ·refine pZ (fun mm σ' H'=>∃ (dn lv:LI) (W:Qu) (v0 v1 v2:OV),mm=2*(many-(dn++lv).length)+lv.length/\σ'=[some (.ref m),some (.int 0),some (.ref r),some (.ref D),some (.ref W),v0,v1,v2]/\aB H H'/\H' D=some (.dK (dh (dn++lv)))/\W≠D/\H' W=some (.lst (lv.map V.int))/\Found many wide rows dn (dn++lv))
   ⟨_,[],[0],W,none,none,none,rfl,rfl,sD.trans (ak hW _),by rw[aj (Ne.symm hWD),ae];rfl,hWD,ae,?_⟩ ?_
  ·refine⟨rfl,by simp,fun q hq=>by rw[Zo]at hq;rw[jJ.mp hq];omega,fun q hq=>by rw[Zo]at hq;rw[jJ.mp hq];exact Reach.zero⟩
  rintro mm σ' H1 ⟨dn,lv,W,v0,v1,v2,rfl,rfl,s1,hD1,hWD,hW1,FD⟩
  by_cases en:lv=[]
  ·subst en
   refine⟨_,rfl,_,.inl ⟨_,bZ hW1,rfl⟩,ic ?_⟩
   rw[JA]at hD1 FD
   exact dU _ _ ⟨dn,W,v0,v1,v2,rfl,s1,hD1,FD⟩
  exists _,rfl,_,.inl ⟨_,bZ hW1,rfl⟩
  have ne:(!(lv.map V.int).isEmpty)=true:=by
   cases lv with
   | nil=>exact absurd rfl en
   | cons x r=>rfl
  rw[ne]
  have kl:=bS many FD.nd FD.inr
  have lv1:1<=lv.length:=by
   cases lv with
   | nil=>exact absurd rfl en
   | cons x r=>exact QX (je _)
  rw[jL]at kl
  refine Dx ⟨fun σ' H'=>∃ m',m'<2*(many-(dn++lv).length)+lv.length/\∃ (dn lv:LI) (W:Qu) (v0 v1 v2:OV),m'=2*(many-(dn++lv).length)+lv.length/\σ'=[some (.ref m),some (.int 0),some (.ref r),some (.ref D),some (.ref W),v0,v1,v2]/\aB H H'/\H' D=some (.dK (dh (dn++lv)))/\W≠D/\H' W=some (.lst (lv.map V.int))/\Found many wide rows dn (dn++lv),fun σ' H' h=>h,?_⟩
  refine⟨#[15],fun N hN=>?_⟩
  have hND:N≠D:=fun z=>by rw[z,hD1]at hN;cases hN
  have hNW:N≠W:=fun z=>by rw[z,hW1]at hN;cases hN
  have hN0:H N=none:=s1.free hN
  try dsimp only[bB]
  refine⟨_,rfl,W,rfl,⟨_,bZ (by rw[aj (Ne.symm hNW)];exact hW1)⟩,dW (K:=K) (xs:=lv.map V.int) (fun i σ' H'=>∃ (fr:LI) (v1 v2:OV),
    σ'=[some (.ref m),some (.int 0),some (.ref r),some (.ref D),some (.ref W),some (.ref N),v1,v2]/\aB H H'/\H' D=some (.dK (dh (dn++lv++fr)))/\H' W=some (.lst (lv.map V.int))/\H' N=some (.lst (fr.map V.int))/\Found many wide rows (dn++lv.take i) (dn++lv++fr))
   ⟨[],v1,v2,rfl,s1.trans (ak hN _),by rw[aj (Ne.symm hND),JA];exact hD1,by rw[aj (Ne.symm hNW)];exact hW1,ae,by rw[ZK,JA,JA];exact FD⟩ (fun i σ' H' _ ⟨_,_,_,_,_,_,e,_,_⟩=>bZ e) ?_ ?_⟩
  ·rintro i x σ' H2 hi ⟨fr,v1,v2,rfl,s2,hD2,hW2,MR,F2⟩
   obtain⟨here,rfl,hz⟩:=bw hi
   have PD:i<lv.length:=(fV hz).1
   have hk:here∈dn++lv++fr:=jz _ (jR _ (oY hz))
   have hh:=F2.inr here hk
   have hre:=F2.re here hk
   have l1:here.toNat<rows.length:=by rw[R.len];omega
   obtain⟨ra,e1,e2⟩:=hA.get l1
   have lr:rows[here.toNat].length=wide:=R.row _ (jG l1)
   refine⟨_,rfl,_,rfl,r,_,_,_,rfl,rfl,cj (s2 _ _ mP),iJ hh.1 e1,ra,rfl,⟨_,cj (s2 _ _ e2)⟩,tD (K:=K) (xs:=rows[here.toNat].map V.int) (fun j σ' H'=>∃ (fr:LI) (v:OV),
     σ'=[some (.ref m),some (.int 0),some (.ref r),some (.ref D),some (.ref W),some (.ref N),some (.int here),v]/\aB H H'/\H' D=some (.dK (dh (dn++lv++fr)))/\H' W=some (.lst (lv.map V.int))/\H' N=some (.lst (fr.map V.int))/\Part many wide rows (dn++lv.take i) (rows[here.toNat].take j) (dn++lv++fr))
    ⟨fr,v2,rfl,s2,hD2,hW2,MR,⟨F2.eq,F2.nd,F2.inr,F2.re⟩⟩ (fun i σ' H' _ ⟨_,_,_,e,_,_,_,_⟩=>cj (e _ _ e2)) ?_ ?_⟩
   ·rintro j x σ' H3 hj ⟨fr,v,rfl,s3,Cc,hW3,J6,F3⟩
    obtain⟨z,rfl,hz⟩:=bw hj
    have hjl:j<rows[here.toNat].length:=(fV hz).1
    have zin:=R.val _ (jG l1) z (oY hz)
    have kl3:=bS many F3.nd F3.inr
    rw[jL,jL]at kl3
    have stp:stepI rows here (j:Int)=z:=by
     unfold stepI
     rw[getD_at l1,jB,getD_at hjl]
     exact(fV hz).2
    have tk:rows[here.toNat].take (j+1)=rows[here.toNat].take j++[z]:=by rw[jW,hz];rfl
    exists _,rfl,_,rfl,D,_,rfl,fH.k (k:=Sum.inl z) Cc,_,rfl
    rw[Cv]
    refine Ar #[46] #[46]
    ·refine⟨_,rfl,_,rfl,D,_,rfl,CH.k (k:=Sum.inl z) Cc (ay (by unfold dh;rw[bb,jL,jL];omega)),?_⟩
     rw[Cu c]
     have hN4:(upd H3 D (HO.dK (dh (dn++lv++fr++[z])))) N=some (.lst (fr.map V.int)):=by rw[aj hND];exact J6
     refine⟨_,rfl,.inl ⟨rfl,_,bZ hN4⟩,_,rfl,N,_,_,rfl,rfl,hN4,ZN (show _<=2000 by rw[bb];omega) #[8],?_⟩
     have F4:=F3.put c zin.1 zin.2 (by rw[<- stp];exact hre.step #[0] #[0])
     refine⟨fr++[z],_,rfl,ax (ax s3 hD) hN0,?_,?_,?_,?_⟩
     ·rw[aj (Ne.symm hND),ae,jv]
     ·rw[aj (Ne.symm hNW),aj hWD];exact hW3
     ·rw[ae,jD];rfl
     ·rw[tk,<- jv];exact F4
    ·exists fr,_,rfl,s3,Cc,hW3,J6
     rw[tk]
     exact F3.old c
   ·rintro σ' H3 ⟨fr,v,rfl,s3,Cc,hW3,J6,F3⟩
    rw[bb,jY]at F3
    refine⟨fr,_,_,rfl,s3,Cc,hW3,J6,⟨?_,F3.nd,F3.inr,F3.re⟩⟩
    have e9:dn++lv.take (i+1)=(dn++lv.take i)++[here]:=by rw[jW,hz,jv];rfl
    rw[F3.eq,e9,JQ (l:=dn++lv.take i)]
    show _=eD rows _ here
    unfold eD
    rw[getD_at l1]
  ·rintro σ' H3 ⟨fr,v1,v2,rfl,s3,Cc,hW3,J6,F3⟩
   rw[bb,jY]at F3
   have kl3:=bS many F3.nd F3.inr
   rw[jL,jL]at kl3
   refine⟨_,rfl,_,?_,dn++lv,fr,N,_,_,_,rfl,rfl,s3,Cc,hND,J6,F3⟩
   rw[jL,jL]
   omega
 rintro σ' H1 ⟨ks,W,v0,v1,v2,rfl,s1,hD1,FD⟩
 refine⟨_,rfl,D,_,rfl,hD1,fun l hl=>?_⟩
 have e:(dh ks).map (fun q=>kV q.1)=ks.map V.int:=by
  unfold dh
  rw[JO]
  rfl
 rw[e]
 have z0:(0:Int)∈ks:=by rw[FD.eq];exact tE rows ks jE
 refine k l _ ks (s1.trans (ak hl _)) ae ⟨FD.eq,FD.nd,FD.inr,fun q=>⟨FD.re q,fun h=>?_⟩⟩
 refine Reach.of (S:=fun q=>q∈ks) z0 (fun p hp f f0 f1=>?_) h
 have Mj:=FD.inr p hp
 have l1:p.toNat<rows.length:=by rw[R.len];omega
 have lr:rows[p.toNat].length=wide:=R.row _ (jG l1)
 have hf:f.toNat<rows[p.toNat].length:=by omega
 rw[FD.eq]
 refine oU rows ks hp ?_
 unfold stepI
 rw[getD_at l1,getD_at hf]
 exact jG hf
end
def sgn(signs:LI)(x:Int):Int:=signs.getD x.toNat 0
def ou(wide:Nat)(v:LI):Prop := ∀ f∈v,0<=f/\f<(wide:Int)
def Agree(rows:LL)(wide:Nat)(signs:LI)(n:Nat)(a b:Int):Prop := ∀ v,ou wide v->v.length<=n->sgn signs (aM rows v a)=sgn signs (aM rows v b)
theorem Agree.up(h0:sgn signs a=sgn signs b)(h:∀ f:Nat,f<wide->Agree rows wide signs n (stepI rows a f) (stepI rows b f)):Agree rows wide signs (n+1) a b:=by
 intro v h1 h2
 cases v with
 | nil=>exact h0
 | cons f v =>
  have hf:=h1 f jE
  have q:=h f.toNat #[0] v (fun g hg=>h1 g (jK _ hg)) (by rw[jc]at h2;omega)
  rw[jm hf.1]at q
  exact q
def fJ(rows:LL)(wide:Nat)(signs:LI)(x y:Int):Prop := ∀ n,Agree rows wide signs n x y
theorem fJ.sgn(h:fJ rows wide signs x y):My.sgn signs x=My.sgn signs y:=h 0 [] (fun f hf=>by cases hf) (jF 0)
theorem fJ.led(h:fJ rows wide signs x y){f:Nat}(hf:f<wide):fJ rows wide signs (stepI rows x f) (stepI rows y f):=fun n v h1 h2=>by
 refine h (n+1) ((f:Int) :: v) (fun g hg=>?_) (by rw[jc];omega)
 rcases jS.mp hg with z|z
 ·rw[z]
  exact⟨by omega,by omega⟩
 ·exact h1 g z
def mx(c:LI)(q:Int):Int:=c.getD q.toNat 0
structure AR(many wide:Nat)(rows cols:LL):Prop where
 of:∀ c∈cols,∃ f:Nat,f<wide/\∀ q,aw many q->mx c q=stepI rows q f
 all:∀ f:Nat,f<wide->∃ c∈cols,∀ q,aw many q->mx c q=stepI rows q f
theorem AR.room(C:AR many wide rows cols)(R:aF many wide rows):∀ x,aw many x->∀ c∈cols.map mx,aw many (c x):=fun x hx c hc=>by
 obtain⟨l,hl,rfl⟩:=jN.mp hc
 obtain⟨f,hf,e⟩:=C.of l hl
 rw[e x hx]
 exact dk R hx.1 hx.2 #[0] #[0]
theorem AR.aib(C:AR many wide rows cols)(R:aF many wide rows):acV many (cols.map mx) (My.sgn signs) (fun x y=>aw many x/\aw many y/\fJ rows wide signs x y) where
 sgn:=fun x y h=>h.2.2.sgn
 led:=fun x y h c hc=>by
  have h1:=C.room R x h.1 c hc
  have h2:=C.room R y h.2.1 c hc
  exists h1,h2
  obtain⟨l,hl,rfl⟩:=jN.mp hc
  obtain⟨f,hf,e⟩:=C.of l hl
  rw[e x h.1,e y h.2.1]
  exact h.2.2.led hf
theorem PH{W:Int->Prop}(C:AR many wide rows cols)(R:aF many wide rows)(h:O5 many (cols.map mx) (My.sgn signs) (fun x y=>aw many x/\aw many y/\fJ rows wide signs x y) grp W)(st:∀ x y,aw many x->aw many y->grp x=grp y->∀ c∈cols.map mx,grp (c x)=grp (c y))(hx:aw many x)(hy:aw many y):
  grp x=grp y↔fJ rows wide signs x y:=by
 refine⟨fun e n=>?_,fun a=>h.coarse x y hx hy ⟨hx,hy,a⟩⟩
 induction n generalizing x y with
 | zero =>
  intro v _ h2
  have:v=[]:=List.eq_nil_of_length_eq_zero #[0]
  rw[this]
  exact h.signs x y hx hy e
 | succ n ih =>
  refine Agree.up (h.signs x y hx hy e) fun f hf=>?_
  obtain⟨c,hc,ec⟩:=C.all f hf
  have hm:mx c∈cols.map mx:=jN.mpr ⟨c,hc,rfl⟩
  have q:=st x y hx hy e _ hm
  rw[ec x hx,ec y hy]at q
  exact ih (dk R hx.1 hx.2 #[0] #[0]) (dk R hy.1 hy.2 #[0] #[0]) q
def aR:Nat->LI->Option Nat
 | m,[]=>some m
 | m,t :: r=>if t=(m:Int)then aR (m+1) r else if t<(m:Int)then aR m r else none
def bz:Nat->Nat->LL->Option Nat
 | _,m,[]=>some m
 | q,m,r :: rs=>if q<m then(aR m r).bind fun m'=>bz (q+1) m' rs else none
def dy(rows:LL):Prop:=bz 0 1 rows=some rows.length
def Tells(wide:Nat)(rows au:LL)(signs az:LI)(a b:Int):Prop := ∀ v,ou wide v->sgn signs (aM rows v a)=sgn az (aM au v b)
def Apart(wide:Nat)(rows:LL)(signs:LI):Prop := ∀ a b,aw rows.length a->aw rows.length b->fJ rows wide signs a b->a=b
section
theorem Tells.led(h:Tells wide rows au signs az a b){f:Nat}(hf:f<wide):Tells wide rows au signs az (stepI rows a f) (stepI au b f):=fun v hv =>
 h ((f:Int) :: v) fun g hg=>by
  rcases jS.mp hg with z|z
  ·rw[z]
   exact⟨by omega,by omega⟩
  ·exact hv g z
theorem Tells.left{c:Int}(h:Tells wide rows au signs az a c)(h':Tells wide rows au signs az b c):fJ rows wide signs a b:=fun n v hv _=>(h v hv).trans (h' v hv).symm
theorem Tells.right{c:Int}(h:Tells wide rows au signs az c a)(h':Tells wide rows au signs az c b):fJ au wide az a b:=fun n v hv _=>(h v hv).symm.trans (h' v hv)
theorem DU(A:Apart wide rows signs)(A':Apart wide au az):∀ {r r':LI} {m m1 m2:Nat},r.length=r'.length->(∀ i:Nat,i<m->Tells wide rows au signs az i i)->(m<=rows.length/\m<=au.length) ->
  (∀ (j:Nat) (t t':Int),r[j]?=some t->r'[j]?=some t'->aw rows.length t/\aw au.length t'/\Tells wide rows au signs az t t')->aR m r=some m1->aR m r'=some m2 ->
  r=r'/\m1=m2/\(∀ i:Nat,i<m1->Tells wide rows au signs az i i)/\m1<=rows.length/\m1<=au.length
 | [],[],m,m1,m2,_,hB,hm,_,h1,h2=>by
  cases h1
  cases h2
  exact⟨rfl,rfl,hB,hm.1,hm.2⟩
 | [],t' :: r',_,_,_,hl,_,_,_,_,_=>by cases hl
 | t :: r,[],_,_,_,hl,_,_,_,_,_=>by cases hl
 | t :: r,t' :: r',m,m1,m2,hl,hB,hm,hT,h1,h2=>by
  obtain⟨ht,S8,tt⟩:=hT 0 t t' rfl rfl
  have hl':r.length=r'.length:=Nat.succ.inj hl
  have hT':∀ (j:Nat) (u u':Int),r[j]?=some u->r'[j]?=some u'->aw rows.length u/\aw au.length u'/\Tells wide rows au signs az u u' := fun j u u' a b=>hT (j+1) u u' a b
  have low:∀ {x:Int},0<=x->x<(m:Int)->∃ i:Nat,i<m/\x=(i:Int):=fun h0 h1=>⟨_,by omega,(jm h0).symm⟩
  have Dr:#[49]=some m1:=h1
  have Cs:(if t'=(m:Int)then aR (m+1) r' else if t'<(m:Int)then aR m r' else none)=some m2:=h2
  by_cases c:t=(m:Int)
  ·by_cases c':t'=(m:Int)
   ·rw[if_pos c]at Dr
    rw[if_pos c']at Cs
    have hB':∀ i:Nat,i<m+1->Tells wide rows au signs az i i:=fun i hi=>by
     rcases Jd i m with z|z
     ·exact hB i z
     ·have:i=m:=by omega
      rw[this,<- c]
      rw[c']at tt
      rw[c]
      rw[c]at tt
      exact tt
    obtain⟨e1,e2⟩:=DU A A' hl' hB' ⟨by have:=ht.2;omega,by have:=S8.2;omega⟩ hT' Dr Cs
    exact⟨by rw[c,c',e1],e2⟩
   ·rw[if_neg c']at Cs
    by_cases d:t'<(m:Int)
    ·obtain⟨i,hi,rfl⟩:=low S8.1 d
     have:=A t (i:Int) ht ⟨by omega,by omega⟩ (tt.left (hB i hi))
     omega
    ·rw[if_neg d]at Cs
     cases Cs
  ·rw[if_neg c]at Dr
   by_cases d:t<(m:Int)
   ·rw[if_pos d]at Dr
    obtain⟨i,hi,rfl⟩:=low ht.1 d
    have e:=A' t' (i:Int) S8 ⟨by omega,by omega⟩ (tt.right (hB i hi))
    subst e
    rw[if_neg #[0],if_pos d]at Cs
    obtain⟨e1,e2⟩:=DU A A' hl' hB hm hT' Dr Cs
    exact⟨by rw[e1],e2⟩
   ·rw[if_neg d]at Dr
    cases Dr
theorem FK(A:Apart wide rows signs)(A':Apart wide au az)(R:aF rows.length wide rows)(R':aF au.length wide au):∀ {rs rs':LL} {q m:Nat},rs=rows.drop q->rs'=au.drop q->q<=rows.length->q<=au.length ->
  (∀ i:Nat,i<m->Tells wide rows au signs az i i)->(m<=rows.length/\m<=au.length)->bz q m rs=some rows.length->bz q m rs'=some au.length->rs=rs'/\rows.length=au.length/\∀ i:Nat,i<rows.length->Tells wide rows au signs az i i
 | [],[],q,m,_,_,_,_,hB,_,h1,h2=>by
  have e1:m=rows.length:=Option.some.inj h1
  have e2:m=au.length:=Option.some.inj h2
  exact⟨rfl,e1.symm.trans e2,fun i hi=>hB i #[0]⟩
 | [],r' :: rs',q,m,e,_,hq,_,_,_,h1,h2=>by
  have e1:m=rows.length:=Option.some.inj h1
  have hl:rows.length<=q:=Jq.mp e.symm
  have Cs:(if q<m then(aR m r').bind fun m'=>bz (q+1) m' rs' else none)=some au.length:=h2
  rw[if_neg #[0]]at Cs
  cases Cs
 | r :: rs,[],q,m,_,e,_,hq,_,_,h1,h2=>by
  have e1:m=au.length:=Option.some.inj h2
  have hl:au.length<=q:=Jq.mp e.symm
  have Dr:(if q<m then(aR m r).bind fun m'=>bz (q+1) m' rs else none)=some rows.length:=h1
  rw[if_neg #[0]]at Dr
  cases Dr
 | r :: rs,r' :: rs',q,m,e,e',hq,BN,hB,hm,h1,h2=>by
  have Dr:(if q<m then(aR m r).bind fun m'=>bz (q+1) m' rs else none)=some rows.length:=h1
  have Cs:(if q<m then(aR m r').bind fun m'=>bz (q+1) m' rs' else none)=some au.length:=h2
  by_cases c:q<m
  ·rw[if_pos c]at Dr Cs
   have l1:q<rows.length:=by omega
   have l2:q<au.length:=by omega
   have d1:=jy l1
   have d2:=jy l2
   rw[d1]at e
   rw[d2]at e'
   injection e with er es
   injection e' with er' lN
   cases o1:aR m r with
   | none=>rw[o1]at Dr;cases Dr
   | some m1 =>
    cases o2:aR m r' with
    | none=>rw[o2]at Cs;cases Cs
    | some m2 =>
     rw[o1]at Dr
     rw[o2]at Cs
     have hr:=R.row _ (jG l1)
     have mP:=R'.row _ (jG l2)
     have key:∀ (j:Nat) (t t':Int),r[j]?=some t->r'[j]?=some t'->aw rows.length t/\aw au.length t'/\Tells wide rows au signs az t t' := fun j t t' a b=>by
      rw[er]at a
      rw[er']at b
      have ja:=(fV a).1
      have jw:j<wide:=by omega
      have s1:stepI rows (q:Int) (j:Int)=t:=by
       unfold stepI
       rw[jB,jB,getD_at l1,jQ,a]
       rfl
      have s2:stepI au (q:Int) (j:Int)=t' := by
       unfold stepI
       rw[jB,jB,getD_at l2,jQ,b]
       rfl
      exists R.val _ (jG l1) t (oY a),R'.val _ (jG l2) t' (oY b)
      have:=(hB q c).led jw
      rw[s1,s2]at this
      exact this
     obtain⟨e1,e2,hB',k1,k2⟩:=DU A A' (by rw[er,er',hr,mP]) hB hm key o1 o2
     subst e2
     obtain⟨f1,f2,f3⟩:=FK A A' R R' es lN l1 l2 hB' ⟨k1,k2⟩ Dr Cs
     exact⟨by rw[e1,f1],f2,f3⟩
  ·rw[if_neg c]at Dr
   cases Dr
theorem MB(A:Apart wide rows signs)(A':Apart wide au az)(R:aF rows.length wide rows)(R':aF au.length wide au)(n0:0<rows.length)(n1:0<au.length)(O:dy rows)(O':dy au)(ls:signs.length=rows.length)(ls':az.length=au.length)(h:Tells wide rows au signs az 0 0):rows=au/\signs=az:=by
 obtain⟨e,el,hB⟩:=FK A A' R R' (rs:=rows) (rs' := au) (q:=0) (m:=1) rfl rfl (je _) (je _) (fun i hi=>by
  have:i=0:=by omega
  rw[this]
  exact h) ⟨n0,n1⟩ O O'
 refine⟨e,Jj #[0] fun i h1 h2=>?_⟩
 have q:=hB i #[0] [] (fun f hf=>by cases hf)
 unfold sgn at q
 have q':signs.getD ((i:Int)).toNat 0=az.getD ((i:Int)).toNat 0:=q
 rw[jB,getD_at h1,getD_at h2]at q'
 exact q'
end
def bc(φ:Int->Int):Nat->Nat
 | 0=>0
 | m+1=>if φ (m:Int)=(bc φ m:Int)then bc φ m+1 else bc φ m
def bV(φ:Int->Int)(n:Nat):List Nat:=(jO n).filter fun q=>decide (φ (q:Int)=(bc φ q:Int))
def fM(φ:Int->Int)(n:Nat):Prop := ∀ q:Nat,q<n->0<=φ (q:Int)/\φ (q:Int)<=(bc φ q:Int)
section
theorem EV:∀ {a b:Nat},a<=b->bc φ a<=bc φ b:=by
 intro a b h
 induction h with
 | refl=>exact jF _
 | @step m _ ih =>
  have e:bc φ (m+1)=if φ (m:Int)=(bc φ m:Int)then bc φ m+1 else bc φ m:=rfl
  refine ji ih ?_
  rw[e]
  by_cases c:φ (m:Int)=(bc φ m:Int)
  ·rw[if_pos c];exact JF _
  ·rw[if_neg c];exact jF _
theorem fM.lt(h:fM φ n){t:Nat}(ht:t<m)(hm:m<=n):φ (t:Int)<(bc φ m:Int):=by
 have h1:=(h t #[0]).2
 have h2:=EV (φ:=φ) (show t+1<=m from ht)
 have h3:bc φ (t+1)=if φ (t:Int)=(bc φ t:Int)then bc φ t+1 else bc φ t:=rfl
 by_cases c:φ (t:Int)=(bc φ t:Int)
 ·rw[if_pos c]at h3
  omega
 ·rw[if_neg c]at h3
  omega
theorem my(φ:Int->Int):∀ n,(bV φ n).length=bc φ n
 | 0=>rfl
 | n+1=>by
  have ih:=my φ n
  unfold bV at ih ⊢
  rw[JK,JW,jL,ih]
  show _=if φ (n:Int)=(bc φ n:Int)then bc φ n+1 else bc φ n
  by_cases c:φ (n:Int)=(bc φ n:Int)
  ·rw[if_pos c,JR (by exact decide_eq_true c)]
   rfl
  ·rw[if_neg c,JN (by rw[decide_eq_false c];decide)]
   rfl
theorem HY(F:fM φ n):∀ {r:LI} {m m1:Nat},m<=n->(∀ t∈r,aw n t)->aR m r=some m1->aR (bc φ m) (r.map φ)=some (bc φ m1)/\m1<=n/\(∀ t∈r,t<(m1:Int))/\m<=m1
 | [],m,m1,hm,_,h=>by
  cases h
  exact⟨rfl,hm,fun t ht=>(by cases ht),jF _⟩
 | t :: r,m,m1,hm,hr,h=>by
  have ht:=hr t jE
  have mP:∀ u∈r,aw n u:=fun u hu=>hr u (jK _ hu)
  have h':#[49]=some m1:=h
  show(if φ t=(bc φ m:Int)then aR (bc φ m+1) (r.map φ)else if φ t<(bc φ m:Int)then aR (bc φ m) (r.map φ)else none)=_/\_
  by_cases c:t=(m:Int)
  ·rw[if_pos c]at h'
   have mn:m<n:=by have:=ht.2;omega
   obtain⟨e1,e2,e3,e4⟩:=HY F (show m+1<=n from mn) mP h'
   have e5:∀ u∈t :: r,u<(m1:Int):=fun u hu=>by
    rcases jS.mp hu with z|z
    ·rw[z,c];omega
    ·exact e3 u z
   have es:bc φ (m+1)=if φ (m:Int)=(bc φ m:Int)then bc φ m+1 else bc φ m:=rfl
   rw[c]
   by_cases d:φ (m:Int)=(bc φ m:Int)
   ·rw[if_pos d]
    rw[if_pos d]at es
    rw[es]at e1
    rw[c]at e5
    exact⟨e1,e2,e5,by omega⟩
   ·rw[if_neg d]at es
    rw[if_neg d,if_pos (by have:=(F m mn).2;omega)]
    rw[es]at e1
    rw[c]at e5
    exact⟨e1,e2,e5,by omega⟩
  ·rw[if_neg c]at h'
   by_cases d:t<(m:Int)
   ·rw[if_pos d]at h'
    obtain⟨e1,e2,e3,e4⟩:=HY F hm mP h'
    have lt:φ t<(bc φ m:Int):=by
     have:=F.lt (t:=t.toNat) (m:=m) (by have:=ht.1;omega) hm
     rw[jm ht.1]at this
     exact this
    rw[if_neg #[0],if_pos lt]
    refine⟨e1,e2,fun u hu=>?_,e4⟩
    rcases jS.mp hu with z|z
    ·rw[z];omega
    ·exact e3 u z
   ·rw[if_neg d]at h'
    cases h'
theorem HX(F:fM φ n):∀ {r:LI} {m m1:Nat},m<=n->(∀ t∈r,aw n t/\φ t<(bc φ m:Int))->aR m r=some m1->bc φ m1=bc φ m/\m1<=n/\(∀ t∈r,t<(m1:Int))/\m<=m1
 | [],m,m1,hm,_,h=>by
  cases h
  exact⟨rfl,hm,fun t ht=>(by cases ht),jF _⟩
 | t :: r,m,m1,hm,hr,h=>by
  have ht:=hr t jE
  have h':#[49]=some m1:=h
  by_cases c:t=(m:Int)
  ·rw[if_pos c]at h'
   have mn:m<n:=by have:=ht.1.2;omega
   have es:bc φ (m+1)=bc φ m:=by
    show(if φ (m:Int)=(bc φ m:Int)then bc φ m+1 else bc φ m)=_
    rw[if_neg (by have:=ht.2;rw[c]at this;omega)]
   obtain⟨e1,e2,e3,e4⟩:=HX F (show m+1<=n from mn) (fun u hu=>by rw[es];exact hr u (jK _ hu)) h'
   refine⟨e1.trans es,e2,fun u hu=>?_,by omega⟩
   rcases jS.mp hu with z|z
   ·rw[z,c];omega
   ·exact e3 u z
  ·rw[if_neg c]at h'
   by_cases d:t<(m:Int)
   ·rw[if_pos d]at h'
    obtain⟨e1,e2,e3,e4⟩:=HX F hm (fun u hu=>hr u (jK _ hu)) h'
    refine⟨e1,e2,fun u hu=>?_,e4⟩
    rcases jS.mp hu with z|z
    ·rw[z];omega
    ·exact e3 u z
   ·rw[if_neg d]at h'
    cases h'
def dz(φ:Int->Int)(rows:LL):Nat->LL->LL
 | _,[]=>[]
 | q,r :: rs=>if φ (q:Int)=(bc φ q:Int)then r.map φ :: dz φ rows (q+1) rs else dz φ rows (q+1) rs
theorem DS(F:fM φ rows.length)(R:aF rows.length wide rows)(cp:∀ x y:Nat,x<rows.length->y<rows.length->φ (x:Int)=φ (y:Int)->∀ f:Nat,f<wide->φ (stepI rows x f)=φ (stepI rows y f)):
  ∀ {rs:LL} {q m k:Nat},rs=rows.drop q->q<=rows.length->m<=rows.length->(∀ x:Nat,x<q->∀ f:Nat,f<wide->stepI rows x f<(m:Int))->bz q m rs=some k->bz (bc φ q) (bc φ m) (dz φ rows q rs)=some (bc φ k)
 | [],q,m,k,_,_,_,_,h=>by
  cases h
  rfl
 | r :: rs,q,m,k,e,hq,hm,old,h=>by
  have h':(if q<m then(aR m r).bind fun m'=>bz (q+1) m' rs else none)=some k:=h
  by_cases c:q<m
  ·rw[if_pos c]at h'
   have l1:q<rows.length:=by omega
   rw[jy l1]at e
   injection e with er es
   cases o1:aR m r with
   | none=>rw[o1]at h';cases h'
   | some m1 =>
    rw[o1]at h'
    have hr:=R.row _ (jG l1)
    have hv:∀ t∈r,aw rows.length t:=fun t ht=>R.val _ (jG l1) t (er ▸ ht)
    have stp:∀ f:Nat,f<wide->stepI rows (q:Int) (f:Int)∈r:=fun f hf=>by
     have lf:f<rows[q].length:=by omega
     have:stepI rows (q:Int) (f:Int)=rows[q][f]:=by
      unfold stepI
      rw[jB,jB,getD_at l1,getD_at lf]
     rw[this,er]
     exact jG lf
    have lN:bc φ (q+1)=if φ (q:Int)=(bc φ q:Int)then bc φ q+1 else bc φ q:=rfl
    have dU:∀ m1:Nat,(∀ t∈r,t<(m1:Int))->m<=m1->∀ x:Nat,x<q+1->∀ f:Nat,f<wide->stepI rows x f<(m1:Int):=fun m1 e3 e4 x hx f hf=>by
     rcases Jd x q with z|z
     ·have:=old x z f hf
      omega
     ·have:x=q:=by omega
      rw[this]
      exact e3 _ (stp f hf)
    by_cases d:φ (q:Int)=(bc φ q:Int)
    ·obtain⟨e1,e2,e3,e4⟩:=HY F hm hv o1
     have ih:=DS F R cp es l1 e2 (dU m1 e3 e4) h'
     rw[lN,if_pos d]at ih
     have lt:bc φ q<bc φ m:=by
      have:=F.lt c hm
      omega
     show bz _ _ (if φ (q:Int)=(bc φ q:Int)then _ else _)=_
     rw[if_pos d]
     show(if bc φ q<bc φ m then(aR (bc φ m) (r.map φ)).bind fun m'=>bz (bc φ q+1) m' (dz φ rows (q+1) rs)else none)=_
     rw[if_pos lt,e1]
     exact ih
    ·-- room q is aqK an ajj one
     have hl:φ (q:Int)<(bc φ q:Int):=by
      have:=(F q l1).2
      omega
     obtain⟨x,hx,ex⟩:∃ x:Nat,x<q/\φ (x:Int)=φ (q:Int):=by
      have:∀ (b:Nat) (g:Int),0<=g->g<(bc φ b:Int)->∃ x:Nat,x<b/\φ (x:Int)=g:=by
       intro b
       induction b with
       | zero=>intro g g0 g1;exact absurd g1 (by show ¬ g<((0:Nat):Int);omega)
       | succ b ih =>
        intro g g0 g1
        have eb:bc φ (b+1)=if φ (b:Int)=(bc φ b:Int)then bc φ b+1 else bc φ b:=rfl
        by_cases z:g<(bc φ b:Int)
        ·obtain⟨x,h1,h2⟩:=ih g g0 z
         exact⟨x,by omega,h2⟩
        ·by_cases y:φ (b:Int)=(bc φ b:Int)
         ·rw[eb,if_pos y]at g1
          exact⟨b,JL b,by omega⟩
         ·rw[eb,if_neg y]at g1
          exact absurd g1 z
      exact this q _ (F q l1).1 hl
     have hv':∀ t∈r,aw rows.length t/\φ t<(bc φ m:Int):=fun t ht=>by
      exists hv t ht
      obtain⟨f,hf,et⟩:=jk (er ▸ ht)
      have fw:f<wide:=by omega
      have st:stepI rows (q:Int) (f:Int)=t:=by
       unfold stepI
       rw[jB,jB,getD_at l1,getD_at hf,et]
      have c1:=cp x q #[0] l1 ex f fw
      rw[st]at c1
      rw[<- c1]
      have o:=old x hx f fw
      have rm:=dk R (show(0:Int)<=(x:Int) by omega) #[0] (show(0:Int)<=(f:Int) by omega) #[0]
      have:=F.lt (t:=(stepI rows x f).toNat) (m:=m) #[0] hm
      rw[jm rm.1]at this
      exact this
     obtain⟨e1,e2,e3,e4⟩:=HX F hm hv' o1
     have ih:=DS F R cp es l1 e2 (dU m1 e3 e4) h'
     rw[lN,if_neg d,e1]at ih
     show bz _ _ (if φ (q:Int)=(bc φ q:Int)then _ else _)=_
     rw[if_neg d]
     exact ih
  ·rw[if_neg c]at h'
   cases h'
end
abbrev dd(s:LI)(v:Int):LI:=XG s v
theorem oP{v:Int}(h:v∈s):dd s v=s:=by
 unfold dd XG
 simp[h]
theorem iy{v:Int}(h:v∉s):dd s v=s++[v]:=by
 unfold dd XG
 simp[h]
theorem Bb:∀ (ys s:LI),∃ zs,ys.foldl dd s=s++zs
 | [],s=>⟨[],by simp⟩
 | y :: ys,s=>by
  by_cases c:y∈s
  ·obtain⟨zs,e⟩:=Bb ys s
   exact⟨zs,by rw[JZ,oP c,e]⟩
  ·obtain⟨zs,e⟩:=Bb ys (s++[y])
   exact⟨y :: zs,by rw[JZ,iy c,e,jv];rfl⟩
theorem Lw(gs:LI)(m:Nat):∃ zs,bp gs=bp (gs.take m)++zs:=by
 obtain⟨zs,e⟩:=Bb (gs.drop m) (bp (gs.take m))
 exists zs
 rw[<- e]
 show gs.foldl dd []=(gs.drop m).foldl dd ((gs.take m).foldl dd [])
 rw[<- JQ,zL]
theorem mh{g:Int}(h:gs[m]?=some g):bp (gs.take (m+1))=dd (bp (gs.take m)) g:=by
 unfold bp
 rw[jW,h,JQ]
 rfl
def oB(gs:LI)(q:Int):Int:=((bp gs).idxOf (gs.getD q.toNat 0):Nat)
theorem abW{zs:LI}{g:Int}(h:g∈xs):(xs++zs).idxOf g=xs.idxOf g:=by rw[zp,if_pos h]
theorem CB{g:Int}(h:gs[m]?=some g)(ho:g∈bp (gs.take m)):oB gs (m:Int)=((bp (gs.take m)).idxOf g:Nat):=by
 obtain⟨zs,e⟩:=Lw gs m
 unfold oB
 rw[jB,jQ,h,e]
 show(((bp (gs.take m)++zs).idxOf g:Nat):Int)=_
 rw[abW ho]
theorem CA{g:Int}(h:gs[m]?=some g)(ho:g∉bp (gs.take m)):oB gs (m:Int)=((bp (gs.take m)).length:Nat):=by
 obtain⟨zs,e⟩:=Lw gs (m+1)
 rw[mh h,iy ho]at e
 unfold oB
 rw[jB,jQ,h,e,jv]
 show(((bp (gs.take m)++([g]++zs)).idxOf g:Nat):Int)=_
 rw[zp,if_neg ho]
 simp
theorem Hl(gs:LI):∀ {m:Nat},m<=gs.length->bc (oB gs) m=(bp (gs.take m)).length
 | 0,_=>rfl
 | m+1,h=>by
  have ih:=Hl gs (m:=m) #[0]
  have hg:gs[m]?=some gs[m]:=jC #[0]
  show(if oB gs (m:Int)=(bc (oB gs) m:Int)then bc (oB gs) m+1 else bc (oB gs) m)=_
  rw[ih,mh hg]
  by_cases c:gs[m]∈bp (gs.take m)
  ·have e:=CB hg c
   have lt:=jt c
   rw[oP c,if_neg #[0]]
  ·have e:=CA hg c
   rw[iy c,if_pos e,jL]
   rfl
theorem RL(gs:LI):fM (oB gs) gs.length:=fun q hq=>by
 have hg:gs[q]?=some gs[q]:=jC hq
 rw[Hl gs #[0]]
 by_cases c:gs[q]∈bp (gs.take q)
 ·have e:=CB hg c
  have lt:=jt c
  omega
 ·have e:=CA hg c
  omega
theorem aao(hx:aw gs.length x)(hy:aw gs.length y):oB gs x=oB gs y↔gs.getD x.toNat 0=gs.getD y.toNat 0:=by
 have mem:∀ {z:Int},aw gs.length z->gs.getD z.toNat 0∈bp gs:=fun {z} hz=>by
  have l:z.toNat<gs.length:=by have:=hz.1;have:=hz.2;omega
  rw[getD_at l]
  exact sG.mpr (jG l)
 unfold oB
 constructor
 ·intro h
  have h':(bp gs).idxOf (gs.getD x.toNat 0)=(bp gs).idxOf (gs.getD y.toNat 0):=by omega
  have lx:=jt (mem hx)
  have ly:=jt (mem hy)
  have ex:(bp gs)[(bp gs).idxOf (gs.getD x.toNat 0)]=gs.getD x.toNat 0:=Jl lx
  have ey:(bp gs)[(bp gs).idxOf (gs.getD y.toNat 0)]=gs.getD y.toNat 0:=Jl ly
  rw[<- ex,<- ey]
  congr 1
 ·intro h
  rw[h]
theorem rZ:∀ {b:Nat} {g:Int},0<=g->g<(bc φ b:Int)->∃ x:Nat,x<b/\φ (x:Int)=g/\(bc φ x:Int)=g
 | 0,g,g0,g1=>absurd g1 (by show ¬ g<((0:Nat):Int);omega)
 | b+1,g,g0,g1=>by
  have eb:bc φ (b+1)=if φ (b:Int)=(bc φ b:Int)then bc φ b+1 else bc φ b:=rfl
  by_cases z:g<(bc φ b:Int)
  ·obtain⟨x,h1,h2,ad4⟩:=rZ g0 z
   exact⟨x,by omega,h2,ad4⟩
  ·by_cases y:φ (b:Int)=(bc φ b:Int)
   ·rw[eb,if_pos y]at g1
    exact⟨b,JL b,by omega,by omega⟩
   ·rw[eb,if_neg y]at g1
    exact absurd g1 z
theorem Be:∀ {n q:Nat},q<n->φ (q:Int)=(bc φ q:Int)->(bV φ n)[bc φ q]?=some q
 | 0,q,h,_=>absurd h (Jp _)
 | n+1,q,h,e=>by
  have l:=my φ n
  unfold bV at l ⊢
  rw[JK,JW]
  rcases Jd q n with z|z
  ·have ih:=Be z e
   unfold bV at ih
   rw[JB (fV ih).1]
   exact ih
  ·have:q=n:=by omega
   subst this
   rw[JM #[0],l,zN,JR (by exact decide_eq_true e)]
   rfl
theorem DR{φ:Int->Int}:∀ {rs:LL} {q:Nat},rs=rows.drop q->q<=rows.length->dz φ rows q rs=((List.range' q (rows.length-q)).filter fun i:Nat=>decide (φ (i:Int)=(bc φ i:Int))).map fun i=>(rows.getD i []).map φ
 | [],q,e,hq=>by
  have hl:rows.length<=q:=Jq.mp e.symm
  rw[show rows.length-q=0 from by omega]
  rfl
 | r :: rs,q,e,hq=>by
  have l1:q<rows.length:=by
   rcases Jd q rows.length with z|z
   ·exact z
   ·rw[Zq z]at e
    cases e
  rw[jy l1]at e
  injection e with er es
  have ih:=DR (φ:=φ) es l1
  rw[show rows.length-q=(rows.length-(q+1))+1 from by omega,List.range'_succ]
  show(if φ (q:Int)=(bc φ q:Int)then r.map φ :: dz φ rows (q+1) rs else dz φ rows (q+1) rs)=_
  by_cases c:φ (q:Int)=(bc φ q:Int)
  ·rw[if_pos c,ih,JR (by exact decide_eq_true c),JJ,getD_at l1,er]
  ·rw[if_neg c,ih,JN (by rw[decide_eq_false c];decide)]
theorem AE:dz φ rows 0 rows=(bV φ rows.length).map fun i=>(rows.getD i []).map φ:=by
 have h:=DR (φ:=φ) (rows:=rows) (rs:=rows) (q:=0) rfl (je _)
 rw[h]
 unfold bV
 rw[List.range_eq_range',Ql]
structure cH(wide:Nat)(rows au:LL)(signs az:LI):Prop where
 ok:aF au.length wide au
 pos:0<au.length
 sgn:az.length=au.length
 ord:dy au
 apart:Apart wide au az
 tells:Tells wide rows au signs az 0 0
section
theorem aaF(F:fM φ rows.length)(R:aF rows.length wide rows)(cp:∀ x y:Nat,x<rows.length->y<rows.length->φ (x:Int)=φ (y:Int)->∀ f:Nat,f<wide->φ (stepI rows x f)=φ (stepI rows y f))(hq:aw rows.length q){f:Nat}(hf:f<wide):
  stepI (dz φ rows 0 rows) (φ q) f=φ (stepI rows q f):=by
 obtain⟨n,rfl⟩:=mD hq.1
 have hn:n<rows.length:=by have:=hq.2;omega
 have lt:=F.lt hn (jF _)
 obtain⟨x,hx,e1,e2⟩:=rZ (F n hn).1 lt
 have at' := Be hx (e1.trans e2.symm)
 have lr:(rows[x]).length=wide:=R.row _ (jG hx)
 have e3:(dz φ rows 0 rows).getD (φ (n:Int)).toNat []=(rows[x]).map φ:=by
  rw[AE,<- e2,jB,jQ,jV,at']
  show(rows.getD x []).map φ=_
  rw[getD_at hx]
 have e4:stepI rows (x:Int) (f:Int)=(rows[x])[f]'#[0]:=by
  unfold stepI
  rw[jB,jB,getD_at hx,getD_at #[0]]
 rw[<- cp x n hx hn e1 f hf,e4]
 unfold stepI
 rw[e3,jB,jQ,jV,jC #[0]]
 rfl
theorem LP(F:fM φ rows.length)(R:aF rows.length wide rows)(cp:∀ x y:Nat,x<rows.length->y<rows.length->φ (x:Int)=φ (y:Int)->∀ f:Nat,f<wide->φ (stepI rows x f)=φ (stepI rows y f)):∀ {v:LI} {q:Int},ou wide v->aw rows.length q->aM (dz φ rows 0 rows) v (φ q)=φ (aM rows v q)
 | [],q,_,_=>rfl
 | f :: v,q,hv,hq=>by
  have hf:=hv f jE
  obtain⟨m,rfl⟩:=mD hf.1
  show aM _ v (stepI _ (φ q) (m:Int))=φ (aM rows v (stepI rows q (m:Int)))
  rw[aaF F R cp hq #[0]]
  exact LP F R cp (fun g hg=>hv g (jK _ hg)) (dk R hq.1 hq.2 hf.1 hf.2)
theorem X5(F:fM φ rows.length)(R:aF rows.length wide rows)(O:dy rows)(n0:0<rows.length)(al:∀ x y:Nat,x<rows.length->y<rows.length->(φ (x:Int)=φ (y:Int)↔fJ rows wide signs x y)):
  cH wide rows (dz φ rows 0 rows) signs ((bV φ rows.length).map fun q=>signs.getD q 0):=by
 have cp:∀ x y:Nat,x<rows.length->y<rows.length->φ (x:Int)=φ (y:Int)->∀ f:Nat,f<wide->φ (stepI rows x f)=φ (stepI rows y f):=fun x y hx hy e f hf=>by
  have a:=((al x y hx hy).mp e).led hf
  have rx:=dk R (show(0:Int)<=(x:Int) by omega) #[0] (show(0:Int)<=(f:Int) by omega) #[0]
  have ry:=dk R (show(0:Int)<=(y:Int) by omega) #[0] (show(0:Int)<=(f:Int) by omega) #[0]
  have h:=(al (stepI rows x f).toNat (stepI rows y f).toNat #[0] #[0]).mpr (by rw[jm rx.1,jm ry.1];exact a)
  rw[jm rx.1,jm ry.1]at h
  exact h
 have ll:(dz φ rows 0 rows).length=bc φ rows.length:=by rw[AE,bb,my]
 have p0:φ ((0:Nat):Int)=((0:Nat):Int):=by
  have h:=F 0 n0
  have e:bc φ 0=0:=rfl
  rw[e]at h
  omega
 have c1:bc φ 1=1:=by
  show(if φ ((0:Nat):Int)=((bc φ 0:Nat):Int)then bc φ 0+1 else bc φ 0)=1
  rw[if_pos (by rw[p0];rfl)]
  rfl
 have cN:0<bc φ rows.length:=by
  have:=EV (φ:=φ) (show 1<=rows.length from n0)
  omega
 have sg:∀ {q:Int},aw rows.length q->sgn ((bV φ rows.length).map fun q=>signs.getD q 0) (φ q)=sgn signs q:=fun {q} hq=>by
  obtain⟨n,rfl⟩:=mD hq.1
  have hn:n<rows.length:=by have:=hq.2;omega
  obtain⟨x,hx,e1,e2⟩:=rZ (F n hn).1 (F.lt hn (jF _))
  have at' := Be hx (e1.trans e2.symm)
  have a:=((al x n hx hn).mp e1).sgn
  rw[<- a]
  unfold sgn
  rw[<- e2,jB,jB,jQ,jV,at']
  rfl
 have tl:∀ {q:Int},aw rows.length q->Tells wide rows (dz φ rows 0 rows) signs ((bV φ rows.length).map fun q=>signs.getD q 0) q (φ q):=fun {q} hq v hv=>by
  rw[LP F R cp hv hq,sg (dH R hv hq.1 hq.2)]
 refine⟨⟨rfl,fun r hr=>?_,fun r hr v hv=>?_⟩,by omega,by rw[bb,my,ll],?_,fun a b ha hb hab=>?_,?_⟩
 ·rw[AE]at hr
  obtain⟨x,hx,rfl⟩:=jN.mp hr
  have xl:=jq.mp (JD.mp hx).1
  rw[bb,getD_at xl]
  exact R.row _ (jG xl)
 ·rw[AE]at hr
  obtain⟨x,hx,rfl⟩:=jN.mp hr
  have xl:=jq.mp (JD.mp hx).1
  obtain⟨t,ht,rfl⟩:=jN.mp hv
  rw[getD_at xl]at ht
  have rt:=R.val _ (jG xl) t ht
  obtain⟨n,rfl⟩:=mD rt.1
  have hn:n<rows.length:=by omega
  have h1:=(F n hn).1
  have h2:=F.lt hn (jF _)
  rw[ll]
  exact⟨h1,h2⟩
 ·have h:=DS F R cp (rs:=rows) (q:=0) (m:=1) (k:=rows.length) rfl (je _) n0 (fun x hx=>absurd hx (Jp _)) O
  rw[c1]at h
  show bz 0 1 _=some _
  rw[ll]
  exact h
 ·rw[ll]at ha hb
  obtain⟨x,hx,e1,_⟩:=rZ ha.1 ha.2
  obtain⟨y,hy,e2,_⟩:=rZ hb.1 hb.2
  rw[<- e1,<- e2]
  refine(al x y hx hy).mpr fun n v hv hl=>?_
  rw[tl (q:=(x:Int)) ⟨by omega,by omega⟩ v hv,tl (q:=(y:Int)) ⟨by omega,by omega⟩ v hv,e1,e2]
  exact hab n v hv hl
 ·have h:=tl (q:=0) ⟨by omega,by omega⟩
  have z:φ 0=0:=p0
  rw[z]at h
  exact h
end
theorem tI:∀ (r s:LI),∃ zs,r.foldl dw s=s++zs
 | [],s=>⟨[],by simp⟩
 | t :: r,s=>by
  by_cases c:t∈s
  ·obtain⟨zs,e⟩:=tI r s
   exact⟨zs,by rw[JZ,show dw s t=s from if_pos c,e]⟩
  ·obtain⟨zs,e⟩:=tI r (s++[t])
   exact⟨t :: zs,by rw[JZ,show dw s t=s++[t]from if_neg c,e,jv];rfl⟩
theorem Am(rows:LL):∀ (qs s:LI),∃ zs,qs.foldl (eD rows) s=s++zs
 | [],s=>⟨[],by simp⟩
 | q :: qs,s=>by
  obtain⟨z1,e1⟩:=tI (rows.getD q.toNat []) s
  obtain⟨z2,e2⟩:=Am rows qs (eD rows s q)
  exists z1++z2
  rw[JZ,e2]
  show(rows.getD q.toNat []).foldl dw s++z2=_
  rw[e1,jv]
def oC(qs:LI)(q:Int):Int:=((qs.idxOf q:Nat):Int)
theorem FO:∀ {r s zs:LI},qs=r.foldl dw s++zs->aR s.length (r.map (oC qs))=some (r.foldl dw s).length
 | [],s,zs,_=>rfl
 | t :: r,s,zs,e=>by
  have e':qs=r.foldl dw (dw s t)++zs:=e
  obtain⟨ys,ey⟩:=tI r (dw s t)
  have ih:=FO e'
  show(if oC qs t=(s.length:Int)then aR (s.length+1) (r.map (oC qs))else if oC qs t<(s.length:Int)then aR s.length (r.map (oC qs))else none)=some (r.foldl dw (dw s t)).length
  by_cases c:t∈s
  ·have ep:dw s t=s:=if_pos c
   rw[ep]at ih e' ey ⊢
   have ei:qs.idxOf t=s.idxOf t:=by rw[e',ey,jv,zp,if_pos c]
   have lt:=jt c
   have er:oC qs t=((s.idxOf t:Nat):Int):=by unfold oC;rw[ei]
   rw[if_neg #[0],if_pos #[0]]
   exact ih
  ·have ep:dw s t=s++[t]:=if_neg c
   rw[ep]at ih e' ey ⊢
   have ei:qs.idxOf t=s.length:=by
    rw[e',ey,jv,jv,zp,if_neg c]
    simp
   have er:oC qs t=(s.length:Int):=by unfold oC;rw[ei]
   rw[if_pos er]
   rw[jL,js]at ih
   exact ih
section
theorem DX(R:aF many wide rows)(n0:0<many)(eq:qs=qs.foldl (eD rows) [0])(nd:qs.Nodup)(re:∀ q∈qs,∃ row,ou wide row/\aM rows row 0=q):
  ∀ {ps:LI} {k:Nat},ps=qs.drop k->k<=qs.length->bz k ((qs.take k).foldl (eD rows) [0]).length (ps.map fun q=>(rows.getD q.toNat []).map (oC qs))=some qs.length
 | [],k,e,hk=>by
  have hl:qs.length<=k:=Jq.mp e.symm
  show some _=some _
  rw[zF hl,<- eq]
 | p :: ps,k,e,hk=>by
  have l1:k<qs.length:=by
   rcases Jd k qs.length with z|z
   ·exact z
   ·rw[Zq z]at e
    cases e
  have e0:=e
  rw[jy l1]at e
  injection e with ep es
  obtain⟨s,hs⟩:∃ s,(qs.take k).foldl (eD rows) [0]=s:=⟨_,rfl⟩
  have all:qs=(p :: ps).foldl (eD rows) s:=by
   rw[<- hs,<- JQ,e0,zL]
   exact eq
  obtain⟨zs,ez⟩:=Am rows (p :: ps) s
  rw[<- all]at ez
  have ks:k<s.length:=by
   rcases Jd k s.length with z|z
   ·exact z
   ·have sub:∀ q∈s,q∈qs.take k:=fun q hq=>by
     have:s=qs.take s.length:=by
      have h:(s++zs).take s.length=s:=List.take_left' rfl
      rw[<- ez]at h
      exact h.symm
     rw[this]at hq
     exact(List.take_prefix_take_left z).subset hq
    have cl:∀ q∈s,∀ f:Int,0<=f->f<(wide:Int)->aw many q->stepI rows q f∈s:=fun q hq f f0 f1 hr=>by
     rw[<- hs]
     refine oU rows (qs.take k) (sub q hq) ?_
     have lq:q.toNat<rows.length:=by have:=R.len;have:=hr.1;have:=hr.2;omega
     have lf:f.toNat<rows[q.toNat].length:=by rw[R.row _ (jG lq)];omega
     unfold stepI
     rw[getD_at lq,getD_at lf]
     exact jG lf
    have z0:(0:Int)∈s:=by rw[<- hs];exact tE rows _ jE
    have wk:∀ (row:LI) (q:Int),ou wide row->aw many q->q∈s->aM rows row q∈s:=fun row=>by
     induction row with
     | nil=>intro q _ _ h;exact h
     | cons f row ih =>
      intro q hf hr h
      have h0:=hf f jE
      exact ih _ (fun g hg=>hf g (jK _ hg)) (dk R hr.1 hr.2 h0.1 h0.2) (cl q h f h0.1 h0.2 hr)
    have lq:qs[k]∈s:=by
     obtain⟨row,hf,ew⟩:=re qs[k] (jG l1)
     rw[<- ew]
     exact wk row 0 hf ⟨by omega,by omega⟩ z0
    have ht:=sub _ lq
    obtain⟨i,hi,ei⟩:=jk ht
    rw[jX]at hi
    rw[zo]at ei
    have:=(JT nd).mp ei
    omega
  show(if k<((qs.take k).foldl (eD rows) [0]).length then(aR ((qs.take k).foldl (eD rows) [0]).length ((rows.getD p.toNat []).map (oC qs))).bind fun m'=>bz (k+1) m' (ps.map fun q=>(rows.getD q.toNat []).map (oC qs))else none)=_
  rw[hs,if_pos ks]
  obtain⟨ys,ey⟩:=Am rows ps (eD rows s p)
  have all2:qs=(rows.getD p.toNat []).foldl dw s++ys:=by
   rw[all]
   exact ey
  rw[FO all2]
  have ih:=DX R n0 eq nd re es l1
  have et:(qs.take (k+1)).foldl (eD rows) [0]=eD rows s p:=by
   rw[jW,jC l1,JQ,hs,<- ep]
   rfl
  rw[et]at ih
  exact ih
theorem OG(R:aF many wide rows)(inr:∀ q∈qs,aw many q)(hq:q∈qs){f:Nat}(hf:f<wide):stepI #[12] (oC qs q) f=oC qs (stepI rows q f):=by
 have li:=jt hq
 have hr:=inr q hq
 have lq:q.toNat<rows.length:=by have:=R.len;have:=hr.1;have:=hr.2;omega
 have lf:f<rows[q.toNat].length:=by rw[R.row _ (jG lq)];exact hf
 have ei:qs[qs.idxOf q]?=some q:=by rw[jC li,Jl li]
 have e3:#[12].getD (oC qs q).toNat []=(rows[q.toNat]).map (oC qs):=by
  unfold oC
  rw[jB,jQ,jV,ei]
  show(rows.getD q.toNat []).map _=_
  rw[getD_at lq]
 unfold stepI
 rw[e3,jB,getD_at lq,getD_at lf,jQ,jV,jC lf]
 rfl
theorem aaQ(R:aF many wide rows)(eq:qs=qs.foldl (eD rows) [0])(inr:∀ q∈qs,aw many q){f:Int}(hq:q∈qs)(f0:0<=f)(f1:f<(wide:Int)):stepI rows q f∈qs:=by
 rw[eq]
 refine oU rows qs hq ?_
 have hr:=inr q hq
 have lq:q.toNat<rows.length:=by have:=R.len;have:=hr.1;have:=hr.2;omega
 have lf:f.toNat<rows[q.toNat].length:=by rw[R.row _ (jG lq)];omega
 unfold stepI
 rw[getD_at lq,getD_at lf]
 exact jG lf
theorem DY(R:aF many wide rows)(eq:qs=qs.foldl (eD rows) [0])(inr:∀ q∈qs,aw many q):∀ {v:LI} {q:Int},ou wide v->q∈qs->aM #[12] v (oC qs q)=oC qs (aM rows v q)/\aM rows v q∈qs
 | [],q,_,hq=>⟨rfl,hq⟩
 | f :: v,q,hv,hq=>by
  have hf:=hv f jE
  obtain⟨m,rfl⟩:=mD hf.1
  have hs:=aaQ R eq inr hq hf.1 hf.2
  have ih:=DY R eq inr (fun g hg=>hv g (jK _ hg)) hs
  have st:=OG R inr hq (f:=m) #[0]
  show aM _ v (stepI _ (oC qs q) (m:Int))=oC qs (aM rows v (stepI rows q (m:Int)))/\aM rows v (stepI rows q (m:Int))∈qs
  rw[st]
  exact ih
theorem LY(R:aF many wide rows)(n0:0<many)(eq:qs=qs.foldl (eD rows) [0])(nd:qs.Nodup)(inr:∀ q∈qs,aw many q)(re:∀ q∈qs,∃ row,ou wide row/\aM rows row 0=q):
  aF qs.length wide #[12]/\dy #[12]/\0<qs.length/\Tells wide rows #[12] signs (qs.map fun q=>signs.getD q.toNat 0) 0 0:=by
 obtain⟨zs,ez⟩:=Am rows qs [0]
 rw[<- eq]at ez
 have z0:(0:Int)∈qs:=by rw[ez];exact jE
 have r0:oC qs 0=0:=by
  unfold oC
  rw[ez]
  simp
 refine⟨⟨jZ _,fun r hr=>?_,fun r hr v hv=>?_⟩,?_,zH z0,fun v hv=>?_⟩
 ·obtain⟨q,hq,rfl⟩:=jN.mp hr
  have h:=inr q hq
  have lq:q.toNat<rows.length:=by have:=R.len;have:=h.1;have:=h.2;omega
  rw[bb,getD_at lq]
  exact R.row _ (jG lq)
 ·obtain⟨q,hq,rfl⟩:=jN.mp hr
  have h:=inr q hq
  have lq:q.toNat<rows.length:=by have:=R.len;have:=h.1;have:=h.2;omega
  obtain⟨t,ht,rfl⟩:=jN.mp hv
  have tm:t∈qs:=by rw[eq];exact oU rows qs hq ht
  have:=jt tm
  unfold oC
  omega
 ·have h:=DX R n0 eq nd re (ps:=qs) (k:=0) rfl (je _)
  show bz 0 1 _=some _
  rw[bb]
  exact h
 ·have h:=DY R eq inr hv z0
  rw[r0]at h
  rw[h.1]
  obtain⟨w,ew⟩:∃ w,aM rows v 0=w:=⟨_,rfl⟩
  have hw:=h.2
  rw[ew]at hw ⊢
  have li:=jt hw
  unfold sgn oC
  rw[jB,jQ (l:=qs.map _),jV,jC li,Jl li]
  rfl
end
theorem Tells.trans{r3:LL}{s3:LI}{c:Int}(h:Tells wide r1 r2 s1 s2 a b)(h':Tells wide r2 r3 s2 s3 b c):Tells wide r1 r3 s1 s3 a c:=fun v hv=>(h v hv).trans (h' v hv)
theorem Tells.symm(h:Tells wide r1 r2 s1 s2 a b):Tells wide r2 r1 s2 s1 b a:=fun v hv=>(h v hv).symm
theorem cH.of{ss:LI}(h:cH wide rs au ss az)(t:Tells wide rows rs signs ss 0 0):cH wide rows au signs az:=
 ⟨h.ok,h.pos,h.sgn,h.ord,h.apart,t.trans h.tells⟩
theorem cH.one{a b:LL}{sa sb:LI}(h1:cH wide r1 a s1 sa)(h2:cH wide r2 b s2 sb)(t:Tells wide r1 r2 s1 s2 0 0):a=b/\sa=sb:=
 MB h1.apart h2.apart h1.ok h2.ok h1.pos h2.pos h1.ord h2.ord h1.sgn h2.sgn ((h1.tells.symm.trans t).trans h2.tells)
theorem cH.self(R:aF rows.length wide rows)(n0:0<rows.length)(ls:signs.length=rows.length)(O:dy rows)(A:Apart wide rows signs):cH wide rows rows signs signs:=
 ⟨R,n0,ls,O,A,fun _ _=>rfl⟩
theorem Lg(R:aF many wide rows)(n0:0<many)(eq:qs=qs.foldl (eD rows) [0])(nd:qs.Nodup)(inr:∀ q∈qs,aw many q)(re:∀ q∈qs,∃ row,ou wide row/\aM rows row 0=q)(lg:gs.length=qs.length)(hg:∀ x y:Nat,x<qs.length->y<qs.length->(gs.getD x 0=gs.getD y 0↔fJ #[12] wide (qs.map fun q=>signs.getD q.toNat 0) x y)):
  cH wide rows (dz (oB gs) #[12] 0 #[12]) signs ((bV (oB gs) qs.length).map fun q=>(qs.map fun q=>signs.getD q.toNat 0).getD q 0):=by
 obtain⟨R1,O1,p1,t1⟩:=LY (signs:=signs) R n0 eq nd inr re
 have el:#[12].length=qs.length:=jZ _
 have F:=RL gs
 have h:=X5 (φ:=oB gs) (wide:=wide) (rows:=qs.map fun q=>(rows.getD q.toNat []).map (oC qs)) (signs:=qs.map fun q=>signs.getD q.toNat 0) (by rw[el,<- lg];exact F) (by rw[el];exact R1) O1 (by rw[el];exact p1) (fun x y hx hy=>by
  rw[el]at hx hy
  rw[aao ⟨by omega,by omega⟩ ⟨by omega,by omega⟩,jB,jB]
  exact hg x y hx hy)
 rw[el]at h
 exact h.of t1
def Bn(xs:LI)(k:Nat):List (Key×V):=(xs.zipIdx k).map fun p=>(Sum.inl p.1,V.int (p.2:Int))
theorem pR(xs:LI)(k:Nat):(Bn xs k).length=xs.length:=by
 unfold Bn
 rw[bb,QK]
theorem tG:∀ (xs:LI) (k:Nat) (g:Int),eC (Bn xs k) (Sum.inl g)=if g∈xs then some (.int ((k+xs.idxOf g:Nat):Int))else none
 | [],k,g=>by rw[if_neg #[11]];rfl
 | x :: xs,k,g=>by
  have ih:=tG xs (k+1) g
  have e0:Bn (x :: xs) k=(Sum.inl x,V.int (k:Int)) :: Bn xs (k+1):=rfl
  by_cases e:x=g
  ·subst e
   rw[e0,mO rfl,if_pos jE,Qb]
   simp
  ·rw[e0,hV (fun z=>e (Sum.inl.inj z)),ih]
   have m:g∈x :: xs↔g∈xs:=by simp[Ne.symm e]
   by_cases c:g∈xs
   ·have i:(x :: xs).idxOf g=xs.idxOf g+1:=by rw[Qb,show(x==g)=false from beq_false_of_ne e];rfl
    rw[if_pos c,if_pos (m.mpr c),i]
    congr 3
    omega
   ·rw[if_neg c,if_neg fun z=>c (m.mp z)]
theorem HB{g:Int}(h:g∉xs):putK (Bn xs 0) (Sum.inl g) (V.int (xs.length:Int))=Bn (xs++[g]) 0:=by
 unfold putK
 rw[if_neg (by
  intro z
  obtain⟨p,hp,e⟩:=zR.mp z
  obtain⟨k,hk,rfl⟩:=jN.mp hp
  have e' := Sum.inl.inj (of_decide_eq_true e)
  have m:k.1∈xs:=by
   obtain⟨i,hi,ei⟩:=jk hk
   rw[List.getElem_zipIdx]at ei
   rw[<- ei]
   exact jG _
  exact h (e' ▸ m))]
 unfold Bn
 rw[ZP,jD,Je]
 rfl
theorem wD:∀ (gs s:LI),s.Nodup->(gs.foldl dd s).Nodup
 | [],s,h=>h
 | g :: gs,s,h=>by
  rw[JZ]
  by_cases c:g∈s
  ·rw[oP c];exact wD gs s h
  ·rw[iy c];exact wD gs _ (Av h c)
theorem aci(gs:LI):(bp gs).Nodup:=wD gs [] Jx
theorem fz:∀ (gs s:LI),(gs.foldl dd s).length<=s.length+gs.length
 | [],s=>jF _
 | g :: gs,s=>by
  rw[JZ]
  by_cases c:g∈s
  ·rw[oP c]
   have:=fz gs s
   rw[jc]
   omega
  ·rw[iy c]
   have:=fz gs (s++[g])
   rw[jL,js]at this
   rw[jc]
   omega
theorem sC(gs:LI):(bp gs).length<=gs.length:=by
 have:=fz gs []
 rw[Jn,Je]at this
 exact this
def eI(gs:LI):LI:=(jO gs.length).map fun i:Nat=>oB gs i
theorem AA(h0:0<=q)(h1:q<(gs.length:Int)):br (eI gs) q=oB gs q:=by
 unfold br eI
 have l:q.toNat<gs.length:=by omega
 rw[getD_at (by rw[bb,jT];exact l),JC,JV,jm h0]
theorem aap(h0:0<=q)(h1:q<(gs.length:Int)):0<=oB gs q/\oB gs q<((bp gs).length:Int):=by
 have l:q.toNat<gs.length:=by omega
 have m:gs.getD q.toNat 0∈bp gs:=by rw[getD_at l];exact sG.mpr (jG l)
 have:=jt m
 unfold oB
 omega
theorem aaq(h:j<(bp gs).length):∃ q:Int,aw gs.length q/\oB gs q=(j:Int):=by
 have m:(bp gs)[j]∈gs:=sG.mp (jG h)
 obtain⟨i,hi,e⟩:=jk m
 refine⟨(i:Int),⟨by omega,by omega⟩,?_⟩
 unfold oB
 rw[jB,getD_at hi,e]
 have l:=jt (jG h)
 have q:=(JT (aci gs)).mp (Jl l)
 rw[q]
theorem Q0(col:LI)(q:Int):(cX col q).Nodup:=by
 unfold cX
 refine Jv.mpr ((List.nodup_range.filter _).imp fun {a b} n z=>n ?_)
 have z':(a:Int)=(b:Int):=z
 omega
def L7(C:Qu):Sp:=fun vs H Q _=>∃ (x dx g:Qu) (signs:LI),vs=[.ref x,.ref g]/\H x=some (.ins C dx [])/\H g=some (.tup (signs.map V.int))/\signs.length<1000 /\
 ∀ (H':Hp) (go ms wt iw:Qu) (ds:List Qu),(∀ b u,b≠x->H b=some u->H' b=some u)->H go=none->H ms=none->H wt=none->H iw=none->(∀ d∈ds,H d=none)->B3 H' C x go ms wt iw signs.length (eI signs) ds ((jO ds.length).map fun i:Nat=>(i:Int))->Q .non H'
section
theorem cy:aH ["self","signs","numbers","group_of","members","here","group"] ["self","signs"] (av cD):=cW #[3]
theorem iK:aZ ["self","signs","numbers","group_of","members","here","group"] (av cD) ["sign","numbers"] [none,some 2] ⟨.function,[#[60],("sign",.local),("len",.globalImplicit),("numbers",.free)],false,false,[]⟩:=mC #[3]
theorem iL:aZ ["self","signs","numbers","group_of","members","here","group"] (av cD) ["sign"] [none] ⟨.function,[#[60],("sign",.local)],false,false,[]⟩:=mC #[3]
theorem iM:aZ ["self","signs","numbers","group_of","members","here","group"] (av cD) ["group"] [none] ⟨.function,[#[60],("group",.local)],false,false,[]⟩:=mC #[3]
theorem Oc(F:bG K "__init__" "Parted.__init__" cD dV f fd)(pc:IC K C)(bh:mg "len" = none)(fq:mg "list" = none)(bj:mg "range" = none)(lK:mg "dict" = none)(cL:mg "enumerate" = none):bu P w K mg base eM 1 f fd ["self","signs"] (L7 C):=by
 refine F.ok cy #[7] #[2]
 ·obtain⟨x,dx,g,signs,rfl,_⟩:=h
  rfl
 obtain⟨x,dx,g,signs,rfl,hx,hg,ln,k⟩:=h
 have hu:=oW hr
 refine⟨_,(ah (aC (i:=2) cy.nd sI)
   (ah (iA (i:=3) rfl cy.nd rfl (Or.inl rfl) iK (lF (pv 1)) (fun _ _ _ _=>(aS (i:=0) iK.nd)) (fun _ _ _ _=>(Cz (pv 1) (pv 0) (aA tu #[41] bh bW (aa (pv 1) af)) ⟨rfl,rfl,rfl,rfl⟩)))
   (ah (iA (i:=4) rfl cy.nd rfl (Or.inl rfl) iL (acv (pv 2)) (fun _ _ _ _=>(aS (i:=0) iL.nd)) (fun _ _ _ _=>sI))
   (ah (bX PassesOwn.never rfl (DM rfl cL (aa (pv 3) af)) (wG rfl (bL (aS (i:=5) cy.nd) (bL (aS (i:=6) cy.nd) oj))) (ao (AB hu (aN dS (pv 4) (pv 6) #[5]) (pv 5) cU rfl)))
   (ah (Br (pv 0) (pv 3) rfl)
   (ah (Br (pv 0) (pv 4) rfl)
   (ah (Br (pv 0) (Oq rfl rfl fq rfl bj (aa (aA aI #[41] bh bW (aa (pv 4) af)) af)) rfl)
   (ao (Br (pv 0) (aW (rV rfl) #[41] lK Cr (aa (cM rfl iM (cx rfl bj (aa (aA aI #[41] bh bW (aa (pv 4) af)) af)) (fun _ _ _ _=>(aS (i:=0) iM.nd)) (fun _ _ _ _=>(fh (aa (pv 0) (aa cU af))))) af)) rfl))))))))),?_⟩
 refine fun Nd hNd=>?_
 have s0:=ak hNd (HO.dK [])
 have pl:(eI signs).length=signs.length:=by unfold eI;rw[bb,jT]
 try dsimp only[bB,dG]
 refine eO (t:=wM _ _) (fun σ' H'=>∃ go:Qu,σ'=[some (.ref x),some (.ref g),some (.ref Nd),some (.ref go),none,none,none]/\aB H H'/\H go=none/\H' go=some (.lst ((eI signs).map V.int))/\H' Nd=some (.dK (Bn (bp signs) 0))) ?_ (fun D' dU=>?_)
 rotate_left
 ·exists _,rfl,g,rfl,⟨_,cj (s0 _ _ hg)⟩
  refine rX (K:=K) (xs:=signs.map V.int) (fun D i ys H'=>aB H H'/\H' Nd=some (.dK (Bn (bp (signs.take i)) 0))/\ys=((jO i).map fun j:Nat=>oB signs j).map V.int) (fun D hD=>⟨ax s0 (s0.free hD),by rw[aj (ar ae hD),ae];rfl,rfl⟩) (fun D i ys H' _ ⟨e,_⟩=>cj (e _ _ hg)) ?_ ?_
  ·rintro D i y ys H2 Q' hD hi hy ⟨s2,MR,rfl⟩ k'
   obtain⟨sg,rfl,hs⟩:=bw hi
   have il:=(fV hs).1
   have ol:=sC (signs.take i)
   rw[jX]at ol
   have nND:Nd≠D:=aG MR hy #[1]
   have fD:H D=none:=s0.free hD
   refine⟨_,rfl,Nd,rfl,.inl ⟨_,.inl MR⟩,_,rfl,_,rfl,Nd,_,rfl,MR,_,Sum.inl sg,MR,rfl,ay (by rw[pR];omega),fun v hv=>?_,fun hn=>?_⟩
   ·rw[tG]at hv
    by_cases c:sg∈bp (signs.take i)
    ·rw[if_pos c,Je]at hv
     have ev:=(Option.some.inj hv).symm
     subst ev
     refine k' _ _ hy (ay (by rw[bb,bb,jT];omega)) ⟨ax s2 fD,by rw[aj nND,MR,mh hs,oP c],?_⟩
     rw[JK,jD,jD,<- CB hs c]
     rfl
    ·rw[if_neg c]at hv
     cases hv
   ·rw[tG]at hn
    by_cases c:sg∈bp (signs.take i)
    ·rw[if_pos c]at hn
     cases hn
    ·rw[pR]
     refine k' _ _ (by rw[aj (Ne.symm nND)];exact hy) (ay (by rw[bb,bb,jT];omega)) ⟨ax (ax s2 hNd) fD,by rw[aj nND,ae,HB c,mh hs,iy c],?_⟩
     rw[JK,jD,jD,<- CA hs c]
     rfl
  ·rintro D ys H2 hD hy ⟨s2,MR,rfl⟩
   rw[bb,jY]at MR
   rw[bb]at hy
   exact dU _ _ ⟨D,rfl,s2,s0.free hD,hy,MR⟩
 rintro σ' H1 ⟨go,rfl,s1,fgo,ahB,hN1⟩
 have ol:=sC signs
 refine eO (t:=wM _ _) (fun σ' H'=>∃ (ms:Qu) (as:List Qu),σ'=[some (.ref x),some (.ref g),some (.ref Nd),some (.ref go),some (.ref ms),none,none]/\aB H H'/\H' go=some (.lst ((eI signs).map V.int))/\H ms=none/\H' ms=some (.lst (as.map V.ref))/\as.length=(bp signs).length/\as.Nodup/\ms≠go/\(∀ a∈as,H a=none/\H' a=some (.dK []))) ?_ (fun D' dU=>?_)
 rotate_left
 ·refine⟨_,rfl,Nd,_,rfl,.inl ⟨hN1,fun o=>?_⟩⟩
  obtain⟨H2,Ho⟩:∃ H2,upd H1 Nd (.pB o (.dK (Bn (bp signs) 0)))=H2:=⟨_,rfl⟩
  have s2:aB H H2:=by rw[<- Ho];exact ax s1 hNd
  have MR:H2 Nd=some (.pB o (.dK (Bn (bp signs) 0))):=by rw[<- Ho,ae]
  have U3:H2 go=some (.lst ((eI signs).map V.int)):=by rw[<- Ho,aj (aG ahB hN1 #[1])];exact ahB
  rw[Ho]
  refine RE (o:=o) (kvs:=Bn (bp signs) 0) (fun D i ys H'=>aB H2 H'/\∃ as:List Qu,ys=as.map V.ref/\as.length=i/\as.Nodup/\(∀ a∈as,H2 a=none/\H' a=some (.dK []))) (fun D hD=>⟨ak hD _,[],rfl,rfl,Jx,fun a h=>by cases h⟩) (fun D i ys H' _ ⟨e,_⟩=>e _ _ MR) ?_ ?_
  ·rintro D i p ys H3 Q' hD hi hy ⟨s3,as,rfl,la,nd,ha⟩ k'
   have il:=(fV hi).1
   rw[pR]at il
   refine fun d hd=>?_
   have nDd:D≠d:=ar hy hd
   have nda:d∉as:=fun z=>by rw[(ha d z).2]at hd;cases hd
   refine k' _ _ (by rw[aj nDd];exact hy) (ay #[36]) ⟨ax (ax s3 (s3.free hd)) hD,as++[d],by rw[jD];rfl,by rw[jL,js,la],?_,fun a h=>?_⟩
   ·exact JU.mpr ⟨nd,by simp,fun a ha b hb e=>nda (by rw[<- jJ.mp hb,<- e];exact ha)⟩
   ·rcases tT.mp h with z|z
    ·obtain⟨h1,h2⟩:=ha a z
     exact⟨h1,by rw[aj (aG h2 hy #[1]),aj (fun y:a=d=>nda (y ▸ z))];exact h2⟩
    ·rw[jJ.mp z]
     exact⟨s3.free hd,by rw[aj (Ne.symm nDd),ae]⟩
  ·rintro D ys H3 hD hy ⟨s3,as,rfl,la,nd,ha⟩
   rw[pR]at la
   exact dU _ _ ⟨D,as,rfl,s2.trans s3,s3 _ _ U3,s2.free hD,hy,la,nd,Ne.symm (ar U3 hD),fun a h=>⟨s2.free (ha a h).1,(ha a h).2⟩⟩
 rintro σ' H2 ⟨ms,as,rfl,s2,U3,fms,alm,la,nda,nmg,ha2⟩
 refine eO (t:=Ec _ _ _) (fun σ' H'=>∃ (v1 v2:OV),σ'=[some (.ref x),some (.ref g),some (.ref Nd),some (.ref go),some (.ref ms),v1,v2]/\aB H H'/\H' go=some (.lst ((eI signs).map V.int))/\H' ms=some (.lst (as.map V.ref))/\∀ (j:Nat) (a:Qu),as[j]?=some a->H' a=some (.dK (dh (cX (eI signs) (j:Int))))) ?_ (fun D' dU=>?_)
 rotate_left
 ·refine⟨_,rfl,go,rfl,⟨_,bZ U3⟩,Fc (K:=K) (xs:=(eI signs).map V.int) (fun i σ' H'=>∃ (v1 v2:OV),σ'=[some (.ref x),some (.ref g),some (.ref Nd),some (.ref go),some (.ref ms),v1,v2]/\aB H H'/\H' go=some (.lst ((eI signs).map V.int))/\H' ms=some (.lst (as.map V.ref))/\∀ (j:Nat) (a:Qu),as[j]?=some a->H' a=some (.dK (dh (cX ((eI signs).take i) (j:Int)))))
   ⟨none,none,rfl,s2,U3,alm,fun j a h=>(ha2 a (oY h)).2⟩ (fun i σ' H' _ ⟨_,_,_,_,e,_,_⟩=>bZ e) ?_ ?_⟩
  ·rintro i y σ' H3 T hi ⟨v1,v2,rfl,s3,U4,Hx,ha3⟩ hT
   obtain⟨t,rfl,ht⟩:=bw hi
   have il:=(fV ht).1
   rw[pl]at il
   have et:t=oB signs (i:Int):=by
    have e:=(fV ht).2
    rw[<- e]
    unfold eI
    rw[JC,JV]
   have tv:=aap (gs:=signs) (q:=(i:Int)) #[0] #[0]
   rw[<- et]at tv
   have tl:t.toNat<as.length:=by omega
   have sT:=ak hT (HO.tup [V.int i,V.int t])
   obtain⟨H4,Bc⟩:∃ H4,upd H3 T (HO.tup [V.int i,V.int t])=H4:=⟨_,rfl⟩
   have hT4:H4 T=some (.tup [V.int i,V.int t]):=by rw[<- Bc];exact ae
   rw[Bc]at sT ⊢
   obtain⟨a,ea⟩:∃ a,as[t.toNat]?=some a:=⟨_,jC tl⟩
   have ha4:=sT _ _ (ha3 _ _ ea)
   have tn:((t.toNat:Nat):Int)=t:=jm tv.1
   rw[tn]at ha4
   have lp:((eI signs).take i).length=i:=by rw[jX];omega
   have ail:(i:Int)∉cX ((eI signs).take i) t:=fun z=>by
    have h1:=(pb.mp z).1.2
    rw[lp]at h1
    omega
   have pln:=LJ ((eI signs).take i) t
   exists T,_,rfl,cj hT4,rfl,_,_,rfl,_,_,rfl,rfl
   refine⟨_,rfl,_,rfl,ms,_,_,_,rfl,rfl,bZ (sT _ _ Hx),iJ tv.1 ea,_,rfl,a,_,rfl,CH.k (k:=Sum.inl (i:Int)) ha4 (ay (by unfold dh;rw[bb];omega)),?_⟩
   rw[Cu ail]
   have fa:H a=none:=(ha2 a (oY ea)).1
   have MS:=sT _ _ U4
   have K2:=sT _ _ Hx
   refine⟨_,_,rfl,ax (s3.trans sT) fa,by rw[aj (aG MS ha4 #[1])];exact MS,by rw[aj (aG K2 ha4 #[1])];exact K2,fun j b hb=>?_⟩
   have et2:(eI signs).take (i+1)=(eI signs).take i++[t]:=by rw[jW,ht];rfl
   rw[et2,Bq,lp]
   by_cases c:b=a
   ·subst c
    have ej:j=t.toNat:=by
     have e1:=(fV hb)
     have e2:=(fV ea)
     exact(JT nda).mp (e1.2.trans e2.2.symm)
    rw[ae,ej,tn,if_pos rfl]
   ·have nj:t≠(j:Int):=fun z=>by
     have e:t.toNat=j:=by omega
     rw[e,hb]at ea
     exact c (Option.some.inj ea)
    rw[aj c,if_neg nj,JA]
    exact sT _ _ (ha3 j b hb)
  ·rintro σ' H3 ⟨v1,v2,rfl,s3,U4,Hx,ha3⟩
   rw[bb,jY]at ha3
   exact dU _ _ ⟨v1,v2,rfl,s3,U4,Hx,ha3⟩
 rintro σ' H3 ⟨v1,v2,rfl,s3,U4,Hx,ha3⟩
 have fa:∀ a∈as,H a=none:=fun a h=>(ha2 a h).1
 refine⟨_,rfl,_,rfl,x,C,dx,[],rfl,s3 _ _ hx,pc.cl,pc.ng,by decide,?_⟩
 refine⟨_,rfl,_,rfl,x,C,dx,_,rfl,ae,pc.cl,pc.nm,by show(1:Nat)<1000;decide,?_⟩
 rw[Rt]
 obtain⟨H4,Bc⟩:∃ H4,upd H3 x (HO.ins C dx (pd "members" (V.ref ms) (pd "group_of" (V.ref go) [])))=H4:=⟨_,rfl⟩
 have k4:∀ b u,b≠x->H b=some u->H4 b=some u:=fun b u n h=>by rw[<- Bc,aj n];exact s3 _ _ h
 have x4:H4 x=some (.ins C dx [("group_of",.ref go),("members",.ref ms)]):=by rw[<- Bc,ae];rfl
 have nxa:∀ b:Qu,H b=none->x≠b:=fun b h=>ar hx h
 have MS:H4 go=some (.lst ((eI signs).map V.int)):=by rw[<- Bc,aj (Ne.symm (nxa _ fgo))];exact U4
 have K2:H4 ms=some (.lst (as.map V.ref)):=by rw[<- Bc,aj (Ne.symm (nxa _ fms))];exact Hx
 have ha4:∀ (j:Nat) (a:Qu),as[j]?=some a->H4 a=some (.dK (dh (cX (eI signs) (j:Int)))):=fun j a h=>by
  rw[<- Bc,aj (Ne.symm (nxa _ (fa a (oY h))))];exact ha3 j a h
 have f4:∀ {b},H4 b=none->H b=none:=fun {b} h=>by
  rcases Decidable.em (b=x)with z|z
  ·subst z;rw[x4]at h;cases h
  ·cases e:H b with
   | none=>rfl
   | some u=>rw[k4 b u z e]at h;cases h
 rw[Bc]
 have lm:(as.map V.ref).length=as.length:=jZ _
 refine⟨_,rfl,ms,_,rfl,.inl (bZ K2),(as.map V.ref).length,rfl,small (by rw[lm];omega),fun wt Dt=>?_⟩
 rw[lm]
 have nxw:x≠wt:=ar x4 Dt
 refine⟨_,rfl,x,C,dx,_,rfl,by rw[aj nxw];exact x4,pc.cl,pc.nw,by show(2:Nat)<1000;decide,?_⟩
 obtain⟨H5,eH5⟩:∃ H5,upd (upd H4 wt (HO.lst ((jO as.length).map fun i:Nat=>V.int i))) x (HO.ins C dx (pd "waiting" (V.ref wt) [("group_of",.ref go),("members",.ref ms)]))=H5:=⟨_,rfl⟩
 have k5:∀ b u,b≠x->H4 b=some u->H5 b=some u:=fun b u n h=>by rw[<- eH5,aj n,aj (ar h Dt)];exact h
 have x5:H5 x=some (.ins C dx [("group_of",.ref go),("members",.ref ms),("waiting",.ref wt)]):=by rw[<- eH5,ae];rfl
 have abV:H5 wt=some (.lst (((jO as.length).map fun i:Nat=>(i:Int)).map V.int)):=by rw[<- eH5,aj (Ne.symm nxw),ae,JO];rfl
 have RY:=k5 _ _ (Ne.symm (nxa _ fgo)) MS
 have abO:=k5 _ _ (Ne.symm (nxa _ fms)) K2
 have f5:∀ {b},H5 b=none->H4 b=none:=fun {b} h=>by
  rcases Decidable.em (b=x)with z|z
  ·subst z;rw[x5]at h;cases h
  ·cases e:H4 b with
   | none=>rfl
   | some u=>rw[k5 b u z e]at h;cases h
 rw[eH5]
 obtain⟨ns,ens⟩:∃ ns:LI,((jO as.length).map fun i:Nat=>(i:Int))=ns:=⟨_,rfl⟩
 have lns:ns.length=as.length:=by rw[<- ens,bb,jT]
 have ndn:ns.Nodup:=by
  rw[<- ens]
  refine Jv.mpr (List.nodup_range.imp fun {a b} n z=>n ?_)
  have z':(a:Int)=(b:Int):=z
  omega
 refine⟨_,rfl,ms,_,rfl,.inl (bZ abO),_,rfl,by rw[lm];omega,by rw[lm];omega,?_⟩
 refine ff (fun D i ys H'=>aB H5 H'/\∃ ts,ys=ts.map V.ref/\ir H' ts (dh (ns.take i))) (fun D hD=>⟨ak hD _,[],rfl,.nil⟩) ?_ ?_
 ·rintro D i ys H' Q' hD hi hy ⟨hs,ts,rfl,pv⟩ k'
  rw[jB,lm]at hi
  have hq:ns[i]?=some (i:Int):=by
   rw[<- ens,jV,QF hi]
   rfl
  refine⟨_,rfl,(by show 2<=sizeLine;decide),fun T hT=>?_⟩
  rw[Jo]
  have sT:=ak hT (HO.tup [V.int i,V.bl true])
  have nD:D≠T:=ar hy hT
  have lts:ts.length=i:=by
   rw[Paired.length pv]
   unfold dh
   rw[bb,jX]
   omega
  have hyT:(upd H' T (HO.tup [V.int i,V.bl true])) D=some (.lst (ts.map V.ref)):=by rw[aj nD];exact hy
  refine k' _ _ hyT (ay #[36]) ⟨ax (ax hs (hs.free hT)) hD,ts++[T],by rw[jD];rfl,?_⟩
  rw[jW,hq]
  have up:∀ b xs,(upd H' T (HO.tup [V.int i,V.bl true])) b=some #[42]->(upd (upd H' T (HO.tup [V.int i,V.bl true])) D (.lst (ts.map V.ref++[V.ref T]))) b=some #[42]:=fun b xs e=>by
   rw[aj (aG e hyT #[1])];exact e
  show ir _ _ (dh (ns.take i++[(i:Int)]))
  unfold dh
  rw[jD]
  exact Paired.snoc (ir.same pv fun b xs e=>up b xs (sT _ _ e)) (up _ _ ae)
 rintro L ys H6 fL hL ⟨s6,ts,rfl,pv⟩
 rw[jB,lm,<- lns,jY]at pv
 refine⟨L,ts,_,rfl,hL,pv,fun iw Eu=>?_⟩
 rw[Fz ndn]
 have nxi:x≠iw:=ar (s6 _ _ x5) Eu
 refine⟨_,rfl,x,C,dx,_,rfl,by rw[aj nxi];exact s6 _ _ x5,pc.cl,pc.ni,by show(3:Nat)<1000;decide,?_⟩
 have fiw:H5 iw=none:=s6.free Eu
 have kz:∀ b u,b≠x->H5 b=some u->(upd (upd H6 iw (HO.dK (dh ns))) x (HO.ins C dx (pd "is_waiting" (V.ref iw) [("group_of",.ref go),("members",.ref ms),("waiting",.ref wt)]))) b=some u:=fun b u n h=>by
  rw[aj n,aj (ar h fiw)];exact s6 _ _ h
 have ha5:∀ (j:Nat) (a:Qu),as[j]?=some a->H5 a=some (.dK (dh (cX (eI signs) (j:Int)))):=fun j a h=>k5 _ _ (Ne.symm (nxa _ (fa a (oY h)))) (ha4 j a h)
 refine k _ go ms wt iw as (fun b u n h=>kz _ _ n (k5 _ _ n (k4 _ _ n h))) fgo fms (f4 Dt) (f4 (f5 fiw)) fa ?_
 have nw4:wt≠x:=Ne.symm nxw
 refine⟨⟨dx,by rw[ae];rfl⟩,kz _ _ (Ne.symm (nxa _ fgo)) RY,kz _ _ (Ne.symm (nxa _ fms)) abO,by rw[ens];rw[ens]at abV;exact kz _ _ nw4 abV,by rw[ens,aj (Ne.symm nxi),ae],pl,fun q hq=>?_,fun j a h=>?_,nda,fun z=>?_,Ne.symm nmg,?_,?_,by rw[ens];exact ndn,fun p hp=>?_⟩
 ·rw[AA hq.1 hq.2,la]
  exact aap hq.1 hq.2
 ·have jl:=(fV h).1
  refine⟨cX (eI signs) (j:Int),kz _ _ (Ne.symm (nxa _ (fa a (oY h)))) (ha5 j a h),Q0 _ _,fun z=>?_,fun q=>?_⟩
  ·obtain⟨q,hq,e⟩:=aaq (gs:=signs) (j:=j) #[0]
   have:q∈cX (eI signs) (j:Int):=pb.mpr ⟨⟨hq.1,by rw[pl];exact hq.2⟩,by
    have:=AA hq.1 hq.2
    unfold br at this
    rw[this,e]⟩
   rw[z]at this
   cases this
  ·rw[pb,pl]
   rfl
 ·obtain⟨j,hj⟩:=JH.mp z
  have:=ha5 j iw hj
  rw[fiw]at this
  cases this
 ·exact ar MS Dt
 ·exact ar K2 Dt
 ·rw[ens]at hp
  rw[<- ens]at hp
  obtain⟨i,hi,rfl⟩:=jN.mp hp
  have:=jq.mp hi
  omega
end
theorem aaA(acc:List (List Key×V))(a k:List Key)(v:V):k∈(putK acc a v).map Prod.fst↔k∈acc.map Prod.fst\/k=a:=by
 unfold putK
 by_cases c:(acc.any fun kv=>decide (kv.fst=a))=true
 ·rw[if_pos c,JO]
  have e:acc.map (Prod.fst ∘ fun kv=>if kv.fst=a then(kv.fst,v)else kv)=acc.map Prod.fst:=zX fun kv _=>by
   show(if kv.fst=a then(kv.fst,v)else kv).fst=kv.fst
   split<;>rfl
  rw[e]
  obtain⟨kv,h1,h2⟩:=zR.mp c
  have h3:a∈acc.map Prod.fst:=jN.mpr ⟨kv,h1,of_decide_eq_true h2⟩
  exact⟨.inl,fun z=>z.elim id fun z=>z ▸ h3⟩
 ·rw[if_neg c,jD,zB]
  exact or_congr Iff.rfl jJ
theorem DH:∀ (kvs acc:List (List Key×V)) (k:List Key),k∈(lD acc kvs).map Prod.fst↔k∈acc.map Prod.fst\/k∈kvs.map Prod.fst
 | [],acc,k=>⟨.inl,fun z=>z.elim id fun z=>by cases z⟩
 | p :: kvs,acc,k=>by
  show k∈(lD (putK acc p.1 p.2) kvs).map Prod.fst↔_
  rw[DH kvs,aaA,or_assoc]
  exact or_congr Iff.rfl (jS (a:=k) (b:=p.1) (l:=kvs.map Prod.fst)).symm
theorem PL{x y:LI}(e:x.map (Sum.inl:Int->Key)=y.map Sum.inl):x=y:=by
 have h:=congrArg (List.map fun k:Key=>Sum.elim id (fun _=>(0:Int)) k) e
 rw[JO,JO]at h
 have f:((fun k:Key=>Sum.elim id (fun _=>(0:Int)) k) ∘ (Sum.inl:Int->Key))=id:=rfl
 rw[f,QR,QR]at h
 exact h
theorem Fq:∀ {bs:List Qu} {kvs:List (List Key×V)},IB H bs kvs->(∀ k∈kvs.map Prod.fst,∃ c:LI,k=c.map Sum.inl)->∃ cols:LL,aJ H bs cols/\kvs.map Prod.fst=cols.map fun c=>c.map Sum.inl
 | [],[],.nil,_=>⟨[],.nil,rfl⟩
 | _,_,.cons (a:=b) (b:=p) (l₁:=bs) (l₂:=kvs) h t,q=>by
  obtain⟨cols,h1,h2⟩:=Fq t fun k hk=>q k (jK _ hk)
  obtain⟨c,e⟩:=q p.1 jE
  refine⟨c :: cols,.cons ?_ h1,by rw[JJ,JJ,h2,e]⟩
  rw[e,JO]at h
  exact h
theorem Er{bs:List Qu}(h:IB H bs (lD [] (EX.map fun c=>(c.map Sum.inl,V.bl true)))):∃ cols:LL,aJ H bs cols/\cols.length<=EX.length/\∀ c,c∈cols↔c∈EX:=by
 have mem:∀ k,k∈(lD [] (EX.map fun c=>((c.map Sum.inl:List Key),V.bl true))).map Prod.fst↔∃ c∈EX,k=c.map Sum.inl:=fun k=>by
  rw[DH,JO]
  constructor
  ·rintro(z|z)
   ·cases z
   ·obtain⟨c,h1,h2⟩:=jN.mp z
    exact⟨c,h1,h2.symm⟩
  ·rintro⟨c,h1,h2⟩
   exact .inr (jN.mpr ⟨c,h1,h2.symm⟩)
 obtain⟨cols,h1,h2⟩:=Fq h fun k hk=>let ⟨c,_,e⟩:=(mem k).mp hk;⟨c,e⟩
 refine⟨cols,h1,?_,fun c=>?_⟩
 ·have e1:=congrArg zE h2
  have e2:=oz (EX.map fun c=>((c.map Sum.inl:List Key),V.bl true)) []
  rw[bb,bb]at e1
  rw[bb,Jn]at e2
  omega
 have m:=mem (c.map Sum.inl)
 rw[h2]at m
 constructor
 ·intro hc
  obtain⟨c',h3,e⟩:=m.mp (jN.mpr ⟨c,hc,rfl⟩)
  rw[PL e]
  exact h3
 ·intro hc
  obtain⟨c',h3,e⟩:=jN.mp (m.mpr ⟨c,hc,rfl⟩)
  rw[<- PL e]
  exact h3
theorem Tt(R:aF many wide rows)(f:Nat)(hq:aw many q):mx (rows.map fun r=>r.getD f 0) q=stepI rows q f:=by
 have l:q.toNat<rows.length:=by have:=hq.1;have:=hq.2;rw[R.len];omega
 unfold mx stepI
 rw[getD_at (by rw[bb];exact l),JC,jB,getD_at l]
theorem abt(R:aF many wide rows)(h:∀ c,c∈cols↔c∈mW rows wide):AR many wide rows cols where
 of:=fun c hc=>by
  obtain⟨f,hf,rfl⟩:=jN.mp ((h c).mp hc)
  exact⟨f,jq.mp hf,fun q hq=>Tt R f hq⟩
 all:=fun f hf=>⟨_,(h _).mpr (jN.mpr ⟨f,jq.mpr hf,rfl⟩),fun q hq=>Tt R f hq⟩
theorem Pg(R:aF many wide rows){c:LI}(h:c∈mW rows wide):c.length=many/\∀ t∈c,0<=t/\t<(many:Int):=by
 obtain⟨f,hf,rfl⟩:=jN.mp h
 have fl:=jq.mp hf
 refine⟨by rw[bb,R.len],fun t ht=>?_⟩
 obtain⟨r,hr,rfl⟩:=jN.mp ht
 have lr:=R.row r hr
 rw[getD_at #[0]]
 exact R.val r hr _ (jG _)
theorem LH(l:col.length=many):x∈cX col q↔aw many x/\mx col x=q:=by
 rw[pb,l]
 rfl
theorem Hs(col:LI):∀ {ms:LI},ms.Nodup->(ms.flatMap (cX col)).Nodup
 | [],_=>Jx
 | m :: ms,h=>by
  have n:=JE.mp h
  rw[ZY]
  refine JU.mpr ⟨Q0 col m,Hs col n.2,fun a ha b hb e=>?_⟩
  obtain⟨m',h1,h2⟩:=Zi.mp hb
  have e1:=(pb.mp ha).2
  have e2:=(pb.mp h2).2
  rw[<- e,e1]at e2
  exact n.1 (e2 ▸ h1)
theorem J4{ms:LI}(l:col.length=many):x∈ms.flatMap (cX col)↔aw many x/\mx col x∈ms:=by
 rw[Zi]
 constructor
 ·rintro⟨m,h1,h2⟩
  have h3:=(LH l).mp h2
  exact⟨h3.1,h3.2 ▸ h1⟩
 ·rintro⟨h1,h2⟩
  exact⟨_,h2,(LH l).mpr ⟨h1,rfl⟩⟩
theorem wm.mono{cols:List (Int->Int)}{R:Int->Int->Prop}{W W' S:Int->Prop}{k:Nat}(h:wm many cols sg R grp W S k)(w:∀ g,W g->W' g):wm many cols sg R grp W' S k:=
 ⟨h.coarse,h.signs,h.whole,fun x y hx hy e j c hj=>by
  rcases h.cong x y hx hy e j c hj with z|z|z|z
  ·exact .inl z
  ·exact .inr (.inl (w _ z))
  ·exact .inr (.inr (.inl (w _ z)))
  ·exact .inr (.inr (.inr z))⟩
theorem fJ.symm(h:fJ rows wide signs x y):fJ rows wide signs y x:=fun n v h1 h2=>(h n v h1 h2).symm
theorem B3.pop{x l:Qu}{Il:LI}{s:Int}(h:B3 H C x go ms wt iw many gs ds (Il++[s]))(hl:H l=none):
  B3 (upd (upd (upd H wt (.lst (Il.map V.int))) iw (.dK (dh ((Il++[s]).filter fun k=>decide (k≠s))))) l (.lst (mem.map V.int))) C x go ms wt iw many gs ds Il:=by
 have nd:=JU.mp h.wn
 have ef:(Il++[s]).filter (fun k=>decide (k≠s))=Il:=by
  rw[JW,JN #[11],Zn,JA]
  exact QE.mpr fun k hk=>decide_eq_true fun z=>nd.2.2 k hk s jE z
 rw[ef]
 have nl:∀ c u,H c=some u->c≠l:=fun c u e=>ar e hl
 have kp:∀ c u,c≠wt->c≠iw->H c=some u->(upd (upd (upd H wt (.lst (Il.map V.int))) iw (.dK (dh Il))) l (.lst (mem.map V.int))) c=some u:=fun c u c1 c2 e=>by rw[aj (nl c u e),aj c2,aj c1];exact e
 obtain⟨dx,hx⟩:=h.pt.ob
 have nwi:wt≠iw:=aG h.wt_ h.iw_ #[1]
 refine⟨⟨dx,kp _ _ (aG hx h.wt_ #[1]) (aG hx h.iw_ #[1]) hx⟩,kp _ _ h.n2 (aG h.go_ h.iw_ #[1]) h.go_,kp _ _ h.n3 (aG h.ms_ h.iw_ #[1]) h.ms_,by rw[aj (nl _ _ h.wt_),aj nwi,ae],by rw[aj (nl _ _ h.iw_),ae],h.lg,h.val,fun i d hi=>?_,h.dn,h.ndi,h.n1,h.n2,h.n3,nd.1,fun g hg=>h.wv g (jz _ hg)⟩
 obtain⟨m,h1,h2,ad4,aky⟩:=h.mem i d hi
 exact⟨m,kp _ _ (aG h1 h.wt_ #[1]) (fun z=>h.ndi (z ▸ oY hi)) h1,h2,ad4,aky⟩
theorem B3.alone{x:Qu}(h:B3 H C x go ms wt iw many gs ds ws)(e:ds.length=many):∀ a b,aw many a->aw many b->br gs a=br gs b->a=b:=fun a b ha hb eg=>Classical.byContradiction fun ne=>by
 have la:a.toNat<gs.length:=by have:=ha.1;have:=ha.2;rw[h.lg];omega
 have lb:b.toNat<gs.length:=by have:=hb.1;have:=hb.2;rw[h.lg];omega
 have nab:a.toNat≠b.toNat:=by have:=ha.1;have:=hb.1;omega
 unfold br at eg
 rw[getD_at la,getD_at lb]at eg
 have t:=iz (xs:=(jO ds.length).map fun i:Nat=>(i:Int)) (ys:=gs.eraseIdx b.toNat) (Jv.mpr (List.nodup_range.imp fun {a b} n z=>n (by
  have z':(a:Int)=(b:Int):=z
  omega))) (fun g hg=>by
  obtain⟨i,hi,rfl⟩:=jN.mp hg
  have il:=jq.mp hi
  obtain⟨mem,_,_,nn,iff⟩:=h.mem i _ (jC il)
  obtain⟨q,r,rfl⟩:=ZR nn
  obtain⟨⟨q0,q1⟩,eq⟩:=(iff q).mp jE
  have lq:q.toNat<gs.length:=by rw[h.lg];omega
  unfold br at eq
  rw[getD_at lq]at eq
  rw[List.mem_eraseIdx_iff_getElem]
  by_cases c:q.toNat=b.toNat
  ·exists a.toNat,la,nab
   rw[eg,<- eq]
   congr 1
   exact c.symm
  ·exact⟨q.toNat,lq,c,eq⟩)
 rw[bb,jT,zW lb,h.lg,e]at t
 have:=hb.1
 have:=hb.2
 omega
def adn(K:Yv):Sp:=fun vs H Q _=>∃ (m r g:Qu) (many wide:Nat) (rows:LL) (signs:LI),vs=[.ref m]/\bI H m r g wide rows signs/\aF many wide rows/\signs.length=many/\many<1000/\wide<=1000 /\
 ∀ (go:Qu) (gs:LI) (H':Hp),aB H H'->H go=none->H' go=some (.lst (gs.map V.int))->gs.length=many->(∀ x y,aw many x->aw many y->(br gs x=br gs y↔fJ rows wide signs x y))->Q (.ref go) H'
def abg(H:Hp):List Qu->LL->Prop:=qP fun B col=>∃ H0 es,cG H0 H B es (fun q ls=>ls=cX col q)
section
theorem bF:aH ["machine","distinct","backs","parted","splitter","back","leading","here"] ["machine"] (av cQ):=cW #[3]
theorem iO:aZ ["machine","distinct","backs","parted","splitter","back","leading","here"] (av cQ) ["column"] [none] ⟨.function,[#[60],("column",.local)],false,false,[]⟩:=mC #[3]
theorem iP:aZ ["machine","distinct","backs","parted","splitter","back","leading","here"] (av cQ) ["column"] [none] ⟨.function,[#[60],("column",.local),("back_of",.globalImplicit)],false,false,[]⟩:=mC #[3]
theorem aeY(F:bG K "unparted_groups" "unparted_groups" cQ dV f fd)(pc:IC K C)(eh:bO P w K mg base "columns_of" 1 ["machine"] [] (OH K))(AU:bO P w K mg base "back_of" 1 ["column"] [] (Q3 K))(AS:O3 P w K mg base "Parted" C 1 ["self","signs"] (L7 C))(wc:rL P w K mg base C "is_done" 1 ["self"] (L4 K C))(ij:rL P w K mg base C "next_splitter" 1 ["self"] (Q7 C))(we:rL P w K mg base C "part_by" 3 ["self","leading"] (L6 C))(fq:mg "list" = none)(lK:mg "dict" = none):bu P w K mg base eM 4 f fd ["machine"] (adn K):=by
 refine F.ok bF #[7] #[2]
 ·obtain⟨m,r,g,many,wide,rows,signs,rfl,_⟩:=h
  rfl
 obtain⟨m,r,g,many,wide,rows,signs,rfl,M,R,ls,n1,w1,k⟩:=h
 have hu:=oW hr
 have hu2:=aeA hr
 refine⟨_,(ah (aC (i:=1) bF.nd (aW (Mz rfl) #[41] fq Ai (aa (aW ((Hj rfl hu2)) #[41] lK Cr (aa (cM rfl iO (cC (bC eh hr (aa (pv 0) af))) (fun _ _ _ _=>(aS (i:=0) iO.nd)) (fun _ _ _ _=>(fh (aa (pv 0) (aa cU af))))) af)) af)))
   (ah (iA (i:=2) rfl bF.nd rfl (Or.inl rfl) iP (cC (pv 1)) (fun _ _ _ _=>(aS (i:=0) iP.nd)) (fun _ _ _ _=>(bC AU hr (aa (pv 0) af))))
   (ah (aC (i:=3) bF.nd (aak AS hr (aa #[17] af)))
   (ah (mE PassesOwn.never (PW.pt (wI ((AD (dP (pv 3) rfl) (fun _=>rfl))) (tJ (iB (fW (Ot wc hr (pv 3))))))) (ah (aC (i:=4) bF.nd (Ot ij hr (pv 3)))
   (ao (bX PassesOwn.never rfl (cC (pv 2)) (aS (i:=5) bF.nd) (ah (aC (i:=6) bF.nd (cf af))
   (ah (bX PassesOwn.never rfl (cC (pv 4)) (aS (i:=7) bF.nd) (ao (bD (fA Yy PySem.F.slot_list_extend PySem.F.type_list_extend N5 (pv 6) (aa (aah hu (pv 5) (pv 7) (fh af) ⟨rfl,rfl,rfl,rfl⟩) af)))))
   (ao (bD (FH we hr (pv 3) (aa (pv 6) af))))))))))
   (ao (aL (dP (pv 3) rfl))))))),?_⟩
 try dsimp only[bB,dG]
 refine eO (t:=wM _ _) (fun σ' H'=>∃ (dl:Qu) (bs:List Qu) (cols:LL),σ'=[some (.ref m),some (.ref dl),none,none,none,none,none,none]/\aB H H'/\H' dl=some (.lst (bs.map V.ref))/\aJ H' bs cols/\cols.length<=wide/\∀ c,c∈cols↔c∈mW rows wide) ?_ (fun D' dU=>?_)
 rotate_left
 ·refine⟨_,rfl,m,r,g,many,wide,rows,signs,rfl,M,R,⟨by omega,w1⟩,fun l cs H1 s1 MU A1=>?_⟩
  exists l,rfl,⟨_,bZ MU⟩
  have lc:(mW rows wide).length=wide:=by unfold mW;rw[bb,jT]
  refine eA (K:=K) (xs:=cs.map V.ref) (fun D i ys H'=>aB H1 H'/\∃ ts,ys=ts.map V.ref/\Mo H' ts (((mW rows wide).take i).map fun c=>(c.map Sum.inl,V.bl true))) (fun D hD=>⟨ak hD _,[],rfl,.nil⟩) (fun D i ys H' _ ⟨e,_⟩=>bZ (e _ _ MU)) ?_ ?_
  ·rintro D i y ys H2 Q' hD hi hy ⟨s2,ts,rfl,pv⟩ k'
   have jl:i<(mW rows wide).length:=by
    have:=(fV hi).1
    rw[bb,A1.length]at this
    exact this
   obtain⟨ca,e1,e2⟩:=A1.get jl
   have ey:y=.ref ca:=by rw[jV,e1]at hi;exact(Option.some.inj hi).symm
   subst ey
   refine⟨_,rfl,(by show 2<=sizeLine;decide),fun T hT=>?_⟩
   have sT:=ak hT (HO.tup [V.ref ca,V.bl true])
   have nD:D≠T:=ar hy hT
   have lts:ts.length=i:=by
    rw[Paired.length pv,bb,jX]
    omega
   have hyT:(upd H2 T (HO.tup [V.ref ca,V.bl true])) D=some (.lst (ts.map V.ref)):=by rw[aj nD];exact hy
   refine k' _ _ hyT (ay #[36]) ⟨ax (ax s2 (s2.free hT)) hD,ts++[T],by rw[jD];rfl,?_⟩
   have up:∀ b xs,(upd H2 T (HO.tup [V.ref ca,V.bl true])) b=some #[42]->(upd (upd H2 T (HO.tup [V.ref ca,V.bl true])) D (.lst (ts.map V.ref++[V.ref T]))) b=some #[42]:=fun b xs e=>by
    rw[aj (aG e hyT #[1])];exact e
   rw[jW,jC jl,jD]
   refine Paired.snoc (Paired.Ez pv fun t p h=>?_) ⟨ca,up _ _ ae,?_⟩
   ·obtain⟨b,h1,h2⟩:=h
    exact⟨b,up _ _ (sT _ _ h1),up _ _ (sT _ _ h2)⟩
   ·rw[JO]
    exact up _ _ (sT _ _ (s2 _ _ e2))
  ·rintro D ys H2 hD hy ⟨s2,ts,rfl,pv⟩
   rw[bb,A1.length,jY]at pv
   refine⟨D,ts,_,rfl,hy,pv,fun dd hdd=>?_⟩
   have s3:=ak hdd (HO.dT (lD [] ((mW rows wide).map fun c=>(c.map Sum.inl,V.bl true))))
   refine⟨dd,_,rfl,ae,fun dl bs U1 kt=>?_⟩
   obtain⟨cols,c1,c3,c2⟩:=Er kt
   rw[lc]at c3
   have s4:=ak U1 (HO.lst (bs.map V.ref))
   exact dU _ _ ⟨dl,bs,cols,rfl,((s1.trans s2).trans s3).trans s4,ae,c1.same fun b xs e=>s4 _ _ e,c3,c2⟩
 rintro σ' H1 ⟨dl,bs,cols,rfl,s1,ahv,A1,lcw,hc⟩
 have CO:=abt R hc
 refine eO (t:=wM _ _) (fun σ' H'=>∃ (bl:Qu) (Bs:List Qu),σ'=[some (.ref m),some (.ref dl),some (.ref bl),none,none,none,none,none]/\aB H H'/\H' bl=some (.lst (Bs.map V.ref))/\abg H' Bs cols) ?_ (fun D' dU=>?_)
 rotate_left
 ·exists _,rfl,dl,rfl,⟨_,bZ ahv⟩
  refine eA (K:=K) (xs:=bs.map V.ref) (fun D i ys H'=>aB H1 H'/\∃ Bs,ys=Bs.map V.ref/\qP (fun B col=>∃ H0 es,(∃ u,H0 D=some u)/\cG H0 H' B es (fun q ls=>ls=cX col q)) Bs (cols.take i)) (fun D hD=>⟨ak hD _,[],rfl,.nil⟩) (fun D i ys H' _ ⟨e,_⟩=>bZ (e _ _ ahv)) ?_ ?_
  ·rintro D i y ys H2 Q' hD hi hy ⟨s2,Bs,rfl,pv⟩ k'
   have jl:i<cols.length:=by
    have:=(fV hi).1
    rw[bb,A1.length]at this
    exact this
   obtain⟨ca,e1,e2⟩:=A1.get jl
   have ey:y=.ref ca:=by rw[jV,e1]at hi;exact(Option.some.inj hi).symm
   subst ey
   have ci:=Pg R ((hc _).mp (jG jl))
   have lB:Bs.length=i:=by
    rw[Paired.length pv,jX]
    omega
   refine⟨_,rfl,ca,many,cols[i],rfl,s2 _ _ e2,by omega,by omega,ci.2,fun B es H3 s3 fB bo=>?_⟩
   have hy3:=s3 _ _ hy
   refine k' _ _ hy3 (ay #[36]) ⟨ax (s2.trans s3) hD,Bs++[B],by rw[jD];rfl,?_⟩
   have keep:∀ (H0:Hp) (B':Qu) (lN:List (Int×Qu)) (col:LI),(∃ u,H0 D=some u)->cG H0 H3 B' lN (fun q ls=>ls=cX col q)->cG H0 (upd H3 D (.lst (Bs.map V.ref++[V.ref B]))) B' lN (fun q ls=>ls=cX col q):=fun H0 B' lN col hu bo'=>bo'.keep (aj (aG bo'.at_ hy3 #[1])) fun e he=>aj fun z=>by
    obtain⟨u,hu⟩:=hu
    have:=bo'.fresh e he
    rw[z,hu]at this
    cases this
   rw[jW,jC jl]
   exact Paired.snoc (Paired.Ez pv fun B' col h=>let ⟨H0,lN,hu,b⟩:=h;⟨H0,lN,hu,keep H0 B' lN col hu (b.same s3)⟩) ⟨H2,es,⟨_,hy⟩,keep H2 B es cols[i] ⟨_,hy⟩ bo⟩
  ·rintro D ys H2 hD hy ⟨s2,Bs,rfl,pv⟩
   rw[bb,A1.length,jY]at pv
   exact dU _ _ ⟨D,Bs,rfl,s1.trans s2,hy,Paired.Ez pv fun B col h=>let ⟨H0,es,_,b⟩:=h;⟨H0,es,b⟩⟩
 rintro σ' Hb ⟨bl,Bs,rfl,sb,hbl,BA⟩
 have lBs:Bs.length=cols.length:=Paired.length BA
 refine⟨_,rfl,m,_,_,_,rfl,rfl,cj (sb _ _ M.tup),rfl,fun x dx hx hdx ne=>?_⟩
 have up:∀ b u,Hb b=some u->(upd (upd Hb dx (HO.own x)) x (HO.ins C dx [])) b=some u:=fun b u h=>by rw[aj (ar h hx),aj (ar h hdx)];exact h
 refine⟨x,dx,g,signs,rfl,ae,up _ _ (sb _ _ M.sgn),by omega,fun H1 go ms wt iw ds0 kk f1 f2 f3 f4 f5 S1=>⟨rfl,?_⟩⟩
 have s1':aB Hb H1:=fun b u h=>kk b u (ar h hx) (up b u h)
 have fr:∀ {b},(upd (upd Hb dx (HO.own x)) x (HO.ins C dx [])) b=none->Hb b=none:=fun {b} h=>by
  cases e:Hb b with
  | none=>rfl
  | some u=>rw[up b u e]at h;cases h
 rw[ls]at S1
 obtain⟨RR,eRR⟩:∃ RR:Int->Int->Prop,(fun x y=>aw many x/\aw many y/\fJ rows wide signs x y)=RR:=⟨_,rfl⟩
 have lk:=CO.aib (signs:=signs) R
 rw[eRR]at lk
 have room:=CO.room R
 have sym:∀ x y,RR x y->RR y x:=fun x y h=>by rw[<- eRR]at h ⊢;exact⟨h.2.1,h.1,h.2.2.symm⟩
 have fg:=fr f1
 have fms:=fr f2
 have fw:=fr f3
 have fi:=fr f4
 have aly:O5 many (cols.map mx) (My.sgn signs) RR (br (eI signs)) (fun g=>g∈(jO ds0.length).map fun i:Nat=>(i:Int)):=by
  refine O5.start lk (fun a b ha hb=>?_) (fun a ha=>?_) room
  ·have la:aw signs.length a:=by rw[ls];exact ha
   have lb:aw signs.length b:=by rw[ls];exact hb
   rw[AA la.1 la.2,AA lb.1 lb.2]
   exact aao la lb
  ·have v:=S1.val a ha
   exact jN.mpr ⟨(br (eI signs) a).toNat,jq.mpr #[0],jm v.1⟩
 try dsimp only[bB,dG]
 refine eO (t:=pX _ _) (fun σ' H'=>∃ (gs ws:LI) (ds:List Qu) (v4 v5 v6 v7:OV),σ'=[some (.ref m),some (.ref dl),some (.ref bl),some (.ref x),v4,v5,v6,v7]/\aB Hb H'/\B3 H' C x go ms wt iw many gs ds ws/\∀ a b,aw many a->aw many b->(br gs a=br gs b↔fJ rows wide signs a b)) ?_ (fun D' dU=>?_)
 rotate_left
 ·refine pZ (fun mm σ' H'=>∃ (gs ws:LI) (ds:List Qu) (v4 v5 v6 v7:OV),mm=2*many+ws.length-2*ds.length/\σ'=[some (.ref m),some (.ref dl),some (.ref bl),some (.ref x),v4,v5,v6,v7]/\aB Hb H'/\B3 H' C x go ms wt iw many gs ds ws/\(∀ d∈ds,Hb d=none)/\O5 many (cols.map mx) (My.sgn signs) RR (br gs) (fun g=>g∈ws))
   ⟨_,eI signs,_,ds0,none,none,none,none,rfl,rfl,s1',S1,fun d hd=>fr (f5 d hd),aly⟩ ?_
  rintro mm σ' H2 ⟨gs,ws,ds,v4,v5,v6,v7,emm,rfl,s2,S2,fd2,hop⟩
  obtain⟨dx2,hx2⟩:=S2.pt.ob
  have apj:=S2.Hr
  rw[<- eRR]at hop
  by_cases en:ws=[]
  ·subst en
   refine⟨_,rfl,x,C,dx2,_,_,rfl,hx2,pc.cl,pc.nw,rfl,_,.inl ⟨_,bZ S2.wt_,rfl⟩,ic (ic ?_)⟩
   exact dU _ _ ⟨gs,[],ds,v4,v5,v6,v7,rfl,s2,S2,fun a b ha hb=>PH CO R hop (hop.afA (fun _ _ z=>by cases z) room) ha hb⟩
  exists _,rfl,x,C,dx2,_,_,rfl,hx2,pc.cl,pc.nw,rfl,_,.inl ⟨_,bZ S2.wt_,rfl⟩
  have ne':(!(ws.map V.int).isEmpty)=true:=by
   cases ws with
   | nil=>exact absurd rfl en
   | cons a r=>rfl
  rw[ne']
  refine Dx ⟨_,rfl,x,dx2,_,rfl,hx2,rfl,x,go,ms,wt,iw,gs,ds,rfl,S2.pt,S2.go_,S2.ms_,_,rfl,Ar #[46] #[46]⟩
  ·refine⟨fun σ' H'=>∃ m',m'<mm/\∃ (gs ws:LI) (ds:List Qu) (v4 v5 v6 v7:OV),m'=2*many+ws.length-2*ds.length/\σ'=[some (.ref m),some (.ref dl),some (.ref bl),some (.ref x),v4,v5,v6,v7]/\aB Hb H'/\B3 H' C x go ms wt iw many gs ds ws/\(∀ d∈ds,Hb d=none)/\O5 many (cols.map mx) (My.sgn signs) RR (br gs) (fun g=>g∈ws),fun _ _ h=>h,?_⟩
   rw[eRR]at hop
   obtain⟨Il,s,ews⟩:∃ Il s,ws=Il++[s]:=⟨ws.dropLast,ws.getLast en,(ZJ en).symm⟩
   subst ews
   have sv:=S2.wv s (jR _ jE)
   have sl':s.toNat<ds.length:=by omega
   obtain⟨da,rH⟩:∃ da,ds[s.toNat]?=some da:=⟨_,jC sl'⟩
   obtain⟨mem,Ei,ndm,nem,hm⟩:=S2.mem s.toNat da rH
   rw[jm sv.1]at hm
   have akp:mem.length<=many:=bS many ndm fun q hq=>((hm q).mp hq).1
   refine⟨_,rfl,x,dx2,_,rfl,hx2,rfl,x,go,ms,wt,iw,da,s,Il,Il++[s],mem,ds,rfl,S2.pt,S2.wt_,S2.iw_,jR _ jE,S2.ms_,sv.1,rH,S2.n3,Ei,(fun z=>S2.ndi (z ▸ oY rH)),by omega,fun sl hsl=>?_⟩
   have S3:=S2.pop (mem:=mem) hsl
   obtain⟨H3,Pm⟩:∃ H3,upd (upd (upd H2 wt (HO.lst (Il.map V.int))) iw (HO.dK (dh ((Il++[s]).filter fun k=>decide (k≠s))))) sl (HO.lst (mem.map V.int))=H3:=⟨_,rfl⟩
   have ne3:∀ c u,Hb c=some u->c≠go/\c≠ms/\c≠wt/\c≠iw:=fun c u e=>⟨fun z=>(by rw[z,fg]at e;cases e),fun z=>(by rw[z,fms]at e;cases e),fun z=>(by rw[z,fw]at e;cases e),fun z=>(by rw[z,fi]at e;cases e)⟩
   have s3:aB Hb H3:=fun c u e=>by
    have n:=ne3 c u e
    rw[<- Pm,aj (ar (s2 _ _ e) hsl),aj n.2.2.2,aj n.2.2.1]
    exact s2 _ _ e
   have alC:H3 sl=some (.lst (mem.map V.int)):=by rw[<- Pm,ae]
   rw[Pm]at S3 ⊢
   have q1:sl≠go:=fun z=>by rw[z,S2.go_]at hsl;cases hsl
   have q2:sl≠ms:=fun z=>by rw[z,S2.ms_]at hsl;cases hsl
   have q3:sl≠wt:=fun z=>by rw[z,S2.wt_]at hsl;cases hsl
   have hs0:wm many (cols.map mx) (My.sgn signs) RR (br gs) (fun g=>g∈Il) (fun q=>br gs q=s) 0:=(hop.pop room s).mono fun g h=>by
    rcases tT.mp h.1 with z|z
    ·exact z
    ·exact absurd (jJ.mp z) h.2
   exists _,rfl,bl,rfl,⟨_,bZ (s3 _ _ hbl)⟩
   refine dW (K:=K) (xs:=Bs.map V.ref) (fun k σ' H'=>∃ (tF AN:LI) (ds':List Qu) (v5 v6 v7:OV),σ'=[some (.ref m),some (.ref dl),some (.ref bl),some (.ref x),some (.ref sl),v5,v6,v7]/\aB Hb H'/\B3 H' C x go ms wt iw many tF ds' AN/\(∀ d∈ds',Hb d=none)/\H' sl=some (.lst (mem.map V.int))/\wm many (cols.map mx) (My.sgn signs) RR (br tF) (fun g=>g∈AN) (fun q=>br gs q=s) k/\(AN.length:Int)-2*(ds'.length:Int)<=(Il.length:Int)-2*(ds.length:Int))
    ⟨gs,Il,ds,_,_,_,rfl,s3,S3,fd2,alC,hs0,ZL _⟩ (fun i σ' H' _ ⟨_,_,_,_,_,_,_,e,_,_,_,_,_⟩=>bZ (e _ _ hbl)) ?_ ?_
   ·rintro k y σ' H4 hk ⟨tF,AN,ds',v5,v6,v7,rfl,s4,S4,fd4,abT,PJ,me4⟩
    have kl:k<cols.length:=by
     have:=(fV hk).1
     rw[bb]at this
     omega
    obtain⟨B,hB,H0,es,bo⟩:=iT BA (jC kl)
    have ey:y=.ref B:=by rw[jV,hB]at hk;exact(Option.some.inj hk).symm
    subst ey
    obtain⟨col,adU⟩:∃ col,cols[k]=col:=⟨_,rfl⟩
    rw[adU]at bo
    have hcm:col∈cols:=adU ▸ jG kl
    have ci:=Pg R ((hc _).mp hcm)
    have hkc:(cols.map mx)[k]?=some (mx col):=by rw[jV,jC kl,adU];rfl
    have cmm:=oY hkc
    have lm:∀ {x:Int},x∈mem.flatMap (cX col)↔aw many x/\mx col x∈mem:=fun {x}=>J4 ci.1
    obtain⟨dx4,R5⟩:=S4.pt.ob
    refine⟨#[15],fun La Pt=>?_⟩
    have sLa:=ak Pt (HO.lst [])
    try dsimp only[bB,dG]
    refine eO (t:=Ec _ _ _) (fun σ' H'=>∃ v7:OV,σ'=[some (.ref m),some (.ref dl),some (.ref bl),some (.ref x),some (.ref sl),some (.ref B),some (.ref La),v7]/\aB H4 H'/\H' La=some (.lst ((mem.flatMap (cX col)).map V.int))) ?_ (fun D'' amr=>?_)
    rotate_left
    ·exists _,rfl,sl,rfl,⟨_,bZ (sLa _ _ abT)⟩
     refine dW (K:=K) (xs:=mem.map V.int) (fun i σ' H'=>∃ v7:OV,σ'=[some (.ref m),some (.ref dl),some (.ref bl),some (.ref x),some (.ref sl),some (.ref B),some (.ref La),v7]/\aB H4 H'/\H' La=some (.lst (((mem.take i).flatMap (cX col)).map V.int))) ⟨_,rfl,sLa,ae⟩ (fun i σ' H' _ ⟨_,_,e,_⟩=>bZ (e _ _ abT)) ?_ ?_
     ·rintro i y σ' H5 hi ⟨v7,rfl,s5,T6⟩
      obtain⟨q,rfl,hq⟩:=bw hi
      have b5:=bo.same (s4.trans s5)
      refine⟨_,rfl,.inl ⟨rfl,_,bZ T6⟩,_,rfl,B,rfl,.inl ⟨_,.inl b5.at_⟩,_,rfl,#[15],fun t0 ht0=>?_⟩
      have st0:=ak ht0 (HO.tup [])
      have b6:=b5.same st0
      exists _,fH.k (k:=Sum.inl q) b6.at_
      have hL6:=st0 _ _ T6
      have et:(mem.take (i+1)).flatMap (cX col)=(mem.take i).flatMap (cX col)++cX col q:=by
       rw[jW,hq,List.flatMap_append]
       show _++[q].flatMap (cX col)=_
       rw[ZY,List.flatMap_nil,JA]
      have len:(((mem.take i).flatMap (cX col)).map V.int).length+((cX col q).map V.int).length<=sizeLine:=by
       have nd:=Hs col (ms:=mem.take (i+1)) ((ZT _ _).nodup ndm)
       have fw' := bS many nd fun z hz=>((J4 ci.1).mp hz).1
       rw[et,jL]at fw'
       rw[bb,bb]
       exact small #[0]
      cases hv:eC (tS es) (Sum.inl q)with
      | none =>
       have BN:q∉es.map Prod.fst:=fun z=>by
        obtain⟨e,he,ee⟩:=jN.mp z
        obtain⟨jj,hjj⟩:=JH.mp he
        have:=Bm b6.nd (q:=e.1) (a:=e.2) hjj
        rw[ee,hv]at this
        cases this
       have e0:=b6.non _ BN
       rw[<- e0]at et
       rw[<- e0]at len
       refine .inr ⟨La,t0,_,[],rfl,rfl,hL6,ae,len,?_⟩
       exact⟨_,rfl,ax (s5.trans st0) Pt,by rw[ae,et,jD];rfl⟩
      | some v =>
       obtain⟨la,ls',rfl,hm',V1,hp⟩:=b6.get hv
       rw[<- hp]at et
       rw[<- hp]at len
       refine .inl ⟨La,la,_,_,rfl,rfl,hL6,V1,len,?_⟩
       exact⟨_,rfl,ax (s5.trans st0) Pt,by rw[ae,et,jD]⟩
     ·rintro σ' H5 ⟨v7,rfl,s5,T6⟩
      rw[bb,jY]at T6
      exact amr _ _ ⟨v7,rfl,s5,T6⟩
    rintro σ' H5 ⟨v7,rfl,s5,T6⟩
    have S5:=S4.same s5
    have al5:∀ q,aw many q->(q∈mem↔br gs q=s):=fun q hq=>⟨fun z=>((hm q).mp z).2,fun z=>(hm q).mpr ⟨hq,z⟩⟩
    have inL:∀ a,aw many a->(a∈mem.flatMap (cX col)↔br gs (mx col a)=s):=fun a ha=>by
     rw[lm,al5 _ (room a ha _ cmm)]
     exact⟨fun z=>z.2,fun z=>⟨ha,z⟩⟩
    refine⟨_,rfl,x,dx4,_,rfl,s5 _ _ R5,rfl,_,rfl,x,go,ms,wt,iw,La,many,tF,AN,mem.flatMap (cX col),ds',fun gs1 n1 ws1=>wm many (cols.map mx) (My.sgn signs) RR (br gs1) (fun g=>g∈ws1) (fun q=>br gs q=s) k/\(ws1.length:Int)-2*(n1:Int)<=(Il.length:Int)-2*(ds.length:Int),rfl,S5,n1,T6,⟨fun z=>(by rw[z,S4.go_]at Pt;cases Pt),fun z=>(by rw[z,S4.ms_]at Pt;cases Pt),fun z=>(by rw[z,S4.wt_]at Pt;cases Pt)⟩,Hs col ndm,fun q hq=>(lm.mp hq).1,⟨PJ,me4⟩,?_,?_⟩
    ·rintro gs1 n1 ws1 gs2 ws2 ⟨h1,h2⟩ val ⟨b,nw,rfl,e1,e2,e3,e4⟩
     refine⟨h1.split sym room (L:=fun a=>a∈mem.flatMap (cX col)) (b:=b) (n:=(n1:Int)) (fun a c ha Pw r hl=>?_) (fun a ha z=>?_) (fun g hg=>jz _ hg) (fun hb=>?_) ?_ e3 e4,?_⟩
     ·rw[inL a ha]at hl
      rw[inL c Pw]
      exact h1.whole _ _ (room a ha _ cmm) (room c Pw _ cmm) (lk.led a c r _ cmm) hl
     ·have:=val a ha
      omega
     ·rw[<- e2 hb]
      exact jR _ jE
     ·rcases e1 with e1|e1
      ·exact .inl (by rw[<- e1];exact jR _ jE)
      ·exact .inr (by rw[<- e1];exact jR _ jE)
     ·rw[jL,js]
      omega
    ·intro H6 gs6 ws6 more S6 j6 nc fm kp
     have s6:aB Hb H6:=fun c u e=>by
      have n:=ne3 c u e
      exact kp c u n.1 n.2.1 n.2.2.1 n.2.2.2 (fun z=>by rw[fd4 c z]at e;cases e) (s5 _ _ (s4 _ _ e))
     have aex:=s5 _ _ abT
     refine⟨gs6,ws6,ds'++more,_,_,_,rfl,s6,S6,fun d hd=>?_,kp sl _ q1 q2 q3 (aG aex S5.iw_ #[1]) (fun z=>?_) aex,j6.1.next hkc fun a c ha Pw e h=>?_,j6.2⟩
     ·rcases tT.mp hd with z|z
      ·exact fd4 d z
      ·have:=fm d z
       cases e:Hb d with
       | none=>rfl
       | some u=>rw[s5 _ _ (s4 _ _ e)]at this;cases this
     ·obtain⟨mm',hmm⟩:=S5.at_ z
      rw[aex]at hmm
      cases hmm
     ·exact(inL c Pw).mp (nc a c ha Pw e ((inL a ha).mpr h))
   ·rintro σ' H4 ⟨tF,AN,ds',v5,v6,v7,rfl,s4,S4,fd4,abT,PJ,me4⟩
    have apk:=S4.Hr
    rw[bb,lBs]at PJ
    have lcm:cols.length=(cols.map mx).length:=(jZ _).symm
    rw[lcm]at PJ
    refine⟨_,?_,tF,AN,ds',_,_,_,_,rfl,rfl,s4,S4,fd4,PJ.done⟩
    rw[emm,jL,js]
    omega
  ·refine dU _ _ ⟨gs,ws,ds,v4,v5,v6,v7,rfl,s2,S2,fun a b ha hb=>PH CO R hop (O5.single (S2.alone (by rw[c,S2.lg]))) ha hb⟩
 rintro σ' H2 ⟨gs,ws,ds,v4,v5,v6,v7,rfl,s2,S2,fin⟩
 obtain⟨dx2,hx2⟩:=S2.pt.ob
 exact⟨_,rfl,x,C,dx2,_,_,rfl,hx2,pc.cl,pc.ng,rfl,k go gs H2 (sb.trans s2) (sb.free fg) S2.go_ S2.lg fin⟩
end
def Rk(K:Yv):Sp:=fun vs H Q E=>CG K agH vs H Q E\/CG K agI vs H Q E
theorem DC(xs:LI)(g:Int):Bn (xs++[g]) 0=Bn xs 0++[(Sum.inl g,V.int (xs.length:Int))]:=by
 unfold Bn
 rw[ZP,jD,Je]
 rfl
theorem Fy(nd:qs.Nodup):∀ i,dN [] (Bn (qs.take i) 0)=Bn (qs.take i) 0
 | 0=>by rw[ZK];rfl
 | i+1=>by
  have ih:=Fy nd i
  cases e:qs[i]? with
  | none =>
   rw[jW,e]
   show dN [] (Bn (qs.take i++[]) 0)=Bn (qs.take i++[]) 0
   rw[JA]
   exact ih
  | some g =>
   have et:qs.take (i+1)=qs.take i++[g]:=by rw[jW,e];rfl
   have il:=fV e
   have hg:g∉qs.take i:=fun z=>by
    obtain⟨j,hj,ej⟩:=jk z
    rw[jX]at hj
    rw[zo]at ej
    have:=(JT nd).mp (ej.trans il.2.symm)
    omega
   rw[et]
   show dN [] (Bn (qs.take i++[g]) 0)=_
   have m:dN [] (Bn (qs.take i) 0++[(Sum.inl g,V.int ((qs.take i).length:Int))])=putK (dN [] (Bn (qs.take i) 0)) (Sum.inl g) (V.int ((qs.take i).length:Int)):=by
    unfold dN
    rw[JQ]
    rfl
   rw[DC,m,ih,HB hg,DC]
theorem BM(φ:Int->Int)(n:Nat):bV φ (n+1)=bV φ n++(if φ (n:Int)=(bc φ n:Int)then [n]else []):=by
 unfold bV
 rw[JK,JW]
 congr 1
 by_cases c:φ (n:Int)=(bc φ n:Int)
 ·rw[if_pos c,JR (by exact decide_eq_true c)];rfl
 ·rw[if_neg c,JN (by rw[decide_eq_false c];decide)];rfl
theorem RN{q:Nat}(h:q∈bV φ n):q<n:=jq.mp (JD.mp h).1
theorem AG(R:aF many wide rows){t:Int}(h0:0<=q)(h1:q<(many:Int))(ht:t∈rows.getD q.toNat []):∃ f:Nat,f<wide/\t=stepI rows q f:=by
 have l:q.toNat<rows.length:=by rw[R.len];omega
 rw[getD_at l]at ht
 obtain⟨f,hf,e⟩:=jk ht
 have lr:=R.row _ (jG l)
 refine⟨f,by omega,?_⟩
 unfold stepI
 rw[getD_at l,jB,getD_at hf,e]
def Q6(K:Yv):Sp:=fun vs H Q _=>∃ (m r g:Qu) (many wide:Nat) (rows:LL) (signs:LI),vs=[.ref m]/\bI H m r g wide rows signs/\aF many wide rows/\signs.length=many/\(1<=many/\many<1000)/\wide<=1000 /\
 ∀ (m' r' g':Qu) (au:LL) (az:LI) (H':Hp),aB H H'->bI H' m' r' g' wide au az->cH wide rows au signs az->Q (.ref m') H'
section
theorem aac(F:bG K "with_rooms" "with_rooms" dD dV f fd)(aK:mg "tuple" = none):bu P w K mg base eM 1 f fd ["machine","kept","numbers"] (Rk K):=bu.or (Sv F aK) (Sw F aK)
theorem iW:aH ["machine","reached","small","numbers","firsts","groups","here","group"] ["machine"] (av AH):=cW #[3]
theorem wu:aZ ["machine","reached","small","numbers","firsts","groups","here","group"] (av AH) ["number","here"] [none,none] ⟨.function,[#[60],("number",.local),("here",.local)],false,false,[]⟩:=mC #[3]
theorem C4:aZ ["machine","reached","small","numbers","firsts","groups","here","group"] (av AH) ["group","numbers"] [none,some 3] ⟨.function,[#[60],("group",.local),("numbers",.free)],false,false,[]⟩:=mC #[3]
theorem Z1(F:bG K "least" "least" AH dV f fd)(fQ:bO P w K mg base "reached_rooms" 1 ["machine","start"] [.int 0] (FT K))(lR:bO P w K mg base "with_rooms" 1 ["machine","kept","numbers"] [] (Rk K))(fS:bO P w K mg base "unparted_groups" 4 ["machine"] [] (adn K))(cL:mg "enumerate" = none)(lK:mg "dict" = none)(bh:mg "len" = none):bu P w K mg base eM 5 f fd ["machine"] (Q6 K):=by
 refine F.ok iW #[7] #[2]
 ·obtain⟨m,r,g,many,wide,rows,signs,rfl,_⟩:=h
  rfl
 obtain⟨m,r,g,many,wide,rows,signs,rfl,M,R,ls,⟨n0,n1⟩,w1,k⟩:=h
 have hu:=oW hr
 refine Mu (cE (B1.mk (aC (i:=1) iW.nd (bC fQ hr (aa (pv 0) af))))
   (cE (B1.mk (aC (i:=2) iW.nd (bC lR hr (aa (pv 0) (aa (pv 1) (aa (aW (rV rfl) #[41] lK Cr (aa (cM rfl wu (DM rfl cL (aa (pv 1) af)) (fun _ _ _ _=>(acu K (n:=2) rfl (bL (aS (i:=0) wu.nd) (bL (aS (i:=1) wu.nd) oj)))) (fun _ _ _ _=>(fh (aa (pv 1) (aa (pv 0) af))))) af)) af))))))
   (cE (B1.mk (aC (i:=3) iW.nd sI))
   (cE (B1.mk (aC (i:=4) iW.nd (cf af)))
   (cE (B1.mk (aC (i:=5) iW.nd (bC fS hr (aa (pv 2) af))))
   (cE (B1.mk (bX PassesOwn.never rfl (DM rfl cL (aa (pv 5) af)) (wG rfl (bL (aS (i:=6) iW.nd) (bL (aS (i:=7) iW.nd) oj))) (ao (cz (HU (Bo hu (pv 7) (pv 3)) (by with_unfolding_all rfl)) (ah (AB hu (pv 3) (pv 7) (aA tu #[41] bh bW (aa (pv 3) af)) rfl)
   (ao (bD (fA Yy Yz yA bE (pv 4) (aa (pv 6) af))))) bg))))
   (OY (B1.mk (aL (bC lR hr (aa (pv 2) (aa (pv 4) (aa (cM rfl C4 (cC (pv 5)) (fun _ _ _ _=>(aS (i:=0) C4.nd)) (fun _ _ _ _=>(Az hu (pv 1) (pv 0) #[5]))) af))))))))))))) ?_
 refine⟨_,rfl,m,r,g,many,wide,rows,signs,rfl,M,R,⟨n0,by omega⟩,fun l H1 qs s1 MU bf=>?_⟩
 have Hr:=bS many bf.nd bf.inr
 have reF:∀ q∈qs,∃ row,ou wide row/\aM rows row 0=q:=fun q hq=>(bf.re q).mp hq
 obtain⟨R1,O1,p1,t1⟩:=LY (signs:=signs) R #[0] bf.eq bf.nd (fun q hq=>bf.inr q hq) reF
 try dsimp only[bB,dG]
 refine eO (t:=wM _ _) (fun σ' H'=>∃ m1 r1 g1:Qu,σ'=[some (.ref m),some (.ref l),some (.ref m1),none,none,none,none,none]/\aB H H'/\bI H' m1 r1 g1 wide (cc rows (oC qs) qs) (cn signs qs)) ?_ (fun D' dU=>?_)
 rotate_left
 ·exists _,rfl,_,rfl,_,rfl,l,rfl,⟨_,bZ MU⟩
  refine MH (K:=K) (xs:=qs.map V.int) (fun D i ys H'=>aB H1 H'/\∃ ts,ys=ts.map V.ref/\ir H' ts (Bn (qs.take i) 0)) (fun T σ H Q i x h q=>⟨T,[.int i,x],rfl,cj h,rfl,.int i,[x],rfl,x,[],rfl,rfl,q⟩) (fun D hD=>⟨ak hD _,[],rfl,.nil⟩) (fun D i ys H' _ ⟨e,_⟩=>bZ (e _ _ MU)) ?_ ?_
  ·rintro D i y ys H2 T0 Q' hD hi hy ⟨s2,ts,rfl,pv⟩ hT0 k'
   obtain⟨q,rfl,hq⟩:=bw hi
   have il:=(fV hq).1
   have sT0:=ak hT0 (HO.tup [V.int i,V.int q])
   refine⟨_,rfl,_,rfl,(by show 2<=sizeLine;decide),fun T hT=>?_⟩
   have sT:=ak hT (HO.tup [V.int q,V.int i])
   obtain⟨H3,Pm⟩:∃ H3,upd (upd H2 T0 (HO.tup [V.int i,V.int q])) T (HO.tup [V.int q,V.int i])=H3:=⟨_,rfl⟩
   have hT3:H3 T=some (.tup [V.int q,V.int i]):=by rw[<- Pm,ae]
   rw[Pm]at sT ⊢
   have s3:=sT0.trans sT
   have hy3:=s3 _ _ hy
   have lts:ts.length=i:=by
    rw[Paired.length pv,pR,jX]
    omega
   refine k' _ _ hy3 (ay #[36]) ⟨ax (s2.trans s3) hD,ts++[T],by rw[jD];rfl,?_⟩
   have up:∀ b xs,H3 b=some #[42]->(upd H3 D (.lst (ts.map V.ref++[V.ref T]))) b=some #[42]:=fun b xs e=>by
    rw[aj (aG e hy3 #[1])];exact e
   have et:qs.take (i+1)=qs.take i++[q]:=by rw[jW,hq];rfl
   have ll:(qs.take i).length=i:=by rw[jX];omega
   rw[et,DC,ll]
   exact Paired.snoc (ir.same pv fun b xs e=>up b xs (s3 _ _ e)) (up _ _ hT3)
  ·rintro L ys H2 fL hL ⟨s2,ts,rfl,pv⟩
   rw[bb,jY]at pv
   refine⟨L,ts,_,rfl,hL,pv,fun D hD=>?_⟩
   have mk:=Fy bf.nd qs.length
   rw[jY]at mk
   rw[mk]
   have s3:=s2.trans (ak hD (HO.dK (Bn qs 0)))
   refine .inl ⟨m,l,D,r,g,many,wide,rows,signs,qs,oC qs,rfl,M.same fun b xs e=>s3 _ _ (s1 _ _ e),R,ls,⟨by omega,w1⟩,s3 _ _ MU,by omega,bf.inr,⟨_,ae,fun q hq t ht=>?_⟩,fun m1 r1 g1 H3 s4 M3=>?_⟩
   ·have qi:=bf.inr q hq
    obtain⟨f,hf,e⟩:=AG R qi.1 qi.2 ht
    have tq:t∈qs:=(bf.re t).mpr (by rw[e];exact((bf.re q).mp hq).step #[0] #[0])
    rw[tG,if_pos tq,Je]
    rfl
   ·exact dU _ _ ⟨m1,r1,g1,rfl,(s1.trans s3).trans s4,M3⟩
 rintro σ' H2 ⟨m1,r1,g1,rfl,s2,M2⟩
 refine fun Nn hNn=>⟨#[15],fun Fa hFa=>?_⟩
 obtain⟨H3,Pm⟩:∃ H3,upd (upd H2 Nn (HO.dK [])) Fa (HO.lst [])=H3:=⟨_,rfl⟩
 have s3:aB H2 H3:=by rw[<- Pm];exact(ak hNn _).trans (ak hFa _)
 have nNF:Nn≠Fa:=ar ae hFa
 have J6:H3 Nn=some (.dK []):=by rw[<- Pm,aj nNF,ae]
 have hF3:H3 Fa=some (.lst []):=by rw[<- Pm,ae]
 have fN:H Nn=none:=s2.free hNn
 have fF:H Fa=none:=s2.free ((ak hNn (HO.dK [])).free hFa)
 rw[Pm]
 have lsg:(cn signs qs).length=qs.length:=by unfold cn;rw[bb]
 have R1':aF qs.length wide (cc rows (oC qs) qs):=R1
 refine⟨_,rfl,m1,r1,g1,qs.length,wide,_,_,rfl,M2.same fun b xs e=>s3 _ _ e,R1',lsg,by omega,w1,fun go gs H4 s4 fgo J8 lg hg=>?_⟩
 have sH4:aB H2 H4:=s3.trans s4
 have M4:=M2.same fun b xs e=>sH4 _ _ e
 try dsimp only[bB,dG]
 refine eO (t:=Ec _ _ _) (fun σ' H'=>∃ v6 v7:OV,σ'=[some (.ref m),some (.ref l),some (.ref m1),some (.ref Nn),some (.ref Fa),some (.ref go),v6,v7]/\(∀ c u,c≠Nn->c≠Fa->H4 c=some u->H' c=some u)/\H' Nn=some (.dK (Bn (bp gs) 0))/\H' Fa=some (.lst (((bV (oB gs) gs.length).map fun i:Nat=>(i:Int)).map V.int))) ?_ (fun D' dU=>?_)
 rotate_left
 ·have ngN:go≠Nn:=aG J8 (s4 _ _ J6) #[1]
  have ngF:go≠Fa:=fun z=>by rw[z,hF3]at fgo;cases fgo
  refine⟨_,rfl,go,rfl,⟨_,bZ J8⟩,Fc (K:=K) (xs:=gs.map V.int) (fun i σ' H'=>∃ v6 v7:OV,σ'=[some (.ref m),some (.ref l),some (.ref m1),some (.ref Nn),some (.ref Fa),some (.ref go),v6,v7]/\(∀ c u,c≠Nn->c≠Fa->H4 c=some u->H' c=some u)/\H' Nn=some (.dK (Bn (bp (gs.take i)) 0))/\H' Fa=some (.lst (((bV (oB gs) i).map fun i:Nat=>(i:Int)).map V.int)))
   ⟨none,none,rfl,fun _ _ _ _ e=>e,s4 _ _ J6,s4 _ _ hF3⟩ (fun i σ' H' _ ⟨_,_,_,e,_,_⟩=>bZ (e _ _ ngN ngF J8)) ?_ ?_⟩
  ·rintro i y σ' H5 T hi ⟨v6,v7,rfl,Sb,hN5,T4⟩ hT
   obtain⟨gg,rfl,hgg⟩:=bw hi
   have il:=(fV hgg).1
   have sT:=ak hT (HO.tup [V.int i,V.int gg])
   obtain⟨H6,eH6⟩:∃ H6,upd H5 T (HO.tup [V.int i,V.int gg])=H6:=⟨_,rfl⟩
   have hT6:H6 T=some (.tup [V.int i,V.int gg]):=by rw[<- eH6];exact ae
   rw[eH6]at sT ⊢
   have hN6:=sT _ _ hN5
   have hF6:=sT _ _ T4
   have ol:=sC (gs.take i)
   rw[jX]at ol
   have cp:=Hl gs (m:=i) #[0]
   have fl:=my (oB gs) i
   exists T,_,rfl,cj hT6,rfl,_,_,rfl,_,_,rfl,rfl
   exists _,rfl,_,rfl,Nn,_,rfl,fH.k (k:=Sum.inl gg) hN6,_,rfl
   rw[tG]
   by_cases c:gg∈bp (gs.take i)
   ·rw[if_pos c]
    refine ic ⟨_,_,rfl,fun c' u c1 c2 e=>sT _ _ (Sb c' u c1 c2 e),by rw[hN6,mh hgg,oP c],?_⟩
    have ph:=CB hgg c
    have lt:=jt c
    rw[hF6,BM,if_neg (by rw[ph,cp];omega),JA]
   ·rw[if_neg c]
    refine Dx ⟨_,rfl,Nn,_,rfl,hN6,_,rfl,_,rfl,Nn,_,rfl,CH.k (k:=Sum.inl gg) hN6 (ay (by rw[pR];omega)),?_⟩
    rw[pR,HB c]
    have nFN:Fa≠Nn:=Ne.symm nNF
    have ph:=CA hgg c
    refine⟨_,rfl,.inl ⟨rfl,_,bZ (by rw[aj nFN];exact hF6)⟩,_,rfl,Fa,_,_,rfl,rfl,(by rw[aj nFN];exact hF6),ay (by rw[bb,bb,fl,cp];omega),?_⟩
    refine⟨_,_,rfl,fun c' u c1 c2 e=>by rw[aj c2,aj c1];exact sT _ _ (Sb c' u c1 c2 e),by rw[aj nNF,ae,mh hgg,iy c],?_⟩
    rw[ae,BM,if_pos (by rw[ph,cp]),jD,jD]
    rfl
  ·rintro σ' H5 ⟨v6,v7,rfl,Sb,hN5,T4⟩
   rw[bb,jY]at hN5
   rw[bb]at T4
   exact dU _ _ ⟨v6,v7,rfl,Sb,hN5,T4⟩
 rintro σ' H5 ⟨v6,v7,rfl,Sb,hN5,T4⟩
 have s5:aB H H5:=fun c u e=>Sb c u (fun z=>by rw[z,fN]at e;cases e) (fun z=>by rw[z,fF]at e;cases e) (sH4 _ _ (s2 _ _ e))
 have M5:bI H5 m1 r1 g1 wide (cc rows (oC qs) qs) (cn signs qs):=M4.same fun b xs e=>Sb b _ (aG e (s4 _ _ J6) #[1]) (aG e (s4 _ _ hF3) #[1]) e
 have RY:H5 go=some (.lst (gs.map V.int)):=Sb _ _ (aG J8 (s4 _ _ J6) #[1]) (fun z=>by rw[z,hF3]at fgo;cases fgo) J8
 have plg:(eI gs).length=gs.length:=by unfold eI;rw[bb,jT]
 exists _,rfl,_,rfl,_,rfl,go,rfl,⟨_,bZ RY⟩
 refine eA (K:=K) (xs:=gs.map V.int) (fun D i ys H'=>aB H5 H'/\ys=((eI gs).take i).map V.int) (fun D hD=>⟨ak hD _,rfl⟩) (fun D i ys H' _ ⟨e,_⟩=>bZ (e _ _ RY)) ?_ ?_
 ·rintro D i y ys H6 Q' hD hi hy ⟨s6,rfl⟩ k'
  obtain⟨gg,rfl,hgg⟩:=bw hi
  have il:=(fV hgg).1
  have om:gg∈bp gs:=sG.mpr (oY hgg)
  have ph:oB gs (i:Int)=(((bp gs).idxOf gg:Nat):Int):=by
   unfold oB
   rw[jB,jQ,hgg]
   rfl
  have dg:fH H6 Nn (.int gg) (some (.int (oB gs (i:Int)))):=by
   have d:=fH.k (k:=Sum.inl gg) (s6 _ _ hN5)
   rw[tG,if_pos om,Je,<- ph]at d
   exact d
  have hp:(eI gs)[i]?=some (oB gs (i:Int)):=by
   unfold eI
   rw[jV,QF il]
   rfl
  refine⟨_,rfl,_,rfl,Nn,_,rfl,dg,k' _ _ hy (ay (by rw[bb,jX];omega)) ⟨ax s6 hD,?_⟩⟩
  rw[jW,hp,jD]
  rfl
 ·rintro L ys H6 fL hL ⟨s6,rfl⟩
  rw[bb,<- plg,jY]at hL
  have fi:∀ q∈(bV (oB gs) gs.length).map (fun i:Nat=>(i:Int)),0<=q/\q<(qs.length:Int):=fun q hq=>by
   obtain⟨i,hi,rfl⟩:=jN.mp hq
   have:=RN hi
   omega
  have akr:((bV (oB gs) gs.length).map fun i:Nat=>(i:Int)).length<=1000:=by
   rw[bb]
   have:=Jk (fun q:Nat=>decide (oB gs (q:Int)=(bc (oB gs) q:Int))) (jO gs.length)
   rw[jT]at this
   unfold bV
   omega
  refine .inr ⟨m1,Fa,L,r1,g1,qs.length,wide,_,_,_,oB gs,rfl,M5.same fun b xs e=>s6 _ _ e,R1',lsg,⟨by omega,w1⟩,s6 _ _ T4,akr,fi,⟨eI gs,hL,fun q hq t ht=>?_⟩,fun m' r' g' H7 s7 M7=>?_⟩
  ·have qi:=fi q hq
   obtain⟨f,hf,e⟩:=AG R1' qi.1 qi.2 ht
   have tv:=dk R1' qi.1 qi.2 (f:=(f:Int)) #[0] #[0]
   rw[<- e]at tv
   have tv1:t<(gs.length:Int):=by rw[lg];exact tv.2
   refine⟨⟨tv.1,by rw[plg];exact tv1⟩,?_⟩
   have:=AA (gs:=gs) tv.1 tv1
   unfold br at this
   exact this.symm
  ·refine k m' r' g' _ _ H7 ((s5.trans s6).trans s7) M7 ?_
   have L:=Lg (signs:=signs) (gs:=gs) R #[0] bf.eq bf.nd (fun q hq=>bf.inr q hq) reF lg (fun x y hx hy=>by
    have h:=hg (x:Int) (y:Int) ⟨by omega,by omega⟩ ⟨by omega,by omega⟩
    unfold br at h
    rw[jB,jB]at h
    exact h)
   have el:#[12].length=gs.length:=by rw[bb,lg]
   rw[AE,el,<- lg]at L
   have e1:cc (cc rows (oC qs) qs) (oB gs) ((bV (oB gs) gs.length).map fun i:Nat=>(i:Int))=(bV (oB gs) gs.length).map fun i=>(#[12].getD i []).map (oB gs):=by
    unfold cc
    rw[JO]
    rfl
   have e2:cn (cn signs qs) ((bV (oB gs) gs.length).map fun i:Nat=>(i:Int))=(bV (oB gs) gs.length).map fun q=>(qs.map fun q=>signs.getD q.toNat 0).getD q 0:=by
    unfold cn
    rw[JO]
    rfl
   rw[e1,e2]
   exact L
end
def dE(b:Int):LI->Int
 | []=>0
 | p :: r=>p+b*dE b r
def mY(m:Int):LI->LI
 | []=>[]
 | p :: r=>p%m :: p / m :: mY m r
def Cq(b:Int)(ps:LI):Prop := ∀ p∈ps,0<=p/\p<b
theorem Cq.nil:Cq b []:=fun p h=>by cases h
theorem Cq.cons{b p:Int}{r:LI}(h0:0<=p)(h1:p<b)(h:Cq b r):Cq b (p :: r):=fun x hx=>by
 rcases jS.mp hx with z|z
 ·rw[z];exact⟨h0,h1⟩
 ·exact h x z
theorem Cq.tail{p:Int}{r:LI}(h:Cq b (p :: r)):Cq b r:=fun x hx=>h x (jK _ hx)
theorem Bj(m:Int):∀ ps:LI,(mY m ps).length=2*ps.length
 | []=>rfl
 | p :: r=>by simp only[mY,jc,Bj m r];omega
theorem J7{m:Int}(hm:0<m):∀ {ps:LI},Cq (m*m) ps->Cq m (mY m ps)
 | [],_=>Cq.nil
 | p :: r,h=>by
  have hp:=h p jE
  have d0:0<=p / m:=Qc hp.1 (zK hm)
  have d1:p / m<m:=Zt hm hp.2
  exact Cq.cons (zD p #[0]) (Ju p hm) (Cq.cons d0 d1 (J7 hm h.tail))
theorem Fe(m:Int):∀ ps:LI,dE m (mY m ps)=dE (m*m) ps
 | []=>rfl
 | p :: r=>by
  have e:=Zu p m
  simp only[mY,dE,Fe m r]
  rw[QS,<- QB,e,QC]
theorem An(m:Int):∀ (ps:LI) (x:Int),mY m (ps++[x])=mY m ps++[x%m,x / m]
 | [],x=>rfl
 | p :: r,x=>by simp only[Zf,mY,An m r x]
theorem BZ(hb:0<=b):∀ {ps:LI},Cq b ps->0<=dE b ps
 | [],_=>ZL 0
 | p :: r,h=>Int.add_nonneg (h p jE).1 (Zs hb (BZ hb h.tail))
theorem BX(b:Int):∀ (ps qs:LI),dE b (ps++qs)=dE b ps+b^ps.length*dE b qs
 | [],qs=>by simp[dE]
 | p :: r,qs=>by
  simp only[Zf,dE,BX b r qs,jc]
  rw[QS,Qm,QB,<- QC,QL b (b^r.length)]
theorem FY(b:Int)(ps:LI)(x:Int):dE b (ps++[x])=dE b ps+x*b^ps.length:=by
 rw[BX]
 simp[dE,QL]
def pw(w:Int):Nat->Int
 | 0=>w
 | i+1=>pw w i*pw w i
theorem HV{w:Int}(h:2<=w):∀ i,2<=pw w i
 | 0=>h
 | i+1=>by
  have q:=HV h i
  have:=zM q q #[8] #[0]
  show 2<=pw w i*pw w i
  omega
theorem adk{w:Int}(h:2<=w)(i:Nat):pw w i<pw w (i+1):=by
 have q:=HV h i
 have:=zM q (ZL (pw w i)) #[0] #[0]
 show pw w i<pw w i*pw w i
 omega
theorem adj{w:Int}(h:2<=w):∀ i:Nat,(2:Int)^(2^i)<=pw w i
 | 0=>by simpa[pw]using h
 | i+1=>by
  have q:=adj h i
  have e:(2:Int)^(2^(i+1))=2^(2^i)*2^(2^i):=by
   rw[ZD,Nat.mul_two,Int.pow_add]
  rw[e]
  have p0:(0:Int)<=2^(2^i):=zK (Int.pow_pos #[8])
  exact zM q q p0 (ZF p0 q)
def NB:Int:=2^1100
theorem Te:NB*NB<OZ:=by decide +kernel
theorem adG:2<NB:=by decide +kernel
theorem aaC{w n:Int}{t:Nat}(h:2<=w)(hp:pw w t<=n)(hn:n<NB):2^t<1100:=by
 have q:=adj h t
 have q2:(2:Int)^(2^t)<2^1100:=QM (ZF q hp) hn
 have q3:(2:Nat)^(2^t)<2^1100:=by exact_mod_cast q2
 exact(Nat.pow_lt_pow_iff_right #[8]).mp q3
def pws(w:Int)(t:Nat):LI:=(jO t).map (pw w)
theorem aaE(w:Int)(t:Nat):pws w (t+1)=pws w t++[pw w t]:=by
 unfold pws
 rw[JK,jD]
 rfl
theorem CD(w:Int)(t:Nat):(pws w t).length=t:=by simp[pws]
theorem acz{w:Int}{t:Nat}(h:i<t):(pws w t)[i]?=some (pw w i):=by simp[pws,h]
structure F7(w n:Int)(ds:LI):Prop where
 inb:Cq w ds
 val:dE w ds=n
 top:∀ d,ds.getLast?=some d->d≠0
theorem DE(ds:LI):ds=[]\/∃ r x,ds=r++[x]:=by
 rcases List.eq_nil_or_concat ds with h|⟨r,x,h⟩
 ·exact .inl h
 ·exact .inr ⟨r,x,by simpa using h⟩
def Rj:Sp:=fun vs H Q _=>∃ z:Int,vs=[.int z]/\Q (.bl true) H
def aaR:Sp:=fun vs H Q _=>∃ z y:Int,vs=[.int z,.int y]/\Q (.bl (decide (y<=z))) H
def aaU:Sp:=fun vs H Q _=>∃ (z y:Int) (x:qW),vs=[.int z,.int y,.str x]/\y<=z/\Q .non H
def L3(K:Yv):Sp:=fun vs H Q _=>∃ (a:Qu) (m:Int) (ps:LI),vs=[.ref a,.int m]/\lh K H a (ps.map V.int)/\ps.length<=5000/\(0<m/\m<OZ) /\
 ∀ (l:Qu) (H':Hp),aB H H'->H l=none->H' l=some (.lst ((mY m ps).map V.int))->Q (.ref l) H'
def FP(K:Yv):Sp:=fun vs H Q _=>∃ n w:Int,vs=[.int n,.int w]/\(0<=n/\n<NB)/\(2<=w/\w<NB) /\
 ∀ (t:Qu) (H':Hp) (ds:LI),aB H H'->H' t=some (.tup (ds.map V.int))->F7 w n ds->ds.length<=5000->Q (.ref t) H'
section
theorem LS:aH ["thing"] ["thing"] (av wJ):=cW #[3]
theorem Bx:aH ["thing","least"] ["thing","least"] (av lI):=cW #[3]
theorem EF:aH ["thing","least","called"] ["thing","least","called"] (av pU):=cW #[3]
theorem fk:aH ["number","wide","powers","power","parts","middle"] ["number","wide"] (av Bu):=cW #[3]
theorem Bw:aH ["parts","middle","halves","part"] ["parts","middle"] (av DV):=cW #[3]
theorem Lu(F:bG K "is_whole" "is_whole" wJ dV f fd)(aD:mg "isinstance" = none)(AO:mg "int" = none)(BF:mg "bool" = none):bu P w K mg base eM 1 f fd ["thing"] Rj:=by
 refine F.ok LS #[7] #[2]
 ·obtain⟨z,rfl,_⟩:=h
  rfl
 obtain⟨z,rfl,q⟩:=h
 refine⟨_,(ao (aL (HL (aA mw #[41] aD ba (aa (pv 0) (aa (oh (v:=.ty "int") rfl AO Mv rfl) af))) (HN (afd (aA mw #[41] aD ba (aa (pv 0) (aa (oh (v:=.ty "bool") rfl BF Pc rfl) af)))))))),?_⟩
 refine⟨_,rfl,_,_,_,_,rfl,oO.int z,su K,_,rfl,Dx ?_⟩
 exact⟨_,rfl,_,_,_,_,rfl,oO.int z,pQ K,_,rfl,q⟩
theorem acb(F:bG K "is_whole_from" "is_whole_from" lI dV f fd)(wg:bO P w K mg base "is_whole" 1 ["thing"] [] Rj):bu P w K mg base eM 2 f fd ["thing","least"] aaR:=by
 refine F.ok Bx #[7] #[2]
 ·obtain⟨z,y,rfl,_⟩:=h
  rfl
 obtain⟨z,y,rfl,q⟩:=h
 exists _,(ao (aL (HL (bC wg hr (aa (pv 0) af)) (HN (lV P4 (pv 0) (pv 1) (aY _))))))
 exact⟨_,rfl,z,rfl,_,rfl,Dx ⟨_,rfl,_,rfl,_,_,rfl,rfl,q⟩⟩
theorem acf(F:bG K "need_whole" "need_whole" pU dV f fd)(iY:bO P w K mg base "is_whole_from" 2 ["thing","least"] [] aaR):bu P w K mg base eM 3 f fd ["thing","least","called"] aaU:=by
 refine F.ok EF #[7] #[2]
 ·obtain⟨z,y,x,rfl,_⟩:=h
  rfl
 obtain⟨z,y,x,rfl,hy,q⟩:=h
 exists _,(ao (cz (iB (fW (bC iY hr (aa (pv 0) (aa (pv 1) af))))) (ao aaw) bg))
 refine⟨_,rfl,_,rfl,z,y,rfl,_,rfl,ah4 hy ?_⟩
 exact q
theorem Sm(F:bG K "halved" "halved" DV dV f fd):bu P w K mg base eM 1 f fd ["parts","middle"] (L3 K):=by
 refine F.ok Bw #[7] #[2]
 ·obtain⟨a,m,ps,rfl,_⟩:=h
  rfl
 obtain⟨a,m,ps,rfl,hS,hl,⟨m0,m1⟩,k⟩:=h
 refine⟨_,(ah (aC (i:=2) Bw.nd (cf af))
   (ah (bX PassesOwn.never rfl (cC (pv 0)) (aS (i:=3) Bw.nd) (ah (bD (fA Yy Yz yA bE (pv 2) (aa (aE cw (pv 3) (pv 1)) af)))
   (ao (bD (fA Yy Yz yA bE (pv 2) (aa (aE DL (pv 3) (pv 1)) af))))))
   (ao (aL (pv 2))))),?_⟩
 refine⟨#[15],fun l hl0=>?_⟩
 refine⟨_,rfl,a,rfl,⟨_,(ak hl0 _).seq hS⟩,dW (K:=K) (xs:=ps.map V.int) (fun i σ' H'=>∃ v,σ'=[some (.ref a),some (.int m),some (.ref l),v]/\aB H H'/\H' l=some (.lst ((mY m (ps.take i)).map V.int)))
  ⟨none,rfl,ak hl0 _,ae⟩ (fun i σ' H' _ ⟨_,_,s,_⟩=>s.seq hS) ?_ ?_⟩
 ·rintro i y σ' H' hi ⟨v,rfl,s1,h1⟩
  obtain⟨z,rfl,hz⟩:=bw hi
  have hi':i<ps.length:=(fV hz).1
  have l1:((mY m (ps.take i)).map V.int).length<=10000:=by
   rw[bb,Bj,jX]
   omega
  have big:10002<sizeLine:=by decide
  refine⟨_,rfl,.inl ⟨rfl,_,bZ h1⟩,_,rfl,_,rfl,_,_,rfl,rfl,m0,l,_,_,rfl,rfl,h1,by omega,?_⟩
  refine⟨_,rfl,.inl ⟨rfl,_,bZ ae⟩,_,rfl,_,rfl,_,_,rfl,rfl,⟨m0,m1⟩,l,_,_,rfl,rfl,ae,by rw[jL];simp only[js];omega,?_⟩
  exists _,rfl,ax (ax s1 hl0) hl0
  rw[ae,jW,hz]
  show _=some (HO.lst ((mY m (ps.take i++[z])).map V.int))
  rw[An,jD,jv]
  rfl
 ·rintro σ' H' ⟨v,rfl,s1,h1⟩
  rw[bb,jY]at h1
  exact⟨_,rfl,k l H' s1 hl0 h1⟩
theorem N9(F:bG K "figures" "figures" Bu dV f fd)(lQ:bO P w K mg base "need_whole" 3 ["thing","least","called"] [] aaU)(CJ:bO P w K mg base "halved" 1 ["parts","middle"] [] (L3 K))(iG:mg "reversed" = none)(aK:mg "tuple" = none):bu P w K mg base eM 4 f fd ["number","wide"] (FP K):=by
 refine F.ok fk #[7] #[2]
 ·obtain⟨n,w,rfl,_⟩:=h
  rfl
 obtain⟨n,wd,rfl,⟨n0,n1⟩,⟨w0,w1⟩,k⟩:=h
 have apY:∀ {x y:Int},0<=x->x<NB->0<=y->y<NB->x*y<OZ:=fun {x y} hx Iq hy hy' =>
  QM (zM (zK Iq) (zK hy') hy (ZF hx (zK Iq))) Te
 have aeV:∀ {x:Int},0<=x->x<NB->x<OZ:=fun {x} hx Iq=>by
  have:=adG
  have:=Te
  have q:NB*1<=NB*NB:=zM (ZL _) #[0] #[8] #[0]
  omega
 refine⟨_,(ah (bD (bC lQ hr (aa (pv 0) (aa aq (aa aam af)))))
   (ah (bD (bC lQ hr (aa (pv 1) (aa aq (aa aam af)))))
   (ah (aC (i:=2) fk.nd (cf af))
   (ah (aC (i:=3) fk.nd (pv 1))
   (ah (mE PassesOwn.never (aU adg (pv 3) (pv 0) (aY _)) (ah (bD (fA Yy Yz yA bE (pv 2) (aa (pv 3) af)))
   (ao (aC (i:=3) fk.nd (aE ack (pv 3) (pv 3))))))
   (ah (aC (i:=4) fk.nd (cf (aa (pv 0) af)))
   (ah (bX PassesOwn.never rfl (afj rfl iG (aa (pv 2) af)) (aS (i:=5) fk.nd) (ao (aC (i:=4) fk.nd (bC CJ hr (aa (pv 4) (aa (pv 5) af))))))
   (ah (mE PassesOwn.never (PW.pt (wI (AD (pv 4) (fun _=>rfl)) (tJ (aU eP (aN dS (pv 4) (aan OW aq) #[5]) aq (aY _))))) (ao (bD (Om Yy xE xF Y2 (pv 4)))))
   (ao (aL (aW aP #[41] aK bH (aa (pv 4) af)))))))))))),?_⟩
 exists _,rfl,n,0,_,rfl,n0
 exists _,rfl,wd,2,_,rfl,w0
 refine⟨#[15],fun L hL=>?_⟩
 exists _,rfl
 try dsimp only[bB]
 refine eB (t:=pX _ _) (fun σ' H'=>∃ t:Nat,σ'=[some (.int n),some (.int wd),some (.ref L),some (.int (pw wd t)),none,none]/\aB H H'/\H' L=some (.lst ((pws wd t).map V.int))/\n<pw wd t/\(t=0\/pw wd (t-1)<=n)) ?_ (fun dU=>?_)
 rotate_left
 ·refine pZ (fun m σ' H'=>∃ t:Nat,m=(n+1-pw wd t).toNat/\σ'=[some (.int n),some (.int wd),some (.ref L),some (.int (pw wd t)),none,none]/\aB H H'/\H' L=some (.lst ((pws wd t).map V.int))/\(t=0\/pw wd (t-1)<=n))
   ⟨_,0,rfl,rfl,ak hL _,ae,.inl rfl⟩ ?_
  rintro m σ' H' ⟨t,rfl,rfl,s1,h1,ht⟩
  refine⟨_,rfl,_,rfl,_,_,rfl,rfl,_,rfl,rK #[46] #[46]⟩
  ·have c':pw wd t<=n:=c
   have p2:=HV w0 t
   have Hr:=aaC w0 c' n1
   have lt2:t<2^t:=Nat.lt_two_pow_self
   have plt:=adk w0 t
   refine⟨fun σ' H'=>∃ m',m'<(n+1-pw wd t).toNat/\∃ t:Nat,m'=(n+1-pw wd t).toNat/\σ'=[some (.int n),some (.int wd),some (.ref L),some (.int (pw wd t)),none,none]/\aB H H'/\H' L=some (.lst ((pws wd t).map V.int))/\(t=0\/pw wd (t-1)<=n),fun σ' H' h=>h,?_⟩
   refine⟨_,rfl,.inl ⟨rfl,_,bZ h1⟩,_,rfl,L,_,_,rfl,rfl,h1,?_,?_⟩
   ·rw[bb,CD]
    have big:(1101:Nat)<sizeLine:=by decide
    omega
   refine⟨_,rfl,_,rfl,_,_,rfl,rfl,⟨⟨by omega,aeV #[0] #[0]⟩,⟨by omega,aeV #[0] #[0]⟩⟩,_,?_,t+1,rfl,rfl,ax s1 hL,?_,.inr c'⟩
   ·show(n+1-pw wd (t+1)).toNat<_
    omega
   ·rw[ae,aaE,jD]
    rfl
  ·exact dU _ _ ⟨t,rfl,s1,h1,by omega,ht⟩
 rintro σ' H1 ⟨t,rfl,s1,h1,hn,ht⟩
 have Hr:2^t<=2200:=by
  rcases ht with z|z
  ·rw[z];decide
  ·rcases t with _|t
   ·decide
   ·have:=aaC w0 z n1
    rw[ZD]
    simp only[QJ]at this
    omega
 refine⟨_,rfl,(by show 1<=sizeLine;decide),fun D0 hD0=>?_⟩
 have s2:=s1.trans (ak hD0 (HO.lst [V.int n]))
 have nL:L≠D0:=ar h1 hD0
 try dsimp only[bB]
 refine eB (t:=Ec _ _ _) (fun σ' H'=>∃ (D:Qu) (v:OV) (ps:LI),σ'=[some (.int n),some (.int wd),some (.ref L),some (.int (pw wd t)),some (.ref D),v]/\aB H H'/\H D=none/\H' D=some (.lst (ps.map V.int))/\Cq wd ps/\dE wd ps=n/\ps.length<=2200) ?_ (fun dU=>?_)
 rotate_left
 ·refine⟨_,rfl,L,_,rfl,bZ (by rw[aj nL];exact h1),abz (K:=K) (xs:=(pws wd t).map V.int) (fun i σ' H'=>∃ (D:Qu) (v:OV) (ps:LI),σ'=[some (.int n),some (.int wd),some (.ref L),some (.int (pw wd t)),some (.ref D),v]/\aB H1 H'/\H1 D=none/\H' D=some (.lst (ps.map V.int))/\Cq (pw wd (t-i)) ps/\dE (pw wd (t-i)) ps=n/\ps.length=2^i)
   ⟨D0,none,[n],rfl,ak hD0 _,hD0,ae,Cq.cons n0 hn Cq.nil,by simp[dE],rfl⟩ (fun i σ' H' _ ⟨_,_,_,_,s,_,_,_,_,_⟩=>bZ (s _ _ h1)) ?_ ?_⟩
  ·rintro i y σ' H' hi hy ⟨D,v,ps,rfl,s3,fD,hD,oV,si,hlen⟩
   rw[bb,CD]at hi
   rw[bb,CD]at hy
   have e1:t-i=(t-1-i)+1:=by omega
   have e2:t-(i+1)=t-1-i:=by omega
   obtain⟨z,rfl,hz⟩:=bw hy
   rw[acz (show t-1-i<t by omega)]at hz
   cases hz
   rw[e1]at oV si
   have hp:=HV w0 (t-1-i)
   have hle:pw wd (t-1-i)<=n:=by
    rcases ht with z|z
    ·omega
    ·have mono:∀ a b:Nat,pw wd a<=pw wd (a+b):=fun a b=>by
      induction b with
      | zero=>exact ZL _
      | succ b ih=>exact ZF ih (zK (adk w0 (a+b)))
     have:=mono (t-1-i) i
     rw[show t-1-i+i=t-1 by omega]at this
     omega
   have li:2^i<=2^t:=ZG #[8] #[0]
   refine⟨_,rfl,_,rfl,D,_,ps,rfl,bZ hD,by omega,⟨by omega,aeV #[0] #[0]⟩,fun l Cp s4 fl hl=>?_⟩
   refine⟨l,_,mY (pw wd (t-1-i)) ps,rfl,s3.trans s4,s3.free fl,hl,?_,?_,?_⟩
   ·rw[e2];exact J7 #[0] oV
   ·rw[e2,Fe];exact si
   ·rw[Bj,hlen,ZD];omega
  ·rintro σ' H' ⟨D,v,ps,rfl,s3,fD,hD,oV,si,hlen⟩
   rw[bb,CD]at oV si hlen
   rw[zN]at oV si
   exact dU _ _ ⟨D,v,ps,rfl,s1.trans s3,s1.free fD,hD,oV,si,by omega⟩
 rintro σ' H2 ⟨D,v,ps,rfl,s3,fD,hD,oV,si,hlen⟩
 try dsimp only[bB]
 refine eB (t:=pX _ _) (fun σ' H'=>∃ ps:LI,σ'=[some (.int n),some (.int wd),some (.ref L),some (.int (pw wd t)),some (.ref D),v]/\aB H H'/\H' D=some (.lst (ps.map V.int))/\F7 wd n ps/\ps.length<=2200) ?_ (fun dU=>?_)
 rotate_left
 ·refine pZ (fun m σ' H'=>∃ ps:LI,m=ps.length/\σ'=[some (.int n),some (.int wd),some (.ref L),some (.int (pw wd t)),some (.ref D),v]/\aB H H'/\H' D=some (.lst (ps.map V.int))/\Cq wd ps/\dE wd ps=n/\ps.length<=2200) ⟨_,ps,rfl,rfl,s3,hD,oV,si,hlen⟩ ?_
  rintro m σ' H' ⟨ps,rfl,rfl,s4,h4,oV,si,hlen⟩
  rcases DE ps with rfl|⟨r,x,rfl⟩
  ·refine⟨_,rfl,_,.inl ⟨_,bZ h4,rfl⟩,ic (ic ?_)⟩
   exact dU _ _ ⟨[],rfl,s4,h4,⟨oV,si,fun d h=>by cases h⟩,hlen⟩
  ·have ix:tW ((r++[x]).map V.int) (-1)=some (.int x):=by
    rw[jD]
    exact IP _ _
   exists _,rfl,_,.inl ⟨_,bZ h4,rfl⟩
   have ne:(!((r++[x]).map V.int).isEmpty)=true:=by simp
   rw[ne]
   refine Dx ⟨_,rfl,_,rfl,D,_,_,_,rfl,rfl,bZ h4,ix,rfl,_,rfl,sj #[46] #[46]⟩
   ·have hr:dE wd r=n:=by
     rw[FY,c,Int.zero_mul,QN]at si
     exact si
    refine⟨fun σ' H'=>∃ m',m'<(r++[x]).length/\∃ ps:LI,m'=ps.length/\σ'=[some (.int n),some (.int wd),some (.ref L),some (.int (pw wd t)),some (.ref D),v]/\aB H H'/\H' D=some (.lst (ps.map V.int))/\Cq wd ps/\dE wd ps=n/\ps.length<=2200,fun σ' H' h=>h,?_⟩
    refine⟨_,rfl,.inl ⟨rfl,_,bZ h4⟩,D,_,V.int x,rfl,rfl,h4,by simp,?_⟩
    ·refine⟨r.length,by simp,r,rfl,rfl,ax s4 fD,?_,fun p hp=>oV p (jz _ hp),hr,?_⟩
     ·rw[ae,jD]
      show some (HO.lst ((r.map V.int++[V.int x]).dropLast))=_
      rw[Zz]
     ·rw[jL]at hlen
      omega
   ·exact dU _ _ ⟨r++[x],rfl,s4,h4,⟨oV,si,fun d h=>by
     rw[List.getLast?_concat]at h
     cases h
     exact c⟩,hlen⟩
 rintro σ' H3 ⟨ps,rfl,s4,h4,FG,hlen⟩
 refine⟨_,rfl,D,_,rfl,.inl ⟨bZ h4,fun T hT=>?_⟩⟩
 exact k T _ ps (s4.trans (ak hT _)) ae FG #[0]
end
def aaV(K:Yv):Sp:=fun vs H Q _=>∃ (m r g b:Qu) (st:Int) (many wide:Nat) (rows:LL) (signs ns:LI),vs=[.ref m,.ref b,.int st]/\bI H m r g wide rows signs/\aF many wide rows /\
 (lh K H b #[14]\/mT K H b #[14])/\(∀ z∈ns,0<=z/\z<(wide:Int))/\(0<=st/\st<(many:Int))/\Q (.int (aM rows ns st)) H
def OI(K:Yv):Sp:=fun vs H Q _=>∃ (m r g b:Qu) (many wide:Nat) (rows:LL) (signs ns:LI),vs=[.ref m,.ref b]/\bI H m r g wide rows signs/\aF many wide rows/\signs.length=many/\1<=many /\
 (lh K H b #[14]\/mT K H b #[14])/\(∀ z∈ns,0<=z/\z<(wide:Int))/\Q (.int (signs.getD (aM rows ns 0).toNat 0)) H
theorem take_all:ns.take ns.length=ns:=jY
theorem acR{P:Int->Prop}(h:∀ z∈ns,P z):∀ z∈ns.take i,P z:=fun z hz=>h z (ZH hz)
section
theorem me:aH ["machine","row","start","rows","here","figure"] ["machine","row","start"] (av Oz):=cW #[3]
theorem acE:aH ["machine","row"] ["machine","row"] (av OA):=cW #[3]
theorem acg(F:bG K "room" "room" Oz dV f fd):bu P w K mg base eM 1 f fd ["machine","row","start"] (aaV K):=by
 refine F.ok me #[7] #[2]
 ·obtain⟨m,r,g,b,st,many,wide,rows,signs,ns,rfl,_⟩:=h
  rfl
 obtain⟨m,r,g,b,st,many,wide,rows,signs,ns,rfl,M,R,hb,oV,⟨s0,s1⟩,q⟩:=h
 obtain⟨hm,⟨cS,mP,hA⟩,hg⟩:=M
 have inv:∀ i (z:Int),ns[i]?=some z->∃ (ra:Qu) (rr:LI),tW #[50] (aM rows (ns.take i) st)=some (.ref ra)/\H ra=some (.tup (rr.map V.int))/\tW (rr.map V.int) z=some (.int (aM rows (ns.take (i+1)) st)):=fun i z hz=>by
  have w0:=dH R (ns:=ns.take i) (h:=st) (acR oV) s0 s1
  have Fg:=oV z (oY hz)
  obtain⟨ra,rr,e1,e2,e3⟩:=sN hA R w0.1 w0.2 Fg.1 Fg.2
  exact⟨ra,rr,e1,e2,by rw[wO hz];exact e3⟩
 rcases hb with hb|hb
 ·refine⟨_,(ah (aC (i:=3) me.nd #[17])
   (ah (aC (i:=4) me.nd (pv 2))
   (ah (bX PassesOwn.never rfl (cC (pv 1)) (aS (i:=5) me.nd) (ao (aC (i:=4) me.nd (aN aO (aN aO (pv 3) (pv 4) #[5]) (pv 5) #[5]))))
   (ao (aL (pv 4)))))),?_⟩
  exists _,rfl,m,_,_,_,rfl,rfl,cj hm,rfl
  exists _,rfl
  refine⟨_,rfl,b,rfl,⟨_,hb⟩,dW (K:=K) (xs:=ns.map V.int) (fun i σ' H'=>∃ v,σ'=[some (.ref m),some (.ref b),some (.int st),some (.ref r),some (.int (aM rows (ns.take i) st)),v]/\H'=H) ⟨none,rfl,rfl⟩ (fun i σ' H' _ ⟨_,_,e⟩=>by rw[e];exact hb) ?_ ?_⟩
  ·rintro i y σ' H' hi ⟨v,rfl,rfl⟩
   obtain⟨z,rfl,hz⟩:=bw hi
   obtain⟨ra,rr,e1,e2,e3⟩:=inv i z hz
   exact⟨_,rfl,_,rfl,r,_,_,_,rfl,rfl,cj mP,e1,_,rfl,ra,_,_,_,rfl,rfl,cj e2,e3,_,rfl,rfl⟩
  ·rintro σ' H' ⟨v,rfl,rfl⟩
   exists _,rfl
   rw[bb,take_all]
   exact q
 ·refine⟨_,(ah (aC (i:=3) me.nd #[17])
   (ah (aC (i:=4) me.nd (pv 2))
   (ah (bX PassesOwn.never rfl (lF (pv 1)) (aS (i:=5) me.nd) (ao (aC (i:=4) me.nd (aN aO (aN aO (pv 3) (pv 4) #[5]) (pv 5) #[5]))))
   (ao (aL (pv 4)))))),?_⟩
  exists _,rfl,m,_,_,_,rfl,rfl,cj hm,rfl
  exists _,rfl
  refine⟨_,rfl,b,rfl,⟨_,hb⟩,tD (K:=K) (xs:=ns.map V.int) (fun i σ' H'=>∃ v,σ'=[some (.ref m),some (.ref b),some (.int st),some (.ref r),some (.int (aM rows (ns.take i) st)),v]/\H'=H) ⟨none,rfl,rfl⟩ (fun i σ' H' _ ⟨_,_,e⟩=>by rw[e];exact hb) ?_ ?_⟩
  ·rintro i y σ' H' hi ⟨v,rfl,rfl⟩
   obtain⟨z,rfl,hz⟩:=bw hi
   obtain⟨ra,rr,e1,e2,e3⟩:=inv i z hz
   exact⟨_,rfl,_,rfl,r,_,_,_,rfl,rfl,cj mP,e1,_,rfl,ra,_,_,_,rfl,rfl,cj e2,e3,_,rfl,rfl⟩
  ·rintro σ' H' ⟨v,rfl,rfl⟩
   exists _,rfl
   rw[bb,take_all]
   exact q
theorem ach(F:bG K "told" "told" OA dV f fd)(CK:bO P w K mg base "room" 1 ["machine","row","start"] [.int 0] (aaV K)):bu P w K mg base eM 2 f fd ["machine","row"] (OI K):=by
 refine F.ok acE #[7] #[2]
 ·obtain⟨m,r,g,b,many,wide,rows,signs,ns,rfl,_⟩:=h
  rfl
 obtain⟨m,r,g,b,many,wide,rows,signs,ns,rfl,M,R,hl,h1,hb,oV,q⟩:=h
 have w0:=dH R (ns:=ns) (h:=0) oV #[0] #[0]
 refine⟨_,(ao (aL (aN aO #[17] (bC CK hr (aa (pv 0) (aa (pv 1) af))) #[5]))),?_⟩
 refine⟨_,rfl,m,_,_,_,rfl,rfl,cj M.tup,rfl,_,rfl,_,rfl,m,r,g,b,0,many,wide,rows,signs,ns,rfl,M,R,hb,oV,⟨by omega,by omega⟩,?_⟩
 exact⟨g,_,_,_,rfl,rfl,cj M.sgn,cu w0.1 #[0],q⟩
end
theorem Ia:aH ["machine","number"] ["machine","number"] (av sU):=cW #[3]
theorem rY{f g:α->Option β}:∀ {l:List α},(∀ x∈l,f x=g x)->l.filterMap f=l.filterMap g
 | [],_=>rfl
 | x :: l,h=>by rw[JY,JY,h x jE,rY fun y hy=>h y (jK _ hy)]
theorem BW(xs:List V):AM xs none none (-1)=xs.reverse:=by
 unfold AM
 have a1:Yx none none (-1) xs.length=((xs.length:Int)-1,-1):=by first|rfl|simp[Yx]
 rw[a1]
 have a2:yD ((xs.length:Int)-1) (-1) (-1)=xs.length:=by
  unfold yD
  rw[if_neg #[8]]
  by_cases h:(xs.length:Int)-1 > -1
  ·rw[if_pos h,show(- -1:Int)=1 by decide,Qh]
   omega
  ·rw[if_neg h]
   omega
 dsimp only
 rw[a2]
 have e:(jO xs.length).filterMap (fun(m:Nat)=>xs[((xs.length:Int)-1+(m:Int)*-1).toNat]?)=((jO xs.length).map fun k=>xs.length-1-k).filterMap (xs[·]?):=by
  rw[zY]
  refine rY fun m hm=>?_
  have:=jq.mp hm
  show xs[((xs.length:Int)-1+(m:Int)*-1).toNat]?=xs[xs.length-1-m]?
  congr 1
  omega
 rw[e,PySem.W.krv_range,List.filterMap_reverse]
 have q:=PySem.W.krv_all xs.toArray
 simp only[jP,Zr]at q
 rw[q]
def aaW(K:Yv)(turn:LI->LI):Sp:=fun vs H Q _=>∃ (m r g:Qu) (n:Int) (many wide:Nat) (rows:LL) (signs:LI),vs=[.ref m,.int n]/\bI H m r g wide rows signs/\aF many wide rows/\signs.length=many/\1<=many /\
 (0<=n/\n<NB)/\(2<=(wide:Int)/\(wide:Int)<NB)/\∀ (H':Hp) (ds:LI),aB H H'->F7 wide n ds->Q (.int (signs.getD (aM rows (turn ds) 0).toNat 0)) H'
section
theorem HG(F:bG K "sign_down" "sign_down" sU dV f fd)(AW:bO P w K mg base "told" 2 ["machine","row"] [] (OI K))(AV:bO P w K mg base "figures" 4 ["number","wide"] [] (FP K)):
  bu P w K mg base eM 5 f fd ["machine","number"] (aaW K Qo):=by
 refine F.ok Ia #[7] #[2]
 ·obtain⟨m,r,g,n,many,wide,rows,signs,rfl,_⟩:=h
  rfl
 obtain⟨m,r,g,n,many,wide,rows,signs,rfl,M,R,hl,h1,hn,hw,k⟩:=h
 refine⟨_,(ao (aL (bC AW hr (aa (pv 0) (aa (SA acH (bC AV hr (aa (pv 1) (aa #[17] af))) HQ HQ (P9 (aan OW aq))) af))))),?_⟩
 refine⟨_,rfl,_,rfl,_,rfl,m,_,_,_,rfl,rfl,cj M.tup,rfl,n,wide,rfl,hn,hw,fun t H' ds s1 ht F' hl'=>?_⟩
 refine⟨_,rfl,_,rfl,t,_,-1,rfl,rfl,cj ht,by decide,?_,fun c=>absurd c #[8],fun p hp=>?_⟩
 ·rw[BW,ZI,bb]
  exact ji hl' #[8]
 rw[BW,<- QY]
 have s2:=s1.trans (ak hp (HO.tup (ds.reverse.map V.int)))
 exact⟨m,r,g,p,many,wide,rows,signs,ds.reverse,rfl,M.same fun b xs e=>s2 _ _ e,R,hl,h1,.inr (cj ae),(fun z hz=>F'.inb z (zS.mp hz)),k _ ds s2 F'⟩
end
theorem J2{w:Int}(hw:2<=w):∀ {ds es:LI} {n:Int},F7 w n ds->F7 w n es->ds=es
 | [],[],_,_,_=>rfl
 | [],e :: es,n,h,h'=>by
  exfalso
  have z:dE w (e :: es)=0:=h'.val.trans h.val.symm
  exact no_zero hw h' z
 | d :: ds,[],n,h,h'=>by
  exfalso
  have z:dE w (d :: ds)=0:=h.val.trans h'.val.symm
  exact no_zero hw h z
 | d :: ds,e :: es,n,h,h'=>by
  have hd:=h.inb d jE
  have he:=h'.inb e jE
  have v1:d+w*dE w ds=n:=h.val
  have v2:e+w*dE w es=n:=h'.val
  have e1:n%w=d:=by rw[<- v1,ZS];exact QP hd.1 hd.2
  have e2:n%w=e:=by rw[<- v2,ZS];exact QP he.1 he.2
  have ede:d=e:=e1.symm.trans e2
  have ev:dE w ds=dE w es:=by
   have:w*dE w ds=w*dE w es:=by omega
   exact Int.eq_of_mul_eq_mul_left #[0] this
  have t1:F7 w (dE w ds) ds:=⟨h.inb.tail,rfl,fun x hx=>by
   cases ds with
   | nil=>cases hx
   | cons a r=>exact h.top x (by rw[zk];exact hx)⟩
  have t2:F7 w (dE w ds) es:=⟨h'.inb.tail,ev.symm,fun x hx=>by
   cases es with
   | nil=>cases hx
   | cons a r=>exact h'.top x (by rw[zk];exact hx)⟩
  rw[ede,J2 hw t1 t2]
where
 no_zero {w:Int} (hw:2<=w):∀ {es:LI} {e n:Int},F7 w n (e :: es)->dE w (e :: es)=0->False
 | [],e,n,h,z=>by
  have:e+w*0=0:=z
  exact h.top e rfl #[0]
 | a :: r,e,n,h,z=>by
  have hz:e+w*dE w (a :: r)=0:=z
  have he:=h.inb e jE
  have hv:=BZ (by omega:(0:Int)<=w) h.inb.tail
  have:0<=w*dE w (a :: r):=Zs #[0] hv
  have z2:w*dE w (a :: r)=0:=by omega
  have z3:dE w (a :: r)=0:=by
   rcases Int.mul_eq_zero.mp z2 with q|q
   ·omega
   ·exact q
  exact no_zero hw (es:=r) (e:=a) (n:=dE w (a :: r)) ⟨h.inb.tail,rfl,fun x hx=>h.top x (by rw[zk];exact hx)⟩ z3
theorem Ay{q k:Nat}{r:LI}(h:bz q m (r :: rs)=some k):q<m/\∃ m1,aR m r=some m1/\bz (q+1) m1 rs=some k:=by
 unfold bz at h
 by_cases c:q<m
 ·rw[if_pos c]at h
  cases e:aR m r with
  | none=>rw[e]at h;cases h
  | some m1=>rw[e]at h;exact⟨c,m1,rfl,h⟩
 ·rw[if_neg c]at h
  cases h
theorem SX{f:Int}:aM rows (v++[f]) 0=stepI rows (aM rows v 0) f:=by
 rw[bN]
 rfl
theorem wF{P:Int->Prop}:∀ {r:LI} {m m1:Nat},aR m r=some m1->(∀ i:Nat,i<m->P (i:Int))->(∀ t∈r,P t)->∀ i:Nat,i<m1->P (i:Int)
 | [],m,m1,h,hm,_=>by
  have e:m=m1:=Option.some.inj h
  subst e
  exact hm
 | t :: r,m,m1,h,hm,ht=>by
  have h':#[49]=some m1:=h
  have S8:∀ t∈r,P t:=fun x hx=>ht x (jK _ hx)
  by_cases c:t=(m:Int)
  ·rw[if_pos c]at h'
   refine wF h' (fun i hi=>?_) S8
   by_cases d:i=m
   ·rw[d,<- c];exact ht t jE
   ·exact hm i #[0]
  ·rw[if_neg c]at h'
   by_cases d:t<(m:Int)
   ·rw[if_pos d]at h'
    exact wF h' hm S8
   ·rw[if_neg d]at h'
    cases h'
theorem BU{P:Int->Prop}:∀ {rs:LL} {q m k:Nat},bz q m rs=some k->(∀ i:Nat,i<m->P (i:Int))->(∀ (j:Nat) (r:LI),rs[j]?=some r->P ((q+j:Nat):Int)->∀ t∈r,P t)->∀ i:Nat,i<k->P (i:Int)
 | [],q,m,k,h,hm,_=>by
  have e:m=k:=Option.some.inj h
  subst e
  exact hm
 | r :: rs,q,m,k,h,hm,hr=>by
  obtain⟨c,m1,o1,o2⟩:=Ay h
  refine BU o2 (wF o1 hm (hr 0 r rfl (hm q c))) fun j r' hj hp=>hr (j+1) r' hj ?_
  rw[show q+(j+1)=q+1+j by omega]
  exact hp
theorem dy.lX(R:aF rows.length wide rows)(O:dy rows):∀ i:Nat,i<rows.length->∃ v,ou wide v/\aM rows v 0=(i:Int):=by
 refine BU (P:=fun q=>∃ v,ou wide v/\aM rows v 0=q) O (fun i hi=>⟨[],(fun f hf=>by cases hf),by rw[show i=0 by omega];rfl⟩) ?_
 rintro j r hj ⟨v,hv,e⟩ t ht
 rw[Je]at e
 obtain⟨f,hf,ef⟩:=jk ht
 have lr:r.length=wide:=R.row r (oY hj)
 refine⟨v++[(f:Int)],fun g hg=>?_,?_⟩
 ·rcases tT.mp hg with z|z
  ·exact hv g z
  ·rw[jJ.mp z];omega
 ·rw[SX,e]
  have er:rows.getD j []=r:=by rw[jQ,hj];rfl
  unfold stepI
  rw[jB,jB,er,getD_at hf,ef]
theorem Tells.on(h:Tells wide rows au signs az a b)(hv:ou wide v):Tells wide rows au signs az (aM rows v a) (aM au v b):=fun u hu=>by
 have:=h (v++u) fun f hf=>by
  rcases tT.mp hf with z|z
  ·exact hv f z
  ·exact hu f z
 rw[bN,bN]at this
 exact this
theorem cH.Hr(h:cH wide rows au signs az)(R:aF many wide rows)(m0:1<=many):au.length<=many:=by
 have ex:∀ i:Nat,∃ p:Int,i<au.length->(0<=p/\p<(many:Int))/\Tells wide rows au signs az p (i:Int):=fun i=>by
  by_cases c:i<au.length
  ·obtain⟨v,hv,ew⟩:=h.ord.lX h.ok i c
   refine⟨aM rows v 0,fun _=>⟨dH R hv #[0] #[0],?_⟩⟩
   have:=Tells.on h.tells hv
   rw[ew]at this
   exact this
  ·exact⟨0,fun z=>absurd z c⟩
 obtain⟨F,hF⟩:=Classical.axiomOfChoice ex
 have nd:((jO au.length).map F).Nodup:=Jv.mpr (List.nodup_range.imp_of_mem fun {a b} ha hb ne z=>ne (by
  have ia:=jq.mp ha
  have ib:=jq.mp hb
  have ta:=(hF a ia).2
  have tb:=(hF b ib).2
  rw[z]at ta
  have:=h.apart (a:Int) (b:Int) ⟨by omega,by omega⟩ ⟨by omega,by omega⟩ (Tells.right ta tb)
  omega))
 have:=bS many nd fun q hq=>by
  obtain⟨i,hi,rfl⟩:=jN.mp hq
  exact(hF i (jq.mp hi)).1
 rw[bb,jT]at this
 exact this
theorem Fi:∀ r:LI,qP (O4 K H 0) (r.map V.int) (r.map V.int)
 | []=>.nil
 | i :: r=>.cons ⟨i,rfl,rfl⟩ (Fi r)
theorem LR:∀ {rows:LL} {as bs:List Qu},aJ H as rows->aJ H bs rows->qP (O4 K H 1) (as.map V.ref) (bs.map V.ref)
 | [],as,bs,h,h'=>by
  cases h
  cases h'
  exact .nil
 | r :: rows,as,bs,h,h'=>by
  cases h with
  | cons h t =>
   cases h' with
   | cons h' t'=>exact .cons (.inr ⟨_,_,_,_,rfl,rfl,cj h,cj h',Fi r⟩) (LR t t')
theorem Fh:∀ r:LI,qP (O4 K H 1) (r.map V.int) (r.map V.int)
 | []=>.nil
 | i :: r=>.cons (.inl ⟨i,rfl,rfl⟩) (Fh r)
theorem bI.eqD{m r g m' r' g':Qu}(M:bI H m r g wide rows signs)(M':bI H m' r' g' wide rows signs):qP (O4 K H 2) [.int wide,.ref r,.ref g] [.int wide,.ref r',.ref g']:=by
 obtain⟨cS,h1,h2⟩:=M.rows
 obtain⟨sM,Dr,Cs⟩:=M'.rows
 exact .cons (.inl ⟨_,rfl,rfl⟩) (.cons (.inr ⟨_,_,_,_,rfl,rfl,cj h1,cj Dr,LR h2 Cs⟩) (.cons (.inr ⟨_,_,_,_,rfl,rfl,cj M.sgn,cj M'.sgn,Fh signs⟩) .nil))
section
variable[DecidableEq α]
def LG(st:α->Nat->α)(b:α)(v:LI):α:=v.foldl (fun p f=>st p f.toNat) b
theorem aav(st:α->Nat->α)(b:α)(v:LI)(f:Int):LG st b (v++[f])=st (LG st b v) f.toNat:=by
 unfold LG
 rw[JQ]
 rfl
structure Ek(st:α->Nat->α)(b:α)(wide:Nat)(ps:List α)(rows:LL):Prop where
 nd:ps.Nodup
 hd:ps[0]?=some b
 le:rows.length<=ps.length
 row:∀ (i:Nat) (r:LI),rows[i]?=some r->r.length=wide
 to:∀ (i:Nat) (r:LI) (f:Nat) (t:Int),rows[i]?=some r->r[f]?=some t->∃ (n:Nat) (p:α),t=(n:Int)/\ps[i]?=some p/\ps[n]?=some (st p f)
 ord:bz 0 1 rows=some ps.length
 re:∀ p∈ps,∃ v,ou wide v/\LG st b v=p
structure B0(st:α->Nat->α)(b:α)(wide:Nat)(ps:List α)(rows:LL)(p:α)(r:LI):Prop where
 nd:ps.Nodup
 hd:ps[0]?=some b
 at_:ps[rows.length]?=some p
 row:∀ (i:Nat) (r:LI),rows[i]?=some r->r.length=wide
 to:∀ (i:Nat) (r:LI) (f:Nat) (t:Int),rows[i]?=some r->r[f]?=some t->∃ (n:Nat) (p:α),t=(n:Int)/\ps[i]?=some p/\ps[n]?=some (st p f)
 now:∀ (f:Nat) (t:Int),r[f]?=some t->∃ n:Nat,t=(n:Int)/\ps[n]?=some (st p f)
 ord:∃ m,bz 0 1 rows=some m/\rows.length<m/\aR m r=some ps.length
 re:∀ p∈ps,∃ v,ou wide v/\LG st b v=p
variable{st:α->Nat->α}{b:α}{ps:List α}{p:α}{r:LI}
theorem og:∀ {r:LI} {m k:Nat} {t:Int},aR m r=some k->aR m (r++[t])=if t=(k:Int)then some (k+1)else if t<(k:Int)then some k else none
 | [],m,k,t,h=>by
  have e:m=k:=Option.some.inj h
  subst e
  rfl
 | x :: r,m,k,t,h=>by
  have h':(if x=(m:Int)then aR (m+1) r else if x<(m:Int)then aR m r else none)=some k:=h
  show(if x=(m:Int)then aR (m+1) (r++[t])else if x<(m:Int)then aR m (r++[t])else none)=_
  by_cases c:x=(m:Int)
  ·rw[if_pos c]at h' ⊢;exact og h'
  ·rw[if_neg c]at h' ⊢
   by_cases d:x<(m:Int)
   ·rw[if_pos d]at h' ⊢;exact og h'
   ·rw[if_neg d]at h';cases h'
theorem Ax:∀ {rs:LL} {q m k:Nat} {r:LI} {k':Nat},bz q m rs=some k->q+rs.length<k->aR k r=some k'->bz q m (rs++[r])=some k'
 | [],q,m,k,r,k',h,hq,hr=>by
  have e:m=k:=Option.some.inj h
  subst e
  show(if q<m then(aR m r).bind fun m'=>bz (q+1) m' []else none)=some k'
  rw[if_pos (by simpa using hq),hr]
  rfl
 | x :: rs,q,m,k,r,k',h,hq,hr=>by
  obtain⟨c,m1,o1,o2⟩:=Ay h
  show(if q<m then(aR m x).bind fun m'=>bz (q+1) m' (rs++[r])else none)=some k'
  rw[if_pos c,o1]
  exact Ax o2 (by rw[jc]at hq;omega) hr
theorem Ek.start(st:α->Nat->α)(b:α)(wide:Nat):Ek st b wide [b] []:=
 ⟨JE.mpr ⟨by simp,Jx⟩,rfl,je _,(fun i r h=>by cases h),(fun i r f t h=>by cases h),rfl,fun p hp=>⟨[],(fun f hf=>by cases hf),by rw[jJ.mp hp];rfl⟩⟩
theorem Ek.next(g:Ek st b wide ps rows)(h:ps[rows.length]?=some p):B0 st b wide ps rows p []:=
 ⟨g.nd,g.hd,h,g.row,g.to,(fun f t h=>by cases h),⟨ps.length,g.ord,(fV h).1,rfl⟩,g.re⟩
theorem B0.old(g:B0 st b wide ps rows p r)(h:ps[n]?=some (st p r.length)):B0 st b wide ps rows p (r++[(n:Int)]):=by
 obtain⟨m,o1,o2,o3⟩:=g.ord
 have nl:=(fV h).1
 refine⟨g.nd,g.hd,g.at_,g.row,g.to,fun f t hf=>?_,⟨m,o1,o2,?_⟩,g.re⟩
 ·rcases snoc_cases hf with z|⟨rfl,rfl⟩
  ·exact g.now f t z
  ·exact⟨n,rfl,h⟩
 ·rw[og o3,if_neg #[0],if_pos #[0]]
theorem B0.new(g:B0 st b wide ps rows p r)(hw:r.length<wide)(h:st p r.length∉ps):B0 st b wide (ps++[st p r.length]) rows p (r++[(ps.length:Int)]):=by
 obtain⟨m,o1,o2,o3⟩:=g.ord
 have up:∀ (n:Nat) (x:α),ps[n]?=some x->(ps++[st p r.length])[n]?=some x:=fun n x hx=>by
  rw[JB (fV hx).1]
  exact hx
 refine⟨nd_snocA g.nd h,up _ _ g.hd,up _ _ g.at_,g.row,fun i r' f t h1 h2=>?_,fun f t hf=>?_,⟨m,o1,o2,?_⟩,fun x hx=>?_⟩
 ·obtain⟨n,q,e1,e2,e3⟩:=g.to i r' f t h1 h2
  exact⟨n,q,e1,up _ _ e2,up _ _ e3⟩
 ·rcases snoc_cases hf with z|⟨rfl,rfl⟩
  ·obtain⟨n,e1,e2⟩:=g.now f t z
   exact⟨n,e1,up _ _ e2⟩
  ·exact⟨ps.length,rfl,by rw[JM (jF _),zN];rfl⟩
 ·rw[og o3,if_pos rfl,jL,js]
 ·rcases tT.mp hx with z|z
  ·exact g.re x z
  ·obtain⟨v,hv,e⟩:=g.re p (oY g.at_)
   refine⟨v++[(r.length:Int)],fun f hf=>?_,?_⟩
   ·rcases tT.mp hf with y|y
    ·exact hv f y
    ·rw[jJ.mp y];omega
   ·rw[aav,e,jB,jJ.mp z]
where
 nd_snocA {xs:List α} {x:α} (h:xs.Nodup) (n:x∉xs):(xs++[x]).Nodup:=
  JU.mpr ⟨h,JE.mpr ⟨by simp,Jx⟩,fun a ha c hc e=>n (by rw[<- jJ.mp hc,<- e];exact ha)⟩
theorem B0.done(g:B0 st b wide ps rows p r)(hw:r.length=wide):Ek st b wide ps (rows++[r]):=by
 obtain⟨m,o1,o2,o3⟩:=g.ord
 have lt:=(fV g.at_).1
 refine⟨g.nd,g.hd,by rw[jL,js];omega,fun i r' h=>?_,fun i r' f t h1 h2=>?_,Ax o1 #[0] o3,g.re⟩
 ·rcases snoc_cases h with z|⟨_,rfl⟩
  ·exact g.row i r' z
  ·exact hw
 ·rcases snoc_cases h1 with z|⟨rfl,rfl⟩
  ·exact g.to i r' f t z h2
  ·obtain⟨n,e1,e2⟩:=g.now f t h2
   exact⟨n,p,e1,g.at_,e2⟩
theorem Ek.ok(g:Ek st b wide ps rows)(h:rows.length=ps.length):aF rows.length wide rows:=by
 refine⟨rfl,fun r hr=>?_,fun r hr v hv=>?_⟩
 ·obtain⟨i,hi,e⟩:=jk hr
  exact g.row i r (by rw[jC hi,e])
 ·obtain⟨i,hi,e⟩:=jk hr
  obtain⟨f,hf,ef⟩:=jk hv
  obtain⟨n,p,e1,_,e3⟩:=g.to i r f v (by rw[jC hi,e]) (by rw[jC hf,ef])
  have:=(fV e3).1
  omega
theorem Ek.order(g:Ek st b wide ps rows)(h:rows.length=ps.length):dy rows:=by
 unfold dy
 rw[g.ord,h]
theorem Ek.walk(g:Ek st b wide ps rows)(h:rows.length=ps.length):∀ (v:LI) (n:Nat) (p:α),ou wide v->ps[n]?=some p->∃ k:Nat,aM rows v (n:Int)=(k:Int)/\ps[k]?=some (v.foldl (fun p f=>st p f.toNat) p)
 | [],n,p,_,hp=>⟨n,rfl,hp⟩
 | f :: v,n,p,hv,hp=>by
  have hf:=hv f jE
  have nl:=(fV hp).1
  have nr:n<rows.length:=by omega
  have lr:=g.row n _ (jC nr)
  have fl:f.toNat<(rows[n]).length:=by omega
  obtain⟨k,q,e1,e2,e3⟩:=g.to n _ f.toNat _ (jC nr) (jC fl)
  rw[hp]at e2
  have eq:=Option.some.inj e2
  subst eq
  obtain⟨j,e4,e5⟩:=g.walk h v k _ (fun x hx=>hv x (jK _ hx)) e3
  refine⟨j,?_,e5⟩
  show aM rows v (stepI rows (n:Int) f)=_
  unfold stepI
  rw[jB,getD_at nr,getD_at fl,e1]
  exact e4
theorem Ek.told(g:Ek st b wide ps rows)(h:rows.length=ps.length)(hv:ou wide v):∃ k:Nat,aM rows v 0=(k:Int)/\ps[k]?=some (LG st b v):=g.walk h v 0 b hv g.hd
end
def cY(rows:LL)(u:LI)(f:Nat):LI:=(jO rows.length).map fun q:Nat=>u.getD (stepI rows (q:Int) (f:Int)).toNat 0
theorem Me(rows:LL)(u:LI)(f:Nat):(cY rows u f).length=rows.length:=by
 unfold cY
 rw[bb,jT]
theorem acS{f:Nat}(R:aF rows.length wide rows)(hq:0<=q/\q<(rows.length:Int)):sgn (cY rows u f) q=sgn u (stepI rows q (f:Int)):=by
 unfold sgn cY
 rw[getD_at (by rw[bb,jT];omega),JC,JV,jm hq.1]
theorem pY(R:aF rows.length wide rows):∀ (v:LI) (u:LI) (q:Int),ou wide v->(0<=q/\q<(rows.length:Int))->sgn (v.foldl (fun p f=>cY rows p f.toNat) u) q=sgn u (aM rows v.reverse q)
 | [],_,_,_,_=>rfl
 | f :: v,u,q,hv,hq=>by
  have hf:=hv f jE
  have hv':ou wide v:=fun x hx=>hv x (jK _ hx)
  have hr:ou wide v.reverse:=fun x hx=>hv' x (zS.mp hx)
  have wi:=dH R hr hq.1 hq.2
  show sgn (v.foldl (fun p f=>cY rows p f.toNat) (cY rows u f.toNat)) q=_
  rw[pY R v _ q hv' hq,acS R wi,ZV,bN,jm hf.1]
  rfl
theorem Ru{u':LI}(l:u.length=n)(l':u'.length=n)(h:∀ q:Nat,q<n->sgn u (q:Int)=sgn u' (q:Int)):u=u' := by
 refine Jj #[0] fun i h1 h2=>?_
 have:=h i #[0]
 unfold sgn at this
 rw[jB,getD_at h1,getD_at h2]at this
 exact this
theorem oq:∀ (v u:LI),u.length=rows.length->(v.foldl (fun p f=>cY rows p f.toNat) u).length=rows.length
 | [],u,h=>h
 | f :: v,u,_=>oq v _ (Me _ _ _)
structure iI(wide:Nat)(rows au:LL)(signs az:LI):Prop where
 ok:aF au.length wide au
 pos:0<au.length
 sgn:az.length=au.length
 ord:dy au
 apart:Apart wide au az
 turned:∀ v,ou wide v->My.sgn signs (aM rows v.reverse 0)=My.sgn az (aM au v 0)
theorem acT(R:aF rows.length wide rows)(n0:0<rows.length)(ls:signs.length=rows.length)(O:dy rows)(g:Ek (cY rows) signs wide ps au)(h:au.length=ps.length):
  iI wide rows au signs (ps.map fun u=>u.getD 0 0):=by
 have p0:0<ps.length:=(fV g.hd).1
 have sg:∀ (k:Nat) (u:LI),ps[k]?=some u->My.sgn (ps.map fun u=>u.getD 0 0) (k:Int)=My.sgn u 0:=fun k u hk=>by
  have kl:=(fV hk)
  unfold My.sgn
  rw[jB,getD_at (by rw[bb];exact kl.1),JC,kl.2]
  rfl
 have z0:0<=(0:Int)/\(0:Int)<(rows.length:Int):=⟨by omega,by omega⟩
 refine⟨g.ok h,by omega,by rw[bb];omega,g.order h,fun a b ha hb ag=>?_,fun v hv=>?_⟩
 ·obtain⟨a,rfl⟩:=mD ha.1
  obtain⟨b,rfl⟩:=mD hb.1
  have la:a<ps.length:=by have:=ha.2;omega
  have lb:b<ps.length:=by have:=hb.2;omega
  obtain⟨va,hva,ea⟩:=g.re _ (jG la)
  obtain⟨vb,hvb,eb⟩:=g.re _ (jG lb)
  have l1:ps[a].length=rows.length:=by rw[<- ea];exact oq va _ ls
  have l2:ps[b].length=rows.length:=by rw[<- eb];exact oq vb _ ls
  have e:ps[a]=ps[b]:=Ru l1 l2 fun q hq=>by
   obtain⟨w,hw,ew⟩:=O.lX R q hq
   have hr:ou wide w.reverse:=fun x hx=>hw x (zS.mp hx)
   have:=ag w.reverse.length w.reverse hr (jF _)
   obtain⟨k1,x1,y1⟩:=g.walk h w.reverse a _ hr (jC la)
   obtain⟨k2,x2,y2⟩:=g.walk h w.reverse b _ hr (jC lb)
   rw[x1,x2,sg _ _ y1,sg _ _ y2,pY R _ _ 0 hr z0,pY R _ _ 0 hr z0,zT,ew]at this
   exact this
  have:=(JT g.nd).mp e
  omega
 ·obtain⟨k,e1,e2⟩:=g.told h hv
  rw[e1,sg _ _ e2]
  show _=My.sgn (v.foldl (fun p f=>cY rows p f.toNat) signs) 0
  rw[pY R v _ 0 hv z0]
structure abo(K:Yv)(C:Qu):Prop where
 cl:Io K C
 ns:iZ K C "signs"
 nc:iZ K C "columns"
structure Mq(H:Hp)(C x g:Qu)(wide:Nat)(rows:LL)(signs:LI):Prop where
 ob:∃ (dx cl:Qu) (cs:List Qu),H x=some (.ins C dx [("signs",.ref g),("columns",.ref cl)])/\H cl=some (.lst (cs.map V.ref))/\aJ H cs (mW rows wide)
 sg:H g=some (.tup (signs.map V.int))
theorem Mq.same{x g:Qu}(h:Mq H C x g wide rows signs)(s:aB H H'):Mq H' C x g wide rows signs:=by
 obtain⟨dx,cl,cs,h1,h2,h3⟩:=h.ob
 exact⟨⟨dx,cl,cs,s _ _ h1,s _ _ h2,h3.same fun b xs e=>s _ _ e⟩,s _ _ h.sg⟩
theorem Tu{f:Nat}(R:aF rows.length wide rows):((rows.map fun r=>r.getD f 0).map fun t=>u.getD t.toNat 0)=cY rows u f:=by
 unfold cY
 refine Jj #[11] fun i h1 h2=>?_
 have hi:i<rows.length:=by simpa using h1
 simp only[JC,JV]
 unfold stepI
 rw[jB,jB,getD_at hi]
def Rc(C:Qu):Sp:=fun vs H Q _=>∃ (x dx m r g:Qu) (wide:Nat) (rows:LL) (signs:LI),vs=[.ref x,.ref m]/\H x=some (.ins C dx [])/\bI H m r g wide rows signs/\aF rows.length wide rows/\(rows.length<=1000/\wide<=1000) /\
 ∀ H':Hp,(∀ c u,c≠x->H c=some u->H' c=some u)->Mq H' C x g wide rows signs->Q .non H'
def L9(C:Qu):Sp:=fun vs H Q _=>∃ (x g:Qu) (wide:Nat) (rows:LL) (signs:LI),vs=[.ref x]/\Mq H C x g wide rows signs/\Q (.ref g) H
def Rg(C:Qu):Sp:=fun vs H Q _=>∃ (x g b:Qu) (f wide:Nat) (rows:LL) (signs u:LI),vs=[.ref x,.ref b,.int f]/\Mq H C x g wide rows signs/\aF rows.length wide rows/\(rows.length<=1000/\f<wide)/\H b=some (.tup (u.map V.int))/\u.length=rows.length /\
 ∀ (T:Qu) (H':Hp),aB H H'->H' T=some (.tup ((cY rows u f).map V.int))->Q (.ref T) H'
def Rf:Sp:=fun vs H Q _=>∃ (x b:Qu) (u:LI),vs=[.ref x,.ref b]/\H b=some (.tup (u.map V.int))/\0<u.length/\Q (.int (u.getD 0 0)) H
section
theorem tU:aH ["self","machine"] ["self","machine"] (av fj):=cW #[3]
theorem Bv:aH ["self"] ["self"] (av lG):=cW #[3]
theorem Cj:aH ["self","place","figure"] ["self","place","figure"] (av fY):=cW #[3]
theorem mU:aZ ["self","place","figure"] (av fY) ["there","place"] [none,some 1] ⟨.function,[#[60],("there",.local),("place",.free)],false,false,[]⟩:=mC #[3]
theorem Ci:aH ["self","place"] ["self","place"] (av mH):=cW #[3]
theorem Z8(F:bG K "__init__" "Turning.__init__" fj dV f fd)(tc:abo K C)(eh:bO P w K mg base "columns_of" 1 ["machine"] [] (OH K)):bu P w K mg base eM 2 f fd ["self","machine"] (Rc C):=by
 refine F.ok tU #[7] #[2]
 ·obtain⟨x,dx,m,r,g,wide,rows,signs,rfl,_⟩:=h
  rfl
 obtain⟨x,dx,m,r,g,wide,rows,signs,rfl,hx,M,R,bd,k⟩:=h
 refine⟨_,(ah (Br (pv 0) (aN aO (pv 1) aq #[5]) rfl)
   (ao (Br (pv 0) (bC eh hr (aa (pv 1) af)) rfl))),?_⟩
 refine⟨_,rfl,m,_,_,_,rfl,rfl,cj M.tup,rfl,_,rfl,x,C,dx,[],rfl,hx,tc.cl,tc.ns,by decide,?_⟩
 have up:∀ b xs,H b=some #[42]->(upd H x (.ins C dx [("signs",.ref g)])) b=some #[42]:=fun b xs e=>by
  rw[aj (aG e hx #[1])];exact e
 refine⟨_,rfl,m,r,g,rows.length,wide,rows,signs,rfl,M.same up,R,bd,fun l cs H1 s1 hl hc=>?_⟩
 have Ml:=s1 _ _ (ae (H:=H) (a:=x) (o:=HO.ins C dx [("signs",.ref g)]))
 refine⟨_,rfl,x,C,dx,_,rfl,Ml,tc.cl,tc.nc,by show 1<1000;decide,?_⟩
 have nlx:l≠x:=aG hl Ml #[1]
 have up2:∀ b xs,H1 b=some #[42]->(upd H1 x (.ins C dx [("signs",.ref g),("columns",.ref l)])) b=some #[42]:=fun b xs e=>by
  rw[aj (aG e Ml #[1])];exact e
 refine k _ (fun c u Pw e=>?_) ⟨⟨dx,l,cs,ae,by rw[aj nlx];exact hl,hc.same up2⟩,up2 _ _ (s1 _ _ (up _ _ M.sgn))⟩
 rw[aj Pw]
 exact s1 _ _ (by rw[aj Pw];exact e)
theorem Su(F:bG K "begin" "Turning.begin" lG dV f fd)(tc:abo K C):bu P w K mg base eM 1 f fd ["self"] (L9 C):=by
 refine F.ok Bv #[7] #[2]
 ·obtain⟨x,g,wide,rows,signs,rfl,_⟩:=h
  rfl
 obtain⟨x,g,wide,rows,signs,rfl,T,q⟩:=h
 obtain⟨dx,cl,cs,hx,_,_⟩:=T.ob
 exists _,(ao (aL (dP (pv 0) rfl)))
 exact⟨_,rfl,x,C,dx,_,_,rfl,hx,tc.cl,tc.ns,rfl,q⟩
theorem aaa(F:bG K "step" "Turning.step" fY dV f fd)(tc:abo K C)(aK:mg "tuple" = none):bu P w K mg base eM 1 f fd ["self","place","figure"] (Rg C):=by
 refine F.ok Cj #[7] #[2]
 ·obtain⟨x,g,b,fg,wide,rows,signs,u,rfl,_⟩:=h
  rfl
 obtain⟨x,g,b,fg,wide,rows,signs,u,rfl,T,R,⟨n1,f1⟩,hb,lu,k⟩:=h
 obtain⟨dx,cl,cs,hx,Px,Py⟩:=T.ob
 have lc:(mW rows wide).length=wide:=by unfold mW;rw[bb,jT]
 obtain⟨ca,e1,e2⟩:=Py.get (i:=fg) #[0]
 have ec:(mW rows wide)[fg]'#[0]=rows.map fun r=>r.getD fg 0:=by simp only[mW,JC,JV]
 rw[ec]at e2
 have ats:tW (cs.map V.ref) (fg:Int)=some (.ref ca):=iJ #[0] (by rw[jB];exact e1)
 refine⟨_,(ao (aL (aW aP #[41] aK bH (aa (cM rfl mU (lF (aN dS (dP (pv 0) rfl) (pv 2) #[5])) (fun _ _ _ _=>(aS (i:=0) mU.nd)) (fun _ _ _ _=>(aN (mZ K) (pv 1) (pv 0) #[5]))) af)))),?_⟩
 exists _,rfl,x,C,dx,_,_,rfl,hx,tc.cl,tc.nc,rfl,_,rfl,cl,_,_,_,rfl,rfl,bZ Px,ats,ca,rfl,⟨_,cj e2⟩
 refine rX (K:=K) (xs:=(rows.map fun r=>r.getD fg 0).map V.int) (fun D i ys H'=>aB H H'/\ys=(((rows.map fun r=>r.getD fg 0).take i).map fun t=>u.getD t.toNat 0).map V.int) (fun D hD=>⟨ak hD _,rfl⟩) (fun D i ys H' _ ⟨e,_⟩=>cj (e _ _ e2)) ?_ ?_
 ·rintro D i y ys H1 Q' hD hi hy ⟨s1,rfl⟩ k'
  obtain⟨t,rfl,ht⟩:=bw hi
  have il:=(fV ht).1
  rw[bb]at il
  have tm:=oY ht
  obtain⟨r,mP,rfl⟩:=jN.mp tm
  have lr:=R.row r mP
  have ti:=R.val r mP (r.getD fg 0) (by rw[getD_at #[0]];exact jG _)
  refine⟨_,rfl,_,rfl,b,_,_,_,rfl,rfl,cj (s1 _ _ hb),cu ti.1 #[0],k' _ _ hy (ay (by rw[bb,bb,jX,bb];omega)) ⟨ax s1 hD,?_⟩⟩
  rw[jW,ht,jD,jD]
  rfl
 ·rintro D ys H1 hD hy ⟨s1,rfl⟩
  rw[bb,jY,Tu R]at hy
  refine⟨D,_,rfl,.inl ⟨bZ hy,fun T' hT=>?_⟩⟩
  exact k T' _ (s1.trans (ak hT _)) ae
theorem Z9(F:bG K "sign" "Turning.sign" mH dV f fd):bu P w K mg base eM 1 f fd ["self","place"] Rf:=by
 refine F.ok Ci #[7] #[2]
 ·obtain⟨x,b,u,rfl,_⟩:=h
  rfl
 obtain⟨x,b,u,rfl,hb,hu,k⟩:=h
 refine⟨_,(ao (aL (aN aO (pv 1) aq #[5]))),?_⟩
 exact⟨_,rfl,b,_,_,_,rfl,rfl,cj hb,cu #[8] #[0],k⟩
end
def aaT(C:Qu):Sp:=fun vs H Q _=>∃ (x:Qu) (n:Int),vs=[.ref x,.int n]/\H x=some (.ext (lM x C))/\(n.natAbs.log2<1920/\(Str.ofString (toString n)).length<=1000) /\
 ∀ d,H d=none->d≠x->Q .non (upd (upd H x (.ext (fK x C d))) d (.xd [("most",.int n)]))
section
theorem sV:aH ["self","most"] ["self","most"] (av eJ):=cW #[3]
theorem ace(F:bG K "__init__" "TooGreat.__init__" eJ dV f fd)(M:BI K C f0)(na:yB K #[30] "most" = some none)(dJ:mg "FigureError" = some (.ref F0))(Dp:yt K (.ref F0) "__getattribute__" = some (some (.builtin "type.__getattribute__")))(DT:Xv K F0 (.type "type")=true)(Dj:Xw K (.ref F0) (.type "type") "__init__" = some (.val (.builtin "ValueError.__init__"))):bu P w K mg base eM 1 f fd ["self","most"] (aaT C):=by
 refine F.ok sV #[7] #[2]
 ·obtain⟨x,n,rfl,_⟩:=h
  rfl
 obtain⟨x,n,rfl,hx,⟨l1,l2⟩,k⟩:=h
 refine⟨_,(ah (bD (LA rfl dJ Dp DT Dj (aa (pv 0) (aa (aco (LD afg (LD (aff (pv 1)) acr))) af))))
   (ao (acw (pv 0) (pv 1)))),?_⟩
 refine⟨_,rfl,_,rfl,.inr ⟨n,rfl,l1,l2,fun z=>?_⟩⟩
 exists x,C,f0,_,rfl,hx,M.ex
 exact⟨_,rfl,_,rfl,x,C,f0,rfl,hx,M,na,fun d hd ne=>k d hd ne⟩
end
def so(u:LI):List Key:=u.map Sum.inl
theorem Dz(u:LI):(so u).map kV=u.map V.int:=by
 unfold so
 rw[JO]
 rfl
theorem Lb(h:so u=so v):u=v:=by
 have:=congrArg (List.map fun k:Key=>match k with|Sum.inl i=>i|Sum.inr _=>0) h
 unfold so at this
 rw[JO,JO]at this
 have e:∀ w:LI,w.map ((fun k:Key=>match k with|Sum.inl i=>i|Sum.inr _=>0) ∘ Sum.inl)=w:=fun w=>by
  show w.map (fun i=>i)=w
  exact List.map_id' w
 rw[e,e]at this
 exact this
def Ce(ps:LL)(k:Nat):List (List Key×V):=(ps.zipIdx k).map fun p=>(so p.1,V.int (p.2:Int))
theorem As(ps:LL)(k:Nat):(Ce ps k).length=ps.length:=by
 unfold Ce
 rw[bb,QK]
theorem DD:∀ {ps:LL} {k:Nat} {u:LI},u∉ps->eC (Ce ps k) (so u)=none
 | [],_,_,_=>rfl
 | p :: ps,k,u,h=>by
  rw[show Ce (p :: ps) k=(so p,V.int (k:Int)) :: Ce ps (k+1)from rfl,hV (fun z=>h (by rw[<- Lb z];exact jE))]
  exact DD fun z=>h (jK _ z)
theorem X0:∀ {ps:LL} {k n:Nat} {u:LI},ps.Nodup->ps[n]?=some u->eC (Ce ps k) (so u)=some (.int ((k+n:Nat):Int))
 | [],_,_,_,_,h=>by cases h
 | p :: ps,k,0,u,_,h=>by
  cases h
  exact mO rfl
 | p :: ps,k,n+1,u,nd,h=>by
  have PY:=JE.mp nd
  have h':ps[n]?=some u:=h
  rw[show Ce (p :: ps) k=(so p,V.int (k:Int)) :: Ce ps (k+1)from rfl,hV (fun z=>PY.1 (by rw[Lb z];exact oY h')),X0 PY.2 h']
  congr 3
  omega
theorem ab1(h:u∉ps):putK (Ce ps 0) (so u) (V.int (ps.length:Int))=Ce (ps++[u]) 0:=by
 rw[aaz _ (DD h)]
 unfold Ce
 rw[ZP,jD,Je]
 rfl
theorem ab0{p:List Key×V}(h:(Ce ps 0)[i]?=some p):∃ u,ps[i]?=some u/\p.1=so u:=by
 unfold Ce at h
 rw[jV,List.getElem?_zipIdx]at h
 cases e:ps[i]? with
 | none=>rw[e]at h;cases h
 | some u =>
  rw[e]at h
  cases h
  exact⟨u,rfl,rfl⟩
theorem ON{n:Int}(h0:0<=n)(h:n<10^18):n.natAbs.log2<1920/\(Str.ofString (toString n)).length<=1000:=by
 have hn:n.natAbs<10^18:=by
  have e:((n.natAbs:Nat):Int)=n:=Int.natAbs_of_nonneg h0
  have:((n.natAbs:Nat):Int)<((10^18:Nat):Int):=by rw[e];exact h
  exact Int.ofNat_lt.mp this
 constructor
 ·rcases zZ n.natAbs with z|z
  ·rw[z];decide
  ·exact(Qr #[0]).mpr (Jt hn #[8])
 ·have q:=int_text_length_le10 (a:=n) (k:=18) #[8] hn
  rw[ofString_length]
  omega
def LZ(C CT:Qu):Sp:=fun vs H Q E=>∃ (x g:Qu) (wide most:Nat) (rows:LL) (signs:LI),vs=[.ref x,.int wide,.int most]/\Mq H C x g wide rows signs/\aF rows.length wide rows/\signs.length=rows.length/\(0<rows.length/\rows.length<=1000)/\wide<=1000/\(1<=most/\most<=1000) /\
 (∀ (m' r' g':Qu) (au ps:LL) (H':Hp),aB H H'->bI H' m' r' g' wide au (ps.map fun u=>u.getD 0 0)->Ek (cY rows) signs wide ps au->au.length=ps.length->ps.length<=most->Q (.ref m') H') /\
 ∀ (d:Qu) (H':Hp) (ps:LL),aB H H'->H' d=some (.xd [("most",.int most)])->ps.Nodup->(∀ p∈ps,∃ v,ou wide v/\LG (cY rows) signs v=p)->most<ps.length->E (.ref CT) (some d) H'
section
theorem dj:aH ["walk","wide","most","begin","numbers","rows","level","fresh","place","row","figure","there","number"] ["walk","wide","most"] (av CF):=cW #[3]
theorem C3:aZ ["walk","wide","most","begin","numbers","rows","level","fresh","place","row","figure","there","number"] (av CF) ["place","walk"] [none,some 0] ⟨.function,[#[60],("place",.local),("walk",.free)],false,false,[]⟩:=mC #[3]
theorem Sl(F:bG K "grown" "grown" CF dV f fd)(CI:rL P w K mg base C "begin" 1 ["self"] (L9 C))(G0:rL P w K mg base C "step" 1 ["self","place","figure"] (Rg C))(F9:rL P w K mg base C "sign" 1 ["self","place"] Rf)(mR:adB P w K mg base "TooGreat" CT f0 1 ["self","most"] (aaT CT))(bj:mg "range" = none)(bh:mg "len" = none)(aK:mg "tuple" = none):bu P w K mg base (O0 P w) 3 f fd ["walk","wide","most"] (LZ C CT):=by
 refine F.aip dj #[7] #[2]
 ·obtain⟨x,g,wide,most,rows,signs,rfl,_⟩:=h
  rfl
 obtain⟨x,g,wide,most,rows,signs,rfl,T,R,ls,⟨n0,n1⟩,w1,⟨m0,m1⟩,k,kx⟩:=h
 have hu:=oW hr
 obtain⟨dx,cl,cs,hx,Px,Py⟩:=T.ob
 refine Mu (cE (B1.mk (aC (i:=3) dj.nd (Ot CI hr (pv 0))))
   (cE (B1.mk (aC (i:=4) dj.nd (aai hu (DN (pv 3) aq HR))))
   (cE (B1.mk (aC (i:=5) dj.nd (cf af)))
   (cE (B1.mk (aC (i:=6) dj.nd (cf (aa (pv 3) af))))
   (cE (B1.mk (mE PassesOwn.leaving (AD (pv 6) (fun _=>rfl)) (ah (aC (i:=7) dj.nd (cf af))
   (ah (bX PassesOwn.leaving rfl (cC (pv 6)) (aS (i:=8) dj.nd) (ah (aC (i:=9) dj.nd (cf af))
   (ah (bX PassesOwn.leaving rfl (cx rfl bj (aa (pv 1) af)) (aS (i:=10) dj.nd) (ah (aC (i:=11) dj.nd (FH G0 hr (pv 0) (aa (pv 8) (aa (pv 10) af))))
   (ah (aC (i:=12) dj.nd (aag hu (pv 4) (pv 11) ⟨rfl,rfl,rfl,rfl⟩))
   (ah (cz (aU ae1 (pv 12) afc (aY _)) (ah (aC (i:=12) dj.nd (aA RB #[41] bh bW (aa (pv 4) af)))
   (ah (cz (aU P4 (pv 12) (pv 2) (aY _)) (ao (SE mR hr rfl aa3 (aa (pv 2) af))) bg)
   (ah (AB hu (pv 4) (pv 11) (pv 12) rfl)
   (ao (bD (fA Yy Yz yA bE (pv 7) (aa (pv 11) af))))))) bg)
   (ao (bD (fA Yy Yz yA bE (pv 9) (aa (pv 12) af))))))))
   (ao (bD (fA Yy Yz yA bE (pv 5) (aa (aW aP #[41] aK bH (aa (pv 9) af)) af)))))))
   (ao (aC (i:=6) dj.nd (pv 7)))))))
   (OY (ai3 (ai4 (Ik (PEW.mk (pv 1)) (Ik (PEW.mk (aW aP #[41] aK bH (aa (pv 5) af))) (Ik (PEW.mk (aW aP #[41] aK bH (aa (cM rfl C3 (aar (pv 4)) (fun _ _ _ _=>(aS (i:=0) C3.nd)) (fun _ _ _ _=>(FH F9 hr (pv 1) (aa (pv 0) af)))) af))) afP))))))))))) ?_
 exists _,rfl,x,dx,_,rfl,hx,rfl,x,g,wide,rows,signs,rfl,T
 refine fun D hD=>?_
 have sD:=ak hD (HO.dT [])
 refine⟨_,rfl,ae,g,so signs,.int 0,rfl,by rw[Dz];exact sD _ _ T.sg,?_⟩
 obtain⟨H1,eH1⟩:∃ H1,upd (upd H D (HO.dT [])) D (HO.dT [(so signs,V.int 0)])=H1:=⟨_,rfl⟩
 have s1:aB H H1:=by rw[<- eH1];exact ax sD hD
 have hD1:H1 D=some (.dT (Ce [signs] 0)):=by rw[<- eH1,ae];rfl
 rw[eH1]
 refine⟨#[15],fun RR hRR=>?_⟩
 have sR:=ak hRR (HO.lst [])
 have nDR:D≠RR:=ar hD1 hRR
 refine⟨_,rfl,(by show 1<=sizeLine;decide),fun L0 hL0=>?_⟩
 obtain⟨H2,Ho⟩:∃ H2,upd (upd H1 RR (HO.lst [])) L0 (HO.lst [V.ref g])=H2:=⟨_,rfl⟩
 have Ta:aB H1 H2:=by rw[<- Ho];exact sR.trans (ak hL0 _)
 have hD2:=Ta _ _ hD1
 have akV:H2 RR=some (.lst []):=by rw[<- Ho,aj (ar ae hL0),ae]
 have hL2:H2 L0=some (.lst ([g].map V.ref)):=by rw[<- Ho,ae];rfl
 have s2:=s1.trans Ta
 have fRR:H RR=none:=s1.free hRR
 rw[Ho]
 exists 16
 refine eO (t:=pX _ _) (fun σ' H'=>∃ (ps au:LL) (cS:List Qu) (v6 v7 v8 v9 v10 v11 Cn:OV),σ'=[some (.ref x),some (.int wide),some (.int most),some (.ref g),some (.ref D),some (.ref RR),v6,v7,v8,v9,v10,v11,Cn]/\aB H H'/\H' D=some (.dT (Ce ps 0))/\H' RR=some (.lst #[50])/\aJ H' cS au/\Ek (cY rows) signs wide ps au/\ps.length<=most/\au.length=ps.length) ?_ (fun D' dU=>?_)
 rotate_left
 ·refine pZ (fun mm σ' H'=>∃ (ps au us:LL) (cS lv:List Qu) (L:Qu) (v7 v8 v9 v10 v11 Cn:OV),mm=most-au.length/\σ'=[some (.ref x),some (.int wide),some (.int most),some (.ref g),some (.ref D),some (.ref RR),some (.ref L),v7,v8,v9,v10,v11,Cn]/\aB H H'/\H' D=some (.dT (Ce ps 0))/\H' RR=some (.lst #[50])/\aJ H' cS au/\Ek (cY rows) signs wide ps au/\ps.length<=most/\H' L=some (.lst (lv.map V.ref))/\RR≠L/\aJ H' lv us/\ps.drop au.length=us)
   ⟨_,[signs],[],[signs],[],[g],L0,none,none,none,none,none,none,rfl,rfl,s2,hD2,akV,.nil,Ek.start _ _ _,m0,hL2,ar ae hL0,.cons (s2 _ _ T.sg) .nil,rfl⟩ ?_
  rintro mm σ' H3 ⟨ps,au,us,cS,lv,L,v7,v8,v9,v10,v11,Cn,rfl,rfl,s3,Cc,hR3,A3,G,le3,AQ,nRL,TA,du⟩
  by_cases en:lv=[]
  ·subst en
   cases TA
   refine⟨_,rfl,_,.inl ⟨_,bZ AQ,rfl⟩,ic ?_⟩
   have e:ps.length<=au.length:=Jq.mp du
   exact dU _ _ ⟨ps,au,cS,_,v7,v8,v9,v10,v11,Cn,rfl,s3,Cc,hR3,A3,G,le3,Nat.le_antisymm G.le e⟩
  exists _,rfl,_,.inl ⟨_,bZ AQ,rfl⟩
  have ne:(!(lv.map V.ref).isEmpty)=true:=by
   cases lv with
   | nil=>exact absurd rfl en
   | cons x r=>rfl
  rw[ne]
  have lv1:1<=lv.length:=by
   cases lv with
   | nil=>exact absurd rfl en
   | cons x r=>exact QX (je _)
  have llu:lv.length=us.length:=Paired.length TA
  have pl:ps.length=au.length+us.length:=by
   have:=congrArg zE du
   rw[Za]at this
   have:=G.le
   omega
  have lm:=le3
  refine Dx ⟨fun σ' H'=>∃ m',m'<most-au.length/\∃ (ps au us:LL) (cS lv:List Qu) (L:Qu) (v7 v8 v9 v10 v11 Cn:OV),m'=most-au.length/\σ'=[some (.ref x),some (.int wide),some (.int most),some (.ref g),some (.ref D),some (.ref RR),some (.ref L),v7,v8,v9,v10,v11,Cn]/\aB H H'/\H' D=some (.dT (Ce ps 0))/\H' RR=some (.lst #[50])/\aJ H' cS au/\Ek (cY rows) signs wide ps au/\ps.length<=most/\H' L=some (.lst (lv.map V.ref))/\RR≠L/\aJ H' lv us/\ps.drop au.length=us,fun _ _ h=>h,?_⟩
  refine⟨#[15],fun Fr hFr=>?_⟩
  have sF:=ak hFr (HO.lst [])
  have fFr:H Fr=none:=s3.free hFr
  have nFD:D≠Fr:=ar Cc hFr
  have nFR:RR≠Fr:=ar hR3 hFr
  have nFL:L≠Fr:=ar AQ hFr
  obtain⟨H4,Bc⟩:∃ H4,upd H3 Fr (HO.lst [])=H4:=⟨_,rfl⟩
  have s4:aB H H4:=by rw[<- Bc];exact s3.trans sF
  have t4:aB H3 H4:=by rw[<- Bc];exact sF
  have hF4:H4 Fr=some (.lst (([]:List Qu).map V.ref)):=by rw[<- Bc,ae];rfl
  rw[Bc]
  have lps:∀ {qs:LL},(∀ p∈qs,∃ v,ou wide v/\LG (cY rows) signs v=p)->∀ u∈qs,u.length=rows.length:=fun h u PK=>by
   obtain⟨v,_,e⟩:=h u PK
   rw[<- e]
   exact oq v _ ls
  exists 16
  refine⟨_,rfl,L,rfl,⟨_,bZ (t4 _ _ AQ)⟩,dW (K:=K) (xs:=lv.map V.ref) (fun i σ' H'=>∃ (CC cP qs:LL) (sM fr:List Qu) (v8 v9 v10 v11 Cn:OV),
    σ'=[some (.ref x),some (.int wide),some (.int most),some (.ref g),some (.ref D),some (.ref RR),some (.ref L),some (.ref Fr),v8,v9,v10,v11,Cn]/\aB H H'/\H' D=some (.dT (Ce CC 0))/\H' RR=some (.lst (sM.map V.ref))/\aJ H' sM cP/\Ek (cY rows) signs wide CC cP/\CC.length<=most/\cP.length=au.length+i/\CC=ps++qs/\H' Fr=some (.lst (fr.map V.ref))/\aJ H' fr qs/\H' L=some (.lst (lv.map V.ref))/\aJ H' lv us)
   ⟨ps,au,[],cS,[],v8,v9,v10,v11,Cn,rfl,s4,t4 _ _ Cc,t4 _ _ hR3,A3.same (fun b xs e=>t4 _ _ e),G,le3,rfl,(JA _).symm,hF4,.nil,t4 _ _ AQ,TA.same (fun b xs e=>t4 _ _ e)⟩ (fun i σ' H' _ ⟨_,_,_,_,_,_,_,_,_,_,_,_,_,_,_,_,_,_,_,_,_,e,_⟩=>bZ e) ?_ ?_⟩
  ·rintro i y σ' H5 hi ⟨CC,cP,qs,sM,fr,v8,v9,v10,v11,Cn,rfl,s5,hD5,hR5,A5,G5,le5,l5,rfl,T4,TF5,T6,TA5⟩
   have il:i<us.length:=by
    have:=(fV hi).1
    rw[bb]at this
    omega
   obtain⟨pa,e1,e2⟩:=TA5.get il
   have ey:y=.ref pa:=by rw[jV,e1]at hi;exact(Option.some.inj hi).symm
   subst ey
   have atp:ps[cP.length]?=some us[i]:=by
    have:(ps.drop au.length)[i]?=some us[i]:=by rw[du];exact jC il
    rw[List.getElem?_drop]at this
    rw[l5];exact this
   have agR:(ps++qs)[cP.length]?=some us[i]:=by rw[JB (fV atp).1];exact atp
   have lu:us[i].length=rows.length:=lps G5.re _ (oY agR)
   refine⟨#[15],fun Ro hRo=>?_⟩
   have sO:=ak hRo (HO.lst [])
   have fRo:H Ro=none:=s5.free hRo
   have nOD:D≠Ro:=ar hD5 hRo
   have nOR:RR≠Ro:=ar hR5 hRo
   have nOF:Fr≠Ro:=ar T4 hRo
   have nOL:L≠Ro:=ar T6 hRo
   obtain⟨H6,eH6⟩:∃ H6,upd H5 Ro (HO.lst [])=H6:=⟨_,rfl⟩
   have t6:aB H5 H6:=by rw[<- eH6];exact sO
   have hO6:H6 Ro=some (.lst (([]:LI).map V.int)):=by rw[<- eH6,ae];rfl
   rw[eH6]
   exists 16
   refine eO (t:=Ec _ _ _) (fun σ' H'=>∃ (CC qs:LL) (fr:List Qu) (row:LI) (v10 v11 Cn:OV),
    σ'=[some (.ref x),some (.int wide),some (.int most),some (.ref g),some (.ref D),some (.ref RR),some (.ref L),some (.ref Fr),some (.ref pa),some (.ref Ro),v10,v11,Cn]/\aB H H'/\H' D=some (.dT (Ce CC 0))/\H' RR=some (.lst (sM.map V.ref))/\aJ H' sM cP/\B0 (cY rows) signs wide CC cP us[i] row/\CC.length<=most/\row.length=wide/\H' Ro=some (.lst (row.map V.int))/\CC=ps++qs/\H' Fr=some (.lst (fr.map V.ref))/\aJ H' fr qs/\H' L=some (.lst (lv.map V.ref))/\aJ H' lv us/\H' pa=some (.tup (us[i].map V.int))) ?_ (fun D1 ams=>?_)
   rotate_left
   ·refine⟨_,rfl,_,rfl,by omega,by omega,?_⟩
    refine fu (fun j σ' H'=>∃ (CC qs:LL) (fr:List Qu) (row:LI) (v10 v11 Cn:OV),
     σ'=[some (.ref x),some (.int wide),some (.int most),some (.ref g),some (.ref D),some (.ref RR),some (.ref L),some (.ref Fr),some (.ref pa),some (.ref Ro),v10,v11,Cn]/\aB H H'/\H' D=some (.dT (Ce CC 0))/\H' RR=some (.lst (sM.map V.ref))/\aJ H' sM cP/\B0 (cY rows) signs wide CC cP us[i] row/\CC.length<=most/\row.length=j/\H' Ro=some (.lst (row.map V.int))/\CC=ps++qs/\H' Fr=some (.lst (fr.map V.ref))/\aJ H' fr qs/\H' L=some (.lst (lv.map V.ref))/\aJ H' lv us/\H' pa=some (.tup (us[i].map V.int)))
     ⟨ps++qs,qs,fr,[],v10,v11,Cn,rfl,s5.trans t6,t6 _ _ hD5,t6 _ _ hR5,A5.same (fun b xs e=>t6 _ _ e),G5.next agR,le5,rfl,hO6,rfl,t6 _ _ T4,TF5.same (fun b xs e=>t6 _ _ e),t6 _ _ T6,TA5.same (fun b xs e=>t6 _ _ e),t6 _ _ e2⟩ ?_ ?_
    ·rintro j σ' H7 hj ⟨CC,qs,fr,row,v10,v11,Cn,rfl,s7,TZ,hR7,A7,G7,le7,rfl,hO7,rfl,hF7,TF7,hL7,TA7,V6⟩
     rw[jB]at hj
     refine⟨_,rfl,x,dx,_,rfl,s7 _ _ hx,rfl,_,rfl,_,rfl,x,g,pa,row.length,wide,rows,signs,us[i],by rw[Jo];rfl,T.same s7,R,⟨n1,hj⟩,V6,lu,fun Th H8 s8 hTh=>?_⟩
     have hD8:=s8 _ _ TZ
     have lq:(ps++qs).length<=most:=le7
     by_cases c:cY rows us[i] row.length∈ps++qs
     ·obtain⟨n,nl,en'⟩:=jk c
      have hn:(ps++qs)[n]?=some (cY rows us[i] row.length):=by rw[jC nl,en']
      have dg:fH H8 D (.ref Th) (some (.int (n:Int))):=by
       have z:=fH.t (k:=so (cY rows us[i] row.length)) hD8 (b:=Th) (by rw[Dz];exact hTh)
       rw[X0 G7.nd hn,Je]at z
       exact z
      exists _,rfl,D,rfl,.inr ⟨_,.inl hD8⟩,_,rfl,_,dg
      refine⟨_,rfl,rfl,_,rfl,ic ?_⟩
      have hO8:=s8 _ _ hO7
      refine⟨_,rfl,.inl ⟨rfl,_,bZ hO8⟩,_,rfl,Ro,_,_,rfl,rfl,hO8,ay #[36],?_⟩
      have oth:∀ b u,b≠Ro->H7 b=some u->(upd H8 Ro (.lst (row.map V.int++[V.int (n:Int)]))) b=some u:=fun b u n e=>by
       rw[aj n];exact s8 _ _ e
      have up:∀ b xs,H7 b=some #[42]->(upd H8 Ro (.lst (row.map V.int++[V.int (n:Int)]))) b=some #[42]:=fun b xs e=>oth b _ (aG e hO7 #[1]) e
      exact⟨_,qs,fr,row++[(n:Int)],_,_,_,rfl,ax (s7.trans s8) fRo,oth _ _ nOD TZ,oth _ _ nOR hR7,A7.same up,G7.old hn,le7,by rw[jL];rfl,by rw[ae,jD];rfl,rfl,oth _ _ nOF hF7,TF7.same up,oth _ _ nOL hL7,TA7.same up,up _ _ V6⟩
     ·have dg:fH H8 D (.ref Th) none:=by
       have z:=fH.t (k:=so (cY rows us[i] row.length)) hD8 (b:=Th) (by rw[Dz];exact hTh)
       rw[DD c]at z
       exact z
      exists _,rfl,D,rfl,.inr ⟨_,.inl hD8⟩,_,rfl,_,dg
      have G8:=G7.new hj c
      refine⟨_,rfl,rfl,_,rfl,Dx ?_⟩
      refine⟨_,rfl,D,_,rfl,hD8,_,rfl,_,rfl,_,_,rfl,rfl,_,rfl,abX (fun z=>?_) (fun z=>?_)⟩
      ·have z' := of_decide_eq_true z
       rw[As]at z'
       refine⟨_,rfl,(by show 1<=8;decide),fun xa hxa=>⟨xa,(most:Int),rfl,ae,ON #[0] #[0],fun d hd nd=>⟨rfl,d,?_,?_⟩⟩⟩
       ·rw[aj (Ne.symm nd),ae]
       ·refine kx d _ (ps++qs++[cY rows us[i] row.length]) ?_ ?_ G8.nd G8.re ?_
        ·intro b u eb
         have e8:=(s7.trans s8) _ _ eb
         have nb:b≠xa:=ar e8 hxa
         have nbd:b≠d:=ar (a:=b) (show(upd H8 xa _) b=some u by rw[aj nb];exact e8) hd
         rw[lS nb,aj nbd,aj nb,aj nb]
         exact e8
        ·rw[lS nd,ae]
        ·rw[jL,js]
         omega
      have z':¬ (most:Int)<=((ps++qs).length:Int):=fun q=>z (decide_eq_true (by rw[As];exact q))
      rw[As]
      refine⟨_,rfl,_,rfl,_,rfl,D,_,rfl,CH.t (k:=so (cY rows us[i] row.length)) hD8 (by rw[Dz];exact hTh) (ay (by rw[As];omega)),?_⟩
      rw[ab1 c]
      have hO8:=s8 _ _ hO7
      have hF8:=s8 _ _ hF7
      obtain⟨u',eu⟩:∃ u',cY rows us[i] row.length=u' := ⟨_,rfl⟩
      rw[eu]at G8 hTh ⊢
      obtain⟨H9,e9⟩:∃ H9,upd H8 D (HO.dT (Ce (ps++qs++[u']) 0))=H9:=⟨_,rfl⟩
      rw[e9]
      have o9:∀ b u,b≠D->H8 b=some u->H9 b=some u:=fun b u n e=>by rw[<- e9,aj n];exact e
      have hF9:=o9 _ _ (Ne.symm nFD) hF8
      have hO9:=o9 _ _ (Ne.symm nOD) hO8
      have lfr:=TF7.length
      have lpq:(ps++qs).length=ps.length+qs.length:=jL
      refine⟨_,rfl,.inl ⟨rfl,_,bZ hF9⟩,_,rfl,Fr,_,_,rfl,rfl,hF9,ay #[36],?_⟩
      have aha:(upd H9 Fr (.lst (fr.map V.ref++[V.ref Th]))) Ro=some (.lst (row.map V.int)):=by rw[aj (Ne.symm nOF)];exact hO9
      refine⟨_,rfl,.inl ⟨rfl,_,bZ aha⟩,_,rfl,Ro,_,_,rfl,rfl,aha,ay #[36],?_⟩
      obtain⟨G1,e11⟩:∃ G1,upd (upd H9 Fr (.lst (fr.map V.ref++[V.ref Th]))) Ro (.lst (row.map V.int++[V.int ((ps++qs).length:Int)]))=G1:=⟨_,rfl⟩
      have oth:∀ b u,b≠Ro->b≠Fr->b≠D->H8 b=some u->G1 b=some u:=fun b u n1 n2 n3 e=>by
       rw[<- e11,aj n1,aj n2];exact o9 _ _ n3 e
      have up8:∀ b xs,H8 b=some #[42]->G1 b=some #[42]:=fun b xs e=>oth b _ (aG e hO8 #[1]) (aG e hF8 #[1]) (aG e hD8 #[1]) e
      have up:∀ b xs,H7 b=some #[42]->G1 b=some #[42]:=fun b xs e=>up8 _ _ (s8 _ _ e)
      have s11:aB H G1:=by
       rw[<- e11,<- e9]
       exact ax (ax (ax (s7.trans s8) hD) fFr) fRo
      have akF:G1 D=some (.dT (Ce (ps++qs++[u']) 0)):=by rw[<- e11,aj nOD,aj nFD,<- e9,ae]
      have akG:G1 Fr=some (.lst ((fr++[Th]).map V.ref)):=by rw[<- e11,aj nOF,ae,jD];rfl
      have akS:G1 Ro=some (.lst ((row++[((ps++qs).length:Int)]).map V.int)):=by rw[<- e11,ae,jD];rfl
      have goal:∃ (CC qs':LL) (fr:List Qu) (afr:LI) (am5 v11 Cn:OV),[some (V.ref x),some (.int wide),some (.int most),some (.ref g),some (.ref D),some (.ref RR),some (.ref L),some (.ref Fr),some (.ref pa),some (.ref Ro),some (.int (0+(row.length:Int))),some (.ref Th),some (.int ((ps++qs).length:Int))]=[some (.ref x),some (.int wide),some (.int most),some (.ref g),some (.ref D),some (.ref RR),some (.ref L),some (.ref Fr),some (.ref pa),some (.ref Ro),am5,v11,Cn]/\aB H G1/\G1 D=some (.dT (Ce CC 0))/\G1 RR=some (.lst (sM.map V.ref))/\aJ G1 sM cP/\B0 (cY rows) signs wide CC cP us[i] afr/\CC.length<=most/\afr.length=row.length+1/\G1 Ro=some (.lst (afr.map V.int))/\CC=ps++qs'/\G1 Fr=some (.lst (fr.map V.ref))/\aJ G1 fr qs'/\G1 L=some (.lst (lv.map V.ref))/\aJ G1 lv us/\G1 pa=some (.tup (us[i].map V.int)):=
       ⟨ps++qs++[u'],qs++[u'],fr++[Th],row++[((ps++qs).length:Int)],_,_,_,rfl,s11,akF,oth _ _ nOR nFR (Ne.symm nDR) (s8 _ _ hR7),A7.same up,G8,by rw[jL,js];omega,by rw[jL];rfl,akS,jv ..,akG,aJ.snoc (TF7.same up) (up8 _ _ hTh),oth _ _ nOL nFL (aG hL7 TZ #[1]) (s8 _ _ hL7),TA7.same up,up _ _ V6⟩
      rw[<- e11]at goal
      exact goal
    ·rintro σ' H7 ⟨CC,qs,fr,row,v10,v11,Cn,rfl,s7,TZ,hR7,A7,G7,le7,lr7,hO7,rfl,hF7,TF7,hL7,TA7,V6⟩
     rw[jB]at lr7
     exact ams _ _ ⟨_,qs,fr,row,v10,v11,Cn,rfl,s7,TZ,hR7,A7,G7,le7,lr7,hO7,rfl,hF7,TF7,hL7,TA7,V6⟩
   ·rintro σ' H7 ⟨CC,qs,fr,row,v10,v11,Cn,rfl,s7,TZ,hR7,A7,G7,le7,lr7,hO7,rfl,hF7,TF7,hL7,TA7,_⟩
    have lt7:=(fV G7.at_).1
    have lq:(ps++qs).length<=most:=le7
    refine⟨_,rfl,.inl ⟨rfl,_,bZ hR7⟩,_,rfl,Ro,_,rfl,.inl ⟨bZ hO7,fun t ht=>?_⟩⟩
    have nRt:RR≠t:=ar hR7 ht
    have s8:=ak ht (HO.tup (row.map V.int))
    have lra:=A7.length
    refine⟨RR,_,_,rfl,rfl,s8 _ _ hR7,ay #[36],?_⟩
    have up:∀ b xs,H7 b=some #[42]->(upd (upd H7 t (.tup (row.map V.int))) RR (.lst (sM.map V.ref++[V.ref t]))) b=some #[42]:=fun b xs e=>by
     rw[aj (aG e hR7 #[1]),aj (ar e ht)]
     exact e
    have oth:∀ b u,b≠RR->H7 b=some u->(upd (upd H7 t (.tup (row.map V.int))) RR (.lst (sM.map V.ref++[V.ref t]))) b=some u:=fun b u n e=>by
     rw[aj n];exact s8 _ _ e
    refine⟨ps++qs,cP++[row],qs,sM++[t],fr,_,_,_,_,_,rfl,ax (s7.trans s8) fRR,oth _ _ nDR TZ,by rw[ae,jD];rfl,aJ.snoc (A7.same up) (by rw[aj (Ne.symm nRt),ae]),G7.done lr7,le7,by rw[jL,js,l5];rfl,rfl,oth _ _ (Ne.symm nFR) hF7,TF7.same up,oth _ _ (Ne.symm nRL) hL7,TA7.same up⟩
  ·rintro σ' H5 ⟨CC,cP,qs,sM,fr,v8,v9,v10,v11,Cn,rfl,s5,hD5,hR5,A5,G5,le5,l5,rfl,T4,TF5,T6,TA5⟩
   rw[bb]at l5
   refine⟨_,rfl,most-cP.length,?_,ps++qs,cP,qs,sM,fr,Fr,some (.ref Fr),v8,v9,v10,v11,Cn,rfl,rfl,s5,hD5,hR5,A5,G5,le5,T4,nFR,TF5,?_⟩
   ·omega
   ·rw[l5,llu,<- pl,List.drop_append_of_le_length (jF _),zA,Zo]
 rintro σ' H3 ⟨ps,au,cS,v6,v7,v8,v9,v10,v11,Cn,rfl,s3,Cc,hR3,A3,G,le3,el⟩
 refine⟨_,rfl,_,rfl,RR,_,rfl,.inl ⟨bZ hR3,fun rt hrt=>?_⟩⟩
 have s4:=ak hrt (HO.tup #[50])
 refine⟨_,rfl,D,_,rfl,s4 _ _ Cc,fun o=>?_⟩
 obtain⟨Hf,eHf⟩:∃ Hf,upd (upd H3 rt (HO.tup #[50])) D (.pB o (.dT (Ce ps 0)))=Hf:=⟨_,rfl⟩
 have sf:aB H Hf:=by rw[<- eHf];exact ax (s3.trans s4) hD
 have hDf:Hf D=some (.pB o (.dT (Ce ps 0))):=by rw[<- eHf,ae]
 have upf:∀ b xs,(upd H3 rt (HO.tup #[50])) b=some #[42]->Hf b=some #[42]:=fun b xs e=>by
  rw[<- eHf,aj (aG e (s4 _ _ Cc) #[1])];exact e
 have lps:∀ u∈ps,u.length=rows.length:=fun u PK=>by
  obtain⟨v,_,e⟩:=G.re u PK
  rw[<- e]
  exact oq v _ ls
 have lm:=le3
 rw[eHf]
 refine MD (fun Dl i ys H'=>aB Hf H'/\ys=((ps.take i).map fun u=>u.getD 0 0).map V.int) (fun Dl hDl=>⟨ak hDl _,rfl⟩) (fun Dl i ys H' _ ⟨e,_⟩=>e _ _ hDf) ?_ ?_
 ·rintro Dl i p b ys H4 Q' hDl hi hb hy ⟨s5,rfl⟩ k'
  obtain⟨u,PK,ep⟩:=ab0 hi
  rw[ep,Dz]at hb
  have il:=(fV PK).1
  have lu:=lps u (oY PK)
  refine⟨_,rfl,x,dx,_,rfl,s5 _ _ (sf _ _ hx),rfl,_,rfl,x,b,u,rfl,hb,by omega,k' _ _ hy (ay (by rw[bb,bb,jX];omega)) ⟨ax s5 hDl,?_⟩⟩
  rw[jW,PK,jD,jD]
  rfl
 ·rintro Dl ys H4 hDl hy ⟨s5,rfl⟩
  rw[As,jY]at hy
  refine⟨Dl,_,rfl,.inl ⟨bZ hy,fun gt hgt=>?_⟩⟩
  have s6:=ak hgt (HO.tup ((ps.map fun u=>u.getD 0 0).map V.int))
  refine⟨#[43],fun m' hm'=>?_⟩
  have s7:=ak hm' (HO.tup [V.int wide,V.ref rt,V.ref gt])
  have s67:=s6.trans s7
  exact k m' rt gt au ps _ (sf.trans (s5.trans s67)) ⟨ae,⟨cS,s67 _ _ (s5 _ _ (upf _ _ ae)),A3.same fun b xs e=>s67 _ _ (s5 _ _ (upf _ _ (s4 _ _ e)))⟩,s7 _ _ ae⟩ G el le3
end
theorem wL[DecidableEq α]:∀ {ps vs:List α},ps.Nodup->(∀ p∈ps,p∈vs)->ps.length<=vs.length
 | [],_,_,_=>je _
 | p :: ps,vs,nd,h=>by
  have PY:=JE.mp nd
  have hp:=h p jE
  have:=wL (vs:=vs.erase p) PY.2 fun q hq=>(ZE (show q≠p from fun z=>PY.1 (by rw[<- z];exact hq))).mpr (h q (jK _ hq))
  rw[zg hp]at this
  have:=zH hp
  rw[jc]
  omega
def SW(cs:LI):Nat->LL
 | 0=>[[]]
 | n+1=>cs.flatMap fun c=>(SW cs n).map fun v=>c :: v
theorem J3(vs:LL):∀ cs:LI,(cs.flatMap fun c=>vs.map fun v=>c :: v).length=cs.length*vs.length
 | []=>by simp
 | c :: cs=>by
  rw[ZY,jL,bb,J3 vs cs,jc,Nat.succ_mul,Zg]
theorem Ee(cs:LI):∀ n,(SW cs n).length=cs.length^n
 | 0=>rfl
 | n+1=>by
  show(cs.flatMap fun c=>(SW cs n).map fun v=>c :: v).length=_
  rw[J3,Ee cs n,ZD,Nat.mul_comm]
theorem Ef:∀ {v:LI},(∀ z∈v,z∈cs)->v∈SW cs v.length
 | [],_=>jE
 | z :: v,h=>Zi.mpr ⟨z,h z jE,jN.mpr ⟨v,Ef fun y hy=>h y (jK _ hy),rfl⟩⟩
theorem Ih(R:aF rows.length wide rows):∀ (v u:LI),ou wide v->u.length=rows.length->(∀ z∈u,z∈cs)->∀ z∈v.foldl (fun p f=>cY rows p f.toNat) u,z∈cs
 | [],_,_,_,h=>h
 | f :: v,u,hv,lu,h=>by
  refine Ih R v (cY rows u f.toNat) (fun x hx=>hv x (jK _ hx)) (Me _ _ _) fun z hz=>?_
  obtain⟨q,hq,rfl⟩:=jN.mp hz
  have hf:=hv f jE
  have BN:=jq.mp hq
  have st:=dk R (h:=(q:Int)) (f:=((f.toNat:Nat):Int)) #[0] #[0] #[0] #[0]
  rw[getD_at #[0]]
  exact h _ (jG _)
structure En(wide:Nat)(rows au:LL)(signs az:LI)(n:Nat):Prop where
 ex:∃ (lP ps:LL) (eK:LI),cH wide rows lP signs eK/\Ek (cY lP) eK wide ps au/\au.length=ps.length/\ps.length=n/\az=ps.map fun u=>u.getD 0 0
def pq(CT:Qu):Sp:=fun vs H Q E=>∃ (m r g:Qu) (many wide most:Nat) (rows:LL) (signs:LI),vs=[.ref m,.int most]/\bI H m r g wide rows signs/\aF many wide rows/\signs.length=many/\(1<=many/\many<1000)/\wide<=1000/\(1<=most/\most<=1000) /\
 (∀ (m' r' g':Qu) (au:LL) (az:LI) (n:Nat) (H':Hp),aB H H'->bI H' m' r' g' wide au az->En wide rows au signs az n->n<=most->Q (.ref m') H') /\
 ∀ (d:Qu) (H':Hp) (lP:LL) (eK:LI) (ps:LL),aB H H'->cH wide rows lP signs eK->H' d=some (.xd [("most",.int most)])->ps.Nodup->(∀ p∈ps,∃ v,ou wide v/\LG (cY lP) eK v=p)->most<ps.length->E (.ref CT) (some d) H'
section
theorem SJ:aH ["machine","most"] ["machine","most"] (av DW):=cW #[3]
theorem DK(F:bG K "turned" "turned" DW dV f fd)(pD:O3 P w K mg base "Turning" C 2 ["self","machine"] (Rc C))(wU:rM P w K mg base "grown" 3 ["walk","wide","most"] [] (LZ C CT))(Co:bO P w K mg base "least" 5 ["machine"] [] (Q6 K)):bu P w K mg base (O0 P w) 6 f fd ["machine","most"] (pq CT):=by
 refine F.aip SJ #[7] #[2]
 ·obtain⟨m,r,g,many,wide,most,rows,signs,rfl,_⟩:=h
  rfl
 obtain⟨m,r,g,many,wide,most,rows,signs,rfl,M,R,ls,n1,w1,m1,k,kx⟩:=h
 refine⟨_,(ao (aL (afb wU hr Sz (aa (aak pD hr (aa (aiu Co hr (aa (pv 0) af)) af)) (aa #[17] (aa (pv 1) af)))))),?_⟩
 refine⟨_,rfl,m,r,g,many,wide,rows,signs,rfl,M,R,ls,n1,w1,fun m' r' g' au az H1 s1 M1 LO=>fun x dx hx hdx ne=>?_⟩
 have fl:=LO.Hr R n1.1
 have s2:aB H1 (upd (upd H1 dx (.own x)) x (.ins C dx [])):=fun b u e=>by rw[aj (ar e hx),aj (ar e hdx)];exact e
 refine⟨x,dx,m',r',g',wide,au,az,rfl,ae,M1.same (fun b xs e=>s2 _ _ e),LO.ok,⟨by omega,w1⟩,fun H2 kp T2=>⟨rfl,?_⟩⟩
 have s3:aB H1 H2:=fun b u e=>kp b u (ar e hx) (s2 _ _ e)
 refine⟨_,rfl,m,_,_,_,rfl,rfl,cj ((s1.trans s3) _ _ M.tup),rfl,_,rfl,x,g',wide,most,au,az,rfl,T2,LO.ok,LO.sgn,⟨LO.pos,by omega⟩,w1,m1,fun m2 r2 g2 cP ps H3 s4 M3 G el le=>?_,fun d H3 ps s4 hd nd re lt=>?_⟩
 ·exact k m2 r2 g2 cP _ _ H3 ((s1.trans s3).trans s4) M3 ⟨au,ps,az,LO,G,el,rfl,rfl⟩ le
 ·exact kx d H3 au az ps ((s1.trans s3).trans s4) LO hd nd re lt
end
def Rv(wide:Nat)(rows:LL)(signs:LI)(n:Nat):Prop := ∃ vs:LL,vs.length<=n/\∀ v,ou wide v->LG (cY rows) signs v∈vs
section
variable{iU:LL}{BB:LI}
theorem Rv.gen(R:aF rows.length wide rows)(ls:signs.length=rows.length)(hs:∀ z∈signs,z∈cs):Rv wide rows signs (cs.length^rows.length):=
 ⟨SW cs rows.length,zx (Ee _ _),fun v hv=>by
  have:=Ef (Ih R v signs hv ls hs)
  rw[oq v signs ls]at this
  exact this⟩
theorem ou.rev(h:ou wide v):ou wide v.reverse:=fun x hx=>h x (zS.mp hx)
theorem ou.app(h:ou wide u)(h':ou wide v):ou wide (u++v):=fun x hx=>by
 rcases tT.mp hx with z|z
 ·exact h x z
 ·exact h' x z
theorem Fv(R:aF iU.length wide iU)(O:dy iU):∃ us:Nat->LI,∀ q,q<iU.length->ou wide (us q)/\aM iU (us q) 0=(q:Int):=
 ⟨fun q=>if h:q<iU.length then Classical.choose (O.lX R q h)else [],fun q h=>by
  have:=Classical.choose_spec (O.lX R q h)
  dsimp only
  rw[dif_pos h]
  exact this⟩
theorem adY(RM:aF rows.length wide rows)(n0:0<rows.length)(ls:signs.length=rows.length)(R:aF iU.length wide iU)(O:dy iU)(ll:BB.length=iU.length)(t:Tells wide rows iU signs BB 0 0)(h:Rv wide rows signs n)(nd:ps.Nodup)(re:∀ p∈ps,∃ v,ou wide v/\LG (cY iU) BB v=p):ps.length<=n:=by
 obtain⟨vs,hn,hv⟩:=h
 obtain⟨us,hus⟩:=Fv R O
 have:=wL nd (vs:=vs.map fun u=>(jO iU.length).map fun q=>sgn u (aM rows (us q) 0)) fun p hp=>by
  obtain⟨v,iv,rfl⟩:=re p hp
  refine jN.mpr ⟨_,hv v iv,?_⟩
  refine Ru (n:=iU.length) (by rw[bb,jT]) (oq v _ ll) fun q hq=>?_
  obtain⟨iu,eu⟩:=hus q hq
  have wi:=dH RM iu (show(0:Int)<=0 by omega) #[0]
  have e1:sgn ((jO iU.length).map fun q=>sgn (LG (cY rows) signs v) (aM rows (us q) 0)) (q:Int)=sgn (LG (cY rows) signs v) (aM rows (us q) 0):=by
   unfold sgn
   rw[jB,getD_at (by rw[bb,jT];exact hq),JC,JV]
  have e2:sgn (LG (cY rows) signs v) (aM rows (us q) 0)=sgn signs (aM rows v.reverse (aM rows (us q) 0)):=pY RM v signs _ iv wi
  have e3:sgn (LG (cY iU) BB v) (q:Int)=sgn BB (aM iU v.reverse (q:Int)):=pY R v BB _ iv ⟨by omega,by omega⟩
  rw[e1,e2,e3,<- eu,<- bN,<- bN]
  exact t _ (iu.app iv.rev)
 rw[bb]at this
 omega
theorem iI.self(T:iI wide rows wb signs pW):cH wide wb wb pW pW:=cH.self T.ok T.pos T.sgn T.ord T.apart
end
def lO(many:Nat):LL:=((jO (many-1)).map fun q:Nat=>[(q:Int)+1,(q:Int)+1])++[[(many:Int),(many:Int)+1],[(many:Int),(many:Int)],[(many:Int)+1,(many:Int)+1]]
def mz(many:Nat)(one other:Int):LI:=Jf (many+1) one++[other]
theorem mf(h:1<=many):(lO many).length=many+2:=by
 unfold lO
 rw[jL,bb,jT]
 show many-1+3=_
 omega
theorem Ft(many:Nat)(one other:Int):(mz many one other).length=many+2:=by
 unfold mz
 rw[jL,Ja]
 rfl
theorem Ld(h:1<=many):aF (many+2) 2 (lO many):=by
 refine⟨mf h,fun r hr=>?_,fun r hr v hv=>?_⟩
 ·rcases tT.mp hr with z|z
  ·obtain⟨q,_,rfl⟩:=jN.mp z
   rfl
  ·simp only[jS,JP,or_false]at z
   rcases z with rfl|rfl|rfl<;>rfl
 ·rcases tT.mp hr with z|z
  ·obtain⟨q,hq,rfl⟩:=jN.mp z
   have:=jq.mp hq
   simp only[jS,JP,or_false]at hv
   omega
  ·simp only[jS,JP,or_false]at z
   rcases z with rfl|rfl|rfl<;>simp only[jS,JP,or_false]at hv<;>omega
theorem PR(h:1<=many):(lO many).getD (many-1+j) []=[[(many:Int),(many:Int)+1],[(many:Int),(many:Int)],[(many:Int)+1,(many:Int)+1]].getD j []:=by
 unfold lO
 rw[jQ,JM (by rw[bb,jT];omega),bb,jT,Nat.add_sub_cancel_left,jQ]
theorem Fu(h:1<=many)(hq:q=(many:Int)\/q=(many:Int)+1):∀ {v:LI},ou 2 v->aM (lO many) v q=q
 | [],_=>rfl
 | f :: v,hv=>by
  have hf:=hv f jE
  have e:stepI (lO many) q f=q:=by
   have f2:f.toNat=0\/f.toNat=1:=by omega
   unfold stepI
   rcases hq with rfl|rfl
   ·rw[show((many:Int)).toNat=many-1+1 by omega,PR h]
    rcases f2 with z|z<;>rw[z]<;>rfl
   ·rw[show((many:Int)+1).toNat=many-1+2 by omega,PR h]
    rcases f2 with z|z<;>rw[z]<;>rfl
  show aM (lO many) v (stepI (lO many) q f)=q
  rw[e]
  exact Fu h hq fun x hx=>hv x (jK _ hx)
theorem X3{one other:Int}(h:1<=many):Rv 2 (lO many) (mz many one other) (2^many):=by
 have R:=Ld h
 have R':aF (lO many).length 2 (lO many):=by rw[mf h];exact R
 have ls:(mz many one other).length=(lO many).length:=by rw[Ft,mf h]
 have hs:∀ z∈mz many one other,z∈[one,other]:=fun z hz=>by
  rcases tT.mp hz with y|y
  ·rw[Zh y];exact jE
  ·rw[jJ.mp y];exact jK _ jE
 refine⟨(SW [one,other] many).map fun u=>u++[one,other],by rw[bb,Ee];exact jF _,fun v hv=>jN.mpr ?_⟩
 obtain⟨p,ep⟩:∃ p,LG (cY (lO many)) (mz many one other) v=p:=⟨_,rfl⟩
 have lp:p.length=many+2:=by rw[<- ep,<- mf h];exact oq v _ ls
 have en:∀ z∈p,z∈[one,other]:=by rw[<- ep];exact Ih R' v _ hv ls hs
 have at_:∀ q:Int,(q=(many:Int)\/q=(many:Int)+1)->sgn p q=sgn (mz many one other) q:=fun q hq=>by
  rw[<- ep]
  have:=pY R' v (mz many one other) q hv ⟨by omega,by rw[mf h];omega⟩
  rw[Fu h hq hv.rev]at this
  exact this
 have a1:=at_ many (.inl rfl)
 have a2:=at_ (many+1) (.inr rfl)
 rw[ep]
 refine⟨p.take many,?_,?_⟩
 ·have:=Ef (v:=p.take many) fun z hz=>en z (ZH hz)
  rw[jX,Nat.min_eq_left #[0]]at this
  exact this
 ·have e1:p[many]'#[0]=one:=by
   unfold sgn mz at a1
   rw[jB,getD_at #[0],jQ,JB (by rw[Ja];omega),Zk,if_pos #[0]]at a1
   exact a1
  have e2:p[many+1]'#[0]=other:=by
   unfold sgn mz at a2
   rw[show((many:Int)+1).toNat=many+1 by omega,getD_at #[0],jQ,JM (by rw[Ja];omega),Ja,zN]at a2
   exact a2
  have d1:p.drop many=p[many]'#[0] :: p.drop (many+1):=jy #[0]
  have d2:p.drop (many+1)=p[many+1]'#[0] :: p.drop (many+2):=jy #[0]
  have d3:p.drop (many+2)=[]:=Jq.mpr #[0]
  have:=zL many p
  rw[d1,d2,d3,e1,e2]at this
  exact this
def BC(K:Yv):Sp:=fun vs H Q _=>∃ (a:Qu) (k:Int) (ns:LI),vs=[.ref a,.int k]/\lh K H a #[14]/\ns.length<=63/\0<=k/\k<2147483648 /\
 ∀ v:Int,0<=v->v<2147483629->Q (.int v) H
def Rh(K:Yv):Sp:=fun vs H Q _=>∃ (a p:Qu) (at_ way q f many wide half:Int) (ns:LI),vs=[.ref a,.int at_,.ref p,.int way]/\lh K H a #[14]/\ns.length<=63 /\
 H p=some (.lst [.int q,.int f,.int many,.int wide,.int half])/\(0<=at_/\at_<1000000)/\(0<=q/\q<many)/\(0<=f/\f<wide)/\many<=1000/\wide<=1000/\(1<=half/\half<=many) /\
 ∀ v:Int,0<=v->v<many->Q (.int v) H
def Ra(K:Yv):Sp:=fun vs H Q _=>∃ (a:Qu) (at_ many half way:Int) (ns:LI),vs=[.ref a,.int at_,.int many,.int half,.int way]/\lh K H a #[14]/\ns.length<=63 /\
 (0<=at_/\at_<1000000)/\(1<=many/\many<=1000)/\(1<=half/\half<=many) /\
 ∀ (p:Qu) (H':Hp) (signs:LI),aB H H'->H' p=some (.tup (signs.map V.int))->(signs.length:Int)=many->(∀ z∈signs,0<=z/\z<1000000)->(∃ cs:LI,cs.length=3/\∀ z∈signs,z∈cs)->Q (.ref p) H'
def FQ(K:Yv):Sp:=fun vs H Q _=>∃ (a:Qu) (at_ most widest:Int) (ns:LI),vs=[.ref a,.int at_,.int most,.int widest]/\lh K H a #[14]/\ns.length<=63 /\
 (0<=at_/\at_<100000)/\(1<=most/\most<=1000)/\(1<=widest/\widest<=1000) /\
 ∀ (m r g:Qu) (H':Hp) (many wide:Nat) (rows:LL) (signs:LI),aB H H'->bI H' m r g wide rows signs->aF many wide rows->signs.length=many->(∀ z∈signs,0<=z/\z<1000000)->(∃ cs:LI,cs.length=3/\∀ z∈signs,z∈cs)->1<=many->(many:Int)<=most->1<=wide->(wide:Int)<=widest->Q (.ref m) H'
section
theorem md:aH ["_law_script","_law_k","_law_cell"] ["_law_script","_law_k"] (av sP):=cW #[3]
theorem cK:aH ["_law_script","_law_at","_law_place","_law_way","_law_q","_law_f","_law_many","_law_wide","_law_half","_law_number","_law_there_here"] ["_law_script","_law_at","_law_place","_law_way"] (av pT):=cW #[3]
theorem cJ:aH ["_law_script","_law_at","_law_many","_law_half","_law_way","_law_menu","_law_found","_law_q","_law_pick"] ["_law_script","_law_at","_law_many","_law_half","_law_way"] (av lZ):=cW #[3]
theorem rA:aZ ["_law_script","_law_at","_law_many","_law_half","_law_way","_law_menu","_law_found","_law_q","_law_pick"] (av lZ) ["_law_k","_law_at","_law_script"] [none,some 1,some 0] ⟨.function,[#[60],("_law_k",.local),("_law_draw",.globalImplicit),("_law_at",.free),("_law_script",.free)],false,false,[]⟩:=mC #[3]
theorem cq:aH ["_law_script","_law_at","_law_most","_law_widest","_law_many","_law_wide","_law_way","_law_half","_law_rows","_law_q","_law_row"] ["_law_script","_law_at","_law_most","_law_widest"] (av hJ):=cW #[3]
theorem mV:aZ ["_law_script","_law_at","_law_most","_law_widest","_law_many","_law_wide","_law_way","_law_half","_law_rows","_law_q","_law_row"] (av hJ) ["_law_f","_law_at","_law_half","_law_many","_law_q","_law_script","_law_way","_law_wide"] [none,some 1,some 7,some 4,some 9,some 0,some 6,some 5] ⟨.function,[#[60],("_law_f",.local),("_law_there",.globalImplicit),("_law_at",.free),("_law_half",.free),("_law_many",.free),("_law_q",.free),("_law_script",.free),("_law_way",.free),("_law_wide",.free)],false,false,[]⟩:=mC #[3]
theorem aca(F:bG K "_law_draw" "_law_draw" sP dV f fd)(bh:mg "len" = none):bu P w K mg base eM 1 f fd ["_law_script","_law_k"] (BC K):=by
 refine F.ok md #[7] #[2]
 ·obtain⟨a,k,ns,rfl,_⟩:=h
  rfl
 obtain⟨a,k,ns,rfl,hS,Eh,h0,h1,q⟩:=h
 have hl:#[14].length=ns.length:=jZ _
 refine⟨_,(ah (aC (i:=2) md.nd (aE bx (aE oA aq (pv 1)) aq))
   (ah (cz (aU FA #[35] aq (aY _)) (ao (aC (i:=2) md.nd (aE bx (aE bx (aE cw (aN dS (pv 0) (aE cw (pv 1) #[35]) #[5]) aq) (aE oA (aE HI (pv 1) #[35]) aq)) aq))) bg)
   (ah (aC (i:=2) md.nd (aE cw (aE bx (aE bx (aE oA (pv 2) aq) (aE oA (aE oA (pv 1) (pv 1)) aq)) aq) aq))
   (ao (aL (aE cw (aE oA (pv 2) (pv 2)) aq)))))),?_⟩
 have fin:∀ c:Int,(-(2^64)<k/\k<2^64)->Q (.int (((c*48271+k*k*16807+3)%2147483647)*((c*48271+k*k*16807+3)%2147483647)%2147483629)) H:=fun c _=>q _ (zD _ #[8]) (Ju _ #[8])
 have hk : -(2^64)<k/\k<2^64:=⟨by omega,by omega⟩
 have hc:∀ c:Int,-(2^64)<(c*48271+k*k*16807+3)%2147483647/\(c*48271+k*k*16807+3)%2147483647<2^64:=fun c=>by
  have a1:=zD (c*48271+k*k*16807+3) (show(2147483647:Int)≠0 by decide)
  have a2:=Ju (c*48271+k*k*16807+3) (show(0:Int)<2147483647 by decide)
  exact⟨by omega,by omega⟩
 exists _,rfl,_,_,rfl,rfl,.inl ⟨by decide,by decide⟩,_,_,rfl,rfl
 exists _,rfl,a,_,rfl,.inl hS,_,_,rfl,rfl,_,rfl
 refine abX #[46] #[46]
 ·have c':(0:Int)<((#[14].length:Nat):Int):=of_decide_eq_true c
  rw[hl]at c'
  have c2:(0:Int)<((#[14].length:Nat):Int):=by rw[hl];exact c'
  have c3:((#[14].length:Nat):Int)<1073741824:=by rw[hl];omega
  have m0:=zD k (show((#[14].length:Nat):Int)≠0 by omega)
  have m1:=Ju k c2
  refine⟨_,rfl,_,rfl,_,rfl,a,_,rfl,.inl hS,_,_,rfl,rfl,c2,a,_,_,_,rfl,rfl,hS,cu m0 (by rw[hl]at m1;rw[hl];exact m1),_,_,rfl,rfl,(by show(0:Int)<2147483629;decide),
   _,rfl,_,rfl,a,_,rfl,.inl hS,_,_,rfl,rfl,⟨c2,c3⟩,_,_,rfl,rfl,.inr ⟨by decide,by decide⟩,_,_,rfl,rfl,_,_,rfl,rfl,?_⟩
  exists 12
  exact⟨_,rfl,_,rfl,_,_,rfl,rfl,.inl (hc _),_,_,rfl,rfl,(by show(0:Int)<2147483629;decide),fin _ hk⟩
 ·exists 12
  exact⟨_,rfl,_,rfl,_,_,rfl,rfl,.inl (hc _),_,_,rfl,rfl,(by show(0:Int)<2147483629;decide),fin _ hk⟩
theorem Z7(F:bG K "_law_there" "_law_there" pT dV f fd)(aQ:bO P w K mg base "_law_draw" 1 ["_law_script","_law_k"] [] (BC K))(F5:mg "min" = none):
  bu P w K mg base eM 2 f fd ["_law_script","_law_at","_law_place","_law_way"] (Rh K):=by
 refine F.ok cK #[7] #[2]
 ·obtain⟨a,p,at_,way,q,f,many,wide,half,ns,rfl,_⟩:=h
  rfl
 obtain⟨a,p,at_,way,q,f',many,wide,half,ns,rfl,hS,Eh,hp,⟨at0,at1⟩,⟨q0,q1⟩,⟨f0,f1⟩,hm,hw,⟨ha0,ha1⟩,k⟩:=h
 have sm:∀ {x:Int},0<=x->x<=1000000->-(2^64)<x/\x<2^64:=fun h h'=>⟨by omega,by omega⟩
 have hqw:=Y3 q0 (show q<=1000 by omega) (show 0<=wide by omega) hw
 have w1:0<wide:=by omega
 have hh1:0<half:=by omega
 have m1:0<many:=by omega
 refine⟨_,(ah (HS (pv 2) (afh rfl (bL (aS (i:=4) cK.nd) (bL (aS (i:=5) cK.nd) (bL (aS (i:=6) cK.nd) (bL (aS (i:=7) cK.nd) (bL (aS (i:=8) cK.nd) oj)))))))
   (ah (aC (i:=9) cK.nd (bC aQ hr (aa (pv 0) (aa (aE bx (aE bx (pv 1) (aE oA (pv 4) (pv 7))) (pv 5)) af))))
   (ah (cz (PW.pt (wI (aU eP (pv 3) aq (aY _)) (tJ (aU eP (pv 5) (aE cw (aE oA (pv 4) aq) (pv 7)) (aY _))))) (ao (aL (aA (ET rfl) #[41] F5 Ti (aa (aE bx (pv 4) aq) (aa (aE HK (pv 6) aq) af))))) bg)
   (ah (cz (aU eP (pv 3) aq (aY _)) (ao (aL (aE cw (pv 9) (aE bx (pv 4) aq)))) bg)
   (ah (cz (aU eP (pv 3) aq (aY _)) (ao (aL (aE cw (aE bx (aE oA (pv 4) (pv 7)) (pv 5)) (pv 6)))) bg)
   (ah (cz (aU eP (pv 3) aq (aY _)) (ah (aC (i:=10) cK.nd (aE cw (bC aQ hr (aa (pv 0) (aa (aE bx (aE bx (pv 1) (aE oA (aE cw (pv 4) (pv 8)) (pv 7))) (pv 5)) af))) (pv 8)))
   (ah (cz (PW.pt (wI (aU eP (aE cw (aE HI (pv 9) aq) aq) aq (aY _)) (tJ (aU Lx (aE bx (pv 10) (pv 8)) (pv 6) (aY _))))) (ao (aL (aE bx (pv 10) (pv 8)))) bg)
   (ao (aL (pv 10))))) bg)
   (ah (cz (PW.pt (wI (aU eP (pv 3) aq (aY _)) (tJ (aU Lx (pv 4) (pv 8) (aY _))))) (ao (aL (aE cw (pv 9) (pv 8)))) bg)
   (ao (aL (aE cw (pv 9) (pv 6))))))))))),?_⟩
 exists _,rfl,p,_,rfl,bZ hp,rfl,_,_,rfl,_,_,rfl,_,_,rfl,_,_,rfl,_,_,rfl,rfl
 refine⟨_,rfl,_,rfl,_,rfl,_,rfl,_,_,rfl,rfl,.inl (sm q0 #[0]),_,_,rfl,rfl,_,rfl,_,_,rfl,rfl,a,_,ns,rfl,hS,Eh,by omega,by omega,fun nu n0 n1=>?_⟩
 have r1:=dY (a:=nu) (b:=q+1) #[0]
 have r2:=dY (a:=q*wide+f') (b:=many) m1
 have r4:=dY (a:=nu) (b:=half) hh1
 have r5:=dY (a:=nu) (b:=many) m1
 have r6:=dY (a:=q) (b:=half) hh1
 have hqh:=Y3 r6.1 (show q%half<=1000 by omega) (show 0<=wide by omega) hw
 refine⟨_,rfl,rfl,_,rfl,sj (fun c1=>?_) (fun c1=>?_)⟩
 ·refine⟨_,rfl,_,rfl,_,_,rfl,rfl,.inr ⟨by decide,by decide⟩,_,rfl,_,_,rfl,rfl,w1,rfl,_,rfl,sj (fun c2=>?_) (fun c2=>?_)⟩
  ·exists _,rfl,_,_,rfl,rfl,_,rfl,_,_,rfl,rfl,_,_,rfl
   refine k _ ?_ ?_
   ·split<;>omega
   ·split<;>omega
  ·refine⟨_,rfl,rfl,_,rfl,sj (fun c3=>?_) (fun c3=>absurd c1 c3)⟩
   exact⟨_,rfl,_,rfl,_,_,rfl,rfl,_,_,rfl,rfl,#[0],k _ r1.1 #[0]⟩
 ·refine ic ?_
  refine⟨_,rfl,rfl,_,rfl,sj (fun c3=>absurd c3 c1) (fun c3=>?_)⟩
  refine⟨_,rfl,rfl,_,rfl,sj (fun c4=>?_) (fun c4=>?_)⟩
  ·exact⟨_,rfl,_,rfl,_,_,rfl,rfl,.inl (sm q0 #[0]),_,rfl,_,_,rfl,rfl,_,rfl,_,_,rfl,rfl,m1,k _ r2.1 r2.2⟩
  refine⟨_,rfl,rfl,_,rfl,sj (fun c5=>?_) (fun c5=>?_)⟩
  ·refine⟨_,rfl,_,rfl,_,rfl,_,rfl,_,_,rfl,rfl,hh1,_,rfl,_,_,rfl,rfl,.inl (sm r6.1 #[0]),_,_,rfl,rfl,_,rfl,_,_,rfl,rfl,a,_,ns,rfl,hS,Eh,by omega,by omega,fun th t0 t1=>?_⟩
   have r7:=dY (a:=th) (b:=half) hh1
   exists _,rfl,_,_,rfl,rfl,hh1
   refine⟨_,rfl,_,_,rfl,rfl,⟨by decide,by decide⟩,_,_,rfl,rfl,(by show(0:Int)<2;decide),rfl,_,rfl,sj (fun c6=>?_) (fun c6=>?_)⟩
   ·refine⟨_,rfl,_,rfl,_,_,rfl,rfl,_,rfl,_,_,rfl,rfl,_,rfl,rK (fun c7=>?_) (fun c7=>?_)⟩
    ·exact⟨_,rfl,_,rfl,_,_,rfl,rfl,k _ #[0] c7⟩
    ·exact⟨_,rfl,k _ r7.1 #[0]⟩
   ·refine ic ?_
    exact⟨_,rfl,k _ r7.1 #[0]⟩
  refine⟨_,rfl,rfl,_,rfl,sj (fun c6=>?_) (fun c6=>?_)⟩
  ·refine⟨_,rfl,_,rfl,_,_,rfl,rfl,_,rfl,rK (fun c7=>?_) (fun c7=>?_)⟩
   ·exact⟨_,rfl,_,rfl,_,_,rfl,rfl,hh1,k _ r4.1 #[0]⟩
   ·exact⟨_,rfl,_,rfl,_,_,rfl,rfl,m1,k _ r5.1 r5.2⟩
  ·refine ic ?_
   exact⟨_,rfl,_,rfl,_,_,rfl,rfl,m1,k _ r5.1 r5.2⟩
theorem Z5(F:bG K "_law_signs" "_law_signs" lZ dV f fd)(aQ:bO P w K mg base "_law_draw" 1 ["_law_script","_law_k"] [] (BC K))(bj:mg "range" = none)(AO:mg "int" = none)(aK:mg "tuple" = none):
  bu P w K mg base eM 2 f fd ["_law_script","_law_at","_law_many","_law_half","_law_way"] (Ra K):=by
 refine F.ok cJ #[7] #[2]
 ·obtain⟨a,at_,many,half,way,ns,rfl,_⟩:=h
  rfl
 obtain⟨a,at_,many,half,way,ns,rfl,hS,Eh,⟨at0,at1⟩,⟨m0,m1⟩,⟨ha0,ha1⟩,k⟩:=h
 refine⟨_,(ah (iA (i:=5) rfl cJ.nd rfl (Or.inl rfl) rA (cx rfl bj (aa aq af)) (fun _ _ _ _=>(aS (i:=0) rA.nd)) (fun _ _ _ _=>(aE cw (bC aQ hr (aa (pv 2) (aa (aE bx (pv 1) (pv 0)) af))) aq)))
   (ah (cz (aU eP (aE cw (bC aQ hr (aa (pv 0) (aa (aE bx (pv 1) aq) af))) aq) aq (aY _)) (ao (aC (i:=5) cJ.nd (cf (aa aq (aa aq (aa aq af)))))) bg)
   (ah (aC (i:=6) cJ.nd (cf af))
   (ah (bX PassesOwn.never rfl (cx rfl bj (aa (pv 2) af)) (aS (i:=7) cJ.nd) (ah (aC (i:=8) cJ.nd (aE cw (bC aQ hr (aa (pv 0) (aa (aE bx (aE bx (pv 1) aq) (pv 7)) af))) aq))
   (ah (cz (aU eP (pv 4) aq (aY _)) (ao (aC (i:=8) cJ.nd (aW RA #[41] AO Mv (aa (lV eP (pv 7) (aE HK (pv 2) aq) (aY _)) af)))) bg)
   (ah (cz (aU eP (pv 4) aq (aY _)) (ao (aC (i:=8) cJ.nd (aE cw (bC aQ hr (aa (pv 0) (aa (aE bx (aE bx (pv 1) aq) (aE cw (pv 7) (pv 3))) af))) aq))) bg)
   (ao (bD (fA Yy Yz yA bE (pv 6) (aa (aN dS (pv 5) (pv 8) #[5]) af))))))))
   (ao (aL (aW aP #[41] aK bH (aa (pv 6) af)))))))),?_⟩
 refine⟨3,rfl,by decide,by decide,?_⟩
 refine ff (n:=3) (fun D i ys H'=>aB H H'/\ys.length=i/\dM 0 1000000 ys) (fun D hD=>⟨ak hD _,rfl,dM.nil⟩) ?_ ?_
 ·rintro D i ys H' Q' hD hi hy ⟨hs,hl,hZ⟩ k'
  refine⟨_,rfl,_,rfl,_,rfl,_,_,rfl,rfl,a,_,ns,rfl,hs.seq hS,Eh,by omega,by omega,fun v v0 v1=>?_⟩
  have r:=dY (a:=v) (b:=1000000) #[8]
  refine⟨_,_,rfl,rfl,(by show(0:Int)<1000000;decide),k' _ H' hy (ay #[0]) ⟨ax hs hD,by simp[hl],hZ.snoc r.1 r.2⟩⟩
 rintro M ys H1 hM0 hM ⟨hs1,MU,T8⟩
 try dsimp only[bB]
 refine eB (t:=OL _ _ _) (fun σ' H'=>∃ M ys,σ'=[some (.ref a),some (.int at_),some (.int many),some (.int half),some (.int way),some (.ref M),none,none,none]/\H M=none/\aB H H'/\H' M=some (.lst ys)/\ys.length=3/\dM 0 1000000 ys) ?_ (fun dU=>?_)
 rotate_left
 ·refine⟨_,rfl,_,rfl,_,_,rfl,rfl,a,_,ns,rfl,hs1.seq hS,Eh,by omega,by omega,fun v v0 v1=>?_⟩
  refine⟨_,_,rfl,rfl,(by show(0:Int)<2;decide),rfl,_,rfl,sj #[46] #[46]⟩
  ·refine⟨#[43],fun M2 hM2=>?_⟩
   have fr:H M2=none:=hs1.free hM2
   refine dU _ _ ⟨M2,_,rfl,fr,hs1.trans (ak hM2 _),ae,rfl,?_⟩
   exact((dM.nil.snoc (v:=0) #[8] #[8]).snoc (v:=1) #[8] #[8]).snoc (v:=1) #[8] #[8]
  ·exact dU _ _ ⟨M,ys,rfl,hM0,hs1,hM,MU,T8⟩
 rintro σ' H2 ⟨M,ys,rfl,hM0,hs2,hM2,hl2,ahn⟩
 obtain⟨menu,rfl,ahM⟩:=ahn.ints
 rw[bb]at hl2
 refine⟨#[15],fun Fo hFo=>?_⟩
 have fr:H Fo=none:=hs2.free hFo
 have nMF:M≠Fo:=ar hM2 hFo
 refine⟨_,rfl,many,rfl,by omega,by omega,fu (fun i σ' H'=>∃ (fs:List V) (v1 v2:OV),σ'=[some (.ref a),some (.int at_),some (.int many),some (.int half),some (.int way),some (.ref M),some (.ref Fo),v1,v2]/\aB H H'/\H' M=some (.lst (menu.map V.int))/\H' Fo=some (.lst fs)/\fs.length=i/\dM 0 1000000 fs/\∀ y∈fs,y∈menu.map V.int)
  ⟨[],none,none,rfl,ax hs2 fr,by rw[aj nMF];exact hM2,ae,rfl,dM.nil,(fun y hy=>by cases hy)⟩ ?_ ?_⟩
 ·rintro i σ' H3 hi ⟨fs,v1,v2,rfl,V8,hM3,hF3,hl3,T9,aeo⟩
  have hq:(0:Int)<=0+(i:Int)/\(0:Int)+(i:Int)<many:=by omega
  have r6:=dY (a:=0+(i:Int)) (b:=half) #[0]
  try dsimp only[bB]
  refine eB (t:=wM _ _) (fun Mh H'=>∃ pk:Int,Mh=[some (.ref a),some (.int at_),some (.int many),some (.int half),some (.int way),some (.ref M),some (.ref Fo),some (.int (0+i)),some (.int pk)]/\H'=H3/\0<=pk/\pk<3) ?_ (fun dU=>?_)
  rotate_left
  ·refine⟨_,rfl,_,rfl,_,_,rfl,rfl,_,rfl,_,_,rfl,rfl,a,_,ns,rfl,V8.seq hS,Eh,by omega,by omega,fun v v0 v1=>?_⟩
   have r:=dY (a:=v) (b:=3) #[8]
   exact⟨_,_,rfl,rfl,(by show(0:Int)<3;decide),dU _ _ ⟨_,rfl,rfl,r.1,r.2⟩⟩
  rintro Mh H4 ⟨pk,rfl,rfl,p0,p1⟩
  try dsimp only[bB]
  refine eB (t:=OL _ _ _) (fun Mh H'=>∃ pk:Int,Mh=[some (.ref a),some (.int at_),some (.int many),some (.int half),some (.int way),some (.ref M),some (.ref Fo),some (.int (0+i)),some (.int pk)]/\H'=H4/\0<=pk/\pk<3) ?_ (fun dU=>?_)
  rotate_left
  ·refine⟨_,rfl,rfl,_,rfl,sj #[46] #[46]⟩
   ·refine⟨_,rfl,_,rfl,_,_,rfl,rfl,rfl,.inr ⟨_,rfl,dU _ _ ⟨_,rfl,rfl,?_,?_⟩⟩⟩
    ·split<;>decide
    ·split<;>decide
   ·exact dU _ _ ⟨pk,rfl,rfl,p0,p1⟩
  rintro Mh H5 ⟨pk,rfl,rfl,p0,p1⟩
  try dsimp only[bB]
  refine eB (t:=OL _ _ _) (fun Mh H'=>∃ pk:Int,Mh=[some (.ref a),some (.int at_),some (.int many),some (.int half),some (.int way),some (.ref M),some (.ref Fo),some (.int (0+i)),some (.int pk)]/\H'=H5/\0<=pk/\pk<3) ?_ (fun dU=>?_)
  rotate_left
  ·refine⟨_,rfl,rfl,_,rfl,sj #[46] #[46]⟩
   ·refine⟨_,rfl,_,rfl,_,_,rfl,rfl,_,rfl,_,rfl,_,_,rfl,rfl,#[0],_,_,rfl,rfl,a,_,ns,rfl,V8.seq hS,Eh,by omega,by omega,fun v v0 v1=>?_⟩
    have r:=dY (a:=v) (b:=3) #[8]
    exact⟨_,_,rfl,rfl,(by show(0:Int)<3;decide),dU _ _ ⟨_,rfl,rfl,r.1,r.2⟩⟩
   ·exact dU _ _ ⟨pk,rfl,rfl,p0,p1⟩
  rintro Mh H6 ⟨pk,rfl,rfl,p0,p1⟩
  have hp:pk.toNat<menu.length:=by omega
  refine⟨_,rfl,.inl ⟨rfl,_,bZ hF3⟩,_,rfl,_,rfl,M,_,_,_,rfl,rfl,bZ hM3,cu p0 #[0],Fo,_,_,rfl,rfl,hF3,ay #[0],?_⟩
  have hz:=ahM _ (jG hp)
  refine⟨_,_,_,rfl,ax V8 fr,by rw[aj nMF];exact hM3,ae,by simp[hl3],?_,fun y hy=>?_⟩
  ·rw[getD_at hp]
   exact T9.snoc hz.1 hz.2
  ·rcases tT.mp hy with z|z
   ·exact aeo y z
   ·rw[jJ.mp z,getD_at hp]
    exact jN.mpr ⟨_,jG hp,rfl⟩
 ·rintro σ' H3 ⟨fs,v1,v2,rfl,V8,hM3,hF3,hl3,T9,aeo⟩
  refine⟨_,rfl,Fo,_,rfl,.inl ⟨bZ hF3,fun p hp=>?_⟩⟩
  obtain⟨signs,rfl,hz⟩:=T9.ints
  rw[bb]at hl3
  exact k p _ signs (V8.trans (ak hp _)) ae #[0] hz ⟨menu,hl2,fun z Fg=>by
   obtain⟨x,hx,e⟩:=jN.mp (aeo _ (jN.mpr ⟨z,Fg,rfl⟩))
   rw[<- V.int.inj e]
   exact hx⟩
theorem Oa(F:bG K "_law_machine" "_law_machine" hJ dV f fd)(aQ:bO P w K mg base "_law_draw" 1 ["_law_script","_law_k"] [] (BC K))(pH:bO P w K mg base "_law_there" 2 ["_law_script","_law_at","_law_place","_law_way"] [] (Rh K))(pG:bO P w K mg base "_law_signs" 2 ["_law_script","_law_at","_law_many","_law_half","_law_way"] [] (Ra K))(bj:mg "range" = none)(aK:mg "tuple" = none):
  bu P w K mg base eM 3 f fd ["_law_script","_law_at","_law_most","_law_widest"] (FQ K):=by
 refine F.ok cq #[7] #[2]
 ·obtain⟨a,at_,most,widest,ns,rfl,_⟩:=h
  rfl
 obtain⟨a,at_,most,widest,ns,rfl,hS,Eh,⟨at0,at1⟩,⟨m0,m1⟩,⟨w0,w1⟩,k⟩:=h
 refine⟨_,(ah (aC (i:=4) cq.nd (aE bx aq (aE cw (bC aQ hr (aa (pv 0) (aa (pv 1) af))) (pv 2))))
   (ah (aC (i:=5) cq.nd (aE bx aq (aE cw (bC aQ hr (aa (pv 0) (aa (aE bx (pv 1) aq) af))) (pv 3))))
   (ah (aC (i:=6) cq.nd (aE cw (bC aQ hr (aa (pv 0) (aa (aE bx (pv 1) aq) af))) aq))
   (ah (aC (i:=7) cq.nd (aE HI (aE bx (pv 4) aq) aq))
   (ah (aC (i:=8) cq.nd (cf af))
   (ah (bX PassesOwn.never rfl (cx rfl bj (aa (pv 4) af)) (aS (i:=9) cq.nd) (ah (iA (i:=10) rfl cq.nd rfl (Or.inl rfl) mV (cx rfl bj (aa (pv 5) af)) (fun _ _ _ _=>(aS (i:=0) mV.nd)) (fun _ _ _ _=>(bC pH hr (aa (pv 5) (aa (aE bx (pv 1) aq) (aa (cf (aa (pv 4) (aa (pv 0) (aa (pv 3) (aa (pv 7) (aa (pv 2) af)))))) (aa (pv 6) af)))))))
   (ao (bD (fA Yy Yz yA bE (pv 8) (aa (aW aP #[41] aK bH (aa (pv 10) af)) af))))))
   (ao (aL (fh (aa (pv 5) (aa (aW aP #[41] aK bH (aa (pv 8) af)) (aa (bC pG hr (aa (pv 0) (aa (aE bx (pv 1) aq) (aa (pv 4) (aa (pv 7) (aa (pv 6) af)))))) af)))))))))))),?_⟩
 try dsimp only[bB]
 refine eB (t:=wM _ _) (fun σ' H'=>∃ many:Nat,σ'=[some (.ref a),some (.int at_),some (.int most),some (.int widest),some (.int many),none,none,none,none,none,none]/\H'=H/\1<=many/\(many:Int)<=most) ?_ (fun dU=>?_)
 rotate_left
 ·refine⟨_,rfl,_,rfl,a,_,ns,rfl,hS,Eh,by omega,by omega,fun v v0 v1=>?_⟩
  have r:=dY (a:=v) (b:=most) #[0]
  obtain⟨n,e⟩:=mD (x:=1+v%most) #[0]
  refine⟨_,rfl,_,_,rfl,rfl,#[0],_,_,rfl,rfl,dU _ _ ⟨n,?_,rfl,by omega,by omega⟩⟩
  rw[<- e]
  rfl
 rintro σ' H' ⟨many,rfl,rfl,n0,n1⟩
 try dsimp only[bB]
 refine eB (t:=wM _ _) (fun σ' Cp=>∃ wide:Nat,σ'=[some (.ref a),some (.int at_),some (.int most),some (.int widest),some (.int many),some (.int wide),none,none,none,none,none]/\Cp=H'/\1<=wide/\(wide:Int)<=widest) ?_ (fun dU=>?_)
 rotate_left
 ·refine⟨_,rfl,_,rfl,_,_,rfl,rfl,a,_,ns,rfl,hS,Eh,by omega,by omega,fun v v0 v1=>?_⟩
  have r:=dY (a:=v) (b:=widest) #[0]
  obtain⟨n,e⟩:=mD (x:=1+v%widest) #[0]
  refine⟨_,rfl,_,_,rfl,rfl,#[0],_,_,rfl,rfl,dU _ _ ⟨n,?_,rfl,by omega,by omega⟩⟩
  rw[<- e]
  rfl
 rintro σ' H' ⟨wide,rfl,rfl,k0,k1⟩
 try dsimp only[bB]
 refine eB (t:=wM _ _) (fun σ' Cp=>∃ way:Int,σ'=[some (.ref a),some (.int at_),some (.int most),some (.int widest),some (.int many),some (.int wide),some (.int way),none,none,none,none]/\Cp=H') ?_ (fun dU=>?_)
 rotate_left
 ·refine⟨_,rfl,_,rfl,_,_,rfl,rfl,a,_,ns,rfl,hS,Eh,by omega,by omega,fun v v0 v1=>?_⟩
  exact⟨_,_,rfl,rfl,(by show(0:Int)<6;decide),dU _ _ ⟨_,rfl,rfl⟩⟩
 rintro σ' H' ⟨way,rfl,rfl⟩
 try dsimp only[bB]
 refine eB (t:=wM _ _) (fun σ' Cp=>∃ half:Int,σ'=[some (.ref a),some (.int at_),some (.int most),some (.int widest),some (.int many),some (.int wide),some (.int way),some (.int half),none,none,none]/\Cp=H'/\1<=half/\half<=(many:Int)) ?_ (fun dU=>?_)
 rotate_left
 ·exact⟨_,rfl,_,_,rfl,rfl,_,_,rfl,rfl,⟨by decide,by decide⟩,dU _ _ ⟨_,rfl,rfl,by omega,by omega⟩⟩
 rintro σ' H' ⟨half,rfl,rfl,g0,g1⟩
 refine⟨#[15],fun R hR=>?_⟩
 refine⟨_,rfl,(many:Int),rfl,by omega,by omega,fu (fun i σ' Cp=>∃ (cS:List Qu) (rws:LL) (v1 v2:OV),
   σ'=[some (.ref a),some (.int at_),some (.int most),some (.int widest),some (.int many),some (.int wide),some (.int way),some (.int half),some (.ref R),v1,v2]/\aB H' Cp/\Cp R=some (.lst #[50])/\aJ Cp cS rws/\(∀ r∈rws,r.length=wide)/\(∀ r∈rws,∀ v∈r,0<=v/\v<(many:Int))/\rws.length=i)
  ⟨[],[],none,none,rfl,ak hR _,ae,.nil,(fun r h=>by cases h),(fun r h=>by cases h),rfl⟩ ?_ ?_⟩
 ·rintro i σ' H3 hi ⟨cS,rws,v1,v2,rfl,V8,hR3,hA3,hl3,hv3,hn3⟩
  have hi':(i:Int)<many:=by omega
  have aqJ:cS.length=i:=by rw[hA3.length];exact hn3
  refine⟨_,rfl,(wide:Int),rfl,by omega,by omega,?_⟩
  refine ff (fun D j ys Cp=>aB H3 Cp/\ys.length=j/\dM 0 many ys) (fun D hD=>⟨ak hD _,rfl,dM.nil⟩) ?_ ?_
  ·rintro D j ys H4 Q' hD hj hy ⟨PJ,hl4,U0⟩ k'
   have hj':(j:Int)<wide:=by omega
   refine⟨_,rfl,_,rfl,_,_,rfl,rfl,_,rfl,_,rfl,_,rfl,_,rfl,_,rfl,(by show 5<=sizeLine;decide),fun pl rJ=>?_⟩
   have nD:D≠pl:=ar hy rJ
   refine⟨_,rfl,a,pl,_,way,_,_,_,_,half,ns,rfl,(V8.trans (PJ.trans (ak rJ _))).seq hS,Eh,ae,⟨by omega,by omega⟩,⟨by omega,by omega⟩,⟨by omega,by omega⟩,by omega,by omega,⟨g0,g1⟩,fun v v0 v1=>?_⟩
   have n3:H3 pl=none:=PJ.free rJ
   exact k' _ _ (by rw[aj nD];exact hy) (ay #[0]) ⟨ax (ax PJ n3) hD,by simp[hl4],U0.snoc v0 v1⟩
  rintro W ys H4 hW0 hW ⟨PJ,hl4,U0⟩
  obtain⟨row,rfl,abR⟩:=U0.ints
  rw[bb]at hl4
  have hR4:=PJ _ _ hR3
  refine⟨_,rfl,.inl ⟨rfl,_,bZ hR4⟩,_,rfl,W,_,rfl,.inl ⟨bZ hW,fun tp htp=>?_⟩⟩
  have nR:R≠tp:=ar hR4 htp
  have fR:H' R=none:=hR
  refine⟨R,_,_,rfl,rfl,by rw[aj nR];exact hR4,ay #[36],?_⟩
  have sT:∀ b xs,H3 b=some #[42]->(upd (upd H4 tp (.tup (row.map V.int))) R (.lst (cS.map V.ref++[V.ref tp]))) b=some #[42]:=fun b xs e=>by
   have e4:=PJ _ _ e
   rw[aj (aG e4 hR4 #[1]),aj (ar e4 htp)]
   exact e4
  refine⟨cS++[tp],rws++[row],_,_,rfl,ax (ax (V8.trans PJ) ((V8.trans PJ).free htp)) fR,?_,aJ.snoc (hA3.same sT) ?_,?_,?_,by simp[hn3]⟩
  ·rw[ae,jD];rfl
  ·rw[aj (Ne.symm nR),ae]
  ·intro r mP
   rcases tT.mp mP with z|z
   ·exact hl3 r z
   ·rw[jJ.mp z];omega
  ·intro r mP
   rcases tT.mp mP with z|z
   ·exact hv3 r z
   ·rw[jJ.mp z];exact abR
 ·rintro σ' H3 ⟨cS,rws,v1,v2,rfl,V8,hR3,hA3,hl3,hv3,hn3⟩
  refine⟨_,rfl,_,rfl,R,_,rfl,.inl ⟨bZ hR3,fun rt hrt=>?_⟩⟩
  have s4:aB H' (upd H3 rt (.tup #[50])):=V8.trans (ak hrt _)
  refine⟨_,rfl,_,rfl,_,_,rfl,rfl,_,rfl,_,rfl,_,rfl,a,_,_,half,way,ns,rfl,s4.seq hS,Eh,⟨by omega,by omega⟩,⟨by omega,by omega⟩,⟨g0,g1⟩,fun g H5 signs hs5 hg hlen hz Py=>?_⟩
  refine⟨#[43],fun m hm=>?_⟩
  have s6:=ak hm (HO.tup [V.int wide,V.ref rt,V.ref g])
  have s5':aB H3 H5:=(ak hrt _).trans hs5
  refine k m rt g _ many wide rws signs (s4.trans (hs5.trans s6)) ⟨ae,⟨cS,s6 _ _ (hs5 _ _ ae),(hA3.same fun b xs e=>s6 _ _ (s5' _ _ e))⟩,s6 _ _ hg⟩ ⟨by omega,hl3,hv3⟩ #[0] hz Py n0 n1 k0 k1
end
def L8:Sp:=fun vs H Q _=>∃ (r:Qu) (many wide:Nat) (cS:List Qu) (rows:LL),vs=[.ref r]/\H r=some (.tup #[50])/\aJ H cS rows/\aF many wide rows/\(1<=many/\many<=1000)/\wide<64 /\
 ∀ (l:Qu) (H':Hp) (qs:LI),aB H H'->H' l=some (.lst (qs.map V.int))->(∀ q,q∈qs↔Reach wide rows q)->qs.Nodup->qs[0]?=some 0->(∀ q∈qs,0<=q/\q<(many:Int))->qs.length<=many->Q (.ref l) H'
theorem W2:inV (.int q) (qs.map V.int)=decide (q∈qs):=by
 unfold inV
 induction qs with
 | nil=>rfl
 | cons k r ih =>
  rw[JJ,zU,ih,show E1 (V.int k) (V.int q)=decide (k=q)from rfl]
  by_cases e:k=q
  ·subst e;simp
  ·simp[e,Ne.symm e]
structure F8(many wide:Nat)(rows:LL)(i:Nat)(qs:LI):Prop where
 nd:qs.Nodup
 inr:∀ q∈qs,0<=q/\q<(many:Int)
 z:(0:Int)∈qs
 re:∀ q∈qs,Reach wide rows q
 hd:qs[0]?=some 0
 cl:∀ (j:Nat) (q:Int),j<i->qs[j]?=some q->∀ x∈rows.getD q.toNat [],x∈qs
section
theorem eU:aH ["_law_rows","_law_found","_law_at"] ["_law_rows"] (av lY):=cW #[3]
theorem rq:aZ ["_law_rows","_law_found","_law_at"] (av lY) ["_law_q","_law_found"] [none,some 1] ⟨.function,[#[60],("_law_q",.local),("_law_found",.free)],false,false,[]⟩:=mC #[3]
theorem Ss(F:bG K "_law_reach" "_law_reach" lY dV f fd)(bh:mg "len" = none)(Eg:mg "sorted" = none)(F6:mg "set" = none):bu P w K mg base eM 1 f fd ["_law_rows"] L8:=by
 refine F.ok eU #[7] #[2]
 ·obtain⟨r,many,wide,cS,rows,rfl,_⟩:=h
  rfl
 obtain⟨r,many,wide,cS,rows,rfl,mP,hA,R,⟨n0,n1⟩,w1,k⟩:=h
 refine⟨_,(ah (aC (i:=1) eU.nd (cf (aa aq af)))
   (ah (aC (i:=2) eU.nd aq)
   (ah (mE PassesOwn.never (aU Lx (pv 2) (aA aI #[41] bh bW (aa (pv 1) af)) (aY _)) (ah (aC (i:=1) eU.nd (aE HH (pv 1) (aA (Hk rfl) #[41] Eg Rz (aa (aW (RC rfl) #[41] F6 Tj (aa (aaf rfl rq (lF (aN aO (pv 0) (aN dS (pv 1) (pv 2) #[5]) #[5])) (fun _ _ _ _=>(aS (i:=0) rq.nd)) (fun _ _ _ _=>(aU (EC K) (pv 0) (pv 1) (by with_unfolding_all rfl))) (fun _ _ _ _=>(pv 0))) af)) af))))
   (ao (aC (i:=2) eU.nd (aE bx (pv 2) aq)))))
   (ao (aL (pv 1)))))),?_⟩
 refine⟨(by show 1<=sizeLine;decide),fun L hL=>?_⟩
 have sL:=ak hL (HO.lst [V.int 0])
 try dsimp only[bB]
 refine eB (t:=pX _ _) (fun σ' H'=>∃ (fa:Qu) (qs:LI) (i:Int),σ'=[some (.ref r),some (.ref fa),some (.int i)]/\aB H H'/\H' fa=some (.lst (qs.map V.int))/\F8 many wide rows qs.length qs) ?_ (fun dU=>?_)
 rotate_left
 ·refine pZ (fun mm σ' H'=>∃ (fa:Qu) (qs:LI) (i:Nat),mm=many-i/\σ'=[some (.ref r),some (.ref fa),some (.int i)]/\aB H H'/\H' fa=some (.lst (qs.map V.int))/\F8 many wide rows i qs/\i<=qs.length)
   ⟨_,L,[0],0,rfl,rfl,sL,ae,⟨by simp,fun q hq=>by rw[jJ.mp hq];omega,by simp,fun q hq=>by rw[jJ.mp hq];exact Reach.zero,rfl,fun j q hj=>by omega⟩,je _⟩ ?_
  rintro mm σ' H1 ⟨fa,qs,i,rfl,rfl,s1,hF,FD,hi⟩
  have lq:=bS many FD.nd FD.inr
  exists _,rfl,_,rfl,fa,_,rfl,.inl (bZ hF),_,_,rfl,rfl,_,rfl
  rw[bb]
  refine rK #[46] #[46]
  rotate_left
  ·have e:i=qs.length:=by omega
   subst e
   exact dU _ _ ⟨fa,qs,_,rfl,s1,hF,FD⟩
  have PD:i<qs.length:=by omega
  refine⟨fun σ' H'=>∃ m',m'<many-i/\∃ (fa:Qu) (qs:LI) (i:Nat),m'=many-i/\σ'=[some (.ref r),some (.ref fa),some (.int i)]/\aB H H'/\H' fa=some (.lst (qs.map V.int))/\F8 many wide rows i qs/\i<=qs.length,fun σ' H' h=>h,?_⟩
  have hq:=FD.inr qs[i] (jG PD)
  have hre:=FD.re qs[i] (jG PD)
  have l1:qs[i].toNat<rows.length:=by rw[R.len];omega
  obtain⟨ra,e1,e2⟩:=hA.get l1
  have lr:rows[qs[i].toNat].length=wide:=R.row _ (jG l1)
  have hra:=s1 _ _ e2
  have eg:qs.getD ((i:Nat):Int).toNat 0=qs[i]:=by rw[jB,getD_at PD]
  have e1':tW #[50] (qs.getD ((i:Nat):Int).toNat 0)=some (.ref ra):=by rw[eg];exact iJ hq.1 e1
  exists _,rfl,_,rfl,_,rfl,_,rfl,fa,_,_,_,rfl,rfl,bZ hF,cu #[0] #[0],r,_,_,_,rfl,rfl,cj (s1 _ _ mP),e1',ra,rfl,⟨_,cj hra⟩
  refine RG (K:=K) (xs:=rows[qs[i].toNat].map V.int) (fun D j ys H'=>aB H1 H'/\ys=((rows[qs[i].toNat].take j).filter fun q=>!decide (q∈qs)).map V.int) (fun D hD=>⟨ak hD _,rfl⟩) (fun D j ys H' _ p=>cj (p.1 _ _ hra)) ?_ ?_
  ·rintro D j x ys H' Qy Qn hD hx hy ⟨s2,rfl⟩ ky kn
   obtain⟨z,rfl,hz⟩:=bw hx
   have hjl:j<rows[qs[i].toNat].length:=(fV hz).1
   have tk:rows[qs[i].toNat].take (j+1)=rows[qs[i].toNat].take j++[z]:=by rw[jW,hz];rfl
   exists _,rfl,_,rfl,fa,_,rfl,.inl (bZ (s2 _ _ hF)),rfl,oQ _,_,rfl
   rw[if_pos rfl,W2]
   refine Ar #[46] #[46]
   ·refine⟨_,rfl,ky _ H' hy (ay ?_) ⟨ax s2 hD,?_⟩⟩
    ·rw[bb]
     refine ji (Jk _ _) ?_
     rw[jX]
     omega
    ·rw[tk,JW,jD]
     congr 1
     rw[JR (by simpa using c)]
     rfl
   ·refine kn H' hy ⟨s2,?_⟩
    rw[tk,JW,JN (by simpa using c),Zn,JA]
  rintro D ys H2 hD0 hD ⟨s2,rfl⟩
  rw[bb,jY]at hD
  generalize ag0:(rows[qs[i].toNat].filter fun q=>!decide (q∈qs))=new at hD
  have MV:∀ q,q∈new↔q∈rows[qs[i].toNat]/\q∉qs:=fun q=>by
   rw[<- ag0,JD]
   simp
  have aic:new.length<=wide:=by
   rw[<- ag0]
   refine ji (Jk _ _) (zx lr)
  have lon:=sC new
  refine⟨D,new,rfl,hD,by omega,fun S hS=>?_⟩
  refine⟨S,bp new,rfl,ae,by omega,fun l ms hl hp _=>?_⟩
  have s3:=(s2.trans (ak hS (IG P w S (bp new)))).trans (ak hl (HO.lst (ms.map V.int)))
  have Hw:∀ q,q∈ms↔q∈rows[qs[i].toNat]/\q∉qs:=fun q=>by rw[hp.mem_iff,sG,MV]
  have F2:F8 many wide rows (i+1) (qs++ms):=by
   have alT:∀ q∈qs++ms,0<=q/\q<(many:Int):=fun q BN=>by
    rcases tT.mp BN with z|z
    ·exact FD.inr q z
    ·exact R.val _ (jG l1) q ((Hw q).mp z).1
   refine⟨JU.mpr ⟨FD.nd,hp.nodup_iff.mpr (Og new),fun x hx y hy e=>?_⟩,alT,jz _ FD.z,fun q BN=>?_,by rw[JB (fV FD.hd).1];exact FD.hd,fun j q hj BN x hx=>?_⟩
   ·subst e
    exact((Hw x).mp hy).2 hx
   ·rcases tT.mp BN with z|z
    ·exact FD.re q z
    ·obtain⟨j,hj,e⟩:=jk ((Hw q).mp z).1
     have stp:stepI rows qs[i] (j:Int)=q:=by
      unfold stepI
      rw[getD_at l1,jB,getD_at hj]
      exact e
     rw[<- stp]
     exact hre.step #[0] #[0]
   ·have hjq:j<qs.length:=by omega
    rw[JB hjq]at BN
    rcases Zj.mp hj with hj|hj
    ·exact jz _ (FD.cl j q hj BN x hx)
    ·subst hj
     rw[jC PD]at BN
     cases BN
     rw[getD_at l1]at hx
     by_cases c:x∈qs
     ·exact jz _ c
     ·exact jR _ ((Hw x).mpr ⟨hx,c⟩)
  have lq2:=bS many F2.nd F2.inr
  rw[jL]at lq2
  refine⟨fa,l,_,_,rfl,rfl,s3 _ _ hF,ae,ji (show _<=1000 by rw[bb,bb];omega) #[8],fun p Mj=>?_⟩
  exists _,rfl,_,_,rfl,rfl
  refine⟨_,?_,p,qs++ms,i+1,rfl,?_,(s1.trans s3).trans (ak Mj _),?_,F2,by rw[jL];omega⟩
  ·omega
  ·rfl
  ·rw[ae,jD]
 rintro σ' H1 ⟨fa,qs,i,rfl,s1,hF,FD⟩
 refine⟨_,rfl,k fa _ qs s1 hF (fun q=>⟨FD.re q,fun h=>?_⟩) FD.nd FD.hd FD.inr (bS many FD.nd FD.inr)⟩
 refine Reach.of (S:=fun q=>q∈qs) FD.z (fun p hp f f0 f1=>?_) h
 obtain⟨j,hj,e⟩:=jk hp
 have Mj:=FD.inr p hp
 have l1:p.toNat<rows.length:=by rw[R.len];omega
 have lr:rows[p.toNat].length=wide:=R.row _ (jG l1)
 have hf:f.toNat<rows[p.toNat].length:=by omega
 refine FD.cl j p hj (by rw[jC hj,e]) _ ?_
 unfold stepI
 rw[getD_at l1,getD_at hf]
 exact jG hf
end
def Ri(K:Yv):Sp:=fun vs H Q _=>∃ (r b:Qu) (st:Int) (many wide:Nat) (cS:List Qu) (rows:LL) (ns:LI),vs=[.ref r,.ref b,.int st]/\H r=some (.tup #[50])/\aJ H cS rows/\aF many wide rows /\
 (lh K H b #[14]\/mT K H b #[14])/\(∀ z∈ns,0<=z/\z<(wide:Int))/\(0<=st/\st<(many:Int))/\Q (.int (aM rows ns st)) H
def DZ:Sp:=fun vs H Q _=>∃ (b:Qu) (n:Nat) (wd:Int) (ns:LI),vs=[.ref b,.int n,.int wd]/\H b=some (.tup #[14])/\ns.length=n/\(∀ z∈ns,0<=z/\z<wd)/\Q (.bl true) H
def L5:Sp:=fun vs H Q _=>∃ (m r g:Qu) (wide:Nat) (rows:LL) (signs:LI),vs=[.ref m,.int wide]/\bI H m r g wide rows signs/\aF rows.length wide rows/\0<rows.length/\signs.length=rows.length/\(∀ s∈signs,0<=s/\s<1000000) /\
 ∀ H',aB H H'->Q (.bl true) H'
def Q8:Sp:=fun vs H Q _=>∃ (r:Qu) (cS:List Qu) (wide:Nat) (rows:LL),vs=[.ref r]/\H r=some (.tup #[50])/\aJ H cS rows/\aF rows.length wide rows/\rows.length<=1000/\dy rows/\Q (.bl true) H
theorem su(K:Yv):yE K (.type "int") (.type "int")=some true:=by with_unfolding_all rfl
theorem pQ(K:Yv):yE K (.type "int") (.type "bool")=some false:=by with_unfolding_all rfl
section
theorem hU:aH ["_law_rows","_law_row","_law_at","_law_figure"] ["_law_rows","_law_row","_law_at"] (av sQ):=cW #[3]
theorem sW:aH ["_law_found","_law_many","_law_bound","_law_one"] ["_law_found","_law_many","_law_bound"] (av oG):=cW #[3]
theorem mK:aH ["_law_found","_law_wide","_law_row"] ["_law_found","_law_wide"] (av fZ):=cW #[3]
theorem di:aH ["_law_rows","_law_many","_law_q","_law_there_here"] ["_law_rows"] (av lH):=cW #[3]
theorem aab(F:bG K "_law_walk" "_law_walk" sQ dV f fd):bu P w K mg base eM 1 f fd ["_law_rows","_law_row","_law_at"] (Ri K):=by
 refine F.ok hU #[7] #[2]
 ·obtain⟨r,b,st,many,wide,cS,rows,ns,rfl,_⟩:=h
  rfl
 obtain⟨r,b,st,many,wide,cS,rows,ns,rfl,mP,hA,R,hb,oV,⟨s0,s1⟩,q⟩:=h
 have stp:∀ (i:Nat) (z:Int),ns[i]?=some z->∃ (ra:Qu) (rr:LI),tW #[50] (aM rows (ns.take i) st)=some (.ref ra)/\H ra=some (.tup (rr.map V.int))/\tW (rr.map V.int) z=some (.int (stepI rows (aM rows (ns.take i) st) z)):=fun i z hz=>by
  have w0:=dH R (ns:=ns.take i) (h:=st) (fun z hz=>oV z (ZH hz)) s0 s1
  have Fg:=oV z (oY hz)
  exact sN hA R w0.1 w0.2 Fg.1 Fg.2
 rcases hb with hb|hb
 ·refine⟨_,(ah (bX PassesOwn.never rfl (cC (pv 1)) (aS (i:=3) hU.nd) (ao (aC (i:=2) hU.nd (aN aO (aN aO (pv 0) (pv 2) #[5]) (pv 3) #[5]))))
   (ao (aL (pv 2)))),?_⟩
  refine⟨_,rfl,b,rfl,⟨_,hb⟩,dW (K:=K) (xs:=ns.map V.int) (fun i σ' H'=>∃ v,σ'=[some (.ref r),some (.ref b),some (.int (aM rows (ns.take i) st)),v]/\H'=H) ⟨none,rfl,rfl⟩ (fun i σ' H' _ ⟨_,_,e⟩=>by rw[e];exact hb) ?_ ?_⟩
  ·rintro i y σ' H' hi ⟨v,rfl,rfl⟩
   obtain⟨z,rfl,hz⟩:=bw hi
   obtain⟨ra,rr,e1,e2,e3⟩:=stp i z hz
   refine⟨_,rfl,_,rfl,r,_,_,_,rfl,rfl,cj mP,e1,_,rfl,ra,_,_,_,rfl,rfl,cj e2,e3,some (.int z),?_,rfl⟩
   rw[wO hz]
   rfl
  ·rintro σ' H' ⟨v,rfl,rfl⟩
   exists _,rfl
   rw[bb,jY]
   exact q
 ·refine⟨_,(ah (bX PassesOwn.never rfl (lF (pv 1)) (aS (i:=3) hU.nd) (ao (aC (i:=2) hU.nd (aN aO (aN aO (pv 0) (pv 2) #[5]) (pv 3) #[5]))))
   (ao (aL (pv 2)))),?_⟩
  refine⟨_,rfl,b,rfl,⟨_,hb⟩,tD (K:=K) (xs:=ns.map V.int) (fun i σ' H'=>∃ v,σ'=[some (.ref r),some (.ref b),some (.int (aM rows (ns.take i) st)),v]/\H'=H) ⟨none,rfl,rfl⟩ (fun i σ' H' _ ⟨_,_,e⟩=>by rw[e];exact hb) ?_ ?_⟩
  ·rintro i y σ' H' hi ⟨v,rfl,rfl⟩
   obtain⟨z,rfl,hz⟩:=bw hi
   obtain⟨ra,rr,e1,e2,e3⟩:=stp i z hz
   refine⟨_,rfl,_,rfl,r,_,_,_,rfl,rfl,cj mP,e1,_,rfl,ra,_,_,_,rfl,rfl,cj e2,e3,some (.int z),?_,rfl⟩
   rw[wO hz]
   rfl
  ·rintro σ' H' ⟨v,rfl,rfl⟩
   exists _,rfl
   rw[bb,jY]
   exact q
theorem Sq(F:bG K "_law_is_row" "_law_is_row" oG dV f fd)(aD:mg "isinstance" = none)(aK:mg "tuple" = none)(AO:mg "int" = none)(BF:mg "bool" = none)(bh:mg "len" = none):bu P w K mg base eM 1 f fd ["_law_found","_law_many","_law_bound"] DZ:=by
 refine F.ok sW #[7] #[2]
 ·obtain⟨b,n,wd,ns,rfl,_⟩:=h
  rfl
 obtain⟨b,n,wd,ns,rfl,hb,ln,oV,q⟩:=h
 refine⟨_,(ah (cz (PW.pt (rD (iB (fW (aA mw #[41] aD ba (aa (pv 0) (aa (oh (v:=.ty "tuple") rfl aK bH rfl) af))))) (sJ (aU FC #[35] (pv 1) (aY _))))) (ao (aL cU)) bg)
   (ah (bX PassesOwn.never rfl (lF (pv 0)) (aS (i:=3) sW.nd) (ao (cz (PW.pt (rD (iB (fW (aA mw #[41] aD ba (aa (pv 3) (aa (oh (v:=.ty "int") rfl AO Mv rfl) af))))) (rD (fW (aA mw #[41] aD ba (aa (pv 3) (aa (oh (v:=.ty "bool") rfl BF Pc rfl) af)))) (rD (aU Lx (pv 3) aq (aY _)) (sJ (aU P4 (pv 3) (pv 2) (aY _))))))) (ao (aL cU)) bg)))
   (ao (aL cU)))),?_⟩
 refine⟨_,rfl,_,_,_,_,rfl,oO.tup hb,lC K,_,rfl,ic ?_⟩
 refine⟨_,rfl,b,_,rfl,.inr (cj hb),_,rfl,rfl,_,rfl,Ar (fun z=>absurd (by rw[bb,ln]) z) (fun _=>?_)⟩
 refine⟨_,rfl,b,rfl,⟨_,cj hb⟩,tD (K:=K) (xs:=ns.map V.int) (fun i σ' H'=>∃ v,σ'=[some (.ref b),some (.int n),some (.int wd),v]/\H'=H) ⟨none,rfl,rfl⟩ (fun i σ' H' _ ⟨_,_,e⟩=>by rw[e];exact cj hb) ?_ ?_⟩
 ·rintro i y σ' H' hi ⟨v,rfl,rfl⟩
  obtain⟨z,rfl,hz⟩:=bw hi
  have zr:=oV z (oY hz)
  refine⟨_,rfl,_,_,_,_,rfl,oO.int z,su K,_,rfl,ic ?_⟩
  refine⟨_,rfl,_,_,_,_,rfl,oO.int z,pQ K,_,rfl,ic ?_⟩
  refine⟨_,rfl,_,_,rfl,rfl,_,rfl,rK (fun c=>by omega) (fun _=>?_)⟩
  exact⟨_,rfl,_,rfl,_,_,rfl,rfl,_,rfl,rK (fun c=>by omega) (fun _=>⟨_,rfl,rfl⟩)⟩
 ·rintro σ' H' ⟨v,rfl,rfl⟩
  exact q
theorem So(F:bG K "_law_is_machine" "_law_is_machine" fZ dV f fd)(cI:bO P w K mg base "_law_is_row" 1 ["_law_found","_law_many","_law_bound"] [] DZ)(aD:mg "isinstance" = none)(aK:mg "tuple" = none)(bh:mg "len" = none):bu P w K mg base eM 2 f fd ["_law_found","_law_wide"] L5:=by
 refine F.ok mK #[7] #[2]
 ·obtain⟨m,r,g,wide,rows,signs,rfl,_⟩:=h
  rfl
 obtain⟨m,r,g,wide,rows,signs,rfl,M,R,n0,ls,hs,k⟩:=h
 obtain⟨cS,mP,hA⟩:=M.rows
 have N1:cS.length=rows.length:=hA.length
 refine⟨_,(ah (cz (PW.pt (rD (iB (fW (aA mw #[41] aD ba (aa (pv 0) (aa (oh (v:=.ty "tuple") rfl aK bH rfl) af))))) (rD (aU FC #[35] aq (aY _)) (sJ (iB (fW (bC cI hr (aa (aal afy (pv 0) HQ (P9 aq)) (aa aq (aa (aE bx (pv 1) aq) af)))))))))) (ao (aL cU)) bg)
   (ah (cz (PW.pt (rD (aU FC #[17] (pv 1) (aY _)) (rD (iB (fW (aA mw #[41] aD ba (aa #[17] (aa (oh (v:=.ty "tuple") rfl aK bH rfl) af))))) (sJ (aU eP (aA aI #[41] bh bW (aa #[17] af)) aq (aY _)))))) (ao (aL cU)) bg)
   (ah (bX PassesOwn.never rfl (lF #[17]) (aS (i:=2) mK.nd) (ao (cz (iB (fW (bC cI hr (aa (pv 2) (aa (pv 1) (aa (aA aI #[41] bh bW (aa #[17] af)) af)))))) (ao (aL cU)) bg)))
   (ao (aL (bC cI hr (aa #[17] (aa (aA aI #[41] bh bW (aa #[17] af)) (aa aq af))))))))),?_⟩
 refine⟨_,rfl,_,_,_,_,rfl,oO.tup M.tup,lC K,_,rfl,ic ?_⟩
 refine⟨_,rfl,m,_,rfl,.inr (cj M.tup),rfl,_,rfl,Ar (fun z=>absurd rfl z) (fun _=>?_)⟩
 refine⟨_,rfl,1,rfl,m,_,rfl,.inr ⟨cj M.tup,(fun z=>by
   have e:(1:Nat)=3:=congrArg zE z
   omega),fun t ht=>?_⟩⟩
 have st:=ak ht (HO.tup [V.int wide])
 refine⟨_,rfl,_,_,rfl,rfl,t,1,_,[(wide:Int)],rfl,ae,rfl,fun z hz=>by rw[jJ.mp hz];omega,_,rfl,ic ?_⟩
 have M1:=M.same fun b xs e=>st _ _ e
 refine⟨_,rfl,m,_,_,_,rfl,rfl,cj M1.tup,rfl,_,rfl,rfl,_,rfl,Ar (fun z=>absurd rfl z) (fun _=>?_)⟩
 refine⟨_,rfl,m,_,_,_,rfl,rfl,cj M1.tup,rfl,_,_,_,_,rfl,oO.tup (st _ _ mP),lC K,_,rfl,ic ?_⟩
 refine⟨_,rfl,m,_,_,_,rfl,rfl,cj M1.tup,rfl,r,_,rfl,.inr (cj (st _ _ mP)),rfl,_,rfl,rK (fun z=>by
  have:=V.int.inj z
  rw[bb]at this
  omega) (fun _=>?_)⟩
 refine⟨_,rfl,m,_,_,_,rfl,rfl,cj M1.tup,rfl,r,rfl,⟨_,cj (st _ _ mP)⟩,tD (K:=K) (xs:=cS.map V.ref) (fun i σ' H'=>∃ v,σ'=[some (.ref m),some (.int wide),v]/\H'=upd H t (HO.tup [V.int wide])) ⟨none,rfl,rfl⟩ (fun i σ' H' _ ⟨_,_,e⟩=>by rw[e];exact cj (st _ _ mP)) ?_ ?_⟩
 ·rintro i y σ' H' hi ⟨v,rfl,rfl⟩
  have jl:i<rows.length:=by
   have:=(fV hi).1
   rw[bb]at this
   omega
  obtain⟨ra,e1,e2⟩:=hA.get jl
  have ey:y=.ref ra:=by rw[jV,e1]at hi;exact(Option.some.inj hi).symm
  subst ey
  refine⟨_,rfl,_,rfl,_,rfl,m,_,_,_,rfl,rfl,cj M1.tup,rfl,r,_,rfl,.inr (cj (st _ _ mP)),ra,wide,_,rows[i],rfl,st _ _ e2,R.row _ (jG jl),?_,_,rfl,ic ⟨_,rfl,rfl⟩⟩
  rw[bb,N1]
  exact R.val _ (jG jl)
 ·rintro σ' H' ⟨v,rfl,rfl⟩
  refine⟨_,rfl,m,_,_,_,rfl,rfl,cj M1.tup,rfl,_,rfl,m,_,_,_,rfl,rfl,cj M1.tup,rfl,r,_,rfl,.inr (cj (st _ _ mP)),g,#[50].length,1000000,signs,rfl,M1.sgn,by rw[bb,N1];exact ls,hs,k _ st⟩
theorem Z3(F:bG K "_law_in_order" "_law_in_order" lH dV f fd)(bh:mg "len" = none)(bj:mg "range" = none):bu P w K mg base eM 1 f fd ["_law_rows"] Q8:=by
 refine F.ok di #[7] #[2]
 ·obtain⟨r,cS,wide,rows,rfl,_⟩:=h
  rfl
 obtain⟨r,cS,wide,rows,rfl,mP,hA,R,l1,O,q⟩:=h
 have N1:cS.length=rows.length:=hA.length
 refine⟨_,(ah (aC (i:=1) di.nd aq)
   (ah (bX PassesOwn.never rfl (cx rfl bj (aa #[35] af)) (aS (i:=2) di.nd) (ah (cz (aU P4 (pv 2) (pv 1) (aY _)) (ao (aL cU)) bg)
   (ao (bX PassesOwn.never rfl (lF (aN aO (pv 0) (pv 2) #[5])) (aS (i:=3) di.nd) (ah (cz (aU FA (pv 3) (pv 1) (aY _)) (ao (aL cU)) bg)
   (ao (cz (aU eP (pv 3) (pv 1) (aY _)) (ao (aC (i:=1) di.nd (aE bx (pv 1) aq))) bg)))))))
   (ao (aL (lV eP (pv 1) #[35] (aY _)))))),?_⟩
 refine⟨_,rfl,r,_,rfl,.inr (cj mP),_,rfl,by rw[bb];omega,by rw[bb];omega,?_⟩
 rw[bb,N1]
 refine fu (fun i σ' H'=>∃ (m:Nat) (v2 v3:OV),σ'=[some (.ref r),some (.int m),v2,v3]/\H'=H/\bz i m (rows.drop i)=some rows.length) ⟨1,none,none,rfl,rfl,O⟩ ?_ ?_
 ·rintro i σ' H' hi ⟨m,v2,v3,rfl,rfl,o⟩
  rw[jB]at hi
  rw[Jo]
  rw[jy hi]at o
  obtain⟨im,m1,o1,o2⟩:=Ay o
  obtain⟨ra,e1,e2⟩:=hA.get hi
  refine⟨_,rfl,_,rfl,_,_,rfl,rfl,_,rfl,rK (fun c=>by omega) (fun _=>?_)⟩
  exists _,rfl,_,rfl,r,_,_,_,rfl,rfl,cj mP,iJ #[0] (by rw[jB];exact e1),ra,rfl,⟨_,cj e2⟩
  refine tD (K:=K) (xs:=rows[i].map V.int) (fun j σ' Cp=>∃ (m':Nat) (v3:OV),σ'=[some (.ref r),some (.int m'),some (.int i),v3]/\Cp=H'/\aR m' (rows[i].drop j)=some m1) ⟨m,v3,rfl,rfl,o1⟩ (fun j σ' Cp _ ⟨_,_,_,e,_⟩=>by rw[e];exact cj e2) ?_ ?_
  ·rintro j y σ' Cp hj ⟨m',v3,rfl,rfl,o3⟩
   obtain⟨t,rfl,ht⟩:=bw hj
   have jl:=fV ht
   rw[jy jl.1,jl.2]at o3
   have o4:(if t=(m':Int)then aR (m'+1) (rows[i].drop (j+1))else if t<(m':Int)then aR m' (rows[i].drop (j+1))else none)=some m1:=o3
   by_cases c:t=(m':Int)
   ·rw[if_pos c]at o4
    refine⟨_,rfl,_,rfl,_,_,rfl,rfl,_,rfl,rK (fun z=>by omega) (fun _=>?_)⟩
    refine⟨_,rfl,_,rfl,rfl,_,rfl,sj (fun _=>?_) (fun z=>absurd c z)⟩
    exact⟨_,rfl,_,_,rfl,rfl,m'+1,_,rfl,rfl,o4⟩
   ·rw[if_neg c]at o4
    by_cases d:t<(m':Int)
    ·rw[if_pos d]at o4
     refine⟨_,rfl,_,rfl,_,_,rfl,rfl,_,rfl,rK (fun z=>by omega) (fun _=>?_)⟩
     exact⟨_,rfl,_,rfl,rfl,_,rfl,sj (fun z=>absurd z c) (fun _=>⟨m',_,rfl,rfl,o4⟩)⟩
    ·rw[if_neg d]at o4
     cases o4
  ·rintro σ' Cp ⟨m',v3,rfl,rfl,o3⟩
   rw[bb,zA]at o3
   have e:m'=m1:=Option.some.inj o3
   subst e
   exact⟨m',_,_,rfl,rfl,o2⟩
 ·rintro σ' H' ⟨m,v2,v3,rfl,rfl,o⟩
  rw[jB,zA]at o
  have e:m=rows.length:=Option.some.inj o
  subst e
  exists _,rfl,_,rfl,r,_,rfl,.inr (cj mP),rfl
  rw[bb,N1,decide_eq_true rfl]
  exact q
end
def aaS:Sp:=fun vs H Q _=>∃ (many:Nat) (one other:Int),vs=[.int many,.int one,.int other]/\(1<=many/\many<=8) /\
 ∀ (m r g:Qu) (H':Hp),aB H H'->bI H' m r g 2 (lO many) (mz many one other)->Q (.ref m) H'
section
theorem AJ:aH ["_law_many","_law_one","_law_other","_law_rows"] ["_law_many","_law_one","_law_other"] (av iV):=cW #[3]
theorem rR:aZ ["_law_many","_law_one","_law_other","_law_rows"] (av iV) ["_law_q"] [none] ⟨.function,[#[60],("_law_q",.local)],false,false,[]⟩:=mC #[3]
theorem rS:aZ ["_law_many","_law_one","_law_other","_law_rows"] (av iV) ["_law_q","_law_one"] [none,some 1] ⟨.function,[#[60],("_law_q",.local),("_law_one",.free)],false,false,[]⟩:=mC #[3]
theorem acd(F:bG K "_law_late" "_law_late" iV dV f fd)(bj:mg "range" = none)(aK:mg "tuple" = none):bu P w K mg base eM 1 f fd ["_law_many","_law_one","_law_other"] aaS:=by
 refine F.ok AJ #[7] #[2]
 ·obtain⟨many,one,other,rfl,_⟩:=h
  rfl
 obtain⟨many,one,other,rfl,⟨m0,m1⟩,k⟩:=h
 refine⟨_,(ah (aC (i:=3) AJ.nd (aE HH (cM rfl rR (cx rfl bj (aa (aE HK (pv 0) aq) af)) (fun _ _ _ _=>(aS (i:=0) rR.nd)) (fun _ _ _ _=>(fh (aa (aE bx (pv 0) aq) (aa (aE bx (pv 0) aq) af))))) (cf (aa (fh (aa (pv 0) (aa (aE bx (pv 0) aq) af))) (aa (fh (aa (pv 0) (aa (pv 0) af))) (aa (fh (aa (aE bx (pv 0) aq) (aa (aE bx (pv 0) aq) af))) af))))))
   (ao (aL (fh (aa aq (aa (aW aP #[41] aK bH (aa (pv 3) af)) (aa (aW aP #[41] aK bH (aa (aE HH (cM rfl rS (cx rfl bj (aa (aE bx (pv 0) aq) af)) (fun _ _ _ _=>(aS (i:=0) rS.nd)) (fun _ _ _ _=>(pv 1))) (cf (aa (pv 2) af))) af)) af))))))),?_⟩
 have em:((many:Int)-1).toNat=many-1:=by omega
 refine⟨_,rfl,_,_,rfl,rfl,_,rfl,by omega,by omega,?_⟩
 refine ff (fun D i ys H'=>aB H H'/\∃ as:List Qu,ys=as.map V.ref/\aJ H' as ((jO i).map fun q:Nat=>[(q:Int)+1,(q:Int)+1])) (fun D hD=>⟨ak hD _,[],rfl,.nil⟩) ?_ ?_
 ·rintro D i ys H1 Q' hD hi hy ⟨s1,as,rfl,A1⟩ k'
  have la:as.length=i:=by rw[A1.length,bb,jT]
  refine⟨_,rfl,_,_,rfl,rfl,_,rfl,_,_,rfl,rfl,(by show 2<=sizeLine;decide),fun T hT=>?_⟩
  have sT:=ak hT (HO.tup [V.int (0+(i:Int)+1),V.int (0+(i:Int)+1)])
  have nD:D≠T:=ar hy hT
  refine k' _ _ (sT _ _ hy) (ay #[36]) ⟨ax (s1.trans sT) hD,as++[T],by rw[jD];rfl,?_⟩
  rw[JK,jD]
  have up:∀ b xs,H1 b=some #[42]->(upd (upd H1 T (.tup [V.int (0+(i:Int)+1),V.int (0+(i:Int)+1)])) D (.lst (as.map V.ref++[V.ref T]))) b=some #[42]:=fun b xs e=>by
   rw[aj (aG e hy #[1])];exact sT _ _ e
  refine aJ.snoc (A1.same up) ?_
  rw[aj (Ne.symm nD),ae,Jo]
  rfl
 rintro D ys H1 hD hy ⟨s1,as,rfl,A1⟩
 rw[em]at A1
 have la:as.length=many-1:=by rw[A1.length,bb,jT]
 refine⟨_,rfl,_,rfl,_,_,rfl,rfl,(by show 2<=sizeLine;decide),fun T1 hT1=>?_⟩
 have t1:=ak hT1 (HO.tup [V.int many,V.int ((many:Int)+1)])
 refine⟨_,rfl,_,rfl,(by show 2<=sizeLine;decide),fun T2 hT2=>?_⟩
 have t2:=ak hT2 (HO.tup [V.int many,V.int many])
 refine⟨_,rfl,_,_,rfl,rfl,_,rfl,_,_,rfl,rfl,(by show 2<=sizeLine;decide),fun T3 hT3=>?_⟩
 have t3:=ak hT3 (HO.tup [V.int ((many:Int)+1),V.int ((many:Int)+1)])
 refine⟨#[43],fun B hB=>?_⟩
 have t4:=ak hB (HO.lst [V.ref T1,V.ref T2,V.ref T3])
 have t14:=t1.trans (t2.trans (t3.trans t4))
 refine⟨D,B,_,_,rfl,rfl,t14 _ _ hy,ae,?_,fun R hR=>?_⟩
 ·rw[bb,la]
  exact ji (show many-1+3<=2000 by omega) #[8]
 have t5:=ak hR (HO.lst (as.map V.ref++[V.ref T1,V.ref T2,V.ref T3]))
 have A5:=A1.same fun b xs e=>t5 _ _ (t14 _ _ e)
 have A6:=aJ.snoc (aJ.snoc (aJ.snoc A5 (r:=[(many:Int),(many:Int)+1]) (t5 _ _ (t4 _ _ (t3 _ _ (t2 _ _ ae))))) (r:=[(many:Int),(many:Int)]) (t5 _ _ (t4 _ _ (t3 _ _ ae)))) (r:=[(many:Int)+1,(many:Int)+1]) (t5 _ _ (t4 _ _ ae))
 rw[jv,jv,jv,jv]at A6
 obtain⟨H5,e5⟩:∃ H5,upd (upd (upd (upd (upd H1 T1 (HO.tup [V.int many,V.int ((many:Int)+1)])) T2 (HO.tup [V.int many,V.int many])) T3 (HO.tup [V.int ((many:Int)+1),V.int ((many:Int)+1)])) B (HO.lst [V.ref T1,V.ref T2,V.ref T3])) R (HO.lst (as.map V.ref++[V.ref T1,V.ref T2,V.ref T3]))=H5:=⟨_,rfl⟩
 have hR5:H5 R=some (.lst ((as++[T1,T2,T3]).map V.ref)):=by rw[<- e5,ae,jD];rfl
 have s15:aB H1 H5:=by rw[<- e5];exact t14.trans t5
 rw[e5]at A6
 exists 16
 rw[e5]
 refine⟨_,rfl,R,_,rfl,.inl ⟨bZ hR5,fun rt hrt=>?_⟩⟩
 have s6:=ak hrt (HO.tup ((as++[T1,T2,T3]).map V.ref))
 have en:((many:Int)+1).toNat=many+1:=by omega
 refine⟨_,rfl,_,_,rfl,rfl,_,rfl,by omega,by omega,?_⟩
 refine ff (fun D i ys H'=>aB (upd H5 rt (HO.tup ((as++[T1,T2,T3]).map V.ref))) H'/\ys=(Jf i one).map V.int) (fun D hD=>⟨ak hD _,rfl⟩) ?_ ?_
 ·rintro D i ys H7 Q' hD hi hy ⟨s7,rfl⟩ k'
  refine⟨_,rfl,k' _ _ hy (ay (by rw[bb,Ja];omega)) ⟨ax s7 hD,?_⟩⟩
  rw[List.replicate_succ',jD]
  rfl
 rintro D2 ys H7 hD2 hy2 ⟨s7,rfl⟩
 rw[en]at hy2
 refine⟨_,rfl,(by show 1<=sizeLine;decide),fun B2 hB2=>?_⟩
 have s8:=ak hB2 (HO.lst [V.int other])
 refine⟨D2,B2,_,_,rfl,rfl,s8 _ _ hy2,ae,?_,fun C2 hC2=>?_⟩
 ·rw[bb,Ja]
  exact ji (show many+1+1<=2000 by omega) #[8]
 have s9:=ak hC2 (HO.lst ((Jf (many+1) one).map V.int++[V.int other]))
 have eS:(Jf (many+1) one).map V.int++[V.int other]=(mz many one other).map V.int:=by unfold mz;rw[jD];rfl
 rw[eS]at s9 ⊢
 refine⟨C2,_,rfl,.inl ⟨bZ ae,fun g hg=>?_⟩⟩
 have s10:=ak hg (HO.tup ((mz many one other).map V.int))
 refine⟨#[43],fun m hm=>?_⟩
 have s11:=ak hm (HO.tup [V.int 2,V.ref rt,V.ref g])
 have afu:=s7.trans (s8.trans (s9.trans (s10.trans s11)))
 refine k m rt g _ (((s1.trans s15).trans s6).trans afu) ⟨ae,⟨as++[T1,T2,T3],afu _ _ ae,?_⟩,s11 _ _ ae⟩
 exact aJ.same A6 fun b xs e=>afu _ _ (s6 _ _ e)
end
section
theorem iI.back(T:iI wide rows au signs az)(hu:ou wide u)(hv:ou wide v):My.sgn signs (aM rows u.reverse (aM rows v 0))=My.sgn az (aM au v.reverse (aM au u 0)):=by
 have:=T.turned (u++v.reverse) (hu.app hv.rev)
 rw[QG,zT,bN,bN]at this
 exact this
def ml(wide:Nat)(rows au:LL)(signs:LI)(Tm:Nat->Int->Int):Prop := ∀ (r:Nat) (u:LI) (q:Int),r<au.length->ou wide u->aM au u 0=(r:Int)->Reach wide rows q->Tm r q=sgn signs (aM rows u.reverse q)
theorem iI.keeps(T:iI wide rows au signs az):∃ Tm,ml wide rows au signs Tm:=by
 obtain⟨us,hus⟩:=Fv T.ok T.ord
 refine⟨fun r q=>My.sgn signs (aM rows (us r).reverse q),fun r u q hr hu e ⟨v,hv,eq⟩=>?_⟩
 obtain⟨h1,h2⟩:=hus r hr
 show My.sgn signs (aM rows (us r).reverse q)=_
 rw[<- eq,T.back h1 hv,T.back hu hv,e,h2]
variable{Tm:Nat->Int->Int}
theorem ml.zero(h:ml wide rows au signs Tm)(n0:0<au.length)(hq:Reach wide rows q):Tm 0 q=sgn signs q:=h 0 [] q n0 (fun f hf=>by cases hf) rfl hq
theorem ml.step(h:ml wide rows au signs Tm)(T:iI wide rows au signs az){r s f:Nat}{q:Int}(hr:r<au.length)(hf:f<wide)(e:stepI au (r:Int) (f:Int)=(s:Int))(hq:Reach wide rows q):Tm s q=Tm r (stepI rows q (f:Int)):=by
 obtain⟨u,hu,eu⟩:=T.ord.lX T.ok r hr
 have hs:=dk T.ok (h:=(r:Int)) (f:=(f:Int)) #[0] #[0] #[0] #[0]
 have hf':ou wide [(f:Int)]:=fun x hx=>by rw[jJ.mp hx];exact⟨by omega,by omega⟩
 rw[h s (u++[(f:Int)]) q #[0] (hu.app hf') (by rw[bN,eu];exact e) hq,QG,h r u _ hr hu eu (hq.step #[0] #[0])]
 rfl
theorem ml.head(h:ml wide rows au signs Tm)(T:iI wide rows au signs az)(hr:r<au.length):Tm r 0=sgn az (r:Int):=by
 obtain⟨u,hu,eu⟩:=T.ord.lX T.ok r hr
 have:=T.back hu (v:=[]) (fun f hf=>by cases hf)
 rw[h r u 0 hr hu eu Reach.zero,<- eu]
 exact this
theorem ml.apart(h:ml wide rows au signs Tm)(T:iI wide rows au signs az){s:Nat}(hr:r<au.length)(hs:s<au.length)(e:∀ q,Reach wide rows q->Tm r q=Tm s q):r=s:=by
 obtain⟨u,hu,eu⟩:=T.ord.lX T.ok r hr
 obtain⟨u',PK,eu'⟩:=T.ord.lX T.ok s hs
 have:=T.apart (r:Int) (s:Int) ⟨by omega,by omega⟩ ⟨by omega,by omega⟩ fun n v hv _=>by
  have q:=e (aM rows v.reverse 0) ⟨v.reverse,hv.rev,rfl⟩
  rw[h r u _ hr hu eu ⟨v.reverse,hv.rev,rfl⟩,h s u' _ hs PK eu' ⟨v.reverse,hv.rev,rfl⟩,T.back hu hv.rev,T.back PK hv.rev,zT,eu,eu']at q
  exact q
 omega
def dF(qs:LI)(Tm:Nat->Int->Int)(r:Nat):LI:=qs.map (Tm r)
theorem W8(h:ml wide rows au signs Tm)(T:iI wide rows au signs az)(hq:∀ q,q∈qs↔Reach wide rows q):((jO au.length).map (dF qs Tm)).Nodup:=by
 refine Jv.mpr (List.Pairwise.imp_of_mem ?_ QV)
 intro r s hr hs ne e
 refine ne (h.apart T (jq.mp hr) (jq.mp hs) fun q BN=>?_)
 have:=List.map_inj_left.mp (show qs.map (Tm r)=qs.map (Tm s)from e) q ((hq q).mpr BN)
 exact this
end
def FR(C:Qu):Sp:=fun vs H Q _=>∃ ea d:Qu,vs=[.ref ea]/\H ea=some (.ext (wR ea C d))/\∀ H',aB H H'->Q (.bl false) H'
def D9:Sp:=fun vs H Q _=>∃ (m r g:Qu) (many wide most n:Nat) (rows au:LL) (signs az:LI),vs=[.ref m,.int most]/\bI H m r g wide rows signs/\aF many wide rows/\signs.length=many/\(1<=many/\many<1000)/\wide<=1000/\(1<=most/\most<=1000)/\En wide rows au signs az n/\most<n/\∀ H',aB H H'->Q (.bl true) H'
theorem Eo:qf "ValueError" = some (.type "ValueError"):=by decide +kernel
theorem En.tur(h:En wide rows au signs az n):iI wide rows au signs az/\au.length=n:=by
 obtain⟨lP,ps,eK,LO,G,el,en,es⟩:=h.ex
 have TO:=acT LO.ok LO.pos LO.sgn LO.ord G el
 rw[es]
 refine⟨⟨TO.ok,TO.pos,TO.sgn,TO.ord,TO.apart,fun v hv=>?_⟩,by omega⟩
 rw[LO.tells v.reverse fun x hx=>hv x (zS.mp hx)]
 exact TO.turned v hv
theorem En.one{cP:LL}{oJ:LI}{n1 n2:Nat}(h1:En wide rows lP signs eK n1)(h2:En wide rows cP signs oJ n2):lP=cP/\eK=oJ/\n1=n2:=by
 obtain⟨T1,e1⟩:=h1.tur
 obtain⟨T2,e2⟩:=h2.tur
 obtain⟨a,b⟩:=cH.one T1.self T2.self fun v hv=>(T1.turned v hv).symm.trans (T2.turned v hv)
 exact⟨a,b,by rw[<- e1,<- e2,a]⟩
theorem En.all(h:En wide rows au signs az n)(LO:cH wide rows lP signs eK)(nd:ps.Nodup)(re:∀ p∈ps,∃ v,ou wide v/\LG (cY lP) eK v=p):ps.length<=n:=by
 obtain⟨cP,qs,oJ,LO2,G,el,en,es⟩:=h.ex
 obtain⟨e1,e2⟩:=LO.one LO2 fun v hv=>rfl
 subst e1 e2
 rw[<- en]
 refine wL nd fun p hp=>?_
 obtain⟨v,hv,rfl⟩:=re p hp
 obtain⟨k,_,e⟩:=G.told el hv
 exact oY e
section
variable{D1 D2 D3 D4 D5 D6 D7 D8:Qu}
theorem mL:aH ["_law_e","_law_kinds"] ["_law_e"] (av oH):=cW #[3]
theorem eX:aH ["_law_machine_here","_law_most","_law_seen","_law_e"] ["_law_machine_here","_law_most"] (av mJ):=cW #[3]
theorem Ob(F:bG K "_law_others" "_law_others" oH dV f fd)(c:CW K C)(sd:mg "NoFigures" = some (.ref D1))(se:mg "NoMachine" = some (.ref D2))(Dk:mg "NoName" = some (.ref D3))(Bg:mg "NoPower" = some (.ref D4))(Ht:mg "NoRow" = some (.ref D5))(Dm:mg "NoSome" = some (.ref D6))(Dn:mg "NoText" = some (.ref D7))(Bh:mg "TooWide" = some (.ref D8))(n1:yE K #[30] (.ref D1)=some false)(n2:yE K #[30] (.ref D2)=some false)(n3:yE K #[30] (.ref D3)=some false)(n4:yE K #[30] (.ref D4)=some false)(n5:yE K #[30] (.ref D5)=some false)(n6:yE K #[30] (.ref D6)=some false)(n7:yE K #[30] (.ref D7)=some false)(n8:yE K #[30] (.ref D8)=some false)(aD:mg "isinstance" = none):IA P w K mg base eM 1 f fd ["_law_e"] (FR C):=by
 refine F.okH mL #[7] #[2]
 ·obtain⟨ea,d,rfl,_⟩:=h
  rfl
 obtain⟨ea,d,rfl,he,q⟩:=h
 refine⟨_,(ah (aC (i:=1) mL.nd (cf (aa (aA (eN K) #[41] aD ba (aa (pv 0) (aa (lW (v:=.ref _) rfl sd rfl) af))) (aa (aA (eN K) #[41] aD ba (aa (pv 0) (aa (lW (v:=.ref _) rfl se rfl) af))) (aa (aA (eN K) #[41] aD ba (aa (pv 0) (aa (lW (v:=.ref _) rfl Dk rfl) af))) (aa (aA (eN K) #[41] aD ba (aa (pv 0) (aa (lW (v:=.ref _) rfl Bg rfl) af))) af))))))
   (ah (aC (i:=1) mL.nd (aE HH (pv 1) (cf (aa (aA (eN K) #[41] aD ba (aa (pv 0) (aa (lW (v:=.ref _) rfl Ht rfl) af))) (aa (aA (eN K) #[41] aD ba (aa (pv 0) (aa (lW (v:=.ref _) rfl Dm rfl) af))) (aa (aA (eN K) #[41] aD ba (aa (pv 0) (aa (lW (v:=.ref _) rfl Dn rfl) af))) (aa (aA (eN K) #[41] aD ba (aa (pv 0) (aa (lW (v:=.ref _) rfl Bh rfl) af))) af)))))))
   (ao (aL (lV Sx cU (pv 1) (by with_unfolding_all rfl)))))),?_⟩
 refine⟨_,rfl,ea,C,d,_,_,_,rfl,he,c,rfl,n1,_,rfl,ea,C,d,_,_,_,rfl,he,c,rfl,n2,_,rfl,ea,C,d,_,_,_,rfl,he,c,rfl,n3,_,rfl,ea,C,d,_,_,_,rfl,he,c,rfl,n4,(by show 4<=sizeLine;decide),fun l1 h1=>?_⟩
 have s1:=ak h1 (HO.lst [.bl false,.bl false,.bl false,.bl false])
 have e1:=s1 _ _ he
 refine⟨_,rfl,_,rfl,ea,C,d,_,_,_,rfl,e1,c,rfl,n5,_,rfl,ea,C,d,_,_,_,rfl,e1,c,rfl,n6,_,rfl,ea,C,d,_,_,_,rfl,e1,c,rfl,n7,_,rfl,ea,C,d,_,_,_,rfl,e1,c,rfl,n8,(by show 4<=sizeLine;decide),fun l2 h2=>?_⟩
 have s2:=ak h2 (HO.lst [.bl false,.bl false,.bl false,.bl false])
 refine⟨l1,l2,_,_,rfl,rfl,s2 _ _ ae,ae,(by show 8<=sizeLine;decide),fun l3 h3=>?_⟩
 have s3:=ak h3 (HO.lst [.bl false,.bl false,.bl false,.bl false,.bl false,.bl false,.bl false,.bl false])
 have sA:=s1.trans (s2.trans s3)
 exact⟨_,rfl,l3,_,rfl,.inl (bZ ae),rfl,rfl,q _ sA⟩
theorem Lv(F:bG K "_law_refused" "_law_refused" mJ dV f fd)(xc:CW K C)(xi:BI K C f0)(na:yB K #[30] "most" = some none)(dJ:mg "FigureError" = some (.ref F0))(pK:mg "TooGreat" = some #[30])(xm:XF K #[30] #[30]=some true)(kf:yE K #[30] (.ref F0)=some true)(kv:yE K #[30] (.type "ValueError")=some true)(sZ:rM P w K mg base "turned" 6 ["machine","most"] [] (pq C))(mS:rM P w K mg base "turned" 6 ["machine","most"] [.int 200] (pq C))(mi:adA P w K mg base "_law_others" 1 ["_law_e"] [] (FR C))(cI:bO P w K mg base "_law_is_row" 1 ["_law_found","_law_many","_law_bound"] [] DZ)(aD:mg "isinstance" = none)(rb:mg "ValueError" = none):bu P w K mg base eM 7 f fd ["_law_machine_here","_law_most"] D9:=by
 refine F.ok eX #[7] #[2]
 ·obtain⟨m,r,g,many,wide,most,n,rows,au,signs,az,rfl,_⟩:=h
  rfl
 obtain⟨m,r,g,many,wide,most,n,rows,au,signs,az,rfl,M,R,ls,n1,w1,m1,TF,lt,k⟩:=h
 have hu:=hr.aa6
 refine⟨_,(ah (aC (i:=2) eX.nd (cf (aa aq (aa cU (aa cU af)))))
   (ah (acx (i:=3) eX.nd rfl rfl pK xm (HW (afm (aU eP (pv 1) aq (aY _)) (HW (LN (FJ mS hr (aa (pv 0) af)))) (HW (LN (FJ sZ hr (aa (pv 0) (aa (pv 1) af))))))) (fun _=>(ao (aC (i:=2) eX.nd (cf (aa (acn K (pv 3)) (aa (HL (aA (eN K) #[41] aD ba (aa (pv 3) (aa (lW (v:=.ref _) rfl dJ rfl) af))) (HN (aA (eN K) #[41] aD ba (aa (pv 3) (aa (oh (v:=.ty "ValueError") rfl rb Eo rfl) af))))) (aa (aiv mi hr.held (aa (pv 3) af)) af))))))))
   (ao (aL (HL (lV (ae0 hu) (pv 2) (cf (aa (pv 1) (aa cU (aa cU af)))) (aY _)) (HN (bC cI hr (aa (fh (aa (aN dS (pv 2) aq #[5]) af)) (aa aq (aa (aE bx (pv 1) aq) af)))))))))),?_⟩
 refine⟨#[43],fun l0 h0=>?_⟩
 have s0:=ak h0 (HO.lst [.int 0,.bl false,.bl true])
 have M0:=M.same fun b xs e=>s0 _ _ e
 have no:∀ (Y0:Nat),Y0<n->∀ (cP:LL) (oJ:LI) (n2:Nat),En wide rows cP signs oJ n2->n2<=Y0->False:=fun Y0 l cP oJ n2 T2 l2=>by
  have:=(TF.one T2).2.2
  omega
 refine⟨_,rfl,rfl,_,rfl,sj (fun c=>⟨_,rfl,m,r,g,many,wide,most,rows,signs,(by show [V.ref m,V.int 200]=[V.ref m,V.int (most:Int)];rw[c]),M0,R,ls,n1,w1,m1,fun m' r' g' cP oJ n2 H1 _ _ T2 l2=>(no most lt cP oJ n2 T2 l2).elim,fun d H1 lP eK _ s1 _ hd _ _ _=>⟨rfl,d,rfl,fun ea hea=>?_⟩⟩)
  (fun c=>⟨_,rfl,_,rfl,m,r,g,many,wide,most,rows,signs,rfl,M0,R,ls,n1,w1,m1,fun m' r' g' cP oJ n2 H1 _ _ T2 l2=>(no most lt cP oJ n2 T2 l2).elim,fun d H1 lP eK _ s1 _ hd _ _ _=>⟨rfl,d,rfl,fun ea hea=>?_⟩⟩)⟩
 all_goals
  have sE:=s0.trans (s1.trans (ak hea (HO.ext (wR ea C d))))
  have Mi:(upd H1 ea (HO.ext (wR ea C d))) d=some (.xd [("most",.int most)]):=by rw[aj (ar hd hea)];exact hd
  exists _,rfl,ea,C,d,f0,_,_,rfl,ae,Mi,xi,na,rfl
  refine⟨_,rfl,ea,C,d,_,_,_,rfl,ae,xc,rfl,kf,_,rfl,Dx ⟨_,rfl,ea,C,d,_,_,_,rfl,ae,xc,rfl,kv,?_⟩⟩
  refine⟨_,rfl,ea,d,rfl,ae,fun H2 s2=>?_⟩
  refine⟨#[43],fun l2 h2=>?_⟩
  have s3:=sE.trans (s2.trans (ak h2 (HO.lst [.int most,.bl true,.bl false])))
  refine⟨_,rfl,_,rfl,#[43],fun l3 h3=>?_⟩
  have s4:=ak h3 (HO.lst [.int most,.bl true,.bl false])
  exists l2,l3,_,_,rfl,rfl,bZ (s4 _ _ ae),bZ ae,rfl,rfl
  rw[show tN [V.int (most:Int),V.bl true,V.bl false] [V.int (most:Int),V.bl true,V.bl false]=true by simp[tN,E1]]
  refine⟨_,rfl,Dx ⟨_,rfl,l2,_,_,_,rfl,rfl,bZ (s4 _ _ ae),rfl,(by show 1<=sizeLine;decide),fun T hT=>?_⟩⟩
  have s5:=ak hT (HO.tup [.int most])
  exact⟨_,rfl,_,_,rfl,rfl,T,1,_,[(most:Int)],rfl,ae,rfl,fun z hz=>by rw[jJ.mp hz];omega,k _ ((s3.trans s4).trans s5)⟩
end
theorem FN{v:V}{u:TS}{D:Ends}(h:u D (σ.set i (some v)) H):OM (wM (tC v) (bB i)) u D σ H:=h
def Q9(K:Yv):Sp:=fun vs H Q _=>∃ (a m r g m' r' g':Qu) (many wide:Nat) (rows au:LL) (signs az ns:LI),vs=[.ref a,.ref m,.ref m']/\lh K H a #[14]/\ns.length<=63/\bI H m r g wide rows signs/\aF many wide rows/\signs.length=many/\(1<=many/\many<=1000)/\(1<=wide/\wide<=1000)/\bI H m' r' g' wide au az/\iI wide rows au signs az/\∀ H',aB H H'->Q (.bl true) H'
section
theorem ck:aH ["_law_script","_law_machine_here","_law_found","_law_wide","_law_rows","_law_signs_here","_law_row","_law_number","_law_here","_law_left"] ["_law_script","_law_machine_here","_law_found"] (av oo):=cW #[3]
theorem rT:aZ ["_law_script","_law_machine_here","_law_found","_law_wide","_law_rows","_law_signs_here","_law_row","_law_number","_law_here","_law_left"] (av oo) ["_law_k","_law_script","_law_wide"] [none,some 0,some 3] ⟨.function,[#[60],("_law_k",.local),("_law_draw",.globalImplicit),("_law_script",.free),("_law_wide",.free)],false,false,[]⟩:=mC #[3]
theorem Z4(F:bG K "_law_read" "_law_read" oo dV f fd)(aQ:bO P w K mg base "_law_draw" 1 ["_law_script","_law_k"] [] (BC K))(AW:bO P w K mg base "told" 2 ["machine","row"] [] (OI K))(rP:bO P w K mg base "_law_walk" 1 ["_law_rows","_law_row","_law_at"] [] (Ri K))(rQ:bO P w K mg base "sign_down" 5 ["machine","number"] [] (aaW K Qo))(bh:mg "len" = none)(F5:mg "min" = none)(bj:mg "range" = none)(fq:mg "list" = none)(iG:mg "reversed" = none):bu P w K mg base eM 6 f fd ["_law_script","_law_machine_here","_law_found"] (Q9 K):=by
 refine F.ok ck #[7] #[2]
 ·obtain⟨a,m,r,g,m',r',g',many,wide,rows,au,signs,az,ns,rfl,_⟩:=h
  rfl
 obtain⟨a,m,r,g,m',r',g',many,wide,rows,au,signs,az,ns,rfl,hS,Eh,M,R,ls,n1,w1,M',T,k⟩:=h
 obtain⟨cS,mP,hA⟩:=M.rows
 refine⟨_,(ah (HS (pv 1) (wG rfl (bL (aS (i:=3) ck.nd) (bL (aS (i:=4) ck.nd) (bL (aS (i:=5) ck.nd) oj)))))
   (ah (iA (i:=6) rfl ck.nd rfl (Or.inl rfl) rT (cx rfl bj (aa (aA (ET rfl) #[41] F5 Ti (aa #[35] (aa aq af))) af)) (fun _ _ _ _=>(aS (i:=0) rT.nd)) (fun _ _ _ _=>(aE cw (aE DL (bC aQ hr (aa (pv 1) (aa (pv 0) af))) aq) (pv 2))))
   (ah (cz (aU FC (bC AW hr (aa (pv 2) (aa (pv 6) af))) (aN aO (pv 5) (bC rP hr (aa (pv 4) (aa (Oo rfl rfl fq rfl iG (aa (pv 6) af)) (aa aq af)))) #[5]) (aY _)) (ao (aL cU)) bg)
   (ah (cz (aU eP (pv 3) aq (aY _)) (ao (aL cU)) bg)
   (ah (aC (i:=7) ck.nd aq)
   (ah (cz (aU FA #[35] aq (aY _)) (ao (aC (i:=7) ck.nd (aE cw (aN dS (pv 0) (aan OW aq) #[5]) (aE ae4 aq aq)))) bg)
   (ah (aC (i:=8) ck.nd aq)
   (ah (aC (i:=9) ck.nd (pv 7))
   (ah (mE PassesOwn.never (aU FA (pv 9) aq (aY _)) (ah (aC (i:=8) ck.nd (aN aO (aN aO (pv 4) (pv 8) #[5]) (aE cw (pv 9) (pv 3)) #[5]))
   (ao (aC (i:=9) ck.nd (aE DL (pv 9) (pv 3))))))
   (ao (aL (lV eP (bC rQ hr (aa (pv 2) (aa (pv 7) af))) (aN aO (pv 5) (pv 8) #[5]) (aY _))))))))))))),?_⟩
 exists _,rfl,m,_,rfl,cj M.tup,rfl,_,_,rfl,_,_,rfl,_,_,rfl,rfl
 have adT:(if (300:Int)<((#[14].length:Nat):Int)then(300:Int)else((#[14].length:Nat):Int))=(ns.length:Int):=by rw[bb,if_neg #[0]]
 refine⟨_,rfl,a,_,rfl,.inl hS,_,_,rfl,_,rfl,by rw[adT];omega,by rw[adT];omega,?_⟩
 rw[adT]
 refine ff (fun D i ys H'=>aB H H'/\ys.length=i/\dM 0 wide ys) (fun D hD=>⟨ak hD _,rfl,dM.nil⟩) ?_ ?_
 ·rintro D i ys H' Q' hD hi hy ⟨hs,hl',hZ⟩ k'
  rw[jB]at hi
  refine⟨_,rfl,_,rfl,a,_,ns,rfl,hs.seq hS,Eh,by omega,by omega,fun v v0 v1=>?_⟩
  have rr:=dY (a:=v / 1009) (b:=(wide:Int)) #[0]
  exact⟨_,_,rfl,rfl,⟨by decide,by decide +kernel⟩,_,rfl,_,_,rfl,rfl,#[0],k' _ H' hy (ay #[0]) ⟨ax hs hD,by simp[hl'],hZ.snoc rr.1 rr.2⟩⟩
 rintro W ys H1 hW0 hW ⟨s1,MU,T8⟩
 obtain⟨row,rfl,abR⟩:=T8.ints
 exists 16
 exists _,rfl,_,rfl,m',r',g',W,au.length,wide,au,az,row,rfl,M'.same (fun b xs e=>s1 _ _ e),T.ok,T.sgn,T.pos,.inl (bZ hW),abR
 refine⟨_,rfl,_,rfl,_,rfl,W,_,rfl,bZ hW,fun l hl=>?_⟩
 have sl:=ak hl (HO.lst (row.map V.int).reverse)
 have s2:=s1.trans sl
 have aeJ:ou wide row:=abR
 have w0:=dH R (ns:=row.reverse) (h:=0) aeJ.rev #[8] #[0]
 refine⟨r,l,0,many,wide,cS,rows,row.reverse,rfl,s2 _ _ mP,hA.same (fun b xs e=>s2 _ _ e),R,.inl (bZ (by rw[ae,QY])),aeJ.rev,⟨by decide,by omega⟩,?_⟩
 refine⟨g,_,_,_,rfl,rfl,cj (s2 _ _ M.sgn),cu w0.1 #[0],rfl,_,rfl,Ar (fun z=>absurd (congrArg V.int (T.turned row aeJ).symm) z) (fun _=>?_)⟩
 refine⟨_,rfl,rfl,_,rfl,sj (fun c=>k _ s2) #[46]⟩
 obtain⟨H2,Ho⟩:∃ H2,upd H1 l (HO.lst (row.map V.int).reverse)=H2:=⟨_,rfl⟩
 rw[Ho]at s2 ⊢
 have hr2:=s2 _ _ mP
 have A2:=hA.same fun b xs e=>s2 _ _ e
 exists 16
 refine FN ?_
 refine eO (t:=OL _ _ _) (fun σ' H'=>∃ nm:Int,σ'=[some (.ref a),some (.ref m),some (.ref m'),some (.int wide),some (.ref r),some (.ref g),some (.ref W),some (.int nm),none,none]/\H'=H2/\0<=nm/\nm<10^60) ?_ (fun D' dU=>?_)
 rotate_left
 ·refine⟨_,rfl,a,_,rfl,.inl (s2.seq hS),_,_,rfl,rfl,_,rfl,rK #[46] #[46]⟩
  ·rcases DE ns with rfl|⟨rr,z,rfl⟩
   ·exact absurd c #[8]
   ·have ix:tW ((rr++[z]).map V.int) (-1)=some (.int z):=by
     rw[jD]
     exact IP _ _
    have rm:=dY (a:=z) (b:=10^60) #[8]
    exact⟨_,rfl,_,rfl,a,_,_,_,rfl,rfl,s2.seq hS,ix,_,_,rfl,rfl,⟨by decide,by decide,by decide⟩,_,_,rfl,rfl,(by show(0:Int)<10^60;decide),dU _ _ ⟨_,rfl,rfl,rm.1,rm.2⟩⟩
  ·exact dU _ _ ⟨0,rfl,rfl,by decide,by decide⟩
 rintro σ' H' ⟨nm,rfl,rfl,z0,z1⟩
 refine FN ?_
 exists _,rfl
 have w2:(2:Int)<=(wide:Int):=by
  have:(wide:Int)≠1:=c
  omega
 have wB:(wide:Int)<OZ:=by
  have:(1001:Int)<OZ:=by decide +kernel
  omega
 exists 16
 refine eO (t:=pX _ _) (fun σ' Cp=>∃ es:LI,σ'=[some (.ref a),some (.ref m),some (.ref m'),some (.int wide),some (.ref r),some (.ref g),some (.ref W),some (.int nm),some (.int (aM rows es 0)),some (.int 0)]/\Cp=H'/\F7 wide nm es) ?_ (fun D' dU=>?_)
 rotate_left
 ·refine pZ (fun mm σ' Cp=>∃ (cur:Int) (es:LI),mm=cur.toNat/\σ'=[some (.ref a),some (.ref m),some (.ref m'),some (.int wide),some (.ref r),some (.ref g),some (.ref W),some (.int nm),some (.int (aM rows es 0)),some (.int cur)]/\Cp=H'/\0<=cur/\Cq wide es/\dE wide es+(wide:Int)^es.length*cur=nm/\(∀ d,es.getLast?=some d->cur=0->d≠0))
   ⟨_,nm,[],rfl,rfl,rfl,z0,Cq.nil,by simp[dE],(fun d z=>by cases z)⟩ ?_
  rintro mm σ' Cp ⟨cur,es,rfl,rfl,rfl,c0,oV,hv,alG⟩
  refine⟨_,rfl,_,_,rfl,rfl,_,rfl,rK #[46] #[46]⟩
  ·have c':0<cur:=c
   have rm:=dY (a:=cur) (b:=(wide:Int)) #[0]
   have dv:=Zu cur wide
   have dlt:cur / wide<cur:=Zt #[0] (by
    have:cur*2<=cur*wide:=Int.mul_le_mul_of_nonneg_left w2 c0
    omega)
   have d0:0<=cur / wide:=Qc c0 #[0]
   have wk:=dH R (ns:=es) (h:=0) oV #[8] #[0]
   obtain⟨ra,rr,e1,e2,e3⟩:=sN A2 R wk.1 wk.2 rm.1 rm.2
   refine⟨fun σ' Hz=>∃ m2,m2<cur.toNat/\∃ (cur:Int) (es:LI),m2=cur.toNat/\σ'=[some (.ref a),some (.ref m),some (.ref m'),some (.int wide),some (.ref r),some (.ref g),some (.ref W),some (.int nm),some (.int (aM rows es 0)),some (.int cur)]/\Hz=Cp/\0<=cur/\Cq wide es/\dE wide es+(wide:Int)^es.length*cur=nm/\(∀ d,es.getLast?=some d->cur=0->d≠0),fun σ' H' h=>h,?_⟩
   exists _,rfl,_,rfl,r,_,_,_,rfl,rfl,cj hr2,e1,_,rfl,_,rfl,_,_,rfl,rfl,#[0],ra,_,_,_,rfl,rfl,cj e2,e3
   refine⟨_,rfl,_,rfl,_,_,rfl,rfl,⟨by omega,wB⟩,(cur / wide).toNat,by omega,cur / wide,es++[cur%wide],rfl,?_,rfl,d0,fun y hy=>?_,?_,fun d hd z=>?_⟩
   ·rw[bN]
    rfl
   ·rcases tT.mp hy with z|z
    ·exact oV y z
    ·rw[jJ.mp z];exact rm
   ·rw[FY,jL,js,Qm,QC,QB,QL (cur%wide),<- QS,dv]
    exact hv
   ·rw[List.getLast?_append,List.getLast?_singleton]at hd
    cases(show cur%wide=d from Option.some.inj hd)
    rw[z,Qp,QN]at dv
    omega
  ·have z:cur=0:=by omega
   subst z
   exact dU _ _ ⟨es,rfl,rfl,⟨oV,by rw[Qp,QN]at hv;exact hv,fun d hd=>alG d hd rfl⟩⟩
 rintro σ' Cp ⟨es,rfl,rfl,FE⟩
 have nB:nm<NB:=Int.lt_trans z1 #[3]
 have wN:(wide:Int)<NB:=by
  have:(1001:Int)<NB:=by decide +kernel
  omega
 have wk:=dH R (ns:=es) (h:=0) FE.inb #[8] #[0]
 refine⟨_,rfl,_,rfl,m',r',g',nm,au.length,wide,au,az,rfl,M'.same (fun b xs e=>s2 _ _ e),T.ok,T.sgn,T.pos,⟨z0,nB⟩,⟨w2,wN⟩,fun H3 ds s3 FD=>?_⟩
 have ed:=J2 w2 FD FE
 subst ed
 exists _,rfl,_,rfl,g,_,_,_,rfl,rfl,cj ((s2.trans s3) _ _ M.sgn),cu wk.1 #[0],rfl
 have ids:ou wide ds:=FD.inb
 have e:=T.turned ds.reverse ids.rev
 rw[zT]at e
 unfold sgn at e
 rw[decide_eq_true (congrArg V.int e.symm)]
 exact k _ (s2.trans s3)
end
theorem Sh:MtR X "list.index" Q2:=Sg
theorem afa(K:Yv){o:Expr}{to:TE}{t:TA}{apos cN:Pos}{T id:String}{r:V->List V->Hp->VK->Prop}(pa:qQ T)(slot:Slot T name id)(hty:typeOf (.builtin id)=pure (.type "method_descriptor"))(hm:MtR X id r)(ho:PE X o to)(ha:PA X (e :: es) t)(Ds:attributeBase o name X.env (eval o X.env)=eval o X.env:=by rfl)(ael:((backTo cN (WU (e :: es) X.env)).all (fun x=>!x.1)&&(backToKw cN (keywordEach [] X.env)).all (fun x=>x.1.isSome)
   && decide ((e :: es).length+([]:List qN).length+(if ([]:List qN).isEmpty then 0 else 1)<30))=true:=by rfl)(K1:(apos.endLine==cN.line)=true:=by rfl)(hs:WU (e :: es) X.env=#[21] :: WU es X.env:=by rfl)(MW:(backTo cN (WU es X.env)).any (·.1)=false:=by rfl)(hK:X.K=K:=by rfl):
  PE X (.Call (.Attribute o name apos) (e :: es) [] cN) (tBM K T r to t):=by
 subst hK
 exact fA pa slot hty hm ho ha Ds ael K1 hs MW
def eZ(L:Qu)(H:Hp):List Qu->LL->Prop:=qP fun b r=>b≠L/\H b=some (.lst (r.map V.int))
theorem eZ.get:∀ {L:Qu} {H:Hp} {as:List Qu} {rs:LL} {i:Nat},eZ L H as rs->(h:i<rs.length)->∃ a,as[i]?=some a/\H a=some (.lst (rs[i].map V.int))
 | _,_,_,_,_,.nil,h=>by simp at h
 | _,_,_,_,0,.cons (a:=a) r _,_=>⟨a,rfl,r.2⟩
 | _,_,_,_,i+1,.cons _ t,h=>by
  obtain⟨ra,h1,h2⟩:=eZ.get (i:=i) t (by simpa using h)
  exact⟨ra,by simpa using h1,by simpa using h2⟩
theorem eZ.snoc:∀ {L:Qu} {H:Hp} {as:List Qu} {rs:LL} {a:Qu} {r:LI},eZ L H as rs->a≠L->H a=some (.lst (r.map V.int))->eZ L H (as++[a]) (rs++[r])
 | _,_,_,_,_,_,.nil,h,h'=>.cons ⟨h,h'⟩ .nil
 | _,_,_,_,_,_,.cons q t,h,h'=>.cons q (eZ.snoc t h h')
theorem eZ.keep(h:eZ L H as rs)(k:∀ b u,b≠L->H b=some u->H' b=some u):eZ L H' as rs:=Paired.Ez h fun _ _ q=>⟨q.1,k _ _ q.1 q.2⟩
theorem eZ.length(h:eZ L H as rs):as.length=rs.length:=Paired.length h
def HD(rows:LL)(qs:LI)(f:Nat):LI:=qs.map fun q=>((qs.idxOf (stepI rows q (f:Int)):Nat):Int)
structure eY(H:Hp)(D:Qu)(es:List (Int×Qu))(vv:Nat->LI)(n:Nat):Prop where
 at_:H D=some (.dK (tS es))
 nd:(es.map Prod.fst).Nodup
 inr:∀ t∈es.map Prod.fst,0<=t/\t<(n:Int)
 tup:∀ e∈es,H e.2=some (.tup ((vv e.1.toNat).map V.int))
section
variable{a:Qu}{es:List (Int×Qu)}{vv:Nat->LI}{t:Int}
theorem eY.get(h:eY H D es vv n)(m:t∈es.map Prod.fst):∃ a,eC (tS es) (Sum.inl t)=some (V.ref a)/\H a=some (.tup ((vv t.toNat).map V.int)):=by
 obtain⟨e,he,rfl⟩:=jN.mp m
 obtain⟨j,hj⟩:=JH.mp he
 exact⟨e.2,Bm h.nd (q:=e.1) (a:=e.2) hj,h.tup e he⟩
theorem eY.same(h:eY H D es vv n)(s:aB H H'):eY H' D es vv n:=⟨s _ _ h.at_,h.nd,h.inr,fun e he=>s _ _ (h.tup e he)⟩
theorem eY.put(h:eY H D es vv n)(nt:t∉es.map Prod.fst)(ti:0<=t/\t<(n:Int))(ha:H a=some (.tup ((vv t.toNat).map V.int))):eY (upd H D (.dK (putK (tS es) (Sum.inl t) (.ref a)))) D (es++[(t,a)]) vv n:=by
 have up:∀ b xs,H b=some #[42]->(upd H D (.dK (putK (tS es) (Sum.inl t) (.ref a)))) b=some #[42]:=fun b xs e=>by
  rw[aj (aG e h.at_ #[1])];exact e
 refine⟨by rw[ae,PQ nt],?_,fun x hx=>?_,fun e he=>?_⟩
 ·rw[jD]
  exact JU.mpr ⟨h.nd,by simp,fun x hx y hy e=>nt (by rw[<- jJ.mp (show y∈[t]from hy),<- e];exact hx)⟩
 ·rw[jD]at hx
  rcases tT.mp hx with z|z
  ·exact h.inr x z
  ·rw[jJ.mp (show x∈[t]from z)];exact ti
 ·rcases tT.mp he with z|z
  ·exact up _ _ (h.tup e z)
  ·rw[jJ.mp z];exact up _ _ ha
theorem eY.len(h:eY H D es vv n):es.length<=n:=by
 have:=bS n h.nd h.inr
 rw[bb]at this
 exact this
end
theorem Ll{a b:Qu}{o:HO}(h:H a=some o)(h':H b=none):b≠a:=fun z=>by rw[z,h]at h';cases h'
theorem X6{Tm:Nat->Int->Int}(KT:ml wide rows au signs Tm)(T:iI wide rows au signs az)(K4:∀ q,q∈qs↔Reach wide rows q){s f:Nat}(hr:r<au.length)(hf:f<wide)(e:stepI au (r:Int) (f:Int)=(s:Int)):
  ((HD rows qs f).map fun t=>(dF qs Tm r).getD t.toNat 0)=dF qs Tm s:=by
 unfold HD dF
 rw[JO]
 refine zX fun q hq=>?_
 have tm:stepI rows q (f:Int)∈qs:=(K4 _).mpr (((K4 q).mp hq).step #[0] #[0])
 have il:qs.idxOf (stepI rows q (f:Int))<qs.length:=jt tm
 show(qs.map (Tm r)).getD (((qs.idxOf (stepI rows q (f:Int)):Nat):Int)).toNat 0=Tm s q
 rw[jB,getD_at (by rw[bb];exact il),JC,Jl il]
 exact(KT.step T hr hf e ((K4 q).mp hq)).symm
theorem Fp(qs:LI)(Tm:Nat->Int->Int)(r:Nat):(dF qs Tm r).length=qs.length:=by unfold dF;rw[bb]
theorem W7{Tm:Nat->Int->Int}(h:qs[0]?=some 0):(dF qs Tm r).getD 0 0=Tm r 0:=by
 unfold dF
 rw[jQ,jV,h]
 rfl
theorem FX:∀ {H:Hp} {as:List Qu} {rs:LL} {a:Qu} {r:LI},Hg H as rs->H a=some (.tup (r.map V.int))->Hg H (as++[a]) (rs++[r])
 | _,_,_,_,_,.nil,h=>.cons h .nil
 | _,_,_,_,_,.cons q t,h=>.cons q (FX t h)
def Q4:Sp:=fun vs H Q _=>∃ (m r g m' r' g':Qu) (many wide:Nat) (rows au:LL) (signs az:LI),vs=[.ref m,.ref m']/\bI H m r g wide rows signs/\aF many wide rows/\signs.length=many/\(1<=many/\many<=1000)/\(1<=wide/\wide<64)/\bI H m' r' g' wide au az/\iI wide rows au signs az/\au.length<=306/\∀ H',aB H H'->Q (.bl true) H'
section
theorem bM:aH ["_law_machine_here","_law_found","_law_wide","_law_rows","_law_signs_here","_law_reach_here","_law_led","_law_f","_law_kept","_law_r","_law_behind"] ["_law_machine_here","_law_found"] (av dC):=cW #[3]
theorem rg:aZ ["_law_machine_here","_law_found","_law_wide","_law_rows","_law_signs_here","_law_reach_here","_law_led","_law_f","_law_kept","_law_r","_law_behind"] (av dC) ["_law_q","_law_f","_law_reach_here","_law_rows"] [none,some 7,some 5,some 3] ⟨.function,[#[60],("_law_q",.local),("_law_f",.free),("_law_reach_here",.free),("_law_rows",.free)],false,false,[]⟩:=mC #[3]
theorem rh:aZ ["_law_machine_here","_law_found","_law_wide","_law_rows","_law_signs_here","_law_reach_here","_law_led","_law_f","_law_kept","_law_r","_law_behind"] (av dC) ["_law_q","_law_signs_here"] [none,some 4] ⟨.function,[#[60],("_law_q",.local),("_law_signs_here",.free)],false,false,[]⟩:=mC #[3]
theorem rj:aZ ["_law_machine_here","_law_found","_law_wide","_law_rows","_law_signs_here","_law_reach_here","_law_led","_law_f","_law_kept","_law_r","_law_behind"] (av dC) ["_law_k","_law_kept","_law_r"] [none,some 8,some 9] ⟨.function,[#[60],("_law_k",.local),("_law_kept",.free),("_law_r",.free)],false,false,[]⟩:=mC #[3]
theorem rn:aZ ["_law_machine_here","_law_found","_law_wide","_law_rows","_law_signs_here","_law_reach_here","_law_led","_law_f","_law_kept","_law_r","_law_behind"] (av dC) ["_law_r","_law_kept"] [none,some 8] ⟨.function,[#[60],("_law_r",.local),("_law_kept",.free)],false,false,[]⟩:=mC #[3]
theorem Z0(F:bG K "_law_keeps" "_law_keeps" dC dV f fd)(pF:bO P w K mg base "_law_reach" 1 ["_law_rows"] [] L8)(bh:mg "len" = none)(bj:mg "range" = none)(aK:mg "tuple" = none)(F6:mg "set" = none):bu P w K mg base eM 2 f fd ["_law_machine_here","_law_found"] Q4:=by
 refine F.ok bM #[7] #[2]
 ·obtain⟨m,r,g,m',r',g',many,wide,rows,au,signs,az,rfl,_⟩:=h
  rfl
 obtain⟨m,r,g,m',r',g',many,wide,rows,au,signs,az,rfl,M,R,ls,n1,w1,M',T,aqG,k⟩:=h
 obtain⟨cS,mP,hA⟩:=M.rows
 have hu:=oW hr
 have hu0:=hr.aa6
 have hu9:=aeC hr
 refine⟨_,(ah (HS (pv 0) (wG rfl (bL (aS (i:=2) bM.nd) (bL (aS (i:=3) bM.nd) (bL (aS (i:=4) bM.nd) oj)))))
   (ah (aC (i:=5) bM.nd (bC pF hr (aa (pv 3) af)))
   (ah (aC (i:=6) bM.nd (cf af))
   (ah (bX PassesOwn.never rfl (cx rfl bj (aa (pv 2) af)) (aS (i:=7) bM.nd) (ao (bD (fA Yy Yz yA bE (pv 6) (aa (cM rfl rg (cC (pv 5)) (fun _ _ _ _=>(aS (i:=0) rg.nd)) (fun _ _ _ _=>(afa K Yy PySem.F.slot_list_index PySem.F.type_list_index Sh (pv 2) (aa (aN (mZ K) (aN (mZ K) (pv 3) (pv 0) #[5]) (pv 1) #[5]) af)))) af)))))
   (ah (aC (i:=8) bM.nd (P6 (DN aq (aW aP #[41] aK bH (aa (cM rfl rh (cC (pv 5)) (fun _ _ _ _=>(aS (i:=0) rh.nd)) (fun _ _ _ _=>(aN (mZ K) (pv 1) (pv 0) #[5]))) af)) HR) rfl rfl #[1] #[8]))
   (ah (bX PassesOwn.never rfl (cx rfl bj (aa (aA aI #[41] bh bW (aa (aN aO (pv 1) aq #[5]) af)) af)) (aS (i:=9) bM.nd) (ah (cz (PW.pt (rD (HU (Bo hu (pv 9) (pv 8)) (by with_unfolding_all rfl)) (sJ (aU FC (aN aO (aN aO (pv 1) aq #[5]) (pv 9) #[5]) (aN aO (Az hu (pv 8) (pv 9) #[5]) aq #[5]) (aY _))))) (ao (aL cU)) bg)
   (ao (bX PassesOwn.never rfl (cx rfl bj (aa (pv 2) af)) (aS (i:=7) bM.nd) (ah (aC (i:=10) bM.nd (aW aP #[41] aK bH (aa (cM rfl rj (cC (aN dS (pv 6) (pv 7) #[5])) (fun _ _ _ _=>(aS (i:=0) rj.nd)) (fun _ _ _ _=>(aN (mZ K) (Az hu (pv 1) (pv 2) #[5]) (pv 0) #[5]))) af)))
   (ao (cz (aU ((ae3 hu0)) (Cz (pv 8) (aN aO (aN aO (aN aO (pv 1) aq #[5]) (pv 9) #[5]) (pv 7) #[5]) (pv 10) ⟨rfl,rfl,rfl,rfl⟩) (pv 10) (aY _)) (ao (aL cU)) bg)))))))
   (ao (aL (lV eP (aA Mx #[41] bh bW (aa (aW ((IU rfl hu9)) #[41] F6 Tj (aa (cM rfl rn (cx rfl bj (aa (aA aI #[41] bh bW (aa (aN aO (pv 1) aq #[5]) af)) af)) (fun _ _ _ _=>(aS (i:=0) rn.nd)) (fun _ _ _ _=>(Az hu (pv 1) (pv 0) #[5]))) af)) af)) (aA aI #[41] bh bW (aa (aN aO (pv 1) aq #[5]) af)) (aY _)))))))))),?_⟩
 obtain⟨Tm,KT⟩:=T.keeps
 exists _,rfl,m,_,rfl,cj M.tup,rfl,_,_,rfl,_,_,rfl,_,_,rfl,rfl
 refine⟨_,rfl,r,many,wide,cS,rows,rfl,mP,hA,R,n1,w1.2,fun Lq H1 qs s1 hLq K4 nd q0 inr lq=>?_⟩
 refine⟨#[15],fun LL hLL=>?_⟩
 have sLL:=ak hLL (HO.lst [])
 have hr1:=s1 _ _ mP
 have A1:=hA.same fun b xs e=>s1 _ _ e
 have M1:=M.same fun b xs e=>s1 _ _ e
 have M1' := M'.same fun b xs e=>s1 _ _ e
 have nqL:Lq≠LL:=ar hLq hLL
 exists 16
 refine eO (t:=Ec _ _ _) (fun σ' H'=>∃ (las:List Qu) (v7:OV),σ'=[some (.ref m),some (.ref m'),some (.int wide),some (.ref r),some (.ref g),some (.ref Lq),some (.ref LL),v7,none,none,none]/\aB H1 H'/\H' LL=some (.lst (las.map V.ref))/\eZ LL H' las ((jO wide).map (HD rows qs))) ?_ (fun D' dU=>?_)
 rotate_left
 ·refine⟨_,rfl,_,rfl,by omega,by omega,?_⟩
  refine fu (fun i σ' H'=>∃ (las:List Qu) (v7:OV),σ'=[some (.ref m),some (.ref m'),some (.int wide),some (.ref r),some (.ref g),some (.ref Lq),some (.ref LL),v7,none,none,none]/\aB H1 H'/\H' LL=some (.lst (las.map V.ref))/\eZ LL H' las ((jO i).map (HD rows qs))) ⟨[],none,rfl,sLL,ae,.nil⟩ ?_ (fun σ' H' h=>dU _ _ (by simpa using h))
  rintro i σ' H2 hi ⟨las,v7,rfl,s2,hL2,A2⟩
  rw[jB]at hi
  rw[Jo]
  have ll:=A2.length
  rw[bb,jT]at ll
  have hq2:=s2 _ _ hLq
  exists _,rfl,.inl ⟨rfl,_,bZ hL2⟩,_,rfl,Lq,rfl,⟨_,bZ hq2⟩
  refine eA (K:=K) (xs:=qs.map V.int) (fun D j ys H'=>aB H2 H'/\ys=((qs.take j).map fun q=>((qs.idxOf (stepI rows q (i:Int)):Nat):Int)).map V.int) (fun D hD=>⟨ak hD _,rfl⟩) (fun D j ys H' _ ⟨e,_⟩=>bZ (e _ _ hq2)) ?_ ?_
  ·rintro D j y ys H3 Q' hD hj hy ⟨s3,rfl⟩ k'
   obtain⟨q,rfl,hq⟩:=bw hj
   have qm:=oY hq
   have qi:=inr q qm
   have jl:=(fV hq).1
   have s13:=s2.trans s3
   obtain⟨ra,rr,e1,e2,e3⟩:=sN A1 R qi.1 qi.2 (show(0:Int)<=(i:Int) by omega) (show(i:Int)<(wide:Int) by omega)
   have tm:stepI rows q (i:Int)∈qs:=(K4 _).mpr (((K4 q).mp qm).step #[0] #[0])
   exists _,rfl,.inl ⟨rfl,_,bZ (s3 _ _ hq2)⟩,_,rfl,_,rfl,r,_,_,_,rfl,rfl,cj (s13 _ _ hr1),e1,_,rfl,ra,_,_,_,rfl,rfl,cj (s13 _ _ e2),e3,Lq,qs,_,rfl,rfl,s3 _ _ hq2,tm
   refine k' _ _ hy (ay (by rw[bb,bb,jX];omega)) ⟨ax s3 hD,?_⟩
   rw[jW,hq,jD,jD]
   rfl
  ·rintro D ys H3 hD hy ⟨s3,rfl⟩
   rw[bb,jY]at hy
   have AQ:=s3 _ _ hL2
   have nD:D≠LL:=Ll hL2 hD
   refine⟨LL,_,_,rfl,rfl,AQ,ay #[36],las++[D],_,rfl,ax (s2.trans s3) hLL,by rw[ae,jD];rfl,?_⟩
   rw[JK,jD]
   exact eZ.snoc (A2.keep fun b u nb e=>by rw[aj nb];exact s3 _ _ e) nD (by rw[aj nD];exact hy)
 rintro σ' H2 ⟨las,v7,rfl,s2,hL2,A2⟩
 have hq2:=s2 _ _ hLq
 have s02:=s1.trans s2
 intro D hD
 have sD:=ak hD (HO.dK [])
 have hqD:=sD _ _ hq2
 exists _,rfl,Lq,rfl,⟨_,bZ hqD⟩
 refine eA (K:=K) (xs:=qs.map V.int) (fun Dc j ys H'=>aB (upd H2 D (.dK [])) H'/\ys=((qs.take j).map fun q=>signs.getD q.toNat 0).map V.int) (fun Dc Pr=>⟨ak Pr _,rfl⟩) (fun Dc j ys H' _ ⟨e,_⟩=>bZ (e _ _ hqD)) ?_ ?_
 ·rintro Dc j y ys H3 Q' Pr hj hy ⟨s3,rfl⟩ k'
  obtain⟨q,rfl,hq⟩:=bw hj
  have qi:=inr q (oY hq)
  have jl:=(fV hq).1
  refine⟨_,rfl,_,rfl,g,_,_,_,rfl,rfl,cj (s3 _ _ (sD _ _ (s02 _ _ M.sgn))),cu qi.1 #[0],?_⟩
  refine k' _ _ hy (ay (by rw[bb,bb,jX];omega)) ⟨ax s3 Pr,?_⟩
  rw[jW,hq,jD,jD]
  rfl
 rintro Dc ys H3 Pr hy ⟨s3,rfl⟩
 rw[bb,jY]at hy
 refine⟨Dc,_,rfl,.inl ⟨bZ hy,fun T0 hT0=>?_⟩⟩
 obtain⟨n,en⟩:∃ n,au.length=n:=⟨_,rfl⟩
 have n0:0<n:=by rw[<- en];exact T.pos
 have ev0:(qs.map fun q=>signs.getD q.toNat 0)=dF qs Tm 0:=zX fun q hq=>(KT.zero T.pos ((K4 q).mp hq)).symm
 rw[ev0]
 have sT0:=ak hT0 (HO.tup ((dF qs Tm 0).map V.int))
 have Cc:=sT0 _ _ (s3 _ _ (ae (H:=H2) (a:=D) (o:=HO.dK [])))
 refine⟨Cc,[(Sum.inl 0,.ref T0)],rfl,(by show 1<=15;decide),?_⟩
 obtain⟨H4,Bc⟩:∃ H4,upd (upd H3 T0 (HO.tup ((dF qs Tm 0).map V.int))) D (.dK (dN [] [(Sum.inl 0,V.ref T0)]))=H4:=⟨_,rfl⟩
 have s4:aB H2 H4:=by
  rw[<- Bc]
  exact ax (fun b u e=>sT0 _ _ (s3 _ _ (sD _ _ e))) hD
 have KO4:eY H4 D [(0,T0)] (dF qs Tm) n:=by
  rw[<- Bc]
  refine⟨by rw[ae];rfl,by simp,fun t ht=>?_,fun e he=>?_⟩
  ·rw[jJ.mp (show t∈[(0:Int)]from ht)];omega
  ·rw[jJ.mp he]
   show upd _ D _ T0=_
   rw[aj (aG (show(upd H3 T0 (HO.tup ((dF qs Tm 0).map V.int))) T0=some (.tup ((dF qs Tm 0).map V.int))from ae) Cc #[1]),ae]
   rfl
 rw[Bc]
 exists 16
 obtain⟨sM,abS,hA'⟩:=M'.rows
 have X7:(sM.map V.ref).length=n:=by rw[bb,hA'.length,en]
 have s04:=s02.trans s4
 refine⟨_,rfl,m',_,_,_,rfl,rfl,cj (s04 _ _ M'.tup),rfl,r',_,rfl,.inr (cj (s04 _ _ abS)),_,rfl,by omega,by omega,?_⟩
 rw[X7]
 refine fu (fun i σ' H'=>∃ (es:List (Int×Qu)) (mm:Nat) (v7 v9 v10:OV),σ'=[some (.ref m),some (.ref m'),some (.int wide),some (.ref r),some (.ref g),some (.ref Lq),some (.ref LL),v7,some (.ref D),v9,v10]/\aB H2 H'/\eY H' D es (dF qs Tm) n/\bz i mm (au.drop i)=some n/\∀ t:Nat,t<mm->(t:Int)∈es.map Prod.fst)
  ⟨[(0,T0)],1,v7,none,none,rfl,s4,KO4,by rw[<- en];exact T.ord,fun t ht=>by
   have:t=0:=by omega
   subst this
   exact jJ.mpr rfl⟩ ?_ ?_
 ·rintro i σ' H5 hi ⟨es,mm,v7,v9,v10,rfl,s5,KO,o,mem⟩
  rw[jB]at hi
  rw[Jo]
  have hi':i<au.length:=by omega
  rw[jy hi']at o
  obtain⟨im,m1,o1,o2⟩:=Ay o
  obtain⟨ka,ea,ha⟩:=KO.get (mem i im)
  rw[jB]at ha
  have s05:=s02.trans s5
  have G5:=fH.k (k:=Sum.inl (i:Int)) KO.at_
  rw[ea]at G5
  refine⟨_,rfl,_,rfl,D,_,rfl,G5,_,rfl,ic ?_⟩
  have lq0:0<qs.length:=(fV q0).1
  refine⟨_,rfl,m',_,_,_,rfl,rfl,cj (s05 _ _ M'.tup),rfl,_,rfl,g',_,_,_,rfl,rfl,cj (s05 _ _ M'.sgn),cu #[0] (by have:=T.sgn;omega),_,rfl,_,rfl,D,_,rfl,G5,ka,_,_,_,rfl,rfl,cj ha,cu #[8] (by rw[Fp];omega),rfl,_,rfl,Ar (fun z=>absurd (congrArg V.int ((KT.head T hi').symm.trans (W7 q0).symm)) z) (fun _=>?_)⟩
  clear G5 ha ea ka
  refine⟨_,rfl,_,rfl,by omega,by omega,?_⟩
  refine fu (fun j σ' H'=>∃ (es:List (Int×Qu)) (mm:Nat) (v7 v10:OV),σ'=[some (.ref m),some (.ref m'),some (.int wide),some (.ref r),some (.ref g),some (.ref Lq),some (.ref LL),v7,some (.ref D),some (.int i),v10]/\aB H2 H'/\eY H' D es (dF qs Tm) n/\aR mm (au[i].drop j)=some m1/\i<mm/\∀ t:Nat,t<mm->(t:Int)∈es.map Prod.fst)
   ⟨es,mm,v7,v10,rfl,s5,KO,o1,im,mem⟩ ?_ ?_
  ·clear KO mem s5 s05
   rintro j σ' H6 hj ⟨es,mm,v7,v10,rfl,s6,KO,o3,im,mem⟩
   rw[jB]at hj
   rw[Jo]
   have s06:=s02.trans s6
   obtain⟨ka,ea,ha⟩:=KO.get (mem i im)
   rw[jB]at ha
   obtain⟨la,l1,l2⟩:=A2.get (i:=j) (by rw[bb,jT];exact hj)
   rw[JC,JV]at l2
   have akL:=s6 _ _ hL2
   have ahI:=s6 _ _ l2
   have aqL:(HD rows qs j).length=qs.length:=by unfold HD;rw[bb]
   obtain⟨ra',rr',f1,f2,f3⟩:=sN hA' T.ok (show(0:Int)<=(i:Int) by omega) (show(i:Int)<(au.length:Int) by omega) (show(0:Int)<=(j:Int) by omega) (show(j:Int)<(wide:Int) by omega)
   have st:=dk T.ok (h:=(i:Int)) (f:=(j:Int)) #[0] #[0] #[0] #[0]
   obtain⟨t,et⟩:=mD st.1
   rw[et]at f3 st
   exists _,rfl,_,rfl,LL,_,_,_,rfl,rfl,bZ akL,iJ #[0] (by rw[jB];exact l1),la,rfl,⟨_,bZ ahI⟩
   refine eA (K:=K) (xs:=(HD rows qs j).map V.int) (fun Dc jj ys H'=>aB H6 H'/\ys=(((HD rows qs j).take jj).map fun t=>(dF qs Tm i).getD t.toNat 0).map V.int) (fun Dc Pr=>⟨ak Pr _,rfl⟩) (fun Dc jj ys H' _ ⟨e,_⟩=>bZ (e _ _ ahI)) ?_ ?_
   ·rintro Dc jj y ys H7 Q' Pr hjj hy ⟨s7,rfl⟩ k'
    obtain⟨u,rfl,PK⟩:=bw hjj
    have jl:=(fV PK).1
    have ui:0<=u/\u<(qs.length:Int):=by
     have um:=oY PK
     unfold HD at um
     obtain⟨q,hq,rfl⟩:=jN.mp um
     have tm:stepI rows q (j:Int)∈qs:=(K4 _).mpr (((K4 q).mp hq).step #[0] #[0])
     have:=jt tm
     omega
    have G7:=fH.k (k:=Sum.inl (i:Int)) (s7 _ _ KO.at_)
    rw[ea]at G7
    refine⟨_,rfl,_,rfl,D,_,rfl,G7,_,rfl,ka,_,_,_,rfl,rfl,cj (s7 _ _ ha),cu ui.1 (by rw[Fp];omega),?_⟩
    refine k' _ _ hy (ay (by rw[bb,bb,jX];omega)) ⟨ax s7 Pr,?_⟩
    rw[jW,PK,jD,jD]
    rfl
   ·rintro Dc ys H7 Pr hy ⟨s7,rfl⟩
    rw[bb,jY,X6 KT T K4 hi' hj et]at hy
    refine⟨Dc,_,rfl,.inl ⟨bZ hy,fun Tb hTb=>?_⟩⟩
    have sTb:=ak hTb (HO.tup ((dF qs Tm t).map V.int))
    have s68:=s7.trans sTb
    have s08:=s06.trans s68
    have KO8:=KO.same s68
    have T7:(upd H7 Tb (HO.tup ((dF qs Tm t).map V.int))) Tb=some (.tup ((dF qs Tm t).map V.int)):=ae
    obtain⟨H8,eH8⟩:∃ H8,upd H7 Tb (HO.tup ((dF qs Tm t).map V.int))=H8:=⟨_,rfl⟩
    rw[eH8]at s68 s08 KO8 T7 ⊢
    exists 16
    have l8:=KO8.len
    have jr:j<au[i].length:=by rw[T.ok.row _ (jG hi')];exact hj
    have tj:au[i][j]=(t:Int):=by
     have e:=et
     unfold stepI at e
     rw[jB,jB,getD_at hi',getD_at jr]at e
     exact e
    have fin:∀ (lN:List (Int×Qu)) (H':Hp),aB H2 H'->eY H' D lN (dF qs Tm) n->(∀ x∈es.map Prod.fst,x∈lN.map Prod.fst)->(t:Int)∈lN.map Prod.fst->∃ (es:List (Int×Qu)) (mm:Nat) (v7 v10:OV),[some (V.ref m),some (.ref m'),some (.int wide),some (.ref r),some (.ref g),some (.ref Lq),some (.ref LL),some (.int j),some (.ref D),some (.int i),some (.ref Tb)]=[some (.ref m),some (.ref m'),some (.int wide),some (.ref r),some (.ref g),some (.ref Lq),some (.ref LL),v7,some (.ref D),some (.int i),v10]/\aB H2 H'/\eY H' D es (dF qs Tm) n/\aR mm (au[i].drop (j+1))=some m1/\i<mm/\∀ t:Nat,t<mm->(t:Int)∈es.map Prod.fst:=fun lN H' s' KO' sub tin=>by
     rw[jy jr,tj]at o3
     have o4:(if (t:Int)=(mm:Int)then aR (mm+1) (au[i].drop (j+1))else if (t:Int)<(mm:Int)then aR mm (au[i].drop (j+1))else none)=some m1:=o3
     by_cases c:(t:Int)=(mm:Int)
     ·rw[if_pos c]at o4
      refine⟨lN,mm+1,_,_,rfl,s',KO',o4,by omega,fun x hx=>?_⟩
      rcases Zj.mp hx with z|z
      ·exact sub _ (mem x z)
      ·have:(x:Int)=t:=by omega
       rw[this];exact tin
     ·rw[if_neg c]at o4
      by_cases d:(t:Int)<(mm:Int)
      ·rw[if_pos d]at o4
       exact⟨lN,mm,_,_,rfl,s',KO',o4,im,fun x hx=>sub _ (mem x hx)⟩
      ·rw[if_neg d]at o4;cases o4
    refine⟨_,rfl,D,rfl,.inl ⟨_,.inl KO8.at_⟩,_,rfl,m',_,_,_,rfl,rfl,cj (s08 _ _ M'.tup),rfl,_,rfl,r',_,_,_,rfl,rfl,cj (s08 _ _ abS),f1,_,rfl,ra',_,_,_,rfl,rfl,cj (s08 _ _ f2),f3,_,rfl,_,Sum.inl (t:Int),KO8.at_,rfl,?_,fun v hv=>?_,fun hn=>?_⟩
    ·unfold tS
     rw[bb]
     exact ay #[0]
    ·have tin:(t:Int)∈es.map Prod.fst:=Classical.byContradiction fun z=>by rw[DB z]at hv;cases hv
     obtain⟨a',ea',ha'⟩:=KO8.get tin
     rw[ea']at hv
     cases hv
     rw[jB]at ha'
     exists _,rfl,a',Tb,_,_,rfl,rfl,cj ha',cj T7,oQ _,oQ _,_,rfl
     rw[tY]
     exact ic (fin es H8 (s6.trans s68) KO8 (fun x hx=>hx) tin)
    ·have amZ:(t:Int)∉es.map Prod.fst:=fun z=>by
      obtain⟨a',ea',_⟩:=KO8.get z
      rw[ea']at hn
      cases hn
     have KO9:=KO8.put amZ ⟨by omega,by omega⟩ (a:=Tb) (by rw[jB];exact T7)
     have ahh:(upd H8 D (.dK (putK (tS es) (Sum.inl (t:Int)) (.ref Tb)))) Tb=some (.tup ((dF qs Tm t).map V.int)):=by rw[aj (aG T7 KO8.at_ #[1])];exact T7
     exists _,rfl,Tb,Tb,_,_,rfl,rfl,cj ahh,cj ahh,oQ _,oQ _,_,rfl
     rw[tY]
     exact ic (fin _ _ (ax (s6.trans s68) hD) KO9 (fun x hx=>by rw[jD];exact jz _ hx) (by rw[jD];exact jR _ (jJ.mpr rfl)))
  ·rintro σ' H6 ⟨es,mm',v7,v10,rfl,s6,KO,o3,im',al4⟩
   rw[jB,List.drop_of_length_le (by rw[T.ok.row _ (jG hi')];exact jF _)]at o3
   have e:mm'=m1:=Option.some.inj o3
   subst e
   exact⟨es,mm',v7,_,v10,rfl,s6,KO,o2,al4⟩
 ·rintro σ' H5 ⟨es,mm,v7,v9,v10,rfl,s5,KO,o,mem⟩
  rw[jB,<- en,zA]at o
  have e:mm=au.length:=Option.some.inj o
  rw[en]at e
  subst e
  have s05:=s02.trans s5
  refine⟨_,rfl,m',_,_,_,rfl,rfl,cj (s05 _ _ M'.tup),rfl,r',_,rfl,.inr (cj (s05 _ _ abS)),_,rfl,by omega,by omega,?_⟩
  rw[X7]
  refine ff (fun Dc j ys H'=>aB H5 H'/\∃ as:List Qu,ys=as.map V.ref/\Hg H5 as ((jO j).map (dF qs Tm))) (fun Dc Pr=>⟨ak Pr _,[],rfl,.nil⟩) ?_ ?_
  ·rintro Dc j ys H6 Q' Pr hj hy ⟨s6,as,rfl,ta⟩ k'
   rw[jB]at hj
   rw[Jo]
   obtain⟨ka,ea,ha⟩:=KO.get (mem j hj)
   rw[jB]at ha
   have G6:=fH.k (k:=Sum.inl (j:Int)) (s6 _ _ KO.at_)
   rw[ea]at G6
   have la:=Paired.length ta
   rw[bb,jT]at la
   refine⟨_,rfl,_,rfl,D,_,rfl,G6,k' _ _ hy (ay #[36]) ⟨ax s6 Pr,as++[ka],by rw[jD];rfl,?_⟩⟩
   rw[JK,jD]
   exact FX ta ha
  ·rintro Dc ys H6 Pr hy ⟨s6,as,rfl,ta⟩
   rw[jB]at ta
   have la:=Paired.length ta
   rw[bb,jT]at la
   have PY:=W8 KT T K4
   rw[en]at PY
   refine⟨Dc,as,_,rfl,hy,Paired.Ez ta (fun _ _ q=>s6 _ _ q),PY,by omega,fun S hS=>?_⟩
   have sS:=ak hS (CP S as.length)
   have s07:=(s05.trans s6).trans sS
   exists S,_,rfl,ae,by omega,_,rfl,m',_,_,_,rfl,rfl,cj (s07 _ _ M'.tup),rfl,r',_,rfl,.inr (cj (s07 _ _ abS)),rfl
   rw[decide_eq_true (by rw[X7,la])]
   exact k _ s07
end
def Q5(K:Yv):Sp:=fun vs H Q _=>∃ (a:Qu) (ns:LI),vs=[.ref a]/\lh K H a #[14]/\ns.length<=63/\∀ H',Q (.bl true) H'
section
theorem iI.aaP(T:iI wide rows au signs az)(R:aF rows.length wide rows)(n0:0<rows.length)(ls:signs.length=rows.length)(hz:∀ z∈signs,0<=z/\z<1000000):∀ z∈az,0<=z/\z<1000000:=fun z Fg=>by
 obtain⟨i,hi,rfl⟩:=jk Fg
 obtain⟨v,hv,e⟩:=T.ord.lX T.ok i (by rw[<- T.sgn];exact hi)
 have t:=T.turned v hv
 have w:=dH R (ns:=v.reverse) (h:=0) hv.rev #[8] #[0]
 rw[e]at t
 unfold My.sgn at t
 rw[jB,getD_at hi,getD_at #[0]]at t
 rw[<- t]
 exact hz _ (jG _)
end
section
theorem Bz:aH ["_law_script","_law_machine_here","_law_one","_law_found","_law_many"] ["_law_script"] (av aaM):=cW #[3]
theorem aeX(F:bG K "law" "law" aaM dV f fd)(aQ:bO P w K mg base "_law_draw" 1 ["_law_script","_law_k"] [] (BC K))(mj:bO P w K mg base "_law_machine" 3 ["_law_script","_law_at","_law_most","_law_widest"] [] (FQ K))(rN:bO P w K mg base "_law_late" 1 ["_law_many","_law_one","_law_other"] [] aaS)(wV:bO P w K mg base "turned" 6 ["machine","most"] [] (fun vs H Q _=>pq C vs H Q fun _ _ _=>False))(wj:bO P w K mg base "turned" 6 ["machine","most"] [.int 200] (fun vs H Q _=>pq C vs H Q fun _ _ _=>False))(fO:bO P w K mg base "_law_is_machine" 2 ["_law_found","_law_wide"] [] L5)(iX:bO P w K mg base "_law_in_order" 1 ["_law_rows"] [] Q8)(pE:bO P w K mg base "_law_keeps" 2 ["_law_machine_here","_law_found"] [] Q4)(rO:bO P w K mg base "_law_read" 6 ["_law_script","_law_machine_here","_law_found"] [] (Q9 K))(fP:bO P w K mg base "_law_refused" 7 ["_law_machine_here","_law_most"] [] D9)(bh:mg "len" = none):bu P w K mg base eM 8 f fd ["_law_script"] (Q5 K):=by
 refine F.ok Bz #[7] #[2]
 ·obtain⟨a,ns,rfl,_⟩:=h
  rfl
 obtain⟨a,ns,rfl,hS,Eh,k⟩:=h
 have hu3:=aeB hr
 refine Mu (cE (B1.mk (aC (i:=1) Bz.nd (bC mj hr (aa (pv 0) (aa aq (aa aq (aa aq af)))))))
   (cE (B1.mk (cz (aU eP (aE cw (bC aQ hr (aa (pv 0) (aa aq af))) aq) aq (aY _)) (ah (aC (i:=2) Bz.nd (aE cw (bC aQ hr (aa (pv 0) (aa aq af))) aq))
   (ao (aC (i:=1) Bz.nd (bC rN hr (aa (aE bx aq (aE cw (bC aQ hr (aa (pv 0) (aa aq af))) aq)) (aa (pv 2) (aa (aE bx (pv 2) aq) af))))))) bg))
   (cE (B1.mk (aC (i:=3) Bz.nd (bC wV hr (aa (pv 1) (aa aq af)))))
   (cE (B1.mk (cz (PW.pt (rD (iB (fW (bC fO hr (aa (pv 3) (aa (aN aO (pv 1) aq #[5]) af))))) (sJ (iB (fW (bC iX hr (aa (aN aO (pv 3) aq #[5]) af))))))) (ao (aL cU)) bg))
   (cE (B1.mk (cz (PW.pt (rD (iB (fW (bC pE hr (aa (pv 1) (aa (pv 3) af))))) (sJ (iB (fW (bC rO hr (aa (pv 0) (aa (pv 1) (aa (pv 3) af))))))))) (ao (aL cU)) bg))
   (cE (B1.mk (aC (i:=4) Bz.nd (aA aI #[41] bh bW (aa (aN aO (pv 3) aq #[5]) af))))
   (cE (B1.mk (cz (aU ((ae2 2 hu3)) (bC wV hr (aa (pv 1) (aa (pv 4) af))) (pv 3) (aY _)) (ao (aL cU)) bg))
   (cE (B1.mk (cz (PW.pt (wI (aU FA (pv 4) aq (aY _)) (wI (aU FC (pv 4) aq (aY _)) (tJ (iB (fW (bC fP hr (aa (pv 1) (aa (aE HK (pv 4) aq) af))))))))) (ao (aL cU)) bg))
   (cE (B1.mk (cz (aU FA (pv 4) aq (aY _)) (ao (aL (bC fP hr (aa (pv 1) (aa aq af))))) bg))
   (OY (B1.mk (aL (lV ((aeZ 2 hu3)) (bC wj hr (aa (pv 1) af)) (pv 3) (aY _)))))))))))))) ?_
 refine⟨_,rfl,a,3,5,3,ns,rfl,hS,Eh,⟨by decide,by decide⟩,⟨by decide,by decide⟩,⟨by decide,by decide⟩,fun m0 r0 g0 H1 aob ai6 rows0 afw s1 M0 R0 ls0 hz0 Py mn0 mx0 wn0 wx0=>?_⟩
 exists 16
 have hS1:=s1.seq hS
 refine eO (t:=OL _ _ _) (fun σ' H'=>∃ (m r g:Qu) (wide:Nat) (rows:LL) (signs:LI) (v2:OV),σ'=[some (.ref a),some (.ref m),v2,none,none]/\aB H1 H'/\bI H' m r g wide rows signs/\aF rows.length wide rows/\signs.length=rows.length/\(1<=rows.length/\rows.length<=10)/\(1<=wide/\wide<=3)/\(∀ z∈signs,0<=z/\z<1000000)/\Rv wide rows signs 300) ?_ (fun D' dU=>?_)
 rotate_left
 ·refine⟨_,rfl,a,0,ns,rfl,hS1,Eh,by decide,by decide,fun v0 _ _=>⟨_,_,rfl,rfl,(by show(0:Int)<8;decide),rfl,_,rfl,sj #[46] #[46]⟩⟩
  ·refine⟨_,rfl,a,2,ns,rfl,hS1,Eh,by decide,by decide,fun v2 _ _=>⟨_,_,rfl,rfl,(by show(0:Int)<999999;decide),?_⟩⟩
   refine⟨_,rfl,a,1,ns,rfl,hS1,Eh,by decide,by decide,fun v1 _ _=>⟨_,_,rfl,rfl,(by show(0:Int)<8;decide),_,_,rfl,rfl,?_⟩⟩
   have d1:=dY (a:=v1) (b:=8) #[8]
   have d2:=dY (a:=v2) (b:=999999) #[8]
   obtain⟨many,em⟩:=mD (x:=1+v1%8) #[0]
   have h1:1<=many:=by omega
   have h8:many<=8:=by omega
   refine⟨_,rfl,_,rfl,_,_,rfl,rfl,many,_,_,by show [V.int (1+v1%8),_,_]=_;rw[em],⟨h1,by omega⟩,fun m r g H3 s3 M3=>?_⟩
   have R:=Ld h1
   have ll:=mf h1
   obtain⟨vs,e1,e2⟩:=X3 (one:=v2%999999) (other:=v2%999999+1) h1
   refine dU _ _ ⟨m,r,g,2,lO many,_,_,rfl,s3,M3,by rw[ll];exact R,by rw[Ft,ll],by rw[ll];omega,by decide,fun z hz=>?_,vs,ji e1 (ji (ZG #[8] h8) #[8]),e2⟩
   unfold mz at hz
   rcases tT.mp hz with q|q
   ·rw[(List.mem_replicate.mp q).2];omega
   ·rw[jJ.mp q];omega
  ·obtain⟨cs,lc,hc⟩:=Py
   have er:=R0.len
   subst er
   obtain⟨vs,e1,e2⟩:=Rv.gen R0 ls0 hc
   rw[lc]at e1
   exact dU _ _ ⟨m0,r0,g0,ai6,rows0,afw,none,rfl,aB.refl _,M0,R0,ls0,by omega,by omega,hz0,vs,ji e1 (ji (ZG #[8] (show rows0.length<=5 by omega)) #[8]),e2⟩
 rintro σ' H2 ⟨m,r,g,wide,rows,signs,v2,rfl,s2,M,R,ls,⟨n0,n1⟩,⟨w0,w1⟩,hz,FV⟩
 refine⟨_,rfl,m,r,g,rows.length,wide,300,rows,signs,rfl,M,R,ls,⟨n0,by omega⟩,by omega,⟨by decide,by decide⟩,fun mF rF gF wb pW n H3 s3 MF TF le=>?_,fun d H3 lP eK ps _ LO _ nd re lt=>?_⟩
 rotate_left
 ·have:=adY R n0 ls LO.ok LO.ord LO.sgn LO.tells FV nd re
  omega
 obtain⟨T,en⟩:=TF.tur
 have hS3:=(s2.trans s3).seq hS1
 have M3:=M.same fun b xs e=>s3 _ _ e
 obtain⟨cS,hr3,hA3⟩:=MF.rows
 have N1:#[50].length=n:=by rw[bb,hA3.length,en]
 exists 16
 refine⟨_,rfl,_,rfl,m,_,_,_,rfl,rfl,cj M3.tup,rfl,mF,rF,gF,wide,wb,pW,rfl,MF,T.ok,T.pos,T.sgn,T.aaP R n0 ls hz,fun H4 s4=>⟨_,rfl,ic ?_⟩⟩
 have MF4:=MF.same fun b xs e=>s4 _ _ e
 refine⟨_,rfl,mF,_,_,_,rfl,rfl,cj MF4.tup,rfl,rF,cS,wide,wb,rfl,s4 _ _ hr3,hA3.same (fun b xs e=>s4 _ _ e),T.ok,by omega,T.ord,_,rfl,ic ?_⟩
 have M4:=M3.same fun b xs e=>s4 _ _ e
 refine⟨_,rfl,_,rfl,m,r,g,mF,rF,gF,rows.length,wide,rows,wb,signs,pW,rfl,M4,R,ls,⟨n0,by omega⟩,⟨w0,by omega⟩,MF4,T,by omega,fun H5 s5=>⟨_,rfl,ic ?_⟩⟩
 have M5:=M4.same fun b xs e=>s5 _ _ e
 have MF5:=MF4.same fun b xs e=>s5 _ _ e
 have hS5:=(s4.trans s5).seq hS3
 refine⟨_,rfl,_,rfl,_,rfl,a,m,r,g,mF,rF,gF,rows.length,wide,rows,wb,signs,pW,ns,rfl,hS5,Eh,M5,R,ls,⟨n0,by omega⟩,⟨w0,by omega⟩,MF5,T,fun H6 s6=>⟨_,rfl,ic ?_⟩⟩
 have M6:=M5.same fun b xs e=>s6 _ _ e
 have MF6:=MF5.same fun b xs e=>s6 _ _ e
 have hr6:=s6 _ _ (s5 _ _ (s4 _ _ hr3))
 exists _,rfl,mF,_,_,_,rfl,rfl,cj MF6.tup,rfl,rF,_,rfl,.inr (cj hr6)
 exists 16
 rw[N1]
 have np:0<n:=by rw[<- en];exact T.pos
 refine⟨_,rfl,_,rfl,m,r,g,rows.length,wide,n,rows,signs,rfl,M6,R,ls,⟨n0,by omega⟩,by omega,⟨by omega,by omega⟩,fun mG rG gG aiB afx n2 H7 s7 MG TG le2=>?_,fun d H7 lP eK ps _ LO _ nd re lt=>absurd (TF.all LO nd re) #[0]⟩
 obtain⟨e1,e2,_⟩:=TG.one TF
 rw[e1,e2]at MG
 have M7:=M6.same fun b xs e=>s7 _ _ e
 have MF7:=MF6.same fun b xs e=>s7 _ _ e
 refine⟨_,rfl,mG,mF,_,_,rfl,rfl,cj MG.tup,cj MF7.tup,bI.eqD MG MF7,_,rfl,ic ?_⟩
 exists 16
 refine eO (t:=OL _ _ _) (fun σ' H'=>σ'=[some (.ref a),some (.ref m),v2,some (.ref mF),some (.int (n:Int))]/\aB H7 H') ?_ (fun D' dU=>?_)
 rotate_left
 ·refine⟨_,rfl,_,_,rfl,rfl,_,rfl,rK #[46] (fun c=>dU _ _ ⟨rfl,aB.refl _⟩)⟩
  refine⟨_,rfl,rfl,_,rfl,Ar (fun z=>?_) (fun z=>dU _ _ ⟨rfl,aB.refl _⟩)⟩
  refine⟨_,rfl,_,rfl,_,_,rfl,rfl,m,r,g,rows.length,wide,n-1,n,rows,wb,signs,pW,?_,M7,R,ls,⟨n0,by omega⟩,by omega,⟨by omega,by omega⟩,TF,by omega,fun H8 s8=>⟨_,rfl,ic (dU _ _ ⟨rfl,s8⟩)⟩⟩
  show [V.ref m,V.int ((n:Int)-1)]=[V.ref m,V.int ((n-1:Nat):Int)]
  rw[show((n-1:Nat):Int)=(n:Int)-1 by omega]
 rintro σ' H8 ⟨rfl,s8⟩
 have M8:=M7.same fun b xs e=>s8 _ _ e
 have MF8:=MF7.same fun b xs e=>s8 _ _ e
 refine⟨_,rfl,_,_,rfl,rfl,_,rfl,rK #[46] #[46]⟩
 ·exact⟨_,rfl,m,r,g,rows.length,wide,200,n,rows,wb,signs,pW,rfl,M8,R,ls,⟨n0,by omega⟩,by omega,⟨by decide,by decide⟩,TF,by omega,fun H9 _=>k _⟩
 ·refine⟨_,rfl,m,r,g,rows.length,wide,200,rows,signs,rfl,M8,R,ls,⟨n0,by omega⟩,by omega,⟨by decide,by decide⟩,fun mI rI gI aoA amN n3 H9 s9 MI TI le3=>?_,fun d H9 lP eK ps _ LO _ nd re lt=>absurd (TF.all LO nd re) #[0]⟩
  obtain⟨f1,f2,_⟩:=TI.one TF
  rw[f1,f2]at MI
  have MF9:=MF8.same fun b xs e=>s9 _ _ e
  exact⟨_,rfl,mI,mF,_,_,rfl,rfl,cj MI.tup,cj MF9.tup,bI.eqD MI MF9,k _⟩
end
structure Here(P:qR)(w:World)(K:Yv)(mg:qW->Option Value)(base:Heap):Prop
structure eF(K:Yv)(mg:qW->Option Value)(x:qW)(st:Stmt):Prop where
 ex:∃ (f:Qu) (fd:qG),mg x=some (.ref f)/\bG K x x st .none f fd
structure TopD(K:Yv)(mg:qW->Option Value)(x:qW)(st:Stmt)(d:V):Prop where
 ex:∃ (f T:Qu) (fd:qG) (o:Obj) (n:Nat) (u:Value),mg x=some (.ref f)/\bG K x x st (.ref T) f fd/\K.lookup T=some o/\o.data=.seq #[u] n/\RelV d u
structure CL(K:Yv)(C:Qu)(m q:qW)(st:Stmt):Prop where
 ex:∃ (f:Qu) (fd:qG),Meth K C m f/\bG K m q st .none f fd
structure Td(K:Yv)(C:Qu)(q:qW)(st:Stmt):Prop where
 ex:∃ (f:Qu) (fd:qG),Mk K C f/\bG K "__init__" q st .none f fd
section
variable{h:Heap}{x q m:qW}{oc kV pm ct u:Value}{ps:List qW}{k:Nat}
theorem am1(X:K.In h)(G:h.Ns WM mg)(a:Gy K WM x=some (some (.ref f)))(l:K.lookup f=some ⟨oc,od,.func (yJ x x (dQ st) (cO st) (av st) .none kV doc pm an cA ct),FF⟩)(c:yY K cA x=true)(k:yH K (.ref f)=true):eF K mg x st:=
 ⟨_,_,GR X G a,Ak l c k⟩
theorem am0(X:K.In h)(G:h.Ns WM mg)(a:Gy K WM x=some (some (.ref f)))(l:K.lookup f=some ⟨oc,od,.func (yJ x x (dQ st) (cO st) (av st) (.ref T) kV doc pm an cA ct),FF⟩)(c:yY K cA x=true)(k:yH K (.ref f)=true)(t:K.lookup T=some ⟨tc,td,.seq #[u] n,tsl⟩)(r:RelV d u):TopD K mg x st d:=
 ⟨_,_,_,_,_,_,GR X G a,Ak l c k,t,rfl,r⟩
theorem al6(a:yB K #[30] m=some (some (.ref f)))(l:K.lookup f=some ⟨oc,od,.func (yJ m q (dQ st) (cO st) (av st) .none kV doc pm an cA ct),FF⟩)(c:yY K cA q=true)(k:yH K (.ref f)=true)(n:yu K (.ref f)=true):CL K C m q st:=
 ⟨_,_,⟨a,n,k⟩,Ak l c k⟩
theorem alR(a:yB K #[30] "__init__" = some (some (.ref f)))(l:K.lookup f=some ⟨oc,od,.func (yJ "__init__" q (dQ st) (cO st) (av st) .none kV doc pm an cA ct),FF⟩)(c:yY K cA q=true)(k:yH K (.ref f)=true)(n:yu K (.ref f)=true)(mk:Xu K C=true)(kc:yH K #[30]=true):Td K C q st:=
 ⟨_,_,⟨mk,a,n,kc⟩,Ak l c k⟩
def BdN(p:List Value->Prop):Nat->List Value->Prop
 | 0,us=>p us
 | n+1,us=>∀ a,BdN p n (us++[a])
theorem BdN.all{p:List Value->Prop}:∀ {n:Nat} {vs:List Value} (us:List Value),BdN p n vs->us.length=n->p (vs++us)
 | 0,vs,[],h,_=>by rw[JA];exact h
 | n+1,vs,u :: us,h,e=>by
  have:=BdN.all us (h u) (Nat.succ.inj e)
  rw[jv]at this
  exact this
abbrev Bd(x q:qW)(st:Stmt)(ps:List qW):Prop := ∀ (kV doc pm:Value) (an:Option Qu) (cA ct:Value),BdN (fun us=>bindArgs (yJ x q (dQ st) (cO st) (av st) .none kV doc pm an cA ct) ⟨us,[]⟩=pure (ps.zip us)) ps.length []
abbrev BdD(x:qW)(st:Stmt)(ps:List qW)(m:Nat)(g:Value->List Value):Prop := ∀ (T:Qu) (u kV doc pm:Value) (an:Option Qu) (cA ct:Value),BdN (fun us=>∃ k:Option (Array Value)->qS (List (qW×Value)),
 bindArgs (yJ x x (dQ st) (cO st) (av st) (.ref T) kV doc pm an cA ct) ⟨us,[]⟩=seqItems? (.ref T)>>=k/\k (some #[u])=pure (ps.zip (us++g u))) m []
theorem eF.g(_:Here P w K mg base)(t:eF K mg x st)(ok:∀ f fd,bG K x x st .none f fd->bu P w K mg base eM k f fd ps sp)(b:Bd x x st ps:=by (repeat intro _);rfl):bO P w K mg base x k ps [] sp:=by
 obtain⟨f,fd,m,F⟩:=t.ex
 exact⟨f,fd,[],m,F.kp,.nil,F.binds fun k d p a c e us=>(b k d p a c e).all us,ok f fd F⟩
theorem TopD.g(_:Here P w K mg base)(t:TopD K mg x st d)(ok:∀ T f fd,bG K x x st (.ref T) f fd->bu P w K mg base eM k f fd ps sp)(b:BdD x st ps ps.length fun _=>[]:=by (repeat intro _);exact⟨_,rfl,rfl⟩):bO P w K mg base x k ps [] sp:=by
 obtain⟨f,T,fd,o,n,u,m,F,ho,hs,r⟩:=t.ex
 exact⟨f,fd,[],m,F.kp,.nil,F.Hi ho hs ps.length rfl fun k d p a c e us=>(b T u k d p a c e).all us,ok T f fd F⟩
theorem TopD.gd(_:Here P w K mg base)(t:TopD K mg x st d)(ok:∀ T f fd,bG K x x st (.ref T) f fd->bu P w K mg base eM k f fd ps sp)(b:BdD x st ps (ps.length-1) fun u=>[u]:=by (repeat intro _);exact⟨_,rfl,rfl⟩)(e:ps.length-1+1=ps.length:=by rfl):bO P w K mg base x k ps [d] sp:=by
 obtain⟨f,T,fd,o,n,u,m,F,ho,hs,r⟩:=t.ex
 exact⟨f,fd,[u],m,F.kp,.cons r .nil,F.Hi ho hs _ e fun k d p a c e us=>(b T u k d p a c e).all us,ok T f fd F⟩
theorem CL.g(_:Here P w K mg base)(t:CL K C m q st)(cl:Io K C)(ok:∀ f fd,bG K m q st .none f fd->bu P w K mg base eM k f fd ps sp)(b:Bd m q st ps:=by (repeat intro _);rfl):rL P w K mg base C m k ps sp:=by
 obtain⟨f,fd,M,F⟩:=t.ex
 exact⟨cl,f,fd,M,F.binds fun k d p a c e us=>(b k d p a c e).all us,ok f fd F⟩
theorem Td.g(_:Here P w K mg base)(t:Td K C q st)(g:mg x=some #[30])(cl:Io K C)(ok:∀ f fd,bG K "__init__" q st .none f fd->bu P w K mg base eM k f fd ps sp)(b:Bd "__init__" q st ps:=by (repeat intro _);rfl):O3 P w K mg base x C k ps sp:=by
 obtain⟨f,fd,M,F⟩:=t.ex
 exact⟨g,cl,f,fd,M,F.binds fun k d p a c e us=>(b k d p a c e).all us,ok f fd F⟩
theorem eF.law{l:XR}(t:eF K mg "law" st)(hfa:mg "law" = some (.ref fa))(b:∀ (kV doc pm:Value) (an:Option Qu) (cA ct v:Value),bindArgs (yJ "law" "law" (dQ st) (cO st) (av st) .none kV doc pm an cA ct) ⟨[v],[]⟩=pure [(("_law_script" : qW),v)])(ok:∀ base f fd,bG K "law" "law" st .none f fd->bu l.prog w K mg base eM k f fd ["_law_script"] sp):∃ fd:qG,(∀ (s:qV) (v:Value),Qx s fd ⟨[v],[]⟩ [("_law_script",v)])/\∀ base:Heap,K.In base->base.Ns WM mg->bu l.prog w K mg base eM k fa fd ["_law_script"] sp:=by
 obtain⟨f,fd,m,F⟩:=t.ex
 cases m.symm.trans hfa
 exists 19
 exact⟨_,fun s v=>.of_eq (b kV doc pm an cA ct v),fun base _ _=>ok base _ _ F⟩
end
section
variable{x q m:qW}{F1:Qu}{oc kV pm ct u:Value}{ps:List qW}{k:Nat}
theorem eF.gH(_:Here P w K mg base)(t:eF K mg x st)(ok:∀ f fd,bG K x x st .none f fd->IA P w K mg base eM k f fd ps sp)(b:Bd x x st ps:=by (repeat intro _);rfl):adA P w K mg base x k ps [] sp:=by
 obtain⟨f,fd,m,F⟩:=t.ex
 exact⟨f,fd,[],m,F.kp,.nil,F.binds fun k d p a c e us=>(b k d p a c e).all us,ok f fd F⟩
theorem TopD.gX2(_:Here P w K mg base)(t:TopD K mg x st d)(ok:∀ T f fd,bG K x x st (.ref T) f fd->bu P w K mg base (O0 P w) k f fd ps sp)(b:BdD x st ps ps.length fun _=>[]:=by (repeat intro _);exact⟨_,rfl,rfl⟩):rM P w K mg base x k ps [] sp:=by
 obtain⟨f,T,fd,o,n,u,m,F,ho,hs,r⟩:=t.ex
 exact⟨f,fd,[],m,F.kp,.nil,F.Hi ho hs ps.length rfl fun k d p a c e us=>(b T u k d p a c e).all us,ok T f fd F⟩
theorem TopD.akx(_:Here P w K mg base)(t:TopD K mg x st d)(ok:∀ T f fd,bG K x x st (.ref T) f fd->bu P w K mg base (O0 P w) k f fd ps sp)(b:BdD x st ps (ps.length-1) fun u=>[u]:=by (repeat intro _);exact⟨_,rfl,rfl⟩)(e:ps.length-1+1=ps.length:=by rfl):rM P w K mg base x k ps [d] sp:=by
 obtain⟨f,T,fd,o,n,u,m,F,ho,hs,r⟩:=t.ex
 exact⟨f,fd,[u],m,F.kp,.cons r .nil,F.Hi ho hs _ e fun k d p a c e us=>(b T u k d p a c e).all us,ok T f fd F⟩
structure abj(K:Yv)(C F1 f:Qu)(q:qW)(st:Stmt):Prop where
 ex:∃ fd:qG,BI K C f/\bG K "__init__" q st .none f fd
theorem abj.g(_:Here P w K mg base)(t:abj K C F1 f q st)(g:mg x=some #[30])(ok:∀ fd,BI K C f->bG K "__init__" q st .none f fd->bu P w K mg base eM k f fd ps sp)(b:Bd "__init__" q st ps:=by (repeat intro _);rfl):adB P w K mg base x C f k ps sp:=by
 obtain⟨fd,M,F⟩:=t.ex
 exact⟨g,M,fd,F.binds fun k d p a c e us=>(b k d p a c e).all us,ok fd M F⟩
theorem alS(a:yB K #[30] "__init__" = some (some (.ref f)))(l:K.lookup f=some ⟨oc,od,.func (yJ "__init__" q (dQ st) (cO st) (av st) .none kV doc pm an cA ct),FF⟩)(c:yY K cA q=true)(k:yH K (.ref f)=true)(n:yu K (.ref f)=true)(ex:wy K C f=true)(kc:yH K #[30]=true)(sa:yB K #[30] "__setattr__" = some (some (.builtin "object.__setattr__")))(hd:yr K C=true)(mr:mroIs K C [C,F1]=true)(xc:CW K C):abj K C F1 f q st:=
 ⟨_,⟨ex,n,kc,sa,hd,⟨_,mr⟩,xc⟩,Ak l c k⟩
theorem ai7(ga:yB K #[30] "__getattribute__" = some (some (.builtin "BaseException.__getattribute__")))(gt:yB K #[30] "__getattr__" = some none)(cl:yB K #[30] "__class__" = some (some #[32]))(gg:yt K #[32] "__get__" = some (some #[38]))(tk:GC K #[32]=some true)(ob:yR K C (.type "object")=some true)(be:yR K C (.type "BaseException")=some true):CW K C:=
 ⟨ga,gt,cl,gg,tk,ob,be,by
  obtain⟨cd,e,_⟩:=zj.mp (show(yR K C (.type "object"))=some true from ob)
  rw[e]
  rfl⟩
end
theorem MC{v:Value}{b:Bool}(h:yR K C v=some b):(PySem.W.clsIn K C).isSome=true:=by
 unfold yR at h
 obtain⟨cd,e,_⟩:=zj.mp h
 rw[e]
 rfl
theorem ah9{t:Value}{b:Bool}(h1:yR K D (.type "object")=some true)(h2:ym K (.ref D)=some (.type "type"))(h3:yX K t (.ref D)=some b):xG K t (.ref D)=some b:=by
 unfold xG
 dsimp only
 rw[if_pos (by rw[MC h1,h2];decide)]
 exact h3
theorem aia{b:Bool}(h1:yR K D (.type "object")=some true)(h2:ym K (.ref D)=some (.type "type"))(h3:yX K #[30] (.ref D)=some b)(ne:(Yw C==Yw D)=false):
  yE K #[30] (.ref D)=some b:=by
 unfold yE
 rw[if_neg (by rw[ne];decide)]
 exact ah9 h1 h2 h3
theorem aeO(h:yX K #[30] (.type "ValueError")=some true):yE K #[30] (.type "ValueError")=some true:=by
 unfold yE
 rw[if_neg (by intro z;cases beq_iff_eq.mp z)]
 unfold xG
 dsimp only
 rw[if_pos #[3]]
 exact h
theorem adX{F:Qu}(h0:yX K (.ref F) (.type "BaseException")=some true)(h1:yR K F (.type "object")=some true)(h2:ym K (.ref F)=some (.type "type"))(h3:yX K #[30] (.ref F)=some true):
  XF K #[30] (.ref F)=some true:=by
 unfold XF
 rw[if_pos (by rw[h0];decide)]
 exact ah9 h1 h2 h3
structure Oth(K:Yv)(C D:Qu):Prop where
 o:yR K D (.type "object")=some true
 t:ym K (.ref D)=some (.type "type")
 u:yX K #[30] (.ref D)=some false
 e:(Yw C==Yw D)=false
structure Und(K:Yv)(C D:Qu):Prop where
 o:yR K D (.type "object")=some true
 t:ym K (.ref D)=some (.type "type")
 u:yX K #[30] (.ref D)=some true
 e:(Yw C==Yw D)=false
structure Exm(K:Yv)(C:Qu):Prop where
 b:yX K #[30] (.type "BaseException")=some true
 o:yR K C (.type "object")=some true
 t:ym K #[30]=some (.type "type")
 u:yX K #[30] #[30]=some true
theorem Oth.k(h:Oth K C D):yE K #[30] (.ref D)=some false:=aia h.o h.t h.u h.e
theorem Und.k(h:Und K C D):yE K #[30] (.ref D)=some true:=aia h.o h.t h.u h.e
theorem Exm.k(h:Exm K C):XF K #[30] #[30]=some true:=adX h.b h.o h.t h.u
theorem all_mk{l:XR}(hfa:mg "law" = some (.ref fa))(TQ:mg "Parted" = some (.ref de))(RT:mg "Turning" = some (.ref dZ))(pK:mg "TooGreat" = some (.ref bQ))(dJ:mg "FigureError" = some (.ref dI))(sd:mg "NoFigures" = some (.ref BG))(se:mg "NoMachine" = some (.ref BH))(Dk:mg "NoName" = some (.ref Iw))(Bg:mg "NoPower" = some (.ref EK))(Ht:mg "NoRow" = some (.ref O2))(Dm:mg "NoSome" = some (.ref Iy))(Dn:mg "NoText" = some (.ref Iz))(Bh:mg "TooWide" = some (.ref EL))(bh:mg "len" = none)(bj:mg "range" = none)(fq:mg "list" = none)(aK:mg "tuple" = none)(lK:mg "dict" = none)(cL:mg "enumerate" = none)(AO:mg "int" = none)(aD:mg "isinstance" = none)(BF:mg "bool" = none)(iG:mg "reversed" = none)(F5:mg "min" = none)(Eg:mg "sorted" = none)(F6:mg "set" = none)(rb:mg "ValueError" = none)(tL:abj K bQ dI tP "TooGreat.__init__" eJ)(Mp:eF K mg "is_whole" wJ)(B6:eF K mg "is_whole_from" lI)(Hd:eF K mg "need_whole" pU)(Tg:eF K mg "halved" DV)(Ry:TopD K mg "figures" Bu (.int 10))(adM:TopD K mg "room" Oz (.int 0))(adN:eF K mg "told" OA)(IL:eF K mg "sign_down" sU)(B7:TopD K mg "reached_rooms" lJ (.int 0))(He:eF K mg "with_rooms" dD)(Hc:eF K mg "columns_of" ma)(Rx:eF K mg "back_of" Bt)(wZ:Td K de "Parted.__init__" cD)(AZ:CL K de "is_done" "Parted.is_done" iC)(Aa:CL K de "wait_for" "Parted.wait_for" fX)(pI:CL K de "next_splitter" "Parted.next_splitter" dA)(wo:CL K de "split_off" "Parted.split_off" dB)(A0:CL K de "part_by" "Parted.part_by" iE)(Ac:eF K mg "unparted_groups" cQ)(abq:eF K mg "least" AH)(wq:Td K dZ "Turning.__init__" fj)(B4:CL K dZ "begin" "Turning.begin" lG)(CS:CL K dZ "step" "Turning.step" fY)(CQ:CL K dZ "sign" "Turning.sign" mH)(abp:TopD K mg "grown" CF (.int 200))(IM:TopD K mg "turned" DW (.int 200))(IH:eF K mg "_law_draw" sP)(Ha:eF K mg "_law_there" pT)(G9:eF K mg "_law_signs" lZ)(CU:eF K mg "_law_machine" hJ)(IK:eF K mg "_law_walk" sQ)(El:eF K mg "_law_is_row" oG)(Ab:eF K mg "_law_is_machine" fZ)(B5:eF K mg "_law_in_order" lH)(Em:eF K mg "_law_others" oH)(II:eF K mg "_law_late" iV)(G4:eF K mg "_law_reach" lY)(G3:eF K mg "_law_keeps" dC)(CV:eF K mg "_law_refused" mJ)(IJ:eF K mg "_law_read" oo)(fc:Io K de)(aj8:yB K (.ref de) "group_of" = some none)(aj9:yB K (.ref de) "members" = some none)(aka:yB K (.ref de) "waiting" = some none)(akb:yB K (.ref de) "is_waiting" = some none)(iQ:Io K dZ)(amW:yB K (.ref dZ) "signs" = some none)(amX:yB K (.ref dZ) "columns" = some none)(xc:CW K bQ)(xm:Exm K bQ)(xf:Und K bQ dI)(ah1:yB K (.ref bQ) "most" = some none)(akn:yt K (.ref dI) "__getattribute__" = some (some (.builtin "type.__getattribute__")))(ako:Xv K dI (.type "type")=true)(akm:Xw K (.ref dI) (.type "type") "__init__" = some (.val (.builtin "ValueError.__init__")))(kve:yX K (.ref bQ) (.type "ValueError")=some true)(Lr:Oth K bQ BG)(Ls:Oth K bQ BH)(Y5:Oth K bQ Iw)(Si:Oth K bQ EK)(ab7:Oth K bQ O2)(Y6:Oth K bQ Iy)(Y7:Oth K bQ Iz)(Sj:Oth K bQ EL)(agP:eF K mg "law" aaM):
  ∃ fd:qG,(∀ (s:qV) (v:Value),Qx s fd ⟨[v],[]⟩ [("_law_script",v)])/\∀ base:Heap,K.In base->base.Ns WM mg->bu l.prog w K mg base eM 8 fa fd ["_law_script"] (Q5 K):=by
 refine agP.law hfa (fun _ _ _ _ _ _ _=>rfl) fun base f fd agw=>?_
 have I:Here l.prog w K mg base:=⟨⟩
 have pc:=(show IC K de from⟨fc,aj8,aj9,aka,akb⟩)
 have tc:=(show abo K dZ from⟨iQ,amW,amX⟩)
 have mR:=tL.g I pK fun _ xi F=>ace F xi ah1 dJ akn ako akm
 have wg:=Mp.g I fun _ _ F=>Lu F aD AO BF
 have iY:=B6.g I fun _ _ F=>acb F wg
 have lQ:=Hd.g I fun _ _ F=>acf F iY
 have CJ:=Tg.g I fun _ _ F=>Sm F
 have AV:=Ry.g I fun _ _ _ F=>N9 F lQ CJ iG aK
 have CK:=adM.gd I fun _ _ _ F=>acg F
 have AW:=adN.g I fun _ _ F=>ach F CK
 have rQ:=IL.g I fun _ _ F=>HG F AW AV
 have fQ:=B7.gd I fun _ _ _ F=>Od F fq
 have lR:=He.g I fun _ _ F=>aac F aK
 have eh:=Hc.g I fun _ _ F=>ab9 F bj aK
 have AU:=Rx.g I fun _ _ F=>Y9 F cL
 have AS:=wZ.g I TQ fc fun _ _ F=>Oc F pc bh fq bj lK cL
 have wc:=AZ.g I fc fun _ _ F=>Sn F pc bh
 have mQ:=Aa.g I fc fun _ _ F=>Oe F pc
 have ij:=pI.g I fc fun _ _ F=>Z2 F pc fq
 have pC:=wo.g I fc fun _ _ F=>Z6 F pc mQ bh lK
 have we:=A0.g I fc fun _ _ F=>Sr F pc pC bh
 have fS:=Ac.g I fun _ _ F=>aeY F pc eh AU AS wc ij we fq lK
 have Co:=abq.g I fun _ _ F=>Z1 F fQ lR fS cL lK bh
 have pD:=wq.g I RT iQ fun _ _ F=>Z8 F tc eh
 have CI:=B4.g I iQ fun _ _ F=>Su F tc
 have G0:=CS.g I iQ fun _ _ F=>aaa F tc aK
 have F9:=CQ.g I iQ fun _ _ F=>Z9 F
 have wU:=abp.gX2 I fun _ _ _ F=>Sl F CI G0 F9 mR bj bh aK
 have sZ:=IM.gX2 I fun _ _ _ F=>DK F pD wU Co
 have mS:=IM.akx I fun _ _ _ F=>DK F pD wU Co
 have wV:=(rM.calm sZ)
 have wj:=(rM.calm mS)
 have aQ:=IH.g I fun _ _ F=>aca F bh
 have pH:=Ha.g I fun _ _ F=>Z7 F aQ F5
 have pG:=G9.g I fun _ _ F=>Z5 F aQ bj AO aK
 have mj:=CU.g I fun _ _ F=>Oa F aQ pH pG bj aK
 have rP:=IK.g I fun _ _ F=>aab F
 have cI:=El.g I fun _ _ F=>Sq F aD aK AO BF bh
 have fO:=Ab.g I fun _ _ F=>So F cI aD aK bh
 have iX:=B5.g I fun _ _ F=>Z3 F bh bj
 have mi:=Em.gH I fun _ _ F=>Ob F xc sd se Dk Bg Ht Dm Dn Bh Lr.k Ls.k Y5.k Si.k ab7.k Y6.k Y7.k Sj.k aD
 have rN:=II.g I fun _ _ F=>acd F bj aK
 have pF:=G4.g I fun _ _ F=>Ss F bh Eg F6
 have pE:=G3.g I fun _ _ F=>Z0 F pF bh bj aK F6
 have fP:=CV.g I fun _ _ F=>Lv F xc mR.M ah1 dJ pK xm.k xf.k (aeO kve) sZ mS mi cI aD rb
 have rO:=IJ.g I fun _ _ F=>Z4 F aQ AW rP rQ bh F5 bj fq iG
 exact aeX agw aQ mj rN wV wj fO iX pE rO fP bh
theorem walk{l:XR}{q:qR}{XP:(qW->Option Value)->Heap->Prop}{YP:World->Heap->Prop}{d:DefRec}{K:Params->Yv}(hn:l.most=some 63)(hdf:d.params.defaults=[])(hY:∀ (w:World) (h:Heap),YP w h->(K w.params).In h)(F:∀ (w:World) (mg:qW->Option Value) (fa:Qu) (h:Heap),(K w.params).In h->h.Ns WM mg->mg d.name=some (.ref fa) ->
   ∃ fd:qG,(∀ (s:qV) (u:Value),Qx s fd ⟨[u],[]⟩ [("_law_script",u)])/\∀ base:Heap,(K w.params).In base->base.Ns WM mg->bu l.prog w (K w.params) mg base eM 8 fa fd ["_law_script"] (Q5 (K w.params))):
  GO q loose XP YP l.row.toRowW d [] (fun f vs=>GF f vs):=
 L2.acU (n:=63) (k:=8) (x := "_law_script") (CX:=fun _=>eM) (sp:=fun w=>Q5 (K w.params)) hn #[8] hdf ⟨rfl,by decide,by decide⟩ hY F (fun _ _ a ns hl _ hS=>⟨a,ns,rfl,hS,hl,fun _=>rfl⟩) fun _ _ _ _ _ z=>z
end My
def PySem.W.Fast.tw2334819239032348095:=0
def PySem.W.Fast.tw3485789782819548740:=0
def PySem.W.Fast.tw12856804846130123271:=0
def PySem.W.Fast.tw1865052636150521168:=0
def PySem.W.Fast.tw14718049155595978756:=0
def PySem.W.Fast.tw12836053378926100416:=0
def PySem.W.Fast.tw4752968961421465321:=0
def PySem.W.Fast.tw8603907314123025968:=0
def PySem.W.Fast.tw16647684044625870691:=0
def PySem.W.Fast.tw16191534503062715272:=0
def PySem.W.Fast.tw4042379924511091401:=0
def PySem.W.Fast.tw3246316031926661683:=0
def PySem.W.Fast.tw10410996306634633738:=0
def PySem.W.Fast.tw1163281279175312968:=0
def PySem.W.Fast.tw14800567743659397858:=0
def PySem.W.Fast.tw7173081418369751743:=0
def PySem.W.Fast.tw1698213995870769205:=0
def PySem.W.Fast.tw8678605452962117679:=0
def PySem.W.Fast.tw8745371718456930464:=0
def PySem.W.Fast.tw6656998917356588055:=0
def PySem.W.Fast.tw4364045040275107609:=0
def PySem.W.Fast.tw3122675694216348494:=0
def PySem.W.Fast.tw4333496655670389910:=0
def PySem.W.Fast.tw685501864799968577:=0
def PySem.W.Fast.tw8386892697253597529:=0
def PySem.W.Fast.tw2398620567819674719:=0
def PySem.W.Fast.tw5616075651553173573:=0
def PySem.W.Fast.tw5172430936759485741:=0
def PySem.W.Fast.tw2739377811841055057:=0
def PySem.W.Fast.tw13557825808194116136:=0
def PySem.W.Fast.tw3516452960986207068:=0
def PySem.W.Fast.tw7715490348233488380:=0
def PySem.W.Fast.tw18018879093852582273:=0
def PySem.W.Fast.tw13698033562092004084:=0
def PySem.W.Fast.tw3565571145831737427:=0
def PySem.W.Fast.tw13264455679252777499:=0
def PySem.W.Fast.tw15253240255589288759:=0
def PySem.W.Fast.tw734391665198506648:=0
def PySem.W.Fast.tw2513299286591111045:=0
def PySem.W.Fast.tw16885758016658115023:=0
def PySem.W.Fast.tw9759707824206205085:=0
def PySem.W.Fast.tw187978431692599836:=0
def PySem.W.Fast.tw8954440565130154659:=0
def PySem.W.Fast.tw5708853003134946425:=0
def PySem.W.Fast.tw238328164807955247:=0
def PySem.W.Fast.tw9566394677808279319:=0
def PySem.W.Fast.tw8685513006149084685:=0
def PySem.W.Fast.tw6170598519170624331:=0
def PySem.W.Fast.tw9657692219800610332:=0
def PySem.W.Fast.tw10717952249197647687:=0
def PySem.W.Fast.tw7620759422018615689:=0
def PySem.W.Fast.tw4628198355452586628:=0
def PySem.W.Fast.tw17722013339937245530:=0
def PySem.W.Fast.tw16651856480014801503:=0
def PySem.W.Fast.tw16378523218508000038:=0
def PySem.W.Fast.tw9312549774487071604:=0
def PySem.W.Fast.tw12339347211162150781:=0
def PySem.W.Fast.tw17291327140467416005:=0
def PySem.W.Fast.tw8354629970875573602:=0
def PySem.W.Fast.tw2229473346824922943:=0
def PySem.W.Fast.tw7100574281104495453:=0
def PySem.W.Fast.tw1197249449258727140:=0
def PySem.W.Fast.tw7136610601233696177:=0
def PySem.W.Fast.tw11837895649922314256:=0
def PySem.W.Fast.tw14490277189997948960:=0
def PySem.W.Fast.tw1835272212203523250:=0
def PySem.W.Fast.tw7692462965542695352:=0
def PySem.W.Fast.tw16561409436535901284:=0
def PySem.W.Fast.tw6934057340057680617:=0
def PySem.W.Fast.tw14297027704060392565:=0
def PySem.W.Fast.tw18041163533687265829:=0
def PySem.W.Fast.tw17545575094267950199:=0
def PySem.W.Fast.tw9899450614382116388:=0
def PySem.W.Fast.tw17262331587610443096:=0
def PySem.W.Fast.tw64303068019835888:=0
def PySem.W.Fast.tw10656686345827057815:=0
def PySem.W.Fast.tw11258884844708883532:=0
def PySem.W.Fast.tw9947503339453120958:=0
def PySem.W.Fast.tw9732341373441720491:=0
def PySem.W.Fast.tw8964444639874571825:=0
def PySem.W.Fast.tw2275549278254067105:=0
def PySem.W.Fast.tw16603868043396578245:=0
def PySem.W.Fast.tw13431489682314422619:=0
def PySem.W.Fast.tw14313108042436267410:=0
def PySem.W.Fast.tw14400548733362967749:=0
def PySem.W.Fast.tw5488373218026571777:=0
def PySem.W.Fast.tw4305504502523050437:=0
def PySem.W.Fast.tw10781599514064699430:=0
def PySem.W.Fast.tw8206161792781339209:=0
def PySem.W.Fast.tw13094148162688438943:=0
def PySem.W.Fast.tw16835524094640956990:=0
def PySem.W.Fast.tw17693987900108280318:=0
def PySem.W.Fast.tw4711346085562351249:=0
def PySem.W.Fast.tw14560796681392035600:=0
def PySem.W.Fast.tw12324624979772495903:=0
def PySem.W.Fast.tw4100058862063740512:=0
def PySem.W.Fast.tw18186188407555532584:=0
def PySem.W.Fast.tw17206101764507550894:=0
def PySem.W.Fast.tw9052891715528837928:=0
def PySem.W.Fast.tw11765756101387973696:=0
def PySem.W.Fast.tw1635347549175581216:=0
def PySem.W.Fast.tw11311986845749026442:=0
def PySem.W.Fast.tw628179495898309537:=0
def PySem.W.Fast.tw17526543701639640512:=0
def PySem.W.Fast.tw6085025976014894398:=0
def PySem.W.Fast.tw5424463456901965361:=0
def PySem.W.Fast.tw14654656702708977733:=0
def PySem.W.Fast.tw355124921497479769:=0
def PySem.W.Fast.tw7032734214945032874:=0
def PySem.W.Fast.tw5805965963348497017:=0
def PySem.W.Fast.tw9926168284386355822:=0
def PySem.W.Fast.tw7628190371339385456:=0
def PySem.W.Fast.tw3414242763707937629:=0
def PySem.W.Fast.tw8122339452657340757:=0
def PySem.W.Fast.tw10216151298815480742:=0
def PySem.W.Fast.tw4463243238929653691:=0
def PySem.W.Fast.tw4071861054241676105:=0
def PySem.W.Fast.tw1488479602941433682:=0
def PySem.W.Fast.tw9798103241801175315:=0
def PySem.W.Fast.tw5170587571114177432:=0
def PySem.W.Fast.tw16831588381952931679:=0
def PySem.W.Fast.tw3660329894713148082:=0
def PySem.W.Fast.tw9399879749246158414:=0
def PySem.W.Fast.tw2702274678604072495:=0
def PySem.W.Fast.tw7021872584673892697:=0
def PySem.W.Fast.tw16290023620193868249:=0
def PySem.W.Fast.tw6550700861465506216:=0
def PySem.W.Fast.tw5422593008022051523:=0
def PySem.W.Fast.tw7751676364329909025:=0
def PySem.W.Fast.tw17999736054260717691:=0
def PySem.W.Fast.tw13400726856693707482:=0
def PySem.W.Fast.tw10815643612647785558:=0
def PySem.W.Fast.tw5053055297575551831:=0
def PySem.W.Fast.tw6677859847796394044:=0
def PySem.W.Fast.tw4762095712234952319:=0
def PySem.W.Fast.tw9738143549755553601:=0
def PySem.W.Fast.tw5129349379792271276:=0
def PySem.W.Fast.tw16124746729702114672:=0
def PySem.W.Fast.tw4807039068707722388:=0
def PySem.W.Fast.tw8587479795740026034:=0
def PySem.W.Fast.tw5245990834205326057:=0
def PySem.W.Fast.tw14709736667403598316:=0
def PySem.W.Fast.tw10276019304166390272:=0
def PySem.W.Fast.tw12577461965199360937:=0
def PySem.W.Fast.tw11545502936345473039:=0
def PySem.W.Fast.tw989574241838740569:=0
def PySem.W.Fast.tw1119182064769925128:=0
def PySem.W.Fast.tw4526805147297499650:=0
def PySem.W.Fast.tw7742386170775026718:=0
def PySem.W.Fast.tw3355573085539986583:=0
open PySem PySem.W PyProof.Rows
set_option maxRecDepth 100000 in
set_option maxHeartbeats 0 in
theorem PySem.Challenge.cw_figuretell_k31_turned_holds : PySem.Challenge.rw_figuretell_k31_turned.Holds := by
 w_on; o_law; k_head; (case hw=>w_witness2)
 k_fill
 refine My.walk (l:=PySem.Challenge.rw_figuretell_k31_turned) rfl rfl (fun w h Y=>PySem.W.kIn_of Y) ?F
 case F =>
  intro w mg fa h KX G hmg
  apply My.all_mk hmg
  all_goals first
   | exact PySem.W.mg_none_of KX G (by k_is)
   | (refine' PySem.W.mg_of KX G ?qa; (case qa=>k_is))
   | (refine' My.am1 KX G ?qa ?ql ?qc ?qk; (case qa=>k_is); (case ql=>k_is); (case qc=>k_is); (case qk=>k_is))
   | (refine' My.am0 KX G ?qa ?ql ?qc ?qk ?qt ?qr; (case qa=>k_is); (case ql=>k_is); (case qc=>k_is); (case qk=>k_is); (case qt=>k_is); (case qr=>first | rfl | exact ⟨_,rfl⟩))
   | (refine' My.al6 ?qa ?ql ?qc ?qk ?qn; (case qa=>k_is); (case ql=>k_is); (case qc=>k_is); (case qk=>k_is); (case qn=>k_is))
   | (refine' My.alR ?qa ?ql ?qc ?qk ?_ ?_ ?_; (case qa=>k_is); (case ql=>k_is); (case qc=>k_is); (case qk=>k_is); all_goals first | k_is | k_exc | decide | kernel_rfl)
   | (refine' My.alS ?qa ?ql ?qc ?qk ?qn ?_ ?_ ?_ ?_ ?_ ?qxc; (case qa=>k_is); (case ql=>k_is); (case qc=>k_is); (case qk=>k_is); (case qn=>k_is); (case qxc=>refine' My.ai7 ?_ ?_ ?_ ?_ ?_ ?_ ?_ <;> k_is); all_goals first | k_is | k_exc | decide | kernel_rfl)
   | (refine' My.ai7 ?_ ?_ ?_ ?_ ?_ ?_ ?_ <;> k_is)
   | k_is
   | k_exc
   | (refine ⟨?_,?_,?_,?_⟩ <;> first | k_is | k_exc | decide | kernel_rfl)
   | decide
   | kernel_rfl
