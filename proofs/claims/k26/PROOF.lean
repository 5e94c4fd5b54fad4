import PyProof.Rows.All
import Wide.All
import OpenK.AllK
import Wide.FinOn
import Lean
import PyProof.EqAt
import PyProof.EqKinds
import PyProof.TupleCall
import PyProof.NeKinds
import PyProof.ExcBaseAll.ValueError
import PyProof.ExcClass3
import OpenK.KOwn
import PyProof.Rows.FStr
import KE.KTryMore
import PyProof.ExcAttrAll.ValueError
import KE.KDictList
import PyProof.CompMap
import PyProof.ExcInit
import PyProof.InstStoreFacts
import PyProof.Draws
import PyProof.ListRange
import PyProof.ZipIter
import PyProof.EnumMake
import PyProof.CollectIter
import PyProof.SetRoads
import PyProof.Rows.SortShell
import PyProof.Rows.SortWalk
import PySem.Challenge.RW_figuretell_k26_some_number
open PySem.W renaming Frag→Yh,findIn→Ym,keepIn→Yp,fnOf→Yr,kitOne→Ys,kia_one→Yu,mroIn→Yw,emptyDict→Yy,subIn→yD,codeIn→yE,instObj→yG,callWith_K→yM,typeIn→yR,hasDictIn→yU,specialIn→yV,isFn→yW,exmOne→yY,hideAll_get→yZ,cellsFrom_some→yh,plainGet→yi,methodCall_KW→yk,hideAll_none→yn,OpenLaw→yp,plainGet_of→yt,lookIn→yu,methodObj→XF,takerIn→XY,makesIn→XZ,readsIn→Xa,findCls→Xb,kitCls→Xj,of_hideAll→Xr,codeRec_of→Xt,plainOver→Xy,kitx_list→xA,kitx_dict→xB,handedIn→xI,kdl_call→xJ,hideAll→xN,takesIn→xO,WalkO→xb,mg_of→xk,nsIn→GS
open PySem.Value renaming ref→Yi,none→Yn,int→Yt,builtin→Yx,type→yA,bool→yc,str→yj,float→xH,isStrOf→xZ,isInt→GW,bytes→GX
open PySem.F renaming plainAttrs_list→Yj,slot_list_append→Yk,type_list_append→Yl,slot_dict_keyiterator_iter→yB,slot_dict_get→yF,plainAttrs_dict→yI,plain_max_loop→yK,slot_dict_keyiterator_next→yL,slot_tuple_iterator_next→yN,entry_dict_get→yT,slot_enumerate_next→yX,args_dict_keyiterator_iter_1→yb,entry_dict_keyiterator_iter→yd,slot_dict_itemiterator_iter→ye,slot_list_pop→yl,type_list_pop→ym,args_dict_keyiterator_next_1→yq,entry_dict_keyiterator_next→yr,args_tuple_iterator_next_1→yw,slot_dict_setdefault→yx,entry_tuple_iterator_next→XB,excBase_ValueError→XE,entry_max_loop→XI,slot_list_extend→XO,type_list_extend→XQ,args_dict_get_2→XR,args_dict_get_3→XS,args_enumerate_next_1→XU,slot_dict_items→XW,entry_enumerate_next→Xd,slot_dict_pop→Xf,type_dict_get→Xg,entry_bexc_ga→Xh,args_list_extend_2→Xk,args_bexc_ga→Xm,kt_typeCall_dict_1→Xn,entry_list_extend→Xo,slot_list_extend→Xu,args_dict_init_2→Xv,entry_dict_init→xD,plain_list_iadd→xE,slot_tuple_hash→xG,kt_called_dict→xK,slot_dict_iter→xM,plain_set_new→xR,slot_set_iter→xS,slot_dict_len→xU
open PySem.Heap.SameBut renaming update→Yo,refl→Gi
open PyProof.Rows renaming callWith_type1→Yq,step_dedup→yg,callWith_builtin1→yo,kmb_tree→Ga,mul_int→Gd
open PySem.Heap renaming SameBut→Yv,ExtBut→Xc,IsRevIter→Xl,IsList→GY
open PySem.Calls renaming spliced_cons→Yz,callWith_builtin→yC,spliced_nil→yO,evalArgs_plain→yP,Name_function_global→XD,call_function_entry→XG
open PySem.Builtin.List renaming listTooLong→yH,listExtendWith→XC,listSameRef→XN,listLengthHint→xY,listTouch→GZ
open PySem renaming mem_of_lookup→yJ,Within→Xq,call→xP
open PySem.Builtin.SmallTypes renaming nextOf→yQ
open PySem.Builtin.Dict renaming updateFrom→yS,addKeywords→XJ,selfAndRest→XM,pairItems→Xe,showsAll→Xi,dictSlotNone→GA,pendingCount→GB
open PySem.Builtin.Tuple renaming tupleHashOf→ya,tupleItemsOf→xj
open PyProof.Rows.F renaming plain_set_update_loop→yf,entry_set_update_loop→XX
open PySem.Builtin.Dict_items renaming ownsTuple→yz
open PySem.Builtin.Builtins renaming bindParams→XA
open PySem.SeqAt renaming EqAt→XH
open PySem.Builtin.ObjectAttr renaming find→XT,dataDescriptor?→xC,getOf→GQ
open PySem.Builtin.Int renaming intBits→Xp
open PySem.W.Looks renaming here→Xs,ld→Gm
open PySem.SeqAt.EqAt renaming int_int→Xw,of_refs→Xx,same→xT,int_str→Ge,str_int→Gf
open PySem.Heap.Ns1 renaming of_empty→Xz
open PySem.SeqAt.RcAt renaming tuples→xF
open PySem.Heap.DictOf renaming new→xQ
open PySem.Value.int renaming injEq→xV
open PySem.Value.ref renaming injEq→xW,inj→xg
open PySem.Builtin.Frozenset renaming updateFrom→xX,newClass→xh,sizeOf→GR,slot0→GV
open PySem.EqNone renaming eq_none_none→xn,eq_none_bool→xo,eq_bool_none→xp,ne_none_none→xt,ne_none_bool→xu,ne_bool_none→xw,eq_none_int→GC,eq_none_str→GD,eq_int_none→GF,eq_str_none→GH,ne_none_int→GJ,ne_none_str→GK,ne_int_none→GL,ne_str_none→GO
open PySem.EqMixed renaming eq_bool_str→xq,eq_str_bool→xr,ne_bool_str→xx,ne_str_bool→xy,eq_int_str→GG,eq_str_int→GI,ne_int_str→GN,ne_str_int→GP
open PySem.Builtin.Range renaming rangeSize→GU
open PySem.Heap.Ns renaming of_isNs→Gb
open PySem.Heap.IsSliceOf renaming new→Gg
open PySem.Within renaming cons→Gh
open PySem.IsL renaming update→Gj
open PySem.Heap.DictOfH renaming new→Gk
open PySem.Value.type renaming inj→Gn
open PySem renaming Addr→Qo,Arguments→Qq,BindsTo→Qr,CmpOp→Qt,DictEntry→Qu,Drawn→Qv,ElemsOf→Qw,Env→Qx,FuncData→Qz,GenState→qA,IsTupleKey→qE,Keyword→qF,NameKind→qG,Paired→qH,PassesOwn→qI,Program→qJ,Sem→qK,SetTable→qL,Shared→qM,Str→qN,Walks→qP,assignEach→qQ,behindInMarks→qR,bootBuiltins→qS,builtinLookup_eq_fast→qV,call_meets→qW,call_meetsIn→qX,codeAny_builtin→qY,codeAny_call_builtin→qZ,codeAny_call_function→qd,codeAny_compStart_list→qf,codeAny_mono→qg,codeAny_of_tree→qh,compareOp→qj,entryFor_alias→qp,entryFor_of_tree→qq,fits_of_scanBound→qu,intKind→qv,intKind_is→qw,isSubtype_stop→qx,kt_code_dict_new→qy,mainGlobals→WA,pastItsLine_dict→WB,plainId_quiet→WC,plainObj_wpAny_Assign_Attribute→WD,seqIndex_of→WE,sizeLine_eq→WG,starEach→WH,swapsWith→WJ,sysModules→WK,tupleKind→WL,tupleKind_room_in1→WM,typeLookup_type→WN,wpAny_Assign_Name→WO,wpAny_Assign_Subscript→WQ,wpAny_Call_Name_kw→WR,wpAny_Call_method→WS,wpAny_Dict_empty→WT,wpAny_Name→WU,wpAny_askSetting→WV,wpAny_assign_Name→WW,wpAny_attempt→WX,wpAny_bind→WY,wpAny_call→WZ,wpAny_callSpecial?_slot→Wa,wpAny_call_entry→Wb,wpAny_comprehension_free→Wc,wpAny_dictEntries→Wd,wpAny_dictEpoch→We,wpAny_dictSet_heap→Wf,wpAny_entryPlaceOf→Wg,wpAny_execs_cons→Wh,wpAny_execs_nil→Wi,wpAny_field→Wj,wpAny_fieldsOf→Wk,wpAny_frameOf_fun→Wl,wpAny_getItem_heap→Wm,wpAny_handled→Wo,wpAny_holding→Wq,wpAny_isInstance→Wr,wpAny_isOneOf_keyiter→Ws,wpAny_isSubtype_exc→Wt,wpAny_isTrue_Compare1→Wu,wpAny_letGo→Wv,wpAny_letOwnedTupleGo_enum→Ww,wpAny_load→Wx,wpAny_loadPart→Wy,wpAny_loadPart_at→Wz,wpAny_lookBehind→YA,wpAny_mono→YB,wpAny_newFunctionEnv→YC,wpAny_newFunctionEnv_cells→YD,wpAny_newObj_type→YE,wpAny_notOrdered_dict→YG,wpAny_of_eq→YH,wpAny_passesOwn→YI,wpAny_pure→YJ,wpAny_pyIter_enum→YK,wpAny_pyIter_list→YL,wpAny_pyIter_revIter→YM,wpAny_pyIter_slot→YN,wpAny_pyIter_tuple→YO,wpAny_pyNext_enum_itemD→YQ,wpAny_ret_mkInt→YR,wpAny_rule→YS,wpAny_seqItems→YT,wpAny_setField→YU,wpAny_setItem_heap→YV,wpAny_setState_of→YW,wpAny_specialOf→YX,wpAny_standAt→YY,wpAny_storeSet_of→YZ,wpAny_throw→Ya,wpAny_truthy_bool→Yb,wpAny_tryCatch→Yc,wpAny_typeNameOfWhole_keyiter→Yd,wpAny_typeNameOf_keyiter→Ye,wpAny_typeOf→Yf,wpAny_updateSeq→Yg
open PyProof.Rows renaming AllBare→Qp,Call_→Qs,IntsAre→qB,IsTup→qD,Subscript_→qO,boot_range→qU,subscriptTail_builtinR→WI,wpAny_notIn_heap→YF
open PySem.W renaming looks_mroIn→qz
open PySem.Heap renaming get?_push_of_some→jA,get?_push_size→jK,lt_size→jL,get?_update_other→jg,get?_update_self→jr,size_push→JA,get?_none_of_le→ZA,get?_push_cases→ZF,get?_update_ne→Zr
open Int renaming toNat_natCast→jB,toNat_of_nonneg→jn,zero_add→JJ,mul_le_mul_of_nonneg_left→JR,emod_lt_of_pos→Jk,emod_nonneg→Jx,mul_assoc→Jy,pow_succ→zJ,mul_comm→zK,ediv_ediv_of_nonneg→zM,mul_nonneg→zR,mul_one→zZ,emod_add_mul_ediv→zy,ediv_nonneg→ZJ,le_refl→ZO,mul_add→ZP,pow_pos→ZQ,fdiv_eq_ediv_of_nonneg→ZU,le_of_lt→ZZ,pow_zero→Zb,ediv_eq_zero_of_lt→Zh,ediv_lt_of_lt_mul→Zl,mul_ediv_cancel→Zv,mul_pos→QJ,mul_sub→QK,pow_add→QL,mul_le_mul→QW,add_assoc→QZ,zero_emod→Qb,zero_ediv→Qc,le_trans→Qf,ofNat_lt→Qi,mul_zero→Qj
open List renaming getElem?_eq_getElem→jC,map_append→jD,mem_cons_self→jE,mem_singleton→jG,length_append→jH,getD_eq_getElem?_getD→jI,mem_cons_of_mem→jJ,getElem_mem→jM,mem_map→jN,getElem?_map→jO,mem_append_right→jP,length_take→jR,size_toArray→jS,mem_cons→jU,take_length→jV,length_map→jW,length_singleton→jX,take_add_one→jY,range→jZ,mem_append_left→jb,length_cons→jc,mem_range→je,getElem_of_mem→jm,length_range→jq,getElem?_eq_some_iff→js,mem_filter→ju,idxOf_lt_length_of_mem→jv,append_nil→jx,nodup_cons→jy,drop_eq_getElem_cons→jz,filter_cons_of_neg→JB,append_assoc→JC,filter_cons_of_pos→JD,mem_iff_getElem?→JF,getElem?_append_left→JG,range_succ→JI,getElem?_append_right→JK,lookup_cons→JL,foldl_append→JM,map_cons→JN,map_map→JO,nodup_append→JQ,getElem_inj→JT,replicate→JV,filter_append→JW,nodup_nil→JZ,length_pos_of_mem→Ja,length_filter_le→Jc,pairwise_map→Je,foldl_cons→Jf,lookup→Jg,getElem_map→Jh,any_eq_true→Ji,getElem?_eq_none→Jj,mem_append→Jm,length_nil→Jo,not_mem_nil→Jp,getElem?_set_self→Jq,take_of_length_le→Jr,getElem_idxOf→Jw,getElem?_set_ne→zA,mem_of_getElem?→zB,mem_erase_of_ne→zC,drop_eq_nil_iff→zD,mem_of_mem_take→zF,length→zG,set_set→zH,length_erase_of_mem→zI,length_eq_zero_iff→zL,pairwise_singleton→zN,find?_cons→zO,take_append_drop→zS,length_drop→zT,drop_length→zU,ext_getElem→zV,length_eraseIdx_of_lt→zX,exists_cons_of_ne_nil→zY,filterMap_cons→zb,map_congr_left→ze,length_set→zg,pairwise_iff_getElem→zh,getElem_take→zp,idxOf_append→zq,pairwise_lt_range→zr,mem_flatMap→zw,length_replicate→zx,of_mem_zip→ZD,length_dropLast→ZE,nil_append→ZG,drop_append_of_le_length→ZK,dropLast_concat_getLast→ZL,take_zero→ZM,mem_filterMap→ZR,pairwise_cons→ZS,zipIdx_append→ZT,take_sublist→ZV,filter_congr→ZX,getElem?_replicate→Zc,forIn_cons→Zd,find?_cons_of_neg→Ze,map_id→Zf,drop_eq_nil_of_le→Zg,drop_of_length_le→Zi,dropLast_concat→Zn,any_cons→Zp,filter_eq_self→Zs,getElem?_range→Zt,flatMap_append→Zu,map_nil→Zy,length_zipIdx→QC,getElem_range→QD,ext_getElem?→QG,flatMap_cons→QH,filter_cons→QO,cons_append→QP,filter_nil→QS,idxOf_cons→QT,take_range→QU,forIn_nil→QV,drop_zero→QX,map_take→Qa,any_map→Qe,map_set→Qg,getD→Qm
open Nat renaming le_refl→jF,ne_of_lt→jQ,zero_le→jd,lt_of_lt_of_le→jh,le_trans→jk,lt_or_ge→JP,le_succ→JS,lt_succ_self→JU,lt_irrefl→JX,zero_add→Jd,le_of_lt→Jl,ne_of_gt→Js,eq_zero_or_pos→Jt,lt_trans→Ju,sub_self→Jv,lt_succ_of_lt→Jz,pow_le_pow_right→zE,not_lt_zero→zP,lt_of_le_of_lt→zk,le_antisymm→ZH,min_eq_left→ZI,mul_le_mul→ZN,le_of_not_lt→ZY,succ_le_succ→Za,mul_le_mul_right→Zo,le_of_eq→Zx,add_comm→Zz,add_sub_cancel→QB,succ_mul→QE,pow_pos→QM,mod_lt→QR,sub_zero→Qh,log2_lt→Qk
open Bool renaming false_ne_true→jo,false_eq_true→JE,and_eq_true→zv,eq_iff_iff→ZC,false_and→Zj,and_false→Zk,not_true→Zq,and_true→QY
open Array renaming length_toList→jt,getElem?_eq_getElem→JH,getElem?_eq_some_iff→JY,getElem?_toList→Jb,getElem?_setIfInBounds_self_of_lt→zW,toList→zj,getElem?_eq_none→zt,getElem?_setIfInBounds_ne→zz,toArray_toList→Zm,find?_toList→Zw,forIn_toList→QA,toList_push→QF,getD→QQ
open Option renaming isSome_iff_exists→Jn,map_eq_some_iff→zQ,bind_eq_some_iff→zo,getD_some→zu,isSome_map→ZW,none→QI,getD_none→QN,map→Ql
local macro_rules|`(tactic|exists $es,*)=>`(tactic|refine ⟨$es,*, ?_⟩)
set_option Elab.async false
set_option linter.all false
namespace L2
variable{t0 t1 t2 t3 t4 t5 t6 t7 t8 t9:Type}
inductive E2 (p:t0->t1->Prop):Prop
 | mk (x0:t0) (x1:t1) (h:p x0 x1):E2 p
inductive E3 (p:t0->t1->t2->Prop):Prop
 | mk (x0:t0) (x1:t1) (x2:t2) (h:p x0 x1 x2):E3 p
inductive E4 (p:t0->t1->t2->t3->Prop):Prop
 | mk (x0:t0) (x1:t1) (x2:t2) (x3:t3) (h:p x0 x1 x2 x3):E4 p
inductive E5 (p:t0->t1->t2->t3->t4->Prop):Prop
 | mk (x0:t0) (x1:t1) (x2:t2) (x3:t3) (x4:t4) (h:p x0 x1 x2 x3 x4):E5 p
inductive E6 (p:t0->t1->t2->t3->t4->t5->Prop):Prop
 | mk (x0:t0) (x1:t1) (x2:t2) (x3:t3) (x4:t4) (x5:t5) (h:p x0 x1 x2 x3 x4 x5):E6 p
inductive E7 (p:t0->t1->t2->t3->t4->t5->t6->Prop):Prop
 | mk (x0:t0) (x1:t1) (x2:t2) (x3:t3) (x4:t4) (x5:t5) (x6:t6) (h:p x0 x1 x2 x3 x4 x5 x6):E7 p
inductive E9 (p:t0->t1->t2->t3->t4->t5->t6->t7->t8->Prop):Prop
 | mk (x0:t0) (x1:t1) (x2:t2) (x3:t3) (x4:t4) (x5:t5) (x6:t6) (x7:t7) (x8:t8) (h:p x0 x1 x2 x3 x4 x5 x6 x7 x8):E9 p
inductive E10 (p:t0->t1->t2->t3->t4->t5->t6->t7->t8->t9->Prop):Prop
 | mk (x0:t0) (x1:t1) (x2:t2) (x3:t3) (x4:t4) (x5:t5) (x6:t6) (x7:t7) (x8:t8) (x9:t9) (h:p x0 x1 x2 x3 x4 x5 x6 x7 x8 x9):E10 p
inductive E12 {t10 t11:Type} (p:t0->t1->t2->t3->t4->t5->t6->t7->t8->t9->t10->t11->Prop):Prop
 | mk (x0:t0) (x1:t1) (x2:t2) (x3:t3) (x4:t4) (x5:t5) (x6:t6) (x7:t7) (x8:t8) (x9:t9) (PZ:t10) (x11:t11) (h:p x0 x1 x2 x3 x4 x5 x6 x7 x8 x9 PZ x11):E12 p
inductive E17 {t10 t11 t12 t13 t14 t15 t16:Type} (p:t0->t1->t2->t3->t4->t5->t6->t7->t8->t9->t10->t11->t12->t13->t14->t15->t16->Prop):Prop
 | mk (x0:t0) (x1:t1) (x2:t2) (x3:t3) (x4:t4) (x5:t5) (x6:t6) (x7:t7) (x8:t8) (x9:t9) (PZ:t10) (x11:t11) (x12:t12) (x13:t13) (x14:t14) (x15:t15) (x16:t16) (h:p x0 x1 x2 x3 x4 x5 x6 x7 x8 x9 PZ x11 x12 x13 x14 x15 x16):E17 p
inductive A3 (p0 p1 p2:Prop):Prop
 | mk (_:p0) (_:p1) (_:p2):A3 p0 p1 p2
inductive A4 (p0 p1 p2 p3:Prop):Prop
 | mk (_:p0) (_:p1) (_:p2) (_:p3):A4 p0 p1 p2 p3
inductive A5 (p0 p1 p2 p3 p4:Prop):Prop
 | mk (_:p0) (_:p1) (_:p2) (_:p3) (_:p4):A5 p0 p1 p2 p3 p4
inductive A6 (p0 p1 p2 p3 p4 p5:Prop):Prop
 | mk (_:p0) (_:p1) (_:p2) (_:p3) (_:p4) (_:p5):A6 p0 p1 p2 p3 p4 p5
inductive A7 (p0 p1 p2 p3 p4 p5 p6:Prop):Prop
 | mk (_:p0) (_:p1) (_:p2) (_:p3) (_:p4) (_:p5) (_:p6):A7 p0 p1 p2 p3 p4 p5 p6
inductive A8 (p0 p1 p2 p3 p4 p5 p6 p7:Prop):Prop
 | mk (_:p0) (_:p1) (_:p2) (_:p3) (_:p4) (_:p5) (_:p6) (_:p7):A8 p0 p1 p2 p3 p4 p5 p6 p7
inductive A9 (p0 p1 p2 p3 p4 p5 p6 p7 p8:Prop):Prop
 | mk (_:p0) (_:p1) (_:p2) (_:p3) (_:p4) (_:p5) (_:p6) (_:p7) (_:p8):A9 p0 p1 p2 p3 p4 p5 p6 p7 p8
inductive A10 (p0 p1 p2 p3 p4 p5 p6 p7 p8 p9:Prop):Prop
 | mk (_:p0) (_:p1) (_:p2) (_:p3) (_:p4) (_:p5) (_:p6) (_:p7) (_:p8) (_:p9):A10 p0 p1 p2 p3 p4 p5 p6 p7 p8 p9
inductive A11 (p0 p1 p2 p3 p4 p5 p6 p7 p8 p9 p10:Prop):Prop
 | mk (_:p0) (_:p1) (_:p2) (_:p3) (_:p4) (_:p5) (_:p6) (_:p7) (_:p8) (_:p9) (_:p10):A11 p0 p1 p2 p3 p4 p5 p6 p7 p8 p9 p10
inductive A12 (p0 p1 p2 p3 p4 p5 p6 p7 p8 p9 p10 p11:Prop):Prop
 | mk (_:p0) (_:p1) (_:p2) (_:p3) (_:p4) (_:p5) (_:p6) (_:p7) (_:p8) (_:p9) (_:p10) (_:p11):A12 p0 p1 p2 p3 p4 p5 p6 p7 p8 p9 p10 p11
inductive A13 (p0 p1 p2 p3 p4 p5 p6 p7 p8 p9 p10 p11 p12:Prop):Prop
 | mk (_:p0) (_:p1) (_:p2) (_:p3) (_:p4) (_:p5) (_:p6) (_:p7) (_:p8) (_:p9) (_:p10) (_:p11) (_:p12):A13 p0 p1 p2 p3 p4 p5 p6 p7 p8 p9 p10 p11 p12
inductive A15 (p0 p1 p2 p3 p4 p5 p6 p7 p8 p9 p10 p11 p12 p13 p14:Prop):Prop
 | mk (_:p0) (_:p1) (_:p2) (_:p3) (_:p4) (_:p5) (_:p6) (_:p7) (_:p8) (_:p9) (_:p10) (_:p11) (_:p12) (_:p13) (_:p14):A15 p0 p1 p2 p3 p4 p5 p6 p7 p8 p9 p10 p11 p12 p13 p14
end L2
def ad4:Nat->Lean.Syntax->List Lean.Syntax
 | 0,b=>[b]
 | n+1,b=>if b.getKind==.mkSimple "term_\u2227_" || b.getKind==.mkSimple "term_/\\_" then b[0] :: ad4 n b[2]else [b]
def ahJ(k:Lean.Syntax):List (Lean.Syntax×Lean.Syntax):=
 if k.getKind==`Lean.unbracketedExplicitBinders then k[0].getArgs.toList.map fun i=>(i,k[1][1])
 else k.getArgs.toList.flatMap fun b=>b[1].getArgs.toList.map fun i=>(i,b[3])
open Lean in
local macro_rules
 | `(∃ $xs:explicitBinders,$b) => do
  let bs:=ahJ xs.raw[0]
  let cs:=ad4 99 b
  if bs.length<=1&&cs.length<=2 then Macro.throwUnsupported
  let mut r <- if cs.length<=2 then pure b else do
   let as:Array Term:=cs.toArray.map fun c=>⟨c⟩
   `($(mkIdent (`L2 ++ Name.mkSimple s!"A{cs.length}")) $as*)
  for (i,t) in bs.reverse do
   let i:Term:=⟨i[0]⟩
   let t:Term:=⟨t⟩
   r <- if t.raw.isMissing then `(fun $i => $r)else `(fun($i : $t) => $r)
  if bs.length == 1 then `(Exists $r)else `($(mkIdent (`L2 ++ Name.mkSimple s!"E{bs.length}")) $r)
local macro_rules|`(tactic| omega)=>`(tactic| first|lia|omega (splitNatSub:=true))
set_option maxRecDepth 100000
set_option hygiene false in
local macro_rules
|`(tactic|exists 0)=>`(tactic|try dsimp only[cu,Cx.lI,Cx.cw])
|`(tactic|exists 1)=>`(tactic|intro X hP hw hK hc i pins s σ H E I hf st hg)
|`(tactic|exists 2)=>`(tactic|obtain⟨f0,f1,f2,f3,f4,f5⟩:=hf it (by simp))
|`(tactic|exists 3)=>`(tactic|try dsimp only[ba,cz,List.set])
|`(tactic|exists 4)=>`(tactic|have I1:Inv X pins σ H { s with heap:=h' }:=I.turned (t' := s.toks) (fun b o hb e=>(sb.2 b hb).trans e) f0 f1 f3 f4 f5)
|`(tactic|exists 5)=>`(tactic|intro pins s σ H Q I h)
|`(tactic|exists 6)=>`(tactic|refine .inr ⟨⟨xs,xs[i],q,by simp[dy]⟩,Pv (i+1),fun σ' H' p'=>⟨xs.length-(i+1),by omega,rfl,dy,p'⟩,fun x H' y=>?_⟩)
|`(tactic|exists 7)=>`(tactic|refine⟨fun i m σ H=>m=xs.length-i/\i<=xs.length/\Pv i σ H,⟨xs.length,by simp,jd _,h0⟩,?_⟩)
|`(tactic|exists 8)=>`(tactic|intro pins s σ H xs us Q I r h)
|`(tactic|exists 9)=>`(tactic|refine bX (hl pins s σ H _ I h) fun v s1 ⟨x,H1,I1,r1,q1⟩=>?_)
|`(tactic|exists 10)=>`(tactic|obtain⟨oc,od,kV,doc,pm,an,cC,ct,Hj,rfl,lk,HY⟩:=F.ex)
|`(tactic|exists 11)=>`(tactic|(refine k' _ _ hyT (aw (by rw[aO];omega)) ⟨au (au hs (hs.free hT)) hD,ts++[T],by rw[jD];rfl,?_⟩))
|`(tactic|exists 12)=>`(tactic|rintro i m σ' H' ⟨rfl,hi,hσ,ys,hy,p⟩)
|`(tactic|exists 13)=>`(tactic|obtain⟨u,rfl,rx⟩:=vals1 r)
|`(tactic|exists 14)=>`(tactic|(refine⟨as++[t],_,rfl,au (au (s3.trans s4) ((s3.trans s4).free ht)) hL,by rw[ae,jD];rfl,?_⟩))
|`(tactic|exists 15)=>`(tactic|exact I1.AG (jF _) (I1.hok.fresh (jF _)))
|`(tactic|exists 16)=>`(tactic|(exact⟨o,e,fun v z=>by rw[d]at z;cases z⟩))
|`(tactic|exists 17)=>`(tactic|(rw[show os.length=n-1 by omega,show(b:Int)^(n-1)=(N:Int) by rw[Z.en];push_cast;rfl]at this))
|`(tactic|exists 18)=>`(tactic|have hlen:kvs.length=vs.length:=Paired.length rel)
|`(tactic|exists 19)=>`(tactic|have h':(if t=(m:Int)then aY (m+1) r else if t<(m:Int)then aY m r else none)=some m1:=h)
|`(tactic|exists 20)=>`(tactic|rcases g with⟨kvs,k,e,ey,l⟩|⟨kvs,k,b,e,ey,eb,l⟩)
|`(tactic|exists 21)=>`(tactic|intro pins s σ H D I h)
|`(tactic|exists 22)=>`(tactic|refine⟨(by show 0<=sizeLine;decide),fun L hL=>?_⟩)
|`(tactic|exists 23)=>`(tactic|rw[show mC f v ((k,x) :: r)=(if k=f then(k,v) :: r else(k,x) :: mC f v r)from rfl])
|`(tactic|exists 24)=>`(tactic|have e:b=s1.heap.objs.size:=by simpa using hb)
|`(tactic|exists 25)=>`(tactic|have CD:(toString "max" ++ toString ".loop" : String) = "max.loop" := by decide)
|`(tactic|exists 26)=>`(tactic|exact⟨.ref _,_,I.laid (t' := tk) kp (jF _) ob,rfl,q _ (I.hok.fresh (jF _))⟩)
|`(tactic|exists 27)=>`(tactic|refine⟨_,rfl,(by show 2<=sizeLine;decide),fun T hT=>?_⟩)
|`(tactic|exists 28)=>`(tactic|intro pins s σ H x y v u Q I rx ry h)
|`(tactic|exists 29)=>`(tactic|first|refine WY (Yd ty (YJ ?_))|refine WY (Ye ty (YJ ?_)))
|`(tactic|exists 30)=>`(tactic|exact Paired.snoc (fH.same pv fun b xs e=>up b xs (sT _ _ e)) (up _ _ ae))
|`(tactic|exists 31)=>`(tactic|have e:b=it:=by simpa using hb)
|`(tactic|exists 32)=>`(tactic|(refine⟨L,_,_,rfl,rfl,by rw[ag nL];exact HX,aw (by rw[aO];omega),?_⟩))
|`(tactic|exists 33)=>`(tactic|(have lq:q.toNat<rows.length:=by have:=R.len;have:=hr.1;have:=hr.2;omega))
|`(tactic|exists 34)=>`(tactic|rintro T j y ys H4 Q' hT hj hy ⟨s4,rfl⟩ k')
|`(tactic|exists 35)=>`(tactic|intro pins s σ H x vs v us Q I rx rv h)
|`(tactic|exists 36)=>`(tactic|repeat (any_goals (first|assumption|wp_step)))
|`(tactic|exists 37)=>`(tactic|(rw[if_neg c,JB (by rw[decide_eq_false c];decide)];rfl))
|`(tactic|exists 38)=>`(tactic|obtain⟨z,hd,vs,rel,dd⟩:=Br I.hok e)
|`(tactic|exists 39)=>`(tactic|have len:(AK es).length<sizeLine:=aw (by unfold AK;rw[aO];omega))
set_option hygiene false in
local macro_rules
|`(tactic|exists 40)=>`(tactic|refine .inr ⟨⟨xs,xs[i],q,by simp[dy]⟩,fun x H2 y=>?_⟩)
|`(tactic|exists 41)=>`(tactic|obtain⟨hm,⟨cN,mH,hA⟩,hg⟩:=M)
|`(tactic|exists 42)=>`(tactic|intro pins s σ H R I h)
|`(tactic|exists 43)=>`(tactic|have e:i=xs.length:=by omega)
|`(tactic|exists 44)=>`(tactic|obtain⟨m,r,g,many,wide,rows,signs,rfl,_⟩:=h)
|`(tactic|exists 45)=>`(tactic|(rw[if_pos c,JD (by exact decide_eq_true c)];rfl))
|`(tactic|exists 46)=>`(tactic|obtain⟨f,fd,ds,hm,hk,hd,hb,F⟩:=G.ex)
|`(tactic|exists 47)=>`(tactic|show wpAny _ A.in1 (pyNext (.ref I)>>=_) _ _ s)
|`(tactic|exists 48)=>`(tactic|(rw[ag (nt b _ q (by intro z;cases z))];exact q))
|`(tactic|exists 49)=>`(tactic|(rw[ag (aG e hyT (by intro z;cases z))];exact e))
|`(tactic|exists 50)=>`(tactic|rintro i m σ H ⟨rfl,hi,p⟩)
|`(tactic|exists 51)=>`(tactic|obtain⟨z,hd,xs,rel,dd⟩:=Cz I.hok e)
|`(tactic|exists 52)=>`(tactic|obtain⟨t,rfl⟩:=rx)
|`(tactic|exists 53)=>`(tactic|obtain⟨z,rfl,hz⟩:=bp hi)
|`(tactic|exists 54)=>`(tactic|exact aH.snoc (A3.same sT) (by rw[ag (Ne.symm nL),ae]))
|`(tactic|exists 55)=>`(tactic|try dsimp only[ba])
|`(tactic|exists 56)=>`(tactic|exact .inl ⟨⟨xs,q,jF _⟩,hd σ H p⟩)
|`(tactic|exists 57)=>`(tactic|obtain rfl:u=Yi a:=rx)
|`(tactic|exists 58)=>`(tactic|refine⟨_,rfl,(many:Int),rfl,by omega,by omega,?_⟩)
|`(tactic|exists 59)=>`(tactic|have q:b=e\/b=it:=by simpa using hb)
|`(tactic|exists 60)=>`(tactic|rw[ag (aG e4 HX (by intro z;cases z)),ag (ao e4 ht)])
|`(tactic|exists 61)=>`(tactic|obtain⟨vs,rel,dat,lo,ho⟩:=rY I.hok Y5)
|`(tactic|exists 62)=>`(tactic|exact .inl ⟨⟨xs,q,jF _⟩,hd D ys H' hD hy p⟩)
|`(tactic|exists 63)=>`(tactic|have fr:H s.heap.objs.size=none:=I.hok.fresh (jF _))
|`(tactic|exists 64)=>`(tactic|obtain⟨z,rfl,hz⟩:=bp hj)
|`(tactic|exists 65)=>`(tactic|obtain⟨z,aX,n,r,hl,e⟩:=I.Fu hH)
|`(tactic|exists 66)=>`(tactic|obtain⟨o',e1⟩:=I.base.there b o e hx)
|`(tactic|exists 67)=>`(tactic|obtain⟨aX,rv,p,hz⟩:=I.list hq)
|`(tactic|exists 68)=>`(tactic|refine WY (YU ho hd (by simp) ?_))
|`(tactic|exists 69)=>`(tactic|try dsimp only[ba,cz])
|`(tactic|exists 70)=>`(tactic|obtain⟨ks,ps,mD,W,G,el,LO,en⟩:=h.ex)
|`(tactic|exists 71)=>`(tactic|obtain⟨f0,f1,f3,f4,f5,f6⟩:=f2 b hb)
|`(tactic|exists 72)=>`(tactic|by_cases dy:i<xs.length)
|`(tactic|exists 73)=>`(tactic|have z0:(0:Int)+(i:Int)=(i:Int):=JJ _)
|`(tactic|exists 74)=>`(tactic|have z':Data.fields _=Data.cell v:=z)
|`(tactic|exists 75)=>`(tactic|obtain⟨o,e,d⟩:=T.obj _ _ E8 b hb)
|`(tactic|exists 76)=>`(tactic|rcases hσ with z|⟨t,z⟩)
|`(tactic|exists 77)=>`(tactic|exact absurd c' (by decide))
|`(tactic|exists 78)=>`(tactic|refine WY (WY (WV (YJ ?_))))
|`(tactic|exists 79)=>`(tactic|obtain⟨e,n,ne,nf,d⟩:=I.pin p hp)
set_option hygiene false in
local macro_rules
|`(tactic|exists 80)=>`(tactic|cases(show u=Yi a from rx))
|`(tactic|exists 81)=>`(tactic|cases(show u=Yi b from ry))
|`(tactic|exists 82)=>`(tactic|have sL:=aj hL (HO.lst []))
|`(tactic|exists 83)=>`(tactic|obtain⟨aX,rv,p,hz⟩:=I.tuple hq)
|`(tactic|exists 84)=>`(tactic|intro i s acc hk hi tL hD sH hP hR)
|`(tactic|exists 85)=>`(tactic|rintro i σ' H' hi ⟨v,rfl,rfl⟩)
|`(tactic|exists 86)=>`(tactic|rintro σ' H' ⟨v,rfl,rfl⟩)
|`(tactic|exists 87)=>`(tactic|obtain⟨a,e,⟨xs,hq⟩,q⟩:=q1)
|`(tactic|exists 88)=>`(tactic|refine WR (pI I hg hm ?_ Cf))
|`(tactic|exists 89)=>`(tactic|obtain⟨t',xs',rfl,h'⟩:=h)
|`(tactic|exists 90)=>`(tactic|obtain⟨sl,y⟩:=only.2.2 b o z)
|`(tactic|exists 91)=>`(tactic|obtain⟨⟨old,he⟩,hit⟩:=st)
|`(tactic|exists 92)=>`(tactic|subst hP hw hK)
|`(tactic|exists 93)=>`(tactic|obtain⟨q,rfl,hq⟩:=bp hi)
|`(tactic|exists 94)=>`(tactic|obtain⟨u,hu,ru⟩:=rv.get hx)
|`(tactic|exists 95)=>`(tactic|obtain⟨o,ho,hc,hd⟩:=id hit)
|`(tactic|exists 96)=>`(tactic|have q:=hl D i ys H' hi p)
|`(tactic|exists 97)=>`(tactic|rw[Around.under_plainId bZ _])
|`(tactic|exists 98)=>`(tactic|have hu:=mP hr)
|`(tactic|exists 99)=>`(tactic|have q:=hl i σ H hi p)
set_option hygiene false in
local macro_rules
|`(#[0])=>`(by omega)
|`(#[1])=>`(fun cC A outer s H vs Q E hr h=>?_)
|`(#[2])=>`(by intro z;cases z)
|`(#[3])=>`(by decide +kernel)
|`(#[4])=>`(model X.prog X.w)
|`(#[5])=>`(aF aI (pv 0) aq (fun _ _=>rfl))
|`(#[6])=>`(fun vs H Q E h=>?_)
|`(#[7])=>`(model prog w)
|`(#[8])=>`((∀ y H4,H4 D=some (.lst ys)->ys.length<sizeLine->Pv D (i+1) (ys++[y]) (upd H4 D (.lst (ys++[y])))->Q' y H4))
|`(#[9])=>`(k==NameKind.free&&env.scope.kind==.function&&env.kindOf n==some .cell)
|`(#[10])=>`(by simp)
|`(#[11])=>`(qs.map fun q=>(rows.getD q.toNat []).map (rj qs))
|`(#[12])=>`(fun _ _=>rfl)
|`(#[13])=>`(by decide)
|`(#[14])=>`((b:Int)^at_)
|`(#[15])=>`(.ref s.heap.objs.size)
|`(#[16])=>`(envOfC qual scope s.heap.objs.size f cd)
|`(#[17])=>`((∀ σ' H',N σ' H'->∃ m',m'<m/\W (i+1) m' σ' H'))
|`(#[18])=>`(x==("__debug__" : qN))
|`(#[19])=>`(az aA (by rfl) aN bx (aa (pv 0) af))
|`(#[20])=>`((false,eval e X.env))
|`(#[21])=>`(fun D hD=>⟨aj hD _,rfl⟩)
|`(#[22])=>`(s.heap.objs.size+1)
|`(#[23])=>`([head,.ref L,.none,rawInt L,.none]++(if place.isEmpty then JV 6 Yn else place))
|`(#[24])=>`(by show 0<=sizeLine;decide)
|`(#[25])=>`((·.setIfInBounds 1 (Yi g1.objs.size)))
|`(#[26])=>`(s.heap.push { cls:=.type "tuple_iterator",data:=.fields #[.ref l,.int 0 0] })
|`(#[27])=>`(.Call (.Name x p) (e :: es) [] pos)
|`(#[28])=>`(s.heap.push { cls:=.type "dict",data:=.dict #[] })
|`(#[29])=>`(backTo pos (WH es X.env))
|`(#[30])=>`(by rw[aO];omega)
|`(#[31])=>`(.ref C)
|`(#[32])=>`(.builtin "object.__class__")
|`(#[33])=>`(cP X N scope fp s H H2.objs.size)
|`(#[34])=>`(Obj.mapFields (·.setIfInBounds 1 (rawInt ((i:Int)+1))))
|`(#[35])=>`(PB rows fs many (rows.length*fs.length) rows.length 0)
|`(#[36])=>`(.tup xs)
|`(#[37])=>`(ns.map V.int)
|`(#[38])=>`(by rfl)
|`(#[39])=>`((·.setIfInBounds 3 ((none:Option Qo).elim Yn fun f=>rawInt f)))
set_option hygiene false in
local macro_rules
|`(#[40])=>`(.builtin "getset_descriptor.__get__")
|`(#[41])=>`(fun D' iK=>?_)
|`(#[42])=>`(model P w)
|`(#[43])=>`(cP X N scope fp s H C)
|`(#[44])=>`(cN.map V.ref)
|`(#[45])=>`(by show 1<=sizeLine;decide)
|`(#[46])=>`(.ListComp elt [⟨tg,iter,[],0⟩] scope pos)
|`(#[47])=>`(h1.push { cls:=.type "list_iterator",data:=.fields #[.ref l,.int 0 0] })
|`(#[48])=>`((".0",.local))
|`(#[49])=>`(bE aV hr (aa (pv 0) (aa aq af)))
|`(#[50])=>`((σ'=aP ix σ\/∃ t,σ'=(aP ix σ).set 0 t))
|`(#[51])=>`(ha pos pins s σ H _ I h)
|`(#[52])=>`(cj I q #[10])
|`(#[53])=>`(fun c=>?_)
|`(#[54])=>`(bX (ho pins s σ H _ I h) fun u s1 ⟨x,H1,I1,rx,a,ex,d,q1⟩=>?_)
|`(#[55])=>`(upd H s.heap.objs.size (.tup [.int i,x]))
|`(#[56])=>`(s1.heap.push { cls:=.type "range",data:=.fields #[.int 0 s1.toks,.int n t,.int 1 (s1.toks+1)] })
|`(#[57])=>`(aw (by rw[aO,aO,jR];omega))
|`(#[58])=>`(((2:Nat):Int)^at_)
|`(#[59])=>`(bX (hi pins s σ H _ I h) fun v s1 h1=>bX h1 fun itv s2 h2=>?_)
|`(#[60])=>`(by with_unfolding_all rfl)
|`(#[61])=>`((∀ b o,s.heap.get? b=some o->h'.get? b=some o))
|`(#[62])=>`(as.map V.ref)
|`(#[63])=>`(aa (pv 2) af)
|`(#[64])=>`(upd H' T (HO.tup [V.int q,V.bl true]))
|`(#[65])=>`(pickOrder (w.params.setOrder S ep) es)
|`(#[66])=>`(dz (pv 0) rfl)
|`(#[67])=>`(fun z=>nomatch z)
|`(#[68])=>`(Qo×Obj)
|`(#[69])=>`(fun r s'=>r=.ok (.ret (.bool true))/\OldK s₁.heap s'.heap/\s'.os=s₁.os/\Qp s'.gens)
|`(#[70])=>`(fun D hD=>⟨aj hD _,[],rfl,.nil⟩)
|`(#[71])=>`(List Key×Qo×Value)
|`(#[72])=>`(A.under (.builtin "type.__call__" ⟨.ref C :: us,kw⟩))
|`(#[73])=>`(.ref m)
|`(#[74])=>`(.dK kvs)
|`(#[75])=>`(upd H D (.lst []))
|`(#[76])=>`(s.heap.push { cls:=.type "range",data:=.fields #[.int lo t,.int hi u,.int 1 v] })
|`(#[77])=>`(EP X pins σ Q)
|`(#[78])=>`(rows.getD q.toNat [])
|`(#[79])=>`(oO rows b many #[14])
set_option hygiene false in
local macro_rules
|`(#[80])=>`(he pins s σ H _ I h)
|`(#[81])=>`(aa (pv 1) af)
|`(#[82])=>`(upd H4 W (HO.lst (ws.dropLast.map V.int)))
|`(#[83])=>`(g∈ks\/ins.length<=(outF mem ins).length)
|`(#[84])=>`(List Key×V)
|`(#[85])=>`(Yr name qual params body scope dV kV doc pm an cC ct)
|`(#[86])=>`(.ref D)
|`(#[87])=>`(.type "BaseException")
|`(#[88])=>`(.lst ys)
|`(#[89])=>`(.type "object")
|`(#[90])=>`(ns.map fun n=>dig b n j)
|`(#[91])=>`(aP ix σ)
|`(#[92])=>`((∀ q∈ks,(0<=q/\q<(many:Int))/\bR rows fs gs q))
|`(#[93])=>`(az aA #[38] aN bx (aa #[5] af))
|`(#[94])=>`(.ref f)
|`(#[95])=>`(.inl rfl)
|`(#[96])=>`(some (.builtin "object.__setattr__"))
|`(#[97])=>`(fun b o hb e=>eb b o hb e)
|`(#[98])=>`(by rw[e];exact True.intro)
|`(#[99])=>`(nt c _ z (by intro y;cases y))
|`(#[100])=>`(dE X.env.cells scope.names [])
|`(#[101])=>`(FG.mk (cE (aa aq (aa aq af))))
|`(#[102])=>`(fr.of_keeps fun b o z nf=>⟨o,(oth b (pl b o z nf)).trans z,rfl⟩)
|`(#[103])=>`(backToKw pos (keywordEach [] X.env))
|`(#[104])=>`(jP _ (jP _ (eY hb e)))
|`(#[105])=>`(fun b o z=>(oth b fun y=>by rw[y,x7]at z;cases z).trans (st b o z))
|`(#[106])=>`(aa (pv 4) af)
|`(#[107])=>`(aa (pv 3) af)
|`(#[108])=>`(.Call (.Attribute o m apos) (e :: es) [] pos)
|`(#[109])=>`(bX #[51] fun us s1 ⟨vs,H1,I1,r1,q1⟩=>?_)
|`(#[110])=>`(.lst ((fO signs).map V.int))
|`(#[111])=>`((∀ x c,X.env.cells.lookup x=some c->c≠b))
|`(#[112])=>`((∀ b o,b∉wr->b≠S->s.heap.get? b=some o->h'.get? b=some o))
|`(#[113])=>`(rows.getD z.toNat [])
|`(#[114])=>`(ha pins s σ H _ I h)
|`(#[115])=>`(I.hok.fresh (jF _))
|`(#[116])=>`(aa (mZ (v:=.ty "tuple") rfl aQ bW rfl) af)
|`(#[117])=>`(by show 3<=sizeLine;decide)
|`(#[118])=>`(fun _ _ _ _=>(cE (aa (pv 0) (aa cM af))))
|`(#[119])=>`(SetTable.grown Cb.size)
set_option hygiene false in
local macro_rules
|`(#[120])=>`(I.ok.hd hc)
|`(#[121])=>`(names.map fun(n,k)=>if #[9]then(n,NameKind.cell)else(n,k))
|`(#[122])=>`(if q<m then(aY m r).bind fun m'=>bO (q+1) m' rs else none)
|`(#[123])=>`(cu (P4 P w) P w K mg base N qual scope f cd A outer s H E)
|`(#[124])=>`(az wU #[38] aN bx (aa (aM (rL rfl) #[38] BU DP #[63]) af))
|`(#[125])=>`(.lst (ts.map V.ref++[V.ref T]))
|`(#[126])=>`(ak (aJ cM))
|`(#[127])=>`(fun _ _=>False)
|`(#[128])=>`(HO.tup [V.int wide,V.ref rt,V.ref gt])
|`(#[129])=>`(.Call (.Attribute o m apos) [] [] pos)
|`(#[130])=>`(fun x y=>av many x/\av many y/\iL rows wide signs x y)
|`(#[131])=>`(bX #[51] fun us s1 ⟨vs,H1,I1,r,q⟩=>⟨I1.sJ,?_⟩)
|`(#[132])=>`((∀ b∈fp,H' b=none))
|`(#[133])=>`(upd H2 ea (.ext (iM ea C d)))
|`(#[134])=>`(cq (rh gs) gs.length)
|`(#[135])=>`(A.deeper (envOfC qual (ar st) s.heap.objs.size f cC))
|`(#[136])=>`(cu CX P w K mg base N qual scope f cC A outer s H E)
|`(#[137])=>`(Lu CX P w K mg base N qual scope f cC A outer s H E)
|`(#[138])=>`(setG gs ins (ds.length:Int))
|`(#[139])=>`(#[91].set 0 (some (.int i)))
|`(#[140])=>`(List K×Qo×Value)
|`(#[141])=>`(qs.map fun q=>signs.getD q.toNat 0)
|`(#[142])=>`(fun e h=>by cases h)
|`(#[143])=>`(b∈X.ex\/X.s₀.heap.objs.size<=b)
|`(#[144])=>`((∀ ws,o.data≠.fields ws))
|`(#[145])=>`(.type "type")
|`(#[146])=>`(.ListComp elt [⟨tg,iter,[cond],0⟩] scope pos)
|`(#[147])=>`(ts.map Yi)
|`(#[148])=>`(.int wide)
|`(#[149])=>`((∀ b u,s.heap.get? b=some u->h'.get? b=some u))
|`(#[150])=>`(upd H s.heap.objs.size (.lst []))
|`(#[151])=>`(aM aW #[38] aQ bW (aa (pv 5) af))
|`(#[152])=>`(Option.some.inj hi)
|`(#[153])=>`(.lst (al.map V.bl))
|`(#[154])=>`(.dK (cH ks))
|`(#[155])=>`(hs.2 b (jQ (jh (jL e) (I.ok.cab x c hfn hc))))
|`(#[156])=>`((cq φ rows.length).map fun q=>signs.getD q 0)
|`(#[157])=>`(row.map V.int)
|`(#[158])=>`(kvs.any fun kv=>decide (kv.1=k))
|`(#[159])=>`(ws.map V.int)
set_option hygiene false in
local macro_rules
|`(#[160])=>`(ho pins s1 σ H1 _ I1 q1)
|`(#[161])=>`(by simp only[jS]<;>omega)
|`(#[162])=>`(by first|rfl|(simp only[firstArgMember];rfl))
|`(#[163])=>`(aa (pv 0) af)
|`(#[164])=>`(if #[9]=true then(n,NameKind.cell)else(n,k))
|`(#[165])=>`(cellsFrom #[22] scope.names [])
|`(#[166])=>`(.builtin "ValueError.__init__")
|`(#[167])=>`((g1.push tb).update e (Obj.mapFields #[25]))
|`(#[168])=>`(!t.plain&&decide (es.size > 1))
|`(#[169])=>`(.tup [.int i,x])
|`(#[170])=>`(.se o #[74])
|`(#[171])=>`((∀ o,h1.get? ea=some o->h2.get? ea=some o))
|`(#[172])=>`(upd H s.heap.objs.size (.tup [kV p.1,p.2]))
|`(#[173])=>`(az aA #[38] aN bx #[63])
|`(#[174])=>`(aF aI (aF aI (pv 3) aq #[12]) (pv 6) #[12])
|`(#[175])=>`(some (V.int (lo+i)))
|`(#[176])=>`((Sum.inl k,V.bl true))
|`(#[177])=>`(.lst (ts.map V.ref))
|`(#[178])=>`(.lst (lv.map V.ref))
|`(#[179])=>`(.lst (gs.map V.int))
|`(#[180])=>`(.ref x)
|`(#[181])=>`((∃ m,W 0 m σ H))
|`(#[182])=>`(ks.map (·.1))
|`(#[183])=>`(fun z=>hc (by simp[z]))
|`(#[184])=>`(bA X.prog X.w)
|`(#[185])=>`(.int (aR rows (iW b ns j) 0))
|`(#[186])=>`(.ins C dx fs)
|`(#[187])=>`(.Assign [.Name x pos'] e pos)
|`(#[188])=>`(some (.builtin "type.__getattribute__"))
|`(#[189])=>`(s.heap.push (eX w))
|`(#[190])=>`(fun i=>ns.getD i 0)
|`(#[191])=>`(fun _=>?_)
|`(#[192])=>`(0<=q/\q<(many:Int))
|`(#[193])=>`(HO.tup [V.ref ca,V.bl true])
|`(#[194])=>`(.ref it)
|`(#[195])=>`(stepI rows (i:Int) fi)
|`(#[196])=>`(fun q ls=>ls=dA col q)
|`(#[197])=>`(by rw[<- sz];exact hj)
|`(#[198])=>`(σ'.set 0 (some (V.int i)))
|`(#[199])=>`(upd H' T (HO.tup [V.int i,V.bl true]))
set_option hygiene false in
local macro_rules
|`(#[200])=>`(if ([]:List qF).isEmpty then 0 else 1)
|`(#[201])=>`(es.map Prod.fst)
|`(#[202])=>`(.ref l)
|`(#[203])=>`(.ref a)
|`(#[204])=>`(.dT kvs)
|`(#[205])=>`(qN×Value)
|`(#[206])=>`(oO rows b many lo)
|`(#[207])=>`(dQ φ rows 0 rows)
|`(#[208])=>`(by simpa using hb)
|`(#[209])=>`(.tup (p.1.map kV))
|`(#[210])=>`(ho pins s σ H _ I h)
|`(#[211])=>`(.lst (mem.map V.int))
|`(#[212])=>`(.lst ((jZ n).map fun i:Nat=>V.int i))
|`(#[213])=>`(cols.map oP)
|`(#[214])=>`(by kernel_rfl)
|`(#[215])=>`(aF cY (pv 0) (pv 1) #[12])
|`(#[216])=>`(hs.2 b (jQ (jh (jL e) I1.ok.above)))
|`(#[217])=>`(stepI rows x f)
|`(#[218])=>`(start N vs)
|`(#[219])=>`(oO rows b many #[14] p i)
|`(#[220])=>`(hs.2 b (jQ (jh (jL e) I.ok.above)))
|`(#[221])=>`(he pins s1 σ H1 _ I1 q1)
|`(#[222])=>`(fun b z=>by cases z)
|`(#[223])=>`(fO signs)
|`(#[224])=>`(backToKw dN (keywordEach [] X.env))
|`(#[225])=>`(YW hS SQ hf ?_)
|`(#[226])=>`((Str.ofString "default",d))
|`(#[227])=>`(K w.params)
|`(#[228])=>`(Int×Qo)
|`(#[229])=>`(HO.tup [V.int i,V.int t])
|`(#[230])=>`(HO.lst [])
|`(#[231])=>`(.lst #[62])
|`(#[232])=>`(.builtin "len")
|`(#[233])=>`(by show(0:Int)<2;decide)
|`(#[234])=>`(br rfl aB (aa #[19] af))
|`(#[235])=>`(backTo dN (WH es X.env))
|`(#[236])=>`(.lst xs)
|`(#[237])=>`(.Compare a [op] [b] pos)
|`(#[238])=>`(ds.map V.ref)
|`(#[239])=>`(by size_fits)
set_option hygiene false in
local macro_rules
|`(#[240])=>`(My.sgn signs)
|`(#[241])=>`(.type "ValueError")
|`(#[242])=>`(("group_of",.ref go))
|`(#[243])=>`(qs.take i)
|`(#[244])=>`(pyNext (.ref I))
|`(#[245])=>`(gs.take m)
|`(#[246])=>`(.tup (k.map kV))
|`(#[247])=>`(some #[94])
|`(#[248])=>`(Or.inl rfl)
|`(#[249])=>`(.ref T)
|`(#[250])=>`(("here",.local))
|`(#[251])=>`(σ.set i (some v))
|`(#[252])=>`(fun _ _ q=>jA _ q)
|`(#[253])=>`(by simpa using h2)
|`(#[254])=>`(by simpa using h1)
|`(#[255])=>`(("members",.ref ms))
|`(#[256])=>`(yG C s.heap.objs.size)
|`(#[257])=>`(fun f hf=>by cases hf)
|`(#[258])=>`(apos.endLine==dN.line)
|`(#[259])=>`((Sum.inl e.1,V.ref e.2))
|`(#[260])=>`(.type "StopIteration")
|`(#[261])=>`(.builtin "isinstance")
|`(#[262])=>`(stepI rows y f)
|`(#[263])=>`(stepI rows q f)
|`(#[264])=>`(s.heap.push Yy)
|`(#[265])=>`(q≠(many:Int))
|`(#[266])=>`(aS de #[49] aq)
|`(#[267])=>`(Sum.inl q)
|`(#[268])=>`(r.map V.int)
|`(#[269])=>`(.builtin id)
|`(#[270])=>`(.Name x pos)
|`(#[271])=>`(s4.trans s56)
|`(#[272])=>`(putK kvs k v)
|`(#[273])=>`(outF mem ins)
|`(#[274])=>`(ls.map V.int)
|`(#[275])=>`(hv pins s σ H _ I h)
|`(#[276])=>`(hr.mono LQ)
|`(#[277])=>`(fA rows)
|`(#[278])=>`(eval e X.env)
|`(#[279])=>`(by rw[<- Z.f2];omega)
set_option hygiene false in
local macro_rules
|`(#[280])=>`(Obj.cls_mapFields ..)
|`(#[281])=>`(.type "dict")
|`(#[282])=>`(.type "list")
|`(#[283])=>`(.ref ea)
|`(#[284])=>`(.bl true)
|`(#[285])=>`(.ref L)
|`(#[286])=>`(xs.map fun q=>q.2.1)
|`(#[287])=>`(st us[i] row.length)
|`(#[288])=>`(some (.Name x pos'))
|`(#[289])=>`(oO (bu 8) 2 8 #[58])
|`(#[290])=>`(jg _ _ (Ne.symm hb))
|`(#[291])=>`(by simp;omega)
|`(#[292])=>`(SetTable.below xs j)
|`(#[293])=>`(I8.pin (b,o) #[104])
|`(#[294])=>`(.lst (lv.map V.int))
|`(#[295])=>`(.lst (fr.map V.ref))
|`(#[296])=>`(.lst (AU.map V.ref))
|`(#[297])=>`((ws++[g]).map V.int)
|`(#[298])=>`((x,NameKind.free))
|`(#[299])=>`(signs.map V.int)
|`(#[300])=>`(ds++more)
|`(#[301])=>`(by rw[jS];omega)
|`(#[302])=>`(by rw[jR];omega)
|`(#[303])=>`(Key×V)
|`(#[304])=>`((qv P w).hash k)
|`(#[305])=>`(cB signs qs)
|`(#[306])=>`(YJ (YJ ?_))
set_option maxRecDepth 100000
namespace L2
open PySem PySem.Spec PyProof.Rows
variable{us aX ds:List Value}{x f name m qual:qN}{u cd:Value}{κ α:Type}{a b it dx C:Qo}{P prog:qJ}{w:World}{h h' base:Heap}{e c tg l iter:Expr}{ob:Obj}{pins aet pl:List (Qo×Obj)}{s s':qM}{t' i j n:Nat}{ch fp:List Qo}{N ns ps:List qN}{A:Around}{E Q:Value→qM→Prop}{pos pos' p apos:Pos}{K:Yh}{st body:List Stmt}{es:List Expr}{lo:Int}{mA mg:qN→Option Value}{expr:Bool}{R:Result→qM→Prop}{env:Qx}{outer:List Qx}{fd:Qz}{sc scope:Scope}{params:Qq}{an od:Option Qo}{Hj:Array (Option Value)}
abbrev Key:=Sum Int qN
def CG:Key->Value->Bool
 | .inl k,v=>GW k v
 | .inr x,v=>xZ x v
def am3(w:World):Key->Int
 | .inl k=>hashInt k
 | .inr x=>hashStr w x
theorem cJ:∀ {k:Key} {v:Value},CG k v=true->(∃ i t,k=Sum.inl i/\v=Yt i t)\/(∃ x t,k=Sum.inr x/\v=yj x t)
 | .inl i,v,h=>by
  obtain⟨t,e⟩:=Value.isInt_shape (k:=i) (v:=v) h
  exact .inl ⟨i,t,rfl,e⟩
 | .inr x,v,h=>by
  obtain⟨t,e⟩:=Value.isStrOf_shape (x:=x) (v:=v) h
  exact .inr ⟨x,t,rfl,e⟩
theorem SY(i:Int)(t:Tok):CG (.inl i) (.int i t)=true:=by simp[CG,GW]
theorem S0(x:qN)(t:Tok):CG (.inr x) (.str x t)=true:=by simp[CG,xZ]
theorem afT(a b:Int):decide ((Sum.inl a:Key)=Sum.inl b)=(a==b):=by
 by_cases e:a=b
 ·subst e;simp
 ·have h:¬ (Sum.inl a:Key)=Sum.inl b:=fun q=>e (Sum.inl.inj q)
  rw[decide_eq_false h]
  exact(beq_eq_false_iff_ne.mpr e).symm
theorem afW(a b:qN):decide ((Sum.inr a:Key)=Sum.inr b)=decide (a=b):=by
 by_cases e:a=b
 ·subst e;simp
 ·have h:¬ (Sum.inr a:Key)=Sum.inr b:=fun q=>e (Sum.inr.inj q)
  rw[decide_eq_false h,decide_eq_false e]
theorem afU(a:Int)(b:qN):decide ((Sum.inl a:Key)=Sum.inr b)=false:=decide_eq_false (fun q=>nomatch q)
theorem afV(a:qN)(b:Int):decide ((Sum.inr a:Key)=Sum.inl b)=false:=decide_eq_false (fun q=>nomatch q)
def bA(prog:qJ)(w:World):PySem.KeyKind prog w Key where
 is:=CG
 hash:=am3 w
 inj:=fun v a b ha hb=>by
  rcases cJ ha with⟨i,t,rfl,rfl⟩|⟨x,t,rfl,rfl⟩
  ·rcases cJ hb with⟨j,u,rfl,e⟩|⟨y,u,rfl,e⟩
   ·injection e with e1 _;rw[e1]
   ·exact nomatch e
  ·rcases cJ hb with⟨j,u,rfl,e⟩|⟨y,u,rfl,e⟩
   ·exact nomatch e
   ·injection e with e1 _;rw[e1]
 byValue:=fun k v h=>by
  rcases cJ h with⟨i,t,rfl,rfl⟩|⟨x,t,rfl,rfl⟩<;>rfl
 pyHash:=fun hv h=>by
  rcases cJ hv with⟨i,t,rfl,rfl⟩|⟨x,t,rfl,rfl⟩
  ·exact wpAny_pyHash_int h
  ·exact wpAny_pyHash_str h
 eqBool:=fun hu hv h=>by
  rcases cJ hu with⟨i,t,rfl,rfl⟩|⟨x,t,rfl,rfl⟩
  ·rcases cJ hv with⟨j,u,rfl,rfl⟩|⟨y,u,rfl,rfl⟩
   ·rw[afT]at h;exact wpAny_eqBool_int h
   ·rw[afU]at h;exact Ge i t y u _ _ _ _ h
  ·rcases cJ hv with⟨j,u,rfl,rfl⟩|⟨y,u,rfl,rfl⟩
   ·rw[afV]at h;exact Gf x t j u _ _ _ _ h
   ·rw[afW]at h;exact wpAny_eqBool_str h
 «strs» := fun k x t v h=>by
  rcases cJ h with⟨i,u,rfl,e⟩|⟨y,u,rfl,e⟩
  ·exact nomatch e
  ·injection e with e1 _
   subst e1
   cases v<;>rfl
theorem Mf(prog:qJ)(w:World)(i:Int)(t:Tok):(bA prog w).is (.inl i) (.int i t)=true:=SY i t
theorem Mg(prog:qJ)(w:World)(x:qN)(t:Tok):(bA prog w).is (.inr x) (.str x t)=true:=S0 x t
inductive V where
 | non|bl (b:Bool)|int (i:Int)|str (x:qN)|Q5 (b:Array UInt8)|flt (b:UInt64)|ref (a:Qo)|ty (n:String)
 deriving DecidableEq
def RelV:V->Value->Prop
 | .non,u=>u=Yn
 | .bl b,u=>u=yc b
 | .int i,u=>∃ t,u=Yt i t
 | .str x,u=>∃ t,u=yj x t
 | .Q5 b,u=>∃ t,u=GX b t
 | .flt b,u=>∃ t,u=xH b t
 | .ref a,u=>u=Yi a
 | .ty n,u=>u=yA n
abbrev Vals:List V->List Value->Prop:=qH RelV
theorem Vals.length{xs:List V}(r:Vals xs us):xs.length=us.length:=Paired.length r
theorem Vals.get:∀ {xs:List V} {us:List Value} {i:Nat} {x:V},Vals xs us->xs[i]?=some x->∃ u,us[i]?=some u/\RelV x u
 | _,_,_,_,.nil,e=>by simp at e
 | _,_,0,_,.cons r _,e=>by simp at e;subst e;exact⟨_,rfl,r⟩
 | _,_,i+1,x,.cons _ t,e=>by
  obtain⟨u,h1,h2⟩:=Vals.get (i:=i) (x:=x) t (by simpa using e)
  exact⟨u,by simpa using h1,h2⟩
theorem Vals.set{x:V}(r:RelV x u):∀ {xs:List V} {us:List Value} (i:Nat),Vals xs us->Vals (xs.set i x) (us.set i u)
 | _,_,_,.nil=>.nil
 | _,_,0,.cons _ t=>.cons r t
 | _,_,i+1,.cons q t=>.cons q (Vals.set r i t)
theorem Vals.append:∀ {xs ys:List V} {us ws:List Value},Vals xs us->Vals ys ws->Vals (xs++ys) (us++ws)
 | _,_,_,_,.nil,s=>s
 | _,_,_,_,.cons r t,s=>.cons r (Vals.append t s)
theorem Vals.take:∀ {xs:List V} {us:List Value} (n:Nat),Vals xs us->Vals (xs.take n) (us.take n)
 | _,_,0,_=>.nil
 | _,_,_+1,.nil=>.nil
 | _,_,n+1,.cons r t=>.cons r (Vals.take n t)
theorem Vals.drop:∀ {xs:List V} {us:List Value} (n:Nat),Vals xs us->Vals (xs.drop n) (us.drop n)
 | _,_,0,r=>r
 | _,_,_+1,.nil=>.nil
 | _,_,n+1,.cons _ t=>Vals.drop n t
def pW:Option V->Option Value->Prop
 | some v,some u=>RelV v u
 | none,none=>True
 | _,_=>False
def KV:List (κ×V)->List (κ×Value)->Prop:=qH fun(p:κ×V) (q:κ×Value)=>p.1=q.1/\RelV p.2 q.2
def kV:Key->V
 | .inl i=>.int i
 | .inr x=>.str x
inductive HO where
  | lst (xs:List V)
  | tup (xs:List V)
  | dK (kvs:List #[303])|dT (kvs:List #[84])
  | set (S:Int->Bool) (n:Nat)
  | ins (C dx:Qo) (fs:List (qN×V))
  | own (x:Qo)
  | xd (fs:List (qN×V))
  | met (f x:Qo)
  | rng (lo hi:Int)
  | se (o:Obj) (u:HO)
  | tbl (ps:Array Value)
  | ext (φ:Heap->Prop)
abbrev Hp:=Qo->Option HO
def upd(H:Hp)(a:Qo)(o:HO):Hp:=fun b=>if b=a then some o else H b
theorem ae{H:Hp}{o:HO}:upd H a o a=some o:=by unfold upd;rw[if_pos rfl]
theorem ag{H:Hp}{o:HO}(h:b≠a):upd H a o b=H b:=by unfold upd;rw[if_neg h]
theorem Sd{H:Hp}{o u:HO}:upd (upd H a o) a u=upd H a u:=by
 funext b;unfold upd;split<;>rfl
theorem aG{H:Hp}{o u:HO}(h:H a=some o)(h':H b=some u)(d:o≠u):a≠b:=by
 intro e;subst e;rw[h]at h';exact d (Option.some.inj h')
theorem ao{H:Hp}{o:HO}(h:H a=some o)(h':H b=none):a≠b:=by
 intro e;subst e;rw[h]at h';cases h'
section
variable(P:qJ)(w:World)
def bF(H:Hp)(h:Heap)(a:Qo):HO->Prop
 | .lst xs=>xs.length<=sizeLine/\∃ (aX:List Value) (n:Nat),Vals xs aX/\h.get? a=some { cls:=.type "list",data:=.seq aX.toArray n }
 | .tup xs=>xs.length<=sizeLine/\∃ aX:List Value,Vals xs aX/\qD h a aX.toArray
 | .dK kvs=>kvs.length<=sizeLine/\(a==WK)=false/\∃ vs,KV kvs vs/\h.DictOf (bA P w) a vs
 | .dT kvs=>kvs.length<=sizeLine/\(a==WK)=false/\∃ xs:List #[71],
   qH (fun(p:List Key×V) (q:List Key×Qo×Value)=>p.1=q.1/\H q.2.1=some #[209]/\RelV p.2 q.2.2) kvs xs /\
   ∃ o es ep,h.get? a=some o/\o.ExactDict/\o.data=.dict es ep/\es.toList=xs.map (entryOfKey (WL (bA P w)))/\(xs.map (·.1)).Nodup
 | .set S n=>h.SetOf (qv P w) a S n
 | .ins C dx fs=>H dx=some (.own a)/\fs.length<=1000/\dx≠a/\h.get? a=some (yG C dx) /\
   ∃ mA,h.Ns1 dx mA/\(∀ f,pW (fs.lookup f) (mA f))/\Xq mA (fs.map (·.1))
 | .own _=>∃ o,h.get? a=some o
 | .xd fs=>∃ mA,h.Ns1 a mA/\∀ f,pW (fs.lookup f) (mA f)
 | .rng lo hi=>∃ t u v,h.get? a=some { cls:=.type "range",data:=.fields #[.int lo t,.int hi u,.int 1 v] }
 | .se o u=>h.get? a=some o/\bF H h a u
 | .tbl ps=>h.get? a=some { cls:=.none,data:=.fields ps }
 | .met f x=>h.get? a=some (XF #[94] #[180])
 | .ext φ=>φ h/\(∃ o,h.get? a=some o)/\∀ h1 h2:Heap,φ h1->(∀ o,h1.get? a=some o->h2.get? a=some o)->φ h2
def lM(H:Hp)(h:Heap):Prop := ∀ a o,H a=some o->bF P w H h a o
end
section
variable{H H':Hp}{o:HO}
theorem bF.lt(x:bF P w H h a o):a<h.objs.size:=by
 cases o with
 | lst xs=>obtain⟨_,_,_,_,e⟩:=x;exact jL e
 | tup xs=>obtain⟨_,_,_,p⟩:=x;exact p.lt
 | dK kvs=>obtain⟨_,_,_,_,o,_,_,e,_⟩:=x;exact jL e
 | dT kvs=>obtain⟨_,_,_,_,o,_,_,e,_⟩:=x;exact jL e
 | set S n=>obtain⟨o,_,_,_,e,_⟩:=x;exact jL e
 | ins C dx fs=>obtain⟨_,_,_,e,_⟩:=x;exact jL e
 | own y=>obtain⟨_,e⟩:=x;exact jL e
 | xd fs=>obtain⟨_,⟨_,_,_,e,_⟩,_⟩:=x;exact jL e
 | rng lo hi=>obtain⟨_,_,_,e⟩:=x;exact jL e
 | se ob u=>obtain⟨e,_⟩:=x;exact jL e
 | tbl ps=>exact jL (show h.get? a=some _ from x)
 | met f y=>exact jL (show h.get? a=some _ from x)
 | ext φ=>obtain⟨_,⟨_,e⟩,_⟩:=x;exact jL e
theorem Paired.Mc{β:Type}{F G:α->β->Prop}:∀ {l₁:List α} {l₂:List β},qH F l₁ l₂->(∀ a b,F a b->G a b)->qH G l₁ l₂
 | _,_,.nil,_=>.nil
 | _,_,.cons r t,f=>.cons (f _ _ r) (Paired.Mc t f)
theorem bF.BQ(x:bF P w H h a o)(k:∀ b u,(b=a\/H b=some (.own a))->h.get? b=some u->h'.get? b=some u)(ho:∀ b,H b=some (.own a)->H' b=some (.own a))(ht:∀ b xs,H b=some #[36]->H' b=some #[36]):bF P w H' h' a o:=by
 induction o with
 | lst xs=>obtain⟨z,aX,n,r,e⟩:=x;exact⟨z,aX,n,r,k _ _ #[95] e⟩
 | tup xs=>obtain⟨z,aX,r,ob,e,c⟩:=x;exact⟨z,aX,r,ob,k _ _ #[95] e,c⟩
 | dK kvs=>obtain⟨z,y,vs,r,ob,es,ep,e,c⟩:=x;exact⟨z,y,vs,r,ob,es,ep,k _ _ #[95] e,c⟩
 | dT kvs =>
  obtain⟨z,y,xs,r,ob,es,ep,e,c,c1,c2,c3⟩:=x
  exact⟨z,y,xs,Paired.Mc r fun p q z=>⟨z.1,ht _ _ z.2.1,z.2.2⟩,ob,es,ep,k _ _ #[95] e,c,c1,c2,c3⟩
 | set S n=>obtain⟨ob,es,ep,t,e,c⟩:=x;exact⟨ob,es,ep,t,k _ _ #[95] e,c⟩
 | ins C dx fs =>
  obtain⟨d,z,ne,e,mA,⟨od,es,ep,e2,c⟩,r,r1⟩:=x
  exact⟨ho _ d,z,ne,k _ _ #[95] e,mA,⟨od,es,ep,k _ _ (.inr d) e2,c⟩,r,r1⟩
 | own y=>obtain⟨ob,e⟩:=x;exact⟨ob,k _ _ #[95] e⟩
 | xd fs=>obtain⟨mA,⟨od,es,ep,e,c⟩,r⟩:=x;exact⟨mA,⟨od,es,ep,k _ _ #[95] e,c⟩,r⟩
 | rng lo hi=>obtain⟨t,u,v,e⟩:=x;exact⟨t,u,v,k _ _ #[95] e⟩
 | se ob u ih=>obtain⟨e,q⟩:=x;exact⟨k _ _ #[95] e,ih q⟩
 | tbl ps =>
  have e:h.get? a=some { cls:=.none,data:=.fields ps }:=x
  show h'.get? a=some { cls:=.none,data:=.fields ps }
  exact k a _ #[95] e
 | met f y =>
  have e:h.get? a=some (XF #[94] (.ref y)):=x
  show h'.get? a=some (XF #[94] (.ref y))
  exact k a _ #[95] e
 | ext φ=>obtain⟨p,⟨o,e⟩,st⟩:=x;exact⟨st _ _ p fun o q=>k _ _ #[95] q,⟨o,k _ _ #[95] e⟩,st⟩
theorem lM.lt(x:lM P w H h)(e:H a=some o):a<h.objs.size:=(x a o e).lt
theorem lM.fresh(x:lM P w H h)(e:h.objs.size<=a):H a=none:=by
 cases q:H a with
 | none=>rfl
 | some u=>exact absurd (jh (x.lt q) e) (JX _)
theorem lM.kept(x:lM P w H h)(k:∀ b u,h.get? b=some u->h'.get? b=some u):lM P w H h' := fun a o e =>
 (x a o e).BQ (fun b u _ q=>k b u q) (fun _ q=>q) fun _ _ q=>q
theorem lM.laid(x:lM P w H h)(k:∀ b u,h.get? b=some u->h'.get? b=some u)(hp:h.objs.size<=a)(new:bF P w (upd H a o) h' a o):lM P w (upd H a o) h' := fun b u e=>by
 have hn:=x.fresh hp
 by_cases hb:b=a
 ·subst hb;rw[ae]at e;cases e;exact new
 ·rw[ag hb]at e
  exact(x b u e).BQ (fun c v _ q=>k c v q) (fun c q=>by rw[ag (ao q hn)];exact q) fun c xs q=>by rw[ag (ao q hn)];exact q
end
def Rd(H:Hp)(a:Qo)(u:HO):Prop:=H a=some u\/∃ o,H a=some (.se o u)
theorem Rd.ok{H:Hp}{u:HO}(r:Rd H a u)(x:lM P w H h):bF P w H h a u:=by
 rcases r with r|⟨o,r⟩
 ·exact x a u r
 ·obtain⟨_,q⟩:=x a _ r
  exact q
def Mut:Option HO->Prop
 | some (.lst _)=>True
 | some (.dK _)=>True
 | some (.dT _)=>True
 | some (.set _ _)=>True
 | some (.ins _ _ _)=>True
 | some (.ext _)=>True
 | _=>False
section
variable{H:Hp}{x e:Qo}{o':HO}
theorem lM.write(ok:lM P w H h)(mu:Mut (H x))(he:e=x\/H e=some (.own x))(k:∀ b u,b≠e->h.get? b=some u->h'.get? b=some u)(heo:∃ u,h'.get? e=some u)(new:bF P w (upd H x o') h' x o'):lM P w (upd H x o') h' := fun b u q=>by
 have ajh:∀ c y,H c=some (.own y)->c≠x:=fun c y r z=>by subst z;rw[r]at mu;exact mu
 have ant:∀ c xs,H c=some #[36]->c≠x:=fun c xs r z=>by subst z;rw[r]at mu;exact mu
 by_cases hb:b=x
 ·subst hb;rw[ae]at q;cases q;exact new
 ·rw[ag hb]at q
  by_cases hbe:b=e
  ·have q':H b=some (.own x):=by
    rcases he with z|z
    ·exact absurd (hbe.trans z) hb
    ·rw[hbe];exact z
   rw[q]at q';cases q'
   obtain⟨v,hv⟩:=heo
   exact⟨v,by rw[hbe];exact hv⟩
  ·refine(ok b u q).BQ (fun c v hc r=>k c v ?_ r) (fun c r=>by rw[ag (ajh c b r)];exact r) fun c xs r=>by rw[ag (ant c xs r)];exact r
   rcases hc with rfl|hc
   ·exact hbe
   ·rintro rfl
    rcases he with z|z
    ·exact ajh c b hc z
    ·rw[hc]at z;cases z;exact hb rfl
end
structure Un(fs ex:List Qo)(H H':Hp)(h h':Heap):Prop where
 keep:∀ b o,h.get? b=some o->H b=none->b∉fs->b∉ex->h'.get? b=some o
 slot:∀ b o,h.get? b=some o->H b=none->b∈fs->b∉ex->∃ sl,h'.get? b=some { o with slots:=sl }
 free:∀ b o,h.get? b=some o->H b=none->b∉ex->H' b=none
 there:∀ b o,h.get? b=some o->b∉ex->∃ o',h'.get? b=some o'
 tups:∀ b xs,H b=some #[36]->H' b=some #[36]
 frzs:∀ b o u,H b=some (.se o u)->H' b=some (.se o u)
 tbls:∀ b ps,H b=some (.tbl ps)->∃ more,H' b=some (.tbl (ps++more))
section
variable{fs ex:List Qo}{H H1:Hp}{h1:Heap}{x e:Qo}{o:HO}
theorem Un.any(u:Un fs ex H H1 h h1)(q:h.get? b=some ob)(n:H b=none)(hx:b∉ex):∃ sl,h1.get? b=some { ob with slots:=sl }:=by
 by_cases hb:b∈fs
 ·exact u.slot b ob q n hb hx
 ·exact⟨ob.slots,u.keep b ob q n hb hx⟩
theorem Un.kept(k:∀ b u,h.get? b=some u->h'.get? b=some u):Un fs ex H H h h' :=
 ⟨fun b ob q _ _ _=>k b ob q,fun b ob q _ _ _=>⟨ob.slots,k b ob q⟩,fun _ _ _ n _=>n,fun b ob q _=>⟨ob,k b ob q⟩,fun _ _ q=>q,fun _ _ _ q=>q,fun _ ps q=>⟨#[],by rw[q];simp⟩⟩
theorem Un.refl:Un fs ex H H h h:=Un.kept fun _ _ q=>q
theorem Un.laid(k:∀ b u,h.get? b=some u->h'.get? b=some u)(hp:h.objs.size<=a)(hn:H a=none):Un fs ex H (upd H a o) h h' where
 keep:=fun b u q _ _ _=>k b u q
 slot:=fun b u q _ _ _=>⟨u.slots,k b u q⟩
 free:=fun b u q n _=>by rw[ag (jQ (jh (jL q) hp))];exact n
 there:=fun b u q _=>⟨u,k b u q⟩
 tups:=fun b xs q=>by rw[ag (ao q hn)];exact q
 frzs:=fun b u xs q=>by rw[ag (ao q hn)];exact q
 tbls:=fun b ps q=>⟨#[],by rw[ag (ao q hn),q];simp⟩
theorem Un.write(mu:Mut (H x))(he:e=x\/H e=some (.own x))(k:∀ b u,b≠e->h.get? b=some u->h'.get? b=some u)(heo:∃ u,h'.get? e=some u):Un fs ex H (upd H x o) h h' := by
 have hx:∀ b,H b=none->b≠x:=fun b n z=>by subst z;rw[n]at mu;exact mu
 have hb:∀ b,H b=none->b≠e:=fun b n z=>by
  subst z
  rcases he with r|r
  ·exact hx b n r
  ·rw[n]at r;cases r
 have hm:∀ b u,H b=some u->¬ Mut (some u)->b≠x:=fun b u q nm z=>by subst z;rw[q]at mu;exact nm mu
 refine⟨fun b u q n _ _=>k b u (hb b n) q,fun b u q n _ _=>⟨u.slots,k b u (hb b n) q⟩,fun b u q n _=>by rw[ag (hx b n)];exact n,fun b u q _=>?_,
  fun b xs q=>by rw[ag (hm b _ q fun z=>z)];exact q,fun b u xs q=>by rw[ag (hm b _ q fun z=>z)];exact q,fun b ps q=>⟨#[],by rw[ag (hm b _ q fun z=>z),q];simp⟩⟩
 by_cases hbe:b=e
 ·subst hbe;exact heo
 ·exact⟨u,k b u hbe q⟩
end
def trk(h:Heap)(H:Hp):List Qo:=(jZ h.objs.size).filter fun a=>(H a).isSome
def Ia(h:Heap)(H:Hp):Heap:=xN h (trk h H)
theorem SW(h:Heap)(H:Hp):(Ia h H).objs.size=h.objs.size:=PySem.W.hideAll_size _ _
theorem Y8{H:Hp}{o:Obj}(e:h.get? b=some o)(n:H b=none):(Ia h H).get? b=some o:=
 yZ _ e fun hm=>by
  have q:(H b).isSome=true:=(ju.mp hm).2
  rw[n]at q;simp at q
theorem ac4{H:Hp}{o:Obj}(e:(Ia h H).get? b=some o):h.get? b=some o/\H b=none:=by
 have e':h.get? b=some o:=Xr (trk h H) e
 exists e'
 cases q:H b with
 | none=>rfl
 | some x =>
  have hm:b∈trk h H:=ju.mpr ⟨je.mpr (jL e'),by simp[q]⟩
  have z:(Ia h H).get? b=none:=yn (trk h H) hm
  rw[z]at e;cases e
def ab7(g h:Heap)(L:Qo):List #[68]:=(jZ h.objs.size).filterMap fun a=>if a=L\/(g.get? a).isSome=true then none else(h.get? a).map fun o=>(a,o)
def rest(g h:Heap)(L d:Qo):List #[68]:=(ab7 g h L).filter fun p=>decide (p.1≠d)
variable{xs vs iJ:List V}{H H':Hp}{o o':HO}{v y:V}
structure Mod(K:Yh)(mg:qN->Option Value)(base:Heap):Prop where
 kin:K.In base
 glob:base.Ns WA mg
 blt:∃ mb,base.Ns builtinsNs mb/\∀ x:qN,x ≠ "__name__" -> mb x=qS x
 nolimit:base.NoLimit
structure Cx where
 prog:qJ
 w:World
 K:Yh
 mg:qN->Option Value
 base:Heap
 A:Around
 N:List qN
 s₀:qM
 H₀:Hp
 env:Qx
 outer:List Qx
 stack:List Qx
 ex:List Qo
 fn:qN->Bool
 calm:Bool
 pn:List #[68]
 xe:Value->qM->Prop
def C6(l:List Qx):List Qo:=l.filterMap (·.frame)
abbrev Cx.fs(X:Cx):List Qo:=C6 X.outer
def Vis(sc:Scope)(x:qN):Prop:=sc.names.lookup x=some .local\/sc.names.lookup x=some .cell\/sc.names.lookup x=some .free
def Loc(sc:Scope)(x:qN):Prop:=sc.names.lookup x=some .local\/sc.names.lookup x=some .cell
def Look(env:Qx)(h:Heap)(m:qN->Option Value)(x:qN)(u:Value):Prop:=
 (env.kindOf x=some .local/\m x=some u)\/((env.kindOf x=some .cell\/env.kindOf x=some .free)/\∃ c,env.cells.lookup x=some c/\h.IsCell c (some u))
structure Cx.Ok(X:Cx):Prop where
 mod:Mod X.K X.mg X.base
 kind:X.env.scope.kind=.function
 glob:X.env.globals=WA
 blt:X.env.builtins=builtinsNs
 above:X.s₀.heap.objs.size<=X.env.locals
 inj:∀ x y c,X.env.cells.lookup x=some c->X.env.cells.lookup y=some c->x=y
 has:∀ x,(X.env.kindOf x=some .cell\/X.env.kindOf x=some .free)->∃ c,X.env.cells.lookup x=some c
 cab:∀ x c,X.fn x=true->X.env.cells.lookup x=some c->X.s₀.heap.objs.size<=c
 hd:X.calm=true->X.A.handled=none
 frames:X.A.frames=some X.stack
 stk:X.stack=X.outer\/(X.stack=X.env :: X.outer/\X.env.frame=some X.env.locals)
 exf:∀ b∈X.ex,b≠X.env.locals/\∀ x c,X.env.cells.lookup x=some c->c≠b
 bs:∀ b o,X.base.get? b=some o->X.s₀.heap.get? b=some o/\X.H₀ b=none
 bsz:X.base.objs.size<=X.s₀.heap.objs.size
 noex:∀ b o,X.base.get? b=some o->b∉X.ex
 exfs:∀ b∈X.ex,b∉X.fs
 AH:X.s₀.heap.FunFrames X.base X.outer
 frf:∀ b∈X.fs,X.H₀ b=none
structure Inv(X:Cx)(pins:List (Qo×Obj))(σ:List (Option V))(H:Hp)(s:qM):Prop where
 ok:X.Ok
 os:s.os=X.s₀.os
 bare:Qp s.gens
 base:Un X.fs X.ex X.H₀ H X.s₀.heap s.heap
 loc:∃ m,s.heap.Ns X.env.locals m/\∀ (i:Nat) (x:qN) (v:V),X.N[i]?=some x->σ[i]?=some (some v)->Vis X.env.scope x->∃ u,RelV v u/\Look X.env s.heap m x u
 cell:∀ x c,X.env.cells.lookup x=some c->∃ v,s.heap.IsCell c v
 free:H X.env.locals=none
 freeC:∀ x c,X.env.cells.lookup x=some c->H c=none
 pin:∀ p∈X.pn++pins,s.heap.get? p.1=some p.2/\H p.1=none/\p.1≠X.env.locals/\p.1∉X.fs/\∀ v,p.2.data≠.cell v
 hok:lM X.prog X.w H s.heap
 len:σ.length=X.N.length
section
variable{X:Cx}{σ:List (Option V)}
theorem Cx.Ok.anr(ok:X.Ok){o:Obj}(e:X.base.get? b=some o):b∉X.fs:=fun hb=>by
 have:=(ok.AH.mem hb).1
 rw[e]at this;cases this
theorem Inv.bs(I:Inv X pins σ H s):∀ b o,X.base.get? b=some o->s.heap.get? b=some o/\H b=none:=fun b o e =>
 ⟨I.base.keep b o (I.ok.bs b o e).1 (I.ok.bs b o e).2 (I.ok.anr e) (I.ok.noex b o e),I.base.free b o (I.ok.bs b o e).1 (I.ok.bs b o e).2 (I.ok.noex b o e)⟩
theorem Inv.bk(I:Inv X pins σ H s):∀ b o,X.base.get? b=some o->s.heap.get? b=some o:=fun b o e=>(I.bs b o e).1
theorem Inv.mod(I:Inv X pins σ H s):Mod X.K X.mg X.base:=I.ok.mod
theorem Inv.sJ(I:Inv X pins σ H s):X.K.In s.heap:=I.ok.mod.kin.keeps I.bk
theorem Inv.lt(I:Inv X pins σ H s):X.env.locals<s.heap.objs.size:=let ⟨_,hn,_⟩:=I.loc;hn.lt
theorem Inv.sz(I:Inv X pins σ H s):X.s₀.heap.objs.size<=s.heap.objs.size:=jk I.ok.above (Jl I.lt)
theorem Inv.ans(I:Inv X pins σ H s)(h:s.heap.objs.size<=a):a∉X.fs:=fun hb=>by
 obtain⟨_,o,ho,_⟩:=I.ok.AH.mem hb
 exact absurd (jh (jL ho) (jk I.sz h)) (JX _)
theorem Inv.V8(I:Inv X pins σ H s):∀ x c,X.env.cells.lookup x=some c->c≠X.env.locals:=fun x c e z=>by
 obtain⟨v,o,ho,hd⟩:=I.cell x c e
 obtain⟨m,⟨o',es,ep,U0,hd',_⟩,_⟩:=I.loc
 rw[z,U0]at ho;cases ho;rw[hd']at hd;cases hd
theorem Inv.AH(I:Inv X pins σ H s):s.heap.FunFrames X.base X.outer:=by
 have all:∀ (l:List Qx),(∀ b∈C6 l,b∈X.fs)->X.s₀.heap.FunFrames X.base l->s.heap.FunFrames X.base l:=by
  intro l
  induction l with
  | nil=>intro _ _;trivial
  | cons env r ih =>
   intro hs hl
   obtain⟨hk,⟨L,o,hf,hn,ho,hd⟩,hr⟩:=hl
   have hL:L∈X.fs:=hs L (by unfold C6;rw[zb,hf];exact jE)
   obtain⟨sl,e⟩:=I.base.slot L o ho (I.ok.frf L hL) hL fun z=>I.ok.exfs L z hL
   exact⟨hk,⟨L,_,hf,hn,e,hd⟩,ih (fun b hb=>hs b (by unfold C6;rw[zb,hf];exact jJ _ hb)) hr⟩
 exact all X.outer (fun _ hb=>hb) I.ok.AH
theorem Inv.stack(I:Inv X pins σ H s):s.heap.FunFrames X.base X.stack:=by
 rcases I.ok.stk with e|⟨e,hf⟩
 ·rw[e];exact I.AH
 ·rw[e]
  obtain⟨m,hn,_⟩:=I.loc
  refine .cons (by rw[I.ok.kind];decide) hf hn ?_ I.AH
  exact ZA (jk I.ok.bsz I.ok.above)
theorem Inv.II(I:Inv X pins σ H s):∀ b∈C6 X.stack,b∈X.env.locals :: X.fs:=fun b hb=>by
 rcases I.ok.stk with e|⟨e,hf⟩
 ·rw[e]at hb;exact jJ _ hb
 ·rw[e]at hb
  unfold C6 at hb
  rw[zb,hf]at hb
  exact hb
theorem Inv.IH(I:Inv X pins σ H s):∀ b∈C6 X.stack,H b=none:=fun b hb=>by
 rcases jU.mp (I.II b hb)with e|hb
 ·rw[e];exact I.free
 ·obtain⟨_,o,ho,_⟩:=I.ok.AH.mem hb
  exact I.base.free b o ho (I.ok.frf b hb) fun z=>I.ok.exfs b z hb
theorem Inv.step{g':Array qA}{t':Nat}{d':Qv}{ch:List Qo}(I:Inv X pins σ H s)(hch:∀ b∈ch,#[143]/\b≠X.env.locals/\#[111]/\∀ p∈X.pn++pins,p.1≠b)(keep:∀ b o,b≠X.env.locals->b∉X.fs->b∉ch->s.heap.get? b=some o->H b=none->h'.get? b=some o)(slot:∀ b o,b≠X.env.locals->b∈X.fs->b∉ch->s.heap.get? b=some o->H b=none->∃ sl,h'.get? b=some { o with slots:=sl })(free:∀ b o,b∉ch->s.heap.get? b=some o->H b=none->H' b=none)(there:∀ b o,b∉ch->s.heap.get? b=some o->∃ o',h'.get? b=some o')(tups:∀ b xs,H b=some #[36]->H' b=some #[36])(frzs:∀ b o u,H b=some (.se o u)->H' b=some (.se o u))(tbls:∀ b ps,H b=some (.tbl ps)->∃ more,H' b=some (.tbl (ps++more)))(ns:∀ m,s.heap.Ns X.env.locals m->h'.Ns X.env.locals m)(hok:lM X.prog X.w H' h')(hg:Qp g'):
  Inv X pins σ H' { s with heap:=h',gens:=g',drawn:=d',toks:=t' }:=by
 have neL:∀ b o,X.s₀.heap.get? b=some o->b≠X.env.locals:=fun b o e=>jQ (jh (jL e) I.ok.above)
 have neC:∀ b o,X.s₀.heap.get? b=some o->b∉X.ex->b∉ch:=fun b o e hx hb=>by
  rcases(hch b hb).1 with z|z
  ·exact hx z
  ·exact absurd (jh (jL e) z) (JX _)
 have cellK:∀ x c,X.env.cells.lookup x=some c->∀ v,s.heap.IsCell c v->h'.IsCell c v:=fun x c e v ⟨o,ho,hd⟩=>by
  have nch:c∉ch:=fun z=>(hch c z).2.2.1 x c e rfl
  by_cases hc:c∈X.fs
  ·obtain⟨sl,q⟩:=slot c o (I.V8 x c e) hc nch ho (I.freeC x c e)
   exact⟨_,q,hd⟩
  ·exact⟨o,keep c o (I.V8 x c e) hc nch ho (I.freeC x c e),hd⟩
 refine⟨I.ok,I.os,hg,⟨fun b o e n hb hx=>?_,fun b o e n hb hx=>?_,fun b o e n hx=>?_,fun b o e hx=>?_,fun b xs e=>tups b xs (I.base.tups b xs e),fun b o xs e=>frzs b o xs (I.base.frzs b o xs e),fun b ps e=>?_⟩,?_,fun x c e=>?_,?_,fun x c e=>?_,fun p hp=>?_,hok,I.len⟩
 ·exact keep b o (neL b o e) hb (neC b o e hx) (I.base.keep b o e n hb hx) (I.base.free b o e n hx)
 ·obtain⟨sl,e1⟩:=I.base.slot b o e n hb hx
  obtain⟨sl',e2⟩:=slot b _ (neL b o e) hb (neC b o e hx) e1 (I.base.free b o e n hx)
  exact⟨sl',e2⟩
 ·exists 66
  exact free b o' (neC b o e hx) e1 (I.base.free b o e n hx)
 ·exists 66
  exact there b o' (neC b o e hx) e1
 ·obtain⟨m1,e1⟩:=I.base.tbls b ps e
  obtain⟨m2,e2⟩:=tbls b _ e1
  exact⟨m1++m2,by rw[e2,Array.append_assoc]⟩
 ·obtain⟨m,hn,hl⟩:=I.loc
  refine⟨m,ns m hn,fun i x v e1 e2 e3=>?_⟩
  obtain⟨u,r,l⟩:=hl i x v e1 e2 e3
  exists u,r
  rcases l with l|⟨k,c,e,z⟩
  ·exact .inl l
  ·exact .inr ⟨k,c,e,cellK x c e _ z⟩
 ·obtain⟨v,z⟩:=I.cell x c e
  exact⟨v,cellK x c e v z⟩
 ·obtain⟨m,⟨o,_,_,ho,_⟩,_⟩:=I.loc
  exact free _ o (fun z=>(hch _ z).2.1 rfl) ho I.free
 ·obtain⟨v,o,ho,hd⟩:=I.cell x c e
  exact free c o (fun z=>(hch c z).2.2.1 x c e rfl) ho (I.freeC x c e)
 ·exists 79
  have nch:p.1∉ch:=fun z=>(hch p.1 z).2.2.2 p hp rfl
  exact⟨keep p.1 p.2 ne nf nch e n,free p.1 p.2 nch e n,ne,nf,d⟩
theorem Inv.un{t':Nat}(I:Inv X pins σ H s)(u:Un X.fs [] H H' s.heap h')(hok:lM X.prog X.w H' h'):Inv X pins σ H' { s with heap:=h',toks:=t' }:=by
 obtain⟨m,⟨o,es,ep,ho,r⟩,_⟩:=id I.loc
 obtain⟨sl,hL⟩:=u.any ho I.free #[10]
 exact I.step (g' := s.gens) (d' := s.drawn) (ch:=[]) (fun _ z=>nomatch z) (fun b o _ hb _ e n=>u.keep b o e n hb #[10]) (fun b o _ hb _ e n=>u.slot b o e n hb #[10]) (fun b o _ e n=>u.free b o e n #[10]) (fun b o _ e=>u.there b o e #[10]) u.tups u.frzs u.tbls (fun m' hm=>by
  obtain⟨o',AE,ep',U0,r'⟩:=hm
  rw[ho]at U0;cases U0
  exact⟨_,AE,ep',hL,r'⟩) hok I.bare
theorem Inv.call{g':Array qA}{t':Nat}{d':Qv}(I:Inv X pins σ H s)(u:Un (C6 X.stack) ch H H' s.heap h')(hok:lM X.prog X.w H' h')(hg:Qp g')(hch:∀ b∈ch,#[143]/\b≠X.env.locals/\#[111]/\∀ p∈X.pn++pins,p.1≠b):
  Inv X pins σ H' { s with heap:=h',gens:=g',drawn:=d',toks:=t' }:=by
 obtain⟨m,⟨o,es,ep,ho,r⟩,_⟩:=id I.loc
 obtain⟨sl,hL⟩:=u.any ho I.free fun z=>(hch _ z).2.1 rfl
 exact I.step (ch:=ch) hch (fun b o hL hb hc e n=>u.keep b o e n (fun z=>(jU.mp (I.II b z)).elim hL hb) hc) (fun b o _ _ hc e n=>u.any e n hc) (fun b o hc e n=>u.free b o e n hc) (fun b o hc e=>u.there b o e hc) u.tups u.frzs u.tbls (fun m' hm=>by
  obtain⟨o',AE,ep',U0,r'⟩:=hm
  rw[ho]at U0;cases U0
  exact⟨_,AE,ep',hL,r'⟩) hok hg
theorem Inv.turned{t':Nat}(I:Inv X pins σ H s)(k:∀ b o,b≠it->s.heap.get? b=some o->h'.get? b=some o)(hn:H it=none)(hL:it≠X.env.locals)(h1:it∈X.ex\/X.s₀.heap.objs.size<=it)(h2:∀ x c,X.env.cells.lookup x=some c->c≠it)(h3:∀ p∈X.pn++pins,p.1≠it):Inv X pins σ H { s with heap:=h',toks:=t' }:=by
 have nit:∀ b u,H b=some u->b≠it:=fun b u e z=>by rw[z,hn]at e;cases e
 refine I.step (g' := s.gens) (d' := s.drawn) (ch:=[it]) (fun b hb=>?_) (fun b o _ _ hc e _=>k b o #[183] e) (fun b o _ _ hc e _=>⟨o.slots,k b o #[183] e⟩) (fun _ _ _ _ n=>n)
  (fun b o hc e=>⟨o,k b o #[183] e⟩) (fun _ _ e=>e) (fun _ _ _ e=>e) (fun b ps e=>⟨#[],by rw[e];simp⟩) (fun m hm=>?_) (fun b u e=>?_) I.bare
 ·exists 31
  subst e
  exact⟨h1,hL,h2,h3⟩
 ·obtain⟨o,es,ep,ho,r⟩:=hm
  exact⟨o,es,ep,k _ o (Ne.symm hL) ho,r⟩
 ·refine(I.hok b u e).BQ (fun c v hc q=>k c v ?_ q) (fun _ q=>q) fun _ _ q=>q
  rcases hc with z|z
  ·rw[z];exact nit b u e
  ·exact nit c _ z
theorem Inv.tok(I:Inv X pins σ H s)(t:Nat):Inv X pins σ H { s with toks:=t }:=I.un (h' := s.heap) (t' := t) Un.refl I.hok
theorem Inv.kept{t':Nat}(I:Inv X pins σ H s)(k:∀ b u,s.heap.get? b=some u->h'.get? b=some u):Inv X pins σ H { s with heap:=h',toks:=t' }:=I.un (Un.kept k) (I.hok.kept k)
theorem Inv.laid{t':Nat}(I:Inv X pins σ H s)(k:∀ b u,s.heap.get? b=some u->h'.get? b=some u)(hp:s.heap.objs.size<=a)(new:bF X.prog X.w (upd H a o) h' a o):
  Inv X pins σ (upd H a o) { s with heap:=h',toks:=t' }:=I.un (Un.laid k hp (I.hok.fresh hp)) (I.hok.laid k hp new)
theorem Inv.write{x e:Qo}{t':Nat}(I:Inv X pins σ H s)(mu:Mut (H x))(he:e=x\/H e=some (.own x))(k:∀ b u,b≠e->s.heap.get? b=some u->h'.get? b=some u)(heo:∃ u,h'.get? e=some u)(new:bF X.prog X.w (upd H x o) h' x o):Inv X pins σ (upd H x o) { s with heap:=h',toks:=t' }:=I.un (Un.write mu he k heo) (I.hok.write mu he k heo new)
theorem Inv.RD(I:Inv X pins σ H s)(h:∀ p∈aet,s.heap.get? p.1=some p.2/\H p.1=none/\p.1≠X.env.locals/\p.1∉X.fs/\∀ v,p.2.data≠.cell v):Inv X aet σ H s:=
 ⟨I.ok,I.os,I.bare,I.base,I.loc,I.cell,I.free,I.freeC,fun p hp=>(Jm.mp hp).elim (fun z=>I.pin p (jb _ z)) (h p),I.hok,I.len⟩
theorem Eo(hN:N.Nodup)(a:N[i]?=some x)(b:N[j]?=some x):i=j:=by
 obtain⟨h1,e1⟩:=js.mp a
 obtain⟨h2,e2⟩:=js.mp b
 exact(JT hN).mp (e1.trans e2.symm)
theorem Hu{M:Model}{Q:Unit->qM->Prop}(I:Inv X pins σ H s)(hN:X.N.Nodup)(hi:X.N[i]?=some x)(hx:Loc X.env.scope x)(r:RelV v u)(h:∀ s',Inv X pins #[251] H s'->(∃ a,Yv a s.heap s'.heap/\(a=X.env.locals\/X.env.cells.lookup x=some a))->Q () s')(hf:X.fn x=true\/X.env.scope.names.lookup x=some .local:=by first|exact .inl rfl|exact .inr rfl|assumption):wpAny M A (storeName X.env x u) Q E s:=by
 obtain⟨m,hn,hl⟩:=id I.loc
 have afz:(X.env.scope.kind==.class||(X.env.scope.kind==.module&&X.env.locals != X.env.globals))=false:=by rw[I.ok.kind];rfl
 have Z0:i<σ.length:=by rw[I.len];exact(js.mp hi).1
 have V8:=I.V8
 have tracked:∀ {a:Qo} {h':Heap},(∃ o,s.heap.get? a=some o/\H a=none)->Yv a s.heap h'->lM X.prog X.w H h' := fun {a h'} ha hs b ob e=>by
  obtain⟨_,_,aeg⟩:=ha
  refine(I.hok b ob e).BQ (fun c w' hc q=>(hs.2 c ?_).trans q) (fun _ q=>q) fun _ _ q=>q
  rintro rfl
  rcases hc with rfl|hc
  ·rw[aeg]at e;cases e
  ·rw[aeg]at hc;cases hc
 rcases hx with hk|hk
 ·refine wpAny_storeName_local hk hn (fun h' hn' hs=>?_) afz
  obtain⟨oL,_,_,hoL,_⟩:=id hn
  refine h _ ⟨I.ok,I.os,I.bare,⟨fun b o e n hb hx=>?_,fun b o e n hb hx=>?_,I.base.free,fun b o e hx=>?_,I.base.tups,I.base.frzs,I.base.tbls⟩,⟨_,hn',fun j y v' e1 e2 e3=>?_⟩,fun y c e=>?_,I.free,I.freeC,fun p hp=>?_,tracked ⟨oL,hoL,I.free⟩ hs,by simpa using I.len⟩ ⟨_,hs,.inl rfl⟩
  ·exact#[220].trans (I.base.keep b o e n hb hx)
  ·obtain⟨sl,e1⟩:=I.base.slot b o e n hb hx
   exact⟨sl,#[220].trans e1⟩
  ·exists 66
   exact⟨o',#[220].trans e1⟩
  ·by_cases hj:j=i
   ·subst hj
    rw[hi]at e1;cases e1
    rw[Jq Z0]at e2
    cases e2
    exact⟨u,r,.inl ⟨hk,by simp⟩⟩
   ·rw[zA (Ne.symm hj)]at e2
    obtain⟨u',r',q⟩:=hl j y v' e1 e2 e3
    exists u',r'
    rcases q with⟨k,e⟩|⟨k,c,e,z⟩
    ·refine .inl ⟨k,?_⟩
     have:y≠x:=fun e=>hj (Eo hN e1 (e ▸ hi))
     simp[this,e]
    ·exact .inr ⟨k,c,e,z.sameBut hs (V8 y c e)⟩
  ·obtain⟨w',z⟩:=I.cell y c e
   exact⟨w',z.sameBut hs (V8 y c e)⟩
  ·exists 79
   exact⟨(hs.2 p.1 ne).trans e,n,ne,nf,d⟩
 ·have hfn:X.fn x=true:=by
   rcases hf with z|z
   ·exact z
   ·rw[z]at hk;cases hk
  obtain⟨c,hc⟩:=I.ok.has x (.inl hk)
  obtain⟨w',z⟩:=I.cell x c hc
  refine wpAny_storeName_cell I.ok.kind hk hc z (fun h' Y3 hs=>?_)
  obtain⟨oc,hoc,afE⟩:=id z
  refine h { s with heap:=h' } ⟨I.ok,I.os,I.bare,⟨fun b o e n hb hx=>?_,fun b o e n hb hx=>?_,I.base.free,fun b o e hx=>?_,I.base.tups,I.base.frzs,I.base.tbls⟩,⟨m,hn.sameBut hs (Ne.symm (V8 x c hc)),fun j y v' e1 e2 e3=>?_⟩,fun y c' e=>?_,I.free,I.freeC,fun p hp=>?_,tracked ⟨oc,hoc,I.freeC x c hc⟩ hs,by simpa using I.len⟩ ⟨c,hs,.inr hc⟩
  ·exact#[155].trans (I.base.keep b o e n hb hx)
  ·obtain⟨sl,e1⟩:=I.base.slot b o e n hb hx
   exact⟨sl,#[155].trans e1⟩
  ·exists 66
   exact⟨o',#[155].trans e1⟩
  ·by_cases hj:j=i
   ·subst hj
    rw[hi]at e1;cases e1
    rw[Jq Z0]at e2
    cases e2
    exact⟨u,r,.inr ⟨.inl hk,c,hc,Y3⟩⟩
   ·rw[zA (Ne.symm hj)]at e2
    obtain⟨u',r',q⟩:=hl j y v' e1 e2 e3
    exists u',r'
    rcases q with q|⟨k,c',e,z'⟩
    ·exact .inl q
    ·refine .inr ⟨k,c',e,z'.sameBut hs ?_⟩
     rintro rfl
     exact hj (Eo hN e1 (I.ok.inj _ _ _ e hc ▸ hi))
  ·by_cases hcc:c'=c
   ·subst hcc;exact⟨_,Y3⟩
   ·obtain⟨w2,z2⟩:=I.cell y c' e
    exact⟨w2,z2.sameBut hs hcc⟩
  ·exists 79
   refine⟨(hs.2 p.1 ?_).trans e,n,ne,nf,d⟩
   intro q
   rw[q,hoc]at e
   have q':oc=p.2:=Option.some.inj e
   exact d w' (by rw[<- q'];exact afE)
theorem wI{M:Model}{Q:Unit->qM->Prop}(I:Inv X pins σ H s)(hN:X.N.Nodup)(hi:X.N[i]?=some x)(hx:Loc X.env.scope x)(r:RelV v u)(h:∀ s',Inv X pins #[251] H s'->Q () s')(hf:X.fn x=true\/X.env.scope.names.lookup x=some .local:=by first|exact .inl rfl|exact .inr rfl|assumption):wpAny M A (storeName X.env x u) Q E s:=
 Hu I hN hi hx r (fun s' I' _=>h s' I') hf
theorem Inv.DR(I:Inv X pins σ H s)(ho:s'.os=s.os)(u:Un (C6 X.stack) ch H H' s.heap s'.heap)(hok:lM X.prog X.w H' s'.heap)(hg:Qp s'.gens)(hch:∀ b∈ch,#[143]/\b≠X.env.locals/\#[111]/\∀ p∈X.pn++pins,p.1≠b):Inv X pins σ H' s' := by
 obtain⟨h',g',d',t',o'⟩:=s'
 have e:o'=s.os:=ho
 subst e
 exact I.call (g' := g') (t' := t') (d' := d') u hok hg hch
end
abbrev XK:=Value->Option Qo->Hp->Prop
abbrev St:=List (Option V)
abbrev VK:=V->Hp->Prop
abbrev TE:=St->Hp->VK->Prop
abbrev TT:=St->Hp->(Bool->Hp->Prop)->Prop
abbrev TA:=St->Hp->(List V->Hp->Prop)->Prop
structure Ends where
 nx:St->Hp->Prop
 rt:VK
 bk:St->Hp->Prop:=fun _ _=>False
 ct:St->Hp->Prop:=fun _ _=>False
abbrev TS:=Ends->St->Hp->Prop
def EP(X:Cx)(pins:List #[68])(σ:St)(Q:VK)(u:Value)(s':qM):Prop := ∃ v H',Inv X pins σ H' s'/\RelV v u/\Q v H'
def TP(X:Cx)(pins:List #[68])(σ:St)(Q:Bool->Hp->Prop)(b:Bool)(s':qM):Prop := ∃ H',Inv X pins σ H' s'/\Q b H'
def AP(X:Cx)(pins:List #[68])(σ:St)(Q:List V->Hp->Prop)(us:List Value)(s':qM):Prop := ∃ vs H',Inv X pins σ H' s'/\Vals vs us/\Q vs H'
def SP(X:Cx)(pins:List #[68])(D:Ends)(f:Flow)(s':qM):Prop:=
 match f with
 | .next=>∃ σ' H',Inv X pins σ' H' s'/\D.nx σ' H'
 | .brk=>∃ σ' H',Inv X pins σ' H' s'/\D.bk σ' H'
 | .cont=>∃ σ' H',Inv X pins σ' H' s'/\D.ct σ' H'
 | .ret u=>∃ v σ' H',Inv X pins σ' H' s'/\RelV v u/\D.rt v H'
def PE(X:Cx)(e:Expr)(t:TE):Prop:=
 ∀ (pins:List #[68]) (s:qM) (σ:St) (H:Hp) (Q:VK),Inv X pins σ H s->t σ H Q->wpAny #[4] X.A #[278] #[77] X.xe s
def PT(X:Cx)(e:Expr)(t:TT):Prop:=
 ∀ (pins:List #[68]) (s:qM) (σ:St) (H:Hp) (Q:Bool->Hp->Prop),Inv X pins σ H s->t σ H Q->wpAny #[4] X.A (isTrue e X.env #[278]) (TP X pins σ Q) X.xe s
def PW(X:Cx)(e:Expr)(t:TT):Prop:=
 ∀ (whole:qK Value) (pins:List #[68]) (s:qM) (σ:St) (H:Hp) (Q:Bool->Hp->Prop),Inv X pins σ H s->t σ H Q->wpAny #[4] X.A (isTrue e X.env whole) (TP X pins σ Q) X.xe s
theorem PW.pt{X:Cx}{t:TT}(h:PW X e t):PT X e t:=h _
def PA(X:Cx)(es:List Expr)(t:TA):Prop:=
 ∀ (pos:Pos) (pins:List #[68]) (s:qM) (σ:St) (H:Hp) (Q:List V->Hp->Prop),Inv X pins σ H s->t σ H Q->wpAny #[4] X.A (spliced #[29]) (AP X pins σ Q) X.xe s
def PS(X:Cx)(st:Stmt)(t:TS):Prop:=
 ∀ (pins:List #[68]) (s:qM) (σ:St) (H:Hp) (D:Ends),Inv X pins σ H s->t D σ H->wpAny #[4] X.A (exec st X.env) (SP X pins D) X.xe s
def HC(X:Cx)(st:List Stmt)(t:TS):Prop:=
 ∀ (pins:List #[68]) (s:qM) (σ:St) (H:Hp) (D:Ends),Inv X pins σ H s->t D σ H->wpAny #[4] X.A (execs st X.env) (SP X pins D) X.xe s
theorem bX{t:qK α}{Q Q':α->qM->Prop}{M:Model}(h:wpAny M A t Q E s)(hQ:∀ a s,Q a s->Q' a s):wpAny M A t Q' E s:=YB h hQ fun _ _ x=>x
variable{X:Cx}{σ:St}{ta te tl:TE}{tb:TS}{D:Ends}{tc:TT}
section
inductive aj0 (i:Nat) (σ:St) (H:Hp) (Q:VK):Prop
 | mk (v:_) (_:σ[i]?=some (some v)) (_:Q v H)
def tC(v:V):TE:=fun _ H Q=>Q v H
theorem agg(hN:X.N[i]?=some x)(hv:Vis X.env.scope x)(hd:#[18]=false:=by decide)(HY:(x==("__classdict__" : qN))=false:=by decide):PE X #[270] (aj0 i):=by
 exists 5
 obtain⟨v,e,h⟩:=h
 obtain⟨m,hn,hl⟩:=I.loc
 obtain⟨u,r,l⟩:=hl i x v hN e hv
 have fin:EP X pins σ Q u s:=⟨v,H,I,r,h⟩
 rcases l with⟨hk,hm⟩|⟨hk,c,hc,aed⟩
 ·exact WU (wpAny_loadName_local I.ok.kind hk hn hm fin) hd
 ·rcases hk with hk|hk
  ·exact WU (wpAny_loadName_cell I.ok.kind hk hc aed fin) hd
  ·exact WU (wpAny_loadName_free I.ok.kind hk hc aed fin HY) hd
theorem aq{i j pos}:PE X (.Constant (.int i) j pos) (tC (.int i)):=fun _ _ _ H _ I h=>wpAny_Constant_int ⟨.int i,H,I.tok _,⟨_,rfl⟩,h⟩
theorem cM{b j pos}:PE X (.Constant (.bool b) j pos) (tC (.bl b)):=fun _ _ _ H _ I h=>Constant_bool ⟨.bl b,H,I,rfl,h⟩
theorem aa2{j pos}:PE X (.Constant .none j pos) (tC .non):=fun _ _ _ H _ I h=>Constant_none ⟨.non,H,I,rfl,h⟩
def Gl(X:Cx)(x:qN):Prop:=X.env.kindOf x=some .globalImplicit
theorem pI(I:Inv X pins σ H s)(hg:Gl X x)(hm:X.mg x=some u)(h:Q u s)(hd:#[18]=false:=by decide):wpAny #[4] X.A (eval #[270] X.env) Q E s:=
 XD I.ok.kind hg (Calls.loadGlobal_global (by rw[I.ok.glob];exact I.mod.glob.keeps I.bk) hm h) hd
theorem oV(I:Inv X pins σ H s)(hg:Gl X x)(hm:X.mg x=none)(hv:qS x=some u)(h:Q u s)(hn:x ≠ "__name__" := by decide)(hd:#[18]=false:=by decide):wpAny #[4] X.A (eval #[270] X.env) Q E s:=by
 obtain⟨mb,h1,h2⟩:=I.mod.blt
 exact XD I.ok.kind hg (Calls.loadGlobal_builtin (by rw[I.ok.glob];exact I.mod.glob.keeps I.bk) hm (by rw[I.ok.blt];exact h1.keeps I.bk) ((h2 x hn).trans hv) h) hd
theorem RA(hg:Gl X x)(hm:X.mg x=some u)(r:RelV v u)(hd:#[18]=false:=by decide):PE X #[270] (tC v):=
 fun _ _ _ H _ I h=>pI I hg hm ⟨v,H,I,r,h⟩ hd
theorem mZ(hg:Gl X x)(hm:X.mg x=none)(hv:qS x=some u)(r:RelV v u)(hn:x ≠ "__name__" := by decide)(hd:#[18]=false:=by decide):PE X #[270] (tC v):=
 fun _ _ _ H _ I h=>oV I hg hm hv ⟨v,H,I,r,h⟩ hn hd
variable{a b:Expr}{tb:TE}
def PC(X:Cx)(op:Qt)(a b:Expr)(t:TE):Prop:=
 ∀ (pins:List #[68]) (s:qM) (σ:St) (H:Hp) (Q:VK),Inv X pins σ H s->t σ H Q ->
  wpAny #[4] X.A (eval a X.env) (fun v s₁=>wpAny #[4] X.A (eval b X.env) (fun u s₂=>wpAny #[4] X.A (qj op v u) #[77] X.xe s₂) X.xe s₁) X.xe s
theorem Ml(b:Expr){op:Qt}(h:op≠.In)(h2:op≠.NotIn):qR op b=false:=by
 have e1:(op==CmpOp.In)=false:=by cases op<;>first|rfl|exact absurd rfl h
 have e2:(op==CmpOp.NotIn)=false:=by cases op<;>first|rfl|exact absurd rfl h2
 cases b<;>simp[qR,e1,e2]
inductive anU (Q:Bool->Hp->Prop) (x:V) (H1:Hp):Prop
 | mk (c:_) (_:x=.bl c) (_:Q c H1)
def tB(t:TE):TT:=fun σ H Q=>t σ H (anU Q)
theorem age{op:Qt}{t:TE}(h:PC X op a b t)(h1:qR op b=false:=by first|exact Ml _ #[13] #[13]|rfl):PE X #[237] t:=fun pins s σ H Q I hw=>wpAny_Compare1 (h pins s σ H Q I hw) h1
theorem AR{op:Qt}{t:TE}(h:PC X op a b t)(h1:qR op b=false:=by first|exact Ml _ #[13] #[13]|rfl):PT X #[237] (tB t):=by
 intro pins s σ H Q I hw
 refine Wu (bX (h pins s σ H _ I hw) fun v s1 h1=>bX h1 fun u s2 h2=>bX h2 fun c s3 ⟨x,H1,I1,r1,q1⟩=>?_) h1
 obtain⟨d,rfl,q⟩:=q1
 cases r1
 exact Yb ⟨H1,I1,q⟩
theorem eJ{t:TE}(h:PE X e t)(he:∀ whole,isTrue e X.env whole=(do let v <- whole;standAt e.pos;holding [v] (truthy v)):=by intro _;rfl):PT X e (tB t):=by
 intro pins s σ H Q I hw
 refine isTrue_plain (bX (h pins s σ H _ I hw) fun v s1 ⟨x,H1,I1,r1,q1⟩=>?_) (he _)
 obtain⟨d,rfl,q⟩:=q1
 cases r1
 exact Yb ⟨H1,I1,q⟩
variable{tA tB':TT}{rest:List Expr}
def anS(t u:TT):TT:=fun σ H Q=>t σ H fun c H1=>if c=true then u σ H1 Q else Q false H1
def tOr(t u:TT):TT:=fun σ H Q=>t σ H fun c H1=>if c=true then Q true H1 else u σ H1 Q
def anY(t:TT):TT:=fun σ H Q=>t σ H fun c H1=>Q (!c) H1
theorem Du(ha:PT X a tA):PW X (.BoolOp .And [a] pos) tA:=by
 intro wh pins s σ H Q I h
 refine isTrue_and (bX (ha pins s σ H Q I h) fun c s1 e=>?_)
 cases c with
 | true=>exact isTrue_and_nil e
 | false=>exact e
theorem wy(ha:PT X a tA):PW X (.BoolOp .Or [a] pos) tA:=by
 intro wh pins s σ H Q I h
 refine isTrue_or (bX (ha pins s σ H Q I h) fun c s1 e=>?_)
 cases c with
 | false=>exact isTrue_or_nil e
 | true=>exact e
theorem Iu(ha:PT X a tA)(hb:PW X (.BoolOp .And (b :: rest) pos) tB'):PW X (.BoolOp .And (a :: b :: rest) pos) (anS tA tB'):=by
 intro wh pins s σ H Q I h
 refine isTrue_and (bX #[114] fun c s1 ⟨H1,I1,q1⟩=>?_)
 cases c with
 | true=>exact hb wh pins s1 σ H1 Q I1 q1
 | false=>exact⟨H1,I1,q1⟩
theorem tH(ha:PT X a tA)(hb:PW X (.BoolOp .Or (b :: rest) pos) tB'):PW X (.BoolOp .Or (a :: b :: rest) pos) (tOr tA tB'):=by
 intro wh pins s σ H Q I h
 refine isTrue_or (bX #[114] fun c s1 ⟨H1,I1,q1⟩=>?_)
 cases c with
 | true=>exact⟨H1,I1,q1⟩
 | false=>exact hb wh pins s1 σ H1 Q I1 q1
theorem ir(ha:PT X a tA):PT X (.UnaryOp .Not a pos) (anY tA):=by
 exists 5
 exact isTrue_not (ha pins s σ H (fun c H1=>Q (!c) H1) I h)
inductive adJ (tb:TE) (σ:St) (Q:VK) (x:V) (H1:Hp):Prop
 | mk (c:_) (_:x=.bl c) (_:if c=true then tb σ H1 Q else Q (.bl false) H1)
def ajG(ta tb:TE):TE:=fun σ H Q=>ta σ H (adJ tb σ Q)
inductive adU (Q:VK) (x:V) (H1:Hp):Prop
 | mk (c:_) (_:x=.bl c) (_:Q (.bl (!c)) H1)
def ajT(ta:TE):TE:=fun σ H Q=>ta σ H (adU Q)
theorem Cm{op}{t:TE}(h:PE X a t):PE X (.BoolOp op [a] pos) t:=fun pins s σ H Q I hw=>BoolOp_one (h pins s σ H Q I hw)
theorem sY(ha:PE X a ta)(hb:PE X (.BoolOp .And (b :: rest) pos) tb):PE X (.BoolOp .And (a :: b :: rest) pos) (ajG ta tb):=by
 exists 5
 refine BoolOp_and (bX #[114] fun v s1 ⟨x,H1,I1,r1,q1⟩=>?_)
 obtain⟨c,rfl,q1⟩:=q1
 cases r1
 refine Yb ?_
 cases c with
 | true=>exact hb pins s1 σ H1 Q I1 q1
 | false=>exact⟨.bl false,H1,I1,rfl,q1⟩
theorem Pg(ha:PE X a ta):PE X (.UnaryOp .Not a pos) (ajT ta):=by
 exists 5
 refine UnaryOp_ (bX #[114] fun v s1 ⟨x,H1,I1,r1,q1⟩=>?_)
 obtain⟨c,rfl,q1⟩:=q1
 cases r1
 exact not_of (Yb ⟨.bl (!c),H1,I1,rfl,q1⟩)
def tIf(t:TT)(ta tb:TE):TE:=fun σ H Q=>t σ H fun c H1=>if c=true then ta σ H1 Q else tb σ H1 Q
theorem aaZ(hc:PT X c tA)(ha:PE X a ta)(hb:PE X b tb):PE X (.IfExp c a b pos) (tIf tA ta tb):=by
 exists 5
 refine wpAny_IfExp (bX (hc pins s σ H _ I h) fun d s1 ⟨H1,I1,q1⟩=>?_)
 cases d with
 | true=>exact ha pins s1 σ H1 Q I1 q1
 | false=>exact hb pins s1 σ H1 Q I1 q1
end
def pk(K:Yh)(H:Hp)(a:Qo)(xs:List V):Prop:=
 Rd H a #[236] \/
  ∃ (o:Obj) (aX:Array Value) (n:Nat),K.lookup a=some o/\o.cls=.type "list" /\ o.dict=none/\o.data=.seq aX n/\aX.size<=sizeLine/\Vals xs aX.toList
def wO(K:Yh)(H:Hp)(a:Qo)(xs:List V):Prop:=
 Rd H a #[36] \/
  ∃ (o:Obj) (aX:Array Value) (n:Nat),K.lookup a=some o/\o.cls=.type "tuple" /\ o.data=.seq aX n/\aX.size<=sizeLine/\Vals xs aX.toList
def alc:Value->Option V
 | .none=>some .non
 | .bool b=>some (.bl b)
 | .int i _=>some (.int i)
 | .str x _=>some (.str x)
 | .bytes b _=>some (.Q5 b)
 | .float b _=>some (.flt b)
 | .ref a=>some #[203]
 | .type n=>some (.ty n)
 | _=>none
theorem RelV.abs{x:V}(r:RelV x u):alc u=some x:=by
 cases x with
 | non=>cases r;rfl
 | bl _=>cases r;rfl
 | int _=>obtain⟨t,rfl⟩:=r;rfl
 | str _=>obtain⟨t,rfl⟩:=r;rfl
 | Q5 _=>obtain⟨t,rfl⟩:=r;rfl
 | flt _=>obtain⟨t,rfl⟩:=r;rfl
 | ref _=>cases r;rfl
 | ty _=>cases r;rfl
theorem RelV.inj{x:V}(r:RelV x u)(q:RelV y u):x=y:=Option.some.inj (r.abs.symm.trans q.abs)
theorem Vals.inj:∀ {xs ys:List V} {us:List Value},Vals xs us->Vals ys us->xs=ys
 | _,_,_,.nil,.nil=>rfl
 | _,_,_,.cons r t,.cons r' t'=>by rw[r.inj r',Vals.inj t t']
section
variable{ys:List V}
theorem pk.of(h:H a=some #[236]):pk K H a xs:=.inl (.inl h)
theorem wO.of(h:H a=some #[36]):wO K H a xs:=.inl (.inl h)
theorem Inv.list(I:Inv X pins σ H s)(h:pk X.K H a xs):∃ aX:List Value,Vals xs aX/\PlainL s.heap a aX.toArray/\xs.length<=sizeLine:=by
 rcases h with h|⟨o,aX,n,hk,hc,hd,hs,hz,r⟩
 ·obtain⟨z,aX,n,r,e⟩:=h.ok I.hok
  exact⟨aX,r,⟨_,n,e,rfl,rfl,rfl⟩,z⟩
 ·refine⟨aX.toList,r,⟨o,n,I.sJ a o hk,hc,hd,by simpa using hs⟩,?_⟩
  have e:=r.length
  simp only[jt]at e
  omega
theorem Inv.tuple(I:Inv X pins σ H s)(h:wO X.K H a xs):∃ aX:List Value,Vals xs aX/\qD s.heap a aX.toArray/\xs.length<=sizeLine:=by
 rcases h with h|⟨o,aX,n,hk,hc,hs,hz,r⟩
 ·obtain⟨z,aX,r,p⟩:=h.ok I.hok
  exact⟨aX,r,p,z⟩
 ·refine⟨aX.toList,r,⟨o,I.sJ a o hk,hc,n,by simpa using hs⟩,?_⟩
  have e:=r.length
  simp only[jt]at e
  omega
theorem Inv.Ek(I:Inv X pins σ H s)(h:pk X.K H a xs)(h':pk X.K H a ys):xs=ys:=by
 obtain⟨aX,r,⟨o,n,e,_,_,d⟩,_⟩:=I.list h
 obtain⟨its',r',⟨o',n',e',_,_,d'⟩,_⟩:=I.list h'
 rw[e]at e';cases e'
 rw[d]at d'
 injection d' with d1 _
 have:aX=its' := by simpa using congrArg zj d1
 subst this
 exact r.inj r'
theorem Inv.Hv(I:Inv X pins σ H s)(h:wO X.K H a xs)(h':wO X.K H a ys):xs=ys:=by
 obtain⟨aX,r,⟨o,e,_,n,d⟩,_⟩:=I.tuple h
 obtain⟨its',r',⟨o',e',_,n',d'⟩,_⟩:=I.tuple h'
 rw[e]at e';cases e'
 rw[d]at d'
 injection d' with d1 _
 have:aX=its' := by simpa using congrArg zj d1
 subst this
 exact r.inj r'
end
abbrev Cx.cw(X:Cx)(E:Value->qM->Prop):Cx:={ X with xe:=E }
abbrev Cx.lI(X:Cx):Cx:=X.cw fun _ _=>False
theorem Cx.Ok.cw(ok:X.Ok)(E:Value->qM->Prop):(X.cw E).Ok:=
 ⟨ok.mod,ok.kind,ok.glob,ok.blt,ok.above,ok.inj,ok.has,ok.cab,ok.hd,ok.frames,ok.stk,ok.exf,ok.bs,ok.bsz,ok.noex,ok.exfs,ok.AH,ok.frf⟩
theorem Cx.Ok.wK(ok:(X.cw E).Ok):X.Ok:=
 ⟨ok.mod,ok.kind,ok.glob,ok.blt,ok.above,ok.inj,ok.has,ok.cab,ok.hd,ok.frames,ok.stk,ok.exf,ok.bs,ok.bsz,ok.noex,ok.exfs,ok.AH,ok.frf⟩
section
theorem Inv.cw(I:Inv X pins σ H s)(E:Value->qM->Prop):Inv (X.cw E) pins σ H s:=⟨I.ok.cw E,I.os,I.bare,I.base,I.loc,I.cell,I.free,I.freeC,I.pin,I.hok,I.len⟩
theorem Inv.wK(I:Inv (X.cw E) pins σ H s):Inv X pins σ H s:=⟨I.ok.wK,I.os,I.bare,I.base,I.loc,I.cell,I.free,I.freeC,I.pin,I.hok,I.len⟩
theorem SP.wK{f:Flow}(h:SP (X.cw E) pins D f s'):SP X pins D f s' := by
 cases f with
 | next=>obtain⟨σ',H',I,q⟩:=h;exact⟨σ',H',I.wK,q⟩
 | brk=>obtain⟨σ',H',I,q⟩:=h;exact⟨σ',H',I.wK,q⟩
 | cont=>obtain⟨σ',H',I,q⟩:=h;exact⟨σ',H',I.wK,q⟩
 | ret u=>obtain⟨v,σ',H',I,r,q⟩:=h;exact⟨v,σ',H',I.wK,r,q⟩
theorem HC.lI{t:TS}(h:HC X.lI st t):HC X st t:=fun pins s σ H D I hw =>
 YB (h pins s σ H D (I.cw _) hw) (fun _ _ q=>q.wK) fun _ _ z=>False.elim z
end
section
variable{st:Stmt}{rest:List Stmt}{t u:TS}
def cz:TS:=fun D σ H=>D.nx σ H
def PJ(t u:TS):TS:=fun D σ H=>t { D with nx:=u D } σ H
theorem bB:HC X [] cz:=fun _ _ σ H _ I h=>Wi ⟨σ,H,I,h⟩
theorem ah(h1:PS X st t)(h2:HC X rest u):HC X (st :: rest) (PJ t u):=by
 exists 21
 refine Wh (bX (h1 pins s σ H { D with nx:=u D } I h) fun f s1 q=>?_)
 cases f with
 | next =>
  obtain⟨σ',H',I',q⟩:=q
  exact h2 pins s1 σ' H' D I' q
 | ret v=>exact q
 | brk=>exact q
 | cont=>exact q
theorem ak(h1:PS X st t):HC X [st] t:=by
 exists 21
 refine Wh (bX (h1 pins s σ H D I h) fun f s1 q=>?_)
 cases f with
 | next=>exact Wi q
 | ret v=>exact q
 | brk=>exact q
 | cont=>exact q
theorem Inv.quiet(I:Inv X pins σ H s):interactive X.env=false:=by simp[interactive,I.ok.kind]
def ajL(te:TE):TS:=fun D σ H=>te σ H fun _ H1=>D.nx σ H1
theorem bJ(he:PE X e te)(hs:WJ e none pos.line X.env=pure false:=by rfl):PS X (.Expr e pos) (ajL te):=by
 exists 21
 exact wpAny_Expr_any (bX #[80] fun v s1 ⟨x,H1,I1,r1,q1⟩=>⟨σ,H1,I1,q1⟩) I.quiet hs
def ajW(te:TE):TS:=fun D σ H=>te σ H D.rt
theorem aJ(he:PE X e te):PS X (.Return (some e) pos) (ajW te):=by
 exists 21
 exact wpAny_Return_some (bX #[80] fun v s1 ⟨x,H1,I1,r1,q1⟩=>⟨x,σ,H1,I1,r1,q1⟩)
def adO(c:TT)(t u:TS):TS:=fun D σ H=>c σ H fun b H1=>if b=true then t D σ H1 else u D σ H1
theorem cK{a b:List Stmt}(hc:PT X c tc)(ha:HC X a t)(hb:HC X b u):PS X (.If c a b pos) (adO tc t u):=by
 exists 21
 refine wpAny_If (bX (hc pins s σ H _ I h) fun d s1 ⟨H1,I1,q1⟩=>?_)
 cases d with
 | true=>exact ha pins s1 σ H1 D I1 q1
 | false=>exact hb pins s1 σ H1 D I1 q1
end
abbrev TG:=V->St->Hp->(St->Hp->Prop)->Prop
abbrev TGs:=List V->St->Hp->(St->Hp->Prop)->Prop
def PG(X:Cx)(target:Expr)(t:TG):Prop:=
 ∀ (pins:List #[68]) (s:qM) (σ:St) (H:Hp) (v:V) (u:Value) (Q:St->Hp->Prop),Inv X pins σ H s->RelV v u->t v σ H Q ->
  wpAny #[4] X.A (assign target X.env u) (fun _ s'=>∃ σ' H',Inv X pins σ' H' s'/\Q σ' H') X.xe s
def PGs(X:Cx)(ts:List Expr)(t:TGs):Prop:=
 ∀ (pins:List #[68]) (s:qM) (σ:St) (H:Hp) (vs:List V) (us:List Value) (Q:St->Hp->Prop),Inv X pins σ H s->Vals vs us->t vs σ H Q ->
  wpAny #[4] X.A (assignInOrder ((qQ ts X.env).map (·.2)) us) (fun _ s'=>∃ σ' H',Inv X pins σ' H' s'/\Q σ' H') X.xe s
abbrev aeX:=V->V->V->Hp->(Hp->Prop)->Prop
def ahE(X:Cx)(t:aeX):Prop:=
 ∀ (pins:List #[68]) (s:qM) (σ:St) (H:Hp) (o i v:V) (ov iv u:Value) (Q:Hp->Prop),Inv X pins σ H s->RelV o ov->RelV i iv->RelV v u->t o i v H Q ->
  wpAny #[4] X.A (setItem ov iv u) (fun _ s'=>∃ H',Inv X pins σ H' s'/\Q H') X.xe s
section
def ba(i:Nat):TG:=fun v σ H Q=>Q #[251] H
theorem ads(hN:X.N.Nodup)(hi:X.N[i]?=some x)(hx:Loc X.env.scope x)(hf:X.fn x=true\/X.env.scope.names.lookup x=some .local:=by first|exact .inl rfl|exact .inr rfl|assumption):PG X #[270] (ba i):=by
 intro pins s σ H v u Q I r h
 exact WW (wI I hN hi hx r (fun s' I'=>⟨_,H,I',h⟩) hf)
def alD:TGs:=fun vs σ H Q=>vs=[]/\Q σ H
def ahX(t:TG)(u:TGs):TGs:=fun vs σ H Q=>∃ v r,vs=v :: r/\t v σ H fun σ' H'=>u r σ' H' Q
theorem pK:PGs X [] alD:=by
 intro pins s σ H vs us Q I r h
 obtain⟨e,h⟩:=h
 subst e
 cases r
 exact assignInOrder_nil ⟨σ,H,I,h⟩
theorem cR{t:TG}{u:TGs}(h1:PG X e t)(h2:PGs X es u)(hs:(qQ (e :: es) X.env).map (·.2)=assign e X.env :: (qQ es X.env).map (·.2):=by rfl):PGs X (e :: es) (ahX t u):=by
 intro pins s σ H vs us Q I r h
 obtain⟨v,vr,e1,h⟩:=h
 subst e1
 cases r with
 | cons r rr =>
  rw[hs]
  refine assignInOrder_cons (bX (h1 pins s σ H _ _ _ I r h) fun _ s1 ⟨σ1,H1,I1,q1⟩=>?_)
  exact h2 pins s1 σ1 H1 _ _ Q I1 rr q1
def ahY(K:Yh)(n:Nat)(t:TGs):TG:=fun v σ H Q=>∃ a xs,v=.ref a/\wO K H a xs/\xs.length=n/\t xs σ H Q
theorem AO{k:Nat}{t:TGs}(hc:X.calm=true)(h:PGs X es t)(hn:(qQ es X.env).length=n:=by rfl)(tL:(qQ es X.env).findIdx? (·.1)=none:=by rfl):PG X (.Tuple es k pos) (ahY X.K n t):=by
 intro pins s σ H v u Q I r hw
 obtain⟨a,xs,e1,hq,hl,hw⟩:=hw
 subst e1
 cases r
 obtain⟨aX,rv,ht,hz⟩:=I.tuple hq
 refine assign_Tuple_tuple #[120] ht (by simp[hn,<- hl,rv.length]) tL fun h' hx=>?_
 have I1:Inv X pins σ H { s with heap:=h' }:=I.kept (t' := s.toks) fun b o e=>hx b o (jQ (jL e)) e
 exact h pins _ σ H xs _ Q I1 (by simpa using rv) hw
def alE(to ti:TE)(t:aeX):TG:=fun v σ H Q=>to σ H fun o H1=>ti σ H1 fun i H2=>t o i v H2 fun H3=>Q σ H3
theorem aa3{o i:Expr}{to ti:TE}{t:aeX}(ho:PE X o to)(hi:PE X i ti)(hs:ahE X t)(ha:∀ v,assign (.Subscript o i pos) X.env v=(do
   let ov <- holding [v] (eval o X.env)
   let iv <- holding [v,ov] (eval i X.env)
   standAt pos
   holding [v,ov,iv] (setItem ov iv v)
   release [v,ov,iv] []):=by intro _;rfl):PG X (.Subscript o i pos) (alE to ti t):=by
 intro pins s σ H v u Q I r h
 rw[ha]
 refine WY (Wq (bX #[210] fun ov s1 ⟨x,H1,I1,r1,q1⟩=>?_))
 refine WY (Wq (bX (hi pins s1 σ H1 _ I1 q1) fun iv s2 ⟨y,H2,I2,r2,q2⟩=>?_))
 refine WY (YY (WY (Wq (bX (hs pins s2 σ H2 x y v ov iv u _ I2 r1 r2 r q2) fun _ s3 ⟨H3,I3,q3⟩=>?_))))
 exact wpAny_release ⟨σ,H3,I3,q3⟩
def EO(te:TE)(g:TG):TS:=fun D σ H=>te σ H fun x H1=>g x σ H1 D.nx
theorem Ph{g:TG}(he:PE X e te)(hg:PG X tg g)(hs:swapsWithSole [tg] e pos.line X.env=pure false:=by rfl)(hw:swappedStores [tg] e X.env=pure none:=by rfl)(h1:(qQ [tg] X.env).map (·.2)=[assign tg X.env]:=by rfl):PS X (.Assign [tg] e pos) (EO te g):=by
 exists 21
 refine wpAny_Assign_stores (bX #[80] fun v s1 ⟨x,H1,I1,r1,q1⟩=>?_) hs hw
 rw[h1]
 exact bX (hg pins s1 σ H1 x v _ I1 r1 q1) fun _ s2 q=>q
theorem aa9(hN:X.N.Nodup)(hi:X.N[i]?=some x)(hx:Loc X.env.scope x)(he:PE X e te)(hs:WJ e #[288] pos.line X.env=pure false:=by rfl)(hf:X.fn x=true\/X.env.scope.names.lookup x=some .local:=by first|exact .inl rfl|exact .inr rfl|assumption):
  PS X #[187] (EO te (ba i)):=by
 exists 21
 refine WO (bX #[80] fun v s1 ⟨y,H1,I1,r1,q1⟩=>?_) hs
 exact wI I1 hN hi hx r1 (fun s2 I2=>⟨_,H1,I2,q1⟩) hf
end
section
inductive wJ (c:TT) (tb:TS) (D:Ends) (σ:St) (H:Hp):Prop
 | mk (W:Nat->St->Hp->Prop) (_:(∃ m,W m σ H)) (_:∀ m σ H,W m σ H->c σ H fun b H1=>if b=true then ∃ N:St->Hp->Prop,(∀ σ' H',N σ' H'->∃ m',m'<m/\W m' σ' H')/\tb { D with nx:=N,ct:=N,bk:=D.nx } σ H1 else D.nx σ H1)
theorem rW(hp:qI #[4] X.A X.env X.xe)(hc:PT X c tc)(hb:HC X body tb):PS X (.While c body [] pos) (wJ tc tb):=by
 exists 21
 obtain⟨W,⟨m0,w0⟩,turn⟩:=h
 refine wpAny_While (codeAny_whileLoop (fun n s'=>∃ σ' H',Inv X pins σ' H' s'/\W n σ' H') ?_ m0 ⟨σ,H,I,w0⟩)
 rintro n s1 ⟨σ1,H1,I1,w1⟩
 refine YI hp (bX (hc pins s1 σ1 H1 _ I1 (turn n σ1 H1 w1)) fun b s2 ⟨H2,I2,q2⟩=>?_)
 cases b with
 | true =>
  obtain⟨N,hN,q2⟩:=q2
  rw[if_pos rfl]
  refine YI hp (bX (hb pins s2 σ1 H2 _ I2 q2) fun f s3 q3=>?_)
  cases f with
  | next =>
   obtain⟨σ3,H3,I3,n3⟩:=q3
   obtain⟨m',hm,w3⟩:=hN σ3 H3 n3
   exact⟨m',hm,σ3,H3,I3,w3⟩
  | cont =>
   obtain⟨σ3,H3,I3,n3⟩:=q3
   obtain⟨m',hm,w3⟩:=hN σ3 H3 n3
   exact⟨m',hm,σ3,H3,I3,w3⟩
  | brk=>exact q3
  | ret v=>exact q3
 | false =>
  rw[if_neg jo]
  exact Wi ⟨σ1,H2,I2,q2⟩
end
structure It where
 go:Nat->Hp->Prop
 yld:Nat->Hp->V->Hp->Prop
 stop:Nat->Hp->Prop
def tI(X:Cx)(pins:List #[68])(H:Hp)(b:Qo):Prop:=
 H b=none/\b≠X.env.locals/\b∉X.fs/\#[143]/\#[111]/\∀ p∈X.pn++pins,p.1≠b
theorem Inv.AG(I:Inv X pins σ H s)(hb:s.heap.objs.size<=b)(hn:H' b=none):tI X pins H' b:=by
 refine⟨hn,Js (jh I.lt hb),I.ans hb,.inr (jk I.sz hb),fun x c e z=>?_,fun p hp z=>?_⟩
 ·obtain⟨v,q⟩:=I.cell x c e
  exact absurd (jh q.lt (by rw[z];exact hb)) (JX _)
 ·exact absurd (jh (jL (I.pin p hp).1) (by rw[z];exact hb)) (JX _)
structure Turn(P:qJ)(w:World)(K:Yh)(tg:Expr)(J:It)(fp:List Qo)(it:Qo)(tn:Nat->Heap->Prop):Prop where
 mem:it∈fp
 obj:∀ i h,tn i h->∀ b∈fp,∃ o,h.get? b=some o/\∀ v,o.data≠.cell v
 keep:∀ i h h',tn i h->(∀ b∈fp,∀ o,h.get? b=some o->h'.get? b=some o)->tn i h'
 item:∀ (X:Cx),X.prog=P->X.w=w->X.K=K->X.calm=true->∀ (i:Nat) (pins:List #[68]) (s:qM) (σ:St) (H:Hp) (E:Value->qM->Prop),Inv X pins σ H s->(∀ b∈fp,tI X pins H b)->tn i s.heap->J.go i H ->
  wpAny #[42] X.A (pyNext #[194]) (fun r s1=>∃ u,r=some u /\
   wpAny #[42] X.A (letOwnedTupleGo tg #[194] u) (fun _ s2=>∃ x H',Inv X pins σ H' s2/\RelV x u/\J.yld i H x H'/\tn (i+1) s2.heap/\∀ b∈fp,H' b=none) E s1) E s
 done:∀ (X:Cx),X.prog=P->X.w=w->X.K=K->X.calm=true->∀ (i:Nat) (pins:List #[68]) (s:qM) (σ:St) (H:Hp) (E:Value->qM->Prop),Inv X pins σ H s->(∀ b∈fp,tI X pins H b)->tn i s.heap->J.stop i H ->
  wpAny #[42] X.A (pyNext #[194]) (fun r s1=>r=none/\Inv X pins σ H s1) E s
 self:∀ (A:Around) (i:Nat) (s:qM) (Q:Value->qM->Prop) (E:Value->qM->Prop),tn i s.heap->Q #[194] s->wpAny #[42] A (pyIter #[194]) Q E s
abbrev TI:=St->Hp->(It->Hp->Prop)->Prop
def PIE(X:Cx)(pins:List #[68])(σ:St)(tg:Expr)(R:It->Hp->Prop)(itv:Value)(s2:qM):Prop:=
 ∃ (it:Qo) (fp:List Qo) (tn:Nat->Heap->Prop) (J:It) (H':Hp),itv=.ref it/\Inv X pins σ H' s2/\Turn X.prog X.w X.K tg J fp it tn/\tn 0 s2.heap/\(∀ b∈fp,tI X pins H' b)/\R J H'
def PI(X:Cx)(tg iter:Expr)(wi:TI):Prop:=
 ∀ (pins:List #[68]) (s:qM) (σ:St) (H:Hp) (R:It->Hp->Prop),Inv X pins σ H s->wi σ H R ->
  wpAny #[4] X.A (eval iter X.env) (fun v s1=>wpAny #[4] X.A (pyIter v) (PIE X pins σ tg R) X.xe s1) X.xe s
theorem FZ{M:Model}{o:Obj}{n:String}{vs:Array Value}{Q:Unit->qM->Prop}(ho:s.heap.get? it=some o)(hc:o.cls=.type n)(hd:o.data=.fields vs)(hn:["enumerate","zip","dict_itemiterator","dict_reverseitemiterator","odict_iterator","itertools.zip_longest","itertools.pairwise"].contains n=false)(hQ:Q () s):wpAny M A (letOwnedTupleGo tg #[194] u) Q E s:=by
 unfold letOwnedTupleGo
 cases tg<;>first
  | exact YJ hQ
  | (cases u<;>first
    | exact YJ hQ
    | (refine WY (Wx ho ?_)
       rw[hc,hd]
       show wpAny M A (if (["enumerate","zip","dict_itemiterator","dict_reverseitemiterator","odict_iterator","itertools.zip_longest","itertools.pairwise"].contains n&&vs[0]?==some (rawInt _))=true then _ else _) Q E s
       rw[if_neg (by intro h;rw[hn,Zj]at h;cases h)]
       exact YJ hQ))
def Itl(K:Yh)(a:Qo):It:=
 ⟨fun i H=>∃ xs x,pk K H a xs/\xs[i]?=some x,fun i H x H'=>H'=H/\∀ xs,pk K H a xs->xs[i]?=some x,fun i H=>∃ xs,pk K H a xs/\xs.length<=i⟩
def Itt(K:Yh)(a:Qo):It:=
 ⟨fun i H=>∃ xs x,wO K H a xs/\xs[i]?=some x,fun i H x H'=>H'=H/\∀ xs,wO K H a xs->xs[i]?=some x,fun i H=>∃ xs,wO K H a xs/\xs.length<=i⟩
def Itr(lo:Int)(n:Nat):It:=⟨fun i _=>i<n,fun i H x H'=>H'=H/\x=.int (lo+i),fun i _=>n<=i⟩
theorem Hw(a it:Qo):Turn P w K tg (Itl K a) [it] it (fun i h=>h.IsListIter it a i) where
 mem:=by simp
 obj:=fun i h st b hb=>by
  exists 31
  subst e
  obtain⟨o,e,c,d⟩:=st
  exists 16
 keep:=fun i h h' st k=>st.at fun o e=>k it #[10] o e
 item:=by
  exists 1
  exists 92
  obtain⟨xs,x,hq,hx⟩:=hg
  exists 67
  exists 94
  exists 2
  refine wpAny_pyNext_list_item st p.isList (x:=u) (by simpa using hu) fun h' EL sb=>?_
  exists 4
  obtain⟨o,e,c,d⟩:=id EL
  exact⟨u,rfl,FZ (s:={ s with heap:=h' }) e c d #[13] ⟨x,H,I1,ru,⟨rfl,fun ys hy=>by rw[I.Ek hy hq];exact hx⟩,EL,fun b hb=>(hf b hb).1⟩⟩
 done:=by
  exists 1
  exists 92
  obtain⟨xs,hq,hx⟩:=hg
  exists 67
  exists 2
  have hl:=rv.length
  exact wpAny_pyNext_list_end #[120] st p.isList #[291] fun h' eb=>⟨rfl,I.turned (t' := s.toks) #[97] f0 f1 f3 f4 f5⟩
 self:=fun _ _ _ _ _ st h=>wpAny_pyIter_listiter st h
theorem ER(a it:Qo):Turn P w K tg (Itt K a) [it] it (fun i h=>h.IsTupleIter it a i) where
 mem:=by simp
 obj:=fun i h st b hb=>by
  exists 31
  subst e
  obtain⟨o,e,c,d⟩:=st
  exists 16
 keep:=fun i h h' st k=>st.at fun o e=>k it #[10] o e
 item:=by
  exists 1
  exists 92
  obtain⟨xs,x,hq,hx⟩:=hg
  exists 83
  exists 94
  exists 2
  refine wpAny_pyNext_tuple_item st (show s.heap.IsTuple a aX.toArray from p) (x:=u) (by simpa using hu) fun h' EL sb=>?_
  exists 4
  obtain⟨o,e,c,d⟩:=id EL
  exact⟨u,rfl,FZ (s:={ s with heap:=h' }) e c d #[13] ⟨x,H,I1,ru,⟨rfl,fun ys hy=>by rw[I.Hv hy hq];exact hx⟩,EL,fun b hb=>(hf b hb).1⟩⟩
 done:=by
  exists 1
  exists 92
  obtain⟨xs,hq,hx⟩:=hg
  exists 83
  exists 2
  have hl:=rv.length
  exact wpAny_pyNext_tuple_end #[120] st (show s.heap.IsTuple a aX.toArray from p) #[291] fun h' eb=>⟨rfl,I.turned (t' := s.toks) #[97] f0 f1 f3 f4 f5⟩
 self:=fun _ _ _ _ _ st h=>wpAny_pyIter_tupleiter st h
theorem PR(it:Qo)(lo:Int)(n:Nat):Turn P w K tg (Itr lo n) [it] it (fun i h=>IsRangeIter h it (lo+(i:Nat)*1) ((n:Int)-(i:Nat)) 1) where
 mem:=by simp
 obj:=fun i h st b hb=>by
  exists 31
  subst e
  exact⟨_,st,fun v z=>by
   exists 74
   cases z'⟩
 keep:=fun i h h' st k=>k it #[10] _ st
 item:=by
  exists 1
  exists 92
  exists 2
  have W:=Walks.range (prog:=X.prog) (w:=X.w) #[120] it lo 1 n
  refine W.item i s _ _ hg st fun v h' tk hv EL kk=>?_
  obtain⟨t,rfl⟩:=hv
  have I1:Inv X pins σ H { s with heap:=h',toks:=tk }:=I.turned (fun b o hb e=>kk b o #[208] e) f0 f1 f3 f4 f5
  refine⟨_,rfl,FZ (s:={ s with heap:=h',toks:=tk }) (n := "range_iterator") EL rfl rfl #[13] ⟨.int (lo+i),H,I1,⟨t,?_⟩,⟨rfl,rfl⟩,EL,fun b hb=>(hf b hb).1⟩⟩
  rw[zZ]
 done:=by
  exists 1
  exists 92
  exists 2
  exact wpAny_pyNext_range_end #[120] st (by have:n<=i:=hg;omega) fun h' eb=>⟨rfl,I.turned (t' := s.toks) #[97] f0 f1 f3 f4 f5⟩
 self:=fun _ _ _ _ _ st h=>wpAny_pyIter_rangeiter st h
variable{wi:TI}
section
def aiO(K:Yh)(tl:TE):TI:=fun σ H R=>tl σ H fun x H1=>∃ a,x=.ref a/\(∃ xs,pk K H1 a xs)/\R (Itl K a) H1
def amX(K:Yh)(tl:TE):TI:=fun σ H R=>tl σ H fun x H1=>∃ a,x=.ref a/\(∃ xs,wO K H1 a xs)/\R (Itt K a) H1
theorem cI(hl:PE X l tl):PI X tg l (aiO X.K tl):=by
 exists 42
 exists 9
 exists 87
 subst e
 cases r1
 obtain⟨aX,rv,p,hz⟩:=I1.list hq
 refine YL p.isList ?_
 refine⟨s1.heap.objs.size,[s1.heap.objs.size],_,_,H1,rfl,I1.kept (t' := s1.toks) fun b o e=>jA _ e,Hw a _,⟨_,jK _ rfl,rfl,rfl⟩,fun b hb=>?_,q⟩
 exists 24
 subst e
 exists 15
theorem ik(hl:PE X l tl):PI X tg l (amX X.K tl):=by
 exists 42
 exists 9
 exists 87
 subst e
 cases r1
 obtain⟨aX,rv,p,hz⟩:=I1.tuple hq
 refine YO (show s1.heap.IsTuple a aX.toArray from p) ?_
 refine⟨s1.heap.objs.size,[s1.heap.objs.size],_,_,H1,rfl,I1.kept (t' := s1.toks) fun b o e=>jA _ e,ER a _,⟨_,jK _ rfl,rfl,rfl⟩,fun b hb=>?_,q⟩
 exists 24
 subst e
 exists 15
theorem MG{R:It->Hp->Prop}{hi:Int}{t u v:Tok}{tk:Nat}(I:Inv X pins σ H s)(h1 : -(2^62)<=lo)(h2:lo<2^62)(h3 : -(2^62)<=hi)(h4:hi<2^62)(q:R (Itr lo (hi-lo).toNat) H):wpAny #[4] X.A (pyIter #[15]) (PIE X pins σ tg R) E { s with heap:=s.heap.push { cls:=.type "range",data:=.fields #[.int lo t,.int hi u,.int 1 v] },toks:=tk }:=by
 refine wpAny_pyIter_range (IsRange.new ..) (small_one h1 h2 h3 h4) ?_
 have I1:Inv X pins σ H { s with heap:=s.heap.push { cls:=.type "range",data:=.fields #[.int lo t,.int hi u,.int 1 v] },toks:=tk }:=I.kept fun b o e=>jA _ e
 refine⟨#[76].objs.size,[#[76].objs.size],_,_,H,rfl,
  I1.kept (t' := tk) fun b o e=>jA _ e,PR _ lo (hi-lo).toNat,?_,fun b hb=>?_,q⟩
 ·have e1:lo+((0:Nat):Int)*1=lo:=by simp
  have e2:(((hi-lo).toNat:Nat):Int)-((0:Nat):Int)=GU lo hi 1:=by rw[rangeSize_one];split<;>omega
  show IsRangeIter _ _ (lo+((0:Nat):Int)*1) ((((hi-lo).toNat:Nat):Int)-((0:Nat):Int)) 1
  rw[e1,e2]
  exact jK _ rfl
 ·have e:b=#[76].objs.size:=by simpa using hb
  subst e
  exists 15
def aiP(ta:TA):TI:=fun σ H R=>ta σ H fun vs H1=>∃ j:Int,vs=[.int j]/\-(2^62)<=j/\j<2^62/\R (Itr 0 j.toNat) H1
def aiQ(ta:TA):TI:=fun σ H R=>ta σ H fun vs H1=>∃ i j:Int,vs=[.int i,.int j]/\(-(2^62)<=i/\i<2^62/\-(2^62)<=j/\j<2^62)/\R (Itr i (j-i).toNat) H1
theorem br{a:Expr}{ta:TA}(hg:Gl X "range")(hm:X.mg "range" = none)(ha:PA X [a] ta)(hs:WH [a] X.env=[(false,eval a X.env)]:=by rfl):PI X tg (.Call (.Name "range" p) [a] [] pos) (aiP ta):=by
 exists 42
 refine Qs (oV I hg hm qU (Yq #[109] hs rfl))
 obtain⟨j,e,q1,q2,q⟩:=q1
 subst e
 cases r1 with
 | cons r rr =>
  cases rr
  obtain⟨t,rfl⟩:=r
  exact call_range_1 (MG I1 #[0] #[0] q1 q2 (by simpa using q))
theorem TB{a b:Expr}{ta:TA}(hg:Gl X "range")(hm:X.mg "range" = none)(ha:PA X [a,b] ta)(hs:WH [a,b] X.env=[(false,eval a X.env),(false,eval b X.env)]:=by rfl)(hs2:WH [b] X.env=[(false,eval b X.env)]:=by rfl):
  PI X tg (.Call (.Name "range" p) [a,b] [] pos) (aiQ ta):=by
 exists 42
 refine Qs (oV I hg hm qU (Yq #[109] (by rw[hs,hs2]) (by rw[hs2];rfl)))
 obtain⟨i,j,e,⟨q1,q2,q3,q4⟩,q⟩:=q1
 subst e
 cases r1 with
 | cons r rr =>
  cases rr with
  | cons r' rr =>
   cases rr
   obtain⟨t,rfl⟩:=r
   obtain⟨t',rfl⟩:=r'
   exact call_range_2 (MG I1 q1 q2 q3 q4 q)
def rZ(wi:TI)(g:TG)(tb:TS):TS:=fun D σ H=>wi σ H fun J H1=>∃ W:Nat->Nat->St->Hp->Prop,(∃ m,W 0 m σ H1)/\∀ i m σ H,W i m σ H ->
 (J.stop i H/\D.nx σ H)\/(J.go i H/\∃ N:St->Hp->Prop,#[17]/\∀ x H',J.yld i H x H'->g x σ H' fun σ2 H2=>tb { D with nx:=N,ct:=N,bk:=D.nx } σ2 H2)
def Iq(fp:List Qo)(h:Heap):List #[68]:=fp.filterMap fun b=>(h.get? b).map fun o=>(b,o)
theorem eY{o:Obj}(hb:b∈fp)(e:h.get? b=some o):(b,o)∈Iq fp h:=ZR.mpr ⟨b,hb,by rw[e];rfl⟩
theorem Tc{p:Qo×Obj}(hp:p∈Iq fp h):p.1∈fp/\h.get? p.1=some p.2:=by
 obtain⟨b,hb,e⟩:=ZR.mp hp
 cases q:h.get? b with
 | none=>rw[q]at e;cases e
 | some o =>
  rw[q]at e
  have e':(b,o)=p:=Option.some.inj e
  subst e'
  exact⟨hb,q⟩
theorem Inv.pinned(I:Inv X pins σ H s)(hf:∀ b∈fp,tI X pins H b)(ho:∀ b∈fp,∃ o,s.heap.get? b=some o/\∀ v,o.data≠.cell v):Inv X (pins++Iq fp s.heap) σ H s:=
 I.RD fun p hp=>(Jm.mp hp).elim (fun z=>I.pin p (jP _ z)) fun z=>by
  obtain⟨hb,e⟩:=Tc z
  obtain⟨f0,f1,f2,_⟩:=hf p.1 hb
  obtain⟨o,e',d⟩:=ho p.1 hb
  rw[e]at e';cases e'
  exact⟨e,f0,f1,f2,d⟩
theorem Inv.sd(I:Inv X (pins++pl) σ H s):Inv X pins σ H s:=I.RD fun p hp=>I.pin p (jP _ (jb _ hp))
theorem bq{g:TG}(hp:qI #[4] X.A X.env X.xe)(hc:X.calm=true)(hi:PI X tg iter wi)(hg:PG X tg g)(hb:HC X body tb)(hs:∀ x,foldedSetIterable iter X.env x=pure x:=by intro _;rfl):PS X (.For tg iter body [] pos) (rZ wi g tb):=by
 exists 21
 refine wpAny_For #[59] hs
 obtain⟨it,fp,tn,J,H2,e,I2,T,PD,f2,W,⟨m0,w0⟩,turn⟩:=h2
 subst e
 have EM:∀ {H':Hp},#[132]->∀ b∈fp,tI X pins H' b:=fun hn b hb=>⟨hn b hb,(f2 b hb).2⟩
 refine codeAny_forLoop_any (fun n s'=>∃ i σ' H',Inv X pins σ' H' s'/\tn i s'.heap/\#[132]/\W i n σ' H') ?_ m0 ⟨0,σ,H2,I2,PD,fun b hb=>(f2 b hb).1,w0⟩
 rintro n s3 ⟨i,σ3,H3,I3,st3,fr3,w3⟩
 rcases turn i n σ3 H3 w3 with⟨stop,qn⟩|⟨go,N,hN,step⟩
 ·refine YI hp (bX (T.done X rfl rfl rfl hc i pins s3 σ3 H3 X.xe I3 (EM fr3) st3 stop) fun r s4 ⟨hr,I4⟩=>?_)
  subst hr
  exact Wi ⟨σ3,H3,I4,qn⟩
 ·refine YI hp (bX (T.item X rfl rfl rfl hc i pins s3 σ3 H3 X.xe I3 (EM fr3) st3 go) fun r s4 ⟨u,hr,h4⟩=>?_)
  subst hr
  refine YI hp (bX h4 fun _ s5 ⟨x,H5,I5,r5,y5,E8,fr5⟩=>?_)
  have I5' := I5.pinned (EM fr5) (T.obj _ _ E8)
  refine YI hp (bX (hg _ s5 σ3 H5 x u _ I5' r5 (step x H5 y5)) fun _ s6 ⟨σ6,H6,I6,q6⟩=>?_)
  refine YI hp (bX (hb _ s6 σ6 H6 _ I6 q6) fun f s7 q7=>?_)
  have again:∀ {σ7:St} {H7:Hp},Inv X (pins++Iq fp s5.heap) σ7 H7 s7->N σ7 H7->∃ m,m<n/\∃ i σ' H',Inv X pins σ' H' s7/\tn i s7.heap/\#[132]/\W i m σ' H' := fun {σ7 H7} I7 n7=>by
   obtain⟨m',hm,w7⟩:=hN σ7 H7 n7
   refine⟨m',hm,i+1,σ7,H7,I7.sd,T.keep _ _ _ E8 fun b hb o e=>(I7.pin (b,o) #[104]).1,fun b hb=>?_,w7⟩
   exists 75
   exact(I7.pin (b,o) #[104]).2.1
  cases f with
  | next=>obtain⟨σ7,H7,I7,n7⟩:=q7;exact again I7 n7
  | cont=>obtain⟨σ7,H7,I7,n7⟩:=q7;exact again I7 n7
  | brk=>obtain⟨σ7,H7,I7,q7⟩:=q7;exact⟨σ7,H7,I7.sd,q7⟩
  | ret v=>obtain⟨x7,σ7,H7,I7,r7,q7⟩:=q7;exact⟨x7,σ7,H7,I7.sd,r7,q7⟩
end
theorem dj{g:TG}(Pv:Nat->St->Hp->Prop)(h0:Pv 0 σ H)(hl:∀ i σ H,i<=xs.length->Pv i σ H->pk K H a xs)(hs:∀ i x σ H,xs[i]?=some x->Pv i σ H->g x σ H fun σ2 H2=>tb { D with nx:=Pv (i+1),ct:=Pv (i+1),bk:=D.nx } σ2 H2)(hd:∀ σ H,Pv xs.length σ H->D.nx σ H):
  ∃ W:Nat->Nat->St->Hp->Prop,#[181]/\∀ i m σ H,W i m σ H ->
   ((Itl K a).stop i H/\D.nx σ H)\/((Itl K a).go i H/\∃ N:St->Hp->Prop,#[17]/\∀ x H',(Itl K a).yld i H x H'->g x σ H' fun σ2 H2=>tb { D with nx:=N,ct:=N,bk:=D.nx } σ2 H2):=by
 exists 7
 exists 50
 exists 99
 exists 72
 ·exists 6
  obtain⟨e,y⟩:=y
  subst e
  exact hs i x σ _ (y xs q) p
 ·exists 43
  subst e
  exists 56
theorem pH{g:TG}(Pv:Nat->St->Hp->Prop)(h0:Pv 0 σ H)(hl:∀ i σ H,i<=xs.length->Pv i σ H->wO K H a xs)(hs:∀ i x σ H,xs[i]?=some x->Pv i σ H->g x σ H fun σ2 H2=>tb { D with nx:=Pv (i+1),ct:=Pv (i+1),bk:=D.nx } σ2 H2)(hd:∀ σ H,Pv xs.length σ H->D.nx σ H):
  ∃ W:Nat->Nat->St->Hp->Prop,#[181]/\∀ i m σ H,W i m σ H ->
   ((Itt K a).stop i H/\D.nx σ H)\/((Itt K a).go i H/\∃ N:St->Hp->Prop,#[17]/\∀ x H',(Itt K a).yld i H x H'->g x σ H' fun σ2 H2=>tb { D with nx:=N,ct:=N,bk:=D.nx } σ2 H2):=by
 exists 7
 exists 50
 exists 99
 exists 72
 ·exists 6
  obtain⟨e,y⟩:=y
  subst e
  exact hs i x σ _ (y xs q) p
 ·exists 43
  subst e
  exists 56
theorem cb{g:TG}(Pv:Nat->St->Hp->Prop)(h0:Pv 0 σ H)(hs:∀ i σ H,i<n->Pv i σ H->g (.int (lo+i)) σ H fun σ2 H2=>tb { D with nx:=Pv (i+1),ct:=Pv (i+1),bk:=D.nx } σ2 H2)(hd:∀ σ H,Pv n σ H->D.nx σ H):
  ∃ W:Nat->Nat->St->Hp->Prop,#[181]/\∀ i m σ H,W i m σ H ->
   ((Itr lo n).stop i H/\D.nx σ H)\/((Itr lo n).go i H/\∃ N:St->Hp->Prop,#[17]/\∀ x H',(Itr lo n).yld i H x H'->g x σ H' fun σ2 H2=>tb { D with nx:=N,ct:=N,bk:=D.nx } σ2 H2):=by
 refine⟨fun i m σ H=>m=n-i/\i<=n/\Pv i σ H,⟨n,by simp,jd _,h0⟩,?_⟩
 exists 50
 by_cases dy:i<n
 ·refine .inr ⟨dy,Pv (i+1),fun σ' H' p'=>⟨n-(i+1),by omega,rfl,dy,p'⟩,fun x H' y=>?_⟩
  obtain⟨e,y⟩:=y
  subst e y
  exact hs i σ _ dy p
 ·have e:i=n:=by omega
  subst e
  exact .inl ⟨jF _,hd σ H p⟩
abbrev R2:=V->V->Hp->VK->Prop
def DB(X:Cx)(f:Value->Value->qK Value)(r:R2):Prop:=
 ∀ (pins:List #[68]) (s:qM) (σ:St) (H:Hp) (x y:V) (v u:Value) (Q:VK),Inv X pins σ H s->RelV x v->RelV y u->r x y H Q ->
  wpAny #[4] X.A (f v u) #[77] X.xe s
def iz(X:Cx)(f:Value)(r:List V->Hp->VK->Prop):Prop:=
 ∀ (pins:List #[68]) (s:qM) (σ:St) (H:Hp) (xs:List V) (us:List Value) (Q:VK),Inv X pins σ H s->Vals xs us->r xs H Q ->
  wpAny #[4] X.A (call f us) #[77] X.xe s
def ak9(X:Cx)(r:V->Hp->(Bool->Hp->Prop)->Prop):Prop:=
 ∀ (pins:List #[68]) (s:qM) (σ:St) (H:Hp) (x:V) (v:Value) (Q:Bool->Hp->Prop),Inv X pins σ H s->RelV x v->r x H Q ->
  wpAny #[4] X.A (truthy v) (TP X pins σ Q) X.xe s
def tOp(r:R2)(ta tb:TE):TE:=fun σ H Q=>ta σ H fun x H1=>tb σ H1 fun y H2=>r x y H2 Q
inductive rI (C:Int->Int->Prop) (g:Int->Int->V) (x:V) (y:V) (H:Hp) (Q:VK):Prop
 | mk (i:_) (j:_) (_:x=.int i) (_:y=.int j) (_:C i j) (_:Q (g i j) H)
inductive rI0 (g:Int->Int->V) (x:V) (y:V) (H:Hp) (Q:VK):Prop
 | mk (i:_) (j:_) (_:x=.int i) (_:y=.int j) (_:Q (g i j) H)
section
variable{a b:Expr}{tb:TE}
theorem ae4(ha:PE X a ta)(hb:PE X b tb){R:V->V->Hp->Prop}(I:Inv X pins σ H s)(h:ta σ H fun x H1=>tb σ H1 fun y H2=>R x y H2){f:Value->Value->qK Value}(hf:∀ v u s2 x y H2,Inv X pins σ H2 s2->RelV x v->RelV y u->R x y H2->wpAny #[4] X.A (f v u) Q X.xe s2):
  wpAny #[4] X.A (eval a X.env) (fun v s₁=>wpAny #[4] X.A (eval b X.env) (fun u s₂=>wpAny #[4] X.A (f v u) Q X.xe s₂) X.xe s₁) X.xe s:=by
 refine bX #[114] fun v s1 ⟨x,H1,I1,r1,q1⟩=>?_
 refine bX (hb pins s1 σ H1 _ I1 q1) fun u s2 ⟨y,H2,I2,r2,q2⟩=>?_
 exact hf v u s2 x y H2 I2 r1 r2 q2
theorem aS{op:Operator}{r:R2}(ho:DB X (binaryOp op) r)(ha:PE X a ta)(hb:PE X b tb):PE X (.BinOp a op b pos) (tOp r ta tb):=by
 exists 5
 exact wpAny_BinOp (ae4 ha hb I h fun v u s2 x y H2 I2 rx ry q=>ho pins s2 σ H2 x y v u Q I2 rx ry q)
theorem opI{f:Value->Value->qK Value}{C:Int->Int->Prop}{g:Int->Int->Int}(rule:∀ (i j:Int) (t u:Tok) (s:qM) (Q:Value->qM->Prop) (E:Value->qM->Prop),C i j->Q (.int (g i j) s.toks) { s with toks:=s.toks+1 }->wpAny #[4] X.A (f (.int i t) (.int j u)) Q E s):
  DB X f (rI C fun i j=>.int (g i j)):=by
 exists 28
 obtain⟨i,j,rfl,rfl,hc,q⟩:=h
 exists 52
 obtain⟨t',rfl⟩:=ry
 exact rule i j t t' s _ _ hc ⟨.int (g i j),H,I.tok _,⟨_,rfl⟩,q⟩
theorem ajl{f:Value->Value->qK Value}{g:Int->Int->Int}(rule:∀ (i j:Int) (t u:Tok) (s:qM) (Q:Value->qM->Prop) (E:Value->qM->Prop),Q (.int (g i j) s.toks) { s with toks:=s.toks+1 }->wpAny #[4] X.A (f (.int i t) (.int j u)) Q E s):
  DB X f (rI0 fun i j=>.int (g i j)):=by
 exists 28
 obtain⟨i,j,rfl,rfl,q⟩:=h
 exists 52
 obtain⟨t',rfl⟩:=ry
 exact rule i j t t' s _ _ ⟨.int (g i j),H,I.tok _,⟨_,rfl⟩,q⟩
theorem adh{f:Value->Value->qK Value}{g:Int->Int->Bool}(rule:∀ (i j:Int) (t u:Tok) (s:qM) (Q:Value->qM->Prop) (E:Value->qM->Prop),Q (.bool (g i j)) s->wpAny #[4] X.A (f (.int i t) (.int j u)) Q E s):
  DB X f (rI0 fun i j=>.bl (g i j)):=by
 exists 28
 obtain⟨i,j,rfl,rfl,q⟩:=h
 exists 52
 obtain⟨t',rfl⟩:=ry
 exact rule i j t t' s _ _ ⟨.bl (g i j),H,I,rfl,q⟩
def ak1(i j:Int):Prop:=0<j/\j<1073741824
def ak2(i j:Int):Prop:=0<=j/\j<=1000000/\i.natAbs<2^64
def aeL(i j:Int):Prop:=(-(2^64)<i/\i<2^64)\/(-(2^64)<j/\j<2^64)
theorem aeL.ok{i j:Int}(h:aeL i j):IntMulOk i j:=by
 rcases h with⟨h1,h2⟩|⟨h1,h2⟩
 ·exact .of_left (intBits_le_64 h1 h2)
 ·exact .of_right (intBits_le_64 h1 h2)
theorem dP:DB X (binaryOp .Add) (rI0 fun i j=>.int (i+j)):=ajl fun _ _ _ _ _ _ _ q=>add_int q
theorem Il:DB X (binaryOp .Sub) (rI0 fun i j=>.int (i-j)):=ajl fun _ _ _ _ _ _ _ q=>sub_int q
theorem fb:DB X (binaryOp .Mult) (rI aeL fun i j=>.int (i*j)):=opI fun _ _ _ _ _ _ _ hc q=>mul_int q hc.ok
theorem BG:DB X (binaryOp .FloorDiv) (rI ak1 fun i j=>.int (i / j)):=opI fun i j _ _ _ _ _ hc q=>by
 have h1:(0:Int)<j:=hc.1
 have h2:j<1073741824:=hc.2
 exact floordiv_int #[0] (by rw[ZU i #[0]];exact q) (.inl (PyProof.noPylong_small #[0]))
theorem de:DB X (binaryOp .Mod) (rI (fun _ j=>0<j) fun i j=>.int (i%j)):=opI fun i j _ _ _ _ _ hc q=>by
 have h1:(0:Int)<j:=hc
 exact mod_int' #[0] (by rw[Int.fmod_eq_emod_of_nonneg i #[0]];exact q)
theorem aaU:DB X (binaryOp .Pow) (rI ak2 fun i j=>.int (i^j.toNat)):=opI fun _ _ _ _ _ _ _ hc q=>pow_int_small hc.1 hc.2.1 hc.2.2 q
end
def ajB:V->V->Bool
 | .non,.non=>true|.non,.int _=>true|.int _,.non=>true|.non,.bl _=>true|.bl _,.non=>true|.non,.str _=>true|.str _,.non=>true
 | .int _,.int _=>true|.bl _,.bl _=>true|.str _,.str _=>true|.Q5 _,.Q5 _=>true
 | .int _,.str _=>true|.str _,.int _=>true|.bl _,.str _=>true|.str _,.bl _=>true
 | _,_=>false
structure rEq(x:V)(y:V)(H:Hp)(Q:VK):Prop where
 h0:ajB x y=true
 h1:Q (.bl (decide (x=y))) H
structure rNe(x:V)(y:V)(H:Hp)(Q:VK):Prop where
 h0:ajB x y=true
 h1:Q (.bl (!decide (x=y))) H
theorem Q8{i j:Int}:decide (V.int i=V.int j)=(i==j):=by
 rw[ZC]
 simp
theorem W5{i j:Bool}:decide (V.bl i=V.bl j)=(i==j):=by
 rw[ZC]
 simp
theorem Q9{i j:qN}:decide (V.str i=V.str j)=(i==j):=by
 rw[ZC]
 simp
theorem Q7{i j:Array UInt8}:decide (V.Q5 i=V.Q5 j)=(i.toList==j.toList):=by
 rw[ZC]
 cases i
 cases j
 simp
section
variable{a b:Expr}{tb:TE}
theorem cj{Q:VK}{k k':Bool}(I:Inv X pins σ H s)(q:Q (.bl k) H)(e:k=k'):EP X pins σ Q (.bool k') s:=by
 subst e
 exact⟨.bl k,H,I,rfl,q⟩
theorem lJ:DB X (qj .Eq) rEq:=by
 exists 28
 obtain⟨hs,q⟩:=h
 cases x with
 | non =>
  cases rx
  cases y with
  | non=>cases ry;exact xn #[52]
  | bl j=>cases ry;exact xo #[52]
  | int j=>obtain⟨t',rfl⟩:=ry;exact GC #[52]
  | str j=>obtain⟨t',rfl⟩:=ry;exact GD #[52]
  | _=>exact absurd (show false=true from hs) jo
 | bl i =>
  cases rx
  cases y with
  | non=>cases ry;exact xp #[52]
  | bl j=>cases ry;exact eq_bool (cj I q W5)
  | str j=>obtain⟨t',rfl⟩:=ry;exact xq #[52]
  | _=>exact absurd (show false=true from hs) jo
 | int i =>
  exists 52
  cases y with
  | non=>cases ry;exact GF #[52]
  | int j=>obtain⟨t',rfl⟩:=ry;exact eq_int (cj I q Q8)
  | str j=>obtain⟨t',rfl⟩:=ry;exact GG #[52]
  | _=>exact absurd (show false=true from hs) jo
 | str i =>
  exists 52
  cases y with
  | non=>cases ry;exact GH #[52]
  | bl j=>cases ry;exact xr #[52]
  | int j=>obtain⟨t',rfl⟩:=ry;exact GI #[52]
  | str j=>obtain⟨t',rfl⟩:=ry;exact eq_str (cj I q Q9)
  | _=>exact absurd (show false=true from hs) jo
 | Q5 i =>
  exists 52
  cases y with
  | Q5 j=>obtain⟨t',rfl⟩:=ry;exact PySem.W.eq_bytes (cj I q Q7)
  | _=>exact absurd (show false=true from hs) jo
 | _=>cases y<;>exact absurd (show false=true from hs) jo
theorem Ep:DB X (qj .NotEq) rNe:=by
 exists 28
 obtain⟨hs,q⟩:=h
 cases x with
 | non =>
  cases rx
  cases y with
  | non=>cases ry;exact xt #[52]
  | bl j=>cases ry;exact xu #[52]
  | int j=>obtain⟨t',rfl⟩:=ry;exact GJ #[52]
  | str j=>obtain⟨t',rfl⟩:=ry;exact GK #[52]
  | _=>exact absurd (show false=true from hs) jo
 | bl i =>
  cases rx
  cases y with
  | non=>cases ry;exact xw #[52]
  | bl j=>cases ry;exact ne_bool (cj I q (congrArg not W5))
  | str j=>obtain⟨t',rfl⟩:=ry;exact xx #[52]
  | _=>exact absurd (show false=true from hs) jo
 | int i =>
  exists 52
  cases y with
  | non=>cases ry;exact GL #[52]
  | int j=>obtain⟨t',rfl⟩:=ry;exact ne_int (cj I q (congrArg not Q8))
  | str j=>obtain⟨t',rfl⟩:=ry;exact GN #[52]
  | _=>exact absurd (show false=true from hs) jo
 | str i =>
  exists 52
  cases y with
  | non=>cases ry;exact GO #[52]
  | bl j=>cases ry;exact xy #[52]
  | int j=>obtain⟨t',rfl⟩:=ry;exact GP #[52]
  | str j=>obtain⟨t',rfl⟩:=ry;exact ne_str (cj I q (congrArg not Q9))
  | _=>exact absurd (show false=true from hs) jo
 | Q5 i =>
  exists 52
  cases y with
  | Q5 j=>obtain⟨t',rfl⟩:=ry;exact PySem.W.ne_bytes (cj I q (congrArg not Q7))
  | _=>exact absurd (show false=true from hs) jo
 | _=>cases y<;>exact absurd (show false=true from hs) jo
theorem Mr:DB X (qj .Lt) (rI0 fun i j=>.bl (decide (i<j))):=adh fun _ _ _ _ _ _ _ q=>lt_int q
theorem ajm:DB X (qj .LtE) (rI0 fun i j=>.bl (decide (i<=j))):=adh fun _ _ _ _ _ _ _ q=>le_int q
theorem Mq:DB X (qj .Gt) (rI0 fun i j=>.bl (decide (j<i))):=adh fun _ _ _ _ _ _ _ q=>gt_int q
theorem aaS:DB X (qj .GtE) (rI0 fun i j=>.bl (decide (j<=i))):=adh fun _ _ _ _ _ _ _ q=>ge_int q
structure aaT(x:V)(y:V)(H:Hp)(Q:VK):Prop where
 h0:y=.non
 h1:Q (.bl (decide (x=.non))) H
theorem agc:DB X (qj .Is) (aaT):=by
 exists 28
 obtain⟨rfl,q⟩:=h
 cases ry
 refine is_none_gen (cj I q ?_)
 cases x<;>first
  | (cases rx;rfl)
  | (obtain⟨t,rfl⟩:=rx;rfl)
theorem bz(b:Expr){op:Qt}(h:op≠.In:=by decide)(h2:op≠.NotIn:=by decide):qR op b=false:=by
 have e1:(op==CmpOp.In)=false:=by cases op<;>first|rfl|exact absurd rfl h
 have e2:(op==CmpOp.NotIn)=false:=by cases op<;>first|rfl|exact absurd rfl h2
 cases b<;>simp[qR,e1,e2]
theorem hJ{op:Qt}{r:R2}(ho:DB X (qj op) r)(ha:PE X a ta)(hb:PE X b tb)(hm:qR op b=false):PE X #[237] (tOp r ta tb):=by
 exists 5
 exact wpAny_Compare1 (ae4 ha hb I h fun v u s2 x y H2 I2 rx ry q=>ho pins s2 σ H2 x y v u Q I2 rx ry q) hm
inductive adW (Q:Bool->Hp->Prop) (x:V) (H':Hp):Prop
 | mk (k:_) (_:x=.bl k) (_:Q k H')
def ajX(t:TE):TT:=fun σ H Q=>t σ H (adW Q)
theorem bK{op:Qt}{r:R2}(ho:DB X (qj op) r)(ha:PE X a ta)(hb:PE X b tb)(hm:qR op b=false):PT X #[237] (ajX (tOp r ta tb)):=by
 exists 5
 refine Wu (bX #[114] fun v s1 ⟨x,H1,I1,r1,q1⟩=>bX (hb pins s1 σ H1 _ I1 q1) fun u s2 ⟨y,H2,I2,r2,q2⟩ =>
  bX (ho pins s2 σ H2 x y v u _ I2 r1 r2 q2) fun c s3 ⟨z,H3,I3,r3,k,e,q3⟩=>?_) hm
 subst e
 cases r3
 exact Yb ⟨H3,I3,q3⟩
def ahG(K:Yh)(x:V)(H:Hp)(k:Bool):Prop:=
 match x with
 | .non=>k=false
 | .bl b=>k=b
 | .int i=>k=(i != 0)
 | .str y=>y.length<=sizeLine/\k=((y.length:Int) != 0)
 | .Q5 y=>y.size<=sizeLine/\k=((y.size:Int) != 0)
 | .ref p=>(∃ xs,pk K H p xs/\k=!xs.isEmpty)\/(∃ xs,wO K H p xs/\k=!xs.isEmpty)\/∃ kvs,H p=some #[74]/\k=!kvs.isEmpty
 | _=>False
theorem OQ{kvs:List (κ×V)}{vs:List (κ×Value)}(r:KV kvs vs):(!vs.isEmpty)=!kvs.isEmpty:=by
 cases r<;>rfl
theorem Ec(r:Vals xs aX):(!aX.toArray.isEmpty)=!xs.isEmpty:=by
 cases r<;>simp
theorem Ej:(sizeLine:Nat)<2^63:=by rw[WG];decide
theorem agN:ak9 X (fun x H Q=>∃ k,ahG X.K x H k/\Q k H):=by
 intro pins s σ H x v Q I rx h
 obtain⟨k,e,q⟩:=h
 have hl:=Ej
 have hs:sizeLine=16777216:=WG
 cases x with
 | non =>
  cases rx
  have e':k=false:=e
  subst e'
  exact truthy_none ⟨H,I,q⟩
 | bl b =>
  cases rx
  have e':k=b:=e
  subst e'
  exact Yb ⟨H,I,q⟩
 | int i =>
  exists 52
  have e':k=(i != 0):=e
  subst e'
  exact PySem.P.truthy_int ⟨H,I,q⟩
 | str y =>
  exists 52
  obtain⟨hy,e'⟩:y.length<=sizeLine/\k=((y.length:Int) != 0):=e
  subst e'
  exact PySem.P.truthy_str #[0] ⟨H,I.tok _,q⟩
 | Q5 y =>
  exists 52
  obtain⟨hy,e'⟩:y.size<=sizeLine/\k=((y.size:Int) != 0):=e
  subst e'
  exact PySem.W.truthy_bytes #[0] ⟨H,I.tok _,q⟩
 | ref p =>
  cases rx
  have e':(∃ xs,pk X.K H p xs/\k=!xs.isEmpty)\/(∃ xs,wO X.K H p xs/\k=!xs.isEmpty)\/∃ kvs,H p=some #[74]/\k=!kvs.isEmpty:=e
  rcases e' with⟨xs,hx,e'⟩|⟨xs,hx,e'⟩|⟨kvs,hx,e'⟩
  ·subst e'
   obtain⟨aX,r,pl,hz⟩:=I.list hx
   have hlen:=r.length
   exact wpAny_truthy_list pl.isList (by simp only[jS];omega) ⟨H,I.tok _,by rw[Ec r];exact q⟩
  ·subst e'
   obtain⟨aX,r,pl,hz⟩:=I.tuple hx
   have hlen:=r.length
   exact truthy_tuple pl (by simp only[jS];omega) ⟨H,I.tok _,by rw[Ec r];exact q⟩
  ·subst e'
   obtain⟨hz,hS,vs,r,m⟩:kvs.length<=sizeLine/\(p==WK)=false/\∃ vs,KV kvs vs/\s.heap.DictOf #[184] p vs:=I.hok p _ hx
   have hlen:kvs.length=vs.length:=Paired.length r
   exact wpAny_truthy_dict hS m #[0] ⟨H,I.tok _,by rw[OQ r];exact q⟩
 | _=>exact(show False from e).elim
theorem wx(ha:PE X a ta)(he:∀ whole,isTrue a X.env whole=(do let v <- whole;standAt a.pos;holding [v] (truthy v))):
  PT X a (fun σ H Q=>ta σ H fun x H'=>∃ k,ahG X.K x H' k/\Q k H'):=by
 exists 5
 exact isTrue_plain (bX #[114] fun v s1 ⟨x,H1,I1,r1,q1⟩=>agN pins s1 σ H1 x v Q I1 r1 q1) (he _)
theorem vals1{x:V}(r:Vals [x] us):∃ u,us=[u]/\RelV x u:=by
 cases r with
 | cons r1 r2=>cases r2;exact⟨_,rfl,r1⟩
theorem vals2{x:V}(r:Vals [x,y] us):∃ u w',us=[u,w']/\RelV x u/\RelV y w' := by
 cases r with
 | cons r1 r2 =>
  cases r2 with
  | cons r3 r4=>cases r4;exact⟨_,_,rfl,r1,r3⟩
inductive Lk (xs:List V) (H:Hp) (Q:VK):Prop
 | mk (i:_) (j:_) (_:xs=[.int i,.int j]) (_:Q (.int (if j<i then j else i)) H)
theorem Sm(hc:X.calm=true):iz X (.builtin "min") (Lk):=by
 exists 8
 obtain⟨i,j,rfl,q⟩:=h
 obtain⟨u,w',rfl,⟨t,rfl⟩,⟨t',rfl⟩⟩:=vals2 r
 refine min_two_ints #[120] fun h' tk k=>⟨_,H,I.kept k,?_,q⟩
 by_cases hj:j<i
 ·rw[if_pos hj,if_pos hj];exact⟨_,rfl⟩
 ·rw[if_neg hj,if_neg hj];exact⟨_,rfl⟩
theorem Sk:iz X (.type "int") (fun xs H Q=>(∃ i,xs=[.int i]/\Q (.int i) H)\/∃ k,xs=[.bl k]/\Q (.int (if k then 1 else 0)) H):=by
 exists 8
 rcases h with⟨i,rfl,q⟩|⟨k,rfl,q⟩
 ·obtain⟨u,rfl,t,rfl⟩:=vals1 r
  exact call_int_int ⟨.int i,H,I,⟨_,rfl⟩,q⟩
 ·obtain⟨u,rfl,r1⟩:=vals1 r
  cases r1
  exact call_int_bool ⟨.int (if k then 1 else 0),H,I.tok _,⟨_,rfl⟩,q⟩
end
variable{r:R2}
structure Oi(h:Heap)(x dx C:Qo)(mA:qN->Option Value):Prop where
 obj:h.get? x=some (yG C dx)
 ns:h.Ns1 dx mA
 ne:dx≠x
theorem Hd(n:h.Ns1 dx mA):∃ od,h.get? dx=some od/\∀ name,yu name od=some (mA name):=by
 obtain⟨o,es,ep,ho,hd,hk,_,hm⟩:=n
 refine⟨o,ho,fun name=>?_⟩
 have e:=hm name
 unfold nsFind findBy at e
 rw[<- Zw]at e
 unfold yu
 rw[hd]
 dsimp only
 split
 ·rename_i y q
  rw[q]at e
  exact congrArg some e
 ·rename_i q
  rw[q]at e
  have a:es.toList.any (·.refKey)=false:=by
   rw[List.any_eq_false]
   intro y hy
   obtain⟨z,t,Z2⟩:=hk y (Array.mem_toList_iff.mp hy)
   simp[DictEntry.refKey,Z2]
  have a':¬ es.toList.any (·.refKey)=true:=by rw[a];exact jo
  rw[if_neg a']
  exact congrArg some e
theorem Oi.look{x:Qo}(I:Oi h x dx C mA):∃ od,PySem.W.InstAt h x (yG C dx) C (some od)/\∀ name,yu name od=some (mA name):=
 let ⟨od,ho,hl⟩:=Hd I.ns
 ⟨od,⟨I.obj,rfl,rfl,ho⟩,hl⟩
section
variable{x f:Qo}{v:Value}
theorem get_map(X:K.In s.heap)(I:Oi s.heap x dx C mA)(hg:yi K C name=true)(hh:yU K C=true)(ha:Ym K #[31] name=some none)(hv:mA name=some v)(hv':xI v=true)(h:Q v { s with toks:=s.toks+1 }):
  wpAny #[7] A (getAttr #[180] name expr) Q E s:=by
 obtain⟨od,J,hl⟩:=I.look
 exact PySem.W.get_value X J (yt hg).1 (PySem.W.findObj_own hh ha rfl (by rw[hl,hv])) hv' h
theorem X8{pl:qK Bool}{Q:Value×List Value->qM->Prop}(X:K.In s.heap)(I:Oi s.heap x dx C mA)(hg:yi K C name=true)(hf:Ym K #[31] name=some #[247])(ht:yW K #[94]=true)(hv:mA name=none)(h:Q (.ref f,[.ref x]) s):
  wpAny #[7] A (getMethod #[180] name pl) Q E s:=by
 obtain⟨od,J,hl⟩:=I.look
 exact PySem.W.method_fn X J (yt hg).1 (yt hg).2 hf (beq_iff_eq.mp ht) (by show(yu name od).map (·.isSome)=some false;rw[hl,hv];rfl) h
theorem adE{Q:Unit->qM->Prop}(X:K.In s.heap)(I:Oi s.heap x dx C mA)(hs:Ym K #[31] "__setattr__" = some #[96])(hp:Xy K C=true)(ht:XY K C name=some none)(hh:yU K C=true)(hw:Xq mA ns)(hsz:ns.length<=sizeLine)(h:∀ h',Oi h' x dx C (fun y=>if y=name then some v else mA y)->Yv dx s.heap h'->Q () { s with heap:=h',toks:=s.toks+2 }):
  wpAny #[7] A (setAttr #[180] name v) Q E s:=by
 obtain⟨od,J,hl⟩:=I.look
 refine PySem.W.set_plain X J hs (PySem.W.osa_open (s:={ s with toks:=s.toks+1 }) (r:=none) X J hp ht fun b=>?_)
 obtain⟨cd,hc,hd'⟩:=PySem.W.any_some hh
 have hx:s.heap.get? x=some ⟨.ref C,some dx,.plain,#[]⟩:=I.obj
 refine WY (YJ (WY (WY (Wy hx (WY (Xs (s:={ s with toks:=s.toks+1 }) (PySem.W.looks_clsIn X hc) ?_))))))
 rw[hd']
 refine YJ (a:=some dx) (WY (YJ (WY ?_)))
 refine wpAny_nsSet1 (s:={ s with toks:=s.toks+1 }) I.ns fun h' hn2 hs2=>?_
 obtain⟨oD,esD,epD,hoD,hdD,hcD⟩:=hn2.count (Gh name v hw)
 refine WY (YA hoD (by rw[hdD];exact WB (jk hcD (by rw[jc];omega))) ?_)
 exact YJ (h _ ⟨(hs2.2 _ (Ne.symm I.ne)).trans I.obj,hn2,I.ne⟩ hs2)
theorem aat{vs:List Value}{kw:List #[205]}(X:K.In s.heap)(hm:XZ K C=true)(hi:Ym K #[31] "__init__" = some #[247])(hf:yR K #[94]=some (.type "function"))(h:codeAny #[7] (A.under (.builtin "type.__call__" ⟨.ref C :: vs,kw⟩)) (.call #[94] ⟨.ref #[22] :: vs,kw⟩) (PySem.W.InitBack #[22] R)
   { s with heap:=#[264].push #[256] }):
  codeAny #[7] A (.call #[31] ⟨vs,kw⟩) R s:=by
 obtain⟨hh,g,d,t,os⟩:=s
 exact PySem.W.make_core (PySem.W.makes_of X hm) (PySem.W.looks_findIn X hi) (fun self=>PySem.W.bind_fn X self hf) #[95] h
end
def mC(f:qN)(v:V):List (qN×V)->List (qN×V)
 | []=>[(f,v)]
 | (g,x) :: r=>if g=f then(g,v) :: r else(g,x) :: mC f v r
theorem CK(f g:qN)(v:V):∀ fs:List (qN×V),(mC f v fs).lookup g=if g=f then some v else fs.lookup g
 | []=>by
  show Jg g [(f,v)]=_
  by_cases h:g=f
  ·have hb:(g==f)=true:=beq_iff_eq.mpr h
   simp only[Jg,hb,if_pos h]
  ·have hb:(g==f)=false:=beq_eq_false_iff_ne.mpr h
   simp only[Jg,hb,if_neg h]
 | (k,x) :: r=>by
  have ih:=CK f g v r
  exists 23
  by_cases hk:k=f
  ·rw[if_pos hk]
   by_cases h:g=k
   ·have hb:(g==k)=true:=beq_iff_eq.mpr h
    simp only[Jg,hb,if_pos (h.trans hk)]
   ·have hb:(g==k)=false:=beq_eq_false_iff_ne.mpr h
    simp only[Jg,hb,if_neg (fun e:g=f=>h (e.trans hk.symm))]
  ·rw[if_neg hk]
   by_cases h:g=k
   ·have hb:(g==k)=true:=beq_iff_eq.mpr h
    simp only[Jg,hb,if_neg (fun e:g=f=>hk (h.symm.trans e))]
   ·have hb:(g==k)=false:=beq_eq_false_iff_ne.mpr h
    simp only[Jg,hb]
    exact ih
theorem Cg(f:qN)(v:V):∀ fs:List (qN×V),f∈(mC f v fs).map (·.1)/\∀ g,g∈fs.map (·.1)->g∈(mC f v fs).map (·.1)
 | []=>⟨by simp[mC],fun g h=>by simp at h⟩
 | (k,x) :: r=>by
  obtain⟨i1,i2⟩:=Cg f v r
  exists 23
  by_cases hk:k=f
  ·rw[if_pos hk]
   subst hk
   exact⟨by simp,fun g h=>by simpa using h⟩
  ·rw[if_neg hk]
   refine⟨?_,fun g h=>?_⟩
   ·rw[JN]
    exact jJ _ i1
   ·rw[JN]at h ⊢
    rcases jU.mp h with e|e
    ·exact jU.mpr (.inl e)
    ·exact jJ _ (i2 g e)
theorem CJ(f:qN)(v:V):∀ fs:List (qN×V),(mC f v fs).length<=fs.length+1
 | []=>by simp[mC]
 | (k,x) :: r=>by
  have ih:=CJ f v r
  exists 23
  by_cases hk:k=f
  ·rw[if_pos hk,jc,jc];omega
  ·rw[if_neg hk,jc,jc];omega
theorem pW.some_of{o:Option Value}(r:pW (some v) o):∃ u,o=some u/\RelV v u:=by
 cases o with
 | none=>exact(show False from r).elim
 | some u=>exact⟨u,rfl,r⟩
theorem pW.none_of{o:Option Value}(r:pW none o):o=none:=by
 cases o with
 | none=>rfl
 | some u=>exact(show False from r).elim
theorem F7(r:RelV v u):xI u=true:=by
 cases v with
 | non=>cases(show u=Yn from r);rfl
 | bl b=>cases(show u=yc b from r);rfl
 | int i=>obtain⟨t,e⟩:=(show ∃ t,u=Yt i t from r);cases e;rfl
 | str x=>obtain⟨t,e⟩:=(show ∃ t,u=yj x t from r);cases e;rfl
 | Q5 b=>obtain⟨t,e⟩:=(show ∃ t,u=GX b t from r);cases e;rfl
 | flt b=>obtain⟨t,e⟩:=(show ∃ t,u=xH b t from r);cases e;rfl
 | ref a=>cases(show u=Yi a from r);rfl
 | ty n=>cases(show u=yA n from r);rfl
section
variable{fs:List (qN×V)}
theorem Dn(hok:lM P w H h)(e:H a=some #[186]):∃ mA,Oi h a dx C mA/\(∀ f,pW (fs.lookup f) (mA f))/\Xq mA (fs.map (·.1))/\fs.length<=1000/\H dx=some (.own a):=by
 obtain⟨d,z,ne,ob,mA,n,r,q⟩:=(show bF P w H h a #[186]from hok a _ e)
 exact⟨mA,⟨ob,n,ne⟩,r,q,z,d⟩
end
structure IV(K:Yh)(C:Qo):Prop where
 pg:yi K C Str.empty=true
 hd:yU K C=true
 po:Xy K C=true
 sa:Ym K #[31] "__setattr__" = some #[96]
theorem IV.get(c:IV K C)(f:qN):yi K C f=true:=c.pg
def iU(K:Yh)(C:Qo)(f:qN):Prop:=Ym K #[31] f=some none
theorem iU.aj1(n:iU K C f):XY K C f=some none:=by
 unfold XY
 rw[show Ym K #[31] f=some none from n]
 rfl
structure Meth(K:Yh)(C:Qo)(m:qN)(f:Qo):Prop where
 at_:Ym K #[31] m=some #[247]
 fn:yW K #[94]=true
 kp:Yp K #[94]=true
section
variable{fs:List (qN×V)}
theorem OJ{b:Bool}(I:Inv X pins σ H s)(e:H a=some #[186])(c:IV X.K C)(n:iU X.K C f)(l:fs.lookup f=some v)(h:∀ u s',Inv X pins σ H s'->RelV v u->Q u s'):wpAny #[4] A (getAttr #[203] f b) Q E s:=by
 obtain⟨mA,O,r,_,_,_⟩:=Dn I.hok e
 obtain⟨u,hu,ru⟩:=pW.some_of (v:=v) (o:=mA f) (by rw[<- l];exact r f)
 exact get_map I.sJ O (c.get f) c.hd n hu (F7 ru) (h u _ (I.tok _) ru)
theorem D7{g:Qo}{pl:qK Bool}{Q:Value×List Value->qM->Prop}(I:Inv X pins σ H s)(e:H a=some #[186])(c:IV X.K C)(k:Meth X.K C m g)(l:fs.lookup m=none)(h:Q (.ref g,[.ref a]) s):wpAny #[4] A (getMethod #[203] m pl) Q E s:=by
 obtain⟨mA,O,r,_,_,_⟩:=Dn I.hok e
 have hn:mA m=none:=pW.none_of (by rw[<- l];exact r m)
 exact X8 I.sJ O (c.get m) k.at_ k.fn hn h
theorem Pt{Q:Unit->qM->Prop}(I:Inv X pins σ H s)(e:H a=some #[186])(c:IV X.K C)(n:iU X.K C f)(hl:fs.length<1000)(ry:RelV y u)(h:∀ s',Inv X pins σ (upd H a (.ins C dx (mC f y fs))) s'->Q () s'):wpAny #[4] A (setAttr #[203] f u) Q E s:=by
 obtain⟨mA,O,r,wi,_,ho⟩:=Dn I.hok e
 have hz:(fs.map (·.1)).length<=sizeLine:=by rw[jW,WG];omega
 refine adE I.sJ O c.sa c.po n.aj1 c.hd wi hz fun h' O' sb=>h _ ?_
 have hd:∃ o,h'.get? dx=some o:=let ⟨o,_,_,e',_⟩:=O'.ns;⟨o,e'⟩
 refine I.write (x:=a) (e:=dx) #[98] (.inr ho) (fun b q hb z=>(sb.2 b hb).trans z) hd ?_
 refine⟨by rw[ag O.ne];exact ho,?_,O.ne,O'.obj,_,O'.ns,fun g=>?_,fun g hg=>?_⟩
 ·have:=CJ f y fs;omega
 ·show pW ((mC f y fs).lookup g) (if g=f then some u else mA g)
  rw[CK]
  by_cases q:g=f
  ·rw[if_pos q,if_pos q];exact ry
  ·rw[if_neg q,if_neg q];exact r g
 ·by_cases q:g=f
  ·rw[q];exact(Cg f y fs).1
  ·refine(Cg f y fs).2 g (wi g fun z=>hg ?_)
   show(if g=f then some u else mA g)=none
   rw[if_neg q];exact z
theorem Inv.made(I:Inv X pins σ H s):Inv X pins σ (upd (upd H s.heap.objs.size (.own #[22])) #[22] (.ins C s.heap.objs.size []))
  { s with heap:=#[264].push #[256] }:=by
 have e1:#[264].get? s.heap.objs.size=some Yy:=jK s.heap rfl
 have e2:(#[264].push #[256]).get? #[22]=some #[256]:=by
  have:=jK #[264] (o:=yG C s.heap.objs.size) rfl
  rwa[JA]at this
 have e3:#[264].Ns s.heap.objs.size (fun _=>none):=⟨Yy,#[],_,e1,rfl,(fun e he=>absurd he #[10]),fun _=>rfl⟩
 have I1:=I.laid (a:=s.heap.objs.size) (o:=.own #[22]) (h' := s.heap.push Yy) (t' := s.toks) (fun b u q=>jA _ q) (jF _) ⟨_,e1⟩
 refine I1.laid (a:=s.heap.objs.size+1) (o:=.ins C s.heap.objs.size []) (t' := s.toks) (fun b u q=>jA _ q) (Zx (JA _ _)) ?_
 have ne:s.heap.objs.size≠s.heap.objs.size+1:=jQ (JU _)
 refine⟨by rw[ag ne,ae],jd _,ne,e2,fun _=>none,(Xz e3).at fun o q=>jA _ q,fun _=>True.intro,fun y hy=>absurd rfl hy⟩
theorem Q2(hb:attributeBase e f env (eval e env)=eval e env)(h:wpAny #[7] A (eval e env) (fun o s₁=>wpAny #[7] A (getAttr o f true) Q E s₁) E s):wpAny #[7] A (eval (.Attribute e f pos) env) Q E s:=
 Attribute_any_ h (by rw[arm_eval_Attribute,hb])
end
inductive agH (K:Yh) (f:qN) (Q:VK) (x:V) (H1:Hp):Prop
 | mk (a:_) (C:_) (dx:_) (fs:_) (v:_) (_:x=.ref a) (_:H1 a=some #[186]) (_:IV K C) (_:iU K C f) (_:fs.lookup f=some v) (_:Q v H1)
def ajM(K:Yh)(ta:TE)(f:qN):TE:=fun σ H Q=>ta σ H (agH K f Q)
def anQ(K:Yh)(ta tv:TE)(f:qN):TS:=fun D σ H=>tv σ H fun y H1=>ta σ H1 fun x H2=>∃ a C dx fs,x=.ref a/\H2 a=some #[186]/\IV K C/\iU K C f/\fs.length<1000 /\
 D.nx σ (upd H2 a (.ins C dx (mC f y fs)))
section
variable{o value:Expr}{tv:TE}
theorem dz(he:PE X e ta)(hb:attributeBase e f X.env #[278]=eval e X.env):PE X (.Attribute e f pos) (ajM X.K ta f):=by
 exists 5
 refine Q2 hb (bX #[80] fun u s1 ⟨x,H1,I1,rx,a,C,dx,fs,v,ex,ea,c,n,l,q⟩=>?_)
 subst ex
 exists 57
 exact OJ I1 ea c n l fun u' s2 I2 ru=>⟨v,H1,I2,ru,q⟩
theorem wu(ha:PE X o ta)(hv:PE X value tv)(hs:WJ value (some (.Attribute o f pos')) pos.line X.env=pure false):PS X (.Assign [.Attribute o f pos'] value pos) (anQ X.K ta tv f):=by
 exists 21
 refine WD (bX #[275] fun u s1 ⟨y,H1,I1,ry,q⟩=>bX (ha pins s1 σ H1 _ I1 q) fun ov s2 ⟨x,H2,I2,rx,a,C,dx,fs,ex,ea,c,n,l,q2⟩=>?_) hs
 subst ex
 obtain rfl:ov=Yi a:=rx
 exact Pt I2 ea c n l ry fun s3 I3=>⟨σ,_,I3,q2⟩
end
section
variable{c:Value}{b:Bool}
inductive pX (K:Yh) (H:Hp):V->Value->Prop where
 | non:pX K H .non (.type "NoneType")
 | bl (x:Bool):pX K H (.bl x) (.type "bool")
 | int (i:Int):pX K H (.int i) (.type "int")
 | str (x:qN):pX K H (.str x) (.type "str")
 | flt (x:UInt64):pX K H (.flt x) (.type "float")
 | lst {a:Qo} {xs:List V} (e:H a=some #[236]):pX K H #[203] #[282]
 | se {a:Qo} {o:Obj} {xs:List V} (e:H a=some (.se o #[236])):pX K H #[203] #[282]
 | tup {a:Qo} {xs:List V} (e:H a=some #[36]):pX K H #[203] (.type "tuple")
 | dK {a:Qo} {kvs:List #[303]} (e:H a=some #[74]):pX K H #[203] #[281]
 | dT {a:Qo} {kvs:List #[84]} (e:H a=some #[204]):pX K H #[203] #[281]
 | ins {a C dx:Qo} {fs:List (qN×V)} (e:H a=some #[186]) (cl:IV K C) (ha:Ym K #[31] "__class__" = some (some #[32]))
   (hn:yV K #[32] "__get__" = some (some #[40])) (htk:xO K #[32]=some true)
   (hm:Yw K C #[89]=some true):pX K H #[203] #[31]
theorem SX{x:V}{t:Value}(I:Inv X pins σ H s)(rx:RelV x u)(ty:pX X.K H x t)(e:Ys X.K t c=some b)(h:∀ tk,Q (.bool b) { s with toks:=tk }):
  wpAny #[4] A (call #[261] [u,c]) Q E s:=by
 cases ty with
 | non=>cases(show u=Yn from rx);exact Yu PySem.W.kitx_none I.sJ True.intro e #[67] h
 | bl y=>cases(show u=yc y from rx);exact Yu PySem.W.kitx_bool I.sJ True.intro e #[67] h
 | int i=>obtain⟨t,q⟩:=(show ∃ t,u=Yt i t from rx);cases q;exact Yu PySem.W.kitx_int I.sJ True.intro e #[67] h
 | str y=>obtain⟨t,q⟩:=(show ∃ t,u=yj y t from rx);cases q;exact Yu PySem.W.kitx_str I.sJ True.intro e #[67] h
 | flt y=>obtain⟨t,q⟩:=(show ∃ t,u=xH y t from rx);cases q;exact Yu PySem.W.kitx_float I.sJ True.intro e #[67] h
 | @lst a xs ea =>
  exists 80
  obtain⟨_,_,n,_,h1⟩:=(show bF X.prog X.w H s.heap a #[236]from I.hok a _ ea)
  exact Yu xA I.sJ ⟨_,h1,rfl⟩ e #[67] h
 | @se a ob xs ea =>
  exists 80
  obtain⟨_,_,_,n,_,h1⟩:=(show bF X.prog X.w H s.heap a (.se ob #[236])from I.hok a _ ea)
  exact Yu xA I.sJ ⟨_,h1,rfl⟩ e #[67] h
 | @tup a xs ea =>
  exists 80
  obtain⟨_,_,_,p⟩:=(show bF X.prog X.w H s.heap a #[36]from I.hok a _ ea)
  obtain⟨o,h1,h2,_⟩:=p
  exact Yu PySem.W.kitx_tuple I.sJ ⟨o,h1,h2⟩ e #[67] h
 | @dK a kvs ea =>
  exists 80
  obtain⟨_,_,vs,_,p⟩:=(show bF X.prog X.w H s.heap a #[74]from I.hok a _ ea)
  obtain⟨o,es,ep,h1,h2,_⟩:=p
  exact Yu xB I.sJ ⟨o,h1,h2.1⟩ e #[67] h
 | @dT a kvs ea =>
  exists 80
  obtain⟨_,_,xs,_,o,es,ep,h1,h2,_⟩:=(show bF X.prog X.w H s.heap a #[204]from I.hok a _ ea)
  exact Yu xB I.sJ ⟨o,h1,h2.1⟩ e #[67] h
 | @ins a C dx fs ea cl ha hn htk hm =>
  exists 80
  obtain⟨mA,O,_⟩:=Dn I.hok ea
  obtain⟨od,J,_⟩:=O.look
  exact Yu (PySem.W.kitx_own (cl.get _) cl.hd ha hn htk hm) I.sJ J e #[67] h
end
structure dM(k:Nat)(A:Around):Prop where
 hd:A.handled=none
 dp:A.depth+3*k+5<recursionLimit
 un:A.units+16*k+200<cLine
theorem dM.mono{k:Nat}(r:dM k A)(h:j<=k):dM j A:=⟨r.hd,by have:=r.dp;omega,by have:=r.un;omega⟩
theorem dM.deeper{k:Nat}(r:dM (k+1) A)(env:Qx):dM k (A.deeper env):=
 ⟨r.hd,by have:=r.dp;show A.depth+1+3*k+5<_;omega,by have:=r.un;show A.units+3+16*k+200<_;omega⟩
theorem OW{kw:List #[205]}:#[72].depth=A.depth+1:=by
 first|rfl|simp[Around.under,Code.weight,Code.isCreation,Code.isGuard,Code.isCaller,Code.frames,Code.isFrame,guardIds]
theorem OX{kw:List #[205]}:#[72].units=A.units+1:=by
 first|rfl|simp[Around.under,Code.cUnits,Code.frames,Code.isFrame]
theorem dM.make{k:Nat}(r:dM (k+1) A)(C:Qo)(us:List Value)(kw:List #[205]):dM k #[72]:=
 ⟨r.hd,by have:=r.dp;rw[OW];omega,by have:=r.un;rw[OX];omega⟩
theorem dM.depth{k:Nat}(r:dM k A):A.depth<recursionLimit:=by have:=r.dp;omega
theorem dM.units{k:Nat}(r:dM k A):A.units+64<cLine:=by have:=r.un;omega
def adS:TA:=fun _ H Q=>Q [] H
def aeE(ta:TE)(tr:TA):TA:=fun σ H Q=>ta σ H fun x H1=>tr σ H1 fun xs H2=>Q (x :: xs) H2
section
variable{t:TA}
theorem af:PA X [] adS:=fun _ _ _ _ H Q I h=>yO ⟨[],H,I,.nil,h⟩
theorem aa(ha:PE X e te)(hr:PA X es t)(hs:WH (e :: es) X.env=#[20] :: WH es X.env:=by rfl):PA X (e :: es) (aeE te t):=by
 intro pos pins s σ H Q I h
 rw[hs]
 show wpAny _ _ (spliced (#[20] :: backTo pos (WH es X.env))) _ _ s
 refine Yz (bX #[114] fun u s1 ⟨x,H1,I1,r1,q1⟩=>?_)
 exact bX (hr pos pins s1 σ H1 _ I1 q1) fun us s2 ⟨xs,H2,I2,r2,q2⟩=>⟨x :: xs,H2,I2,.cons r1 r2,q2⟩
structure agJ(Q:VK)(xs:List V)(H1:Hp):Prop where
 h0:xs.length<=sizeLine
 h1:∀ p,H1 p=none->Q (.ref p) (upd H1 p #[36])
def ajZ(t:TA):TE:=fun σ H Q=>t σ H (agJ Q)
structure agI(Q:VK)(xs:List V)(H1:Hp):Prop where
 h0:xs.length<=sizeLine
 h1:∀ p,H1 p=none->Q (.ref p) (upd H1 p #[236])
def ajQ(t:TA):TE:=fun σ H Q=>t σ H (agI Q)
theorem cE{x1}(h:PA X es t):PE X (.Tuple es x1 pos) (ajZ t):=by
 intro pins s σ H Q I hq
 refine wpAny_Tuple_spliced (bX (h pos pins s σ H _ I hq) fun us s1 ⟨xs,H1,I1,r,z,q⟩=>⟨by rw[<- r.length];exact z,?_⟩)
 have hf:H1 s1.heap.objs.size=none:=I1.hok.fresh (jF _)
 refine⟨.ref s1.heap.objs.size,upd H1 s1.heap.objs.size #[36],I1.laid (t' := s1.toks) (fun b u e=>jA _ e) (jF _) ?_,rfl,q _ hf⟩
 exact⟨z,us,r,⟨_,jK _ rfl,rfl,_,rfl⟩⟩
theorem cX(h:PA X es t):PE X (.List es pos) (ajQ t):=by
 intro pins s σ H Q I hq
 refine wpAny_List_spliced (bX (h pos pins s σ H _ I hq) fun us s1 ⟨xs,H1,I1,r,z,q⟩=>⟨by rw[<- r.length];exact z,?_⟩)
 have hf:H1 s1.heap.objs.size=none:=I1.hok.fresh (jF _)
 refine⟨.ref s1.heap.objs.size,upd H1 s1.heap.objs.size #[236],I1.laid (t' := s1.toks) (fun b u e=>jA _ e) (jF _) ?_,rfl,q _ hf⟩
 exact⟨z,us,0,r,jK _ rfl⟩
end
abbrev Sp:=List V->Hp->VK->XK->Prop
abbrev J1:=List Qx->Hp->qM->XK->Value->qM->Prop
structure Fc(P:qJ)(w:World)(K:Yh)(mg:qN->Option Value)(base:Heap)(A:Around)(outer:List Qx)(s:qM)(H:Hp):Prop where
 frames:A.frames=some outer
 mod:Mod K mg base
 bs:∀ b o,base.get? b=some o->s.heap.get? b=some o/\H b=none
 bsz:base.objs.size<=s.heap.objs.size
 AH:s.heap.FunFrames base outer
 frf:∀ b∈C6 outer,H b=none
 hok:lM P w H s.heap
 bare:Qp s.gens
def CE(outer:List Qx)(P:qJ)(w:World)(H:Hp)(s:qM)(Q:VK)(u:Value)(s':qM):Prop:=
 ∃ v H',s'.os=s.os/\Qp s'.gens/\Un (C6 outer) [] H H' s.heap s'.heap/\lM P w H' s'.heap/\RelV v u/\Q v H'
def CR(CX:J1)(outer:List Qx)(P:qJ)(w:World)(H:Hp)(s:qM)(Q:VK)(E:XK)(r:Result)(s':qM):Prop:=
 match r with
 | .ok (.ret u)=>CE outer P w H s Q u s'
 | .ok _=>False
 | .error e=>CX outer H s E e s'
structure bw(P:qJ)(w:World)(K:Yh)(mg:qN->Option Value)(base:Heap)(CX:J1)(k:Nat)(f:Qo)(fd:Qz)(ps:List qN)(sp:Sp):Prop where
 len:∀ vs H Q E,sp vs H Q E->vs.length=ps.length
 run:∀ (A:Around) (outer:List Qx) (s:qM) (H:Hp) (args:Args) (us:List Value) (vs:List V) (Q:VK) (E:XK),dM k A->Fc P w K mg base A outer s H->Qr s fd args (ps.zip us)->Vals vs us->sp vs H Q E ->
  codeAny #[42] A (.call #[94] args) (CR CX outer P w H s Q E) s
theorem Fc.make(e:Fc P w K mg base A outer s H)(C:Qo)(us:List Value)(kw:List #[205]):
  Fc P w K mg base #[72] outer s H:=⟨by first|exact e.frames|(simpa[Around.under,Code.envs,Code.isFrame,pushEnvs]using e.frames),e.mod,e.bs,e.bsz,e.AH,e.frf,e.hok,e.bare⟩
section
theorem Inv.X0(I:Inv X pins σ H s):Fc X.prog X.w X.K X.mg X.base X.A X.stack s H:=
 ⟨I.ok.frames,I.ok.mod,I.bs,jk I.ok.bsz I.sz,I.stack,I.IH,I.hok,I.bare⟩
theorem Inv.after{Q:VK}(I:Inv X pins σ H s)(h:CE X.stack X.prog X.w H s Q u s'):EP X pins σ Q u s' := by
 obtain⟨v,H',os,bare,un,hok,r,q⟩:=h
 obtain⟨hh,g,d,t,os'⟩:=s'
 obtain rfl:os'=s.os:=os
 exact⟨v,H',I.call (h' := hh) (g' := g) (d' := d) (t' := t) (ch:=[]) un hok bare (fun b z=>absurd z #[10]),r,q⟩
end
def N6(sp:Sp)(iJ:List V)(E:XK)(t:TA):TE:=fun σ H Q=>t σ H fun vs H1=>sp (vs++iJ) H1 Q E
inductive adP (C:Qo) (m:qN) (sp:Sp) (iJ:List V) (E:XK) (t:TA) (σ:St) (Q:VK) (x:V) (H1:Hp):Prop
 | mk (a:_) (dx:_) (fs:_) (_:x=.ref a) (_:H1 a=some #[186]) (_:fs.lookup m=none) (_:t σ H1 fun vs H2=>sp (x :: (vs++iJ)) H2 Q E)
def R8(C:Qo)(m:qN)(sp:Sp)(iJ:List V)(E:XK)(ta:TE)(t:TA):TE:=fun σ H Q=>ta σ H (adP C m sp iJ E t σ Q)
def aeF(C:Qo)(sp:Sp)(iJ:List V)(E:XK)(t:TA):TE:=fun σ H Q=>t σ H fun vs H1=>∀ x dx,H1 x=none->H1 dx=none->dx≠x ->
 sp (.ref x :: (vs++iJ)) (upd (upd H1 dx (.own x)) x (.ins C dx [])) (fun v H2=>v=.non/\Q #[180] H2) E
def Binds(K:Yh)(fd:Qz)(ps:List qN)(ds:List Value):Prop:=
 ∀ (s:qM) (us:List Value),K.In s.heap->(us++ds).length=ps.length->Qr s fd ⟨us,[]⟩ (ps.zip (us++ds))
theorem Binds.all(h:∀ us:List Value,us.length=ps.length->bindArgs fd ⟨us,[]⟩=pure (ps.zip us)):Binds K fd ps []:=fun s us _ hl=>by
 rw[jx]at hl ⊢
 exact .of_eq (h us hl)
def Passes(CX:J1)(X:Cx)(E:XK):Prop := ∀ (pins:List #[68]) (σ:St) (H:Hp) (s:qM) (e:Value) (s':qM),Inv X pins σ H s->CX X.stack H s E e s'->X.xe e s'
section
variable{CX:J1}{k:Nat}{f:Qo}{sp:Sp}{E:XK}{o:Expr}{t:TA}
theorem Pp{Q:VK}(F:bw X.prog X.w X.K X.mg X.base CX k f fd ps sp)(hr:dM k X.A)(hb:Binds X.K fd ps ds)(hd:Vals iJ ds)(hx:Passes CX X E)(I:Inv X pins σ H s)(r:Vals vs us)(h:sp (vs++iJ) H Q E):wpAny #[4] X.A (call #[94] us) #[77] X.xe s:=by
 have r2:Vals (vs++iJ) (us++ds):=r.append hd
 have hl:(us++ds).length=ps.length:=by rw[<- r2.length];exact F.len _ _ _ _ h
 refine WZ (qg (F.run X.A X.stack s H ⟨us,[]⟩ (us++ds) (vs++iJ) Q E hr I.X0 (hb s us I.sJ hl) r2 h) fun r s' hq=>?_)
 cases r with
 | error e=>exact hx pins σ H s e s' I hq
 | ok fl =>
  cases fl with
  | ret u=>exact I.after hq
  | next=>exact False.elim hq
  | brk=>exact False.elim hq
  | cont=>exact False.elim hq
theorem Io(F:bw X.prog X.w X.K X.mg X.base CX k f fd ps sp)(hr:dM k X.A)(hg:Gl X x)(hm:X.mg x=some #[94])(hk:Yp X.K #[94]=true)(hb:Binds X.K fd ps ds)(hd:Vals iJ ds)(hx:Passes CX X E)(ha:PA X (e :: es) t)(Cf:#[18]=false:=by decide)(he:WH (e :: es) X.env=#[20] :: WH es X.env:=by rfl)(Al:#[29].any (·.1)=false:=by rfl):
  PE X #[27] (N6 sp iJ E t):=by
 exists 5
 exists 88
 refine yM (h₀:=X.base) I.ok.mod.kin hk #[131] he Al
 exact Pp F hr hb hd hx I1 r q
theorem ado{pl:qK Bool}(he:PE X o ta)(c:IV X.K C)(hm:Meth X.K C m f)(F:bw X.prog X.w X.K X.mg X.base CX k f fd ps sp)(hr:dM k X.A)(hb:Binds X.K fd ps ds)(hd:Vals iJ ds)(hx:Passes CX X E)(ha:PA X (e :: es) t)(tL:WH (e :: es) X.env=#[20] :: WH es X.env:=by rfl)(Al:#[29].any (·.1)=false:=by rfl)(ht:eval #[108] X.env=(do
   let ov <- eval o X.env
   standAt apos.atName
   let (f,first) <- holding [ov] (getMethod ov m pl)
   callWith pos f first (backTo pos (WH (e :: es) X.env)) #[103]):=by rfl):
  PE X #[108] (R8 C m sp iJ E ta t):=by
 exists 5
 refine yk (pl:=pl) (bX #[80] fun u s1 ⟨x,H1,I1,rx,a,dx,fs,ex,ea,l,q⟩=>?_) ht
 subst ex
 exists 57
 refine D7 I1 ea c hm l ?_
 refine yM (first:=[.ref a]) (h₀:=X.base) I.ok.mod.kin hm.kp (bX (ha pos pins s1 σ H1 _ I1 q) fun us s2 ⟨vs,H2,I2,r,q2⟩=>⟨I2.sJ,?_⟩) tL Al
 exact Pp (us:=.ref a :: us) (vs:=.ref a :: vs) F hr hb hd hx I2 (.cons rfl r) q2
theorem aa0{pl:qK Bool}(he:PE X o ta)(c:IV X.K C)(hm:Meth X.K C m f)(F:bw X.prog X.w X.K X.mg X.base CX k f fd ps sp)(hr:dM k X.A)(hb:Binds X.K fd ps ds)(hd:Vals iJ ds)(hx:Passes CX X E)(ht:eval #[129] X.env=(do
   let ov <- eval o X.env
   standAt apos.atName
   let (f,first) <- holding [ov] (getMethod ov m pl)
   callWith pos f first (backTo pos (WH [] X.env)) #[103]):=by rfl):
  PE X #[129] (R8 C m sp iJ E ta adS):=by
 exists 5
 refine yk (pl:=pl) (bX #[80] fun u s1 ⟨x,H1,I1,rx,a,dx,fs,ex,ea,l,q⟩=>?_) ht
 subst ex
 exists 57
 refine D7 I1 ea c hm l ?_
 exact PySem.W.callWith_K0 (first:=[.ref a]) I1.sJ hm.kp (Pp (us:=[.ref a]) (vs:=[.ref a]) F hr hb hd hx I1 (.cons rfl .nil) q)
structure Mk(K:Yh)(C f:Qo):Prop where
 makes:XZ K C=true
 init:Ym K #[31] "__init__" = some #[247]
 fn:yW K #[94]=true
 kp:Yp K #[31]=true
theorem abi{Q:VK}(M:Mk X.K C f)(F:bw X.prog X.w X.K X.mg X.base CX k f fd ps sp)(hr:dM (k+1) X.A)(hb:Binds X.K fd ps ds)(hd:Vals iJ ds)(hx:Passes CX X E)(I:Inv X pins σ H s)(r:Vals vs us)(h:∀ x dx,H x=none->H dx=none->dx≠x->sp (.ref x :: (vs++iJ)) (upd (upd H dx (.own x)) x (.ins C dx [])) (fun v H2=>v=.non/\Q #[180] H2) E):
  wpAny #[4] X.A (call #[31] us) #[77] X.xe s:=by
 have hq:=h #[22] s.heap.objs.size (I.hok.fresh (JS _)) #[115] (jQ (JU _))
 have I2:=Inv.made (C:=C) I
 have r2:Vals (V.ref #[22] :: (vs++iJ)) (Yi #[22] :: (us++ds)):=.cons rfl (r.append hd)
 have hl:(Yi #[22] :: us++ds).length=ps.length:=by
  have e:=r2.length
  rw[F.len _ _ _ _ hq]at e
  exact e.symm
 refine WZ (aat (f:=f) I.sJ M.makes M.init (beq_iff_eq.mp M.fn) (qg (F.run _ X.stack _ _ ⟨Yi #[22] :: us,[]⟩ (Yi #[22] :: (us++ds)) _ _ E (hr.make C us [])
  (I2.X0.make C us []) (hb _ (Yi #[22] :: us) I2.sJ hl) r2 hq) fun r s' Ic=>?_))
 cases r with
 | error e=>exact hx pins σ _ _ e s' I2 Ic
 | ok fl =>
  cases fl with
  | ret u =>
   obtain⟨v,H',I3,rv,ev,q3⟩:=I2.after Ic
   subst ev
   exact⟨rv,⟨V.ref #[22],H',I3,rfl,q3⟩⟩
  | next=>exact False.elim Ic
  | brk=>exact False.elim Ic
  | cont=>exact False.elim Ic
theorem adm(M:Mk X.K C f)(F:bw X.prog X.w X.K X.mg X.base CX k f fd ps sp)(hr:dM (k+1) X.A)(hg:Gl X x)(hm:X.mg x=some #[31])(hb:Binds X.K fd ps ds)(hd:Vals iJ ds)(hx:Passes CX X E)(ha:PA X (e :: es) t)(Cf:#[18]=false:=by decide)(he:WH (e :: es) X.env=#[20] :: WH es X.env:=by rfl)(Al:#[29].any (·.1)=false:=by rfl):
  PE X #[27] (aeF C sp iJ E t):=by
 exists 5
 exists 88
 refine yM (h₀:=X.base) I.ok.mod.kin M.kp #[131] he Al
 exact abi M F hr hb hd hx I1 r q
end
structure aE(N P:List qN)(sc:Scope):Prop where
 kind:sc.kind=.function
 co:sc.isCoroutine=false
 gen:sc.isGenerator=false
 nd:N.Nodup
 pre:N.take P.length=P
 par:∀ x∈P,sc.names.lookup x=some .local\/sc.names.lookup x=some .cell
 nofree:∀ y∈sc.names,y.2≠.free
theorem FO{kindOf:qN->Option qG}:∀ {binds:List #[205]} {m:qN->Option Value},(∀ v,(x,v)∉binds)->bindL kindOf binds m x=m x
 | [],_,_=>rfl
 | (n,v) :: r,m,h=>by
  unfold bindL
  rw[FO fun w hw=>h w (jJ _ hw)]
  split
  ·have:x≠n:=by rintro rfl;exact h v jE
   simp[this]
  ·rfl
theorem FL{kindOf:qN->Option qG}:∀ {binds:List #[205]} {m:qN->Option Value},(∀ v,(x,v)∉binds)->bindC kindOf binds m x=m x
 | [],_,_=>rfl
 | (n,v) :: r,m,h=>by
  unfold bindC
  rw[FL fun w hw=>h w (jJ _ hw)]
  split
  ·rfl
  ·have:x≠n:=by rintro rfl;exact h v jE
   simp[this]
theorem FN{kindOf:qN->Option qG}{v:Value}:∀ {P:List qN} {vs:List Value} {i:Nat} {m:qN->Option Value},P.Nodup->P[i]?=some x->vs[i]?=some v->kindOf x=some .local ->
  bindL kindOf (P.zip vs) m x=some v
 | [],_,_,_,_,h,_,_=>by simp at h
 | _ :: _,[],_,_,_,_,h,_=>by simp at h
 | p :: P,w :: vs,0,m,nd,h1,h2,hk=>by
  simp at h1 h2;subst h1;subst h2
  show bindL kindOf ((p,w) :: P.zip vs) m p=_
  unfold bindL
  rw[FO fun v hv=>(jy.mp nd).1 (ZD hv).1,if_pos hk]
  simp
 | p :: P,w :: vs,i+1,m,nd,h1,h2,hk=>by
  show bindL kindOf ((p,w) :: P.zip vs) m x=_
  unfold bindL
  exact FN (i:=i) (jy.mp nd).2 #[254] #[253] hk
theorem FK{kindOf:qN->Option qG}{v:Value}:∀ {P:List qN} {vs:List Value} {i:Nat} {m:qN->Option Value},P.Nodup->P[i]?=some x->vs[i]?=some v->kindOf x≠some .local ->
  bindC kindOf (P.zip vs) m x=some v
 | [],_,_,_,_,h,_,_=>by simp at h
 | _ :: _,[],_,_,_,_,h,_=>by simp at h
 | p :: P,w :: vs,0,m,nd,h1,h2,hk=>by
  simp at h1 h2;subst h1;subst h2
  show bindC kindOf ((p,w) :: P.zip vs) m p=_
  unfold bindC
  rw[FL fun v hv=>(jy.mp nd).1 (ZD hv).1,if_neg hk]
  simp
 | p :: P,w :: vs,i+1,m,nd,h1,h2,hk=>by
  show bindC kindOf ((p,w) :: P.zip vs) m x=_
  unfold bindC
  exact FK (i:=i) (jy.mp nd).2 #[254] #[253] hk
def start(N:List qN)(vs:List V):St:=vs.map some++JV (N.length-vs.length) none
def cu(CX:J1)(P:qJ)(w:World)(K:Yh)(mg:qN->Option Value)(base:Heap)(N:List qN)(qual:qN)(scope:Scope)(f:Qo)(cd:Value)(A:Around)(outer:List Qx)(s:qM)(H:Hp)(E:XK):Cx where
 prog:=P
 w:=w
 K:=K
 mg:=mg
 base:=base
 A:=A.deeper #[16]
 N:=N
 s₀:=s
 H₀:=H
 env:=envOfC qual scope s.heap.objs.size f cd
 outer:=outer
 stack:=envOfC qual scope s.heap.objs.size f cd :: outer
 ex:=[]
 calm:=true
 fn:=fun _=>true
 pn:=[]
 xe:=fun e s'=>wpAny #[42] (A.deeper #[16]) (leaving #[16] e) (fun _ s''=>CX outer H s E e s'') (fun e' s''=>CX outer H s E e' s'') s'
theorem Lm(h:sc.names.lookup x=some .cell):∃ c,(cellsFrom n sc.names []).lookup x=some c:=by
 have q:=yh sc.names n [] (.inl h)
 exact Jn.mp q
theorem G1{CX:J1}{f:Qo}{s1:qM}{E:XK}(S:aE N ps scope)(hd:A.handled=none)(e0:Fc P w K mg base A outer s H)(hl:vs.length=ps.length)(r:Vals vs us)(x:InCallC s s.heap.objs.size (bindL #[16].kindOf (ps.zip us) fun _=>none) #[165] (bindC #[16].kindOf (ps.zip us) fun _=>none) s1):
  Inv (cu CX P w K mg base N qual scope f cd A outer s H E) [] #[218] H s1:=by
 have Al:ps.length<=N.length:=by have:=congrArg zG S.pre;rw[jR]at this;omega
 obtain⟨h1,tk,rfl,hk⟩:=x.done
 have noA:∀ b:Qo,b∉(cu CX P w K mg base N qual scope f cd A outer s H E).ex:=fun b z=>absurd (show b∈([]:List Qo)from z) #[10]
 refine⟨⟨e0.mod,S.kind,rfl,rfl,jF _,fun y z c h1 h2=>?_,fun y hy=>?_,fun y c _ h=>?_,fun _=>hd,Around.frames_deeper e0.frames,.inr ⟨rfl,rfl⟩,fun b z=>absurd z (noA b),e0.bs,e0.bsz,fun b _ _=>noA b,fun b z=>absurd z (noA b),e0.AH,e0.frf⟩,
  rfl,e0.bare,Un.kept hk,⟨_,x.toInCall.ns,fun i y v h1 h2 h3=>?_⟩,fun y c h=>⟨_,x.cell y c h⟩,e0.hok.fresh (jF _),fun y c h=>?_,fun p hp=>absurd (show p∈([]:List #[68])from hp) #[10],e0.hok.kept hk,?_⟩
 ·exact name_of_addr x.apart (yJ h1) (yJ h2)
 ·have hy:scope.names.lookup y=some .cell\/scope.names.lookup y=some .free:=hy
  rcases hy with hy|hy
  ·exact Lm hy
  ·exact absurd rfl (S.nofree _ (yJ hy))
 ·exact Jl (x.above y c (yJ h))
 ·have hi:i<vs.length:=by
   unfold start at h2
   by_cases hi:i<vs.length
   ·exact hi
   ·rw[JK (by simpa using hi)]at h2
    rw[Zc]at h2
    split at h2<;>cases h2
  have ha:vs[i]?=some v:=by
   unfold start at h2
   rw[JG (by simpa using hi),jO]at h2
   cases e:vs[i]? with
   | none=>rw[e]at h2;cases h2
   | some a=>rw[e]at h2;cases h2;rfl
  obtain⟨u,hu,rv⟩:=r.get ha
  have hp:ps[i]?=some y:=by
   rw[<- S.pre,List.getElem?_take_of_lt #[0]];exact h1
  have ndP:ps.Nodup:=by rw[<- S.pre];exact S.nd.sublist (ZV _ _)
  exists u,rv
  rcases S.par y (zB hp)with k|k
  ·exact .inl ⟨k,FN ndP hp hu k⟩
  ·obtain⟨c,e⟩:=Lm (n:=s.heap.objs.size+1) k
   refine .inr ⟨.inl k,c,e,?_⟩
   have q:=x.cell y c e
   rw[FK ndP hp hu (by show scope.names.lookup y≠_;rw[k];decide)]at q
   exact q
 ·exact e0.hok.fresh (Jl (x.above y c (yJ h)))
 ·unfold start
  show _=N.length
  rw[jH,jW,zx]
  omega
theorem ad6{CX:J1}{k:Nat}{f:Qo}{dV kV doc pm cC ct oc:Value}{sp:Sp}(lk:K.lookup f=some ⟨oc,od,.func #[85],Hj⟩)(HY:yE K cC qual=true)(S:aE N ps scope)(len:∀ vs H Q E,sp vs H Q E->vs.length=ps.length)(Bv:∀ (A:Around) (outer:List Qx) (s:qM) (H:Hp) (vs:List V) (Q:VK) (E:XK),dM k (A.deeper (envOfC qual scope s.heap.objs.size f cC))->sp vs H Q E ->
   ∃ t,HC #[136] body t/\t { nx:=fun _ H'=>Q .non H',rt:=Q } #[218] H):
  bw P w K mg base CX (k+1) f #[85] ps sp:=by
 refine⟨len,fun A outer s H args us vs Q E hr e0 hb r ON=>?_⟩
 have hl:=len _ _ _ _ ON
 have KX:K.In s.heap:=e0.mod.kin.keeps fun b o e=>(e0.bs b o e).1
 have lim:s.heap.NoLimit:=e0.mod.nolimit.keeps fun b o e=>(e0.bs b o e).1
 have Z3:∀ y∈ps.zip us,scope.names.lookup y.1=some .local\/(scope.names.lookup y.1=some .cell/\(#[165].lookup y.1).isSome=true):=fun⟨n,v⟩ hy=>by
  rcases S.par n (ZD hy).1 with q|q
  ·exact .inl q
  ·exact .inr ⟨q,yh _ _ _ (.inl q)⟩
 refine qd hr.depth (KX _ _ lk) rfl S.co S.gen rfl (Xt KX HY) (hb _ _ _ _ ?_)
 refine YD S.kind Z3 fun env he s1 x=>?_
 subst he
 refine⟨lim.keeps x.toInCall.keep,codeAny_func ?_⟩
 obtain⟨t,ht,hq⟩:=Bv A outer s H vs Q E (hr.deeper _) ON
 have I:Inv #[136] [] #[218] H s1:=G1 S hr.hd e0 hl r x
 refine YB (ht [] s1 #[218] H _ I hq) (fun fl s' hs=>?_) fun e s' hs=>hs
 have fin:∀ {σ':St} {H':Hp} {v:V} {u:Value},Inv #[136] [] σ' H' s'->RelV v u->Q v H'->CE outer P w H s Q u s' :=
  fun {σ' H' v u} J rv q=>⟨v,H',J.os,J.bare,J.base,J.hok,rv,q⟩
 cases fl with
 | ret u =>
  obtain⟨v,σ',H',J,rv,q⟩:=hs
  exact fin J rv q
 | next =>
  obtain⟨σ',H',J,q⟩:=hs
  exact fin (v:=V.non) (u:=Yn) J rfl q
 | brk =>
  obtain⟨_,_,_,q⟩:=hs
  exact False.elim q
 | cont =>
  obtain⟨_,_,_,q⟩:=hs
  exact False.elim q
section
variable{t:TA}{id T:String}{r:List V->Hp->VK->Prop}
def tCB(r:List V->Hp->VK->Prop)(t:TA):TE:=fun σ H Q=>t σ H fun vs H1=>r vs H1 Q
theorem az(hc:iz X #[269] r)(hg:Gl X x)(hm:X.mg x=none)(hv:qS x=some #[269])(ha:PA X (e :: es) t)(hn:x ≠ "__name__" := by decide)(Cf:#[18]=false:=by decide)(he:WH (e :: es) X.env=#[20] :: WH es X.env:=by rfl)(Al:#[29].any (·.1)=false:=by rfl):PE X #[27] (tCB r t):=by
 exists 5
 refine WR (oV I hg hm hv ?_ hn Cf)
 exact yo (bX #[51] fun us s1 ⟨vs,H1,I1,r1,q1⟩=>hc pins s1 σ H1 vs us Q I1 r1 q1) he Al
theorem aM(hc:iz X (.type T) r)(hg:Gl X x)(hm:X.mg x=none)(hv:qS x=some (.type T))(ha:PA X (e :: es) t)(hn:x ≠ "__name__" := by decide)(Cf:#[18]=false:=by decide)(he:WH (e :: es) X.env=#[20] :: WH es X.env:=by rfl)(Al:#[29].any (·.1)=false:=by rfl):PE X #[27] (tCB r t):=by
 exists 5
 refine WR (oV I hg hm hv ?_ hn Cf)
 exact Yq (bX #[51] fun us s1 ⟨vs,H1,I1,r1,q1⟩=>hc pins s1 σ H1 vs us Q I1 r1 q1) he Al
end
end L2
namespace HT
open PySem PyProof.Rows
section
open PySem.SeqAt
open PySem.AutoSeq1 (wpAny_loadPart')
open PySem.MeetsSeq PySem.MeetsSeq2 PySem.MeetsSeq3
end
section
def MK(n d:Nat):Option Int->Nat
 | none=>d
 | some v=>if v<0 then(v+(n:Int)).toNat else min v.toNat n
theorem MM(n d:Nat):MK n d none=d:=rfl
theorem RM(n d k:Nat):MK n d (some (k:Int))=min k n:=by
 show(if (k:Int)<0 then((k:Int)+(n:Int)).toNat else min (k:Int).toNat n)=min k n
 rw[if_neg #[0],jB]
end
end HT
namespace L2
open PySem PySem.Spec PyProof.Rows
variable{X:Cx}{e:Expr}{te:TE}{pos:Pos}{α:Type}{n j t':Nat}{i:Int}{r:R2}{pins:List (Qo×Obj)}{σ:St}{H:Hp}{s:qM}{p:Qo}{xs ys:List V}{aX its' us:List Value}{x:V}{v:Value}{es:List Expr}{name:qN}{prog:qJ}{w:World}{A:Around}
abbrev TO:=St->Hp->(Option Int->Hp->Prop)->Prop
def PO(X:Cx)(e:Option Expr)(t:TO):Prop:=
 ∀ (pins:List #[68]) (s:qM) (σ:St) (H:Hp) (Q:Option Int->Hp->Prop),Inv X pins σ H s->t σ H Q ->
  wpAny #[4] X.A (evalPart e X.env) (fun u s'=>∃ o H',Inv X pins σ H' s'/\IsPart u o/\Q o H') X.xe s
def adT:TO:=fun _ H Q=>Q none H
inductive adV (Q:Option Int->Hp->Prop) (x:V) (H1:Hp):Prop
 | mk (i:_) (_:x=.int i) (_:Q (some i) H1)
def ajV(t:TE):TO:=fun σ H Q=>t σ H (adV Q)
section
variable{lo hi:Option Expr}{tl th:TO}{p2:Pos}
theorem RE:PO X none adT:=by
 exists 5
 rw[evalPart_none]
 exact YJ ⟨none,H,I,.none,h⟩
theorem RF(h:PE X e te):PO X (some e) (ajV te):=by
 intro pins s σ H Q I hw
 rw[evalPart_some]
 refine bX (h pins s σ H _ I hw) fun u s1 ⟨x,H1,I1,r1,q1⟩=>?_
 obtain⟨i,rfl,q⟩:=q1
 obtain⟨t,rfl⟩:=r1
 exact⟨some i,H1,I1,.int i t,q⟩
def SlR(X:Cx)(r:V->Option Int->Option Int->Hp->VK->Prop):Prop:=
 ∀ (pins:List #[68]) (s:qM) (σ:St) (H:Hp) (x:V) (v vl vu:Value) (lo hi:Option Int) (sl:Qo) (Q:VK),Inv X pins σ H s->RelV x v->s.heap.IsSliceOf sl vl vu .none->IsPart vl lo->IsPart vu hi->r x lo hi H Q ->
  ∃ T id,typeLookup (.type T) "__getitem__" = pure (some #[269])/\s.TypeIs v T/\wpAny #[4] X.A (getItem v (.ref sl)) #[77] X.xe s
def tSl(r:V->Option Int->Option Int->Hp->VK->Prop)(te:TE)(tl th:TO):TE:=fun σ H Q=>te σ H fun x H1=>tl σ H1 fun l H2=>th σ H2 fun u H3=>r x l u H3 Q
theorem Mz{r:V->Option Int->Option Int->Hp->VK->Prop}(hr:SlR X r)(he:PE X e te)(hl:PO X lo tl)(hu:PO X hi th):PE X (.Subscript e (.Slice lo hi none p2) pos) (tSl r te tl th):=by
 exists 5
 refine qO (bX #[80] fun v s1 ⟨x,H1,I1,r1,q1⟩=>?_)
 refine wpAny_Slice (bX (hl pins s1 σ H1 _ I1 q1) fun vl s2 ⟨l,H2,I2,pl,q2⟩=>bX (hu pins s2 σ H2 _ I2 q2) fun vu s3 ⟨u,H3,I3,pu,q3⟩=>?_)
 rw[evalPart_none]
 refine YJ ?_
 have I4:Inv X pins σ H3 { s3 with heap:=s3.heap.push { cls:=.type "slice",data:=.fields #[vl,vu,.none] } }:=I3.kept (t' := s3.toks) fun b ob q=>jA _ q
 obtain⟨T,id,hT,ht,hg⟩:=hr pins { s3 with heap:=s3.heap.push { cls:=.type "slice",data:=.fields #[vl,vu,.none] } } σ H3 x v vl vu l u s3.heap.objs.size Q I4 r1 (Gg ..) pl pu q3
 show wpAny #[4] X.A (subscriptTail e (.Slice lo hi none p2) v (.ref s3.heap.objs.size)) #[77] X.xe { s3 with heap:=s3.heap.push { cls:=.type "slice",data:=.fields #[vl,vu,.none] } }
 exact tail_any (ops:=[.ref s3.heap.objs.size,v]) ht hT hg #[60]
def HQ(xs:List V)(lo hi:Option Int):List V:=(xs.drop (HT.MK xs.length 0 lo)).take (HT.MK xs.length xs.length hi-HT.MK xs.length 0 lo)
theorem Ls(xs:List V)(lo hi:Option Int):(HQ xs lo hi).length<=xs.length:=by
 unfold HQ
 rw[jR,zT]
 omega
end
def ixN(n:Nat)(i:Int):Option Nat:=if 0<=i then(if i<n then some i.toNat else none)else if -(n:Int)<=i then some (i+n).toNat else none
def Aj(xs:List α)(i:Int):Option α:=(ixN xs.length i).bind fun j=>xs[j]?
theorem Rp(h:ixN n i=some j):seqIndex? i n=some j/\j<n/\-(n:Int)<=i/\i<n:=by
 unfold ixN at h
 by_cases h0:0<=i
 ·rw[if_pos h0]at h
  by_cases h1:i<n
  ·rw[if_pos h1]at h
   have e:i.toNat=j:=Option.some.inj h
   exact⟨by rw[WE h0 h1,e],by omega,by omega,h1⟩
  ·rw[if_neg h1]at h;cases h
 ·rw[if_neg h0]at h
  by_cases h1 : -(n:Int)<=i
  ·rw[if_pos h1]at h
   have e:(i+n).toNat=j:=Option.some.inj h
   exact⟨by rw[seqIndex_neg #[0] h1,e],by omega,h1,by omega⟩
  ·rw[if_neg h1]at h;cases h
theorem Q1{xs:List α}{v:α}(h:Aj xs i=some v):∃ j,seqIndex? i xs.length=some j/\xs[j]?=some v/\j<xs.length/\-(xs.length:Int)<=i/\i<xs.length:=by
 unfold Aj at h
 cases e:ixN xs.length i with
 | none=>rw[e]at h;cases h
 | some j =>
  rw[e]at h
  obtain⟨h1,h2,h3,h4⟩:=Rp e
  exact⟨j,h1,h,h2,h3,h4⟩
theorem pA{xs:List α}{v:α}(h:xs[j]?=some v):Aj xs (j:Int)=some v:=by
 have hj:j<xs.length:=(js.mp h).1
 have e:ixN xs.length (j:Int)=some j:=by
  unfold ixN
  rw[if_pos #[0],if_pos #[0]];simp
 unfold Aj;rw[e];exact h
def P7(b:Expr):Prop := ∀ o i,subscripted b false o i=operate [o,i] (getItem o i)
def IxR(X:Cx)(r:R2):Prop:=
 ∀ (value slice:Expr) (pins:List #[68]) (s:qM) (σ:St) (H:Hp) (x y:V) (v u:Value) (Q:VK),Inv X pins σ H s->RelV x v->RelV y u->r x y H Q ->
  subscripted slice false v u=operate [v,u] (getItem v u)->wpAny #[4] X.A (subscriptTail value slice v u) #[77] X.xe s
def MtR(X:Cx)(id:String)(r:V->List V->Hp->VK->Prop):Prop:=
 ∀ (pins:List #[68]) (s:qM) (σ:St) (H:Hp) (x:V) (xs:List V) (v:Value) (us:List Value) (Q:VK),Inv X pins σ H s->RelV x v->Vals xs us->r x xs H Q ->
  wpAny #[4] X.A (call #[269] (v :: us)) #[77] X.xe s
section
variable{a b:Expr}{ta tb:TE}
theorem aF(hr:IxR X r)(ha:PE X a ta)(hb:PE X b tb)(hs:P7 b):PE X (.Subscript a b pos) (tOp r ta tb):=by
 exists 5
 exact qO (ae4 ha hb I h fun v u s2 x y H2 I2 rx ry q=>hr a b pins s2 σ H2 x y v u Q I2 rx ry q (hs _ _))
inductive ajr (K:Yh) (x:V) (y:V) (H:Hp) (Q:VK):Prop
 | mk (p:_) (xs:_) (i:_) (v:_) (_:x=.ref p) (_:y=.int i) (_:pk K H p xs) (_:Aj xs i=some v) (_:Q v H)
inductive ajs (K:Yh) (x:V) (y:V) (H:Hp) (Q:VK):Prop
 | mk (p:_) (xs:_) (i:_) (v:_) (_:x=.ref p) (_:y=.int i) (_:wO K H p xs) (_:Aj xs i=some v) (_:Q v H)
theorem cY:IxR X (ajr X.K):=by
 intro value slice pins s σ H x y v u Q I rx ry h hs
 obtain⟨p,xs,i,z,rfl,rfl,hq,he,q⟩:=h
 cases rx
 obtain⟨t,rfl⟩:=ry
 obtain⟨aX,r,pl,hz⟩:=I.list hq
 obtain⟨j,h1,h2,h3,h4,h5⟩:=Q1 he
 obtain⟨w,ew,MJ⟩:=r.get h2
 have hl:=r.length
 have hn:=Ej
 have fin:EP X pins σ Q w s:=⟨z,H,I,MJ,q⟩
 by_cases h0:0<=i
 ·have hj:i.toNat=j:=by
   rw[WE h0 h5]at h1
   exact Option.some.inj h1
  exact item_listR pl.isList h0 #[0] (by rw[hj];simpa using ew) fin hs
 ·have hj:(i+(aX.toArray.size:Int)).toNat=j:=by
   rw[seqIndex_neg #[0] h4]at h1
   rw[jS,<- hl]
   exact Option.some.inj h1
  exact WI (x:=w) pl.isList.typeIs slot_list_getitem.lookup
   (wpAny_getItem_list_neg (Q:=fun r s'=>r=w/\EP X pins σ Q r s') pl.isList #[0] (by rw[jS]<;>omega) #[0] (by rw[hj];simpa using ew) ⟨rfl,fin⟩) hs
theorem aI:IxR X (ajs X.K):=by
 intro value slice pins s σ H x y v u Q I rx ry h hs
 obtain⟨p,xs,i,z,rfl,rfl,hq,he,q⟩:=h
 cases rx
 obtain⟨t,rfl⟩:=ry
 obtain⟨aX,r,pl,hz⟩:=I.tuple hq
 obtain⟨j,h1,h2,h3,h4,h5⟩:=Q1 he
 obtain⟨w,ew,MJ⟩:=r.get h2
 have hl:=r.length
 have hn:=Ej
 have fin:EP X pins σ Q w s:=⟨z,H,I,MJ,q⟩
 exact WI (x:=w) pl.typeIs slot_tuple_getitem.lookup
  (getItem_tuple (j:=j) (Q:=fun r s'=>r=w/\EP X pins σ Q r s') pl #[0] #[0] (by rw[jS,<- hl];exact h1) (by simpa using ew) ⟨rfl,fin⟩) hs
theorem OY(aX:List Value)(n j:Nat)(u:Value):Obj.mapSeq (·.setIfInBounds j u) { cls:=.type "list",data:=.seq aX.toArray n }={ cls:=.type "list",data:=.seq (aX.set j u).toArray n }:=by
 simp[Obj.mapSeq]
theorem Inv.lst{pins:List #[68]}{σ:St}{H:Hp}{s:qM}{p:Qo}{xs:List V}(I:Inv X pins σ H s)(h:H p=some #[236]):
  ∃ (aX:List Value) (n:Nat),Vals xs aX/\s.heap.get? p=some { cls:=.type "list",data:=.seq aX.toArray n }/\xs.length<=sizeLine:=by
 obtain⟨z,aX,n,r,e⟩:=I.hok p _ h
 exact⟨aX,n,r,e,z⟩
theorem Inv.af2{n':Nat}{f:Obj->Obj}(I:Inv X pins σ H s)(h:H p=some #[236])(ho:s.heap.get? p=some { cls:=.type "list",data:=.seq aX.toArray n })(hf:f { cls:=.type "list",data:=.seq aX.toArray n }={ cls:=.type "list",data:=.seq its'.toArray n' })(r:Vals ys its')(hz:ys.length<=sizeLine)(t:Nat):
  Inv X pins σ (upd H p #[88]) { s with heap:=s.heap.update p f,toks:=t }:=by
 have e:(s.heap.update p f).get? p=some { cls:=.type "list",data:=.seq its'.toArray n' }:=by
  rw[jr f ho (by rw[hf]<;>rfl),hf]
 refine I.write (x:=p) (e:=p) (by rw[h];trivial) #[95] (fun b u hb q=>#[290].trans q) ⟨_,e⟩ ?_
 exact⟨hz,its',n',r,e⟩
inductive ajt (o:V) (i:V) (v:V) (H:Hp) (Q:Hp->Prop):Prop
 | mk (p:_) (xs:_) (k:_) (j:_) (_:o=.ref p) (_:i=.int k) (_:H p=some #[236]) (_:ixN xs.length k=some j) (_:Q (upd H p (.lst (xs.set j v))))
theorem set_list:ahE X ajt:=by
 intro pins s σ H o i v ov iv u Q I ro ri rv h
 obtain⟨p,xs,k,j,rfl,rfl,hp,hj,q⟩:=h
 cases ro
 obtain⟨t,rfl⟩:=ri
 obtain⟨aX,n,r,ho,hz⟩:=I.lst hp
 obtain⟨h1,h2,h3,h4⟩:=Rp hj
 have hl:=r.length
 have hn:=Ej
 have I':Inv X pins σ (upd H p (.lst (xs.set j v))) { s with heap:=s.heap.update p (Obj.mapSeq (·.setIfInBounds j u)) }:=
  I.af2 hp ho (OY aX n j u) (r.set rv j) (by rw[zg];exact hz) s.toks
 by_cases h0:0<=k
 ·have hk:k.toNat=j:=by
   rw[WE h0 h4]at h1
   exact Option.some.inj h1
  exact PySem.W.ki_setAt ho h0 #[0] (by rw[jS,<- hl];exact h4) (by rw[hk];exact⟨_,I',q⟩)
 ·have hk:(k+(aX.toArray.size:Int)).toNat=j:=by
   rw[seqIndex_neg #[0] h3]at h1
   rw[jS,<- hl]
   exact Option.some.inj h1
  exact PySem.W.ki_setBack ho #[0] (by rw[jS,<- hl];exact h3) #[0] (by rw[hk];exact⟨_,I',q⟩)
theorem IC(lo hi:Option Int)(n:Nat):(sliceBounds lo hi none n).1=((HT.MK n 0 lo:Nat):Int)/\(sliceBounds lo hi none n).2.1=((HT.MK n n hi:Nat):Int)/\(sliceBounds lo hi none n).2.2=1:=by
 refine⟨?_,?_,rfl⟩
 ·cases lo with
  | none=>simp[sliceBounds,HT.MK]
  | some i =>
   simp only[sliceBounds,HT.MK,QN,show(1:Int) > 0 by decide,if_true]
   by_cases h:i<0
   ·simp only[h,if_true]<;>omega
   ·simp only[h,if_false]<;>omega
 ·cases hi with
  | none=>simp[sliceBounds,HT.MK]
  | some i =>
   simp only[sliceBounds,HT.MK,QN,show(1:Int) > 0 by decide,if_true]
   by_cases h:i<0
   ·simp only[h,if_true]<;>omega
   ·simp only[h,if_false]<;>omega
theorem FA(aX:List Value)(lo hi:Option Int):slicePick aX.toArray lo hi none=((aX.drop (HT.MK aX.length 0 lo)).take (HT.MK aX.length aX.length hi-HT.MK aX.length 0 lo)).toArray:=by
 obtain⟨h1,h2,h3⟩:=IC lo hi aX.toArray.size
 unfold slicePick
 rw[h1,h2,h3]
 simp only[sliceRange_one,pick_run,jS]<;>rfl
inductive anJ (K:Yh) (x:V) (lo:Option Int) (hi:Option Int) (H:Hp) (Q:VK):Prop
 | mk (a:_) (xs:_) (_:x=.ref a) (_:pk K H a xs) (_:∀ p,H p=none->Q (.ref p) (upd H p (.lst (HQ xs lo hi))))
theorem RN:SlR X (anJ X.K):=by
 intro pins s σ H x v vl vu lo hi sl Q I rx hs pl pu h
 obtain⟨a,xs,rfl,hx,q⟩:=h
 cases rx
 obtain⟨aX,r,ht,hz⟩:=I.list hx
 have hlen:=r.length
 exists "list",_,slot_list_getitem.lookup,ht.isList.typeIs
 refine wpAny_getItem_list_slice ht.isList hs pl pu .none #[10] ?_ (by rw[jS]<;>omega)
 rw[FA,<- hlen]
 refine⟨.ref s.heap.objs.size,_,I.laid (t' := s.toks) (o:=.lst (HQ xs lo hi)) (fun b ob q=>jA _ q) (jF _) ?_,rfl,q _ #[115]⟩
 exact⟨jk (Ls xs lo hi) hz,_,0,(r.drop (HT.MK xs.length 0 lo)).take (HT.MK xs.length xs.length hi-HT.MK xs.length 0 lo),jK _ rfl⟩
inductive DT (K0:Yh) (xs:List V) (H:Hp) (Q:VK):Prop
 | mk (p:_) (ys:_) (_:xs=[.ref p]) (_:(pk K0 H p ys\/wO K0 H p ys)) (_:Q (.int ys.length) H)
theorem aA:iz X #[232] (DT X.K):=by
 exists 8
 obtain⟨p,ys,rfl,hq,q⟩:=h
 exists 13
 cases rx
 have hn:=Ej
 rcases hq with hq|hq
 ·obtain⟨aX,r',pl,hz⟩:=I.list hq
  have hlen:=r'.length
  exact Calls.call_len_list pl.isList #[161] ⟨.int ys.length,H,I.tok _,⟨s.toks+1,by rw[jS,hlen]⟩,q⟩
 ·obtain⟨aX,r',pl,hz⟩:=I.tuple hq
  have hlen:=r'.length
  exact len_tuple pl #[161] ⟨.int ys.length,H,I.tok _,⟨s.toks+1,by rw[jS,hlen]⟩,q⟩
inductive DV (K0:Yh) (xs:List V) (H:Hp) (Q:VK):Prop
 | mk (p:_) (ys:_) (_:xs=[.ref p]) (_:(pk K0 H p ys\/wO K0 H p ys)) (_:∀ l,H l=none->Q #[202] (upd H l #[88]))
theorem Bo:iz X #[282] (DV X.K):=by
 exists 8
 obtain⟨p,ys,rfl,hq,q⟩:=h
 exists 13
 cases rx
 have fin:∀ (aX:List Value),Vals ys aX->ys.length<=sizeLine->∀ (h':Heap) (c':Nat),(∀ b o',s.heap.get? b=some o'->h'.get? b=some o') ->
   h'.get? s.heap.objs.size=some { cls:=.type "list",dict:=none,data:=.seq aX.toArray c',slots := #[] }->EP X pins σ Q #[15] { s with heap:=h' }:=fun aX r' hz h' c' kp e =>
  ⟨.ref s.heap.objs.size,_,I.laid (t' := s.toks) kp (jF _) (show bF X.prog X.w _ h' _ #[88]from⟨hz,aX,c',r',e⟩),rfl,q _ #[115]⟩
 rcases hq with hq|hq
 ·obtain⟨aX,r',pl,hz⟩:=I.list hq
  have hlen:=r'.length
  obtain⟨o,ho,hc,n,hd⟩:=pl.isList
  exact call_list_seq p #[95] ho hc hd (fun h' c' kp e=>fin aX r' hz h' c' kp e) #[161]
 ·obtain⟨aX,r',pl,hz⟩:=I.tuple hq
  have hlen:=r'.length
  obtain⟨o,ho,hc,n,hd⟩:=pl
  exact call_list_seq p (.inr rfl) ho hc hd (fun h' c' kp e=>fin aX r' hz h' c' kp e) #[161]
inductive C3 (K0:Yh) (xs:List V) (H:Hp) (Q:VK):Prop
 | mk (p:_) (ys:_) (_:xs=[.ref p]) (_:((pk K0 H p ys/\∀ l,H l=none->Q #[202] (upd H l (.tup ys)))\/(wO K0 H p ys/\Q (.ref p) H)))
theorem aW:iz X (.type "tuple") (C3 X.K):=by
 exists 8
 obtain⟨p,ys,rfl,h⟩:=h
 exists 13
 cases rx
 rcases h with⟨hq,q⟩|⟨hq,q⟩
 ·obtain⟨aX,r',pl,hz⟩:=I.list hq
  have hlen:=r'.length
  refine call_tuple_list pl.isList (fun h' kp=>?_) #[161]
  have I1:Inv X pins σ H { s with heap:=h' }:=I.kept (t' := s.toks) kp
  have I2:Inv X pins σ (upd H h'.objs.size (.tup ys)) { s with heap:=h'.push { cls:=.type "tuple",data:=.seq aX.toArray } }:=
   I1.laid (t' := s.toks) (fun b o e=>jA _ e) (jF _) (show bF X.prog X.w _ _ _ (.tup ys)from⟨hz,aX,r',IsTup.new _ _⟩)
  exact⟨.ref h'.objs.size,_,I2,rfl,q _ (I1.hok.fresh (jF _))⟩
 ·obtain⟨aX,r',pl,hz⟩:=I.tuple hq
  exact call_tuple_same pl ⟨.ref p,H,I,rfl,q⟩
def tyV(K:Yh)(T:String)(x:V)(H:Hp):Prop:=match x with
 | .str _=>T = "str"
 | .int _=>T = "int"
 | .ref p=>(T = "list" /\ ∃ xs,pk K H p xs)\/(T = "tuple" /\ ∃ o,K.lookup p=some o/\o.cls=.type "tuple" /\ o.dict=none) \/
   (T = "dict" /\ ((∃ kvs,H p=some #[74])\/∃ kvs,H p=some #[204]))\/(T = "set" /\ ∃ S n,H p=some (.set S n))
 | _=>False
theorem abI{T:String}(I:Inv X pins σ H s)(r:RelV x v)(ty:tyV X.K T x H):
  s.TypeIs v T/\∀ a,v=.ref a->∃ ob,s.heap.get? a=some ob/\ob.dict=none:=by
 cases x with
 | str z =>
  obtain⟨t,rfl⟩:=r
  cases(show T = "str" from ty)
  exact⟨typeIs_str s z t,fun _ e=>nomatch e⟩
 | int i =>
  obtain⟨t,rfl⟩:=r
  cases(show T = "int" from ty)
  exact⟨typeIs_int s i t,fun _ e=>nomatch e⟩
 | ref p =>
  cases r
  rcases ty with⟨rfl,xs,hq⟩|⟨rfl,o,hk,hc,hd⟩|⟨rfl,hk⟩|⟨rfl,S,n,hk⟩
  ·obtain⟨aX,_,pl,_⟩:=I.list hq
   refine⟨pl.isList.typeIs,fun a e=>?_⟩
   cases e
   obtain⟨o,n,e,c,hd,_⟩:=pl
   exact⟨o,e,hd⟩
  ·refine⟨⟨o,I.sJ p o hk,hc⟩,fun a e=>?_⟩
   cases e
   exact⟨o,I.sJ _ o hk,hd⟩
  ·have z:∃ o,s.heap.get? p=some o/\o.ExactDict:=by
    rcases hk with⟨kvs,hk⟩|⟨kvs,hk⟩
    ·obtain⟨_,_,_,_,o,_,_,e,ex,_⟩:=I.hok p _ hk
     exact⟨o,e,ex⟩
    ·obtain⟨_,_,_,_,o,_,_,e,ex,_⟩:=I.hok p _ hk
     exact⟨o,e,ex⟩
   obtain⟨o,e,ex⟩:=z
   refine⟨⟨o,e,ex.1⟩,fun a e2=>?_⟩
   cases e2
   exact⟨o,e,ex.2.1⟩
  ·obtain⟨o,_,_,_,e,ex,_⟩:=I.hok p _ hk
   refine⟨⟨o,e,ex.1⟩,fun a e2=>?_⟩
   cases e2
   exact⟨o,e,ex.2.1⟩
 | _=>exact False.elim ty
structure agx(K:Yh)(T:String)(r:V->List V->Hp->VK->Prop)(Q:VK)(x:V)(H1:Hp):Prop where
 h0:tyV K T x H1
 h1:r x [] H1 Q
def anT(K:Yh)(T:String)(r:V->List V->Hp->VK->Prop)(to:TE):TE:=fun σ H Q=>to σ H (agx K T r Q)
structure ajH(K:Yh)(T:String)(r:V->List V->Hp->VK->Prop)(t:TA)(σ:St)(Q:VK)(x:V)(H1:Hp):Prop where
 h0:tyV K T x H1
 h1:t σ H1 fun xs H2=>r x xs H2 Q
def tBM(K:Yh)(T:String)(r:V->List V->Hp->VK->Prop)(to:TE)(t:TA):TE:=fun σ H Q=>to σ H (ajH K T r t σ Q)
variable{o:Expr}{to:TE}{t:TA}{apos dN:Pos}{T id:String}{r:V->List V->Hp->VK->Prop}
theorem Im(pa:PlainAttrs T)(slot:Slot T name id)(hty:typeOf #[269]=pure (.type "method_descriptor"))(hm:MtR X id r)(ho:PE X o to)(LN:attributeBase o name X.env (eval o X.env)=eval o X.env:=by rfl)(Z5:#[258]=true:=by rfl):PE X (.Call (.Attribute o name apos) [] [] dN) (anT X.K T r to):=by
 exists 5
 refine wpAny_Call_method0_late LN Z5 (bX #[210] fun v s1 ⟨x,H1,I1,r1,ty,q1⟩=>?_)
 obtain⟨h1,h2⟩:=abI I1 r1 ty
 exact⟨T,id,pa,slot,hty,h1,h2,yC rfl (PySem.evalArgs_none (hm pins s1 σ H1 x [] v [] Q I1 r1 .nil q1))⟩
theorem fc(pa:PlainAttrs T)(slot:Slot T name id)(hty:typeOf #[269]=pure (.type "method_descriptor"))(hm:MtR X id r)(ho:PE X o to)(ha:PA X (e :: es) t)(LN:attributeBase o name X.env (eval o X.env)=eval o X.env:=by rfl)(amh:((backTo dN (WH (e :: es) X.env)).all (fun x=>!x.1)&&#[224].all (fun x=>x.1.isSome)
   && decide ((e :: es).length+([]:List qF).length+#[200]<30))=true:=by rfl)(Z5:#[258]=true:=by rfl)(hs:WH (e :: es) X.env=#[20] :: WH es X.env:=by rfl)(afF:#[235].any (·.1)=false:=by rfl):
  PE X (.Call (.Attribute o name apos) (e :: es) [] dN) (tBM X.K T r to t):=by
 exists 5
 refine wpAny_Call_method_late LN amh Z5 rfl (bX #[210] fun v s1 ⟨x,H1,I1,r1,ty,q1⟩=>?_)
 obtain⟨h1,h2⟩:=abI I1 r1 ty
 exists T,id,pa,slot,hty,h1,h2
 have hA:=ha dN pins s1 σ H1 _ I1 q1
 rw[hs]at hA ⊢
 refine yC (by show(false||#[235].any (·.1))=false;rw[afF]<;>rfl) (yP ?_)
 exact bX hA fun us s2 ⟨vs,H2,I2,r2,q2⟩=>hm pins s2 σ H2 x vs v us Q I2 r1 r2 q2
/- xs.append(e),list.index on a ai5 tuple .. are MtR facts of 06m -/
end
def MtM(X:Cx)(id:String)(r:V->List V->Hp->VK->Prop):Prop:=
 ∀ (pins:List #[68]) (s:qM) (σ:St) (H:Hp) (x:V) (xs:List V) (v:Value) (us:List Value) (Q:VK),Inv X pins σ H s->RelV x v->Vals xs us->r x xs H Q ->
  wpAny #[4] X.A (call #[269] (v :: us)) #[77] X.xe s
theorem Vals.one:∀ {x:V} {us:List Value},Vals [x] us->∃ u,us=[u]/\RelV x u
 | _,_,.cons r .nil=>⟨_,rfl,r⟩
theorem Vals.two:∀ {x y:V} {us:List Value},Vals [x,y] us->∃ u v,us=[u,v]/\RelV x u/\RelV y v
 | _,_,_,.cons r (.cons q .nil)=>⟨_,_,rfl,r,q⟩
theorem Vals.zero:∀ {us:List Value},Vals [] us->us=[]
 | _,.nil=>rfl
theorem Vals.dropLast(h:Vals xs us):Vals xs.dropLast us.dropLast:=by
 induction h with
 | nil=>exact .nil
 | cons r t ih =>
  cases t with
  | nil=>exact .nil
  | cons q t'=>exact .cons r ih
theorem OH(l:List α):l.eraseIdx (l.length-1)=l.dropLast:=by
 induction l with
 | nil=>rfl
 | cons a r ih =>
  cases r with
  | nil=>rfl
  | cons b r =>
   have e:(a :: b :: r).length-1=((b :: r).length-1)+1:=by
    have h1:(a :: b :: r).length=r.length+2:=rfl
    have h2:(b :: r).length=r.length+1:=rfl
    omega
   rw[e,List.eraseIdx_cons_succ,ih]
   all_goals rfl
section
variable{l:Qo}
theorem Inv.acY{f:Array Value->Array Value}{t':Nat}(I:Inv X pins σ H s)(hH:H l=some #[236])(e:s.heap.get? l=some { cls:=.type "list",data:=.seq aX.toArray n })(hf:f aX.toArray=its'.toArray)(hv:Vals ys its')(hz:ys.length<=sizeLine):
  Inv X pins σ (upd H l #[88]) { s with heap:=s.heap.update l (Obj.mapSeq f),toks:=t' }:=by
 have q:=Gj e f
 rw[hf]at q
 refine I.write (x:=l) (e:=l) (by rw[hH];exact trivial) #[95] (fun b' u hb hu=>(jg s.heap (Obj.mapSeq f) (Ne.symm hb)).trans hu) ⟨_,q⟩ ?_
 exact⟨hz,its',_,hv,q⟩
theorem Inv.am6{t':Nat}(I:Inv X pins σ H s)(hv:Vals ys aX)(hz:ys.length<=sizeLine):
  Inv X pins σ (upd H s.heap.objs.size #[88]) { s with heap:=s.heap.push { cls:=.type "list",data:=.seq aX.toArray },toks:=t' }:=
 I.laid #[252] (jF _) ⟨hz,aX,0,hv,jK _ rfl⟩
theorem Inv.fresh(I:Inv X pins σ H s):H s.heap.objs.size=none:=I.hok.fresh (jF _)
theorem Inv.Fu(I:Inv X pins σ H s)(hH:H l=some #[236]):xs.length<=sizeLine/\∃ (aX:List Value) (n:Nat),Vals xs aX/\xs.length=aX.length/\s.heap.get? l=some { cls:=.type "list",data:=.seq aX.toArray n }:=by
 obtain⟨z,aX,n,r,e⟩:=I.hok l _ hH
 exact⟨z,aX,n,r,r.length,e⟩
theorem Mm(h:n<=sizeLine):yH n=false:=by
 unfold yH
 exact decide_eq_false #[0]
end
section
inductive ady (x:V) (vs:List V) (H:Hp) (Q:VK):Prop
 | mk (l:_) (xs:_) (y:_) (_:x=.ref l) (_:vs=[y]) (_:H l=some #[236]) (_:xs.length<sizeLine) (_:Q .non (upd H l (.lst (xs++[y]))))
theorem bD:MtM X "list.append" ady:=by
 exists 35
 obtain⟨l,xs,y,rfl,rfl,hH,hz,q⟩:=h
 cases rx
 obtain⟨u,rfl,ru⟩:=rv.one
 exists 65
 refine qW F.slot_list_append ⟨_,e,rfl⟩ F.entry_list_append (F.args_list_append_2 _ _) (PySem.list_append l aX.toArray n u #[301]) ⟨e,?_⟩
 refine⟨.non,_,I.acY (its' := aX++[u]) hH e #[10] (r.append (.cons ru .nil)) ?_,rfl,q⟩
 rw[jH,jX]
 omega
inductive RJ (x:V) (vs:List V) (H:Hp) (Q:VK):Prop
 | mk (l:_) (b:_) (xs:_) (zs:_) (_:x=.ref l) (_:vs=[.ref b]) (_:H l=some #[236]) (_:H b=some (.lst zs)) (_:xs.length+zs.length<=sizeLine) (_:Q .non (upd H l (.lst (xs++zs))))
theorem Hg:MtM X "list.extend" RJ:=by
 exists 35
 obtain⟨l,b,xs,zs,rfl,rfl,hH,hB,hz,q⟩:=h
 cases rx
 obtain⟨u,rfl,ru⟩:=rv.one
 cases ru
 exists 65
 obtain⟨z2,C9,n2,r2,hl2,e2⟩:=I.Fu hB
 have hsz:aX.toArray.size+C9.toArray.size<=sizeLine:=by rw[jS,jS];omega
 have Z6:¬ (!aX.toArray.isEmpty&&yH (aX.toArray.size+C9.toArray.size))=true:=by
  rw[Mm hsz,Zk]
  exact jo
 refine qW Xu ⟨_,e,rfl⟩ Xo (Xk _ _)
  (AutoSeq1.list_extend_list_list_0 l aX.toArray n b C9.toArray n2 Z6 #[301] #[0]) ⟨e,e2,?_⟩
 refine⟨.non,_,I.acY (its' := aX++C9) hH e #[10] (r.append r2) ?_,rfl,q⟩
 rw[jH]
 omega
inductive anI (x:V) (vs:List V) (H:Hp) (Q:VK):Prop
 | mk (l:_) (xs:_) (y:_) (_:x=.ref l) (_:vs=[]) (_:H l=some #[236]) (_:xs[xs.length-1]?=some y) (_:Q y (upd H l (.lst xs.dropLast)))
theorem O4:MtM X "list.pop" anI:=by
 exists 35
 obtain⟨l,xs,y,rfl,rfl,hH,hy,q⟩:=h
 cases rx
 have hus:=rv.zero
 subst hus
 exists 65
 obtain⟨u,hu,ru⟩:=r.get hy
 have hy':aX.toArray[aX.toArray.size-1]?=some u:=by
  show aX.toArray[aX.length-1]?=some u
  rw[<- Jb,<- hl]
  exact hu
 refine qW F.slot_list_pop ⟨_,e,rfl⟩ F.entry_list_pop (F.args_list_pop_1 _) (MeetsSeq.list_pop_last l aX.toArray n u hy' #[301]) ⟨e,?_⟩
 refine⟨y,_,I.acY (its' := aX.dropLast) hH e ?_ r.dropLast ?_,ru,q⟩
 ·show aX.toArray.eraseIdxIfInBounds (aX.toArray.size-1)=aX.dropLast.toArray
  rw[jS,List.eraseIdxIfInBounds_toArray,OH]
 ·rw[ZE]
  omega
inductive anF (x:V) (y:V) (H:Hp) (Q:VK):Prop
 | mk (l:_) (b:_) (xs:_) (zs:_) (_:x=.ref l) (_:y=.ref b) (_:H l=some #[236]) (_:H b=some (.lst zs)) (_:xs.length+zs.length<=sizeLine) (_:∀ p,H p=none->Q (.ref p) (upd H p (.lst (xs++zs))))
theorem agb:DB X (binaryOp .Add) anF:=by
 exists 28
 obtain⟨l,b,xs,zs,rfl,rfl,hH,hB,hz,q⟩:=h
 cases rx
 cases ry
 exists 65
 obtain⟨z2,C9,n2,r2,hl2,e2⟩:=I.Fu hB
 refine PySem.P.add_list e e2 ?_ (by rw[jS,jS];omega)
 have ea:aX.toArray++C9.toArray=(aX++C9).toArray:=by simp
 rw[ea]
 exact⟨.ref _,_,I.am6 (t' := s.toks) (r.append r2) (by rw[jH];omega),rfl,q _ I.fresh⟩
end
end L2
namespace Att
open PySem PySem.W PySem.Calls PyProof.Rows
variable{h:Heap}{n:Nat}{vals:List Value}{q prog:qJ}{loose:List qN}{w:World}
theorem C8{P:Params}:∀ (ns:List Int) (vs:List Value),WellAll P h vs (ns.map WData.int)->qB vs ns:=by
 intro ns
 induction ns with
 | nil =>
  intro vs w
  rw[Zy]at w
  cases w
  exact .nil
 | cons n ns ih =>
  intro vs w
  rw[JN]at w
  cases w with
  | cons a b =>
   cases a
   exact .cons _ _ (ih _ b)
theorem TL{l:OpenLaw}(hn:l.most=some n){P:Params}{args:List WData}(acG:l.row.toRowW.claim.pre args=true)(hwl:WellAll P h vals args):
  ∃ a vs ns,vals=[Yi a]/\args=[WData.list (ns.map WData.int)]/\h.get? a=some { cls:=.type "list",data:=.seq vs.toArray }/\qB vs ns/\ns.length<=n:=by
 have hsh:WShape.hasAll [] args [.list .int]=true:=(pre_splitW acG).1
 have hc:l.pre.holds [] { args:=args }=true:=(pre_splitW acG).2
 obtain⟨d,r,rfl,h1,h2⟩:=hasAllW_cons hsh
 obtain rfl:=hasAllW_nil h2
 obtain⟨xs,rfl,h3⟩:=hasW_list h1
 obtain⟨ns,rfl⟩:=items_int h3
 have hlen:ns.length<=n:=by
  unfold OpenLaw.pre at hc
  have h4:(WTm.not (.lt (.lit (.int (n:Int))) (.len (.arg 0)))).holds [] { args:=[.list (ns.map .int)] }=true:=by
   have h4:=(holds_andW hc).1
   rw[hn]at h4
   exact h4
  have h5:=condW_of h4 (w_not (w_lt w_lit (w_len_list (w_arg rfl))))
  rw[jW]at h5
  refine ZY fun q=>?_
  have q':(n:Int)<((ns.length:Nat):Int):=by omega
  first
   | (rw[decide_eq_true q']at h5;exact absurd h5 #[13])
   | (simp at h5;omega)
 cases hwl with
 | cons w1 w2 =>
  cases w2
  cases w1 with
  | list ho LK=>exact⟨_,_,ns,rfl,rfl,ho,C8 ns _ LK,hlen⟩
theorem TH(l:OpenLaw)(args:List WData):l.row.toRowW.claim.post args (.bool true) args=true:=
 postW_of (r:=l.row.toRowW) (X:=(true==true))
  (show WShape.has [] (.bool true) .bool=true by first|rfl|decide|simp[WShape.has,WShape.arms,WShape.armsAll])
  (show(WTm.eq .res (.lit (.bool true))).value [] { args:=args,res:=some (.bool true),after:=args }=some (.bool (true==true))from w_eq_bool (w_res rfl) w_lit) rfl
theorem Lb{l:OpenLaw}{XP:(qN->Option Value)->Heap->Prop}{YP:World->Heap->Prop}{d:DefRec}(hn:l.most=some n)(hdf:d.params.defaults=[])(call:∀ (w:World) (s₀ s₁:qM) (mg mb:qN->Option Value) (fa:Qo) (o:Obj) (pm cd doc:Value) (a:Qo) (vs:List Value) (ns:List Int),
   Ground q loose [] XP w s₀ mg mb s₁.heap->YP w s₁.heap ->
   s₁.heap.get? fa=some o->o.data=.func (docDef d.name d.params d.body d.scope pm cd doc)->s₁.heap.CodeRec cd d.name->mg d.name=some (.ref fa) ->
   s₁.heap.get? a=some { cls:=.type "list",data:=.seq vs.toArray }->qB vs ns->ns.length<=n->s₁.gens=#[] ->
   codeAny (model l.prog w) callerA (.call (.ref fa) ⟨[.ref a],[]⟩) #[69] s₁):
  WalkO q loose XP YP l.row.toRowW d [] (fun f vs=>xP f vs):=by
 intro w s₀ s₁ mg mb G Y fa o pm cd doc dV kV ho hd HY hD hmg hg args vals as acG ark hrd hwl hlo
 obtain rfl:dV=.none:=Dflts.none hD hdf
 obtain rfl:kV=.none:=Dflts.noKw hD
 obtain⟨a,vs,ns,rfl,rfl,afD,hints,hlen⟩:=TL hn acG hwl
 refine enter_call (qg (call w s₀ s₁ mg mb fa o pm cd doc a vs ns G Y ho (fd_plain hd) HY hmg afD hints hlen hg) fun r s' hq=>?_)
 obtain⟨rfl,h2,h3,h4⟩:=hq
 exact⟨.inl ⟨.bool true,.bool true,[],rfl,fun _=>rfl,.bool true,TH l _,fun _=>⟨List.Pairwise.nil,fun _ hm=>(nomatch hm)⟩⟩,h2,h3,h4⟩
section
def ledger(h:Heap)(L d:Qo):List #[68]:=(jZ h.objs.size).filterMap fun a=>if a=L\/a=d then none else(h.get? a).map fun o=>(a,o)
end
end Att
namespace L2
open PySem PySem.Spec PyProof.Rows
variable{P q prog:qJ}{w:World}{K:Yh}{mg mb m:qN→Option Value}{CX:J1}{a l c it:Qo}{fd:Qz}{x y:qN}{sp:Sp}{s₁ s:qM}{vs:List Value}{ns:List Int}{n i:Nat}{loose N:List qN}{X:Cx}{base h':Heap}{A:Around}{pos py:Pos}{H H':Hp}{xs:List V}{scope:Scope}{env:Qx}{pins:List (Qo×Obj)}{σ:St}{ix:List (Option Nat)}{fp:List Qo}{R:Result→qM→Prop}{elt iter:Expr}{te:TE}{wi:TI}{Qd:Qo→Hp→Prop}{E:Value→qM→Prop}{lo:Int}
theorem Hx:∀ {vs:List Value} {ns:List Int},qB vs ns->Vals #[37] vs
 | _,_,.nil=>.nil
 | _,_,.cons n t h=>.cons ⟨t,rfl⟩ (Hx h)
def aeT(H:Hp):Prop := ∀ b,H b=none\/∃ o xs,H b=some (.se o #[236])
theorem aaq{k:Nat}{fa:Qo}(KX:K.In s₁.heap)(hns:s₁.heap.Ns WA mg)(hb:s₁.heap.Ns builtinsNs mb)(hbb:∀ x:qN,x ≠ "__name__" -> mb x=qS x)(amn:s₁.heap.NoLimit)(hg:s₁.gens=#[])(ha:s₁.heap.get? a=some { cls:=.type "list",data:=.seq vs.toArray })(hi:qB vs ns)(hl:ns.length<=sizeLine)(hr:dM k callerA)(F:∀ base:Heap,K.In base->base.Ns WA mg->bw P w K mg base CX k fa fd [x] sp)(aia:∀ (s:qM) (u:Value),Qr s fd ⟨[u],[]⟩ [(x,u)])(ON:∀ H:Hp,aeT H->pk K H a #[37]->sp [.ref a] H (fun v _=>v=.bl true) fun _ _ _=>False)(hCX:∀ H e s',CX [] H s₁ (fun _ _ _=>False) e s'->False):
  codeAny #[42] callerA (.call (.ref fa) ⟨[.ref a],[]⟩) #[69] s₁:=by
 have rv:=Hx hi
 have am5:=hi.length
 have core:∀ H:Hp,aeT H->pk K H a #[37]->lM P w H s₁.heap->(∀ b,H b≠none->b=a)->(H a≠none->K.lookup a=none) ->
   codeAny #[42] callerA (.call (.ref fa) ⟨[.ref a],[]⟩) #[69] s₁:=by
  intro H hO hS hok hA hK
  have Q3:∀ {b:Qo} {o:Obj},s₁.heap.get? b=some o->H b=none->(Ia s₁.heap H).get? b=some o:=fun e n=>Y8 e n
  have noA:∀ {b:Qo} {o:Obj} {es:Array Qu} {ep:Nat},s₁.heap.get? b=some o->o.data=.dict es ep->H b=none:=fun {b o es ep} e d=>by
   cases q:H b with
   | none=>rfl
   | some u =>
    have e':b=a:=hA b (by rw[q];simp)
    subst e'
    rw[ha]at e;cases e
    have d':Data.seq vs.toArray _=Data.dict es ep:=d
    cases d'
  have nsK:∀ {b:Qo} {m:qN->Option Value},s₁.heap.Ns b m->(Ia s₁.heap H).Ns b m:=fun {b m} ⟨o,es,ep,e,d,r⟩=>⟨o,es,ep,Q3 e (noA e d),d,r⟩
  have hKb:K.In (Ia s₁.heap H):=fun b o e=>Q3 (KX b o e) (by
   cases q:H b with
   | none=>rfl
   | some u =>
    have e':b=a:=hA b (by rw[q];simp)
    subst e'
    rw[hK (by rw[q];simp)]at e;cases e)
  have hM:Mod K mg (Ia s₁.heap H):=⟨hKb,nsK hns,⟨mb,nsK hb,hbb⟩,let ⟨mc,h1,h2⟩:=amn;⟨mc,nsK h1,h2⟩⟩
  have e0:Fc P w K mg (Ia s₁.heap H) callerA [] s₁ H:=⟨rfl,hM,fun b o e=>ac4 e,Zx (SW _ _),trivial,fun b hb=>absurd (show b∈([]:List Qo)from hb) #[10],hok,.of_eq hg⟩
  refine qg ((F _ hKb (nsK hns)).run callerA [] s₁ H ⟨[.ref a],[]⟩ [.ref a] [.ref a] _ _ hr e0 (aia s₁ #[203]) (.cons rfl .nil) (ON H hO hS)) fun r s' h=>?_
  cases r with
  | error e=>exact(hCX H e s' h).elim
  | ok fl =>
   cases fl with
   | next=>exact False.elim h
   | brk=>exact False.elim h
   | cont=>exact False.elim h
   | ret u =>
    obtain⟨v,H',os,bare,un,amw,r',q⟩:=h
    have q':v=.bl true:=q
    subst q'
    obtain rfl:u=yc true:=r'
    refine⟨rfl,OldK.of_keep fun b o e=>?_,os,bare⟩
    cases q:H b with
    | none=>exact un.keep b o e q (by intro z;exact absurd (show b∈([]:List Qo)from z) #[10]) #[10]
    | some u =>
     rcases hO b with z|⟨ob,xs,z⟩
     ·rw[q]at z;cases z
     ·have z2:=un.frzs b ob _ z
      obtain⟨e1,_⟩:=hok b _ z
      obtain⟨e2,_⟩:=amw b _ z2
      rw[e]at e1;cases e1
      exact e2
 cases hk:K.lookup a with
 | some o =>
  have e:=KX a o hk
  rw[ha]at e
  cases e
  refine core (fun _=>none) (fun _=>.inl rfl) (.inr ⟨_,vs.toArray,_,hk,rfl,rfl,rfl,by rw[jS,am5];exact hl,by simpa using rv⟩) (fun b u z=>by have z':(none:Option HO)=some u:=z;cases z') (fun b z=>absurd rfl z) fun z=>absurd rfl z
 | none =>
  refine core (fun b=>if b=a then some (.se { cls:=.type "list",data:=.seq vs.toArray } (.lst #[37]))else none) (fun b=>?_) (.inl (.inr ⟨{ cls:=.type "list",data:=.seq vs.toArray },if_pos rfl⟩)) (fun b u z=>?_) (fun b z=>?_) fun _=>hk
  ·by_cases hb:b=a
   ·exact .inr ⟨_,_,if_pos hb⟩
   ·exact .inl (if_neg hb)
  ·by_cases hb:b=a
   ·have z' := (if_pos hb).symm.trans z
    cases z'
    subst hb
    exact⟨ha,by rw[jW];exact hl,vs,_,rv,ha⟩
   ·have z' := (if_neg hb).symm.trans z
    cases z'
  ·by_cases hb:b=a
   ·exact hb
   ·exact absurd (if_neg hb) z
theorem adY{l:yp}{k:Nat}{XP:(qN->Option Value)->Heap->Prop}{YP:World->Heap->Prop}{d:DefRec}{K:Params->Yh}{CX:World->J1}{sp:World->Sp}(hn:l.most=some n)(hn2:n<=sizeLine)(hdf:d.params.defaults=[])(hr:dM k callerA)(hY:∀ (w:World) (h:Heap),YP w h->#[227].In h)(F:∀ (w:World) (mg:qN->Option Value) (fa:Qo) (h:Heap),#[227].In h->h.Ns WA mg->mg d.name=some (.ref fa) ->
   ∃ fd:Qz,(∀ (s:qM) (u:Value),Qr s fd ⟨[u],[]⟩ [(x,u)]) /\
    ∀ base:Heap,#[227].In base->base.Ns WA mg->bw l.prog w #[227] mg base (CX w) k fa fd [x] (sp w))(ON:∀ (w:World) (H:Hp) (a:Qo) (ns:List Int),ns.length<=n->aeT H->pk #[227] H a #[37]->sp w [.ref a] H (fun v _=>v=.bl true) fun _ _ _=>False)(hCX:∀ (w:World) (H:Hp) (s:qM) (e:Value) (s':qM),CX w [] H s (fun _ _ _=>False) e s'->False):
  xb q loose XP YP l.row.toRowW d [] (fun f vs=>xP f vs):=by
 refine Att.Lb hn hdf fun w s₀ s₁ mg mb fa o pm cd doc a vs ns G Y ho hd HY hmg afD hints hlen hg=>?_
 have KX:=hY w _ Y
 obtain⟨fd,hb,hF⟩:=F w mg fa _ KX G.T.g hmg
 exact aaq KX G.T.g G.T.b G.T.builtins G.T.nolimit hg afD hints (jk hlen hn2) hr hF hb (fun H hO hS=>ON w H a ns hlen hO hS) fun H e s'=>hCX w H s₁ e s'
def inClass(s:Stmt)(j:Nat):Stmt:=match s with
 | .ClassDef _ _ _ body _ _ _ _ _ _ _=>body.getD j (.Pass ⟨0,0,0,0⟩)
 | _=>.Pass ⟨0,0,0,0⟩
def eM(s:Stmt):Qq:=match s with
 | .FunctionDef _ a _ _ _ _ _ _ _ _=>a
 | _=>{ posonlyargs:=[],args:=[],vararg:=none,kwonlyargs:=[],kw_defaults:=[],kwarg:=none,defaults:=[] }
def di(s:Stmt):List Stmt:=match s with
 | .FunctionDef _ _ b _ _ _ _ _ _ _=>b
 | _=>[]
def ar(s:Stmt):Scope:=match s with
 | .FunctionDef _ _ _ _ _ _ sc _ _ _=>sc
 | _=>{ kind:=.function,names:=[],isGenerator:=false,isCoroutine:=false }
abbrev eS:J1:=fun _ _ _ _ _ _=>False
abbrev E0:XK:=fun _ _ _=>False
theorem aaW:Passes eS X E0:=fun _ _ _ _ _ _ _ h=>h.elim
theorem mP{k:Nat}(hr:dM k A):A.units+1<cLine:=zk (Nat.add_le_add_left (by decide:1<=64) _) hr.units
theorem aw(h:n<=1000):n<sizeLine:=zk h #[13]
section
theorem pv(i:Nat)(hN:X.N[i]?=some x:=by rfl)(hv:Vis X.env.scope x:=by first|exact Or.inl rfl|exact Or.inr #[248]|exact Or.inr (Or.inr rfl))(hd:#[18]=false:=by decide)(HY:(x==("__classdict__" : qN))=false:=by decide):PE X #[270] (aj0 i):=agg hN hv hd HY
end
theorem lQ{A B:Prop}(h:B):if false=true then A else B:=by
 rw[if_neg jo]
 exact h
theorem oU{A B:Prop}(h:A):if true=true then A else B:=by
 rw[if_pos rfl]
 exact h
theorem afS{c A B:Prop}[Decidable c](h1:c->A)(h2:¬ c->B):if c then A else B:=by
 by_cases h:c
 ·rw[if_pos h]
  exact h1 h
 ·rw[if_neg h]
  exact h2 h
def ay(H H':Hp):Prop := ∀ b o,H b=some o->H' b=some o
theorem ay.trans{H1 H2:Hp}(a:ay H H1)(b:ay H1 H2):ay H H2:=fun c o h=>b c o (a c o h)
theorem ay.free(e:ay H H')(h:H' l=QI):H l=QI:=by
 cases q:H l with
 | none=>rfl
 | some o =>
  rw[e l o q]at h
  cases h
theorem ay.seq(e:ay H H')(h:pk K H a xs):pk K H' a xs:=by
 rcases h with(h|⟨o,h⟩)|h
 ·exact .inl (.inl (e _ _ h))
 ·exact .inl (.inr ⟨o,e _ _ h⟩)
 ·exact .inr h
def dE(cells:List (qN×Qo)):List (qN×qG)->List (qN×Qo)->List (qN×Qo)
 | [],cs=>cs
 | (n,k) :: r,cs=>dE cells r (if k==.free then(n,(cells.lookup n).getD 0) :: cs else cs)
theorem pY(h:∀ y∈scope.names,y.2=.free->∃ c,env.cells.lookup y.1=some c):
  closureFor scope env=pure (dE env.cells scope.names []):=by
 have all:∀ (ns:List (qN×qG)) (cs:List (qN×Qo)),(∀ y∈ns,y.2=.free->∃ c,env.cells.lookup y.1=some c) ->
   (forIn ns cs (fun(x:qN×qG) (r:List (qN×Qo))=>(match x with
    | (name,kind)=>if (kind==NameKind.free)=true then(do let c <- cellOf env name;pure (ForInStep.yield ((name,c) :: r)))else pure (ForInStep.yield r):qK (ForInStep (List (qN×Qo))))):qK (List (qN×Qo)))
   = pure (dE env.cells ns cs):=by
  intro ns
  induction ns with
  | nil=>intro cs _;rfl
  | cons y r ih =>
   intro cs hy
   obtain⟨n,k⟩:=y
   rw[Zd]
   by_cases hk:k=.free
   ·subst hk
    obtain⟨c,e⟩:=hy (n,.free) jE rfl
    have e':env.cells.lookup n=some c:=e
    have e1:cellOf env n=pure c:=by unfold cellOf;rw[e']
    simp only[beq_self_eq_true,if_true,e1,pure_bind]
    rw[ih _ fun z hz=>hy z (jJ _ hz)]
    simp only[dE,beq_self_eq_true,if_true,e',zu]
   ·have hb:(k==NameKind.free)=false:=by simpa using hk
    simp only[hb,JE,if_false,pure_bind]
    rw[ih _ fun z hz=>hy z (jJ _ hz)]
    simp only[dE,hb,JE,if_false]
 unfold closureFor
 have q:=all scope.names [] h
 simp only[bind_pure]
 exact q
theorem Ao(cells:List (qN×Qo)):∀ (ns:List (qN×qG)) (cs:List (qN×Qo)),(dE cells ns cs).lookup x=some c ->
  (#[298]∈ns/\(cells.lookup x).getD 0=c)\/cs.lookup x=some c
 | [],_,h=>.inr h
 | (n,k) :: r,cs,h=>by
  rcases Ao cells r _ h with⟨h1,h2⟩|h1
  ·exact .inl ⟨jJ _ h1,h2⟩
  ·by_cases hk:k=.free
   ·subst hk
    simp only[beq_self_eq_true,if_true]at h1
    by_cases hx:x=n
    ·subst hx
     simp only[JL,beq_self_eq_true]at h1
     exact .inl ⟨jE,Option.some.inj h1⟩
    ·have hb:(x==n)=false:=by simpa using hx
     simp only[JL,hb]at h1
     exact .inr h1
   ·have hb:(k==NameKind.free)=false:=by simpa using hk
    simp only[hb,JE,if_false]at h1
    exact .inr h1
theorem sE(cells:List (qN×Qo))(e:cells.lookup x=some c):∀ (ns:List (qN×qG)) (cs:List (qN×Qo)),(#[298]∈ns\/cs.lookup x=some c) ->
  (dE cells ns cs).lookup x=some c
 | [],_,h=>by
  rcases h with h|h
  ·cases h
  ·exact h
 | (n,k) :: r,cs,h=>by
  refine sE cells e r _ ?_
  rcases h with h|h
  ·rcases jU.mp h with z|z
   ·cases z
    right
    simp only[beq_self_eq_true,if_true,JL,e,zu]
   ·exact .inl z
  ·right
   by_cases hk:(k==NameKind.free)=true
   ·rw[if_pos hk]
    by_cases hx:x=n
    ·subst hx
     simp only[JL,beq_self_eq_true,e,zu]
    ·have hb:(x==n)=false:=by simpa using hx
     simp only[JL,hb]
     exact h
   ·rw[if_neg hk]
    exact h
theorem BL{env:Qx}:∀ {names:List (qN×qG)} {x:qN},names.lookup x=some .free ->
  #[121].lookup x=some .cell \/
  #[121].lookup x=some .free
 | [],_,h=>by simp at h
 | (n,k) :: r,x,h=>by
  have ih:=@BL env r x
  show Jg x (#[164] :: _)=_ \/
   Jg x (#[164] :: _)=_
  cases hx:x==n with
  | true =>
   simp only[JL,hx]at h
   cases h
   by_cases hc:(NameKind.free==NameKind.free&&env.scope.kind==.function&&env.kindOf n==some .cell)=true
   ·rw[if_pos hc];simp only[JL,hx];first|exact .inl trivial|exact .inl rfl
   ·rw[if_neg hc];simp only[JL,hx];first|exact .inr trivial|exact .inr rfl
  | false =>
   simp only[JL,hx]at h
   by_cases hc:#[9]=true
   ·rw[if_pos hc];simp only[JL,hx];exact ih h
   ·rw[if_neg hc];simp only[JL,hx];exact ih h
theorem sZ{env:Qx}:∀ {names:List (qN×qG)} {x:qN} {k':qG},k'=.cell\/k'=.free->(∀ y∈names,y.2≠.cell) ->
  #[121].lookup x=some k'->#[298]∈names
 | [],_,_,_,_,h=>by simp at h
 | (n,k) :: r,x,k',Dm,hn,h=>by
  have ih:=@sZ env r x k' Dm (fun y hy=>hn y (jJ _ hy))
  have h':Jg x (#[164] :: (r.map fun(n,k)=>if #[9]then(n,NameKind.cell)else(n,k)))=some k' := h
  have hkc:k≠.cell:=hn (n,k) jE
  cases hx:x==n with
  | true =>
   have hxn:x=n:=by simpa using hx
   subst hxn
   by_cases hc:(k==NameKind.free&&env.scope.kind==.function&&env.kindOf x==some .cell)=true
   ·have hk:k=.free:=by
     simp only[zv,beq_iff_eq]at hc
     exact hc.1.1
    subst hk
    exact jE
   ·rw[if_neg hc]at h'
    simp only[JL,beq_self_eq_true]at h'
    have hk:k=k' := Option.some.inj h'
    rcases Dm with z|z
    ·exact absurd (hk.trans z) hkc
    ·rw[hk,z];exact jE
  | false =>
   refine jJ _ (ih ?_)
   by_cases hc:#[9]=true
   ·rw[if_pos hc]at h'
    simpa only[JL,hx]using h'
   ·rw[if_neg hc]at h'
    simpa only[JL,hx]using h'
def aP(ix:List (Option Nat))(σ:St):St:=ix.map fun o=>match o with
 | none=>none
 | some i=>(σ[i]?).join
structure aU(NX:List qN)(scX:Scope)(N:List qN)(ix:List (Option Nat))(sc:Scope):Prop where
 kind:sc.kind=.function
 nd:N.Nodup
 nocell:∀ y∈sc.names,y.2≠.cell
 locs:∀ y∈sc.names,y.2=.local->sc.names.lookup y.1=some .local
 free:∀ y∈sc.names,y.2=.free->scX.names.lookup y.1=some .cell\/scX.names.lookup y.1=some .free
 len:ix.length=N.length
 at_:∀ p∈N.zip ix,∀ i,p.2=some i->NX[i]?=some p.1/\sc.names.lookup p.1=some .free
def cP(X:Cx)(N:List qN)(scope:Scope)(fp:List Qo)(s:qM)(H:Hp)(C:Qo):Cx:=
 { prog:=X.prog,w:=X.w,K:=X.K,mg:=X.mg,base:=X.base,A:=X.A,N:=N,s₀:=s,H₀:=H,env:=compEnvC scope #[100] C X.env,outer:=X.stack,stack:=X.stack,ex:=fp,fn:=fun _=>false,calm:=X.calm,pn:=X.pn,xe:=fun _ _=>False }
theorem De{names:List (qN×qG)}(h:names.lookup x=some .free):#[298]∈names:=yJ h
section
theorem aU.V6(S:aU X.N X.env.scope N ix scope)(ok:X.Ok):∀ y∈scope.names,y.2=.free->∃ c,X.env.cells.lookup y.1=some c:=fun y hy hf=>ok.has y.1 (S.free y hy hf)
theorem G0{D C:Qo}{tk:Nat}(I:Inv X pins σ H s)(S:aU X.N X.env.scope N ix scope)(hf:∀ b∈fp,tI X pins H b)(hfo:∀ b∈fp,∃ o,s.heap.get? b=some o/\∀ v,o.data≠.cell v)(hD:s.heap.objs.size<=D)(hC:s.heap.objs.size<=C)(hDC:D≠C)(hk:∀ b o,s.heap.get? b=some o->h'.get? b=some o)(hns:h'.Ns C m)(hl:∃ n,h'.get? D=some { cls:=.type "list",data:=.seq ([]:List Value).toArray n }):
  Inv #[43] pins #[91] #[75] { s with heap:=h',toks:=tk }:=by
 have fresh:∀ {a:Qo},s.heap.objs.size<=a->H a=none:=fun h=>I.hok.fresh h
 have FQ:∀ x c,#[100].lookup x=some c->X.env.cells.lookup x=some c:=fun x c e=>by
  rcases Ao _ _ _ e with⟨h1,h2⟩|h1
  ·obtain⟨c',e'⟩:=S.V6 I.ok _ h1 rfl
   have e'':X.env.cells.lookup x=some c' := e'
   rw[e'']at h2
   rw[e'']
   exact congrArg some h2
  ·simp at h1
 have ltO:∀ {b:Qo} {o:Obj},s.heap.get? b=some o->b<s.heap.objs.size:=fun e=>jL e
 have neC:∀ {b:Qo} {o:Obj},s.heap.get? b=some o->b≠C:=fun e=>jQ (jh (ltO e) hC)
 have neD:∀ {b:Qo} {o:Obj},s.heap.get? b=some o->b≠D:=fun e=>jQ (jh (ltO e) hD)
 have ahL:∀ x c,X.env.cells.lookup x=some c->∃ o,s.heap.get? c=some o:=fun x c e=>by
  obtain⟨v,o,ho,_⟩:=I.cell x c e
  exact⟨o,ho⟩
 refine⟨⟨I.ok.mod,?_,I.ok.glob,I.ok.blt,hC,fun x y c e1 e2=>I.ok.inj x y c (FQ x c e1) (FQ y c e2),fun x hx=>?_,fun x c h _=>?_,I.ok.hd,I.ok.frames,.inl rfl,fun b hb=>?_,I.bs,jk I.ok.bsz I.sz,fun b o e hb=>?_,fun b hb hb2=>?_,I.stack,I.IH⟩,
  rfl,I.bare,Un.laid hk hD (fresh hD),⟨m,hns,fun j x v e1 e2 e3=>?_⟩,fun x c e=>?_,?_,fun x c e=>?_,fun p hp=>?_,I.hok.laid hk hD ?_,?_⟩
 ·exact S.kind
 ·have IZ:#[298]∈scope.names:=by
   rcases hx with hx|hx
   ·exact sZ #[95] S.nocell hx
   ·exact sZ (.inr rfl) S.nocell hx
  obtain⟨c,e⟩:=S.V6 I.ok _ IZ rfl
  exact⟨c,sE _ e _ _ (.inl IZ)⟩
 ·exact absurd (show false=true from h) jo
 ·obtain⟨f0,f1,f2,f3,f4,f5⟩:=hf b hb
  obtain⟨o,e,_⟩:=hfo b hb
  exact⟨neC e,fun x c ec=>f4 x c (FQ x c ec)⟩
 ·obtain⟨f0,f1,f2,f3,f4,f5⟩:=hf b hb
  rcases f3 with z|z
  ·exact I.ok.noex b o e z
  ·exact absurd (jh (jL (I.ok.bs b o e).1) z) (JX _)
 ·obtain⟨f0,f1,f2,f3,f4,f5⟩:=hf b hb
  rcases jU.mp (I.II b hb2)with z|z
  ·exact f1 z
  ·exact f2 z
 ·-- a anl value
  obtain⟨mX,hnX,hlX⟩:=id I.loc
  have hj:#[91][j]?=some (some v):=e2
  unfold aP at hj
  rw[jO]at hj
  cases ej:ix[j]? with
  | none=>rw[ej]at hj;cases hj
  | some o =>
   rw[ej]at hj
   cases o with
   | none=>cases hj
   | some i =>
    have hj':(σ[i]?).join=some v:=Option.some.inj hj
    have hz:(x,some i)∈N.zip ix:=JF.mpr ⟨j,by rw[List.getElem?_zip_eq_some];exact⟨e1,ej⟩⟩
    obtain⟨hNi,Rj⟩:=S.at_ _ hz i rfl
    have aiy:=De Rj
    have hσ:σ[i]?=some (some v):=by
     cases q:σ[i]? with
     | none=>rw[q]at hj';cases hj'
     | some w' =>
      rw[q]at hj'
      have q':w'=some v:=hj'
      rw[q']
    have hvx:X.env.scope.names.lookup x=some .cell\/X.env.scope.names.lookup x=some .free:=S.free _ aiy rfl
    obtain⟨u,r,lk⟩:=hlX i x v hNi hσ (.inr hvx)
    refine⟨u,r,.inr ⟨?_,?_⟩⟩
    ·exact BL Rj
    ·rcases lk with⟨k,_⟩|⟨k,c,ec,ci⟩
     ·have k':X.env.scope.names.lookup x=some .local:=k
      rcases hvx with z|z
      ·rw[z]at k';cases k'
      ·rw[z]at k';cases k'
     ·obtain⟨oc,hoc,afE⟩:=ci
      exact⟨c,sE _ ec _ _ (.inl aiy),oc,hk c oc hoc,afE⟩
 ·obtain⟨v,o,ho,hd⟩:=I.cell x c (FQ x c e)
  exact⟨v,o,hk c o ho,hd⟩
 ·show upd H D (.lst []) C=none
  rw[ag (Ne.symm hDC)]
  exact fresh hC
 ·obtain⟨o,ho⟩:=ahL x c (FQ x c e)
  rw[ag (neD ho)]
  exact I.freeC x c (FQ x c e)
 ·exists 79
  refine⟨hk _ _ e,by rw[ag (neD e)];exact n,neC e,fun z=>?_,d⟩
  rcases jU.mp (I.II p.1 z)with q|q
  ·exact ne q
  ·exact nf q
 ·obtain⟨n,hl⟩:=hl
  exact⟨jd _,[],n,.nil,hl⟩
 ·show#[91].length=N.length
  unfold aP
  rw[jW]
  exact S.len
end
theorem Lo{target:Expr}{it acc:Value}(I:Nat->qM->Prop)(turn:∀ n s,I n s->wpAny #[7] A (pyNext it) (fun r s₁=>match r with
   | none=>R (.ok .next) s₁
   | some v=>wpAny #[7] A (letOwnedTupleGo target it v) (fun _ N4=>wpAny #[7] A (assign target env v) (fun _ s₂=>wpAny #[7] A (eval elt env) (fun x s₃ =>
     wpAny #[7] A (call (.builtin "list.append") [acc,x]) (fun _ s₄=>∃ m,m<n/\I m s₄) #[127] s₃)
     #[127] s₂) #[127] N4) #[127] s₁) #[127] s)(n:Nat)(h:I n s):
  codeAny #[7] A (.compLoop (.ListComp elt [⟨target,iter,[],0⟩] scope pos) 0 it acc env) R s:=by
 refine codeAny_loop rfl I (fun n s hI=>?_) n h
 show wpAny _ _ ((compTurn (.ListComp elt [⟨target,iter,[],0⟩] scope pos) 0 it acc env).onRaise (fun x=>do noteFrame x env;theTreesLotGoes x)) _ _ s
 refine wpAny_noted ?_
 rw[compTurn_list1]
 refine WY (YY (WY (YB (turn n s hI) (fun r s₁ h₁=>?_) fun _ _ h'=>h'.elim)))
 cases r with
 | none=>exact YJ h₁
 | some v =>
  refine WY (YB h₁ (fun _ N4 aah=>?_) fun _ _ h'=>h'.elim)
  exact WY (YB aah (fun _ s₂ h₂=>WY (WY (YB h₂ (fun x s₃ h₃=>WY (YB h₃
   (fun _ s₄ h₄=>YJ (YJ ⟨rfl,h₄⟩)) fun _ _ h'=>h'.elim)) fun _ _ h'=>h'.elim))) fun _ _ h'=>h'.elim)
def AZ(J:It)(ix:List (Option Nat))(g:TG)(te:TE)(σ:St)(H:Hp)(Qd:Qo->Hp->Prop):Prop:=
 ∀ D,H D=none->∃ W:Nat->Nat->St->Hp->Prop,(∃ m,W 0 m #[91] #[75])/\∀ i m σ' H',W i m σ' H' ->
  (J.stop i H'/\Qd D H')\/(J.go i H'/\∀ x H2,J.yld i H' x H2->g x σ' H2 fun σ3 H3=>te σ3 H3 fun y H4=>∃ ys,H4 D=some #[88]/\ys.length<sizeLine/\∃ m',m'<m/\W (i+1) m' σ3 (upd H4 D (.lst (ys++[y]))))
section
variable{tg:Expr}{adH:Pos}{J:It}{tn:Nat->Heap->Prop}{g:TG}
theorem Lr{RR:Value->Qo->Result->qM->Prop}{E:Value->qM->Prop}(I:Inv X pins σ H s)(hc:X.calm=true)(S:aU X.N X.env.scope N ix scope)(T:Turn X.prog X.w X.K tg J fp it tn)(st:tn 0 s.heap)(f2:∀ b∈fp,tI X pins H b)(hg:∀ C,PG #[43] tg g)(he:∀ C,PE #[43] elt te)(hW:AZ J ix g te σ H Qd)(hR:∀ D C s' H' m,Inv X pins σ H' s'->s'.heap.Ns C m->tI X pins H' C->Qd D H'->RR #[86] C (.ok .next) s'):
  wpAny #[4] X.A (newList []) (fun acc s₃=>wpAny #[4] X.A (newFunctionEnv scope X.env.globals #[100] [] X.env.qual none .none (some X.env)) (fun V3 s₄ =>
   codeAny #[4] X.A (.compStart #[46] 0 #[194] acc { V3 with scope:=relabel scope X.env }) (RR acc V3.locals) s₄) E s₃) E s:=by
 refine YE (YC S.nocell (by intro y hy;simp at hy) (fun h₁ AJ sI=>?_) S.kind)
 dsimp only at AJ sI ⊢
 generalize hH2:s.heap.push { cls:=.type "list",dict:=none,data:=.seq ([]:List Value).toArray }=H2 at AJ sI ⊢
 have hC:H2.objs.size=s.heap.objs.size+1:=by rw[<- hH2,JA]
 have hDC:s.heap.objs.size≠H2.objs.size:=by rw[hC];exact jQ (JU _)
 have X9:s.heap.objs.size<=H2.objs.size:=by rw[hC];exact JS _
 have below:∀ b,b<s.heap.objs.size->b≠H2.objs.size:=fun b hb=>by rw[hC];exact jQ (Jz hb)
 have old:∀ b o,s.heap.get? b=some o->h₁.get? b=some o:=fun b o e=>sI.extBut b o (below b (jL e)) (jA _ (hH2 ▸ jA _ e))
 have sH:∃ n,h₁.get? s.heap.objs.size=some { cls:=.type "list",data:=.seq ([]:List Value).toArray n }:=⟨_,sI.extBut _ _ hDC (jA _ (hH2 ▸ jK _ rfl))⟩
 have Oe:tn 0 h₁:=T.keep _ _ _ st fun b _ o e=>old b o e
 have fo:∀ b∈fp,∃ o,s.heap.get? b=some o/\∀ v,o.data≠.cell v:=T.obj _ _ st
 have I0:Inv #[33] pins #[91] #[150] { s with heap:=h₁,toks:=s.toks+([]:List #[205]).length }:=
  G0 I S f2 fo (jF _) X9 hDC old AJ sH
 have freshD:H s.heap.objs.size=none:=I.hok.fresh (jF _)
 obtain⟨W,⟨m0,w0⟩,turn⟩:=hW s.heap.objs.size freshD
 have V5:∀ b∈fp,b≠H2.objs.size:=fun b hb=>by
  obtain⟨o,e,_⟩:=fo b hb
  exact below b (jL e)
 have EM:∀ {H':Hp},#[132]->∀ b∈fp,tI #[33] pins H' b:=fun hn b hb=>by
  exists 71
  exact⟨hn b hb,V5 b hb,I0.ok.exfs b hb,.inl hb,(I0.ok.exf b hb).2,f6⟩
 have fr0:∀ b∈fp,#[150] b=none:=fun b hb=>by
  obtain⟨o,e,_⟩:=fo b hb
  rw[ag (jQ (jL e))]
  exact(f2 b hb).1
 have loop:codeAny #[4] X.A (.compLoop #[46] 0 #[194] #[15] (compEnvC scope #[100] H2.objs.size X.env))
   (RR #[15] H2.objs.size) { s with heap:=h₁,toks:=s.toks+([]:List #[205]).length }:=by
  refine Lo (fun n s'=>∃ i σ' H',Inv #[33] pins σ' H' s'/\tn i s'.heap/\#[132]/\W i n σ' H') ?_ m0 ⟨0,_,_,I0,Oe,fr0,w0⟩
  rintro n s3 ⟨i,σ3,H3,I3,st3,fr3,w3⟩
  rcases turn i n σ3 H3 w3 with⟨stop,qn⟩|⟨go,step⟩
  ·refine bX (T.done #[33] rfl rfl rfl hc i pins s3 σ3 H3 _ I3 (EM fr3) st3 stop) fun r s4 ⟨hr,I4⟩=>?_
   subst hr
   obtain⟨m4,hn4,_⟩:=id I4.loc
   refine hR _ _ s4 H3 m4 ?_ hn4 (I.AG X9 I4.free) qn
   exact I.DR (ch:=fp) I4.os I4.base I4.hok I4.bare fun b hb=>by
    exists 71
    exact⟨f4,f1,f5,f6⟩
  ·refine bX (T.item #[33] rfl rfl rfl hc i pins s3 σ3 H3 _ I3 (EM fr3) st3 go) fun r s4 ⟨u,hr,h4⟩=>?_
   subst hr
   refine bX h4 fun _ s5 ⟨x,H5,I5,r5,y5,E8,fr5⟩=>?_
   have I5' := I5.pinned (EM fr5) (T.obj _ _ E8)
   refine bX (hg _ _ s5 σ3 H5 x u _ I5' r5 (step x H5 y5)) fun _ s6 ⟨σ6,H6,I6,q6⟩=>?_
   refine bX (he _ _ s6 σ6 H6 _ I6 q6) fun yv s7 ⟨y,H7,I7,r7,ys,LH,hz7,m',hm,w7⟩=>?_
   refine bX (bD (X:=cP X N scope fp s H H2.objs.size) _ s7 σ6 H7 #[15] [y] #[15] [yv] (fun _ H8=>W (i+1) m' σ6 H8) I7 rfl (.cons r7 .nil) ⟨_,ys,y,rfl,rfl,LH,hz7,w7⟩) fun _ s8 ⟨_,H8,I8,_,w8⟩=>?_
   refine⟨m',hm,i+1,σ6,H8,I8.sd,T.keep _ _ _ E8 fun b hb o e=>#[293].1,fun b hb=>?_,w8⟩
   exists 75
   exact#[293].2.1
 exact qf loop (T.self _ _ _ _ _ Oe loop)
def aeD(ix:List (Option Nat))(wi:TI)(g:TG)(te:TE):TE:=fun σ H Q=>wi σ H fun J H1=>AZ J ix g te σ H1 fun D H'=>Q #[86] H'
theorem cT(hc:X.calm=true)(S:aU X.N X.env.scope N ix scope)(hi:PI X tg iter wi)(hg:∀ fp s H C,PG #[43] tg g)(he:∀ fp s H C,PE #[43] elt te)(hs:∀ x,foldedSetIterable iter X.env x=pure x:=by intro _;rfl):PE X #[46] (aeD ix wi g te):=by
 exists 5
 rw[eval_ListComp]
 refine Wc (use:=none) rfl hs (pY (S.V6 I.ok)) S.kind S.locs #[59]
 obtain⟨it,fp,tn,J,H2,e,I2,T,PD,f2,hW⟩:=h2
 subst e
 refine Lr (RR:=fun acc C=>compPost #[4] X.A X.xe none #[77] acc C) I2 hc S T PD f2 (hg _ _ _) (he _ _ _) hW ?_
 intro D C s' H' m I' hn fC q
 exact⟨m,hn,fun h' sb=>⟨.ref D,H',I'.turned (t' := s'.toks) (fun b o hb e=>(sb.2 b hb).trans e) fC.1 fC.2.1 fC.2.2.2.1 fC.2.2.2.2.1 fC.2.2.2.2.2,rfl,q⟩⟩
theorem iq(hc:X.calm=true)(hN:X.N.Nodup)(hyi:X.N[i]?=some y)(hy:Loc X.env.scope y)(S:aU X.N X.env.scope N ix scope)(hi:PI X tg iter wi)(hg:∀ fp s H C,PG #[43] tg g)(he:∀ fp s H C,PE #[43] elt te)(hsw:WJ #[46] (some (.Name y py)) adH.line X.env=pure true:=by rfl)(hf:X.fn y=true\/X.env.scope.names.lookup y=some .local:=by first|exact .inl rfl|exact .inr rfl|assumption)(hs:∀ x,foldedSetIterable iter X.env x=pure x:=by intro _;rfl):PS X (.Assign [.Name y py] #[46] adH) (EO (aeD ix wi g te) (ba i)):=by
 exists 21
 rw[exec_Assign_Name_used _ _ _ _ hsw]
 refine WY (YY (WY ?_))
 show wpAny _ X.A (do let _ <- comprehension #[46] scope X.env _ (newList []) false (eval iter X.env) (some (assign (.Name y py) X.env))) _ _ s
 refine WY (YB (Wc (use:=some (assign (.Name y py) X.env)) (Q:=fun _ s'=>SP X pins D .next s') rfl hs (pY (S.V6 I.ok)) S.kind S.locs
  #[59]) (fun _ s' hq=>YJ (YJ hq)) fun _ _ e=>e)
 obtain⟨it,fp,tn,J,H2,e,I2,T,PD,f2,hW⟩:=h2
 subst e
 refine Lr (RR:=fun acc C=>compPost #[4] X.A X.xe (some (assign (.Name y py) X.env)) (fun _ s'=>SP X pins D .next s') acc C) I2 hc S T PD f2 (hg _ _ _) (he _ _ _) hW ?_
 intro Dl C s' H' m I' hn fC q
 show wpAny _ X.A (assign (.Name y py) X.env (.ref Dl)) _ _ s'
 refine WW (Hu I' hN hyi hy (v:=.ref Dl) rfl (fun s2 I2' hsb=>?_) hf)
 obtain⟨a,sb,ha⟩:=hsb
 refine⟨m,hn.sameBut sb ?_,fun h3 sb3=>⟨_,H',I2'.turned (t' := s2.toks) (fun b o hb e=>(sb3.2 b hb).trans e) fC.1 fC.2.1 fC.2.2.2.1 fC.2.2.2.2.1 fC.2.2.2.2.2,q⟩⟩
 rcases ha with z|z
 ·rw[z];exact fC.2.1
 ·exact Ne.symm (fC.2.2.2.2.1 _ _ z)
end
theorem ig(Pv:Qo->Nat->List V->Hp->Prop)(h0:∀ D,H D=none->Pv D 0 [] #[75])(hs:∀ D i ys H' (Q':VK),H D=none->i<n->H' D=some #[88]->Pv D i ys H'->#[8] ->
   te (#[91].set 0 (some (.int (lo+i)))) H' Q')(hd:∀ D ys H',H D=none->H' D=some #[88]->Pv D n ys H'->Qd D H'):AZ (Itr lo n) ix (ba 0) te σ H Qd:=by
 intro D hD
 refine⟨fun i m σ' H'=>m=n-i/\i<=n/\#[50]/\∃ ys,H' D=some #[88]/\Pv D i ys H',⟨n,by simp,jd _,.inl rfl,[],ae,h0 D hD⟩,?_⟩
 exists 12
 by_cases dy:i<n
 ·refine .inr ⟨dy,fun x H2 y=>?_⟩
  obtain⟨e1,e2⟩:=y
  subst e1
  subst e2
  have es:σ'.set 0 #[175]=#[91].set 0 #[175]:=by
   exists 76
   ·rw[z]
   ·rw[z,zH]
  show te (σ'.set 0 #[175]) _ _
  rw[es]
  refine hs D i ys _ _ hD dy hy p fun y H4 h4 hz p4=>⟨ys,h4,hz,n-(i+1),by omega,rfl,dy,.inr ⟨_,rfl⟩,ys++[y],ae,p4⟩
 ·have e:i=n:=by omega
  subst e
  exact .inl ⟨jF _,hd D ys H' hD hy p⟩
theorem iE(Pv:Qo->Nat->List V->Hp->Prop)(h0:∀ D,H D=none->Pv D 0 [] #[75])(hl:∀ D i ys H',i<=xs.length->Pv D i ys H'->pk K H' a xs)(hs:∀ D i x ys H' (Q':VK),H D=none->xs[i]?=some x->H' D=some #[88]->Pv D i ys H'->#[8] ->
   te (#[91].set 0 (some x)) H' Q')(hd:∀ D ys H',H D=none->H' D=some #[88]->Pv D xs.length ys H'->Qd D H'):AZ (Itl K a) ix (ba 0) te σ H Qd:=by
 intro D hD
 refine⟨fun i m σ' H'=>m=xs.length-i/\i<=xs.length/\#[50]/\∃ ys,H' D=some #[88]/\Pv D i ys H',⟨xs.length,by simp,jd _,.inl rfl,[],ae,h0 D hD⟩,?_⟩
 exists 12
 exists 96
 exists 72
 ·exists 40
  obtain⟨e1,e2⟩:=y
  subst e1
  have ex:=e2 xs q
  have es:σ'.set 0 (some x)=#[91].set 0 (some x):=by
   exists 76
   ·rw[z]
   ·rw[z,zH]
  show te (σ'.set 0 (some x)) _ _
  rw[es]
  refine hs D i x ys _ _ hD ex hy p fun y H4 h4 hz p4=>⟨ys,h4,hz,xs.length-(i+1),by omega,rfl,dy,.inr ⟨_,rfl⟩,ys++[y],ae,p4⟩
 ·exists 43
  subst e
  exists 62
section
inductive anH (K:Yh) (xs:List V) (H:Hp) (Q:VK):Prop
 | mk (x:_) (n:_) (t:_) (b:_) (_:xs=[x,.ty n]) (_:pX K H x t) (_:Ys K t (.type n)=some b) (_:Q (.bl b) H)
theorem mw:iz X #[261] (anH X.K):=by
 exists 8
 obtain⟨x,n,t,b,rfl,ty,e,q⟩:=h
 obtain⟨u,v,rfl,ru,rv⟩:=r.two
 cases(show v=yA n from rv)
 exact SX I ru ty e fun tk=>⟨.bl b,H,I.tok tk,rfl,q⟩
end
end L2
namespace HT
open PySem PySem.Spec PyProof.Rows
end HT
namespace L2
open PySem PySem.Spec PyProof.Rows
variable{X:Cx}{P:qJ}{w:World}{K:Yh}{mg:qN→Option Value}{base:Heap}{x qual:qN}{st:Stmt}{dV oc:Value}{f:Qo}{fd:Qz}{ps:List qN}{sp:Sp}{ds:List Value}{o:Obj}{items:Array Value}{n:Nat}{od an:Option Qo}{Hj:Array (Option Value)}{iJ xs:List V}{p pos:Pos}{e tg a:Expr}{es:List Expr}{H:Hp}{ta:TA}{tb:TS}{D:Ends}{σ:St}{c:TT}{pins:List (Qo×Obj)}{s:qM}
structure bL(K:Yh)(x qual:qN)(st:Stmt)(dV:Value)(f:Qo)(fd:Qz):Prop where
 ex:∃ (oc:Value) (od:Option Qo) (kV doc pm:Value) (an:Option Qo) (cC ct:Value) (Hj:Array (Option Value)),
  fd=Yr x qual (eM st) (di st) (ar st) dV kV doc pm an cC ct/\K.lookup f=some ⟨oc,od,.func fd,Hj⟩/\yE K cC qual=true
 kp:Yp K #[94]=true
section
theorem bL.ok{N:List qN}{k:Nat}(F:bL K x qual st dV f fd)(S:aE N ps (ar st))(len:∀ vs H Q E,sp vs H Q E->vs.length=ps.length)(Bv:∀ (cC:Value) (A:Around) (outer:List Qx) (s:qM) (H:Hp) (vs:List V) (Q:VK) (E:XK),dM k #[135]->sp vs H Q E ->
   ∃ t,HC (cu eS P w K mg base N qual (ar st) f cC A outer s H E).lI (di st) t/\t { nx:=fun _ H'=>Q .non H',rt:=Q } #[218] H):bw P w K mg base eS (k+1) f fd ps sp:=by
 exists 10
 refine ad6 lk HY S len fun A outer s H vs Q E hr ON=>?_
 obtain⟨t,h,q⟩:=Bv cC A outer s H vs Q E hr ON
 exact⟨t,h.lI,q⟩
theorem bL.binds(F:bL K x qual st .none f fd)(h:∀ (kV doc pm:Value) (an:Option Qo) (cC ct:Value) (us:List Value),us.length=ps.length->bindArgs (Yr x qual (eM st) (di st) (ar st) .none kV doc pm an cC ct) ⟨us,[]⟩=pure (ps.zip us)):Binds K fd ps []:=by
 exists 10
 exact .all (h kV doc pm an cC ct)
theorem bL.Oq{T:Qo}(F:bL K x qual st #[249] f fd)(ho:K.lookup T=some o)(hs:o.data=.seq items n)(m:Nat)(hm:m+ds.length=ps.length)(h:∀ (kV doc pm:Value) (an:Option Qo) (cC ct:Value) (us:List Value),us.length=m->∃ k:Option (Array Value)->qK (List #[205]),
   bindArgs (Yr x qual (eM st) (di st) (ar st) #[249] kV doc pm an cC ct) ⟨us,[]⟩=seqItems? #[249]>>=k/\k (some items)=pure (ps.zip (us++ds))):Binds K fd ps ds:=by
 exists 10
 intro s us X hl
 obtain⟨k,h1,h2⟩:=h kV doc pm an cC ct us (by rw[jH]at hl;omega)
 exact BindsTo.of_defaults (fd:=Yr x qual (eM st) (di st) (ar st) #[249] kV doc pm an cC ct) rfl (X _ _ ho) hs h1 h2
theorem Bt{kV doc pm cC ct:Value}(l:K.lookup f=some ⟨oc,od,.func (Yr x qual (eM st) (di st) (ar st) dV kV doc pm an cC ct),Hj⟩)(c:yE K cC qual=true)(k:Yp K #[94]=true):bL K x qual st dV f (Yr x qual (eM st) (di st) (ar st) dV kV doc pm an cC ct):=⟨⟨oc,od,kV,doc,pm,an,cC,ct,Hj,rfl,l,c⟩,k⟩
structure bQ(P:qJ)(w:World)(K:Yh)(mg:qN->Option Value)(base:Heap)(x:qN)(k:Nat)(ps:List qN)(iJ:List V)(sp:Sp):Prop where
 ex:∃ (f:Qo) (fd:Qz) (ds:List Value),mg x=some #[94]/\Yp K #[94]=true/\Vals iJ ds/\Binds K fd ps ds/\bw P w K mg base eS k f fd ps sp
end
section
variable{j k:Nat}{t:TA}
theorem bE(G:bQ X.prog X.w X.K X.mg X.base x k ps iJ sp)(hr:dM j X.A)(ha:PA X (e :: es) t)(hx:∀ e s,X.xe e s=False:=by intro _ _;rfl)(LQ:k<=j:=by decide)(hg:Gl X x:=by rfl)(Cf:#[18]=false:=by decide)(he:WH (e :: es) X.env=#[20] :: WH es X.env:=by rfl)(Al:#[29].any (·.1)=false:=by rfl):
  PE X #[27] (N6 sp iJ E0 t):=by
 exists 46
 exact Io F #[276] hg hm hk hb hd (fun _ _ _ _ _ _ _ h=>h.elim) ha Cf he Al
end
theorem CI(K:Yh):Ys K (.type "int") (.type "int")=some true:=by with_unfolding_all rfl
theorem BC(K:Yh):Ys K (.type "int") (.type "bool")=some false:=by with_unfolding_all rfl
theorem aj{p:Qo}(h:H p=none)(o:HO):ay H (upd H p o):=fun b u q=>by rw[ag (ao q h)];exact q
theorem small(h:n<=1000):n<=sizeLine:=Jl (aw h)
theorem bx:qS "len" = some #[232]:=by decide +kernel
theorem ae7:qS "min" = some (.builtin "min"):=by decide +kernel
theorem ae6:qS "max" = some (.builtin "max"):=by decide +kernel
theorem cf:qS "isinstance" = some #[261]:=by decide +kernel
theorem ae5:qS "any" = some (.builtin "any"):=by decide +kernel
theorem Sj:qS "sorted" = some (.builtin "sorted"):=by decide +kernel
theorem Ot:qS "int" = some (.type "int"):=by decide +kernel
theorem Q4:qS "bool" = some (.type "bool"):=by decide +kernel
theorem bW:qS "tuple" = some (.type "tuple"):=by decide +kernel
theorem wQ:qS "list" = some #[282]:=by decide +kernel
theorem Bm:qS "dict" = some #[281]:=by decide +kernel
theorem DP:qS "set" = some (.type "set"):=by decide +kernel
theorem Ld:qS "reversed" = some (.type "reversed"):=by decide +kernel
def BIG:Int:=2^4000
theorem Lc{k:Int}(h0:0<=k)(h:k<BIG):k.natAbs.log2<4000:=by
 rcases Jt k.natAbs with z|hp
 ·rw[z];decide +kernel
 ·refine(Qk #[0]).mpr ?_
  have e:BIG=((2^4000:Nat):Int):=by unfold BIG;norm_cast
  rw[e]at h
  omega
def U4(i j:Int):Prop:=(0<=i/\i<BIG)/\(0<=j/\j<BIG)
theorem U4.ok{i j:Int}(h:U4 i j):IntMulOk i j:=by
 have one:∀ {k:Int},0<=k->k<BIG->Xp k<=2^20:=fun {k} h0 h1=>by
  unfold Xp
  have:=Lc h0 h1
  split<;>omega
 exact .of_bits (one h.1.1 h.1.2) (one h.2.1 h.2.2)
def ahr(i j:Int):Prop:=0<j/\j<BIG
section
theorem adi:DB X (binaryOp .Mult) (rI U4 fun i j=>.int (i*j)):=opI fun _ _ _ _ _ _ _ hc q=>Gd q hc.ok
theorem aaR:DB X (binaryOp .FloorDiv) (rI ahr fun i j=>.int (i / j)):=opI fun i j _ _ _ _ _ hc q=>by
 have h1:(0:Int)<j:=hc.1
 have h2:j<BIG:=hc.2
 have h3:=Lc (ZZ h1) h2
 exact floordiv_int #[0] (by rw[ZU i #[0]];exact q) (.inl (PyProof.noPylong_of_log2 #[0]))
end
def Itv(K:Yh)(a:Qo)(n:Nat):It:=
 ⟨fun i H=>i<n/\∃ xs,pk K H a xs/\xs.length=n,fun i H x H'=>H'=H/\∀ xs,pk K H a xs->xs[n-1-i]?=some x,fun i H=>i=n⟩
theorem abH(a it:Qo)(n:Nat):Turn P w K tg (Itv K a n) [it] it (fun i h=>i<=n/\Xl h it a ((n:Int)-1-(i:Int))) where
 mem:=by simp
 obj:=fun i h st b hb=>by
  exists 31
  subst e
  obtain⟨_,o,e,c,d⟩:=st
  exists 16
 keep:=fun i h h' st k=>⟨st.1,st.2.at fun o e=>k it #[10] o e⟩
 item:=by
  exists 1
  exists 92
  obtain⟨hi,xs,hq,hn⟩:=hg
  exists 67
  have hj:n-1-i<xs.length:=by omega
  obtain⟨u,hu,ru⟩:=rv.get (i:=n-1-i) (x:=xs[n-1-i]) (by simp[hj])
  exists 2
  have e:(n:Int)-1-(i:Int)=((n-1-i:Nat):Int):=by omega
  have PD:=st.2
  rw[e]at PD
  refine wpAny_pyNext_rev_item PD p.isList (x:=u) (by simpa using hu) fun h' EL sb=>?_
  exists 4
  obtain⟨o,eo,c,d⟩:=id EL
  refine⟨u,rfl,FZ (s:={ s with heap:=h' }) eo c d #[13] ⟨xs[n-1-i],H,I1,ru,⟨rfl,fun ys hy=>by rw[I.Ek hy hq];simp[hj]⟩,⟨by omega,?_⟩,fun b hb=>(hf b hb).1⟩⟩
  have e2:(n:Int)-1-((i+1:Nat):Int)=((n-1-i:Nat):Int)-1:=by omega
  rw[e2]
  exact EL
 done:=by
  exists 1
  exists 92
  have hg':i=n:=hg
  exists 2
  have e:(n:Int)-1-(i:Int) = -1:=by omega
  have PD:=st.2
  rw[e]at PD
  exact wpAny_pyNext_rev_end #[120] PD fun h' eb=>⟨rfl,I.turned (t' := s.toks) #[97] f0 f1 f3 f4 f5⟩
 self:=fun _ _ _ _ _ st h=>YM st.2 h
section
def amV(K:Yh)(ta:TA):TI:=fun σ H R=>ta σ H fun vs H1=>∃ a xs,vs=[.ref a]/\pk K H1 a xs/\R (Itv K a xs.length) H1
theorem agj(hg:Gl X "reversed")(hm:X.mg "reversed" = none)(ha:PA X [a] ta)(hs:WH [a] X.env=[(false,eval a X.env)]:=by rfl):PI X tg (.Call (.Name "reversed" p) [a] [] pos) (amV X.K ta):=by
 exists 42
 refine Qs (oV I hg hm Ld (Yq #[109] hs rfl))
 obtain⟨l,xs,e,hq,q⟩:=q1
 subst e
 cases r1 with
 | cons r rr =>
  cases rr
  cases r
  obtain⟨aX,rv,pl,hz⟩:=I1.list hq
  have hlen:=rv.length
  refine call_reversed_list pl.isList ?_
  have I2:Inv X pins σ H1 { s1 with heap:=s1.heap.push (revObj l ((aX.toArray.size:Int)-1)) }:=I1.kept (t' := s1.toks) fun b o e=>jA _ e
  have hit:Xl (s1.heap.push (revObj l ((aX.toArray.size:Int)-1))) s1.heap.objs.size l ((xs.length:Int)-1-((0:Nat):Int)):=by
   refine⟨_,jK _ rfl,rfl,?_⟩
   have e:((aX.toArray.size:Int)-1)=(xs.length:Int)-1-((0:Nat):Int):=by rw[jS];omega
   rw[<- e]
   rfl
  refine YM hit ?_
  refine⟨s1.heap.objs.size,[s1.heap.objs.size],_,_,H1,rfl,I2,abH l _ xs.length,⟨jd _,hit⟩,fun b hb=>?_,q⟩
  exists 24
  subst e
  exists 15
end
theorem ack{a:Qo}{g:TG}(Pv:Nat->St->Hp->Prop)(h0:Pv 0 σ H)(hl:∀ i σ H,i<=xs.length->Pv i σ H->pk K H a xs)(hs:∀ i x σ H,i<xs.length->xs[xs.length-1-i]?=some x->Pv i σ H->g x σ H fun σ2 H2=>tb { D with nx:=Pv (i+1),ct:=Pv (i+1),bk:=D.nx } σ2 H2)(hd:∀ σ H,Pv xs.length σ H->D.nx σ H):
  ∃ W:Nat->Nat->St->Hp->Prop,#[181]/\∀ i m σ H,W i m σ H ->
   ((Itv K a xs.length).stop i H/\D.nx σ H)\/((Itv K a xs.length).go i H/\∃ N:St->Hp->Prop,#[17]/\∀ x H',(Itv K a xs.length).yld i H x H'->g x σ H' fun σ2 H2=>tb { D with nx:=N,ct:=N,bk:=D.nx } σ2 H2):=by
 exists 7
 exists 50
 exists 99
 exists 72
 ·refine .inr ⟨⟨dy,xs,q,rfl⟩,Pv (i+1),fun σ' H' p'=>⟨xs.length-(i+1),by omega,rfl,dy,p'⟩,fun x H' y=>?_⟩
  obtain⟨e,y⟩:=y
  subst e
  exact hs i x σ _ dy (y xs q) p
 ·exists 43
  subst e
  exact .inl ⟨rfl,hd σ H p⟩
theorem Ag(Pv:Nat->St->Hp->Prop)(h0:∃ m,Pv m σ H)(hs:∀ m σ H,Pv m σ H->c σ H fun b H1=>if b=true then ∃ N:St->Hp->Prop,(∀ σ' H',N σ' H'->∃ m',m'<m/\Pv m' σ' H')/\tb { D with nx:=N,ct:=N,bk:=D.nx } σ H1 else D.nx σ H1):wJ c tb D σ H:=⟨Pv,h0,hs⟩
end L2
namespace PySem
variable{prog:qJ}{w:World}{A:Around}{R:Result→qM→Prop}{I:Qo}{n c:Nat}{s:qM}{E Q:Value→qM→Prop}
section
variable{fp wr:List Qo}{P:Nat->Value->Prop}{St:Nat->Heap->Prop}
theorem Si(a v:Value):argsOk "max" ⟨[a],[(Str.ofString "default",v)]⟩:=by unfold argsOk;kernel_rfl
theorem S9(W:qP prog w A.in1 I fp wr n P St)(bt:Nat->Nat->Bool)(Y4:CmpOf prog w A.in1 .Gt P bt)(S:Qo)(Y1:S∉fp)(kw:List #[205]):
  ∀ (k j:Nat) (s:qM) (vb:Value) (c:Nat),n-(j+1)=k->j+1<=n->St (j+1) s.heap->P (argBest bt j) vb ->
  s.heap.get? S=some { cls:=.type "list",dict:=none,data:=.seq #[vb,vb] c,slots := #[] } ->
  (∀ v h' tk,P (argBest bt (n-1)) v->#[112]->R (.ok (.ret v)) { s with heap:=h',toks:=tk }) ->
  codeAny #[7] A (.builtin "max.loop" ⟨[.ref I,.none,.ref S],kw⟩) R s:=by
 have hSw:S∉wr:=fun h=>Y1 (W.sub _ h)
 exists 25
 intro k
 induction k with
 | zero =>
  intro j s vb c hk hj tL hPb hS hR
  have tG:j+1=n:=by omega
  refine qY XI ?_
  rw[Around.under_plainId yK _]
  refine WY (m:=seqItems? (.ref S)) (YT hS rfl ?_)
  refine WY (m:=tryCatch #[244] _) (Yc (W.done s _ _ (tG ▸ tL) fun h' tk Dm=>?_))
  have F6:=Dm S _ hSw hS
  refine WY (m:=updateSeq S (fun _=>#[])) ?_
  refine Yg F6 rfl (WY (Wv (YJ ?_)))
  refine hR vb _ tk (by rw[<- tG];exact hPb) fun b o Oc hbS e=>(jg _ _ (Ne.symm hbS)).trans (Dm b o Oc e)
 | succ k ih =>
  intro j s vb c hk hj tL hPb hS hR
  have dy:j+1<n:=by omega
  refine qY XI ?_
  rw[Around.under_plainId yK _]
  refine WY (m:=seqItems? (.ref S)) (YT hS rfl ?_)
  refine WY (m:=tryCatch #[244] _) (Yc (W.item (j+1) s _ _ dy tL fun v h' tk hP C7 Dm=>?_))
  have F6:=Dm S _ hSw hS
  refine WY (m:=tryCatch (holding [v,v] (richCompare .Gt v vb>>=_)) _) (Yc (Wq (WY (Y4 (j+1) (argBest bt j) v vb _ _ _ hP hPb ?_))))
  refine WY (Wq (Yb ?_))
  refine WY (Wv (YJ ?_))
  cases hb:bt (j+1) (argBest bt j)with
  | true =>
   simp only[if_true]
   refine WY ?_
   refine Yg F6 rfl (WY (Wv ?_))
   rw[CD]
   refine YJ ⟨WC yK _,ih (j+1) _ v _ #[0] dy (W.frame _ _ _ C7 fun b hbf o e=>?_) (by simp only[argBest,hb,if_true];exact hP) (jr _ F6 rfl)
    fun v' h'' abF hP' Z1=>?_⟩
   ·exact(jg _ _ (fun h:S=b=>Y1 (by rw[h];exact hbf))).trans e
   ·exact hR v' h'' abF hP' fun b o Oc hbS e=>Z1 b o Oc hbS ((jg _ _ (Ne.symm hbS)).trans (Dm b o Oc e))
  | false =>
   simp only[JE,if_false]
   refine WY (Wv ?_)
   rw[CD]
   refine YJ ⟨WC yK _,ih (j+1) _ vb c #[0] dy C7 (by simp only[argBest,hb,JE,if_false];exact hPb) F6 fun v' h'' abF hP' Z1=>?_⟩
   exact hR v' h'' abF hP' fun b o Oc hbS e=>Z1 b o Oc hbS (Dm b o Oc e)
theorem Dd(W:qP prog w A.in1 I fp wr n P St)(bt:Nat->Nat->Bool)(Y4:CmpOf prog w A.in1 .Gt P bt)(S:Qo)(Y1:S∉fp)(d:Value)(tL:St 0 s.heap)(hS:s.heap.get? S=some { cls:=.type "list",dict:=none,data:=.seq #[] c,slots := #[] })(h0:n=0->∀ h' tk,#[112]->R (.ok (.ret d)) { s with heap:=h',toks:=tk })(hR:0<n->∀ v h' tk,P (argBest bt (n-1)) v->#[112]->R (.ok (.ret v)) { s with heap:=h',toks:=tk }):
  codeAny #[7] A (.builtin "max.loop" ⟨[.ref I,.none,.ref S],[#[226]]⟩) R s:=by
 have hSw:S∉wr:=fun h=>Y1 (W.sub _ h)
 exists 25
 refine qY XI ?_
 rw[Around.under_plainId yK _]
 refine WY (m:=seqItems? (.ref S)) (YT hS rfl ?_)
 rcases Jt n with hn|hn
 ·refine WY (m:=tryCatch #[244] _) (Yc (W.done s _ _ (hn ▸ tL) fun h' tk Dm=>?_))
  refine WY (m:=rule _) (YS (YJ ?_))
  exact h0 hn h' tk fun b o Oc _ e=>Dm b o Oc e
 refine WY (m:=tryCatch #[244] _) (Yc (W.item 0 s _ _ hn tL fun v h' tk hP C7 Dm=>?_))
 have F6:=Dm S _ hSw hS
 refine WY (m:=updateSeq S (fun _=>#[v,v])) ?_
 refine Yg F6 rfl ?_
 rw[CD]
 refine YJ ⟨WC yK _,S9 W bt Y4 S Y1 _ _ 0 _ v _ rfl hn (W.frame _ _ _ C7 fun b hbf o e=>?_) hP (jr _ F6 rfl) fun v' h'' abF hP' Z1=>?_⟩
 ·exact(jg _ _ (fun h:S=b=>Y1 (by rw[h];exact hbf))).trans e
 ·exact hR hn v' h'' abF hP' fun b o Oc hbS e=>Z1 b o Oc hbS ((jg _ _ (Ne.symm hbS)).trans (Dm b o Oc e))
end
section
theorem DW{x d:Value}(h:wpAny #[7] A.in1 (pyIter x) (fun it s₂=>∃ I fp wr n P St bt,it=.ref I/\qP prog w A.in1 I fp wr n P St/\St 0 s₂.heap/\(∀ b∈fp,b<s₂.heap.objs.size)/\CmpOf prog w A.in1 .Gt P bt /\
   (n=0->∀ h' tk,(∀ b o,b∉wr->s₂.heap.get? b=some o->h'.get? b=some o)->Q d { s₂ with heap:=h',toks:=tk }) /\
   (0<n->∀ v h' tk,P (argBest bt (n-1)) v->(∀ b o,b∉wr->s₂.heap.get? b=some o->h'.get? b=some o)->Q v { s₂ with heap:=h',toks:=tk })) E s):
  wpAny #[7] A (call (.builtin "max") [x] [#[226]]) Q E s:=by
 exists 25
 refine Ga F.kind_max F.plain_max F.entry_max (Si _ _) ?_
 refine WY (m:=XA "max" ["key","default"] 0 ⟨[],[#[226]]⟩) (YH (show XA "max" ["key","default"] 0 ⟨[],[#[226]]⟩=pure [none,some d]from rfl) ?_)
 refine WY (YJ ?_)
 refine WY (YB h (fun it s₂ h₂=>?_) fun _ _ e=>e)
 obtain⟨I,fp,wr,n,P,St,bt,rfl,W,tL,hfp,Y4,hQ0,hQ⟩:=h₂
 refine WY (YE ?_)
 have Y1:s₂.heap.objs.size∉fp:=fun hm=>JX _ (hfp _ hm)
 rw[CD]
 refine YJ ⟨WC yK _,Dd W bt Y4 s₂.heap.objs.size Y1 d (W.frame _ _ _ tL fun b _ o e=>jA _ e) (jK _ rfl) (fun hn h' tk hk=>?_) fun hn v h' tk hP hk=>?_⟩
 ·exact hQ0 hn h' tk fun b o Oc e=>hk b o Oc (jQ (jL e)) (jA _ e)
 ·exact hQ hn v h' tk hP fun b o Oc e=>hk b o Oc (jQ (jL e)) (jA _ e)
end
end PySem
namespace L2
open PySem PySem.Spec PyProof.Rows
variable{X:Cx}{pins:List (Qo×Obj)}{σ:St}{H H':Hp}{s:qM}{xs:List V}{Q E:Value→qM→Prop}{pos:Pos}{e tg l value:Expr}{d y v:V}{ta:TA}{td te tl tv:TE}{prog P:qJ}{w:World}{A:Around}{K:Yh}{a b:Qo}{ix:List (Option Nat)}{Qd:Qo→Hp→Prop}{κ:Type}{o:Option V}{d' u r:Value}{kvs:List (List Key×V)}{h h':Heap}{ks:List Key}{t':Nat}{ob:HO}{env:Qx}{vs values:List Expr}
section
inductive aev (K:Yh) (xs:List V) (zs:List V) (H:Hp) (Q:VK):Prop
 | mk (a:Qo) (ns:List Int) (d:V) (_:xs=[.ref a]) (_:zs=[d]) (_:pk K H a #[37]) (_:(ns=[]->Q d H)) (_:∀ M,M∈ns->(∀ z∈ns,z<=M)->Q (.int M) H)
theorem ac0{zs:List V}{us ws:List Value}{Q:VK}(hc:X.calm=true)(I:Inv X pins σ H s)(r:Vals xs us)(rz:Vals zs ws)(h:aev X.K xs zs H Q):
  wpAny #[4] X.A (call (.builtin "max") us (([Str.ofString "default"]:List qN).zip ws)) #[77] X.xe s:=by
 obtain⟨a,ns,d,rfl,rfl,hS,h0,h1⟩:=h
 obtain⟨u,rfl,ru⟩:=r.one
 obtain⟨dv,rfl,rd⟩:=rz.one
 cases(show u=Yi a from ru)
 obtain⟨aX,rv,ht,hz⟩:=I.list hS
 have hlen:=rv.length
 rw[jW]at hlen
 show wpAny _ _ (call (.builtin "max") [.ref a] [(Str.ofString "default",dv)]) _ _ s
 have dy:a<s.heap.objs.size:=by obtain⟨_,e,_⟩:=ht.isList;exact jL e
 refine DW (YL ht.isList ?_)
 have W:=Walks.list (prog:=X.prog) (w:=X.w) (A:=X.A.in1) #[120] s.heap.objs.size a (jQ dy) aX.toArray
 have acK:∀ (i:Nat) (v:Value),aX.toArray[i]?=some v->∃ t,v=.int (ns.getD i 0) t:=fun i v e=>by
  have e':aX[i]?=some v:=by simpa using e
  have hi:i<ns.length:=by rw[hlen];exact(js.mp e').1
  obtain⟨u,hu,ru⟩:=rv.get (i:=i) (x:=.int ns[i]) (by simp[hi])
  rw[e']at hu
  cases hu
  obtain⟨t,rfl⟩:=ru
  exact⟨t,by simp[hi]⟩
 refine⟨_,_,_,_,_,_,_,rfl,W,⟨⟨_,jK _ rfl,rfl,rfl⟩,ht.isList.push _⟩,fun b hb=>?_,CmpOf.ints_gt #[190] acK,fun hn h' tk hk=>?_,fun hn v h' tk hP hk=>?_⟩
 ·show b<(s.heap.push _).objs.size
  rw[JA]
  rcases jU.mp hb with rfl|hb
  ·exact JU _
  ·rw[jG.mp hb];exact Jz dy
 ·have hn':ns=[]:=zL.mp (by simp at hn;rw[hlen,hn];rfl)
  have I1:Inv X pins σ H { s with heap:=h',toks:=tk }:=I.kept (t' := tk) fun b o e=>hk b o (fun hm=>by
   rw[jG.mp hm]at e
   exact JX _ (jL e)) (jA _ e)
  exact⟨d,H,I1,rd,h0 hn'⟩
 ·have hn':0<ns.length:=by rw[hlen];simpa using hn
  have I1:Inv X pins σ H { s with heap:=h',toks:=tk }:=I.kept (t' := tk) fun b o e=>hk b o (fun hm=>by
   rw[jG.mp hm]at e
   exact JX _ (jL e)) (jA _ e)
  obtain⟨t,rfl⟩:=acK _ v hP
  have hb:=argBest_gt #[190] (aX.toArray.size-1)
  have hj:argBest (fun i j=>decide (ns.getD i 0 > ns.getD j 0)) (aX.toArray.size-1)<ns.length:=by
   have:=hb.1
   rw[jS]at this ⊢
   omega
  refine⟨.int _,H,I1,⟨t,rfl⟩,h1 _ ?_ fun z hzm=>?_⟩
  ·rw[jI,jC hj,zu];exact jM hj
  ·obtain⟨i,hi,rfl⟩:=jm hzm
   have:=hb.2 i #[301]
   simpa[jI,jC hi]using this
variable{p aiY:Pos}{d:Expr}
def ajR(K:Yh)(ta:TA)(td:TE):TE:=fun σ H Q=>ta σ H fun xs H1=>td σ H1 fun z H2=>aev K xs [z] H2 Q
theorem adn(hc:X.calm=true)(hg:Gl X "max")(hm:X.mg "max" = none)(ha:PA X [e] ta)(hd:PE X d td)(he:backTo pos (WH [e] X.env)=#[20] :: backTo pos (WH [] X.env):=by rfl)(hp:(backTo pos (WH [e] X.env)).any (·.1)=false:=by rfl):
  PE X (.Call (.Name "max" p) [e] [⟨some (Str.ofString "default"),d,aiY⟩] pos) (ajR X.K ta td):=by
 exists 5
 refine WR (oV I hg hm ae6 ?_)
 refine callWith_kw #[109] he hp
 refine kws_cons (bX (hd pins s1 σ H1 _ I1 q1) fun dv s2 ⟨z,H2,I2,r2,q2⟩=>kws_nil ?_)
 exact ac0 hc I2 r1 (.cons r2 .nil) q2
end
section
def amW(K:Yh)(tl:TE):TI:=fun σ H R=>tl σ H fun x H1=>∃ a,x=.ref a/\(((∃ xs,pk K H1 a xs)/\R (Itl K a) H1)\/((∃ xs,wO K H1 a xs)/\R (Itt K a) H1))
theorem agk(hl:PE X l tl):PI X tg l (amW X.K tl):=by
 exists 42
 exists 9
 obtain⟨a,rfl,q|q⟩:=q1
 ·cases r1
  obtain⟨⟨xs,hx⟩,q⟩:=q
  obtain⟨aX,rv,p,hz⟩:=I1.list hx
  refine YL p.isList ?_
  have I2:Inv X pins σ H1 { s1 with heap:=s1.heap.push { cls:=.type "list_iterator",data:=.fields #[.ref a,.int 0 0] } }:=I1.kept (t' := s1.toks) fun b o e=>jA _ e
  refine⟨s1.heap.objs.size,[s1.heap.objs.size],_,_,H1,rfl,I2,Hw a _,⟨_,jK _ rfl,rfl,rfl⟩,fun b hb=>?_,q⟩
  rw[jG.mp hb]
  exists 15
 ·cases r1
  obtain⟨⟨xs,hx⟩,q⟩:=q
  obtain⟨aX,rv,p,hz⟩:=I1.tuple hx
  refine YO (show s1.heap.IsTuple a aX.toArray from p) ?_
  have I2:Inv X pins σ H1 { s1 with heap:=s1.heap.push { cls:=.type "tuple_iterator",data:=.fields #[.ref a,.int 0 0] } }:=I1.kept (t' := s1.toks) fun b o e=>jA _ e
  refine⟨s1.heap.objs.size,[s1.heap.objs.size],_,_,H1,rfl,I2,ER a _,⟨_,jK _ rfl,rfl,rfl⟩,fun b hb=>?_,q⟩
  rw[jG.mp hb]
  exists 15
end
theorem mx(Pv:Qo->Nat->List V->Hp->Prop)(h0:∀ D,H D=none->Pv D 0 [] #[75])(hl:∀ D i ys H',i<=xs.length->Pv D i ys H'->wO K H' a xs)(hs:∀ D i x ys H' (Q':VK),H D=none->xs[i]?=some x->H' D=some #[88]->Pv D i ys H'->#[8] ->
   te (#[91].set 0 (some x)) H' Q')(hd:∀ D ys H',H D=none->H' D=some #[88]->Pv D xs.length ys H'->Qd D H'):AZ (Itt K a) ix (ba 0) te σ H Qd:=by
 intro D hD
 refine⟨fun i m σ' H'=>m=xs.length-i/\i<=xs.length/\#[50]/\∃ ys,H' D=some #[88]/\Pv D i ys H',⟨xs.length,by simp,jd _,.inl rfl,[],ae,h0 D hD⟩,?_⟩
 exists 12
 exists 96
 exists 72
 ·exists 40
  obtain⟨e1,e2⟩:=y
  subst e1
  have ex:=e2 xs q
  have es:σ'.set 0 (some x)=#[91].set 0 (some x):=by
   exists 76
   ·rw[z]
   ·rw[z,zH]
  show te (σ'.set 0 (some x)) _ _
  rw[es]
  refine hs D i x ys _ _ hD ex hy p fun y H4 h4 hz p4=>⟨ys,h4,hz,xs.length-(i+1),by omega,rfl,dy,.inr ⟨_,rfl⟩,ys++[y],ae,p4⟩
 ·exists 43
  subst e
  exists 62
section
theorem Bx(K:Yh)(h:X.K=K:=by rfl):IxR X (ajr K):=by subst h;exact cY
theorem Bz(K:Yh)(h:X.K=K:=by rfl):IxR X (ajs K):=by subst h;exact aI
end
section
variable[DecidableEq κ]
def eR(kvs:List (κ×V))(k:κ):Option V:=(kvs.find? fun kv=>decide (kv.1=k)).map (·.2)
def putK(kvs:List (κ×V))(k:κ)(v:V):List (κ×V):=
 if #[158]=true then kvs.map (fun kv=>if kv.1=k then(kv.1,v)else kv)else kvs++[(k,v)]
def D3(kvs:List (κ×V))(k:κ):List (κ×V):=kvs.filter fun kv=>decide (kv.1≠k)
theorem mF{p:κ×V}{r:List (κ×V)}{k:κ}(e:p.1=k):eR (p :: r) k=some p.2:=by simp[eR,zO,e]
theorem ft{p:κ×V}{r:List (κ×V)}{k:κ}(e:¬ p.1=k):eR (p :: r) k=eR r k:=by simp[eR,zO,e]
theorem ET(k:κ):∀ kvs:List (κ×V),#[158]=(eR kvs k).isSome
 | []=>rfl
 | p :: r=>by
  rw[Zp]
  by_cases e:p.1=k
  ·simp only[mF e,decide_eq_true e,Bool.true_or,Option.isSome_some]
  ·rw[ft e,decide_eq_false e,Bool.false_or];exact ET k r
theorem my(kvs:List (κ×V))(k:κ)(v:V):#[272].length<=kvs.length+1:=by
 unfold putK
 split
 ·rw[jW];omega
 ·rw[jH,jc,Jo];omega
theorem MD{kvs:List (κ×V)}{k:κ}(v:V)(h:eR kvs k=none):putK kvs k v=kvs++[(k,v)]:=by
 unfold putK
 rw[ET,h]
 exact if_neg #[13]
theorem pW.rO{u:Option Value}(r:pW o u):o.isSome=u.isSome:=by
 cases o with
 | none=>cases u with
  | none=>rfl
  | some _=>exact(show False from r).elim
 | some _=>cases u with
  | none=>exact(show False from r).elim
  | some _=>rfl
theorem pW.getD{u:Option Value}(r:pW o u)(rd:RelV d d'):RelV (o.getD d) (u.getD d'):=by
 cases o with
 | none=>cases u with
  | none=>exact rd
  | some _=>exact(show False from r).elim
 | some _=>cases u with
  | none=>exact(show False from r).elim
  | some _=>exact r
theorem KV.val{kvs:List (κ×V)}{vs:List (κ×Value)}(r:KV kvs vs)(k:κ):pW (eR kvs k) (valueAt vs k):=by
 unfold KV at r
 induction r with
 | nil=>exact True.intro
 | @cons p q ps qs h t ih =>
  obtain⟨h1,h2⟩:=h
  by_cases e:p.1=k
  ·have e':q.1=k:=h1.symm.trans e
   have b:valueAt (q :: qs) k=some q.2:=by simp[valueAt,zO,e']
   rw[mF e,b];exact h2
  ·have e':¬ q.1=k:=fun z=>e (h1.trans z)
   have b:valueAt (q :: qs) k=valueAt qs k:=by simp[valueAt,zO,e']
   rw[ft e,b];exact ih
theorem KV.any{kvs:List (κ×V)}{vs:List (κ×Value)}(r:KV kvs vs)(k:κ):#[158]=vs.any fun kv=>decide (kv.1=k):=by
 unfold KV at r
 induction r with
 | nil=>rfl
 | cons h t ih=>rw[Zp,Zp,ih,h.1]
theorem KV.agp{kvs:List (κ×V)}{vs:List (κ×Value)}(r:KV kvs vs)(k:κ)(ry:RelV y u):
  KV (kvs.map fun kv=>if kv.1=k then(kv.1,y)else kv) (vs.map fun kv=>if kv.1=k then(kv.1,u)else kv):=by
 unfold KV at r ⊢
 induction r with
 | nil=>exact .nil
 | @cons p q ps qs h t ih =>
  rw[JN,JN]
  refine .cons ?_ ih
  obtain⟨h1,h2⟩:=h
  by_cases e:p.1=k
  ·rw[if_pos e,if_pos (h1.symm.trans e)];exact⟨h1,ry⟩
  ·rw[if_neg e,if_neg (fun z=>e (h1.trans z))];exact⟨h1,h2⟩
theorem KV.put{kvs:List (κ×V)}{vs:List (κ×Value)}(r:KV kvs vs)(k:κ)(ry:RelV y u):KV (putK kvs k y) (stored vs k u):=by
 unfold putK stored
 rw[r.any k]
 by_cases e:(vs.any fun kv=>decide (kv.1=k))=true
 ·rw[if_pos e,if_pos e];exact r.agp k ry
 ·rw[if_neg e,if_neg e];exact Paired.snoc r ⟨rfl,ry⟩
theorem KV.drop{kvs:List (κ×V)}{vs:List (κ×Value)}(r:KV kvs vs)(k:κ):KV (D3 kvs k) (without vs k):=by
 unfold KV at r ⊢
 unfold D3 without
 induction r with
 | nil=>exact .nil
 | @cons p q ps qs h t ih =>
  obtain⟨h1,h2⟩:=h
  rw[QO,QO]
  by_cases e:p.1=k
  ·have a:¬ decide (p.1≠k)=true:=by simp[e]
   have b:¬ decide (q.1≠k)=true:=by simp[h1.symm.trans e]
   rw[if_neg a,if_neg b];exact ih
  ·have e':¬ q.1=k:=fun z=>e (h1.trans z)
   have a:decide (p.1≠k)=true:=by simp[e]
   have b:decide (q.1≠k)=true:=by simp[e']
   rw[if_pos a,if_pos b];exact .cons ⟨h1,h2⟩ ih
theorem KV.length{kvs:List (κ×V)}{vs:List (κ×Value)}(r:KV kvs vs):kvs.length=vs.length:=Paired.length r
theorem W6(kvs:List (κ×V))(k:κ):(D3 kvs k).length<=kvs.length:=Jc _ _
end
theorem wj{k:Key}(r:RelV (kV k) u):(bA P w).is k u=true:=by
 cases k with
 | inl i=>obtain⟨t,e⟩:=(show ∃ t,u=Yt i t from r);subst e;exact Mf P w i t
 | inr x=>obtain⟨t,e⟩:=(show ∃ t,u=yj x t from r);subst e;exact Mg P w x t
theorem G4:∀ {ks:List Key} {us:List Value},Vals (ks.map kV) us->ItemsAre (bA P w) ks us
 | [],_,r=>by rw[Zy]at r;cases r;exact .nil
 | k :: ks,_,r=>by
  rw[JN]at r
  cases r with
  | cons h t=>exact .cons (wj h) (G4 t)
abbrev KT(H:Hp):List #[84]->List #[71]->Prop:=qH fun p q=>p.1=q.1/\H q.2.1=some #[209]/\RelV p.2 q.2.2
theorem KT.val{xs:List #[71]}(r:KT H kvs xs)(k:List Key):pW (eR kvs k) ((atKey xs k).map (·.2)):=by
 induction r with
 | nil=>exact True.intro
 | @cons p q ps qs h t ih =>
  obtain⟨h1,_,h2⟩:=h
  by_cases e:p.1=k
  ·have e':q.1=k:=h1.symm.trans e
   have b:atKey (q :: qs) k=some q.2:=by simp[atKey,zO,e']
   rw[mF e,b];exact h2
  ·have e':¬ q.1=k:=fun z=>e (h1.trans z)
   have b:atKey (q :: qs) k=atKey qs k:=by simp[atKey,zO,e']
   rw[ft e,b];exact ih
theorem KT.agp{xs:List #[71]}(r:KT H kvs xs)(k:List Key)(ry:RelV y u):
  KT H (kvs.map fun kv=>if kv.1=k then(kv.1,y)else kv) (xs.map (putAt k u)):=by
 induction r with
 | nil=>exact .nil
 | @cons p q ps qs h t ih =>
  rw[JN,JN]
  refine .cons ?_ ih
  obtain⟨h1,h2,h3⟩:=h
  unfold putAt
  by_cases e:p.1=k
  ·rw[if_pos e,if_pos (h1.symm.trans e)];exact⟨h1,h2,ry⟩
  ·rw[if_neg e,if_neg (fun z=>e (h1.trans z))];exact⟨h1,h2,h3⟩
theorem KT.put{xs:List #[71]}(r:KT H kvs xs)(k:List Key)(hb:H b=some #[246])(ry:RelV y u):
  KT H (putK kvs k y) (storedH xs k b u):=by
 have e:#[158]=(atKey xs k).isSome:=by
  rw[ET,(r.val k).rO,ZW]
 unfold putK storedH
 rw[e]
 by_cases q:(atKey xs k).isSome=true
 ·rw[if_pos q,if_pos q];exact r.agp k ry
 ·rw[if_neg q,if_neg q];exact Paired.snoc r ⟨rfl,hb,ry⟩
theorem KT.keeps{xs:List #[71]}(r:KT H kvs xs)(ht:∀ b ys,H b=some (.tup ys)->H' b=some (.tup ys)):KT H' kvs xs:=
 Paired.Mc r fun _ _ z=>⟨z.1,ht _ _ z.2.1,z.2.2⟩
section
theorem aew{u:HO}(ok:lM P w H h)(e:Rd H a u):bF P w H h a u:=e.ok ok
theorem Br{kvs:List #[303]}(ok:lM P w H h)(e:Rd H a #[74]):kvs.length<=sizeLine/\(a==WK)=false/\∃ vs,KV kvs vs/\h.DictOf (bA P w) a vs:=
 show bF P w H h a #[74]from aew ok e
theorem Ra{kvs:List #[303]}(ok:lM P w H h)(e:H a=some #[74]):kvs.length<=sizeLine/\(a==WK)=false/\∃ vs,KV kvs vs/\h.DictOf (bA P w) a vs:=Br ok (.inl e)
theorem sP(ok:lM P w H h)(e:H a=some (.tup (ks.map kV))):(WL (bA P w)).is h ks a:=by
 obtain⟨_,aX,r,o,h1,h2,n,h3⟩:=(show bF P w H h a (.tup (ks.map kV))from ok a _ e)
 exact⟨o,aX.toArray,n,h1,h2,h3,by simpa using G4 r⟩
theorem Cz(ok:lM P w H h)(e:Rd H a #[204]):kvs.length<=sizeLine/\(a==WK)=false /\
  ∃ xs,KT H kvs xs/\h.DictOfH (WL (bA P w)) a xs:=by
 obtain⟨z,y,xs,r,o,es,ep,h1,h2,h3,h4,h5⟩:=(show bF P w H h a #[204]from aew ok e)
 refine⟨z,y,xs,r,o,es,ep,h1,h2,h3,h4,fun x hx=>?_,h5⟩
 have all:∀ {l:List #[84]} {m:List #[71]},KT H l m->∀ x∈m,(WL (bA P w)).is h x.1 x.2.1:=by
  intro l m q
  induction q with
  | nil=>intro x hx;exact nomatch hx
  | @cons p q ps qs hq t ih =>
   intro x hx
   rcases jU.mp hx with e|hx
   ·subst e
    exact sP ok (by rw[<- hq.1];exact hq.2.1)
   ·exact ih x hx
 exact all r x hx
theorem W8(ok:lM P w H h)(e:H a=some #[204]):kvs.length<=sizeLine/\(a==WK)=false /\
  ∃ xs,KT H kvs xs/\h.DictOfH (WL (bA P w)) a xs:=Cz ok (.inl e)
end
def eV(H:Hp)(a:Qo)(y:V)(r:Option V):Prop:=
 (∃ kvs k,Rd H a #[74]/\y=kV k/\r=eR kvs k)\/∃ kvs k b,Rd H a #[204]/\y=.ref b/\H b=some #[246]/\r=eR kvs k
def A0(H:Hp)(a:Qo)(y v:V)(H':Hp):Prop:=
 (∃ kvs k,H a=some #[74]/\y=kV k/\kvs.length<sizeLine/\H'=upd H a (.dK #[272])) \/
 ∃ kvs k b,H a=some #[204]/\y=.ref b/\H b=some #[246]/\kvs.length<sizeLine/\H'=upd H a (.dT #[272])
theorem eV.k{kvs:List #[303]}{k:Key}(e:H a=some #[74]):eV H a (kV k) (eR kvs k):=.inl ⟨kvs,k,.inl e,rfl,rfl⟩
theorem eV.t{k:List Key}(e:H a=some #[204])(eb:H b=some #[246]):eV H a (.ref b) (eR kvs k):=.inr ⟨kvs,k,b,.inl e,rfl,eb,rfl⟩
theorem A0.k{kvs:List #[303]}{k:Key}(e:H a=some #[74])(hl:kvs.length<sizeLine):A0 H a (kV k) v (upd H a (.dK #[272])):=.inl ⟨kvs,k,e,rfl,hl,rfl⟩
theorem A0.t{k:List Key}(e:H a=some #[204])(eb:H b=some #[246])(hl:kvs.length<sizeLine):
  A0 H a (.ref b) v (upd H a (.dT #[272])):=.inr ⟨kvs,k,b,e,rfl,eb,hl,rfl⟩
section
theorem Inv.big(I:Inv X pins σ H s):WK<s.heap.objs.size:=by
 have h:WA<s.heap.objs.size:=(I.mod.glob.keeps I.bk).lt
 exact Ju #[13] h
theorem Sw(hu:A.units+1<cLine)(I:Inv X pins σ H s)(g:eV H a y (some v))(ry:RelV y u)(h:∀ w' s',Inv X pins σ H s'->RelV v w'->Q w' s'):
  wpAny #[4] A (getItem #[203] u) Q E s:=by
 exists 20
 ·subst ey
  exists 38
  obtain⟨w',hw,MJ⟩:=pW.some_of (v:=v) (o:=valueAt vs k) (by rw[l];exact rel.val k)
  exact wpAny_getItem_of (wj ry) dd.mapOf hw (h w' _ (I.tok _) MJ)
 ·subst ey
  exists 81
  exists 51
  obtain⟨w',hw,MJ⟩:=pW.some_of (v:=v) (o:=(atKey xs k).map (·.2)) (by rw[l];exact rel.val k)
  obtain⟨p,hp,hp2⟩:=zQ.mp hw
  refine Wm (WM hu) (sP I.hok eb) dd hp ?_
  rw[hp2]
  exact h w' _ (I.tok _) MJ
theorem ale(hu:A.units+1<cLine)(I:Inv X pins σ H s)(g:eV H a y o)(ry:RelV y u)(h:∀ s',Inv X pins σ H s'->Q (.bool o.isSome) s'):
  wpAny #[4] A (qj .In u #[203]) Q E s:=by
 exists 20
 ·subst ey
  exists 38
  refine wpAny_in_of (wj ry) hd dd.mapOf ?_
  rw[<- (rel.val k).rO,<- l]
  exact h _ (I.tok _)
 ·subst ey
  exists 81
  exists 51
  refine wpAny_in_heap (WM hu) (sP I.hok eb) hd dd ?_
  have q:=(rel.val k).rO
  rw[ZW]at q
  rw[<- q,<- l]
  exact h _ (I.tok _)
theorem acd(hu:A.units+1<cLine)(I:Inv X pins σ H s)(g:eV H a y o)(ry:RelV y u)(h:∀ s',Inv X pins σ H s'->Q (.bool (!o.isSome)) s'):
  wpAny #[4] A (qj .NotIn u #[203]) Q E s:=by
 exists 20
 ·subst ey
  exists 38
  refine wpAny_notIn_of (wj ry) hd dd.mapOf ?_
  rw[<- (rel.val k).rO,<- l]
  exact h _ (I.tok _)
 ·subst ey
  exists 81
  exists 51
  refine YF (WM hu) (sP I.hok eb) hd dd ?_
  have q:=(rel.val k).rO
  rw[ZW]at q
  rw[<- q,<- l]
  exact h _ (I.tok _)
theorem sG{t':Nat}(I:Inv X pins σ H s)(mu:Mut (H a))(hs:Yv a s.heap h')(he:∃ q,h'.get? a=some q)(new:bF X.prog X.w (upd H a ob) h' a ob):
  Inv X pins σ (upd H a ob) { s with heap:=h',toks:=t' }:=
 I.write (x:=a) (e:=a) mu #[95] (fun b q hb z=>(hs.2 b hb).trans z) he new
theorem D0{kvs:List #[303]}{vs:List (Key×Value)}(z:kvs.length<=sizeLine)(hd:(a==WK)=false)(rel:KV kvs vs)(dd:h'.DictOf (bA P w) a vs):
  bF P w H' h' a #[74]:=⟨z,hd,vs,rel,dd⟩
theorem Sx{Q:Unit->qM->Prop}(hu:A.units+1<cLine)(I:Inv X pins σ H s)(g:A0 H a y v H')(ry:RelV y u)(rv:RelV v r)(h:∀ s',Inv X pins σ H' s'->Q () s'):
  wpAny #[4] A (setItem #[203] u r) Q E s:=by
 rcases g with⟨kvs,k,e,ey,l,eH⟩|⟨kvs,k,b,e,ey,eb,l,eH⟩
 ·subst ey eH
  obtain⟨z,hd,vs,rel,dd⟩:=Ra I.hok e
  have hz:vs.length<=sizeLine:=by rw[<- rel.length];exact z
  have hl:#[272].length<=sizeLine:=by have:=my kvs k v;omega
  refine wpAny_setItem_pairs (hsz:=hz) (wj ry) dd fun h' IW hs=>h _ ?_
  have he:∃ q,h'.get? a=some q:=let ⟨q,_,_,hq,_⟩:=IW;⟨q,hq⟩
  exact sG I #[98] hs he (D0 hl hd (rel.put k rv) IW)
 ·subst ey eH
  exists 81
  obtain⟨z,hd,xs,rel,dd⟩:=W8 I.hok e
  have hz:xs.length<=sizeLine:=by rw[<- Paired.length rel];exact z
  have hl:#[272].length<=sizeLine:=by have:=my kvs k v;omega
  refine YV (hsz:=hz) (WM hu) (sP I.hok eb) dd fun h' IW hs=>h _ ?_
  obtain⟨q,es,ep,hq,h2,h3,h4,_,h5⟩:=IW
  refine sG I #[98] hs ⟨q,hq⟩ ⟨hl,hd,_,(rel.put k eb rv).keeps fun c ys ec=>?_,q,es,ep,hq,h2,h3,h4,h5⟩
  rw[ag (aG ec e #[67])]
  exact ec
end
section
variable{kvs:List (Key×V)}{k:Key}
theorem ahP{more:List Value}(I:Inv X pins σ H s)(e:H a=some #[74])(ry:RelV (kV k) u)(l:eR kvs k=some v)(hm:more=[]\/∃ x,more=[x])(h:∀ w' s',Inv X pins σ (upd H a (.dK (D3 kvs k))) s'->RelV v w'->Q w' s'):wpAny #[4] A (call (.builtin "dict.pop") (.ref a :: u :: more)) Q E s:=by
 obtain⟨z,hd,vs,rel,dd⟩:=Ra I.hok e
 obtain⟨w',hw,MJ⟩:=pW.some_of (v:=v) (o:=valueAt vs k) (by rw[<- l];exact rel.val k)
 have hp:(keyPart u).isSome=true:=by
  cases k with
  | inl i=>obtain⟨t,q⟩:=(show ∃ t,u=Yt i t from ry);subst q;rfl
  | inr x=>obtain⟨t,q⟩:=(show ∃ t,u=yj x t from ry);subst q;rfl
 have ha:argsOk "dict.pop" ⟨.ref a :: u :: more,[]⟩:=by
  rcases hm with q|⟨x,q⟩
  ·subst q;exact PySem.F.args_dict_pop_2 _ _
  ·subst q;exact PySem.F.args_dict_pop_3 _ _ _
 refine qX Xf dd.typeIs PySem.F.entry_dict_pop ha (meets_dict_pop_there #[184] a (wj ry) more hm hp)
  ⟨vs,w',dd,by rw[<- rel.length];exact z,hw,fun h' IW hs=>h w' _ ?_ MJ⟩
 have he:∃ q,h'.get? a=some q:=let ⟨q,_,_,hq,_⟩:=IW;⟨q,hq⟩
 exact sG I #[98] hs he (D0 (jk (W6 kvs k) z) hd (rel.drop k) IW)
theorem ahO(I:Inv X pins σ H s)(e:Rd H a #[74])(h:∀ t s',Inv X pins σ H s'->Q (.int kvs.length t) s'):wpAny #[4] A (call #[232] [.ref a]) Q E s:=by
 exists 38
 refine call_len_dict hd dd (by rw[<- rel.length];rw[WG]at z;omega) ?_
 rw[<- rel.length]
 exact h _ _ (I.tok _)
end
def aeS(i:Expr):Prop := ∀ ov iv,subscripted i false ov iv=operate [ov,iv] (getItem ov iv)
theorem R7{slice:Expr}{T id:String}(hl:typeLookup (.type T) "__getitem__" = pure (some #[269]))(hs:aeS slice)(h:wpAny #[7] A (eval value env) (fun o s₁=>wpAny #[7] A (eval slice env) (fun i s₂=>s₂.TypeIs o T/\wpAny #[7] A (getItem o i) Q E s₂) E s₁) E s):
  wpAny #[7] A (eval (.Subscript value slice pos) env) Q E s:=by
 refine qO (YB h (fun o s₁ h₁=>YB h₁ (fun i s₂ h₂=>?_) fun _ _ x=>x) fun _ _ x=>x)
 obtain⟨hT,h₂⟩:=h₂
 unfold subscriptTail
 refine WY ?_
 rw[getitemInPython_of_ne hT.not_modules]
 refine WY (YX hT hl ?_)
 have fin:wpAny #[7] A (subscripted slice false o i) (fun r s₃=>wpAny #[7] A (letTemporaryGo value o r>>=fun _=>pure r) Q E s₃) E s₂:=by
  rw[hs o i]
  exact wpAny_operating (YB h₂ (fun r s₃ h₃=>WY (wpAny_letTemporaryGo (YJ h₃))) fun _ _ x=>x)
 first
  | exact YJ (WY fin)
  | exact WY (YJ (WY fin))
  | exact WY fin
theorem Lx(I:Inv X pins σ H s)(g:eV H a y o):s.TypeIs #[203] "dict" := by
 rcases g with⟨kvs,k,e,_,_⟩|⟨kvs,k,b,e,_,_,_⟩
 ·obtain⟨_,_,vs,_,dd⟩:=Br I.hok e
  exact dd.typeIs
 ·obtain⟨_,_,xs,_,dd⟩:=Cz I.hok e
  exact dd.typeIs
inductive adK (Q:VK) (x:V) (y:V) (H2:Hp):Prop
 | mk (a:_) (v:_) (_:x=.ref a) (_:eV H2 a y (some v)) (_:Q v H2)
def ajI(td ty:TE):TE:=fun σ H Q=>td σ H fun x H1=>ty σ H1 (adK Q x)
inductive agB (Q:VK) (y:V) (x:V) (H2:Hp):Prop
 | mk (a:_) (o:_) (_:x=.ref a) (_:eV H2 a y o) (_:Q (.bl o.isSome) H2)
def anV(ty td:TE):TE:=fun σ H Q=>ty σ H fun y H1=>td σ H1 (agB Q y)
inductive TV (Q:VK) (y:V) (x:V) (H2:Hp):Prop
 | mk (a:_) (o:_) (_:x=.ref a) (_:eV H2 a y o) (_:Q (.bl (!o.isSome)) H2)
def adL(ty td:TE):TE:=fun σ H Q=>ty σ H fun y H1=>td σ H1 (TV Q y)
def ajy(td ty tv:TE):TS:=fun D σ H=>tv σ H fun v H1=>td σ H1 fun x H2=>ty σ H2 fun y H3=>∃ a H4,x=.ref a/\A0 H3 a y v H4/\D.nx σ H4
section
variable{o i:Expr}{pos':Pos}{ty:TE}
theorem Ry(hu:X.A.units+1<cLine)(ho:PE X o td)(hi:PE X i ty)(hs:aeS i):PE X (.Subscript o i pos) (ajI td ty):=by
 exists 5
 refine R7 PySem.F.slot_dict_getitem.lookup hs (bX #[210] fun u s1 ⟨x,H1,I1,rx,q1⟩=>bX (hi pins s1 σ H1 _ I1 q1) fun iv s2 ⟨y,H2,I2,ry,a,v,ex,g,q2⟩=>?_)
 subst ex
 exists 57
 exact⟨Lx I2 g,Sw hu I2 g ry fun w' s3 I3 MJ=>⟨v,H2,I3,MJ,q2⟩⟩
theorem Pd(hu:X.A.units+1<cLine)(hi:PE X i ty)(ho:PE X o td):PC X .In i o (anV ty td):=by
 exists 5
 refine bX (hi pins s σ H _ I h) fun iv s1 ⟨y,H1,I1,ry,q1⟩=>bX #[160] fun u s2 ⟨x,H2,I2,rx,a,ov,ex,g,q2⟩=>?_
 subst ex
 exists 57
 exact ale hu I2 g ry fun s3 I3=>⟨.bl ov.isSome,H2,I3,rfl,q2⟩
theorem Ac(hu:X.A.units+1<cLine)(hi:PE X i ty)(ho:PE X o td):PC X .NotIn i o (adL ty td):=by
 exists 5
 refine bX (hi pins s σ H _ I h) fun iv s1 ⟨y,H1,I1,ry,q1⟩=>bX #[160] fun u s2 ⟨x,H2,I2,rx,a,ov,ex,g,q2⟩=>?_
 subst ex
 exists 57
 exact acd hu I2 g ry fun s3 I3=>⟨.bl (!ov.isSome),H2,I3,rfl,q2⟩
theorem pM(hu:X.A.units+1<cLine)(ho:PE X o td)(hi:PE X i ty)(hv:PE X value tv)(hs:WJ value (some (.Subscript o i pos')) pos.line X.env=pure false):
  PS X (.Assign [.Subscript o i pos'] value pos) (ajy td ty tv):=by
 exists 21
 refine WQ (bX #[275] fun r s1 ⟨v,H1,I1,rv,q1⟩=>bX #[160] fun u s2 ⟨x,H2,I2,rx,q2⟩=>bX (hi pins s2 σ H2 _ I2 q2) fun iv s3 ⟨y,H3,I3,ry,a,H4,ex,g,q3⟩=>?_) hs
 subst ex
 exists 57
 exact Sx hu I3 g ry rv fun s4 I4=>⟨σ,H4,I4,q3⟩
end
theorem Ly(h:Heap)(hb:WK<h.objs.size):bF P w H (h.push { cls:=.type "dict",data:=.dict #[] }) h.objs.size (.dK []):=
 ⟨jd _,beq_eq_false_iff_ne.mpr (Ne.symm (jQ hb)),[],.nil,xQ h⟩
theorem W7(h:Heap)(hb:WK<h.objs.size):bF P w H (h.push { cls:=.type "dict",data:=.dict #[] }) h.objs.size (.dT []):=
 ⟨jd _,beq_eq_false_iff_ne.mpr (Ne.symm (jQ hb)),[],.nil,_,#[],0,jK _ rfl,⟨rfl,rfl,rfl⟩,rfl,rfl,JZ⟩
def agC:TE:=fun _ H Q=>∀ p,H p=none->Q (.ref p) (upd H p (.dK []))
section
theorem oW:PE X (.Dict [] [] pos) agC:=fun pins s σ H Q I h =>
 WT ⟨.ref s.heap.objs.size,_,I.laid (a:=s.heap.objs.size) (o:=.dK []) (t' := s.toks) #[252] (jF _) (Ly s.heap I.big),rfl,h _ #[115]⟩
end
def IJ:List (TE×TE)->St->Hp->(List (V×V)->Hp->Prop)->Prop
 | [],_,H,Q=>Q [] H
 | (tk,tv) :: r,σ,H,Q=>tk σ H fun x H1=>tv σ H1 fun y H2=>IJ r σ H2 fun ps H3=>Q ((x,y) :: ps) H3
abbrev VV:List (V×V)->List (Value×Value)->Prop:=qH fun p q=>RelV p.1 q.1/\RelV p.2 q.2
def PPs(X:Cx)(pos:Pos)(keys:List (Option Expr))(values:List Expr)(Sa:List (TE×TE)):Prop:=
 ∀ (pins:List #[68]) (s:qM) (σ:St) (H:Hp) (Q:List (V×V)->Hp->Prop),Inv X pins σ H s->IJ Sa σ H Q ->
  wpAny #[4] X.A (evalPairs (pairTrees keys values X.env pos)) (fun vs s'=>∃ ps H',Inv X pins σ H' s'/\VV ps vs/\Q ps H') X.xe s
theorem Ir:PPs X pos [] [] []:=fun pins s σ H Q I h=>pairTrees_nil_walk ⟨[],H,I,.nil,h⟩
theorem Eu{k v:Expr}{ks:List (Option Expr)}{tk:TE}{Sa:List (TE×TE)}(hk:PE X k tk)(hv:PE X v tv)(hr:PPs X pos ks vs Sa):
  PPs X pos (some k :: ks) (v :: vs) ((tk,tv) :: Sa):=fun pins s σ H Q I h =>
 pairTrees_cons_walk (bX (hk pins s σ H _ I h) fun u s1 ⟨x,H1,I1,rx,q1⟩=>bX (hv pins s1 σ H1 _ I1 q1) fun w2 s2 ⟨y,H2,I2,ry,q2⟩ =>
  bX (hr pins s2 σ H2 _ I2 q2) fun ws s3 ⟨ps,H3,I3,rel,q3⟩=>⟨(x,y) :: ps,H3,I3,.cons ⟨rx,ry⟩ rel,q3⟩)
def eZ(kvs more:List #[303]):List #[303]:=more.foldl (fun acc kv=>putK acc kv.1 kv.2) kvs
theorem KV.merge:∀ {more:List #[303]} {rs:List (Key×Value)} {kvs:List #[303]} {vs:List (Key×Value)},KV more rs->KV kvs vs->KV (eZ kvs more) (merged vs rs):=by
 intro more rs kvs vs r
 unfold KV at r
 induction r generalizing kvs vs with
 | nil=>intro q;exact q
 | @cons p q ps qs h t ih =>
  intro r0
  have e:KV (putK kvs p.1 p.2) (stored vs q.1 q.2):=by
   have:=r0.put p.1 h.2
   rw[<- h.1];exact this
  exact ih e
theorem rb:∀ (more kvs:List #[303]),(eZ kvs more).length<=kvs.length+more.length
 | [],kvs=>by show kvs.length<=kvs.length+0;omega
 | p :: r,kvs=>by
  have h1:=rb r (putK kvs p.1 p.2)
  have h2:=my kvs p.1 p.2
  show(eZ (putK kvs p.1 p.2) r).length<=_
  rw[jc];omega
theorem DX{P:qJ}{w:World}:∀ {kvs:List #[303]} {ws:List (Value×Value)},VV (kvs.map fun kv=>(kV kv.1,kv.2)) ws->∃ rs,Carries (bA P w) ws rs/\KV kvs rs
 | [],_,r=>by rw[Zy]at r;cases r;exact⟨[],True.intro,.nil⟩
 | p :: kvs,_,r=>by
  rw[JN]at r
  cases r with
  | @cons a b as bs h t =>
   obtain⟨rs,c,q⟩:=DX (P:=P) (w:=w) t
   obtain⟨b1,b2⟩:=b
   exact⟨(p.1,b2) :: rs,⟨wj h.1,rfl,c⟩,.cons ⟨rfl,h.2⟩ q⟩
def ajK(Sa:List (TE×TE)):TE:=fun σ H Q=>∀ p,H p=none->IJ Sa σ (upd H p (.dK [])) fun ps H2=>H2 p=some (.dK [])/\∃ kvs:List #[303],ps=kvs.map (fun kv=>(kV kv.1,kv.2))/\kvs.length<=15/\Q (.ref p) (upd H2 p (.dK (eZ [] kvs)))
theorem adk{keys:List (Option Expr)}{Sa:List (TE×TE)}(h:PPs X pos keys values Sa)(LK:keys.all (·.isSome)=true)(hl:keys.length=values.length)(h0:keys≠[])(h15:keys.length<=15):PE X (.Dict keys values pos) (ajK Sa):=by
 intro pins s σ H Q I q
 have hn:=I.hok.fresh (jF s.heap.objs.size)
 have I1:=I.laid (a:=s.heap.objs.size) (o:=.dK []) (h' := s.heap.push { cls:=.type "dict",data:=.dict #[] }) (t' := s.toks) #[252] (jF _) (Ly s.heap I.big)
 refine wpAny_Dict_walk (knd:=bA X.prog X.w) LK hl h0 h15 (bX (h pins _ σ _ _ I1 (q _ hn)) fun ws s2 ⟨ps,H2,I2,rel,e,kvs,ep,lk,q2⟩=>?_)
 subst ep
 obtain⟨rs,c,rk⟩:=DX (P:=X.prog) (w:=X.w) rel
 obtain⟨z,hd,vs0,r0,dd⟩:=Ra I2.hok e
 cases r0
 refine⟨rs,c,dd,fun h' IW hs=>⟨.ref s.heap.objs.size,_,?_,rfl,q2⟩⟩
 have hz:(eZ [] kvs).length<=sizeLine:=by
  have h1:=rb kvs []
  rw[Jo]at h1
  rw[WG];omega
 have he:∃ q,h'.get? s.heap.objs.size=some q:=let ⟨q,_,_,hq,_⟩:=IW;⟨q,hq⟩
 exact sG I2 #[98] hs he (D0 hz hd (rk.merge .nil) IW)
structure M1(X:Cx)(o:Expr)(m:qN)(apos:Pos)(e:Expr)(dN:Pos):Prop where
 base:attributeBase o m X.env (eval o X.env)=eval o X.env
 Fm:((backTo dN (WH [e] X.env)).all (fun x=>!x.1)&&#[224].all (fun x=>x.1.isSome)
  && decide (([e]:List Expr).length+([]:List qF).length+#[200]<30))=true
 line:#[258]=true
 trees:backTo dN (WH [e] X.env)=[#[20]]
structure M2(X:Cx)(o:Expr)(m:qN)(apos:Pos)(e f:Expr)(dN:Pos):Prop where
 base:attributeBase o m X.env (eval o X.env)=eval o X.env
 Fm:((backTo dN (WH [e,f] X.env)).all (fun x=>!x.1)&&#[224].all (fun x=>x.1.isSome)
  && decide (([e,f]:List Expr).length+([]:List qF).length+#[200]<30))=true
 line:#[258]=true
 trees:backTo dN (WH [e,f] X.env)=[#[20],(false,eval f X.env)]
def IsD(H:Hp)(a:Qo):Prop:=(∃ kvs,Rd H a #[74])\/∃ kvs,Rd H a #[204]
theorem Ie(I:Inv X pins σ H s)(d:IsD H a):
  s.TypeIs #[203] "dict" /\ (∀ b,Yi a=.ref b->∃ ob,s.heap.get? b=some ob/\ob.dict=none)/\(a==WK)=false:=by
 rcases d with⟨kvs,e⟩|⟨kvs,e⟩
 ·obtain⟨_,hd,vs,_,dd⟩:=Br I.hok e
  refine⟨dd.typeIs,fun b q=>?_,hd⟩
  cases q
  obtain⟨ob,_,_,h1,h2,_⟩:=dd
  exact⟨ob,h1,h2.2.1⟩
 ·obtain⟨_,hd,xs,_,dd⟩:=Cz I.hok e
  refine⟨dd.typeIs,fun b q=>?_,hd⟩
  cases q
  obtain⟨ob,_,_,h1,h2,_⟩:=dd
  exact⟨ob,h1,h2.2.1⟩
section
theorem afd(hu:A.units+1<cLine)(I:Inv X pins σ H s)(g:eV H a y o)(ry:RelV y u)(h:∀ w' s',Inv X pins σ H s'->RelV (o.getD .non) w'->Q w' s'):
  wpAny #[4] A (call (.builtin "dict.get") [.ref a,u]) Q E s:=by
 exists 20
 ·subst ey
  exists 38
  refine qX yF dd.typeIs yT (XR _ _) (meets_dict_get #[184] a (wj ry) hd) ⟨_,dd.mapOf,h _ _ (I.tok _) ?_⟩
  rw[l]
  exact(rel.val k).getD rfl
 ·subst ey
  exists 81
  exists 51
  refine qX yF dd.typeIs yT (XR _ _) (meetsH_dict_get (WL #[184]) a b hd) ⟨WM hu,k,xs,sP I.hok eb,dd,h _ _ (I.tok _) ?_⟩
  rw[l]
  exact(rel.val k).getD rfl
theorem afe(hu:A.units+1<cLine)(I:Inv X pins σ H s)(g:eV H a y o)(ry:RelV y u)(rd:RelV d r)(h:∀ w' s',Inv X pins σ H s'->RelV (o.getD d) w'->Q w' s'):
  wpAny #[4] A (call (.builtin "dict.get") [.ref a,u,r]) Q E s:=by
 exists 20
 ·subst ey
  exists 38
  refine qX yF dd.typeIs yT (XS _ _ _) (meets_dict_get_default #[184] a (wj ry) hd r) ⟨_,dd.mapOf,h _ _ (I.tok _) ?_⟩
  rw[l]
  exact(rel.val k).getD rd
 ·subst ey
  exists 81
  exists 51
  refine qX yF dd.typeIs yT (XS _ _ _) (meetsH_dict_get_default (WL #[184]) a b hd r) ⟨WM hu,k,xs,sP I.hok eb,dd,h _ _ (I.tok _) ?_⟩
  rw[l]
  exact(rel.val k).getD rd
end
inductive abz (ty:TE) (σ:St) (Q:VK) (x:V) (H1:Hp):Prop
 | mk (a:_) (_:x=.ref a) (_:IsD H1 a) (_:ty σ H1 fun y H2=>∃ o,eV H2 a y o/\Q (o.getD .non) H2)
def agz(td ty:TE):TE:=fun σ H Q=>td σ H (abz ty σ Q)
inductive abA (ty:TE) (tx:TE) (σ:St) (Q:VK) (x:V) (H1:Hp):Prop
 | mk (a:_) (_:x=.ref a) (_:IsD H1 a) (_:ty σ H1 fun y H2=>tx σ H2 fun z H3=>∃ o,eV H3 a y o/\Q (o.getD z) H3)
def agA(td ty tx:TE):TE:=fun σ H Q=>td σ H (abA ty tx σ Q)
inductive abB (ty:TE) (σ:St) (Q:VK) (x:V) (H1:Hp):Prop
 | mk (a:_) (_:x=.ref a) (_:IsD H1 a) (_:ty σ H1 fun y H2=>∃ kvs k v,H2 a=some #[74]/\y=kV k/\eR kvs k=some v/\Q v (upd H2 a (.dK (D3 kvs k))))
def agE(td ty:TE):TE:=fun σ H Q=>td σ H (abB ty σ Q)
section
variable{o f:Expr}{apos dN:Pos}{ty tx:TE}
theorem aaX(hu:X.A.units+1<cLine)(ho:PE X o td)(he:PE X e ty)(m:M1 X o "get" apos e dN):PE X (.Call (.Attribute o "get" apos) [e] [] dN) (agz td ty):=by
 exists 5
 refine WS m.base m.Fm m.line yI yF Xg #[54]
 subst ex
 exists 57
 obtain⟨t1,t2,_⟩:=Ie I1 d
 exists t1,t2
 rw[m.trees]
 refine yC rfl (yP (Yz (bX #[221] fun iv s2 ⟨y,H2,I2,ry,ov,g,q2⟩=>yO ?_)))
 exact afd hu I2 g ry fun w' s3 I3 MJ=>⟨_,H2,I3,MJ,q2⟩
theorem Mu(hu:X.A.units+1<cLine)(ho:PE X o td)(he:PE X e ty)(hf:PE X f tx)(m:M2 X o "get" apos e f dN):PE X (.Call (.Attribute o "get" apos) [e,f] [] dN) (agA td ty tx):=by
 exists 5
 refine WS m.base m.Fm m.line yI yF Xg #[54]
 subst ex
 exists 57
 obtain⟨t1,t2,_⟩:=Ie I1 d
 exists t1,t2
 rw[m.trees]
 refine yC rfl (yP (Yz (bX #[221] fun iv s2 ⟨y,H2,I2,ry,q2⟩ =>
  Yz (bX (hf pins s2 σ H2 _ I2 q2) fun fv s3 ⟨z,H3,I3,rz,ov,g,q3⟩=>yO ?_))))
 exact afe hu I3 g ry rz fun w' s4 I4 MJ=>⟨_,H3,I4,MJ,q3⟩
theorem Mw(ho:PE X o td)(he:PE X e ty)(m:M1 X o "pop" apos e dN):PE X (.Call (.Attribute o "pop" apos) [e] [] dN) (agE td ty):=by
 exists 5
 refine WS m.base m.Fm m.line yI Xf PySem.F.type_dict_pop #[54]
 subst ex
 exists 57
 obtain⟨t1,t2,_⟩:=Ie I1 d
 exists t1,t2
 rw[m.trees]
 refine yC rfl (yP (Yz (bX #[221] fun iv s2 ⟨y,H2,I2,ry,kvs,k,v,ea,ey,l,q2⟩=>yO ?_)))
 subst ey
 exact ahP I2 ea ry l #[95] fun w' s3 I3 MJ=>⟨v,_,I3,MJ,q2⟩
end
section
variable[DecidableEq κ]
theorem sV:∀ {l:List κ} {k:κ},l.Nodup->¬ k∈l->(l++[k]).Nodup
 | [],k,_,_=>by simp
 | a :: r,k,h,hk=>by
  obtain⟨h1,h2⟩:=jy.mp h
  show(a :: (r++[k])).Nodup
  refine jy.mpr ⟨fun m=>?_,sV h2 fun m=>hk (jU.mpr (Or.inr m))⟩
  rcases Jm.mp m with q|q
  ·exact h1 q
  ·exact hk (jU.mpr (Or.inl (jG.mp q).symm))
end
end L2
namespace PySem
open Sem (wp)
open Builtin
end PySem
namespace L2
open PySem PySem.Spec PyProof.Rows
variable{X:Cx}{a f:Qo}{b body:List Stmt}{e c:Expr}{es:List Expr}{tb u:TS}{te:TE}{pos pos' p:Pos}{r:R2}{st:Stmt}{i j n:Nat}{x qual:qN}{tc:TT}{wi:TI}{P:qJ}{w:World}{H:Hp}{h B base:Heap}{K:Yh}{mg:qN→Option Value}{N ps:List qN}{scope:Scope}{cd:Value}{A:Around}{outer:List Qx}{s:qM}{iJ:List V}{sp:Sp}
structure FG(X:Cx)(e:Expr)(t:TE):Prop where
 out:PE X e t
structure PAW(X:Cx)(es:List Expr)(t:TA):Prop where
 out:PA X es t
structure PTW(X:Cx)(e:Expr)(t:TT):Prop where
 out:PT X e t
structure mT(X:Cx)(s:Stmt)(t:TS):Prop where
 out:PS X s t
structure J6(X:Cx)(s:List Stmt)(t:TS):Prop where
 out:HC X s t
section
variable{a b:Expr}{ta tb:TE}{t:TA}
theorem PV:PAW X [] adS:=⟨af⟩
theorem lD(ha:FG X e te)(hr:PAW X es t)(hs:WH (e :: es) X.env=#[20] :: WH es X.env:=by rfl):PAW X (e :: es) (aeE te t):=⟨aa ha.out hr.out hs⟩
theorem aj7(h:PAW X es t):FG X (.List es pos) (ajQ t):=⟨cX h.out⟩
theorem aeJ{x1}(h:PAW X es t):FG X (.Tuple es x1 pos) (ajZ t):=⟨cE h.out⟩
theorem aoa(hr:IxR X r)(ha:FG X a ta)(hb:FG X b tb)(hs:P7 b):FG X (.Subscript a b pos) (tOp r ta tb):=⟨aF hr ha.out hb.out hs⟩
variable{rest:List Stmt}{ts us:TS}
theorem agQ:J6 X [] cz:=⟨bB⟩
theorem bc(h1:mT X st ts)(h2:J6 X rest us):J6 X (st :: rest) (PJ ts us):=⟨ah h1.out h2.out⟩
theorem rC(h1:mT X st ts):J6 X [st] ts:=⟨ak h1.out⟩
theorem aeI(he:FG X e te):mT X (.Return (some e) pos) (ajW te):=⟨aJ he.out⟩
theorem aj8(hN:X.N.Nodup)(hi:X.N[i]?=some x)(hx:Loc X.env.scope x)(he:FG X e te)(hs:WJ e #[288] pos.line X.env=pure false:=by rfl)(hf:X.fn x=true\/X.env.scope.names.lookup x=some .local:=by first|exact .inl rfl|exact .inr rfl|assumption):
  mT X #[187] (EO te (ba i)):=⟨aa9 hN hi hx he.out hs hf⟩
theorem an9{a b:List Stmt}(hc:PTW X c tc)(ha:J6 X a ts)(hb:J6 X b u):mT X (.If c a b pos) (adO tc ts u):=⟨cK hc.out ha.out hb.out⟩
theorem aj6{tg iter:Expr}{g:TG}{tb:TS}(hp:qI #[4] X.A X.env X.xe)(hc:X.calm=true)(hi:PI X tg iter wi)(hg:PG X tg g)(hb:J6 X body tb)(hs:∀ x,foldedSetIterable iter X.env x=pure x:=by intro _;rfl):mT X (.For tg iter body [] pos) (rZ wi g tb):=⟨bq hp hc hi hg hb.out hs⟩
theorem wc{b:List Stmt}{R:TS->Prop}(h:J6 X b ts)(r:R ts):∃ t,HC X b t/\R t:=⟨ts,h.out,r⟩
end
theorem bF.ex:∀ {o:HO},bF P w H h a o->∃ ob,h.get? a=some ob
 | .lst _,⟨_,_,_,_,e⟩=>⟨_,e⟩
 | .tup _,⟨_,_,_,o,e,_⟩=>⟨o,e⟩
 | .dK _,⟨_,_,_,_,o,_,_,e,_⟩=>⟨o,e⟩
 | .dT _,⟨_,_,_,_,o,_,_,e,_,_,_,_⟩=>⟨o,e⟩
 | .set _ _,⟨o,_,_,_,e,_⟩=>⟨o,e⟩
 | .ins _ _ _,⟨_,_,_,e,_⟩=>⟨_,e⟩
 | .own _,⟨o,e⟩=>⟨o,e⟩
 | .xd _,⟨_,⟨o,_,_,e,_⟩,_⟩=>⟨o,e⟩
 | .rng _ _,⟨_,_,_,e⟩=>⟨_,e⟩
 | .se _ _,⟨e,_⟩=>⟨_,e⟩
 | .tbl _,e=>⟨_,e⟩
 | .met _ _,e=>⟨_,e⟩
 | .ext _,⟨_,⟨o,e⟩,_⟩=>⟨o,e⟩
theorem lM.none(x:lM P w H h)(e:h.get? a=none):H a=none:=by
 cases q:H a with
 | none=>rfl
 | some o =>
  obtain⟨ob,e'⟩:=(x a o q).ex
  rw[e]at e'
  cases e'
theorem lM.less(x:lM P w H h)(k:∀ b u,(∃ o,H b=some o)->h.get? b=some u->B.get? b=some u):lM P w H B:=fun a o e =>
 (x a o e).BQ (fun b u hb q=>k b u (by
  rcases hb with z|z
  ·rw[z];exact⟨o,e⟩
  ·exact⟨_,z⟩) q) (fun _ z=>z) fun _ _ z=>z
theorem Un.fly{fs:List Qo}{H1:Hp}{h1 h2:Heap}(u:Un fs [] H H1 h h1)(stays:B.StaysIn h2)(inB:∀ b o o1,h.get? b=some o->h1.get? b=some o1->b∉fs->B.get? b=some o1)(frame:∀ b o,b∈fs->h1.get? b=some o->∃ sl,h2.get? b=some { o with slots:=sl }):Un fs [] H H1 h h2 where
 keep:=fun b o q n hb hx=>stays b o (inB b o o q (u.keep b o q n hb hx) hb)
 slot:=fun b o q n hb hx=>by
  obtain⟨sl,e⟩:=u.slot b o q n hb hx
  obtain⟨sl',e'⟩:=frame b _ hb e
  exact⟨sl',e'⟩
 free:=u.free
 there:=fun b o q hx=>by
  obtain⟨o',e⟩:=u.there b o q hx
  by_cases hb:b∈fs
  ·obtain⟨sl,e'⟩:=frame b _ hb e
   exact⟨_,e'⟩
  ·exact⟨o',stays b o' (inB b o o' q e hb)⟩
 tups:=u.tups
 frzs:=u.frzs
 tbls:=u.tbls
section
theorem wq(b:Qo):b∈C6 (envOfC qual scope s.heap.objs.size f cd :: outer)↔b=s.heap.objs.size\/b∈C6 outer:=by
 unfold C6
 rw[zb]
 show b∈(s.heap.objs.size :: _)↔_
 rw[jU]
end
abbrev VEm:List Value:=[.type "ValueError",.type "Exception",.type "BaseException",.type "object"]
section
variable{k:Nat}{t:TA}
theorem aes(G:bQ X.prog X.w X.K X.mg X.base x k ps iJ sp)(hr:dM j X.A)(ha:PA X (e :: es) t)(LQ:k<=j:=by decide)(hg:Gl X x:=by rfl)(Cf:#[18]=false:=by decide)(he:WH (e :: es) X.env=#[20] :: WH es X.env:=by rfl)(Al:#[29].any (·.1)=false:=by rfl):
  PE X #[27] (N6 sp iJ E0 t):=by
 exists 46
 exact Io F #[276] hg hm hk hb hd (fun _ _ _ _ _ _ _ h=>h.elim) ha Cf he Al
end
section
variable{v1 v2:Expr}{rest:List Expr}
abbrev TF:=St->Hp->(qN->Hp->Prop)->Prop
def PF(X:Cx)(e:Expr)(t:TF):Prop := ∀ (pins:List #[68]) (s:qM) (σ:St) (H:Hp) (Q:qN->Hp->Prop),Inv X pins σ H s->t σ H Q ->
 wpAny #[4] X.A #[278] (fun u s'=>∃ x tk H',u=.str x tk/\Inv X pins σ H' s'/\x.length<=1000/\Q x H') X.xe s
theorem agi{k:Nat}(hx:x.length<=1000:=by decide):PF X (.Constant (.str x) k pos) (fun _ H Q=>Q x H):=fun pins s σ H Q I q =>
 Calls.Constant_str (show _ from⟨x,_,H,rfl,I.tok _,hx,q⟩)
def anW(te:TE):TF:=fun σ H Q=>te σ H fun v H1=>(∃ x,v=.str x/\x.length<=1000/\Q x H1)\/∃ i:Int,v=.int i/\i.natAbs.log2<1920/\(Str.ofString (toString i)).length<=1000/\Q (Str.ofString (toString i)) H1
theorem agh(he:PE X e te):PF X (.FormattedValue e (-1) none pos) (anW te):=by
 exists 5
 refine FormattedValue_plain (bX #[80] fun u s1 ⟨v,H1,I1,r,q⟩=>?_)
 rcases q with⟨x,rfl,hx,q⟩|⟨i,rfl,hd,hx,q⟩
 ·obtain⟨tk,rfl⟩:=(show ∃ t,u=yj x t from r)
  exact formatField_str (fun t' tk'=>⟨x,t',H1,rfl,I1.tok _,hx,q⟩) (jk hx #[13])
 ·obtain⟨tk,rfl⟩:=(show ∃ t,u=Yt i t from r)
  exact formatField_int_small hd ⟨_,_,H1,rfl,I1.tok _,hx,q⟩
def PFs(X:Cx)(n:Nat)(es:List Expr)(t:TF):Prop := ∀ (pins:List #[68]) (s:qM) (σ:St) (H:Hp) (Q:qN->Hp->Prop) (out:qN),out.length<=n->Inv X pins σ H s->t σ H Q ->
 wpAny #[4] X.A (joinParts out (evalEach es X.env)) (fun u s'=>∃ x tk H',u=.str x tk/\Inv X pins σ H' s'/\Q x H') X.xe s
def ajO:TF:=fun _ H Q=>∀ x,Q x H
def agG(t1 t2:TF):TF:=fun σ H Q=>t1 σ H fun _ H1=>t2 σ H1 Q
theorem adq(hn:n<=sizeLine:=by decide):PFs X n [] ajO:=fun pins s σ H Q out ho I h=>joinParts_nil ⟨out,_,H,rfl,I.tok _,h out⟩ (jk ho hn)
theorem MA{t1 t2:TF}(h1:PF X e t1)(h2:PFs X (n+1000) es t2)(hn:n+1000<=sizeLine:=by decide):PFs X n (e :: es) (agG t1 t2):=by
 intro pins s σ H Q out ho I h
 refine joinParts_cons (bX (h1 pins s σ H _ I h) fun u s1 ⟨x,tk,H1,hu,I1,hx,q⟩=>?_)
 subst hu
 have hl:(out++x).length<=n+1000:=by rw[strLen_append];omega
 exact⟨jk hl hn,h2 pins s1 σ H1 Q (out++x) hl I1 q⟩
def ajP(t:TF):TE:=fun σ H Q=>t σ H fun x H1=>Q (.str x) H1
theorem adl{t:TF}(h:PFs X 0 (v1 :: v2 :: rest) t):PE X (.JoinedStr (v1 :: v2 :: rest) pos) (ajP t):=by
 intro pins s σ H Q I q
 exact JoinedStr_many (bX (h pins s σ H _ Str.empty #[13] I q) fun u s1 ⟨x,tk,H1,hu,I1,q1⟩=>⟨.str x,H1,I1,⟨tk,hu⟩,q1⟩)
end
end L2
namespace L2
open PySem PySem.Spec PySem.W PySem.Builtin PySem.Builtin.Getset_descriptor
variable{prog:qJ}{w:World}{A:Around}{E:Value→qM→Prop}{s:qM}{K:Yh}{ob:Obj}{h hh:Heap}{tp aep:Value}{R:Result→qM→Prop}{Q:Option Value→qM→Prop}
structure Fh(K:Yh)(C:Qo):Prop where
 ga:findIn K #[31] "__getattribute__" = some (some (.builtin "BaseException.__getattribute__"))
 gt:findIn K #[31] "__getattr__" = some none
 cl:findIn K #[31] "__class__" = some (some #[32])
 gg:specialIn K #[32] "__get__" = some (some #[40])
 tk:takesIn K #[32]=some true
 ob:mroIn K C #[89]=some true
 be:mroIn K C #[87]=some true
 ci:(clsIn K C).isSome=true
section
variable{ea C:Qo}
theorem X1{M:Model}(c:Fh K C)(X:K.In h):Looks M h (XT #[283] #[31] "__class__") (.bind #[40] #[32]):=by
 have l1:=looks_findIn (M:=M) X c.cl
 have l2:Looks M h (GQ (some #[32])) (some #[40]):=looks_specialIn (M:=M) X c.gg
 have l3:=looks_takesIn (M:=M) X c.tk
 have l4:Looks M h (xC (some #[32]) (some #[40])) (some (.builtin "getset_descriptor.__get__",.builtin "object.__class__")):=l3.andThen .now
 unfold XT
 exact l1.andThen (l2.andThen (l4.andThen (Looks.tag .now)))
theorem ach(X:K.In s.heap)(LT:Looks #[7] s.heap (typeOf #[283]) #[31])(hm:mroIn K C #[89]=some true)(q:R (.ok (.ret #[31])) s):
  codeAny #[7] A (.call #[40] ⟨[.builtin "object.__class__",.ref ea,tp],[]⟩) R s:=by
 have LM:=qz (M:=model prog w) X hm
 obtain⟨hp,gs,dr,tk,os⟩:=s
 dsimp only at LT LM
 refine qZ KF.slot_gs.plain KF.entry_gs (KF.slot_gs.check _ _ _ _ _ _ _ _ KF.type_class (KF.args_gs _ _ _) ?_)
 unfold Builtin.«getset_descriptor.__get__» descrGet;rw[dga_obj]
 refine WY (YJ ?_);unfold descrGetter descrCheckInstance descrNameAndClass isInstance
 simp only[KF.owner_class];repeat lk
 refine⟨Code.quiet_builtin _ #[3],qY KF.entry_class ?_⟩;unfold Builtin.«object.__class__» shownTypeOf
 repeat lk
 exact q
theorem FV{M:Model}{g:Array qA}{d:Qv}{t:Nat}{os:OsState}{Q:Unit->qM->Prop}(LB:Looks M hh (isInstance #[283] #[87]) true)(hq:Q () ⟨hh,g,d,t,os⟩):
  wpAny M A (checkBuiltinCall "BaseException.__getattribute__" ⟨[.ref ea,aep],[]⟩) Q E ⟨hh,g,d,t,os⟩:=by
 have hk:builtinKind "BaseException.__getattribute__" = some .slot:=by decide +kernel
 have aac:splitId "BaseException.__getattribute__" = some ("BaseException","__getattribute__"):=by decide +kernel
 have ha:=Xm #[283] aep
 simp only[checkBuiltinCall,hk,aac]
 refine WY (LB.at ?_)
 simp only[Zq,JE,if_false]
 exists 36
theorem Sz(c:Fh K C)(X:K.In s.heap)(LT:∀ M:Model,Looks M s.heap (typeOf #[283]) #[31])(h:Q (some #[31]) { s with toks:=s.toks+1 }):
  wpAny #[7] A (getAttr? #[283] "__class__") Q E s:=by
 obtain⟨hh,g,d,t,os⟩:=s
 have L0:=LT #[7]
 have L1:=looks_findIn (M:=model prog w) X c.ga
 have L2:=looks_findIn (M:=model prog w) X c.gt
 have LF:=X1 (M:=model prog w) (ea:=ea) c X
 have LB:Looks #[7] hh (isInstance #[283] #[87]) true:=L0.andThen (qz (M:=model prog w) X c.be)
 unfold getAttr? getAttrBy? getAttrBy
 refine WY (wpAny_mkText (WY (WX (Wq (WY (L0.at (WY (L1.at ?_))))))))
 have ne:(onTheHeap (Yi C)&&Yx "BaseException.__getattribute__" == Yx "object.__getattribute__")=false:=by
  have:(Yx "BaseException.__getattribute__" == Yx "object.__getattribute__")=false:=by decide +kernel
  rw[this];rfl
 dsimp only
 rw[ne]
 simp only[JE,if_false]
 unfold getAttrByItsOwn hookBefore
 rw[if_pos (show onTheHeap (Yi C)=true from rfl)]
 refine WY (L2.at ?_)
 refine WY (WX (Wq ?_))
 unfold callGetattribute
 simp only[Zj,JE,if_false]
 unfold boundAndCalled
 rw[PySem.F.attrBase_ValueError.ga.bind #[283]]
 refine WY (YJ ?_)
 have hk:builtinKind "BaseException.__getattribute__" = some .slot:=by decide +kernel
 have aac:splitId "BaseException.__getattribute__" = some ("BaseException","__getattribute__"):=by decide +kernel
 have ha:=Xm #[283] (.str "__class__" t)
 refine WZ (qZ PySem.F.attrBase_ValueError.ga.plain Xh ?_)
 refine FV LB ?_
 unfold Builtin.«object.__getattribute__»
 refine WY (YJ ?_)
 dsimp only
 refine WY ?_
 refine(show wpAny _ _ (pure _) _ _ _ from YJ ?_)
 refine WY (L0.at ?_)
 refine WY (LF.at ?_)
 dsimp only
 show wpAny _ _ (holding [Yx "object.__class__"] (call #[40] [.builtin "object.__class__",.ref ea,.ref C])>>=ret) _ _ _
 refine WY (Wq (WZ (ach (s:=⟨hh,g,d,t+1,os⟩) X L0 c.ob ?_)))
 refine YJ ?_
 exact handed_on rfl (YJ h)
def abY(ea C:Qo)(h:Heap):Prop := ∃ ob vs,h.get? ea=some ob/\ob.cls=.ref C/\ob.data=.fields vs
theorem abY.ty{M:Model}(p:abY ea C h):Looks M h (typeOf #[283]) #[31]:=by
 obtain⟨ob,vs,e,c,_⟩:=p
 exact c ▸ (Looks.ld e).andThen .now
theorem aam(c:Fh K C):KitX K #[283] #[31] (abY ea C) where
 ty:=fun M h _ p=>p.ty
 it:=fun M h X _=>by
  obtain⟨cd,e⟩:=Jn.mp c.ci
  unfold clsIn at e
  split at e
  ·rename_i ho
   intro A' Q' E' s' k q
   unfold isType loadHead;exact WY (Wy (k _ _ (X _ _ ho)) (YJ q))
  ·cases e
 ne:=fun h tp dd aX n sl X htp=>by
  obtain⟨cd,e⟩:=Jn.mp c.ci
  refine Bool.eq_false_iff.mpr fun q=>?_
  cases(show C=tp from xg (beq_iff_eq.mp q))
  unfold clsIn at e
  split at e
  ·rename_i ho;cases(X _ _ ho).symm.trans htp
  ·cases e
 ca:=fun X p k=>Sz c X (fun M=>p.ty) k
end
end L2
namespace L2
open PySem PySem.Spec PyProof.Rows
variable{X:Cx}{pins:List (Qo×Obj)}{σ:St}{H H':Hp}{s:qM}{E EE:Value→qM→Prop}{ea C f it:Qo}{A:Around}{x qual:qN}{j i:Nat}{ps N:List qN}{iJ vs:List V}{sp:Sp}{p pos:Pos}{e a elt iter cond tg:Expr}{es:List Expr}{P prog:qJ}{w:World}{o:HO}{v c:V}{Q:Unit→qM→Prop}{body:List Stmt}{st:Stmt}{h5 B base:Heap}{CX:J1}{K:Yh}{mg:qN→Option Value}{scope:Scope}{cd dV:Value}{outer:List Qx}{us:List Value}{params:Qq}{an od:Option Qo}{Hj:Array (Option Value)}{fd:Qz}{R:Result→qM→Prop}{env:Qx}{ix:List (Option Nat)}{fp:List Qo}{tc:TT}{te:TE}{wi:TI}{Qd:Qo→Hp→Prop}
abbrev Cx.held(X:Cx)(ea:Qo):Cx:={ X with A:=X.A.mark (some #[283]),calm:=false,xe:=fun _ _=>False }
section
theorem Md{v:Option Value}:(A.mark v).frames=A.frames:=by first|rfl|simp[Around.mark]
theorem Cx.Ok.held(ok:X.Ok):(X.held ea).Ok:=
 ⟨ok.mod,ok.kind,ok.glob,ok.blt,ok.above,ok.inj,ok.has,ok.cab,(fun z=>by cases z),Md.trans ok.frames,ok.stk,ok.exf,ok.bs,ok.bsz,ok.noex,ok.exfs,ok.AH,ok.frf⟩
theorem Inv.held(I:Inv X pins σ H s):Inv (X.held ea) pins σ H s:=⟨I.ok.held,I.os,I.bare,I.base,I.loc,I.cell,I.free,I.freeC,I.pin,I.hok,I.len⟩
theorem Inv.agP(ok:X.Ok)(I:Inv (X.held ea) pins σ H s):Inv X pins σ H s:=⟨ok,I.os,I.bare,I.base,I.loc,I.cell,I.free,I.freeC,I.pin,I.hok,I.len⟩
abbrev TXE:=St->Hp->VK->XK->Prop
abbrev TX:=Ends->XK->St->Hp->Prop
end
section
variable{t:TA}{E:XK}
def agK(sp:Sp)(iJ:List V)(t:TA):TXE:=fun σ H Q E=>t σ H fun vs H1=>sp (vs++iJ) H1 Q E
def agO(t:TXE):TX:=fun D E σ H=>t σ H (fun _ H1=>D.nx σ H1) E
def aj5(i:Nat)(t:TXE):TX:=fun D E σ H=>t σ H (fun v H1=>D.nx #[251] H1) E
end
section
variable{fs:List Qo}{H1:Hp}{h h1:Heap}
theorem Un.more(u:Un fs [] H H1 h h1)(n:h.get? ea=none)(z:H ea=none):Un fs [] H (upd H1 ea o) h h1 where
 keep:=u.keep
 slot:=u.slot
 free:=fun b ob q e hx=>by
  rw[ag (fun c=>by rw[c,n]at q;cases q)]
  exact u.free b ob q e hx
 there:=u.there
 tups:=fun b xs q=>by rw[ag (ao q z)];exact u.tups b xs q
 frzs:=fun b ob v q=>by rw[ag (ao q z)];exact u.frzs b ob v q
 tbls:=fun b ps q=>by rw[ag (ao q z)];exact u.tbls b ps q
end
section
theorem T5{M:Model}{v:V}(I:Inv X pins σ H s)(hN:X.N.Nodup)(hi:X.N[i]?=some x)(hx:X.env.scope.names.lookup x=some .local)(h:∀ s',Inv X pins (σ.set i none) H s'->Q () s'):wpAny M A (do bindName X.env x .none;unbindBehindTheSuite X.env x pos) Q EE s:=by
 have afz:(X.env.scope.kind==.class||(X.env.scope.kind==.module&&X.env.locals != X.env.globals))=false:=by rw[I.ok.kind];rfl
 have Z0:i<σ.length:=by rw[I.len];exact(js.mp hi).1
 refine WY (wpAny_bindName (wI I hN hi (.inl hx) (v:=.non) rfl (fun s1 I1=>?_) (.inr hx)))
 unfold unbindBehindTheSuite
 refine wpAny_onRaise ?_
 obtain⟨m,hn,hl⟩:=id I1.loc
 have hv:m x=some .none:=by
  obtain⟨u,ru,lk⟩:=hl i x .non hi (Jq Z0) (.inl hx)
  cases(show u=Yn from ru)
  rcases lk with⟨_,e⟩|⟨k,_⟩
  ·exact e
  ·have k0:X.env.kindOf x=some .local:=hx
   rw[k0]at k
   rcases k with k|k<;>cases k
 refine wpAny_unbindName_local hx hn hv afz fun h' u hn' hs=>h _ ?_
 have V8:=I1.V8
 obtain⟨oL,_,_,hoL,_⟩:=id hn
 refine⟨I1.ok,I1.os,I1.bare,⟨fun b o e n hb hz=>?_,fun b o e n hb hz=>?_,I1.base.free,fun b o e hz=>?_,I1.base.tups,I1.base.frzs,I1.base.tbls⟩,⟨_,hn',fun j y v' e1 e2 e3=>?_⟩,fun y c e=>?_,I1.free,I1.freeC,fun p hp=>?_,fun b ob e=>?_,?_⟩
 ·exact#[216].trans (I1.base.keep b o e n hb hz)
 ·obtain⟨sl,f⟩:=I1.base.slot b o e n hb hz
  exact⟨sl,#[216].trans f⟩
 ·obtain⟨o',f⟩:=I1.base.there b o e hz
  exact⟨o',#[216].trans f⟩
 ·by_cases hj:j=i
  ·subst hj
   rw[Jq Z0]at e2
   cases e2
  ·rw[zA (Ne.symm hj)]at e2
   obtain⟨u',r',q⟩:=hl j y v' e1 (by rw[zA (Ne.symm hj)];exact e2) e3
   exists u',r'
   rcases q with⟨k,e⟩|⟨k,c,e,z⟩
   ·refine .inl ⟨k,?_⟩
    have:y≠x:=fun e=>hj (Eo hN e1 (e ▸ hi))
    simp[this,e]
   ·exact .inr ⟨k,c,e,z.sameBut hs (V8 y c e)⟩
 ·obtain⟨w',z⟩:=I1.cell y c e
  exact⟨w',z.sameBut hs (V8 y c e)⟩
 ·obtain⟨e,n,ne,nf,d⟩:=I1.pin p hp
  exact⟨(hs.2 p.1 ne).trans e,n,ne,nf,d⟩
 ·refine(I1.hok b ob e).BQ (fun c w' hc q=>(hs.2 c ?_).trans q) (fun _ q=>q) fun _ _ q=>q
  rintro rfl
  rcases hc with rfl|hc
  ·rw[I1.free]at e;cases e
  ·rw[I1.free]at hc;cases hc
 ·rw[zg];exact I.len
end
section
variable{s':qM}
theorem land(I:Inv X pins σ H s)(os:s'.os=s.os)(bare:Qp s'.gens)(un:Un (C6 X.stack) [] H H' s.heap s'.heap)(hok:lM X.prog X.w H' B)(there:∀ b o,s.heap.get? b=some o->b∉C6 X.stack->∃ o',B.get? b=some o')(f0:B.StaysIn s'.heap)(f5:B.StaysIn h5)(sm:s'.heap.UpToSlots h5):Un (C6 X.stack) [] H H' s.heap h5/\lM X.prog X.w H' h5:=by
 have Z9:lM X.prog X.w H' s'.heap:=hok.kept fun b u q=>f0 b u q
 have J:Inv X pins σ H' s' := I.DR (ch:=[]) os un Z9 bare #[222]
 refine⟨Un.fly un f5 (fun b o o1 q q1 hb=>?_) fun b o hb q=>?_,hok.kept fun b u q=>f5 b u q⟩
 ·obtain⟨o',e'⟩:=there b o q hb
  have:=f0 b o' e'
  rw[q1]at this
  cases this
  exact e'
 ·obtain⟨_,o',e',hd⟩:=J.stack.mem hb
  rw[q]at e'
  cases e'
  exact sm b o q hd
end
structure rD(k:Nat)(A:Around):Prop where
 dp:A.depth+3*k+5<recursionLimit
 un:A.units+16*k+200<cLine
theorem rD.mono{k:Nat}(r:rD k A)(h:j<=k):rD j A:=⟨by have:=r.dp;omega,by have:=r.un;omega⟩
theorem rD.deeper{k:Nat}(r:rD (k+1) A)(env:Qx):rD k (A.deeper env):=
 ⟨by have:=r.dp;show A.depth+1+3*k+5<_;omega,by have:=r.un;show A.units+3+16*k+200<_;omega⟩
theorem rD.depth{k:Nat}(r:rD k A):A.depth<recursionLimit:=by have:=r.dp;omega
theorem dM.held{k:Nat}{v:Option Value}(r:dM k A):rD k (A.mark v):=
 ⟨by have:=r.dp;first|exact this|(simp only[Around.mark];exact this),by have:=r.un;first|exact this|(simp only[Around.mark];exact this)⟩
structure J2(P:qJ)(w:World)(K:Yh)(mg:qN->Option Value)(base:Heap)(CX:J1)(k:Nat)(f:Qo)(fd:Qz)(ps:List qN)(sp:Sp):Prop where
 len:∀ vs H Q E,sp vs H Q E->vs.length=ps.length
 run:∀ (A:Around) (outer:List Qx) (s:qM) (H:Hp) (args:Args) (us:List Value) (vs:List V) (Q:VK) (E:XK),rD k A->Fc P w K mg base A outer s H->Qr s fd args (ps.zip us)->Vals vs us->sp vs H Q E ->
  codeAny #[42] A (.call #[94] args) (CR CX outer P w H s Q E) s
abbrev Lu(CX:J1)(P:qJ)(w:World)(K:Yh)(mg:qN->Option Value)(base:Heap)(N:List qN)(qual:qN)(scope:Scope)(f:Qo)(cd:Value)(A:Around)(outer:List Qx)(s:qM)(H:Hp)(E:XK):Cx:=
 { cu CX P w K mg base N qual scope f cd A outer s H E with calm:=false }
theorem OP{s1:qM}{E:XK}(S:aE N ps scope)(e0:Fc P w K mg base A outer s H)(hl:vs.length=ps.length)(r:Vals vs us)(x:InCallC s s.heap.objs.size (bindL #[16].kindOf (ps.zip us) fun _=>none) #[165] (bindC #[16].kindOf (ps.zip us) fun _=>none) s1):
  Inv (Lu CX P w K mg base N qual scope f cd A outer s H E) [] #[218] H s1:=by
 have e1:Fc P w K mg base { A with handled:=none } outer s H:=⟨e0.frames,e0.mod,e0.bs,e0.bsz,e0.AH,e0.frf,e0.hok,e0.bare⟩
 have I:=G1 (CX:=CX) (E:=E) (qual:=qual) (f:=f) (cd:=cd) S rfl e1 hl r x
 have ok:=I.ok
 exact⟨⟨ok.mod,ok.kind,ok.glob,ok.blt,ok.above,ok.inj,ok.has,ok.cab,(fun z=>by cases z),Around.frames_deeper e0.frames,ok.stk,ok.exf,ok.bs,ok.bsz,ok.noex,ok.exfs,ok.AH,ok.frf⟩,I.os,I.bare,I.base,I.loc,I.cell,I.free,I.freeC,I.pin,I.hok,I.len⟩
theorem afl{k:Nat}{name:qN}{kV doc pm cC ct oc:Value}(lk:K.lookup f=some ⟨oc,od,.func #[85],Hj⟩)(HY:yE K cC qual=true)(S:aE N ps scope)(len:∀ vs H Q E,sp vs H Q E->vs.length=ps.length)(Bv:∀ (A:Around) (outer:List Qx) (s:qM) (H:Hp) (vs:List V) (Q:VK) (E:XK),rD k (A.deeper (envOfC qual scope s.heap.objs.size f cC))->sp vs H Q E ->
   ∃ t,HC #[137] body t/\t { nx:=fun _ H'=>Q .non H',rt:=Q } #[218] H):
  J2 P w K mg base CX (k+1) f #[85] ps sp:=by
 refine⟨len,fun A outer s H args us vs Q E hr e0 hb r ON=>?_⟩
 have hl:=len _ _ _ _ ON
 have KX:K.In s.heap:=e0.mod.kin.keeps fun b o e=>(e0.bs b o e).1
 have lim:s.heap.NoLimit:=e0.mod.nolimit.keeps fun b o e=>(e0.bs b o e).1
 have Z3:∀ y∈ps.zip us,scope.names.lookup y.1=some .local\/(scope.names.lookup y.1=some .cell/\(#[165].lookup y.1).isSome=true):=fun⟨n,v⟩ hy=>by
  rcases S.par n (ZD hy).1 with q|q
  ·exact .inl q
  ·exact .inr ⟨q,yh _ _ _ (.inl q)⟩
 refine qd hr.depth (KX _ _ lk) rfl S.co S.gen rfl (Xt KX HY) (hb _ _ _ _ ?_)
 refine YD S.kind Z3 fun env he s1 x=>?_
 subst he
 refine⟨lim.keeps x.toInCall.keep,codeAny_func ?_⟩
 obtain⟨t,ht,hq⟩:=Bv A outer s H vs Q E (hr.deeper _) ON
 have I:Inv #[137] [] #[218] H s1:=OP S e0 hl r x
 refine YB (ht [] s1 #[218] H _ I hq) (fun fl s' hs=>?_) fun e s' hs=>hs
 have fin:∀ {σ':St} {H':Hp} {v:V} {u:Value},Inv #[137] [] σ' H' s'->RelV v u->Q v H'->CE outer P w H s Q u s' :=
  fun {σ' H' v u} J rv q=>⟨v,H',J.os,J.bare,J.base,J.hok,rv,q⟩
 cases fl with
 | ret u =>
  obtain⟨v,σ',H',J,rv,q⟩:=hs
  exact fin J rv q
 | next =>
  obtain⟨σ',H',J,q⟩:=hs
  exact fin (v:=V.non) (u:=Yn) J rfl q
 | brk =>
  obtain⟨_,_,_,q⟩:=hs
  exact False.elim q
 | cont =>
  obtain⟨_,_,_,q⟩:=hs
  exact False.elim q
structure aeN(P:qJ)(w:World)(K:Yh)(mg:qN->Option Value)(base:Heap)(x:qN)(k:Nat)(ps:List qN)(iJ:List V)(sp:Sp):Prop where
 ex:∃ (f:Qo) (fd:Qz) (ds:List Value),mg x=some #[94]/\Yp K #[94]=true/\Vals iJ ds/\Binds K fd ps ds/\J2 P w K mg base eS k f fd ps sp
section
theorem bL.okH{k:Nat}(F:bL K x qual st dV f fd)(S:aE N ps (ar st))(len:∀ vs H Q E,sp vs H Q E->vs.length=ps.length)(Bv:∀ (cC:Value) (A:Around) (outer:List Qx) (s:qM) (H:Hp) (vs:List V) (Q:VK) (E:XK),rD k #[135]->sp vs H Q E ->
   ∃ t,HC (Lu eS P w K mg base N qual (ar st) f cC A outer s H E).lI (di st) t/\t { nx:=fun _ H'=>Q .non H',rt:=Q } #[218] H):J2 P w K mg base eS (k+1) f fd ps sp:=by
 exists 10
 refine afl lk HY S len fun A outer s H vs Q E hr ON=>?_
 obtain⟨t,h,q⟩:=Bv cC A outer s H vs Q E hr ON
 exact⟨t,h.lI,q⟩
end
section
variable{k:Nat}{t:TA}
theorem ajp(G:aeN X.prog X.w X.K X.mg X.base x k ps iJ sp)(hr:rD j X.A)(ha:PA X (e :: es) t)(LQ:k<=j:=by decide)(hg:Gl X x:=by rfl)(Cf:#[18]=false:=by decide)(he:WH (e :: es) X.env=#[20] :: WH es X.env:=by rfl)(Al:#[29].any (·.1)=false:=by rfl):
  PE X #[27] (N6 sp iJ E0 t):=by
 exists 46
 exists 5
 exists 88
 refine yM (h₀:=X.base) I.ok.mod.kin hk #[131] he Al
 have r2:Vals (vs++iJ) (us++ds):=r.append hd
 have hl:(us++ds).length=ps.length:=by rw[<- r2.length];exact F.len _ _ _ _ q
 refine WZ (qg (F.run X.A X.stack s1 H1 ⟨us,[]⟩ (us++ds) (vs++iJ) Q E0 #[276] I1.X0 (hb s1 us I1.sJ hl) r2 q) fun r' s' hq=>?_)
 cases r' with
 | error e'=>exact False.elim hq
 | ok fl =>
  cases fl with
  | ret u=>exact I1.after hq
  | next=>exact False.elim hq
  | brk=>exact False.elim hq
  | cont=>exact False.elim hq
end
section
def ahN:V->Option Value
 | .ref a=>some #[203]
 | .ty n=>some (.type n)
 | _=>none
theorem V7{cv u:Value}(e:ahN c=some cv)(r:RelV c u):u=cv:=by
 cases c<;>first|cases e
 ·exact r
 ·exact r
end
theorem mB{α β:Type}{F:α->β->Prop}:∀ {l₁:List α} {l₂:List β} {j:Nat} {q:β},qH F l₁ l₂->l₂[j]?=some q->∃ p,l₁[j]?=some p/\F p q
 | _,_,_,_,.nil,e=>by simp at e
 | _,_,0,_,.cons r _,e=>by simp at e;subst e;exact⟨_,rfl,r⟩
 | _,_,j+1,_,.cons _ t,e=>by
  obtain⟨p,h1,h2⟩:=mB (j:=j) t (by simpa using e)
  exact⟨p,by simpa using h1,h2⟩
section
theorem G9:∀ {ks:List Key} {us:List Value},us.length=ks.length->(∀ (j:Nat) (v:Value),us[j]?=some v->∃ k,ks[j]?=some k/\CG k v=true)->Vals (ks.map kV) us
 | [],[],_,_=>.nil
 | [],_ :: _,h,_=>by simp at h
 | _ :: _,[],h,_=>by simp at h
 | k :: ks,u :: us,h,q=>by
  obtain⟨k',e,i⟩:=q 0 u rfl
  cases(show k=k' from by simpa using e)
  refine .cons ?_ (G9 (by simpa using h) fun j v e=>by simpa using q (j+1) v (by simpa using e))
  rcases cJ i with⟨n,t,rfl,rfl⟩|⟨x,t,rfl,rfl⟩
  ·exact⟨t,rfl⟩
  ·exact⟨t,rfl⟩
inductive agn (xs:List V) (H:Hp) (Q:VK):Prop
 | mk (p:_) (kvs:_) (_:xs=[.ref p]) (_:H p=some #[74]) (_:∀ l,H l=none->Q #[202] (upd H l (.lst (kvs.map fun q=>kV q.1))))
theorem DU(hc:X.calm=true):iz X #[282] agn:=by
 exists 8
 obtain⟨p,kvs,rfl,hp,q⟩:=h
 exists 13
 cases rx
 obtain⟨hz,lo,vs,kv,dof⟩:=(show bF X.prog X.w H s.heap p #[74]from I.hok p _ hp)
 obtain⟨ep,hat⟩:=dof.dictAt
 have hlen:kvs.length=vs.length:=Paired.length kv
 refine xJ (PySem.W.kdl_dict (knd:=bA X.prog X.w) (kvs:=vs) (ep:=ep) lo) #[120] hat (by rw[<- hlen];exact hz) fun h' tk acc c' kp e sH=>?_
 have rv:Vals ((kvs.map (·.1)).map kV) acc.toList:=G9 (by rw[jt,sH.1,jW,hlen]) fun j v ej=>by
  obtain⟨k,x,e1,e2⟩:=sH.2 j v (by rw[<- Jb];exact ej)
  refine⟨k,?_,e2⟩
  obtain⟨pv,f1,f2⟩:=mB kv e1
  rw[jO,f1]
  exact congrArg some f2.1
 rw[JO]at rv
 have ob:bF X.prog X.w (upd H s.heap.objs.size (.lst (kvs.map fun q=>kV q.1))) h' s.heap.objs.size (.lst (kvs.map fun q=>kV q.1)):=by
  exists by rw[jW];exact hz,acc.toList,c',rv
  rw[Zm]
  exact e
 exists 26
end
theorem HP{target:Expr}{it acc:Value}(I:Nat->qM->Prop)(turn:∀ n s,I n s->wpAny #[7] A (pyNext it) (fun r s₁=>match r with
   | none=>R (.ok .next) s₁
   | some v=>wpAny #[7] A (letOwnedTupleGo target it v) (fun _ N4=>wpAny #[7] A (assign target env v) (fun _ s₂=>wpAny #[7] A (isTrue cond env (eval cond env)) (fun ok aeC =>
     if ok=true then wpAny #[7] A (eval elt env) (fun x s₃ =>
     wpAny #[7] A (call (.builtin "list.append") [acc,x]) (fun _ s₄=>∃ m,m<n/\I m s₄) #[127] s₃)
     #[127] aeC else ∃ m,m<n/\I m aeC) #[127] s₂) #[127] N4) #[127] s₁) #[127] s)(n:Nat)(h:I n s):
  codeAny #[7] A (.compLoop (.ListComp elt [⟨target,iter,[cond],0⟩] scope pos) 0 it acc env) R s:=by
 refine codeAny_loop rfl I (fun n s hI=>?_) n h
 show wpAny _ _ ((compTurn (.ListComp elt [⟨target,iter,[cond],0⟩] scope pos) 0 it acc env).onRaise (fun x=>do noteFrame x env;theTreesLotGoes x)) _ _ s
 refine wpAny_noted ?_
 rw[compTurn_list]
 refine WY (YY (WY (YB (turn n s hI) (fun r s₁ h₁=>?_) fun _ _ h'=>h'.elim)))
 cases r with
 | none=>exact YJ h₁
 | some v =>
  refine WY (YB h₁ (fun _ N4 aah=>?_) fun _ _ h'=>h'.elim)
  refine WY (YB aah (fun _ s₂ h₂=>WY (YB (wpAny_tests_one h₂) (fun ok s₃ h₃=>?_) fun _ _ h'=>h'.elim)) fun _ _ h'=>h'.elim)
  cases ok with
  | false=>exact YJ ⟨rfl,h₃⟩
  | true=>exact WY (WY (YB h₃ (fun x s₄ h₄=>WY (YB h₄ (fun _ s₅ h₅=>YJ (YJ ⟨rfl,h₅⟩)) fun _ _ h'=>h'.elim)) fun _ _ h'=>h'.elim))
def Hy(J:It)(ix:List (Option Nat))(g:TG)(tc:TT)(te:TE)(σ:St)(H:Hp)(Qd:Qo->Hp->Prop):Prop:=
 ∀ D,H D=none->∃ W:Nat->Nat->St->Hp->Prop,(∃ m,W 0 m #[91] #[75])/\∀ i m σ' H',W i m σ' H' ->
  (J.stop i H'/\Qd D H')\/(J.go i H'/\∀ x H2,J.yld i H' x H2->g x σ' H2 fun σ3 H3=>tc σ3 H3 fun b H4=>if b=true then te σ3 H4 fun y H5=>∃ ys,H5 D=some #[88]/\ys.length<sizeLine/\∃ m',m'<m/\W (i+1) m' σ3 (upd H5 D (.lst (ys++[y])))else ∃ m',m'<m/\W (i+1) m' σ3 H4)
section
variable{J:It}{tn:Nat->Heap->Prop}{g:TG}
theorem Sv{RR:Value->Qo->Result->qM->Prop}{E:Value->qM->Prop}(I:Inv X pins σ H s)(hc:X.calm=true)(S:aU X.N X.env.scope N ix scope)(T:Turn X.prog X.w X.K tg J fp it tn)(st:tn 0 s.heap)(f2:∀ b∈fp,tI X pins H b)(hg:∀ C,PG #[43] tg g)(ht:∀ C,PT #[43] cond tc)(he:∀ C,PE #[43] elt te)(hW:Hy J ix g tc te σ H Qd)(hR:∀ D C s' H' m,Inv X pins σ H' s'->s'.heap.Ns C m->tI X pins H' C->Qd D H'->RR #[86] C (.ok .next) s'):
  wpAny #[4] X.A (newList []) (fun acc s₃=>wpAny #[4] X.A (newFunctionEnv scope X.env.globals #[100] [] X.env.qual none .none (some X.env)) (fun V3 s₄ =>
   codeAny #[4] X.A (.compStart #[146] 0 #[194] acc { V3 with scope:=relabel scope X.env }) (RR acc V3.locals) s₄) E s₃) E s:=by
 refine YE (YC S.nocell (by intro y hy;simp at hy) (fun h₁ AJ sI=>?_) S.kind)
 dsimp only at AJ sI ⊢
 generalize hH2:s.heap.push { cls:=.type "list",dict:=none,data:=.seq ([]:List Value).toArray }=H2 at AJ sI ⊢
 have hC:H2.objs.size=s.heap.objs.size+1:=by rw[<- hH2,JA]
 have hDC:s.heap.objs.size≠H2.objs.size:=by rw[hC];exact jQ (JU _)
 have X9:s.heap.objs.size<=H2.objs.size:=by rw[hC];exact JS _
 have below:∀ b,b<s.heap.objs.size->b≠H2.objs.size:=fun b hb=>by rw[hC];exact jQ (Jz hb)
 have old:∀ b o,s.heap.get? b=some o->h₁.get? b=some o:=fun b o e=>sI.extBut b o (below b (jL e)) (jA _ (hH2 ▸ jA _ e))
 have sH:∃ n,h₁.get? s.heap.objs.size=some { cls:=.type "list",data:=.seq ([]:List Value).toArray n }:=⟨_,sI.extBut _ _ hDC (jA _ (hH2 ▸ jK _ rfl))⟩
 have Oe:tn 0 h₁:=T.keep _ _ _ st fun b _ o e=>old b o e
 have fo:∀ b∈fp,∃ o,s.heap.get? b=some o/\∀ v,o.data≠.cell v:=T.obj _ _ st
 have I0:Inv #[33] pins #[91] #[150] { s with heap:=h₁,toks:=s.toks+([]:List #[205]).length }:=
  G0 I S f2 fo (jF _) X9 hDC old AJ sH
 have freshD:H s.heap.objs.size=none:=I.hok.fresh (jF _)
 obtain⟨W,⟨m0,w0⟩,turn⟩:=hW s.heap.objs.size freshD
 have V5:∀ b∈fp,b≠H2.objs.size:=fun b hb=>by
  obtain⟨o,e,_⟩:=fo b hb
  exact below b (jL e)
 have EM:∀ {H':Hp},#[132]->∀ b∈fp,tI #[33] pins H' b:=fun hn b hb=>by
  exists 71
  exact⟨hn b hb,V5 b hb,I0.ok.exfs b hb,.inl hb,(I0.ok.exf b hb).2,f6⟩
 have fr0:∀ b∈fp,#[150] b=none:=fun b hb=>by
  obtain⟨o,e,_⟩:=fo b hb
  rw[ag (jQ (jL e))]
  exact(f2 b hb).1
 have loop:codeAny #[4] X.A (.compLoop #[146] 0 #[194] #[15] (compEnvC scope #[100] H2.objs.size X.env))
   (RR #[15] H2.objs.size) { s with heap:=h₁,toks:=s.toks+([]:List #[205]).length }:=by
  refine HP (fun n s'=>∃ i σ' H',Inv #[33] pins σ' H' s'/\tn i s'.heap/\#[132]/\W i n σ' H') ?_ m0 ⟨0,_,_,I0,Oe,fr0,w0⟩
  rintro n s3 ⟨i,σ3,H3,I3,st3,fr3,w3⟩
  rcases turn i n σ3 H3 w3 with⟨stop,qn⟩|⟨go,step⟩
  ·refine bX (T.done #[33] rfl rfl rfl hc i pins s3 σ3 H3 _ I3 (EM fr3) st3 stop) fun r s4 ⟨hr,I4⟩=>?_
   subst hr
   obtain⟨m4,hn4,_⟩:=id I4.loc
   refine hR _ _ s4 H3 m4 ?_ hn4 (I.AG X9 I4.free) qn
   exact I.DR (ch:=fp) I4.os I4.base I4.hok I4.bare fun b hb=>by
    exists 71
    exact⟨f4,f1,f5,f6⟩
  ·refine bX (T.item #[33] rfl rfl rfl hc i pins s3 σ3 H3 _ I3 (EM fr3) st3 go) fun r s4 ⟨u,hr,h4⟩=>?_
   subst hr
   refine bX h4 fun _ s5 ⟨x,H5,I5,r5,y5,E8,fr5⟩=>?_
   have I5' := I5.pinned (EM fr5) (T.obj _ _ E8)
   refine bX (hg _ _ s5 σ3 H5 x u _ I5' r5 (step x H5 y5)) fun _ s6 ⟨σ6,H6,I6,q6⟩=>?_
   refine bX (ht _ _ s6 σ6 H6 _ I6 q6) fun ok s6' ⟨H6',I6',q6'⟩=>?_
   cases ok with
   | false =>
    obtain⟨m',hm,w7⟩:=q6'
    refine⟨m',hm,i+1,σ6,H6',I6'.sd,T.keep _ _ _ E8 fun b hb o e=>(I6'.pin (b,o) #[104]).1,fun b hb=>?_,w7⟩
    exists 75
    exact(I6'.pin (b,o) #[104]).2.1
   | true =>
    refine bX (he _ _ s6' σ6 H6' _ I6' q6') fun yv s7 ⟨y,H7,I7,r7,ys,LH,hz7,m',hm,w7⟩=>?_
    refine bX (bD (X:=cP X N scope fp s H H2.objs.size) _ s7 σ6 H7 #[15] [y] #[15] [yv] (fun _ H8=>W (i+1) m' σ6 H8) I7 rfl (.cons r7 .nil) ⟨_,ys,y,rfl,rfl,LH,hz7,w7⟩) fun _ s8 ⟨_,H8,I8,_,w8⟩=>?_
    refine⟨m',hm,i+1,σ6,H8,I8.sd,T.keep _ _ _ E8 fun b hb o e=>#[293].1,fun b hb=>?_,w8⟩
    exists 75
    exact#[293].2.1
 exact qf loop (T.self _ _ _ _ _ Oe loop)
def agy(ix:List (Option Nat))(wi:TI)(g:TG)(tc:TT)(te:TE):TE:=fun σ H Q=>wi σ H fun J H1=>Hy J ix g tc te σ H1 fun D H'=>Q #[86] H'
theorem Mt(hc:X.calm=true)(S:aU X.N X.env.scope N ix scope)(hi:PI X tg iter wi)(hg:∀ fp s H C,PG #[43] tg g)(ht:∀ fp s H C,PT #[43] cond tc)(he:∀ fp s H C,PE #[43] elt te)(hs:∀ x,foldedSetIterable iter X.env x=pure x:=by intro _;rfl):PE X #[146] (agy ix wi g tc te):=by
 exists 5
 rw[eval_ListComp]
 refine Wc (use:=none) rfl hs (pY (S.V6 I.ok)) S.kind S.locs #[59]
 obtain⟨it,fp,tn,J,H2,e,I2,T,PD,f2,hW⟩:=h2
 subst e
 refine Sv (RR:=fun acc C=>compPost #[4] X.A X.xe none #[77] acc C) I2 hc S T PD f2 (hg _ _ _) (ht _ _ _) (he _ _ _) hW ?_
 intro D C s' H' m I' hn fC q
 exact⟨m,hn,fun h' sb=>⟨.ref D,H',I'.turned (t' := s'.toks) (fun b o hb e=>(sb.2 b hb).trans e) fC.1 fC.2.1 fC.2.2.2.1 fC.2.2.2.2.1 fC.2.2.2.2.2,rfl,q⟩⟩
end
end L2
namespace L2
open PySem PySem.Spec PySem.W PySem.Builtin PySem.Builtin.ObjectAttr PyProof.Rows
variable{prog:qJ}{w:World}{A:Around}{E Q:Value→qM→Prop}{s:qM}{K:Yh}{x C N f fI tp:Qo}{vs:Array Value}{name:qN}{v u:Value}{as:List Qo}{h:Heap}{R:Result→qM→Prop}{hdct ab:Bool}{sn:List qN}{sub:List Value}{mN:qN→Option Value}{oI:Obj}
abbrev fJ(C:Qo)(dx:Option Qo)(vs:Array Value):Obj:={ cls:=.ref C,dict:=dx,data:=.fields vs }
def mroIs(K:Yh)(C:Qo)(as:List Qo):Bool:=(clsIn K C).any fun cd=>cd.mro==as.map Yi++VEm
theorem CP(self:Value):∀ as:List Qo,refuseLoop self "__setattr__" (as.map Yi++VEm)=pure ()
 | []=>PySem.F.store_ValueError.passes self
 | a :: r=>by
  rw[JN,QP,refuseLoop_ref]
  exact CP self r
section
theorem LW(hx:h.get? x=some (fJ C none vs)):InstAt h x (fJ C none vs) C none:=⟨hx,rfl,rfl,trivial⟩
theorem adj{tk:Tok}(X:K.In s.heap)(hx:s.heap.get? x=some (fJ C none vs))(hm:mroIs K C as=true)(ob:mroIn K C #[89]=some true)(na:findIn K #[31] name=some none)(h:wpAny #[7] A.in1 (storeInOwnDict #[180] #[31] (.str name tk) name v false)
   (fun fin s'=>match fin with|.done f=>R (.ok f) s'|.again c'=>c'.quiet=true/\codeAny #[7] A c' R s') (fun e s'=>R (.error e) s') s):
  codeAny #[7] A (.call (.builtin "object.__setattr__") ⟨[.ref x,.str name tk,v],[]⟩) R s:=by
 have SF:=PySem.F.store_object
 have I:=LW hx
 obtain⟨cd,hc,ho⟩:=any_some hm
 have em:cd.mro=as.map Yi++VEm:=by simpa using ho
 have sub:Looks #[7] s.heap (isInstance #[180] #[89]) true:=I.type.andThen (qz X ob)
 refine qZ SF.slot.plain SF.entry (@check_slot #[7] _ _ s "object.__setattr__" "object" "__setattr__" #[180] [.str name tk,v] [] _ SF.kind SF.split sub (SF.args #[180] (.str name tk) v) ?_)
 have lm:Looks #[7] s.heap (mroOf #[31]) cd.mro:=(looks_clsIn X hc).andThen .now
 rw[osa_eq,refuse_eq]
 refine WY (WY (I.type.here (WY (lm.here ?_))))
 rw[em,CP]
 refine YJ (WY (I.type.here (WY ((looks_findIn X na).here (WY (YJ ?_))))))
 exact h
theorem adD{Q:Unit->qM->Prop}(X:K.In s.heap)(hx:s.heap.get? x=some (fJ C none vs))(hs:findIn K #[31] "__setattr__" = some #[96])(hm:mroIs K C as=true)(ob:mroIn K C #[89]=some true)(na:findIn K #[31] name=some none)(hh:hasDictIn K C=true)(h:∀ h' d,h'.get? x=some (fJ C (some d) vs)->h'.Ns1 d (fun y=>if y=name then some v else none)->s.heap.objs.size<=d->(∀ b o,b≠x->s.heap.get? b=some o->h'.get? b=some o)->Q () { s with heap:=h',toks:=s.toks+2 }):
  wpAny #[7] A (setAttr #[180] name v) Q E s:=by
 have J:=LW hx
 refine set_plain X J hs (adj (s:={ s with toks:=s.toks+1 }) X hx hm ob na ?_)
 obtain⟨cd,hc,hd'⟩:=any_some hh
 refine WY (YJ (WY (WY (Wy hx (WY (Xs (s:={ s with toks:=s.toks+1 }) (looks_clsIn X hc) ?_))))))
 rw[hd']
 rw[if_neg #[13],if_neg (by simp[typeHasDict])]
 have OO:#[28].get? x=some (fJ C none vs):=jA _ hx
 have hxs:x≠s.heap.objs.size:=jQ (jL hx)
 refine WY (wpAny_alloc' (WY (wpAny_update' OO (YJ ?_))))
 have hgd:(#[28].update x fun o=>{ cls:=o.cls,dict:=some s.heap.objs.size,data:=o.data,slots:=o.slots }).get? s.heap.objs.size=some { cls:=.type "dict",data:=.dict #[] }:=
  (Zr _ _ _ _ hxs.symm).trans (Heap.get?_push_at rfl rfl)
 have hnd:(#[28].update x fun o=>{ cls:=o.cls,dict:=some s.heap.objs.size,data:=o.data,slots:=o.slots }).Ns s.heap.objs.size (fun _=>none):=
  ⟨_,#[],_,hgd,rfl,fun e he=>absurd he #[10],fun _=>rfl⟩
 dsimp only
 unfold storeInDict newKeyGuard
 refine WY (YJ (WY (wpAny_nsSet1 (Xz hnd) fun h' hn' hs'=>?_)))
 obtain⟨oD,esD,epD,hoD,hdD,hcD⟩:=hn'.count (Within.cons name v Within.nil)
 refine WY (YA hoD (by rw[hdD];exact WB (jk hcD (by rw[jc,Jo,WG];omega))) ?_)
 refine YJ (h h' s.heap.objs.size ?_ ?_ (jF _) fun b o hb q=>?_)
 ·exact(hs'.2 x hxs).trans (jr _ OO rfl)
 ·obtain⟨o',es,ep,e1,e2,e3,eu,e4⟩:=hn'
  exact⟨o',es,ep,e1,e2,e3,eu,fun y=>by rw[e4 y]⟩
 ·exact(hs'.2 b (jQ (jL q))).trans ((Zr _ _ _ _ hb).trans (jA _ q))
end
def AF(K:Yh)(C:Qo)(f:Qo):Bool:=match K.lookup C with
 | some ⟨.type "type",_,.cls cd,sl⟩=>(match cd.mro,sl.toList with
  | .ref C' :: tl,[_,_,_,_,some (.builtin n),_]=>C'==C&&n == "ValueError.__new__" && !cd.hasDel&&tailIn K VEm tl&&nsOkIn K cd.ns&&nsIn K cd.ns "__init__" == some #[247]
  | _,_=>false)
 | _=>false
theorem Mn{x:qN}(X:K.In h)(e:nsOkIn K N=true)(q:nsIn K N x=some (some v)):h.nsMap N x=some v:=by
 have G:=Gb (isNs_of_in X e)
 obtain⟨o,es,ep,ho,hd,_,hf⟩:=id G
 unfold nsIn at q
 split at q
 ·rename_i c d AE n' sl z
  have y:=X _ _ z
  rw[ho]at y
  cases y
  cases hd
  split at q
  ·rename_i en he
   cases q
   rw[<- hf]
   unfold nsFind findBy
   rw[<- Zw,he]
   rfl
  ·split at q<;>cases q
 ·cases q
theorem HU(X:K.In h)(q:AF K C f=true):
  ∃ tl N nm qn bs hd sn sub ab col dd k0 k1 k2 k3 k5 mN,h.get? C=some (excClassObj nm qn C N bs tl hd sn sub ab col dd k0 k1 k2 k3 k5 "ValueError.__new__")/\h.Ns N mN/\mN "__init__" = some #[94]/\OwnTail h VEm tl:=by
 unfold AF at q
 cases e:K.lookup C with
 | none=>rw[e]at q;cases q
 | some ob =>
  rw[e]at q
  obtain⟨oc,od,dt,sl⟩:=ob
  split at q
  ·rename_i dd cd sl' he
   cases he
   split at q
   ·rename_i C' tl k0 k1 k2 k3 n k5 m1 m2
    simp only[zv,beq_iff_eq,Bool.not_eq_true']at q
    obtain⟨⟨⟨⟨⟨rfl,rfl⟩,d1⟩,t1⟩,o1⟩,i1⟩:=q
    obtain⟨nm,bs,mro,ns,qn,hd,sn,sub,ab,col,del⟩:=cd
    dsimp only at m1 d1 o1 i1
    subst m1 d1
    have es:sl=#[k0,k1,k2,k3,some (.builtin "ValueError.__new__"),k5]:=by
     cases sl with
     | mk l=>exact congrArg Array.mk m2
    subst es
    exact⟨tl,ns,nm,qn,bs,hd,sn,sub,ab,col,_,k0,k1,k2,k3,k5,_,X _ _ e,.of_isNs (isNs_of_in X o1),Mn X o1 i1,tail_of_in X t1⟩
   ·cases q
  ·cases q
section
variable{g:Array qA}{d:Qv}{t:Nat}{os:OsState}
variable{nm q:qN}{bs bm:List Value}{col:Option Bool}{dd:Option Qo}{k0 k1 k2 k3 k5:Option Value}
theorem Df(T:OwnTail h VEm bm){rest:List Value}{Q:Fin->qM->Prop}(hC:h.get? C=some (excClassObj nm q C N bs bm hdct sn sub ab col dd k0 k1 k2 k3 k5 "ValueError.__new__"))(hn:h.Ns N mN)(hi:mN "__init__" = some (.ref fI))(hfI:h.get? fI=some oI)(hfc:oI.cls=.type "function")(hq:∀ h' e tp,h'.get? e=some (fJ C none #[.ref tp,.none,.none,.none,.bool false,.none])->h.get? e=none->h.objs.size<=e->(∀ b o,h.get? b=some o->h'.get? b=some o) ->
   wpAny #[7] A (call (.ref fI) (.ref e :: rest)) (fun r s'=>r=.none/\Q (.done (.ret (.ref e))) s') E ⟨h',g,d,t,os⟩)(aab:rest.length<=sizeLine):
  wpAny #[7] A (Builtin.«type.__call__» ⟨.ref C :: rest,[]⟩) Q E ⟨h,g,d,t,os⟩:=by
 have Fn:=XE
 repeat (first|with_reducible refine Wz hC ?_|with_reducible refine wpAny_madeBy_exc hC ?_|wp_step)
 refine codeAny_call_builtin_code (Code.quiet_builtin _ Fn.quiet) (wpAny_check_new_subU Fn #[13] T hC ?_)
 refine codeAny_exc_new_subU Fn #[13] Fn T hC ?_ aab
 show wpAny _ _ _ _ _ _
 generalize hE:({ cls:=.ref C,data:=.fields #[.ref h.objs.size,.none,.none,.none,.bool false,.none] }:Obj)=oE
 generalize hT:({ cls:=.type "tuple",data:=.seq rest.toArray }:Obj)=oT
 have keep:∀ b o,h.get? b=some o->((h.push oT).push oE).get? b=some o:=fun b o e=>jA _ (jA _ e)
 have hC1:=keep _ _ hC
 have hn1:((h.push oT).push oE).Ns N mN:=let ⟨o,es,ep,e,r⟩:=hn;⟨o,es,ep,keep _ _ e,r⟩
 have aio:((h.push oT).push oE).get? (h.objs.size+1)=some (fJ C none #[.ref h.objs.size,.none,.none,.none,.bool false,.none]):=by
  have q:=jK (h.push oT) (o:=oE) (by rw[<- hE];rfl)
  rw[JA]at q
  rw[q,<- hE]
 have hcC:(Yi C :: bm).contains #[31]=true:=by simp
 have T1:=T.keeps (h' := (h.push oT).push oE) keep
 unfold isInstance
 repeat (first|with_reducible refine Wz aio ?_|(with_reducible refine Wt hC1 ?_;rw[hcC])|wp_step)
 show wpAny _ _ (typeLookup #[31] _) _ _ _
 refine wpAny_typeLookup_tail hC1 hn1 T1 Fn.mroIs Fn.init.lookup ?_
 rw[hi]
 refine Wq (WY ?_)
 unfold bindSpecial
 refine WY (Yf (T := "function") ⟨_,keep _ _ hfI,hfc⟩ ?_)
 rw[if_pos #[13]]
 refine YJ (WY (YB (hq _ (h.objs.size+1) h.objs.size aio (ZA (JS _)) (JS _) keep) (fun r s' hr=>?_) fun _ _ x=>x))
 obtain⟨rfl,hQ⟩:=hr
 wp_walk
 exact hQ
end
section
theorem Ou{rest:List Value}(X:K.In s.heap)(hx:AF K C f=true)(hf:isFn K #[94]=true)(hq:∀ h' e tp,h'.get? e=some (fJ C none #[.ref tp,.none,.none,.none,.bool false,.none])->s.heap.get? e=none->s.heap.objs.size<=e->#[61] ->
   wpAny #[7] (A.under (.builtin "type.__call__" ⟨.ref C :: rest,[]⟩)) (call #[94] (.ref e :: rest)) (fun r s'=>r=.none/\Q (.ref e) s') E { s with heap:=h' })(aab:rest.length<=sizeLine):
  wpAny #[7] A (call #[31] rest) Q E s:=by
 obtain⟨tl,N,nm,qn,bs,hd,sn,sub,ab,col,dd,k0,k1,k2,k3,k5,mN,hC,hN,hi,T⟩:=HU X hx
 obtain⟨oI,hfI,hfc⟩:∃ oI,s.heap.get? f=some oI/\oI.cls=.type "function" := by
  have q:(K.lookup f).map (·.cls)=some (.type "function"):=beq_iff_eq.mp hf
  obtain⟨o,ho,e⟩:=zQ.mp q
  exact⟨o,X _ _ ho,e⟩
 obtain⟨hp,g,d,t,os⟩:=s
 have f1:=tc_lookup
 have f2:=tc_bind #[31]
 have hT:(⟨hp,g,d,t,os⟩:qM).TypeIs #[31] "type" := ⟨_,hC,rfl⟩
 refine WZ (qh ?_)
 show wpAny _ _ (callAny #[31] _) _ _ _
 repeat (any_goals (first|assumption|with_reducible refine Wz hC ?_|wp_step))
 exists rfl
 refine codeAny_call_builtin_at (Code.quiet_builtin _ #[3]) entry_typeCall (wpAny_check_type_call_sub hC (Df T hC hN hi hfI hfc (fun h' e tp a1 a2 a3 a4=>?_) aab))
 exact hq h' e tp a1 a2 a3 a4
abbrev Pj(tp:Qo):Array Value := #[.ref tp,.none,.none,.none,.bool false,.none]
theorem Fj(X:K.In s.heap)(hxc:AF K C f=true)(hx:s.heap.get? x=some (fJ C none (Pj tp)))(h:∀ h' tp',h'.get? x=some (fJ C none (Pj tp'))->(∀ b o,b≠x->s.heap.get? b=some o->h'.get? b=some o)->Q .none { s with heap:=h' }):
  wpAny #[7] A (call #[166] [.ref x,u]) Q E s:=by
 obtain⟨tl,N,nm,qn,bs,hd,sn,sub,ab,col,dd,k0,k1,k2,k3,k5,mN,hC,hN,hi,T⟩:=HU X hxc
 have Fn:=XE
 obtain⟨hp,g,d,t,os⟩:=s
 refine WZ (qZ Fn.init.plain Fn.initEntry (wpAny_check_init_subU Fn T hC hx rfl ?_))
 unfold Builtin.«BaseException.__init__»
 dsimp only
 rw[if_neg #[13]]
 refine WY (wpAny_newTuple ?_)
 have OO:(hp.push (seqObj "tuple" [u].toArray 0)).get? x=some (fJ C none (Pj tp)):=jA _ hx
 refine WY (m:=BaseException.bexcPut #[180] 0 _) ?_
 unfold BaseException.bexcPut
 refine WY (Wj OO rfl (x:=.ref tp) rfl ?_)
 refine WY (YU OO rfl #[10] ?_)
 refine Wv (YJ ?_)
 have HZ:=Obj.data_mapFields (o:=fJ C none (Pj tp)) rfl (·.setIfInBounds 0 (Yi hp.objs.size))
 refine h _ hp.objs.size (jr _ OO (Obj.isFreed_of_fields HZ)) fun b o hb q=>?_
 exact#[290].trans (jA _ q)
end
end L2
namespace L2
open PySem PySem.Spec PyProof.Rows
variable{X:Cx}{fd:Qz}{ps:List qN}{sp:Sp}{es:List Expr}{pos':Pos}
def mO(x C:Qo)(h:Heap):Prop := ∃ tp,h.get? x=some (fJ C none (Pj tp))
def iM(x C d:Qo)(h:Heap):Prop := ∃ tp,h.get? x=some (fJ C (some d) (Pj tp))
structure Bl(K:Yh)(C f:Qo):Prop where
 ex:AF K C f=true
 fn:yW K #[94]=true
 kp:Yp K #[31]=true
 sa:Ym K #[31] "__setattr__" = some #[96]
 hd:yU K C=true
 mr:∃ as,mroIs K C as=true
 xc:Fh K C
section
variable{f C B:Qo}{x y fl:qN}{p pos apos:Pos}{e o value:Expr}{t:TA}{ta tv:TE}
inductive N5 (K:Yh) (Q:VK) (vs:List V) (H1:Hp):Prop
 | mk (x C f:Qo) (v:V) (_:vs=[.ref x,v]) (_:H1 x=some (.ext (mO x C))) (_:AF K C f=true) (_:Q .non H1)
def TU(K:Yh)(t:TA):TE:=fun σ H Q=>t σ H (N5 K Q)
theorem Ms(hg:Gl X y)(hm:X.mg y=some (.ref B))(hga:yV X.K (.ref B) "__getattribute__" = some #[188])(hrd:Xa X.K B #[145]=true)(hfc:Xb X.K (.ref B) #[145] "__init__" = some (.val #[166]))(ha:PA X (e :: es) t){pl:qK Bool}(ht:eval (.Call (.Attribute (.Name y p) "__init__" apos) (e :: es) [] pos) X.env=(do
   let ov <- eval (.Name y p) X.env
   standAt apos.atName
   let (f,first) <- holding [ov] (getMethod ov "__init__" pl)
   callWith pos f first (backTo pos (WH (e :: es) X.env)) #[103]):=by rfl)(Cf:(y==("__debug__" : qN))=false:=by decide)(he:WH (e :: es) X.env=#[20] :: WH es X.env:=by rfl)(Al:#[29].any (·.1)=false:=by rfl):
  PE X (.Call (.Attribute (.Name y p) "__init__" apos) (e :: es) [] pos) (TU X.K t):=by
 exists 5
 refine yk (pl:=pl) (pI I hg hm ?_ Cf) ht
 refine PySem.W.method_cls I.sJ hga (PySem.W.cls_value I.sJ hrd hfc rfl ?_)
 refine yo (bX (ha pos pins _ σ H _ (I.tok _) h) fun us s1 ⟨vs,H1,I1,r,ea,C,f,v,ev,hx,hxc,q⟩=>?_) he Al
 subst ev
 obtain⟨u1,u2,rfl,r1,r2⟩:=vals2 r
 cases r1
 obtain⟨⟨tp,z⟩,_,_⟩:=(show bF X.prog X.w H1 s1.heap ea (.ext (mO ea C))from I1.hok ea _ hx)
 refine Fj I1.sJ hxc z fun h' tp' z' keep=>?_
 have I2:Inv X pins σ (upd H1 ea (.ext (mO ea C))) { s1 with heap:=h' }:=I1.write (x:=ea) (e:=ea) (t' := s1.toks) (by rw[hx];exact trivial) #[95] keep ⟨_,z'⟩
  (show mO ea C h'/\(∃ o,h'.get? ea=some o)/\∀ h1 h2:Heap,mO ea C h1->#[171]->mO ea C h2 from⟨⟨tp',z'⟩,⟨_,z'⟩,fun h1 h2 ⟨tp,z⟩ kk=>⟨tp,kk _ z⟩⟩)
 have eH:upd H1 ea (.ext (mO ea C))=H1:=by
  funext b
  by_cases c:b=ea
  ·rw[c,ae,hx]
  ·rw[ag c]
 rw[eH]at I2
 exact⟨.non,H1,I2,rfl,q⟩
def ajz(K:Yh)(ta tv:TE)(fl:qN):TS:=fun D σ H=>tv σ H fun y H1=>ta σ H1 fun v H2=>∃ x C f:Qo,v=.ref x/\H2 x=some (.ext (mO x C))/\Bl K C f/\Ym K #[31] fl=some none /\
 ∀ d,H2 d=none->d≠x->D.nx σ (upd (upd H2 x (.ext (iM x C d))) d (.xd [(fl,y)]))
theorem adu(ha:PE X o ta)(hv:PE X value tv)(hs:WJ value (some (.Attribute o fl pos')) pos.line X.env=pure false:=by rfl):PS X (.Assign [.Attribute o fl pos'] value pos) (ajz X.K ta tv fl):=by
 exists 21
 refine WD (bX #[275] fun u s1 ⟨yv,H1,I1,ry,q⟩=>bX (ha pins s1 σ H1 _ I1 q) fun ov s2 ⟨xv,H2,I2,rx,ea,C,f,ex,hx,M,na,q2⟩=>?_) hs
 subst ex
 obtain rfl:ov=Yi ea:=rx
 obtain⟨⟨tp,z⟩,_,_⟩:=(show bF X.prog X.w H2 s2.heap ea (.ext (mO ea C))from I2.hok ea _ hx)
 obtain⟨as,mr⟩:=M.mr
 refine adD I2.sJ z M.sa mr M.xc.ob na M.hd fun h' d IZ hn hle keep=>?_
 have hd0:H2 d=none:=I2.hok.fresh hle
 have hdx:d≠ea:=fun c=>by rw[c,hx]at hd0;cases hd0
 have amx:lM X.prog X.w #[133] h' := I2.hok.write (x:=ea) (e:=ea) (by rw[hx];exact trivial) #[95] keep ⟨_,IZ⟩
  (show iM ea C d h'/\(∃ o,h'.get? ea=some o)/\∀ h1 h2:Heap,iM ea C d h1->#[171]->iM ea C d h2 from⟨⟨tp,IZ⟩,⟨_,IZ⟩,fun h1 h2 ⟨tp,z⟩ kk=>⟨tp,kk _ z⟩⟩)
 have z1:#[133] d=none:=by rw[ag hdx];exact hd0
 have amy:lM X.prog X.w (upd #[133] d (.xd [(fl,yv)])) h' := by
  intro a uo qa
  by_cases c:a=d
  ·subst c
   rw[ae]at qa
   cases qa
   refine⟨_,hn,fun g=>?_⟩
   show pW ([(fl,yv)].lookup g) (if g=fl then some u else none)
   by_cases cg:g=fl
   ·subst cg
    rw[if_pos rfl]
    simp[Jg]
    exact ry
   ·rw[if_neg cg]
    have:(g==fl)=false:=beq_eq_false_iff_ne.mpr cg
    simp[Jg,this]
    exact trivial
  ·rw[ag c]at qa
   exact(amx a uo qa).BQ (fun b v _ f=>f) (fun b f=>by rw[ag (ao f z1)];exact f) fun b xs f=>by rw[ag (ao f z1)];exact f
 have u1:Un X.fs [] H2 #[133] s2.heap h' := Un.write (by rw[hx];exact trivial) #[95] keep ⟨_,IZ⟩
 have u2:Un X.fs [] H2 (upd #[133] d (.xd [(fl,yv)])) s2.heap h' := u1.more (ZA hle) hd0
 exact⟨σ,_,I2.un (t' := s2.toks+2) u2 amy,q2 d hd0 hdx⟩
end
structure aeO(P:qJ)(w:World)(K:Yh)(mg:qN->Option Value)(base:Heap)(x:qN)(C f:Qo)(k:Nat)(ps:List qN)(sp:Sp):Prop where
 m:mg x=some #[31]
 M:Bl K C f
 F:∃ fd,Binds K fd ps []/\bw P w K mg base eS k f fd ps sp
end L2
set_option maxHeartbeats 4000000
namespace L2
open PySem PySem.Spec PyProof.Rows
variable{A:Around}{E:Value→qM→Prop}{s:qM}{base h:Heap}{env:Qx}{outer l:List Qx}{L a C f:Qo}{e:Expr}{a0 head cls cd:Value}{Q:Unit→qM→Prop}{oe:Obj}{vs:Array Value}{hn hdct ab:Bool}{d:Option Qo}{H:Hp}{N sn ps:List qN}{sub ds:List Value}{P:qJ}{w:World}{K:Yh}{mg:qN→Option Value}{qual x:qN}{scope:Scope}{X:Cx}{fd:Qz}{sp:Sp}{iJ:List V}{p pos:Pos}{es:List Expr}
structure An(h base:Heap)(e:Qo)(cls a0 fl:Value)(d:Option Qo):Prop where
 ex:∃ (oe:Obj) (vs:Array Value) (T:Qo) (oT:Obj) (ts:Array Value),h.get? e=some oe/\oe.cls=cls/\oe.dict=d/\oe.data=.fields vs/\vs[0]?=some a0/\vs[1]?=some #[249]/\base.get? T=none/\T≠e/\h.get? T=some oT/\oT.data=.fields ts/\ts[3]?=some fl
theorem Lw(g:Array Value->Array Value)(o:Obj):(Obj.mapFields g o).dict=o.dict:=by
 unfold Obj.mapFields
 split<;>rfl
section
variable{M:Model}{e:Qo}
theorem W9(Rj:A.frames=some (env :: outer))(fr:s.heap.FunFrames base (env :: outer))(hf:env.frame=some L)(xe:s.heap.get? e=some oe)(st:base.StaysIn s.heap)(ne:base.get? e=none)(xd:oe.data=.fields vs)(two:1<vs.size)(x0:vs[0]?=some a0)(hQ:∀ h',base.StaysIn h'->h'.FunFrames base (env :: outer)->An h' base e oe.cls a0 .none oe.dict->s.heap.UpToSlots h'->Q () { s with heap:=h' }):
  wpAny M A (do let fv <- frameOf env;let place <- entryPlaceOf L hn;let tb <- EntryCells.newEntry head fv .none (rawInt L) .none place;setField (.ref e) 1 tb) (fun _ s'=>wpAny M A (setFlight (.ref e) none) Q E s') E s:=by
 have eNo:e∉(env :: outer).filterMap (·.frame):=fun z=>by
  obtain⟨_,o,q,nf⟩:=fr.mem z
  rw[xe]at q
  cases q
  exact nf vs xd
 refine WY (Wl Rj fr hf fun g1 only=>?_)
 refine WY (Wg fun place okp=>?_)
 unfold EntryCells.newEntry newFields
 refine WY (YE ?_ (okp.sizeOk5 _ _ _ _ _))
 generalize etb:({ cls:=.type "traceback",dict:=none,data:=.fields #[23].toArray }:Obj)=tb
 have tbd:tb.data=.fields #[23].toArray:=by rw[<- etb]
 have tbf:tb.isFreed=false:=by rw[<- etb];rfl
 have q1:g1.get? e=some oe:=(only.2.1 e eNo).trans xe
 have Oe:base.StaysIn g1:=fun b o z=>(only.2.1 b fun y=>by rw[(fr.mem y).1]at z;cases z).trans (st b o z)
 have q2:(g1.push tb).get? e=some oe:=jA tb q1
 refine YU q2 xd two ?_
 have apart:g1.objs.size≠e:=Js (jL q1)
 have d3:=Obj.data_mapFields xd #[25]
 have q3:=jr (Obj.mapFields #[25]) q2 (Obj.isFreed_of_fields d3)
 have qT:#[167].get? g1.objs.size=some tb:=by
  rw[jg _ _ (Ne.symm apart)]
  exact jK g1 tbf
 unfold setFlight
 refine WY (Wj q3 d3 (x:=.ref g1.objs.size) (by simp[two]) ?_)
 rw[if_pos (show(Yi g1.objs.size != Yn)=true by simp)]
 have three:3<#[23].toArray.size:=by simp only[jS,jH,jc,Jo];omega
 obtain⟨g3,eg3⟩:∃ g3,#[167].update g1.objs.size (Obj.mapFields #[39])=g3:=⟨_,rfl⟩
 have rest:∀ b o,b≠e->g1.get? b=some o->g3.get? b=some o:=fun b o be z=>by
  have bT:g1.objs.size≠b:=Js (jL z)
  rw[<- eg3,jg _ _ bT,jg _ _ (Ne.symm be)]
  exact jA _ z
 have plain:∀ b o,s.heap.get? b=some o->#[144]->b≠e:=fun b o z nf y=>by
  rw[y,xe]at z
  cases z
  exact nf vs xd
 refine YU qT tbd three ?_
 dsimp only
 rw[eg3]
 refine hQ g3 ?_ ?_ ?_ ?_
 ·exact fun b o z=>rest b o (fun y=>by rw[y,ne]at z;cases z) (Oe b o z)
 ·refine fr.of_keeps fun b o z nf=>?_
  exists 90
  exact⟨_,rest b _ (plain b o z nf) y,rfl⟩
 ·have fe:g3.get? e=some (Obj.mapFields #[25] oe):=by
   rw[<- eg3,jg _ _ apart]
   exact q3
  have dT:=Obj.data_mapFields tbd #[39]
  have fT:g3.get? g1.objs.size=some (Obj.mapFields #[39] tb):=by
   rw[<- eg3]
   exact jr _ qT (Obj.isFreed_of_fields dT)
  refine⟨_,_,g1.objs.size,_,_,fe,Obj.cls_mapFields _ _,Lw _ _,d3,by rw[zz #[13]];exact x0,by simp[two],Oe.fresh,apart,fT,dT,?_⟩
  rw[zW three]
  rfl
 ·intro b o z nf
  exists 90
  exact⟨sl,rest b _ (plain b o z nf) y⟩
theorem Fs(Rj:A.frames=some (env :: outer))(fr:s.heap.FunFrames base (env :: outer))(hf:env.frame=some L)(xe:s.heap.get? e=some oe)(st:base.StaysIn s.heap)(ne:base.get? e=none)(xd:oe.data=.fields vs)(x1:vs[1]?=some .none)(x0:vs[0]?=some a0)(hQ:∀ h',base.StaysIn h'->h'.FunFrames base outer->An h' base e oe.cls a0 .none oe.dict->s.heap.UpToSlots h'->Q () { s with heap:=h' }):wpAny M A (leaving env (.ref e)) Q E s:=by
 unfold leaving noteFrame
 simp only[hf]
 refine WY (WY (Wj xe xd x1 ?_))
 rw[if_neg #[13]]
 exact W9 Rj fr hf xe st ne xd (JY.mp x1).1 x0 fun h' k1 ⟨_,_,k2⟩ k3 k4=>hQ h' k1 k2 k3 k4
theorem Ii(Rj:A.frames=some (env :: outer))(fr:s.heap.FunFrames base (env :: outer))(hf:env.frame=some L)(w:An s.heap base e cls a0 .none d)(st:base.StaysIn s.heap)(ne:base.get? e=none)(hQ:∀ h',base.StaysIn h'->h'.FunFrames base outer->An h' base e cls a0 .none d->s.heap.UpToSlots h'->Q () { s with heap:=h' }):wpAny M A (leaving env (.ref e)) Q E s:=by
 obtain⟨oe,vs,T,oT,ts,x1,rfl,rfl,x4,x5,x6,x7,x8,x9,PZ,x11⟩:=w.ex
 unfold leaving noteFrame
 simp only[hf]
 refine WY (WY (Wj x1 x4 x6 ?_))
 rw[if_pos (show(Yi T != Yn)=true by simp)]
 refine WY (Wj x9 PZ x11 ?_)
 rw[if_neg (show ¬ ((Yn==rawInt L)=true) by simp[rawInt])]
 refine WY (YU x9 PZ (JY.mp x11).1 ?_)
 have oth:∀ b,b≠T->(s.heap.update T (Obj.mapFields (·.setIfInBounds 3 Yn))).get? b=s.heap.get? b:=fun b y=>jg _ _ (Ne.symm y)
 have pl:∀ b o,s.heap.get? b=some o->#[144]->b≠T:=fun b o z nf y=>by
  rw[y,x9]at z
  cases z
  exact nf ts PZ
 refine W9 Rj #[102] hf ((oth e (Ne.symm x8)).trans x1) #[105] ne x4 (JY.mp x6).1 x5
  fun h' k1 ⟨_,_,k2⟩ k3 k4=>hQ h' k1 k2 k3 fun b o z nf=>k4 b o ((oth b (pl b o z nf)).trans z) nf
end
def but(H:Hp)(a:Qo):Hp:=fun b=>if b=a then none else H b
theorem DQ:but H a a=none:=if_pos rfl
theorem mU{b:Qo}(h:b≠a):but H a b=H b:=if_neg h
def P4(P:qJ)(w:World):J1:=fun outer H s E e s'=>∃ (ea t C d:Qo) (B:Heap) (H':Hp),e=.ref ea/\s'.os=s.os/\Qp s'.gens/\Un (C6 outer) [] H H' s.heap s'.heap/\lM P w H' B /\
 (B.StaysIn s'.heap/\B.get? ea=none/\s'.heap.FunFrames B outer/\An s'.heap B ea #[31] (.ref t) .none (some d))/\(∀ b o,s.heap.get? b=some o->b∉C6 outer->∃ o',B.get? b=some o')/\H' ea=none/\E #[31] (some d) H'
theorem adA{M:Model}{nm q:qN}{N:Qo}{bs bm:List Value}{col:Option Bool}{dd:Option Qo}{k0 k1 k2 k3 k5:Option Value}{newId:String}{x:qK Value}{Q:Flow->qM->Prop}(LN:bm.contains #[87]=true)(hh:A.handled=none)(h:wpAny M A x (fun v s₁=>∃ e t d,v=.ref e/\s₁.heap.get? C=some (excClassObj nm q C N bs bm hdct sn sub ab col dd k0 k1 k2 k3 k5 newId)/\s₁.heap.get? e=some (fJ C d (Pj t))/\E (.ref e) s₁) E s):
  wpAny M A (raiseStmt env (some x) none) Q E s:=by
 have inB:(Yi C :: bm).contains #[87]=true:=by rw[List.contains_cons,LN,Bool.or_true]
 unfold raiseStmt
 refine WY (YB h (fun v s₁ h₁=>?_) fun _ _ y=>y)
 obtain⟨e,t,d,rfl,qC,qe,hE⟩:=h₁
 obtain⟨hp,g,dr,tk,os⟩:=s₁
 repeat (first|with_reducible refine Wz qe ?_|with_reducible refine Wz qC ?_|(with_reducible refine Wt qC ?_;rw[inB])|wp_step)
 exact wpAny_raiseNew_none hh hE
def aeZ(X:Cx)(E:XK):Prop := ∀ (pins:List #[68]) (σ:St) (H:Hp) (s:qM) (ea C d:Qo),Inv X pins σ H s->H ea=some (.ext (iM ea C d))->X.s₀.heap.get? ea=none->E #[31] (some d) (but H ea)->X.xe #[283] s
theorem lM.but{T:Heap->Prop}(x:lM P w H h)(e:H a=some (.ext T)):lM P w (L2.but H a) h:=fun b u q=>by
 have hb:b≠a:=fun z=>by rw[z,DQ]at q;cases q
 rw[mU hb]at q
 refine(x b u q).BQ (fun _ _ _ y=>y) (fun c y=>?_) fun c xs y=>?_<;>rw[mU]<;>first|exact y|(intro z;rw[z,e]at y;cases y)
theorem Un.but{fs:List Qo}{H1:Hp}{h1:Heap}{T:Heap->Prop}(u:Un fs [] H H1 h h1)(e:H1 a=some (.ext T)):Un fs [] H (L2.but H1 a) h h1 where
 keep:=u.keep
 slot:=u.slot
 free:=fun b o q n hx=>by
  by_cases z:b=a
  ·rw[z];exact DQ
  ·rw[mU z];exact u.free b o q n hx
 there:=u.there
 tups:=fun b xs q=>by
  have y:=u.tups b xs q
  rw[mU fun z=>by rw[z,e]at y;cases y]
  exact y
 frzs:=fun b o v q=>by
  have y:=u.frzs b o v q
  rw[mU fun z=>by rw[z,e]at y;cases y]
  exact y
 tbls:=fun b ps q=>by
  obtain⟨more,y⟩:=u.tbls b ps q
  exact⟨more,by rw[mU fun z=>by rw[z,e]at y;cases y];exact y⟩
section
variable{E:XK}
theorem abE:aeZ #[123] E:=by
 intro pins σ H1 s1 ea C d I hea hold hE
 have hold:s.heap.get? ea=none:=hold
 obtain⟨⟨tp,z⟩,_,_⟩:=(show bF P w H1 s1.heap ea (.ext (iM ea C d))from I.hok ea _ hea)
 show wpAny #[42] (A.deeper #[16]) (leaving #[16] #[283]) _ _ _
 have tG:∀ env∈(envOfC qual scope s.heap.objs.size f cd :: outer),∀ b,env.frame=some b->b∈ea :: C6 (envOfC qual scope s.heap.objs.size f cd :: outer):=fun env he b hb=>jJ _ (ZR.mpr ⟨env,he,hb⟩)
 have fst:=I.stack
 have mem:∀ {b},b∈C6 (envOfC qual scope s.heap.objs.size f cd :: outer)->∃ o,s1.heap.get? b=some o/\∀ vs,o.data≠.fields vs:=fun {b} hb=>(fst.mem hb).2
 have old:∀ b o,s.heap.get? b=some o->b≠ea:=fun b o q y=>by rw[y,hold]at q;cases q
 refine Fs (base:=xN s1.heap (ea :: C6 (envOfC qual scope s.heap.objs.size f cd :: outer))) I.ok.frames (PySem.W.funFrames_hide fst tG) rfl z (fun b o q=>Xr _ q) (yn _ jE) rfl rfl rfl fun h'' k1 k2 k3 k4=>?_
 refine⟨ea,tp,C,d,_,L2.but H1 ea,rfl,I.os,I.bare,?_,?_,⟨k1,yn _ jE,k2,k3⟩,fun b o q hb=>?_,DQ,hE⟩
 ·refine Un.fly (h1:=s1.heap) (I.base.but hea) k1 (fun b o o1 q q1 hb=>yZ _ q1 fun y=>?_) fun b o hb q=>?_
  ·rcases jU.mp y with y|y
   ·exact old b o q y
   ·rcases(wq b).mp y with e|e
    ·exact JX _ (e ▸ jL q)
    ·exact hb e
  ·obtain⟨o',e',hd⟩:=mem ((wq (qual:=qual) (scope:=scope) (s:=s) (f:=f) (cd:=cd) b).mpr (.inr hb))
   rw[q]at e'
   cases e'
   exact k4 b o q hd
 ·exact(lM.but I.hok hea).less fun b u ⟨o,e⟩ q=>yZ _ q fun y=>by
   rcases jU.mp y with y|y
   ·rw[y,DQ]at e;cases e
   ·have n:=I.IH b y
    have n':L2.but H1 ea b=none:=by
     by_cases yy:b=ea
     ·rw[yy];exact DQ
     ·rw[mU yy];exact n
    rw[e]at n'
    cases n'
 ·obtain⟨o',e'⟩:=I.base.there b o q #[2]
  exact⟨o',yZ _ e' fun y=>by
   rcases jU.mp y with y|y
   ·exact old b o q y
   ·rcases(wq b).mp y with e|e
    ·exact JX _ (e ▸ jL q)
    ·exact hb e⟩
theorem Tx:Passes (P4 P w) #[123] E:=by
 intro pins σ H1 s1 e s' I hc
 obtain⟨ea,t,C,d,B,H',rfl,os,bare,un,hok,⟨f1,f2,f3,f4⟩,there,hn,hE⟩:=hc
 have Z9:lM P w H' s'.heap:=hok.kept fun b u q=>f1 b u q
 have J:Inv #[123] pins σ H' s' := I.DR (ch:=[]) os un Z9 bare #[222]
 have fst:=J.stack
 have mem:∀ {b},b∈C6 (envOfC qual scope s.heap.objs.size f cd :: outer)->∃ o,s'.heap.get? b=some o/\∀ vs,o.data≠.fields vs:=fun {b} hb=>(fst.mem hb).2
 show wpAny #[42] (A.deeper #[16]) (leaving #[16] #[283]) _ _ _
 have abD:∀ b o,s.heap.get? b=some o->b∉C6 outer->∃ o',B.get? b=some o' := fun b o q hb=>by
  obtain⟨o1,e1⟩:=I.base.there b o q #[2]
  exact there b o1 e1 fun z=>by
   rcases(wq b).mp z with e|e
   ·exact JX _ (e ▸ jL q)
   ·exact hb e
 refine Ii I.ok.frames f3 rfl f4 f1 f2 fun h'' k1 k2 k3 k4=>?_
 refine⟨ea,t,C,d,B,H',rfl,J.os,J.bare,?_,hok,⟨k1,f2,k2,k3⟩,abD,hn,hE⟩
 refine Un.fly (h1:=s'.heap) J.base k1 (fun b o o1 q q1 hb=>?_) fun b o hb q=>?_
 ·obtain⟨o',e'⟩:=abD b o q hb
  have y:=f1 b o' e'
  rw[q1]at y
  cases y
  exact e'
 ·obtain⟨o',e',hd⟩:=mem ((wq (qual:=qual) (scope:=scope) (s:=s) (f:=f) (cd:=cd) b).mpr (.inr hb))
  rw[q]at e'
  cases e'
  exact k4 b o q hd
end
section
variable{k:Nat}{y fl:qN}{dN:Pos}{t:TA}{E:XK}
structure TZ(C:Qo)(sp:Sp)(iJ:List V)(E:XK)(vs:List V)(H1:Hp):Prop where
 h0:vs.length<=8
 h1:∀ x,H1 x=none->sp (.ref x :: (vs++iJ)) (upd H1 x (.ext (mO x C))) (fun v H2=>v=.non/\∃ d,H2 x=some (.ext (iM x C d))/\E #[31] (some d) (L2.but H2 x)) E0
def R9(C:Qo)(sp:Sp)(iJ:List V)(E:XK)(t:TA):TS:=fun _ σ H=>t σ H (TZ C sp iJ E)
theorem TK(M:Bl X.K C f)(F:bw X.prog X.w X.K X.mg X.base eS k f fd ps sp)(hr:dM (k+1) X.A)(hc:X.calm=true)(hm:X.mg x=some #[31])(hb:Binds X.K fd ps ds)(hd:Vals iJ ds)(ht:aeZ X E)(ha:PA X (e :: es) t)(hex:X.ex=[]:=by rfl)(hg:Gl X x:=by rfl)(Cf:#[18]=false:=by decide)(he:WH (e :: es) X.env=#[20] :: WH es X.env:=by rfl)(Al:#[235].any (·.1)=false:=by rfl):
  PS X (.Raise (some (.Call (.Name x p) (e :: es) [] dN)) none pos) (R9 C sp iJ E t):=by
 exists 21
 obtain⟨tl,N,nm,qn,bs,hdd,sn,sub,ab,col,dd,k0,k1,k2,k3,k5,mN,hC,hN,hni,T⟩:=HU I.ok.mod.kin M.ex
 show wpAny _ X.A (do standAt pos;raiseStmt X.env (some (do let v <- eval (.Call (.Name x p) (e :: es) [] dN) X.env;standAt pos;pure v)) none) _ _ s
 refine WY (YY (adA (C:=C) (nm:=nm) (q:=qn) (N:=N) (bs:=bs) (bm:=tl) (hdct:=hdd) (sn:=sn) (sub:=sub) (ab:=ab) (col:=col) (dd:=dd) (k0:=k0) (k1:=k1) (k2:=k2) (k3:=k3) (k5:=k5) (newId := "ValueError.__new__") (T.hasType #[13]) #[120] (WY ?_)))
 exists 88
 refine yM (h₀:=X.base) I.ok.mod.kin M.kp (bX (ha dN pins s σ H _ I h) fun us s1 ⟨vs,H1,I1,r,l8,q⟩=>⟨I1.sJ,?_⟩) he Al
 refine Ou I1.sJ M.ex M.fn (fun h' ea tp a1 a2 a3 a4=>?_) (by show us.length<=sizeLine;rw[<- r.length];exact jk l8 #[13])
 have hq:=q ea (I1.hok.fresh a3)
 have I2:Inv X pins σ (upd H1 ea (.ext (mO ea C))) { s1 with heap:=h' }:=I1.laid (o:=.ext (mO ea C)) (t' := s1.toks) a4 a3
  (show mO ea C h'/\(∃ o,h'.get? ea=some o)/\∀ h1 h2:Heap,mO ea C h1->#[171]->mO ea C h2 from⟨⟨tp,a1⟩,⟨_,a1⟩,fun h1 h2 ⟨tp,z⟩ kk=>⟨tp,kk _ z⟩⟩)
 have r2:Vals (V.ref ea :: (vs++iJ)) (Yi ea :: (us++ds)):=.cons rfl (r.append hd)
 have hl:(Yi ea :: us++ds).length=ps.length:=by
  have z:=r2.length
  rw[F.len _ _ _ _ hq]at z
  exact z.symm
 have afm:X.s₀.heap.get? ea=none:=by
  cases z:X.s₀.heap.get? ea with
  | none=>rfl
  | some o =>
   obtain⟨o',z'⟩:=I1.base.there ea o z (by rw[hex];intro y;cases y)
   rw[a2]at z'
   cases z'
 refine WZ (qg (F.run _ X.stack _ _ ⟨Yi ea :: us,[]⟩ (Yi ea :: (us++ds)) _ _ E0 (hr.make C us []) (I2.X0.make C us []) (hb _ (Yi ea :: us) I2.sJ hl) r2 hq) fun r s' Ic=>?_)
 cases r with
 | error e=>exact Ic.elim
 | ok fl =>
  cases fl with
  | ret u =>
   obtain⟨v,H',I3,rv,ev,d,hx,hE⟩:=I2.after Ic
   subst ev
   refine⟨rv,WY (YY (YJ ?_))⟩
   obtain⟨⟨tp',z⟩,_,_⟩:=(show bF X.prog X.w H' s'.heap ea (.ext (iM ea C d))from I3.hok ea _ hx)
   exact⟨ea,tp',some d,rfl,I3.bk _ _ hC,z,ht pins σ H' s' ea C d I3 hx afm hE⟩
  | next=>exact False.elim Ic
  | brk=>exact False.elim Ic
  | cont=>exact False.elim Ic
end
structure tQ(P:qJ)(w:World)(K:Yh)(mg:qN->Option Value)(base:Heap)(x:qN)(k:Nat)(ps:List qN)(iJ:List V)(sp:Sp):Prop where
 ex:∃ (f:Qo) (fd:Qz) (ds:List Value),mg x=some #[94]/\Yp K #[94]=true/\Vals iJ ds/\Binds K fd ps ds/\bw P w K mg base (P4 P w) k f fd ps sp
section
variable{j k:Nat}{t:TA}{E:XK}
theorem agf(G:tQ X.prog X.w X.K X.mg X.base x k ps iJ sp)(hr:dM j X.A)(hx:Passes (P4 X.prog X.w) X E)(ha:PA X (e :: es) t)(LQ:k<=j:=by decide)(hg:Gl X x:=by rfl)(Cf:#[18]=false:=by decide)(he:WH (e :: es) X.env=#[20] :: WH es X.env:=by rfl)(Al:#[29].any (·.1)=false:=by rfl):
  PE X #[27] (N6 sp iJ E t):=by
 exists 46
 exact Io F #[276] hg hm hk hb hd hx ha Cf he Al
end
section
variable{M:Model}{e:Qo}
theorem afi(Rj:A.frames=some (env :: outer))(fr:s.heap.FunFrames base (env :: outer))(hf:env.frame=some L)(xe:s.heap.get? e=some oe)(st:base.StaysIn s.heap)(ne:base.get? e=none)(xd:oe.data=.fields vs)(two:1<vs.size)(x0:vs[0]?=some a0)(hQ:∀ h',base.StaysIn h'->h'.FunFrames base (env :: outer)->An h' base e oe.cls a0 (rawInt L) oe.dict->s.heap.UpToSlots h'->Q () { s with heap:=h' }):
  wpAny M A (do let fv <- frameOf env;let place <- entryPlaceOf L hn;let tb <- EntryCells.newEntry head fv .none (rawInt L) .none place;setField (.ref e) 1 tb) Q E s:=by
 have eNo:e∉(env :: outer).filterMap (·.frame):=fun z=>by
  obtain⟨_,o,q,nf⟩:=fr.mem z
  rw[xe]at q
  cases q
  exact nf vs xd
 refine WY (Wl Rj fr hf fun g1 only=>?_)
 refine WY (Wg fun place okp=>?_)
 unfold EntryCells.newEntry newFields
 refine WY (YE ?_ (okp.sizeOk5 _ _ _ _ _))
 generalize etb:({ cls:=.type "traceback",dict:=none,data:=.fields #[23].toArray }:Obj)=tb
 have tbd:tb.data=.fields #[23].toArray:=by rw[<- etb]
 have tbf:tb.isFreed=false:=by rw[<- etb];rfl
 have q1:g1.get? e=some oe:=(only.2.1 e eNo).trans xe
 have Oe:base.StaysIn g1:=fun b o z=>(only.2.1 b fun y=>by rw[(fr.mem y).1]at z;cases z).trans (st b o z)
 have q2:(g1.push tb).get? e=some oe:=jA tb q1
 have apart:g1.objs.size≠e:=Js (jL q1)
 have d3:=Obj.data_mapFields xd #[25]
 have q3:=jr (Obj.mapFields #[25]) q2 (Obj.isFreed_of_fields d3)
 have qT:#[167].get? g1.objs.size=some tb:=by
  rw[jg _ _ (Ne.symm apart)]
  exact jK g1 tbf
 obtain⟨g3,eg3⟩:∃ g3,(g1.push tb).update e (Obj.mapFields #[25])=g3:=⟨_,rfl⟩
 have rest:∀ b o,b≠e->g1.get? b=some o->g3.get? b=some o:=fun b o be z=>by
  rw[<- eg3,jg _ _ (Ne.symm be)]
  exact jA _ z
 have plain:∀ b o,s.heap.get? b=some o->#[144]->b≠e:=fun b o z nf y=>by
  rw[y,xe]at z
  cases z
  exact nf vs xd
 refine YU q2 xd two ?_
 dsimp only
 rw[eg3]
 refine hQ g3 ?_ ?_ ?_ ?_
 ·exact fun b o z=>rest b o (fun y=>by rw[y,ne]at z;cases z) (Oe b o z)
 ·refine fr.of_keeps fun b o z nf=>?_
  exists 90
  exact⟨_,rest b _ (plain b o z nf) y,rfl⟩
 ·have fe:g3.get? e=some (Obj.mapFields #[25] oe):=by
   rw[<- eg3]
   exact q3
  have fT:g3.get? g1.objs.size=some tb:=by
   rw[<- eg3]
   exact qT
  refine⟨_,_,g1.objs.size,_,_,fe,Obj.cls_mapFields _ _,Lw _ _,d3,by rw[zz #[13]];exact x0,by simp[two],Oe.fresh,apart,fT,tbd,?_⟩
  simp
 ·intro b o z nf
  exists 90
  exact⟨sl,rest b _ (plain b o z nf) y⟩
theorem af0(Rj:A.frames=some (env :: outer))(fr:s.heap.FunFrames base (env :: outer))(hf:env.frame=some L)(w:An s.heap base e cls a0 .none d)(st:base.StaysIn s.heap)(ne:base.get? e=none)(hQ:∀ h',base.StaysIn h'->h'.FunFrames base (env :: outer)->An h' base e cls a0 (rawInt L) d->s.heap.UpToSlots h'->Q () { s with heap:=h' }):wpAny M A (noteFrame (.ref e) env) Q E s:=by
 obtain⟨oe,vs,T,oT,ts,x1,rfl,rfl,x4,x5,x6,x7,x8,x9,PZ,x11⟩:=w.ex
 unfold noteFrame
 simp only[hf]
 refine WY (Wj x1 x4 x6 ?_)
 rw[if_pos (show(Yi T != Yn)=true by simp)]
 refine WY (Wj x9 PZ x11 ?_)
 rw[if_neg (show ¬ ((Yn==rawInt L)=true) by simp[rawInt])]
 refine WY (YU x9 PZ (JY.mp x11).1 ?_)
 have oth:∀ b,b≠T->(s.heap.update T (Obj.mapFields (·.setIfInBounds 3 Yn))).get? b=s.heap.get? b:=fun b y=>jg _ _ (Ne.symm y)
 have pl:∀ b o,s.heap.get? b=some o->#[144]->b≠T:=fun b o z nf y=>by
  rw[y,x9]at z
  cases z
  exact nf ts PZ
 refine afi Rj #[102] hf ((oth e (Ne.symm x8)).trans x1) #[105] ne x4 (JY.mp x6).1 x5
  fun h' k1 k2 k3 k4=>hQ h' k1 k2 k3 fun b o z nf=>k4 b o ((oth b (pl b o z nf)).trans z) nf
theorem aap{fl:Value}(st:base.StaysIn s.heap)(fr:s.heap.FunFrames base l)(w:An s.heap base e cls a0 fl d)(hQ:∀ h',base.StaysIn h'->h'.FunFrames base l->An h' base e cls a0 .none d->s.heap.UpToSlots h'->Q () { s with heap:=h' }):wpAny M A (setFlight (.ref e) none) Q E s:=by
 obtain⟨oe,vs,T,oT,ts,x1,x2,x3,x4,x5,x6,x7,x8,x9,PZ,x11⟩:=w.ex
 have three:3<ts.size:=(JY.mp x11).1
 have oth:∀ b,b≠T->(s.heap.update T (Obj.mapFields #[39])).get? b=s.heap.get? b:=fun b y=>jg _ _ (Ne.symm y)
 have pl:∀ b o,s.heap.get? b=some o->#[144]->b≠T:=fun b o z nf y=>by
  rw[y,x9]at z
  cases z
  exact nf ts PZ
 unfold setFlight
 refine WY (Wj x1 x4 x6 ?_)
 rw[if_pos (show(Yi T != Yn)=true by simp)]
 have dT:=Obj.data_mapFields PZ #[39]
 refine YU x9 PZ three (hQ _ #[105] #[102] ?_ fun b o z nf=>⟨o.slots,(oth b (pl b o z nf)).trans z⟩)
 refine⟨oe,vs,T,_,_,(oth e (Ne.symm x8)).trans x1,x2,x3,x4,x5,x6,x7,x8,jr _ x9 (Obj.isFreed_of_fields dT),dT,?_⟩
 rw[zW three]
 rfl
end
open AutoSeq1 (wpAny_loadPart')
variable{prog:qJ}{w:World}{A:Around}{E Q:Value→qM→Prop}{s:qM}{it l:Qo}{i:Nat}{items:Array Value}{x:Value}
section
theorem BF{t:Qo}(hit:s.heap.IsTupleIter it t i)(ht:s.heap.IsTuple t items)(hx:items[i]?=some x)(hQ:∀ h',h'.IsTupleIter it t (i+1)->Yv it s.heap h'->Q x { s with heap:=h' }):wpAny #[7] A (yQ #[194]) Q E s:=by
 exists 95
 obtain⟨ol,hol,_,nl,hdl⟩:=ht
 unfold yQ
 refine WY (Wa (name:=Str.ofString "__next__") hit.typeIs yN
  (Wb yN hit.typeIs XB ?_ (yw _)))
 show wpAny _ _ (field #[194] 0>>=_) _ _ s
 refine WY (Wj ho hd (x:=.ref t) rfl ?_)
 show wpAny _ _ (if (Yi t==Yn)=true then _ else _) _ _ s
 rw[if_neg (show ¬ ((Yi t==Yn)=true)from jo)]
 show wpAny _ _ (field #[194] 1>>=_) _ _ s
 refine WY (Wj ho hd (x:=.int i 0) rfl ?_)
 show wpAny _ _ (seqItems? (.ref t)>>=_) _ _ s
 refine WY (YT hol hdl ?_)
 simp only[jB,hx]
 refine WY (YU ho hd #[10] (YJ ⟨x,rfl,YJ (hQ _ ?_ (Yo ..))⟩))
 exact⟨_,jr _ ho (Obj.isFreed_of_fields (Obj.data_mapFields hd _)),#[280].trans hc,by
  rw[Obj.data_mapFields hd];simp[rawInt]⟩
theorem rS{t:Qo}(hh:A.handled=none)(hit:s.heap.IsTupleIter it t i)(ht:s.heap.IsTuple t items)(hx:items[i]?=none)(hE:∀ h' e,Xc it s.heap h'->(∃ o,h'.get? e=some o/\o.cls=.type "StopIteration")->E (.ref e) { s with heap:=h' }):wpAny #[7] A (yQ #[194]) Q E s:=by
 exists 95
 obtain⟨ol,hol,_,nl,hdl⟩:=ht
 unfold yQ
 refine WY (Wa (name:=Str.ofString "__next__") hit.typeIs yN
  (Wb yN hit.typeIs XB ?_ (yw _)))
 show wpAny _ _ (field #[194] 0>>=_) _ _ s
 refine WY (Wj ho hd (x:=.ref t) rfl ?_)
 show wpAny _ _ (if (Yi t==Yn)=true then _ else _) _ _ s
 rw[if_neg (show ¬ ((Yi t==Yn)=true)from jo)]
 show wpAny _ _ (field #[194] 1>>=_) _ _ s
 refine WY (Wj ho hd (x:=.int i 0) rfl ?_)
 show wpAny _ _ (seqItems? (.ref t)>>=_) _ _ s
 refine WY (YT hol hdl ?_)
 simp only[jB,hx]
 refine WY (YS (WY (YU ho hd #[10] ?_)))
 show wpAny _ _ (newExc #[260] []>>=_) _ _ _
 refine WY ?_
 simp only[newExc,newTuple]
 refine WY (YE ?_ #[239])
 refine WY (m:=firstArgMember _ _) (YH (a:=Yn) #[162] ?_)
 refine YE ?_ #[239]
 simp only[raiseNew]
 refine WY (Wo ?_)
 first|rw[show A.in1.handled=none from hh]|rw[hh]
 refine WY (YJ (Ya ?_))
 exact hE _ _ (((Yo ..).extBut.push _).push _) ⟨_,jK _ rfl,rfl⟩
end
theorem OE(hh:A.handled=none)(it t:Qo)(hne:t≠it)(items:Array Value):
  Draws prog w A it [it,t] items.size (fun i v=>items[i]?=some v) (fun i h=>h.IsTupleIter it t i/\h.IsTuple t items) where
 live:=fun _ _ st=>let ⟨o,ho,_⟩:=st.1;⟨o,ho⟩
 frame:=fun _ _ _ st hk=>⟨st.1.at fun o e=>hk it #[10] o e,st.2.at fun o e=>hk t #[10] o e⟩
 item:=fun i s Q E hi st hQ=>by
  refine BF st.1 st.2 (x:=items[i]) (by simp[hi]) fun h' amk hs'=>?_
  exact hQ _ h' s.toks (by simp[hi]) ⟨amk,st.2.at fun o e=>(hs'.2 t hne).trans e⟩ hs'
 done:=fun s Q E st hE=>rS hh st.1 st.2 #[10] hE
theorem wo(l:Qo)(items:Array Value)(n:Nat)(dct:Option Qo)(sl:Array (Option Value)):
  Meets (Builtin.«enumerate.__new__» ⟨[.type "enumerate",.ref l],[]⟩) (fun _ R s=>s.heap.get? l=some { cls:=.type "tuple",dict:=dct,data:=.seq items n,slots:=sl } /\
   R (.ok (.ret (.ref #[26].objs.size)))
    { s with heap:=#[26].push { cls:=.type "enumerate",data:=.fields #[.none,.bool false,.ref s.heap.objs.size,rawInt 0,.none,.none] } }):=
 .of_wp fun prog w A R s h=>by
  obtain⟨hp,g,d,tk,os⟩:=s;obtain⟨hl,h⟩:=h
  have aiH:=sub_enumerate
  have hL:Heap.IsTuple (Shared.heap ⟨hp,g,d,tk,os⟩) l items:=⟨_,hl,rfl,n,rfl⟩
  wp_walk using wpAny_loadPart' hl
  refine wpAny_stack_any fun st=>YJ ?_
  split
  ·rename_i c _ _ _ _ _
   cases(c==yA "enumerate")
   ·wp_walk using wpAny_loadPart' hl,YO hL
    exact⟨_,rfl,h⟩
   ·wp_walk using wpAny_loadPart' hl,YO hL
    exact⟨_,rfl,h⟩
  ·wp_walk using wpAny_loadPart' hl,YO hL
   exact⟨_,rfl,h⟩
theorem we(hL:s.heap.IsTuple l items)(h:∀ h',IsEnum h' #[22] s.heap.objs.size 0 .none->h'.IsTupleIter s.heap.objs.size l 0->h'.objs.size=s.heap.objs.size+2 ->
   #[61]->Q (.ref #[22]) { s with heap:=h' }):
  wpAny #[7] A (call (.type "enumerate") [.ref l]) Q E s:=by
 obtain⟨⟨c,dct,dt,sl⟩,hl,hc,n,hd⟩:=hL
 replace hc:c=.type "tuple" := hc
 replace hd:dt=.seq items n:=hd
 subst hc hd
 refine callType_new F.called_enumerate #[13] (F.typeCall_enumerate_1 _) (F.newCall_enumerate_1 _) (fun obj=>F.args_object_init_2 obj _) F.entry_enumerate_new
  (wo l items n dct sl) ⟨hl,?_⟩
 have hz:#[26].objs.size=s.heap.objs.size+1:=JA ..
 show _/\_
 rw[hz]
 have he:IsEnum (#[26].push
   { cls:=.type "enumerate",data:=.fields #[.none,.bool false,.ref s.heap.objs.size,rawInt 0,.none,.none] }) #[22] s.heap.objs.size 0 .none:=by
  have:=jK #[26]
   (o:={ cls:=.type "enumerate",data:=.fields #[.none,.bool false,.ref s.heap.objs.size,rawInt 0,.none,.none] }) rfl
  rw[hz]at this;exact this
 refine⟨⟨_,he,rfl⟩,h _ he ⟨_,jA _ (jK _ rfl),rfl,rfl⟩ (by rw[JA,hz]) fun b o x=>jA _ (jA _ x)⟩
variable{X:Cx}{pins:List (Qo×Obj)}{σ B:St}{H:Hp}{s:qM}{h':Heap}{t' n j:Nat}{e l:Expr}{P prog:qJ}{w:World}{K:Yh}{elts es:List Expr}{pos T3 p:Pos}{tl ta:TA}{a C:Qo}{xs:List V}{tb:TS}{D:Ends}{acc:Array Value}{x m:qN}{ps:List qN}{sp:Sp}{A:Around}{E:Value→qM→Prop}{ix:List (Option Nat)}{te:TE}{Qd:Qo→Hp→Prop}{v:Value}
section
theorem Inv.Sb{t':Nat}{e it:Qo}(I:Inv X pins σ H s)(k:∀ b o,b≠e->b≠it->s.heap.get? b=some o->h'.get? b=some o)(fe:tI X pins H e)(fi:tI X pins H it):Inv X pins σ H { s with heap:=h',toks:=t' }:=by
 have nn:∀ b u,H b=some u->b≠e/\b≠it:=fun b u q=>⟨fun z=>(by rw[z,fe.1]at q;cases q),fun z=>(by rw[z,fi.1]at q;cases q)⟩
 have kk:∀ b o,b∉[e,it]->s.heap.get? b=some o->h'.get? b=some o:=fun b o hc q=>k b o #[183] #[183] q
 refine I.step (g' := s.gens) (d' := s.drawn) (ch:=[e,it]) (fun b hb=>?_) (fun b o _ _ hc q _=>kk b o hc q) (fun b o _ _ hc q _=>⟨o.slots,kk b o hc q⟩) (fun _ _ _ _ n=>n)
  (fun b o hc q=>⟨o,kk b o hc q⟩) (fun _ _ q=>q) (fun _ _ _ q=>q) (fun b ps q=>⟨#[],by rw[q];simp⟩) (fun m hm=>?_) (fun b u q=>?_) I.bare
 ·exists 59
  rcases q with rfl|rfl
  ·exact⟨fe.2.2.2.1,fe.2.1,fe.2.2.2.2.1,fe.2.2.2.2.2⟩
  ·exact⟨fi.2.2.2.1,fi.2.1,fi.2.2.2.2.1,fi.2.2.2.2.2⟩
 ·obtain⟨o,es,ep,ho,r⟩:=hm
  exact⟨o,es,ep,k _ o (Ne.symm fe.2.1) (Ne.symm fi.2.1) ho,r⟩
 ·refine(I.hok b u q).BQ (fun c v hc z=>k c v ?_ ?_ z) (fun _ z=>z) fun _ _ z=>z
  ·rcases hc with z|z
   ·rw[z];exact(nn b u q).1
   ·exact(nn c _ z).1
  ·rcases hc with z|z
   ·rw[z];exact(nn b u q).2
   ·exact(nn c _ z).2
end
def Ite(K:Yh)(a:Qo):It:=
 ⟨fun i H=>∃ xs x,wO K H a xs/\xs[i]?=some x,fun i H v H'=>∃ T x,v=.ref T/\H T=none/\H'=upd H T #[169]/\∀ xs,wO K H a xs->xs[i]?=some x,fun i H=>∃ xs,wO K H a xs/\xs.length<=i⟩
theorem PN{x1:_}(a e it:Qo):Turn P w K (.Tuple elts x1 pos) (Ite K a) [e,it] e (fun i h=>(∃ old,IsEnum h e it i old)/\h.IsTupleIter it a i) where
 mem:=by simp
 obj:=fun i h st b hb=>by
  exists 59
  rcases q with rfl|rfl
  ·obtain⟨⟨old,st⟩,_⟩:=st
   exact⟨_,st,fun v z=>by
    exists 74
    cases z'⟩
  ·obtain⟨_,o,e,c,d⟩:=st
   exists 16
 keep:=fun i h h' st k=>⟨let ⟨old,z⟩:=st.1;⟨old,k e #[10] _ z⟩,st.2.at fun o z=>k it #[10] o z⟩
 item:=by
  exists 1
  exists 92
  obtain⟨xs,x,hq,hx⟩:=hg
  exists 83
  exists 94
  exists 91
  have p':s.heap.IsTuple a aX.toArray:=p
  have fe:=hf e #[10]
  have fi:=hf it #[10]
  have ne:e≠it:=fun z=>by
   subst z
   obtain⟨o,e1,c,d⟩:=hit
   rw[he]at e1
   cases e1
   have c':yA "enumerate" = yA "tuple_iterator" := c
   injection c' with c'
   exists 77
  have nae:a≠e:=fun z=>by
   subst z
   obtain⟨o,e1,c,d⟩:=p'
   rw[he]at e1
   cases e1
   have c':yA "enumerate" = yA "tuple" := c
   injection c' with c'
   exists 77
  have nai:a≠it:=fun z=>by
   subst z
   obtain⟨o,e1,c,d⟩:=p'
   obtain⟨o2,e2,c2,d2⟩:=hit
   rw[e1]at e2
   cases e2
   rw[c]at c2
   injection c2 with c'
   exists 77
  have hi:i<aX.toArray.size:=by
   have:i<aX.length:=(js.mp hu).1
   simpa using this
  have D:=OE (prog:=X.prog) (w:=X.w) (A:=X.A.in1) (show X.A.in1.handled=none from I.ok.hd hc) it a nai aX.toArray
  refine YQ D he ⟨hit,p'⟩ hi ne (by simp[ne,Ne.symm nae]) fun y h1 tk hy ho Oe hT hsz hk=>?_
  have ey:y=u:=by
   have:aX.toArray[i]?=some u:=by simpa using hu
   rw[this]at hy
   exact(Option.some.inj hy).symm
  subst ey
  refine⟨_,rfl,Ww ho fun h2 he2 hs2=>?_⟩
  exists 63
  have I1:Inv X pins σ #[55] { s with heap:=s.heap.push { cls:=.type "tuple",data:=.seq #[.int i tk,y] },toks:=tk+1 }:=
   I.laid (o:=.tup [.int i,x]) (fun b ob q=>jA _ q) (jF _) ⟨by show 2<=sizeLine;decide,[.int i tk,y],.cons ⟨tk,rfl⟩ (.cons ru .nil),⟨_,jK _ rfl,rfl,_,rfl⟩⟩
  have lt:∀ b∈[e,it],b<s.heap.objs.size:=fun b hb=>by
   exists 59
   rcases q with rfl|rfl
   ·exact jL he
   ·obtain⟨o,e1,_⟩:=hit
    exact jL e1
  have f2:∀ b∈[e,it],tI X pins #[55] b:=fun b hb=>by
   refine⟨?_,(hf b hb).2⟩
   rw[ag (jQ (lt b hb))]
   exact(hf b hb).1
  have I2:Inv X pins σ #[55] { s with heap:=h2,toks:=tk+1 }:=by
   refine I1.Sb (t' := tk+1) (h' := h2) (fun b o b1 b2 q=>?_) (f2 e #[10]) (f2 it #[10])
   refine(hs2.2 b b1).trans ?_
   rcases ZF (show(s.heap.push { cls:=.type "tuple",data:=.seq #[.int i tk,y] }).get? b=some o from q)with⟨rfl,rfl⟩|z
   ·exact hT
   ·exact hk b o b1 b2 z
  refine⟨.ref s.heap.objs.size,_,I2,rfl,⟨s.heap.objs.size,x,rfl,fr,rfl,fun ys hy=>by rw[I.Hv hy hq];exact hx⟩,⟨⟨y,?_⟩,?_⟩,fun b hb=>(f2 b hb).1⟩
  ·have:((i+1:Nat):Int)=(i:Int)+1:=by push_cast;rfl
   rw[this]
   exact he2
  ·exact Oe.1.at fun o z=>(hs2.2 it (Ne.symm ne)).trans z
 done:=by
  exists 1
  exists 92
  obtain⟨xs,hq,hx⟩:=hg
  exists 83
  exists 91
  exists 2
  have p':s.heap.IsTuple a aX.toArray:=p
  have hl:=rv.length
  have hT:s.TypeIs (.ref e) "enumerate" := ⟨_,he,rfl⟩
  unfold pyNext
  refine WY (WX (Wa (name:=Str.ofString "__next__") hT yX
   (Wb yX hT Xd ?_ (XU _))))
  show wpAny _ _ (field (.ref e) 2>>=_) _ _ _
  refine WY (Wj he rfl (x:=.ref it) rfl ?_)
  refine WY (rS (show X.A.in1.handled=none from I.ok.hd hc) hit p' #[291] fun h' x he' IZ=>?_)
  obtain⟨o,ho,SU⟩:=IZ
  refine WY (Wr (T := "StopIteration") (b:=true) ⟨o,ho,SU⟩ qx ?_)
  exact YJ ⟨rfl,I.turned (t' := s.toks) (fun b o hb z=>he' b o hb z) f0 f1 f3 f4 f5⟩
 self:=fun _ _ _ _ _ st h=>let ⟨_,z⟩:=st.1;YK z h
section
def afO(K:Yh)(tl:TA):TI:=fun σ H R=>tl σ H fun vs H1=>∃ a,vs=[.ref a]/\(∃ xs,wO K H1 a xs)/\R (Ite K a) H1
theorem Bn:qS "enumerate" = some (.type "enumerate"):=by decide +kernel
theorem Et{x1:_}(hg:Gl X "enumerate")(hm:X.mg "enumerate" = none)(hl:PA X [l] tl)(hs:WH [l] X.env=[(false,eval l X.env)]:=by rfl):
  PI X (.Tuple elts x1 T3) (.Call (.Name "enumerate" p) [l] [] pos) (afO X.K tl):=by
 exists 42
 refine Qs (oV I hg hm Bn (Yq (bX (hl pos pins s σ H _ I h) fun us s1 ⟨vs,H1,I1,r1,q1⟩=>?_) hs rfl))
 exists 87
 subst e
 cases r1 with
 | cons r rr =>
  cases rr
  cases r
  obtain⟨aX,rv,p,hz⟩:=I1.tuple hq
  refine we (show s1.heap.IsTuple a aX.toArray from p) fun h' he hit hsz hk=>?_
  refine YK he ?_
  refine⟨s1.heap.objs.size+1,[s1.heap.objs.size+1,s1.heap.objs.size],_,_,H1,rfl,I1.kept (t' := s1.toks) hk,PN a _ s1.heap.objs.size,⟨⟨_,he⟩,hit⟩,fun b hb=>?_,q⟩
  have e:b=s1.heap.objs.size+1\/b=s1.heap.objs.size:=by simpa using hb
  rcases e with rfl|rfl
  ·exact I1.AG (JS _) (I1.hok.fresh (JS _))
  ·exists 15
end
theorem FY{g:TG}(Pv:Nat->St->Hp->Prop)(h0:Pv 0 σ H)(hl:∀ i σ H,i<=xs.length->Pv i σ H->wO K H a xs)(hs:∀ i x σ H T,xs[i]?=some x->Pv i σ H->H T=none->g #[249] σ (upd H T #[169]) fun σ2 H2=>tb { D with nx:=Pv (i+1),ct:=Pv (i+1),bk:=D.nx } σ2 H2)(hd:∀ σ H,Pv xs.length σ H->D.nx σ H):
  ∃ W:Nat->Nat->St->Hp->Prop,#[181]/\∀ i m σ H,W i m σ H ->
   ((Ite K a).stop i H/\D.nx σ H)\/((Ite K a).go i H/\∃ N:St->Hp->Prop,#[17]/\∀ x H',(Ite K a).yld i H x H'->g x σ H' fun σ2 H2=>tb { D with nx:=N,ct:=N,bk:=D.nx } σ2 H2):=by
 exists 7
 exists 50
 exists 99
 exists 72
 ·exists 6
  obtain⟨T,x0,rfl,hT,rfl,y⟩:=y
  exact hs i x0 σ _ T (y xs q) p hT
 ·exists 43
  subst e
  exists 56
theorem OT(h:ItemsOf (fun i v=>∃ t,v=.int (0+(i:Int)*1) t) acc n):Vals ((jZ n).map fun i:Nat=>V.int i) acc.toList:=by
 have go:∀ (n:Nat) (us:List Value),us.length=n->(∀ (j:Nat) (v:Value),us[j]?=some v->∃ t,v=Yt (0+(j:Int)*1) t)->Vals ((jZ n).map fun i:Nat=>V.int i) us:=by
  intro n
  induction n with
  | zero =>
   intro us hl _
   cases us with
   | nil=>exact .nil
   | cons a r=>cases hl
  | succ n ih =>
   intro us hl hv
   have ne:us≠[]:=fun z=>by rw[z]at hl;cases hl
   have e:=ZL ne
   rw[<- e,JI,jD]
   have hd:us.dropLast.length=n:=by rw[ZE,hl];rfl
   refine(ih us.dropLast hd fun j v hj=>?_).append (.cons ?_ .nil)
   ·refine hv j v ?_
    have lt:=(js.mp hj).1
    rw[<- e,JG lt]
    exact hj
   ·obtain⟨t,ht⟩:=hv n (us.getLast ne) (by rw[List.getLast_eq_getElem,jC #[0]];simp[hl])
    rw[ht]
    exact⟨t,by rw[JJ,zZ]⟩
 exact go n acc.toList (by rw[jt,h.1]) fun j v hj=>h.2 j v (by rw[<- Jb];exact hj)
section
variable{a:Expr}{p2 TC:Pos}
inductive PH (Q:VK) (vs:List V) (H1:Hp):Prop
 | mk (n:Nat) (_:vs=[.int n]) (_:n<=sizeLine) (_:∀ l,H1 l=none->Q #[202] (upd H1 l #[212]))
def abC(ta:TA):TE:=fun σ H Q=>ta σ H (PH Q)
theorem Pe(hc:X.calm=true)(hgl:Gl X "list")(hml:X.mg "list" = none)(hg:Gl X "range")(hm:X.mg "range" = none)(ha:PA X [a] ta)(hs:WH [a] X.env=[(false,eval a X.env)]:=by rfl)(hs2:WH [.Call (.Name "range" p2) [a] [] TC] X.env=[(false,eval (.Call (.Name "range" p2) [a] [] TC) X.env)]:=by rfl):
  PE X (.Call (.Name "list" p) [.Call (.Name "range" p2) [a] [] TC] [] pos) (abC ta):=by
 exists 5
 refine WR (oV I hgl hml wQ ?_)
 refine Yq ?_ hs2 rfl
 rw[hs2]
 refine Yz ?_
 refine Qs (oV I hg hm qU (Yq (bX (ha TC pins s σ H _ I h) fun us s1 ⟨vs,H1,I1,r1,q1⟩=>?_) hs rfl))
 obtain⟨n,e,hn,q⟩:=q1
 subst e
 cases r1 with
 | cons r rr =>
  cases rr
  obtain⟨t,rfl⟩:=r
  have big:sizeLine<=2^24:=by decide
  have aqc:((sizeLine:Nat):Int)<2^62:=by decide
  have amt:(n:Int)<2^62:=by omega
  refine call_range_1 ?_
  refine yO ?_
  have sz:#[56].objs.size=s1.heap.objs.size+1:=JA _ _
  refine PySem.call_list_range (s:={ s1 with heap:=s1.heap.push { cls:=.type "range",data:=.fields #[.int 0 s1.toks,.int n t,.int 1 (s1.toks+1)] },toks:=s1.toks+1+1 }) (n:=n) (I1.ok.hd hc) (IsRange.new ..) (small_one #[0] #[0] #[0] amt)
   (by rw[rangeSize_one];split<;>omega) #[0] fun h' tk ab5 c' kp e sH=>?_
  have Ig:∀ b o,s1.heap.get? b=some o->h'.get? b=some o:=fun b o f=>kp b o (jA _ f)
  have ob:bF X.prog X.w (upd H1 #[56].objs.size #[212]) h' #[56].objs.size #[212]:=by
   exists by rw[jW,jq];exact hn,ab5.toList,c',OT sH
   exact e
  exact⟨.ref _,_,I1.laid (t' := tk) Ig (by rw[sz];exact JS _) ob,rfl,q _ (I1.hok.fresh (by rw[sz];exact JS _))⟩
end
structure P5(P:qJ)(w:World)(K:Yh)(mg:qN->Option Value)(base:Heap)(x:qN)(C:Qo)(k:Nat)(ps:List qN)(sp:Sp):Prop where
 m:mg x=some #[31]
 cl:IV K C
 ex:∃ (f:Qo) (fd:Qz),Mk K C f/\Binds K fd ps []/\bw P w K mg base eS k f fd ps sp
theorem aa1{k:Nat}{t:TA}(G:P5 X.prog X.w X.K X.mg X.base x C k ps sp)(hr:dM j X.A)(ha:PA X (e :: es) t)(LQ:k+1<=j:=by decide)(hg:Gl X x:=by rfl)(Cf:#[18]=false:=by decide)(he:WH (e :: es) X.env=#[20] :: WH es X.env:=by rfl)(Al:#[29].any (·.1)=false:=by rfl):PE X #[27] (aeF C sp [] E0 t):=by
 obtain⟨f,fd,M,hb,F⟩:=G.ex
 exact adm M F #[276] hg G.m hb .nil aaW ha Cf he Al
structure tP(P:qJ)(w:World)(K:Yh)(mg:qN->Option Value)(base:Heap)(C:Qo)(m:qN)(k:Nat)(ps:List qN)(sp:Sp):Prop where
 cl:IV K C
 ex:∃ (f:Qo) (fd:Qz),Meth K C m f/\Binds K fd ps []/\bw P w K mg base eS k f fd ps sp
theorem Hk{k:Nat}{apos:Pos}{o:Expr}{ta:TE}{t:TA}{pl:qK Bool}(G:tP X.prog X.w X.K X.mg X.base C m k ps sp)(hr:dM j X.A)(ho:PE X o ta)(ha:PA X (e :: es) t)(LQ:k<=j:=by decide)(tL:WH (e :: es) X.env=#[20] :: WH es X.env:=by rfl)(Al:#[29].any (·.1)=false:=by rfl)(ht:eval #[108] X.env=(do
   let ov <- eval o X.env
   standAt apos.atName
   let (f,first) <- holding [ov] (getMethod ov m pl)
   callWith pos f first (backTo pos (WH (e :: es) X.env)) #[103]):=by rfl):
  PE X #[108] (R8 C m sp [] E0 ta t):=by
 obtain⟨f,fd,hm,hb,F⟩:=G.ex
 exact ado ho G.cl hm F #[276] hb .nil aaW ha tL Al ht
def Se(K:Yh)(a:Qo):It:=
 ⟨fun i H=>∃ xs x,pk K H a xs/\xs[i]?=some x,fun i H v H'=>∃ T x,v=.ref T/\H T=none/\H'=upd H T #[169]/\∀ xs,pk K H a xs->xs[i]?=some x,fun i H=>∃ xs,pk K H a xs/\xs.length<=i⟩
theorem PM{x1:_}(a e it:Qo):Turn P w K (.Tuple elts x1 pos) (Se K a) [e,it] e (fun i h=>(∃ old,IsEnum h e it i old)/\h.IsListIter it a i) where
 mem:=by simp
 obj:=fun i h st b hb=>by
  exists 59
  rcases q with rfl|rfl
  ·obtain⟨⟨old,st⟩,_⟩:=st
   exact⟨_,st,fun v z=>by
    exists 74
    cases z'⟩
  ·obtain⟨_,o,e,c,d⟩:=st
   exists 16
 keep:=fun i h h' st k=>⟨let ⟨old,z⟩:=st.1;⟨old,k e #[10] _ z⟩,st.2.at fun o z=>k it #[10] o z⟩
 item:=by
  exists 1
  exists 92
  obtain⟨xs,x,hq,hx⟩:=hg
  exists 67
  exists 94
  exists 91
  have p':s.heap.IsList a aX.toArray:=p.isList
  have fe:=hf e #[10]
  have fi:=hf it #[10]
  have ne:e≠it:=fun z=>by
   subst z
   obtain⟨o,e1,c,d⟩:=hit
   rw[he]at e1
   cases e1
   have c':yA "enumerate" = yA "list_iterator" := c
   injection c' with c'
   exists 77
  have nae:a≠e:=fun z=>by
   subst z
   obtain⟨o,e1,c,d⟩:=p'
   rw[he]at e1
   cases e1
   have c':yA "enumerate" = yA "list" := c
   injection c' with c'
   exists 77
  have nai:a≠it:=fun z=>by
   subst z
   obtain⟨o,e1,c,d⟩:=p'
   obtain⟨o2,e2,c2,d2⟩:=hit
   rw[e1]at e2
   cases e2
   rw[c]at c2
   injection c2 with c'
   exists 77
  have hi:i<aX.toArray.size:=by
   have:i<aX.length:=(js.mp hu).1
   simpa using this
  have D:=Draws.list (prog:=X.prog) (w:=X.w) (A:=X.A.in1) (show X.A.in1.handled=none from I.ok.hd hc) it a nai aX.toArray
  refine YQ D he ⟨hit,p'⟩ hi ne (by simp[ne,Ne.symm nae]) fun y h1 tk hy ho Oe hT hsz hk=>?_
  have ey:y=u:=by
   have:aX.toArray[i]?=some u:=by simpa using hu
   rw[this]at hy
   exact(Option.some.inj hy).symm
  subst ey
  refine⟨_,rfl,Ww ho fun h2 he2 hs2=>?_⟩
  exists 63
  have I1:Inv X pins σ #[55] { s with heap:=s.heap.push { cls:=.type "tuple",data:=.seq #[.int i tk,y] },toks:=tk+1 }:=
   I.laid (o:=.tup [.int i,x]) (fun b ob q=>jA _ q) (jF _) ⟨by show 2<=sizeLine;decide,[.int i tk,y],.cons ⟨tk,rfl⟩ (.cons ru .nil),⟨_,jK _ rfl,rfl,_,rfl⟩⟩
  have lt:∀ b∈[e,it],b<s.heap.objs.size:=fun b hb=>by
   exists 59
   rcases q with rfl|rfl
   ·exact jL he
   ·obtain⟨o,e1,_⟩:=hit
    exact jL e1
  have f2:∀ b∈[e,it],tI X pins #[55] b:=fun b hb=>by
   refine⟨?_,(hf b hb).2⟩
   rw[ag (jQ (lt b hb))]
   exact(hf b hb).1
  have I2:Inv X pins σ #[55] { s with heap:=h2,toks:=tk+1 }:=by
   refine I1.Sb (t' := tk+1) (h' := h2) (fun b o b1 b2 q=>?_) (f2 e #[10]) (f2 it #[10])
   refine(hs2.2 b b1).trans ?_
   rcases ZF (show(s.heap.push { cls:=.type "tuple",data:=.seq #[.int i tk,y] }).get? b=some o from q)with⟨rfl,rfl⟩|z
   ·exact hT
   ·exact hk b o b1 b2 z
  refine⟨.ref s.heap.objs.size,_,I2,rfl,⟨s.heap.objs.size,x,rfl,fr,rfl,fun ys hy=>by rw[I.Ek hy hq];exact hx⟩,⟨⟨y,?_⟩,?_⟩,fun b hb=>(f2 b hb).1⟩
  ·have:((i+1:Nat):Int)=(i:Int)+1:=by push_cast;rfl
   rw[this]
   exact he2
  ·exact Oe.1.at fun o z=>(hs2.2 it (Ne.symm ne)).trans z
 done:=by
  exists 1
  exists 92
  obtain⟨xs,hq,hx⟩:=hg
  exists 67
  exists 91
  exists 2
  have p':s.heap.IsList a aX.toArray:=p.isList
  have hl:=rv.length
  have hT:s.TypeIs (.ref e) "enumerate" := ⟨_,he,rfl⟩
  unfold pyNext
  refine WY (WX (Wa (name:=Str.ofString "__next__") hT yX
   (Wb yX hT Xd ?_ (XU _))))
  show wpAny _ _ (field (.ref e) 2>>=_) _ _ _
  refine WY (Wj he rfl (x:=.ref it) rfl ?_)
  refine WY (wpAny_nextOf_list_end (show X.A.in1.handled=none from I.ok.hd hc) hit p' #[291] fun h' x he' IZ=>?_)
  obtain⟨o,ho,SU⟩:=IZ
  refine WY (Wr (T := "StopIteration") (b:=true) ⟨o,ho,SU⟩ qx ?_)
  exact YJ ⟨rfl,I.turned (t' := s.toks) (fun b o hb z=>he' b o hb z) f0 f1 f3 f4 f5⟩
 self:=fun _ _ _ _ _ st h=>let ⟨_,z⟩:=st.1;YK z h
section
def afN(K:Yh)(tl:TA):TI:=fun σ H R=>tl σ H fun vs H1=>∃ a,vs=[.ref a]/\(∃ xs,pk K H1 a xs)/\R (Se K a) H1
theorem Es{x1:_}(hg:Gl X "enumerate")(hm:X.mg "enumerate" = none)(hl:PA X [l] tl)(hs:WH [l] X.env=[(false,eval l X.env)]:=by rfl):
  PI X (.Tuple elts x1 T3) (.Call (.Name "enumerate" p) [l] [] pos) (afN X.K tl):=by
 exists 42
 refine Qs (oV I hg hm Bn (Yq (bX (hl pos pins s σ H _ I h) fun us s1 ⟨vs,H1,I1,r1,q1⟩=>?_) hs rfl))
 exists 87
 subst e
 cases r1 with
 | cons r rr =>
  cases rr
  cases r
  obtain⟨aX,rv,p,hz⟩:=I1.list hq
  refine call_enumerate_list (show s1.heap.IsList a aX.toArray from p.isList) fun h' he hit hsz hk=>?_
  refine YK he ?_
  refine⟨s1.heap.objs.size+1,[s1.heap.objs.size+1,s1.heap.objs.size],_,_,H1,rfl,I1.kept (t' := s1.toks) hk,PM a _ s1.heap.objs.size,⟨⟨_,he⟩,hit⟩,fun b hb=>?_,q⟩
  have e:b=s1.heap.objs.size+1\/b=s1.heap.objs.size:=by simpa using hb
  rcases e with rfl|rfl
  ·exact I1.AG (JS _) (I1.hok.fresh (JS _))
  ·exists 15
end
theorem FX{g:TG}(Pv:Nat->St->Hp->Prop)(h0:Pv 0 σ H)(hl:∀ i σ H,i<=xs.length->Pv i σ H->pk K H a xs)(hs:∀ i x σ H T,xs[i]?=some x->Pv i σ H->H T=none->g #[249] σ (upd H T #[169]) fun σ2 H2=>tb { D with nx:=Pv (i+1),ct:=Pv (i+1),bk:=D.nx } σ2 H2)(hd:∀ σ H,Pv xs.length σ H->D.nx σ H):
  ∃ W:Nat->Nat->St->Hp->Prop,#[181]/\∀ i m σ H,W i m σ H ->
   ((Se K a).stop i H/\D.nx σ H)\/((Se K a).go i H/\∃ N:St->Hp->Prop,#[17]/\∀ x H',(Se K a).yld i H x H'->g x σ H' fun σ2 H2=>tb { D with nx:=N,ct:=N,bk:=D.nx } σ2 H2):=by
 exists 7
 exists 50
 exists 99
 exists 72
 ·exists 6
  obtain⟨T,x0,rfl,hT,rfl,y⟩:=y
  exact hs i x0 σ _ T (y xs q) p hT
 ·exists 43
  subst e
  exists 56
theorem MN{t u a b:Option V}:((((B.set 0 t).set 1 u).set 0 a).set 1 b)=(B.set 0 a).set 1 b:=by
 rw[List.set_comm u a (l:=B.set 0 t) (by decide:(1:Nat)≠0),zH,zH]
theorem OC{J:It}{item:Nat->V}{g:TG}(Pv:Qo->Nat->List V->Hp->Prop)(hg:∀ (T:Qo) (σ:St) (H:Hp) (Q:St->Hp->Prop) (i:Int) (x:V),H T=some #[169]->Q ((σ.set 0 (some (.int i))).set 1 (some x)) H->g #[249] σ H Q)(h0:∀ D,H D=none->Pv D 0 [] #[75])(LP:∀ D i ys H',i<n->Pv D i ys H'->J.go i H'/\∀ x H2,J.yld i H' x H2->∃ T,x=.ref T/\H' T=none/\H2=upd H' T (.tup [.int i,item i]))(tL:∀ D ys H',Pv D n ys H'->J.stop n H')(hs:∀ D i ys H' T (Q':VK),H D=none->i<n->H' D=some #[88]->Pv D i ys H'->H' T=none->#[8] ->
   te (#[139].set 1 (some (item i))) (upd H' T (.tup [.int i,item i])) Q')(hd:∀ D ys H',H D=none->H' D=some #[88]->Pv D n ys H'->Qd D H'):AZ J ix g te σ H Qd:=by
 intro D hD
 refine⟨fun i m σ' H'=>m=n-i/\i<=n/\(σ'=aP ix σ\/∃ t u,σ'=(#[91].set 0 t).set 1 u)/\∃ ys,H' D=some #[88]/\Pv D i ys H',⟨n,by simp,jd _,.inl rfl,[],ae,h0 D hD⟩,?_⟩
 exists 12
 by_cases dy:i<n
 ·obtain⟨g1,g2⟩:=LP D i ys H' dy p
  refine .inr ⟨g1,fun x H2 y=>?_⟩
  obtain⟨T,rfl,hT,rfl⟩:=g2 x H2 y
  refine hg T σ' _ _ i (item i) ae ?_
  have es:(#[198].set 1 (some (item i)))=(#[91].set 0 (some (V.int i))).set 1 (some (item i)):=by
   rcases hσ with z|⟨t,u,z⟩
   ·rw[z]
   ·rw[z,MN]
  show te (#[198].set 1 (some (item i))) _ _
  rw[es]
  refine hs D i ys _ T _ hD dy hy p hT fun y H4 h4 hz p4=>⟨ys,h4,hz,n-(i+1),by omega,rfl,dy,.inr ⟨_,_,rfl⟩,ys++[y],ae,p4⟩
 ·have e:i=n:=by omega
  subst e
  exact .inl ⟨tL D ys H' p,hd D ys H' hD hy p⟩
theorem Rr{k:Key}(h:CG k v=true):RelV (kV k) v:=by
 rcases cJ h with⟨n,t,rfl,rfl⟩|⟨x,t,rfl,rfl⟩
 ·exact⟨t,rfl⟩
 ·exact⟨t,rfl⟩
section
abbrev Ba(v d:Qo):HO:=.ext fun h=>h.IsItemsView v d
inductive agm (x:V) (vs:List V) (H:Hp) (Q:VK):Prop
 | mk (d:_) (kvs:_) (_:x=.ref d) (_:vs=[]) (_:H d=some #[74]) (_:∀ v,H v=none->Q (.ref v) (upd H v (Ba v d)))
theorem aaw:MtM X "dict.items" agm:=by
 exists 35
 obtain⟨d,kvs,rfl,rfl,hd,q⟩:=h
 cases rx
 have hus:=rv.zero
 subst hus
 obtain⟨z,lo,vs,kv,dof⟩:=(show bF X.prog X.w H s.heap d #[74]from I.hok d _ hd)
 refine qX XW dof.typeIs PySem.F.entry_dict_items (PySem.F.args_dict_items_1 _) (meets_dict_items #[184] d lo) ⟨⟨vs,dof⟩,?_⟩
 refine⟨.ref _,_,I.laid (o:=Ba s.heap.objs.size d) (t' := s.toks) (fun b o e=>jA _ e) (jF _) ?_,rfl,q _ #[115]⟩
 exact⟨⟨_,jK _ rfl,rfl,rfl⟩,⟨_,jK _ rfl⟩,fun h1 h2 ⟨o,ho,x⟩ kp=>⟨o,kp o ho,x⟩⟩
end
end L2
namespace PySem
open PyProof.Rows
namespace F
end F
end PySem
namespace L2
open PySem PySem.Spec PyProof.Rows
variable{X:Cx}{o e:Expr}{es:List Expr}{pos:Pos}{n:Nat}{m f:qN}{C:Qo}{ps:List qN}{sp:Sp}{ta te:TE}{prog:qJ}{w:World}{A:Around}{s:qM}{lo:Int}{ix:List (Option Nat)}{tc:TT}{σ:St}{H:Hp}{Qd:Qo→Hp→Prop}{D:Ends}
section
theorem RB(K:Yh){k:Nat}{t:TGs}(hc:X.calm=true)(h:PGs X es t)(hK:X.K=K:=by rfl)(hn:(qQ es X.env).length=n:=by rfl)(tL:(qQ es X.env).findIdx? (·.1)=none:=by rfl):PG X (.Tuple es k pos) (ahY K n t):=by
 subst hK
 exact AO hc h hn tL
theorem Pf{j k:Nat}{apos:Pos}{pl:qK Bool}(G:tP X.prog X.w X.K X.mg X.base C m k ps sp)(hr:dM j X.A)(ho:PE X o ta)(LQ:k<=j:=by decide)(ht:eval #[129] X.env=(do
   let ov <- eval o X.env
   standAt apos.atName
   let (f,first) <- holding [ov] (getMethod ov m pl)
   callWith pos f first (backTo pos (WH [] X.env)) #[103]):=by rfl):
  PE X #[129] (R8 C m sp [] E0 ta adS):=by
 obtain⟨f,fd,hm,hb,F⟩:=G.ex
 exact aa0 ho G.cl hm F #[276] hb .nil aaW ht
end
section
theorem Rz(K:Yh)(he:PE X e ta)(hb:attributeBase e f X.env #[278]=eval e X.env)(hK:X.K=K:=by rfl):PE X (.Attribute e f pos) (ajM K ta f):=by
 subst hK
 exact dz he hb
end
theorem Lq(Pv:Qo->Nat->List V->Hp->Prop)(h0:∀ D,H D=none->Pv D 0 [] #[75])(hs:∀ D i ys H' (Qy:VK) (Qn:Hp->Prop),H D=none->i<n->H' D=some #[88]->Pv D i ys H'->(∀ y H4,H4 D=some #[88]->ys.length<sizeLine->Pv D (i+1) (ys++[y]) (upd H4 D (.lst (ys++[y])))->Qy y H4) ->
   (∀ H4,H4 D=some #[88]->Pv D (i+1) ys H4->Qn H4)->tc (#[91].set 0 (some (.int (lo+i)))) H' fun b H4=>if b=true then te (#[91].set 0 (some (.int (lo+i)))) H4 Qy else Qn H4)(hd:∀ D ys H',H D=none->H' D=some #[88]->Pv D n ys H'->Qd D H'):Hy (Itr lo n) ix (ba 0) tc te σ H Qd:=by
 intro D hD
 refine⟨fun i m σ' H'=>m=n-i/\i<=n/\#[50]/\∃ ys,H' D=some #[88]/\Pv D i ys H',⟨n,by simp,jd _,.inl rfl,[],ae,h0 D hD⟩,?_⟩
 exists 12
 by_cases dy:i<n
 ·refine .inr ⟨dy,fun x H2 y=>?_⟩
  obtain⟨e1,e2⟩:=y
  subst e1
  subst e2
  have es:σ'.set 0 #[175]=#[91].set 0 #[175]:=by
   exists 76
   ·rw[z]
   ·rw[z,zH]
  show tc (σ'.set 0 #[175]) _ _
  rw[es]
  exact hs D i ys _ _ _ hD dy hy p (fun y H4 h4 hz p4=>⟨ys,h4,hz,n-(i+1),by omega,rfl,dy,.inr ⟨_,rfl⟩,ys++[y],ae,p4⟩) fun H4 h4 p4=>⟨n-(i+1),by omega,rfl,dy,.inr ⟨_,rfl⟩,ys,h4,p4⟩
 ·have e:i=n:=by omega
  subst e
  exact .inl ⟨jF _,hd D ys H' hD hy p⟩
theorem dh{t u:TS}(R:St->Hp->Prop)(h1:∀ σ' H',R σ' H'->u D σ' H')(h2:∀ D':Ends,(∀ σ' H',R σ' H'->D'.nx σ' H')->t D' σ H):PJ t u D σ H:=
 h2 { D with nx:=u D } h1
inductive Lg (xs:List V) (H:Hp) (Q:VK):Prop
 | mk (a:_) (kvs:_) (_:xs=[.ref a]) (_:H a=some #[74]) (_:Q (.int kvs.length) H)
theorem wR:iz X #[232] (Lg):=by
 exists 8
 obtain⟨a,kvs,rfl,ha,q⟩:=h
 exists 13
 cases rx
 exact ahO I (.inl ha) fun t s' I'=>⟨.int kvs.length,H,I',⟨t,rfl⟩,q⟩
theorem Fv(l b:Qo)(items Ee:Array Value)(n n2:Nat)(dc:Option Qo)(sl:Array (Option Value))(h0:¬(!items.isEmpty&&yH (items.size+Ee.size))=true)(h1:items.size<=sizeLine)(h2:items.size+Ee.size<=sizeLine+1):
  Meets (Builtin.«list.extend» ⟨[.ref l,.ref b],[]⟩) (fun _ R s=>s.heap.get? l=some { cls:=.type "list",dict:=none,data:=.seq items n,slots := #[] }/\s.heap.get? b=some { cls:=.type "tuple",dict:=dc,data:=.seq Ee n2,slots:=sl }/\R (.ok (.ret Yn)) { s with heap:=s.heap.update l (Obj.mapSeq (·++Ee)) }):=
 .of_wp fun prog w A R s h=>by
  obtain⟨hp,g,d,tk,os⟩:=s
  obtain⟨hl,hb,h⟩:=h
  have f1:=AutoSeq1.idx_int
  have f2:=AutoSeq1.sub_tuple_tuple
  have f3:=AutoSeq1.sub_list_list
  have f4:=AutoSeq1.sub_tuple_list
  have f5:=AutoSeq1.sub_list_tuple
  have hz':(items++Ee).size<=sizeLine+1:=by rw[Array.size_append];exact h2
  wp_walk using (Yg hl rfl (hz:=h1) (_hz' := hz')),wpAny_loadPart' hl,wpAny_loadPart' hb
  exact⟨_,rfl,h⟩
section
inductive MF (x:V) (vs:List V) (H:Hp) (Q:VK):Prop
 | mk (l:_) (b:_) (xs:_) (zs:_) (_:x=.ref l) (_:vs=[.ref b]) (_:H l=some #[236]) (_:H b=some (.tup zs)) (_:xs.length+zs.length<=sizeLine) (_:Q .non (upd H l (.lst (xs++zs))))
theorem O3:MtM X "list.extend" MF:=by
 exists 35
 obtain⟨l,b,xs,zs,rfl,rfl,hH,hB,hz,q⟩:=h
 cases rx
 obtain⟨u,rfl,ru⟩:=rv.one
 cases ru
 exists 65
 obtain⟨C9,r2,ht,hz2⟩:=I.tuple (wO.of (K:=X.K) hB)
 have hl2:=r2.length
 obtain⟨⟨c,dc,da,sl⟩,e2,c2,n2,d2⟩:=ht
 cases c2
 cases d2
 have hsz:aX.toArray.size+C9.toArray.size<=sizeLine:=by rw[jS,jS];omega
 have Z6:¬ (!aX.toArray.isEmpty&&yH (aX.toArray.size+C9.toArray.size))=true:=by
  rw[Mm hsz,Zk]
  exact jo
 refine qW Xu ⟨_,e,rfl⟩ Xo (Xk _ _)
  (Fv l b aX.toArray C9.toArray n n2 dc sl Z6 #[301] #[0]) ⟨e,e2,?_⟩
 refine⟨.non,_,I.acY (its' := aX++C9) hH e #[10] (r.append r2) ?_,rfl,q⟩
 rw[jH]
 omega
def abg:V->List V->Hp->VK->Prop:=fun x vs H Q=>RJ x vs H Q\/MF x vs H Q
theorem O2:MtM X "list.extend" abg:=by
 exists 35
 rcases h with h|h
 ·exact Hg pins s σ H x vs v us Q I rx rv h
 ·exact O3 pins s σ H x vs v us Q I rx rv h
end
end L2
namespace PySem
open PyProof.Rows
variable{prog:qJ}{w:World}{A:Around}{E:Value→qM→Prop}{s:qM}{a l:Qo}{xs:Array Value}{sl:Array (Option Value)}{Q:Option Value→qM→Prop}{K:Type}{R:Result→qM→Prop}{ts:List Qo}{c:Nat}
theorem Ef:typeLookup #[282] "keys" = pure none:=by rw[WN,qV];kernel_rfl
theorem wm{k:Nat}(hx:s.heap.get? a=some { cls:=.type "list",dict:=none,data:=.seq xs k,slots:=sl })(hA:A.handled=none)(h:∀ h' tk,#[61]->Q none { s with heap:=h',toks:=tk }):wpAny #[7] A (getAttr? #[203] "keys") Q E s:=by
 obtain⟨hp,g,d,tk,os⟩:=s
 have hT:∀ tk',(⟨hp,g,d,tk',os⟩:qM).TypeIs #[203] "list" := fun _=>⟨_,hx,rfl⟩
 have f1:=sub_AttributeError
 have f3:=F.slot_list_getattribute.lookup
 have f4:=F.slot_list_getattribute.bind #[203]
 have f5:=am_list_getattr_none
 have aiA:=Ef
 have CD:(["__module__","__name__","__qualname__","__doc__","__annotations__"]:List qN).contains (Str.ofString "keys")=false:=by decide +kernel
 unfold getAttr? getAttrBy? getAttrBy
 repeat (any_goals (first|assumption|exact hT _|((with_reducible show wpAny _ _ (call (Yx "list.__getattribute__") _ _) _ _ _);refine qW F.slot_list_getattribute (hT _) am_entry_list_getattribute (F.args_list_getattribute_2 _ _) (meets_getattribute_miss_list a xs k sl (Str.ofString "keys") _ aiA CD #[13]) ⟨hx,hA,fun h' tk' e IZ=>?_⟩)|wp_step))
 obtain⟨t',u',he⟩:=IZ.there
 show wpAny _ _ (getattributeRaised _ _ _ _ _ _ _) _ _ _
 unfold getattributeRaised
 exists 36
 exact h h' tk' IZ.keeps
section
variable[DecidableEq K]{knd:KeyKind prog w K}
theorem eO:entryFor table "dict.update.loop" = some Builtin.«dict.update.loop» := qq #[214]
theorem bZ:plainId "dict.update.loop" = true:=by decide +kernel
def DC(knd:KeyKind prog w K)(h:Heap)(ts:List Qo)(ps:List (K×Value)):Prop := ∀ (j:Nat) (t:Qo) (p:K×Value),ts[j]?=some t->ps[j]?=some p->∃ key,knd.is p.1 key=true/\qD h t #[key,p.2]
theorem N9{D I:Qo}{ps:List (K×Value)}(W:qP prog w A.in1 I [I,l] [I] ts.length (fun i v=>#[147].toArray[i]?=some v) (fun i h=>h.IsListIter I l i/\h.IsList l #[147].toArray))(hl:ts.length=ps.length)(hDI:D≠I)(hDl:D≠l)(hDt:∀ t∈ts,t≠D/\t≠I)(hz:ps.length<=sizeLine):
  ∀ (k i:Nat) (s:qM) (acc:List (K×Value)),ts.length-i=k->i<=ts.length->(s.heap.IsListIter I l i/\s.heap.IsList l #[147].toArray)->s.heap.DictOf knd D acc->acc.length<=i->DC knd s.heap ts ps ->
  (∀ h' tk,(∀ b o,b≠D->b≠I->s.heap.get? b=some o->h'.get? b=some o)->h'.DictOf knd D (merged acc (ps.drop i))->R (.ok (.ret .none)) { s with heap:=h',toks:=tk }) ->
  codeAny #[7] A (.builtin "dict.update.loop" ⟨[.ref D,.ref I,rawInt (i:Int),.none],[]⟩) R s:=by
 intro k
 induction k with
 | zero =>
  exists 84
  have tG:i=ts.length:=by omega
  subst tG
  refine qY eO ?_
  exists 97
  exists 47
  refine WY (W.done s _ _ tL fun h' tk hm=>?_)
  show wpAny _ _ (XJ D []>>=_) _ _ _
  refine WY (YH (a:=()) rfl ?_)
  have e:ps.drop ts.length=[]:=by rw[hl,zU]
  refine YJ (hR h' tk (fun b o _ hb q=>hm b o #[208] q) ?_)
  rw[e]
  exact hD.extBut (b:=I) (fun b o hb q=>hm b o #[208] q) hDI
 | succ k ih =>
  exists 84
  have dy:i<ts.length:=by omega
  have Z7:i<ps.length:=by omega
  refine qY eO ?_
  exists 97
  exists 47
  refine WY (W.item i s _ _ dy tL fun v h' tk hv C7 hm=>?_)
  have ev:v=.ref ts[i]:=by
   have:#[147].toArray[i]?=some (.ref ts[i]):=by simp[dy]
   rw[this]at hv
   exact(Option.some.inj hv).symm
  subst ev
  have keep:∀ b o,b≠I->s.heap.get? b=some o->h'.get? b=some o:=fun b o hb q=>hm b o #[208] q
  obtain⟨key,Z2,ht⟩:=hP i ts[i] ps[i] (jC dy) (jC Z7)
  have tn:=hDt ts[i] (jM dy)
  have U1:qD h' ts[i] #[key,(ps[i]).2]:=ht.extBut (b:=I) keep tn.2
  have hD':h'.DictOf knd D acc:=hD.extBut (b:=I) keep hDI
  obtain⟨ot,hot,hct,nt,hdt⟩:=id U1
  try dsimp only
  refine WY (Wq ?_)
  refine WY (Yc ?_)
  unfold Xe
  refine WY (Yf (s:={ s with heap:=h',toks:=tk }) U1.typeIs ?_)
  rw[if_pos #[13]]
  refine WY (YT (s:={ s with heap:=h',toks:=tk }) hot hdt ?_)
  refine YJ ?_
  show wpAny _ _ (holding [key,(ps[i]).2] (dictSet D key (ps[i]).2)) _ _ _
  refine Wq (wpAny_dictSet_pairs (knd:=knd) (s:={ s with heap:=h',toks:=tk }) Z2 hD' (fun h2 F5 sb2=>?_) #[0])
  have Ar:∀ b o,b≠D->h'.get? b=some o->h2.get? b=some o:=fun b o hb q=>sb2.extBut b o hb q
  refine YJ ⟨WC bZ _,?_⟩
  have ri:rawInt ((i:Int)+1)=rawInt (((i+1:Nat)):Int):=by push_cast;rfl
  rw[ri]
  refine ih (i+1) { s with heap:=h2,toks:=tk+1 } (stored acc (ps[i]).1 (ps[i]).2) #[0] dy ⟨C7.1.at fun o q=>Ar I o (Ne.symm hDI) q,C7.2.at fun o q=>Ar l o (Ne.symm hDl) q⟩ F5 (by
   have:=stored_length_le acc (ps[i]).1 (ps[i]).2
   omega) (fun j t p h1 Dk=>?_) (fun h3 tk3 I9 AI=>?_)
  ·obtain⟨am1,Dm,afI⟩:=hP j t p h1 Dk
   have tn' := hDt t (zB h1)
   exact⟨am1,Dm,(afI.extBut (b:=I) keep tn'.2).extBut (b:=D) Ar tn'.1⟩
  ·refine hR h3 tk3 (fun b o hb hb2 q=>I9 b o hb hb2 (Ar b o hb (keep b o hb2 q))) ?_
   rw[jz Z7]
   exact AI
theorem C1{ps:List (K×Value)}{Q:Value->qM->Prop}(hh:A.handled=none)(hL:s.heap.get? l=some { cls:=.type "list",dict:=none,data:=.seq #[147].toArray c,slots := #[] })(hl:ts.length=ps.length)(hP:DC knd s.heap ts ps)(hz:ps.length<=sizeLine)(hQ:∀ h' tk,#[61]->h'.DictOf knd s.heap.objs.size (merged [] ps)->Q #[15] { s with heap:=h',toks:=tk }):
  wpAny #[7] A (call #[281] [.ref l]) Q E s:=by
 refine callType_codes (Q₁:=fun obj s₁=>obj=.ref s.heap.objs.size/\s₁={ s with heap:=s.heap.push { cls:=.type "dict",data:=.dict #[] } }) xK (Xn _) xD (qy _ ⟨rfl,rfl⟩) ?_
 rintro obj s₁ ⟨rfl,rfl⟩
 have Z8:#[28].DictOf knd s.heap.objs.size []:=xQ s.heap
 have dy:l<s.heap.objs.size:=jL hL
 have hL':#[28].get? l=some { cls:=.type "list",dict:=none,data:=.seq #[147].toArray c,slots := #[] }:=jA _ hL
 exists Z8.typeIs,Xv _ _
 unfold Builtin.«dict.__init__»
 refine WY ?_
 unfold XM
 refine WY (YG Z8.typeIs ?_)
 show wpAny _ _ (pure (s.heap.objs.size,[Yi l])) _ _ _
 refine YJ ?_
 show wpAny _ _ (yS "dict.__init__" s.heap.objs.size #[202] [] .none) _ _ _
 unfold yS
 refine WY (Yf (T := "list") ⟨_,hL',rfl⟩ ?_)
 rw[if_pos #[13]]
 refine WY (wm hL' hh fun h1 tk1 Ig=>?_)
 rw[if_pos #[38]]
 refine WY (YS ?_)
 have EY:=Ig _ _ hL'
 have il1:GY h1 l #[147].toArray:=⟨_,EY,rfl,c,rfl⟩
 refine WY (YL (s:={ s with heap:=h1,toks:=tk1 }) il1 ?_)
 refine YJ ⟨WC bZ _,?_⟩
 have oI:#[47].get? h1.objs.size=some { cls:=.type "list_iterator",data:=.fields #[.ref l,.int 0 0] }:=jK _ rfl
 have l1:l<h1.objs.size:=jL EY
 have d1:s.heap.objs.size<h1.objs.size:=jL (Ig _ _ (jK s.heap rfl))
 have W:=Walks.list (prog:=prog) (w:=w) (A:=A.in1.in1) hh h1.objs.size l (jQ l1) #[147].toArray
 have sz:#[147].toArray.size=ts.length:=by simp
 rw[sz]at W
 have kp2:∀ b o,s.heap.get? b=some o->#[47].get? b=some o:=fun b o q=>jA _ (Ig _ _ (jA _ q))
 refine N9 (A:=A.in1) (knd:=knd) (D:=s.heap.objs.size) (ps:=ps) W hl (jQ d1) (Js dy) (fun t ht=>?_) hz ts.length 0 { s with heap:=h1.push { cls:=.type "list_iterator",data:=.fields #[.ref l,.int 0 0] },toks:=tk1 } [] rfl (jd _) ⟨⟨_,oI,rfl,rfl⟩,il1.at fun o q=>jA _ q⟩ ?_ (jd _) (fun j t p a1 a2=>?_) (fun h3 tk3 I9 AI=>?_)
 ·obtain⟨j,hj⟩:=JF.mp ht
  have jl:j<ps.length:=by
   rw[<- hl]
   exact(js.mp hj).1
  obtain⟨key,_,o,ho,_⟩:=hP j t ps[j] hj (jC jl)
  have tl:=jL ho
  exact⟨jQ tl,jQ (Ju tl d1)⟩
 ·exact Z8.extBut (b:=h1.objs.size) (fun b o _ q=>jA _ (Ig _ _ q)) (jQ d1)
 ·obtain⟨key,hk,ht⟩:=hP j t p a1 a2
  exact⟨key,hk,ht.keeps kp2⟩
 ·exact⟨rfl,hQ h3 tk3 (fun b o q=>I9 b o (jQ (jL q)) (jQ (Ju (jL q) d1)) (kp2 b o q)) AI⟩
end
end PySem
namespace L2
open PySem PySem.Spec PyProof.Rows
variable{X:Cx}{P:qJ}{w:World}{pins:List (Qo×Obj)}{σ:St}{H:Hp}{s:qM}{a I:Qo}{z:V}{u:Tok}{A:Around}{E Q Q₁:Value→qM→Prop}{kvs:List (Key×V)}{o:Obj}{h:Heap}{K:Yh}{tg l:Expr}{tl:TE}{elts:List Expr}{pos T3:Pos}{tb:TS}{D:Ends}{i j n ep:Nat}{α:Type}{b wd:Bool}{ns:List Int}{R:Result→qM→Prop}{items:Array Value}
section
def fH(H:Hp):List Qo->List #[303]->Prop:=qH fun a p=>H a=some (.tup [kV p.1,p.2])
theorem Em:∀ {kvs:List #[303]} {ts:List Qo} {H:Hp} {h:Heap},fH H ts kvs->lM P w H h->∃ ps:List (Key×Value),KV kvs ps/\ps.length=ts.length/\DC (bA P w) h ts ps
 | [],[],_,_,.nil,_=>⟨[],.nil,rfl,fun j t p h=>by simp at h⟩
 | _,_,_,_,.cons (a:=a) (b:=p) (l₁:=ts) (l₂:=kvs) q t,ok=>by
  obtain⟨ps,r1,r2,r3⟩:=Em t ok
  obtain⟨z,aX,rv,ht⟩:=ok a _ q
  obtain⟨u,v,rfl,ru,rv'⟩:=Vals.two rv
  refine⟨(p.1,v) :: ps,.cons ⟨rfl,rv'⟩ r1,by simp[r2],fun j t' p' h1 h2=>?_⟩
  cases j with
  | zero =>
   simp at h1 h2
   subst h1 h2
   exact⟨u,wj ru,by simpa using ht⟩
  | succ j=>exact r3 j t' p' #[254] #[253]
inductive adz (xs:List V) (H:Hp) (Q:VK):Prop
 | mk (l:_) (ts:_) (kvs:_) (_:xs=[.ref l]) (_:H l=some #[177]) (_:fH H ts kvs) (_:∀ D,H D=none->Q #[86] (upd H D (.dK (eZ [] kvs))))
theorem Cv:∀ {ts:List Qo} {us:List Value},Vals (ts.map V.ref) us->us=ts.map Yi
 | [],_,.nil=>rfl
 | t :: ts,_,.cons r q=>by
  cases r
  rw[JN,Cv q]
theorem pF(hc:X.calm=true):iz X #[281] adz:=by
 exists 8
 obtain⟨l,ts,kvs,rfl,hl,hp,q⟩:=h
 exists 13
 cases rx
 obtain⟨z,aX,n,rv,hln,e⟩:=I.Fu hl
 have ei:=Cv rv
 subst ei
 obtain⟨ps,r1,r2,r3⟩:=Em hp I.hok
 have hlen:kvs.length=ps.length:=Paired.length r1
 have zl:ps.length<=sizeLine:=by
  rw[r2]
  rw[jW]at z
  exact z
 refine C1 (knd:=bA X.prog X.w) #[120] e r2.symm r3 zl fun h' tk kp dd=>?_
 have ob:bF X.prog X.w (upd H s.heap.objs.size (.dK (eZ [] kvs))) h' s.heap.objs.size (.dK (eZ [] kvs)):=by
  refine D0 ?_ (beq_eq_false_iff_ne.mpr (Ne.symm (jQ I.big))) (KV.merge r1 .nil) dd
  have:=rb kvs []
  simp only[Jo]at this
  omega
 exists 26
end
section
variable{u r:Value}{k:Key}
theorem HS(I:Inv X pins σ H s)(e:H a=some #[74])(hz:kvs.length<sizeLine)(ry:RelV (kV k) u)(rz:RelV z r)(h1:∀ v w' s',eR kvs k=some v->Inv X pins σ H s'->RelV v w'->Q w' s')(h2:∀ s',eR kvs k=none->Inv X pins σ (upd H a (.dK (putK kvs k z))) s'->Q r s'):
  wpAny #[4] A (call (.builtin "dict.setdefault") [.ref a,u,r]) Q E s:=by
 obtain⟨zl,hd,vs,rel,dd⟩:=Ra I.hok e
 have rv:=rel.val k
 refine qX yx dd.typeIs PySem.F.entry_dict_setdefault (PySem.F.args_dict_setdefault_3 _ _ _) (kt_meets_setdefault #[184] a (wj ry) hd r) ⟨vs,dd,by rw[<- rel.length];exact zl,fun v hv=>?_,fun hn h' IW sb=>?_⟩
 ·cases hk:eR kvs k with
  | none=>rw[hk,hv]at rv;exact rv.elim
  | some x =>
   rw[hk,hv]at rv
   exact h1 x v _ hk (I.tok _) rv
 ·have hk:eR kvs k=none:=by
   cases hk:eR kvs k with
   | none=>rfl
   | some x=>rw[hk,hn]at rv;exact rv.elim
  refine h2 _ hk (sG (t' := s.toks+1) I (by rw[e];trivial) sb ?_ (D0 (kvs:=putK kvs k z) (by have:=my kvs k z;omega) hd (rel.put k rz) IW))
  obtain⟨ob,_,_,g,_⟩:=IW
  exact⟨ob,g⟩
end
inductive adM (ty:TE) (tx:TE) (σ:St) (Q:VK) (x:V) (H1:Hp):Prop
 | mk (a:_) (_:x=.ref a) (_:IsD H1 a) (_:ty σ H1 fun y H2=>tx σ H2 fun z H3=>∃ kvs k,H3 a=some #[74]/\y=kV k/\kvs.length<sizeLine/\(∀ v,eR kvs k=some v->Q v H3)/\(eR kvs k=none->Q z (upd H3 a (.dK (putK kvs k z)))))
def ajJ(td ty tx:TE):TE:=fun σ H Q=>td σ H (adM ty tx σ Q)
section
variable{o e f:Expr}{apos dN:Pos}{td ty tx:TE}
theorem Dr(ho:PE X o td)(he:PE X e ty)(hf:PE X f tx)(m:M2 X o "setdefault" apos e f dN):PE X (.Call (.Attribute o "setdefault" apos) [e,f] [] dN) (ajJ td ty tx):=by
 exists 5
 refine WS m.base m.Fm m.line yI yx PySem.F.type_dict_setdefault #[54]
 subst ex
 exists 57
 obtain⟨t1,t2,_⟩:=Ie I1 d
 exists t1,t2
 rw[m.trees]
 refine yC rfl (yP (Yz (bX #[221] fun iv s2 ⟨y,H2,I2,ry,q2⟩ =>
  Yz (bX (hf pins s2 σ H2 _ I2 q2) fun fv s3 ⟨z,H3,I3,rz,kvs,k,ea,ey,hz,q3,q4⟩=>yO ?_))))
 subst ey
 exact HS I3 ea hz ry rz (fun v w' s' hv I4 rv=>⟨v,H3,I4,rv,q3 v hv⟩) fun s' hn I4=>⟨z,_,I4,rz,q4 hn⟩
end
section
theorem Inv.freeze(I:Inv X pins σ H s)(e:H a=some #[74])(ho:s.heap.get? a=some o):Inv X pins σ (upd H a #[170]) s:=by
 have nt:∀ b u,H b=some u->(u=.dK kvs->False)->b≠a:=fun b u q d=>aG q e d
 refine I.un (t' := s.toks) ⟨fun b u q _ _ _=>q,fun b u q _ _ _=>⟨u.slots,q⟩,fun b u q n _=>?_,fun b u q _=>⟨u,q⟩,fun b xs q=>?_,fun b u xs q=>?_,fun b ps q=>⟨#[],?_⟩⟩ (fun b u q=>?_)
 ·rw[ag (fun z=>by rw[z,e]at n;cases n)];exact n
 ·exists 48
 ·exists 48
 ·rw[ag (nt b _ q #[2]),q];simp
 ·by_cases hb:b=a
  ·subst hb
   rw[ae]at q
   cases q
   exact⟨ho,(I.hok b _ e)⟩
  ·rw[ag hb]at q
   exact(I.hok b u q).BQ (fun c v _ z=>z) (fun c z=>by rw[ag #[99]];exact z) fun c xs z=>by rw[ag #[99]];exact z
end
def mW(o:Obj):Nat:=match o.data with
 | .dict _ ep=>ep
 | _=>0
def Itd(a:Qo)(o:Obj)(kvs:List #[303]):It:=
 ⟨fun i H=>i<kvs.length/\H a=some #[170],fun i H x H'=>H'=H/\∀ p,kvs[i]?=some p->x=kV p.1,fun i H=>kvs.length<=i/\H a=some #[170]⟩
def Iti(a:Qo)(o:Obj)(kvs:List #[303]):It:=
 ⟨fun i H=>i<kvs.length/\H a=some #[170],fun i H x H'=>∃ T p,x=.ref T/\H T=none/\H'=upd H T (.tup [kV p.1,p.2])/\kvs[i]?=some p,fun i H=>kvs.length<=i/\H a=some #[170]⟩
theorem rY(ok:lM P w H h)(e:H a=some #[170]):∃ vs,KV kvs vs/\h.DictAt (bA P w) a vs (mW o)/\(a==WK)=false/\h.get? a=some o:=by
 obtain⟨ho,z,lo,vs,rel,ob,es,ep,hg,hx,hd,rest⟩:=ok a _ e
 rw[ho]at hg
 cases hg
 have ee:mW o=ep:=by unfold mW;rw[hd]
 exact⟨vs,rel,⟨o,es,ho,hx,by rw[ee];exact hd,rest⟩,lo,ho⟩
theorem T4(a it:Qo)(o:Obj)(kvs:List #[303]):Turn P w K tg (Itd a o kvs) [it] it (fun i h=>h.IsKeyIter it a i kvs.length (mW o)) where
 mem:=by simp
 obj:=fun i h st b hb=>by
  exists 31
  subst e
  obtain⟨o,e,c,d⟩:=st
  exists 16
 keep:=fun i h h' st k=>by
  obtain⟨ob,e,r⟩:=st
  exact⟨ob,k it #[10] ob e,r⟩
 item:=by
  exists 1
  exists 92
  obtain⟨hi,Y5⟩:=hg
  exists 61
  exists 18
  have hv:i<vs.length:=by omega
  exists 2
  rw[hlen]at st
  refine wpAny_pyNext_dict_item (knd:=bA X.prog X.w) st dat (k:=(vs[i]).1) (v:=(vs[i]).2) (jC hv) fun key h' hk EL sb=>?_
  exists 4
  obtain⟨p,e1,e2⟩:=mB rel (jC hv)
  rw[<- hlen]at EL
  obtain⟨ob,e,c,d⟩:=id EL
  refine⟨key,rfl,FZ (s:={ s with heap:=h' }) e c d #[13] ⟨kV p.1,H,I1,?_,⟨rfl,fun p' BV=>by rw[e1]at BV;cases BV;rfl⟩,EL,fun b hb=>(hf b hb).1⟩⟩
  rw[e2.1]
  exact Rr hk
 done:=by
  exists 1
  exists 92
  obtain⟨hi,Y5⟩:=hg
  exists 61
  exists 18
  exists 2
  rw[hlen]at st
  exact wpAny_pyNext_dict_end #[120] st dat (Jj #[0]) fun h' eb=>⟨rfl,I.turned (t' := s.toks) #[97] f0 f1 f3 f4 f5⟩
 self:=fun A i s Q E st h=>by
  refine YN st.typeIs yB (Wb yB st.typeIs yd ?_ (yb _))
  show wpAny _ _ (ret #[194]) _ _ s
  exact YJ ⟨_,rfl,"dict_keyiterator",_,st.typeIs,PySem.F.slot_dict_keyiterator_next.lookup,h⟩
section
def aiN(tl:TE):TI:=fun σ H R=>tl σ H fun x H1=>∃ a kvs,x=.ref a/\((H1 a=some #[74]/\∀ o,R (Itd a o kvs) (upd H1 a #[170]))\/∃ o,H1 a=some #[170]/\R (Itd a o kvs) H1)
theorem adt(hl:PE X l tl):PI X tg l (aiN tl):=by
 exists 42
 exists 9
 obtain⟨a,kvs,e,q⟩:=q1
 subst e
 cases r1
 have main:∀ (o:Obj) (H2:Hp),Inv X pins σ H2 s1->H2 a=some #[170]->R (Itd a o kvs) H2->wpAny #[4] X.A (pyIter #[203]) (PIE X pins σ tg R) X.xe s1:=fun o H2 I2 e2 q2=>by
  obtain⟨vs,rel,dat,lo,ho⟩:=rY I2.hok e2
  exists 18
  refine wpAny_pyIter_dict lo dat ?_
  refine⟨s1.heap.objs.size,[s1.heap.objs.size],_,_,H2,rfl,I2.kept (t' := s1.toks) fun b o e=>jA _ e,T4 a _ o kvs,⟨_,jK _ rfl,rfl,by rw[hlen];rfl⟩,fun b hb=>?_,q2⟩
  exists 24
  subst e
  exact I2.AG (jF _) (I2.hok.fresh (jF _))
 rcases q with⟨hd,q⟩|⟨o,hd,q⟩
 ·obtain⟨z,lo,vs,rel,ob,es,ep,hg,rest⟩:=I1.hok a _ hd
  exact main ob _ (I1.freeze hd hg) ae (q ob)
 ·exact main o H1 I1 hd q
end
theorem C4:entryFor table "dict_itemiterator.__iter__" = some Builtin.«dict_keyiterator.__iter__» :=
 qp (id' := "dict_keyiterator.__iter__") #[214] (by first|rfl|decide +kernel|(unfold String.splitOn;simp +decide [String.splitOnAux])) #[3] #[214]
theorem PQ{x1:_}(a it:Qo)(o:Obj)(kvs:List #[303]):Turn P w K (.Tuple elts x1 pos) (Iti a o kvs) [it] it (fun i h=>∃ ok ov,IsItemIter h it a i kvs.length (mW o) ok ov) where
 mem:=by simp
 obj:=fun i h st b hb=>by
  exists 31
  subst e
  obtain⟨ok,ov,st⟩:=st
  exact⟨_,st,fun v z=>by
   exists 74
   cases z'⟩
 keep:=fun i h h' st k=>by
  obtain⟨ok,ov,st⟩:=st
  exact⟨ok,ov,k it #[10] _ st⟩
 item:=by
  exists 1
  exists 92
  obtain⟨hi,Y5⟩:=hg
  obtain⟨ok,ov,st⟩:=st
  exists 61
  exists 18
  have hv:i<vs.length:=by omega
  exists 2
  rw[hlen]at st
  have itl:it<s.heap.objs.size:=jL st
  refine wpAny_pyNext_items_item (knd:=bA X.prog X.w) st dat (k:=(vs[i]).1) (v:=(vs[i]).2) (jC hv) fun key h' hk EL ht hsz kp=>?_
  obtain⟨p,e1,e2⟩:=mB rel (jC hv)
  refine⟨.ref s.heap.objs.size,rfl,wpAny_letOwnedTupleGo_items (s:={ s with heap:=h' }) EL fun h2 PD sb2=>?_⟩
  have kp2:∀ b u,s.heap.get? b=some u->b≠it->h2.get? b=some u:=fun b u e hb=>(sb2.2 b hb).trans (kp b u hb e)
  have nT:s.heap.objs.size≠it:=Js itl
  have ht2:h2.get? s.heap.objs.size=some { cls:=.type "tuple",data:=.seq #[key,(vs[i]).2] }:=(sb2.2 _ nT).trans ht
  exists 63
  have fit:tI X pins #[172] it:=⟨by rw[ag (Ne.symm nT)];exact f0,f1,f2,f3,f4,f5⟩
  have I0:Inv X pins σ #[172] { s with heap:=s.heap.push { cls:=.type "tuple",data:=.seq #[key,(vs[i]).2] } }:=
   I.laid (t' := s.toks) (o:=.tup [kV p.1,p.2]) (fun b ob q=>jA _ q) (jF _) ⟨by show 2<=sizeLine;decide,[key,(vs[i]).2],.cons (by rw[e2.1];exact Rr hk) (.cons e2.2 .nil),⟨_,jK _ rfl,rfl,_,rfl⟩⟩
  have I2:Inv X pins σ #[172] { s with heap:=h2 }:=by
   refine I0.turned (t' := s.toks) (h' := h2) (fun b ob hb q=>?_) fit.1 fit.2.1 fit.2.2.2.1 fit.2.2.2.2.1 fit.2.2.2.2.2
   rcases ZF (show(s.heap.push { cls:=.type "tuple",data:=.seq #[key,(vs[i]).2] }).get? b=some ob from q)with⟨rfl,rfl⟩|z
   ·exact ht2
   ·exact kp2 b ob z hb
  refine⟨.ref s.heap.objs.size,_,I2,rfl,⟨s.heap.objs.size,p,rfl,fr,rfl,e1⟩,⟨_,_,by rw[hlen];exact PD⟩,fun b hb=>?_⟩
  exists 31
  subst e
  exact fit.1
 done:=by
  exists 1
  exists 92
  obtain⟨hi,Y5⟩:=hg
  obtain⟨ok,ov,st⟩:=st
  exists 61
  exists 18
  exists 2
  rw[hlen]at st
  exact wpAny_pyNext_items_end #[120] st dat (Jj #[0]) fun h' eb=>⟨rfl,I.turned (t' := s.toks) #[97] f0 f1 f3 f4 f5⟩
 self:=fun A i s Q E st h=>by
  obtain⟨ok,ov,st⟩:=st
  have hT:s.TypeIs #[194] "dict_itemiterator" := ⟨_,st,rfl⟩
  refine YN hT ye (Wb ye hT C4 ?_ (PySem.F.args_dict_itemiterator_iter_1 _))
  show wpAny _ _ (ret #[194]) _ _ s
  exact YJ ⟨_,rfl,"dict_itemiterator",_,hT,PySem.F.slot_dict_itemiterator_next.lookup,h⟩
section
def afP(tl:TE):TI:=fun σ H R=>tl σ H fun x H1=>∃ v d kvs,x=.ref v/\H1 v=some (Ba v d)/\H1 d=some #[74]/\∀ o,R (Iti d o kvs) (upd H1 d #[170])
theorem aa8{x1:_}(hl:PE X l tl):PI X (.Tuple elts x1 T3) l (afP tl):=by
 exists 42
 exists 9
 obtain⟨v,a,kvs,e,hv,hd,q⟩:=q1
 subst e
 cases r1
 obtain⟨aiL,_,_⟩:=(show bF X.prog X.w H1 s1.heap v (Ba v a)from I1.hok v _ hv)
 obtain⟨z,lo,vs0,asO,ob,es,ep,hg,rest⟩:=I1.hok a _ hd
 have I2:=I1.freeze hd hg
 obtain⟨vs,rel,dat,lo2,ho⟩:=rY I2.hok ae
 exists 18
 refine wpAny_pyIter_items aiL dat ?_
 refine⟨s1.heap.objs.size,[s1.heap.objs.size],_,_,_,rfl,I2.kept (t' := s1.toks) fun b o e=>jA _ e,PQ a _ ob kvs,⟨_,_,by rw[hlen];exact jK _ rfl⟩,fun b hb=>?_,q ob⟩
 exists 24
 subst e
 exact I2.AG (jF _) (I2.hok.fresh (jF _))
end
theorem SG{g:TG}(Pv:Nat->St->Hp->Prop)(h0:Pv 0 σ H)(hl:∀ i σ H,i<=kvs.length->Pv i σ H->H a=some #[170])(hs:∀ i p σ H T,kvs[i]?=some p->Pv i σ H->H T=none->g #[249] σ (upd H T (.tup [kV p.1,p.2])) fun σ2 H2=>tb { D with nx:=Pv (i+1),ct:=Pv (i+1),bk:=D.nx } σ2 H2)(hd:∀ σ H,Pv kvs.length σ H->D.nx σ H):
  ∃ W:Nat->Nat->St->Hp->Prop,#[181]/\∀ i m σ H,W i m σ H ->
   ((Iti a o kvs).stop i H/\D.nx σ H)\/((Iti a o kvs).go i H/\∃ N:St->Hp->Prop,#[17]/\∀ x H',(Iti a o kvs).yld i H x H'->g x σ H' fun σ2 H2=>tb { D with nx:=N,ct:=N,bk:=D.nx } σ2 H2):=by
 refine⟨fun i m σ H=>m=kvs.length-i/\i<=kvs.length/\Pv i σ H,⟨kvs.length,by simp,jd _,h0⟩,?_⟩
 exists 50
 exists 99
 by_cases dy:i<kvs.length
 ·refine .inr ⟨⟨dy,q⟩,Pv (i+1),fun σ' H' p'=>⟨kvs.length-(i+1),by omega,rfl,dy,p'⟩,fun x H' y=>?_⟩
  obtain⟨T,pr,rfl,hT,rfl,y⟩:=y
  exact hs i pr σ _ T y p hT
 ·have e:i=kvs.length:=by omega
  subst e
  exact .inl ⟨⟨jF _,q⟩,hd σ H p⟩
abbrev Bc(xs:Array Nat):Prop:=xs.toList.Pairwise (·<·)
theorem Bc.lt{xs:Array Nat}(r:Bc xs)(hi:i<j)(hj:j<xs.size):xs[i]<xs[j]:=by
 have:=zh.mp r i j (by simpa using Ju hi hj) (by simpa using hj) hi
 simpa using this
theorem DK{xs:Array Nat}(r:Bc xs):∀ (fuel lo hi:Nat),hi-lo<=fuel->lo<=hi->hi<=xs.size->(∀ i (h:i<xs.size),i<lo->xs[i]<j)->(∀ i (h:i<xs.size),hi<=i->j<=xs[i]) ->
  (SetTable.below.go xs j fuel lo hi<=xs.size/\(∀ i (h:i<xs.size),i<SetTable.below.go xs j fuel lo hi->xs[i]<j)/\∀ i (h:i<xs.size),SetTable.below.go xs j fuel lo hi<=i->j<=xs[i])
 | 0,lo,hi,hf,hl,hs,h1,h2=>by
  have e:lo=hi:=by omega
  subst e
  exact⟨hs,h1,h2⟩
 | fuel+1,lo,hi,hf,hl,hs,h1,h2=>by
  unfold SetTable.below.go
  by_cases c:lo<hi
  ·rw[if_pos c]
   dsimp only
   have hm:(lo+hi) / 2<xs.size:=by omega
   have eg:xs.getD ((lo+hi) / 2) j=xs[(lo+hi) / 2]:=by simp[QQ,hm]
   by_cases d:xs.getD ((lo+hi) / 2) j<j
   ·rw[if_pos d]
    refine DK r fuel _ _ #[0] #[0] hs (fun i h hi'=>?_) h2
    rcases JP i ((lo+hi) / 2)with z|z
    ·exact Ju (r.lt z hm) (by rw[eg]at d;exact d)
    ·have e:i=(lo+hi) / 2:=by omega
     subst e
     rw[eg]at d
     exact d
   ·rw[if_neg d]
    refine DK r fuel _ _ #[0] #[0] #[0] h1 (fun i h hi'=>?_)
    rw[eg]at d
    rcases JP ((lo+hi) / 2) i with z|z
    ·exact jk (ZY d) (Jl (r.lt z h))
    ·have e:i=(lo+hi) / 2:=by omega
     subst e
     exact ZY d
  ·rw[if_neg c]
   have e:lo=hi:=by omega
   subst e
   exact⟨hs,h1,h2⟩
theorem DL{xs:Array Nat}(r:Bc xs)(j:Nat):SetTable.below xs j<=xs.size/\(∀ i (h:i<xs.size),i<SetTable.below xs j->xs[i]<j)/\∀ i (h:i<xs.size),SetTable.below xs j<=i->j<=xs[i]:=
 DK r xs.size 0 xs.size #[0] (jd _) (jF _) (fun i h z=>by omega) (fun i h z=>by omega)
theorem Oo{xs:Array Nat}(r:Bc xs):SetTable.below xs 0=0:=by
 obtain⟨h0,h1,_⟩:=DL r 0
 rcases Jt (SetTable.below xs 0)with z|z
 ·exact z
 ·exact absurd (h1 0 (jh z h0) z) (zP _)
theorem Om{xs:Array Nat}(r:Bc xs)(hi:i<xs.size):SetTable.below xs (xs[i]+1)=i+1:=by
 obtain⟨h0,h1,h2⟩:=DL r (xs[i]+1)
 rcases Nat.lt_trichotomy (SetTable.below xs (xs[i]+1)) (i+1)with z|z|z
 ·have:=h2 i hi #[0]
  omega
 ·exact z
 ·have hi2:i+1<xs.size:=by omega
  have a1:=h1 (i+1) hi2 z
  have a2:xs[i]<xs[i+1]:=r.lt (JU i) hi2
  omega
theorem toList_insertAt(xs:Array α)(p:Nat)(x:α):(SetTable.insertAt xs p x).toList=xs.toList.take p++x :: xs.toList.drop p:=by
 unfold SetTable.insertAt
 simp
 rw[Jr #[10]]
theorem Bc.put{xs:Array Nat}(r:Bc xs)(hj:xs[SetTable.below xs j]?≠some j):Bc (SetTable.insertAt xs #[292] j):=by
 obtain⟨h0,h1,h2⟩:=DL r j
 unfold Bc
 rw[toList_insertAt,List.pairwise_append]
 have tk:∀ a∈xs.toList.take #[292],a<j:=fun a ha=>by
  obtain⟨i,hi,rfl⟩:=List.mem_take_iff_getElem.mp ha
  have:i<SetTable.below xs j/\i<xs.size:=by simp at hi;omega
  simpa using h1 i this.2 this.1
 have dr:∀ b∈xs.toList.drop #[292],j<b:=fun b hb=>by
  obtain⟨i,hi,rfl⟩:=List.mem_drop_iff_getElem.mp hb
  have hs:i+SetTable.below xs j<xs.size:=by simpa using hi
  have hle:=h2 (i+SetTable.below xs j) hs #[0]
  have hb0:SetTable.below xs j<xs.size:=by omega
  have hne:xs[SetTable.below xs j]≠j:=fun z=>hj (by rw[JH hb0,z])
  have h3:=h2 #[292] hb0 (jF _)
  have:j<xs[i+SetTable.below xs j]:=by
   rcases Jt i with z|z
   ·subst z
    simp only[Jd]
    omega
   ·have:=r.lt (i:=SetTable.below xs j) (j:=i+SetTable.below xs j) #[0] hs
    omega
  simpa[Zz]using this
 refine⟨List.Pairwise.sublist (ZV _ _) r,ZS.mpr ⟨dr,List.Pairwise.sublist (List.drop_sublist _ _) r⟩,fun a ha b hb=>?_⟩
 rcases jU.mp hb with e|hb
 ·rw[e];exact tk a ha
 ·exact Ju (tk a ha) (dr b hb)
theorem Pm(n:Nat):Bc (Array.range n):=by
 unfold Bc
 rw[Array.toList_range]
 exact zr
structure iC(t:qL)(led:Bool):Prop where
 rise:Bc t.place
 nod:t.dummies=#[]
 led:t.led=led
theorem iC.standIn{t:qL}{led:Bool}(k:iC t led)(n:Nat):iC (t.standIn n) led:=⟨Pm n,rfl,k.led⟩
theorem iC.orStandIn{t:qL}{led:Bool}(k:iC t led)(n:Nat):iC (t.orStandIn n) led:=by
 unfold SetTable.orStandIn
 split
 ·exact k
 ·exact k.standIn n
theorem Ri(j:Nat):SetTable.has #[] j=false:=by
 unfold SetTable.has
 simp
theorem Ew{t:qL}{led:Bool}(k:iC t led){h:Int}:∀ (fuel:Nat) (p:SetTable.Probe) (j:Nat) (dm:Option Nat),p.dummy=none->SetTable.probe.go t (fun _=>h+1) h fuel p=some (.empty j dm)->t.slot j=.empty/\dm=none
 | 0,p,j,dm,_,e=>by cases e
 | fuel+1,p,j,dm,hp,e=>by
  unfold SetTable.probe.go at e
  cases hs:t.slot p.j with
  | empty =>
   rw[hs]at e
   cases e
   exact⟨hs,hp⟩
  | dummy =>
   exfalso
   unfold SetTable.slot at hs
   dsimp only at hs
   split at hs
   ·cases hs
   ·rw[k.nod,Ri]at hs
    simp at hs
  | live i =>
   rw[hs]at e
   dsimp only at e
   rw[if_neg #[291]]at e
   refine Ew k fuel _ j dm ?_ e
   unfold SetTable.advance
   split
   ·exact hp
   ·exact hp
theorem SH{t:qL}{led:Bool}(k:iC t led){h:Int}(e:t.freeSlot h=some (j,b)):t.place[SetTable.below t.place j]?≠some j/\b=false:=by
 unfold SetTable.freeSlot SetTable.probe at e
 split at e
 ·rename_i j' dm e'
  obtain⟨h1,rfl⟩:=Ew k _ _ _ _ rfl e'
  simp at e
  obtain⟨rfl,rfl⟩:=e
  refine⟨fun z=>?_,rfl⟩
  unfold SetTable.slot at h1
  dsimp only at h1
  rw[if_pos (by rw[z];simp)]at h1
  cases h1
 ·cases e
theorem OU{t:qL}{led:Bool}(k:iC t led)(es:Array (Int×Value))(h:Int)(x:Value):iC (layNew t es h x).2.1 led:=by
 unfold layNew
 split
 ·rename_i slot wd e
  obtain⟨hj,rfl⟩:=SH k e
  have k1:iC (t.put slot).1 led:=by
   refine⟨k.rise.put hj,?_,k.led⟩
   show(if SetTable.has t.dummies slot=true then _ else t.dummies)=#[]
   rw[k.nod,Ri]
   rfl
  exact k1.orStandIn _
 ·exact k.standIn _
theorem Iy{t:qL}{led:Bool}(k:iC t led)(es:Array (Int×Value))(n:Nat):iC (relayAll t es n).2.1 led:=by
 unfold relayAll
 split
 ·rename_i t' order e
  dsimp only
  split
  ·unfold SetTable.relaid SetTable.laid at e
   simp only[Option.bind_eq_bind,zo]at e
   obtain⟨owner,_,e⟩:=e
   cases e
   refine⟨?_,rfl,k.led⟩
   unfold Bc
   dsimp only
   rw[List.map_filterMap]
   refine List.Pairwise.filterMap _ (fun a a' hr b hb b' hb'=>?_) zr
   simp only[Option.map_map,Option.mem_def,zQ,Function.comp]at hb hb'
   obtain⟨_,_,rfl⟩:=hb
   obtain⟨_,_,rfl⟩:=hb'
   exact hr
  ·exact k.standIn _
 ·exact k.standIn _
abbrev Lf(w:World):Bool:=w.params.followText "set-order"
def PU:Value->Int
 | .int n _=>n
 | _=>0
def rE(P:qJ)(w:World)(h:Heap)(a:Qo)(ns:List Int):Prop:=
 ∃ o es ep t,h.get? a=some o/\o.ExactSet/\o.data=.set es ep t/\Qw (qv P w) es.toList/\(∀ e∈es.toList,∃ n u,e.2=.int n u)/\(es.toList.map fun e=>PU e.2).Perm ns/\es.size<scanBound/\t.fits es.size=true/\iC t (!Lf w)
theorem rE.keep{h':Heap}(x:rE P w h a ns)(k:∀ o,h.get? a=some o->h'.get? a=some o):rE P w h' a ns:=by
 obtain⟨o,es,ep,t,ho,r1,r2,r3,r4,r5,r6,r7,r8⟩:=x
 exact⟨o,es,ep,t,k o ho,r1,r2,r3,r4,r5,r6,r7,r8⟩
section
theorem aaj{k n:Int}:(qv P w).is k (.int n u)=decide (k=n):=KeyKind.is_eq_decide (qw P w n u) k
theorem abw{es AE:Array (Int×Value)}{t t':qL}(ho:h.get? a=some o)(hex:o.ExactSet)(hd:o.data=.set es ep t)(hel:Qw (qv P w) AE.toList)(hi:∀ e∈AE.toList,∃ n u,e.2=.int n u)(hp:(AE.toList.map fun e=>PU e.2).Perm ns)(hb:AE.size<scanBound)(hf:t'.fits AE.size=true)(hk:iC t' (!Lf w)):
  (h.update a (Obj.putSet AE t')).get? a=some { o with data:=.set AE (ep+1) t' }/\rE P w (h.update a (Obj.putSet AE t')) a ns:=by
 have hg:(h.update a (Obj.putSet AE t')).get? a=some { o with data:=.set AE (ep+1) t' }:=by
  have q:=jr (Obj.putSet AE t') ho (by rw[putSet_of AE t' hd];rfl)
  rw[putSet_of AE t' hd]at q
  exact q
 exact⟨hg,_,AE,ep+1,t',hg,hex,rfl,hel,hi,hp,hb,hf,hk⟩
theorem P8{g:Bool->qK Unit}(hg:∀ (b:Bool) (s₁:qM) (Q':Unit->qM->Prop),Q' () s₁->wpAny #[42] A (g b) Q' E s₁){es Cb:Array (Int×Value)}{t t2:qL}{R:Option Bool->qM->Prop}(ho:s.heap.get? a=some o)(hex:o.ExactSet)(hd:o.data=.set es ep t)(hel:Qw (qv P w) Cb.toList)(hi:∀ e∈Cb.toList,∃ n u,e.2=.int n u)(hp:(Cb.toList.map fun e=>PU e.2).Perm ns)(hb:Cb.size<scanBound)(hf:t2.fits Cb.size=true)(hk:iC t2 (!Lf w))(h:∀ h',Yv a s.heap h'->rE P w h' a ns->R (some true) { s with heap:=h' }):
  wpAny #[42] A (do
    storeSet a Cb t2
    if (!wd&&t2.tooFull)=true then do
      g (relayAll t2 Cb #[119]).2.2
      storeSet a (relayAll t2 Cb #[119]).1 (relayAll t2 Cb #[119]).2.1
      pure (some true)
     else pure (some true)) R E s:=by
 refine WY (YZ ho hd ?_ (qu hb))
 obtain⟨LS,hS1⟩:=abw (P:=P) (w:=w) ho hex hd hel hi hp hb hf hk
 have sb1:=Yo s.heap a (Obj.putSet Cb t2)
 split
 ·have rp:=relayAll_perm t2 Cb #[119]
  have rf:=relayAll_fits t2 Cb #[119]
  have rt:=Iy hk Cb #[119]
  generalize relayAll t2 Cb #[119]=Rl at rp rf rt ⊢
  obtain⟨es2,t3,alH⟩:=Rl
  dsimp only at rp rf rt ⊢
  have sz:es2.size=Cb.size:=by rw[<- jt,rp.length_eq,jt]
  have hb2:es2.size<scanBound:=by rw[sz];exact hb
  refine WY (hg _ _ _ ?_)
  refine WY (YZ LS rfl ?_ (qu hb2))
  obtain⟨_,hS2⟩:=abw (P:=P) (w:=w) (ns:=ns) LS hex rfl (hel.perm rp) (fun e he=>hi e (rp.mem_iff.mp he)) ((rp.map _).trans hp) hb2 rf rt
  exact YJ (h _ (sb1.trans (Yo _ a _)) hS2)
 ·exact YJ (h _ sb1 hS1)
theorem Pr{k:Int}{Q:Bool->qM->Prop}(hS:rE P w s.heap a ns)(aiF:ns.length+1<scanBound)(h:∀ h' b,Yv a s.heap h'->rE P w h' a (step_dedup ns k)->Q b { s with heap:=h' }):wpAny #[42] A (setAddHashed a (.int k u) #[304]) Q E s:=by
 obtain⟨o,es,ep,t,ho,hex,hd,hel,hi,hp,hb,hf,hk⟩:=hS
 have hsz:es.size=ns.length:=by rw[<- hp.length_eq,jW,jt]
 have mem:∀ z:Int,z∈ns↔∃ e∈es.toList,(qv P w).is z e.2=true:=fun z=>by
  rw[<- hp.mem_iff,jN]
  constructor
  ·rintro⟨e,he,rfl⟩
   obtain⟨n,v,e2⟩:=hi e he
   exact⟨e,he,by rw[e2,aaj];simp[PU]⟩
  ·rintro⟨e,he,q⟩
   obtain⟨n,v,e2⟩:=hi e he
   rw[e2,aaj]at q
   exact⟨e,he,by rw[e2];exact(of_decide_eq_true q).symm⟩
 unfold setAddHashed setAddHashedIn
 refine Wq (WY (YW ho hd hf ?_))
 dsimp only
 rw[byScan_of (x:=.int k u) rfl hb hel]
 simp only[↓reduceIte]
 unfold setAddByScan
 refine WY (WY (YS ?_))
 refine WY (wpAny_setScan_of (qw P w k u) ho hd hf hel ?_)
 cases hr:List.findIdx? (fun e=>(qv P w).is k e.2) es.toList with
 | some j =>
  dsimp only
  obtain⟨hj,pj,_⟩:=List.findIdx?_eq_some_iff_getElem.mp hr
  have kin:k∈ns:=(mem k).mpr ⟨es.toList[j],jM hj,pj⟩
  refine YJ (YJ ?_)
  have q:=h s.heap false (Gi a s.heap) ⟨o,es,ep,t,ho,hex,hd,hel,hi,by
   unfold step_dedup
   rw[if_pos (by simpa using kin)]
   exact hp,hb,hf,hk⟩
  cases s
  exact q
 | none =>
  dsimp only
  have nin:k∉ns:=fun z=>by
   obtain⟨e,he,q⟩:=(mem k).mp z
   have:=List.findIdx?_eq_none_iff.mp hr e he
   rw[q]at this
   cases this
  have gw:∀ (b:Bool) (s₁:qM) (Q':Unit->qM->Prop),Q' () s₁->wpAny #[42] A (match b with|true=>rule "set.scan.the-table-gave-way"|false=>pure ()) Q' E s₁:=fun b s₁ Q' q=>by
   cases b
   ·exact YJ q
   ·exact YS q
  have lp:=layNew_perm t es #[304] (.int k u)
  have lf:=layNew_fits t es #[304] (.int k u)
  have lt:=OU hk es #[304] (.int k u)
  generalize layNew t es #[304] (.int k u)=L at lp lf lt ⊢
  obtain⟨Cb,t1,wd,alH⟩:=L
  dsimp only at lp lf lt ⊢
  rw[QF]at lp
  have ail:Qw (qv P w) Cb.toList:=(hel.push (qw P w k u) rfl).perm lp
  have hi1:∀ e∈Cb.toList,∃ n v,e.2=.int n v:=fun e he=>by
   rcases Jm.mp (lp.mem_iff.mp he)with z|z
   ·exact hi e z
   ·rw[jG.mp z];exact⟨k,u,rfl⟩
  have hp1:(Cb.toList.map fun e=>PU e.2).Perm (step_dedup ns k):=by
   unfold step_dedup
   rw[if_neg (by simpa using nin)]
   refine(lp.map _).trans ?_
   rw[jD]
   exact hp.append (List.Perm.refl _)
  have hb1:Cb.size<scanBound:=by rw[<- jt,lp.length_eq,jH,jt,hsz];exact aiF
  refine WY (gw _ _ _ ?_)
  split
  ·refine WY ?_
   rw[hashByValue_scannable 8 (x:=.int k u) rfl]
   refine YJ ?_
   exact P8 (fun b s₁ Q' q=>gw b s₁ Q' q) ho hex hd ail hi1 hp1 hb1 lf lt fun h' sb S=>YJ (h h' true sb S)
  ·refine WY (YJ ?_)
   simp only[↓reduceIte]
   exact P8 (fun b s₁ Q' q=>gw b s₁ Q' q) ho hex hd ail hi1 hp1 hb1 lf lt fun h' sb S=>YJ (h h' true sb S)
end
section
variable{fp wr:List Qo}{G:Array qA->Array qA->Prop}{Pz:Nat->Value->Prop}{St:Nat->qM->Prop}
theorem IL(W:WalksS P w A.in1 I fp wr G n Pz St)(S:Qo)(Y1:S∉fp)(val:Nat->Int)(acK:∀ i v,Pz i v->∃ t,v=.int (val i) t)(hb:n+1<scanBound):
  ∀ (k i:Nat) (s:qM),n-i=k->i<=n->St i s->rE P w s.heap S (firstMet val i)->(∀ s',Moved (S :: wr) G s s'->rE P w s'.heap S (firstMet val n)->R (.ok (.ret .none)) s') ->
   codeAny #[42] A (.builtin "set.update.loop" ⟨[.ref S,.ref I],[]⟩) R s:=by
 have nw:S∉wr:=fun z=>Y1 (W.sub _ z)
 have up:∀ b∈wr,b∈S :: wr:=fun b z=>jJ _ z
 intro k
 induction k with
 | zero =>
  intro i s hk hi tL hS hR
  obtain rfl:i=n:=by omega
  refine qY XX ?_
  rw[Around.under_plainId yf _]
  refine WY (m:=pyNext (.ref I)) (W.done s _ _ tL fun s' hm=>?_)
  exact YJ (hR s' (hm.mono up) (hS.keep fun o q=>hm.heap S o nw q))
 | succ k ih =>
  intro i s hk hi tL hS hR
  have dy:i<n:=by omega
  refine qY XX ?_
  rw[Around.under_plainId yf _]
  refine WY (m:=pyNext (.ref I)) (W.item i s _ _ dy tL fun v s' hP C7 hm=>?_)
  obtain⟨t,rfl⟩:=acK i v hP
  have F6:rE P w s'.heap S (firstMet val i):=hS.keep fun o q=>hm.heap S o nw q
  refine WY (m:=holding [Yt (val i) t] (setAdd S (.int (val i) t))) (Wq ?_)
  unfold setAdd
  refine Wq (WY ((qv P w).pyHash (k:=val i) (qw _ _ _ _) ?_))
  have room:(firstMet val i).length+1<scanBound:=by
   have:=firstMet_length_le val i
   omega
  refine Pr (s:={ s' with toks:=s'.toks+1 }) F6 room fun h' b sb S2=>?_
  rw[<- firstMet_succ]at S2
  refine YJ ⟨WC yf _,ih (i+1) _ #[0] dy (W.frame _ s' _ _ C7 (JS _) fun b hb o e=>?_) S2 fun s2 m2 S3=>?_⟩
  ·rw[sb.2 b (fun z:b=S=>Y1 (z ▸ hb))];exact e
  ·refine hR s2 (Moved.trans W.gtrans ((hm.mono up).then_heap (JS _) fun b o hb e=>?_) m2) S3
   rw[sb.2 b (fun z:b=S=>hb (by rw[z];exact jE))];exact e
end
section
def eX(w:World):Obj:={ cls:=.type "set",dict:=none,data:=.set #[] 0 (.fresh 0 0 (!Lf w)) }
theorem anp(h:Heap)(hg:h.get? a=some (eX w)):rE P w h a []:=
 ⟨_,#[],0,_,hg,⟨rfl,rfl,rfl⟩,rfl,(fun e he=>by cases he),(fun e he=>by cases he),List.Perm.refl _,by decide,rfl,⟨List.Pairwise.nil,rfl,rfl⟩⟩
theorem Sq(a:Value)(h:Q₁ #[15] { s with heap:=s.heap.push (eX w) }):
  codeAny #[42] A (.call (.builtin "set.__new__") ⟨[.type "set",a],[]⟩) (wants Q₁ E) s:=by
 refine qh ?_
 show wpAny _ A.in1 (do checkBuiltinCall "set.__new__" ⟨[.type "set",a],[]⟩;again (.builtin "set.__new__" ⟨[.type "set",a],[]⟩)) _ _ s
 refine WY (YH (F.newCall_set_1 a) (YJ ⟨WC xR _,qY F.entry_set_new ?_⟩))
 rw[Around.under_plainId xR _]
 unfold Builtin.«set.__new__» xh
 have aiH:=sub_set_self
 obtain⟨hp,g,d,tk,os⟩:=s
 dsimp only
 wp_walk
 refine WV (YJ ?_)
 dsimp only
 simp only[newObj]
 exact WY (wpAny_alloc (YJ (YJ h)))
set_option maxHeartbeats 3200000 in
theorem Sn{l:Qo}(hh:A.handled=none)(hl:s.heap.IsList l items)(hi:qB items.toList ns)(hb:items.size+1<scanBound)(h:∀ (h':Heap) (tk:Nat),rE P w h' s.heap.objs.size (firstMet #[190] items.size)->(∀ b o,b<s.heap.objs.size->s.heap.get? b=some o->h'.get? b=some o)->Q #[15] { s with heap:=h',toks:=tk }):
  wpAny #[42] A (call (.type "set") [.ref l]) Q E s:=by
 obtain⟨c,tl,arn⟩:=F.called_set.mro
 have ao2:=F.called_set.made
 have aiH:=F.called_set.sub
 refine WZ (qh ?_)
 show wpAny _ _ (callAny (.type "set") _) _ _ _
 refine YJ ⟨Code.quiet_builtin _ #[3],qY F.entry_type_call ?_⟩
 rw[Around.under_plain (weight_type_call_type "set" [.ref l] []) rfl]
 have h1:=F.called_set.notType
 have h2:=F.called_set.canCreate
 have hct:=F.typeCall_set_1 #[202]
 exists 36
 refine qg (Sq #[202] (E:=E) (Q₁:=fun obj s₁=>obj=.ref s.heap.objs.size/\s₁={ s with heap:=s.heap.push (eX w) }) ⟨rfl,rfl⟩) fun r s₁ hr=>?_
 cases r with
 | error e=>exact hr
 | ok fl =>
  cases fl with
  | ret obj =>
   obtain⟨rfl,rfl⟩:=hr
   have hS:#[189].get? s.heap.objs.size=some (eX w):=jK _ rfl
   have hT:Shared.TypeIs { s with heap:=s.heap.push (eX w) } #[15] "set" := ⟨_,hS,rfl⟩
   have hli:=F.called_set.init.lookup
   have hbi:=F.called_set.init.bind #[15]
   exists 36
   refine qg (qZ (R:=wants (fun r s₂=>r=.none/\∃ h' tk,s₂={ s with heap:=h',toks:=tk }/\rE P w h' s.heap.objs.size (firstMet #[190] items.size) /\
     (∀ b o,b<s.heap.objs.size->s.heap.get? b=some o->h'.get? b=some o)) E) F.called_set.init.plain F.entry_set_init (check_set_init_1 hT ?_)) fun r₂ s₂ LU=>?_
   ·obtain⟨ol,hol,SU,nl,hdl⟩:=hl
    obtain⟨asH,ajj,apG,agd⟩:=ol
    simp only at SU hdl
    subst SU;subst hdl
    have amB:#[189].get? l=some { cls:=.type "list",dict:=ajj,data:=.seq items nl,slots:=agd }:=jA _ hol
    have arD:=F.sub_list_set
    have arC:=F.sub_list_frozenset
    have hl1:#[189].IsList l items:=⟨_,amB,rfl,nl,rfl⟩
    have hne:(yA "list" == yA "dict")=false:=by decide
    have hS0:#[189].get? s.heap.objs.size=some { cls:=.type "set",dict:=none,data:=.set #[] 0 (.fresh 0 0 (!Lf w)) }:=hS
    unfold Builtin.«set.__init__» noKeywords xX
    generalize hPI:pyIter=PI
    wp_walk
    subst hPI
    refine YL hl1 (WY (wpAny_runValue ?_))
    have hlS:l<s.heap.objs.size:=jL hol
    have hh3:A.in1.in1.in1.handled=none:=by simp[hh]
    have neI:l≠#[189].objs.size:=by rw[JA];exact jQ (Jz hlS)
    have nS:s.heap.objs.size∉[#[189].objs.size,l]:=by
     rw[JA]
     simp only[jU,jG,Jp,or_false,not_or]
     exact⟨jQ (JU _),Js hlS⟩
    refine IL ((Walks.list hh3 _ l neI items).toS) s.heap.objs.size nS #[190] (fun i v hv=>IntsAre.int_at hi i v (by rw[Jb];exact hv)) hb (items.size-0) 0 _ #[0] (jd _)
     ⟨⟨_,jK _ rfl,rfl,rfl⟩,(hl1.push _)⟩ ?_ ?_
    ·exact anp (w:=w) _ (jA _ hS)
    ·rintro⟨h',g',d',tk',os'⟩ hm F6
     have eg:g'=s.gens:=hm.gens
     have ed:d'=s.drawn:=hm.drawn
     have eo:os'=s.os:=hm.os
     subst eg ed eo
     refine YJ ?_
     show wpAny _ _ (ret Yn) _ _ _
     refine YJ ⟨rfl,h',tk',rfl,F6,fun b o hb e=>?_⟩
     refine hm.heap b o ?_ (jA _ (jA _ e))
     rw[JA]
     simp only[jU,jG,Jp,or_false,not_or]
     exact⟨jQ hb,jQ (Jz hb)⟩
   ·cases r₂ with
    | error e=>exact LU
    | ok ahV =>
     cases ahV with
     | ret r =>
      obtain⟨rfl,h',tk,rfl,F6,Dm⟩:=LU
      exists 36
      exact h _ _ F6 Dm
     | next=>exact LU
     | brk=>exact LU
     | cont=>exact LU
  | next=>exact hr
  | brk=>exact hr
  | cont=>exact hr
end
namespace SF
theorem OG:entryFor table "set.__iter__" = some Builtin.«frozenset.__iter__» := qp (id' := "frozenset.__iter__") #[214] rfl #[3] #[214]
theorem slot_next:Slot "set_iterator" "__next__" "set_iterator.__next__" :=
 .of (owner := "set_iterator") (n := "__next__") (by rw[WN,qV];kernel_rfl) #[3] #[3] #[3] (by first|exact .inl #[3]|exact .inr #[3])
  (by rw[isSubtype_type];kernel_rfl)
theorem entry_next:entryFor table "set_iterator.__next__" = some Builtin.«set_iterator.__next__» := qq #[214]
theorem args_next(a:Value):argsOk "set_iterator.__next__" ⟨[a],[]⟩:=by unfold argsOk;kernel_rfl
theorem wG:Slot "set_iterator" "__iter__" "set_iterator.__iter__" :=
 .of (owner := "set_iterator") (n := "__iter__") (by rw[WN,qV];kernel_rfl) #[3] #[3] #[3] (by first|exact .inl #[3]|exact .inr #[3])
  (by rw[isSubtype_type];kernel_rfl)
end SF
theorem AD{α:Type}:∀ (l:List α) (i:Nat) (h:i<l.length),(l[i] :: l.eraseIdx i).Perm l
 | x :: r,0,_=>List.Perm.refl _
 | x :: r,i+1,h=>(List.Perm.swap _ _ _).trans (List.Perm.cons _ (AD r i (Nat.lt_of_succ_lt_succ h)))
theorem RC{α:Type}(next:Nat->Nat):∀ (fuel k:Nat) (left:List α) (out:Array α),left.length=fuel->(pickOrder.go next fuel k left out).toList.Perm (out.toList++left)
 | 0,k,left,out,h=>by
  rw[zL.mp h,jx]
  exact List.Perm.refl _
 | fuel+1,k,left,out,h=>by
  unfold pickOrder.go
  have dy:next k%left.length<left.length:=QR _ #[0]
  rw[jC dy]
  dsimp only
  refine(RC next fuel (k+1) _ _ (by rw[zX dy];omega)).trans ?_
  rw[QF,JC]
  refine List.Perm.append_left _ ?_
  exact AD _ _ dy
theorem Cn{α:Type}(next:Nat->Nat)(xs:Array α):(pickOrder next xs).toList.Perm xs.toList:=by
 have q:=RC next xs.size 0 xs.toList #[] #[10]
 unfold pickOrder
 simpa using q
theorem FC{M:Model}{A:Around}{E:Value->qM->Prop}{s:qM}{src:Source}{n:Nat}{Q:Nat->qM->Prop}(hn:n≠0)(h:∀ i d',i<n->Q i { s with drawn:=d' }):wpAny M A (choose src n) Q E s:=
 fun _ _ _=>⟨hn,h _ _ (QR _ (Nat.pos_of_ne_zero hn))⟩
theorem FU{M:Model}{A:Around}{E:Value->qM->Prop}{α:Type}:∀ (n:Nat) (xs:List α) (s:qM) (Q:List α->qM->Prop),xs.length=n->(∀ ys d',ys.Perm xs->Q ys { s with drawn:=d' })->wpAny M A (drawOrder n xs) Q E s
 | 0,xs,s,Q,hl,h=>by
  have e:xs=[]:=zL.mp hl
  subst e
  unfold drawOrder
  exact YJ (h [] s.drawn (List.Perm.refl _))
 | n+1,[],s,Q,hl,h=>by cases hl
 | n+1,x :: r,s,Q,hl,h=>by
  unfold drawOrder
  refine WY (FC #[10] fun i d' hi=>?_)
  rw[jC hi]
  dsimp only
  refine WY (FU n _ _ _ (by rw[zX hi];omega) fun ys d2 p=>YJ ?_)
  exact h _ _ ((List.Perm.cons _ p).trans (AD _ _ hi))
def lN(h:Heap)(I S:Qo)(first:Value)(i n ep:Nat):Prop := ∃ o,h.get? I=some o/\o.cls=.type "set_iterator" /\ o.data=.fields #[first,.int i 0,.ref S,.int n 0,.int ep 0]
theorem lN.typeIs{s:qM}{I S:Qo}{first:Value}{i n ep:Nat}(x:lN s.heap I S first i n ep):s.TypeIs (.ref I) "set_iterator" := let ⟨o,ho,hc,_⟩:=x;⟨o,ho,hc⟩
def ae0(w:World)(es:Array (Int×Value))(ep:Nat)(t:qL)(S T:Qo)(L:List Value)(h:Heap)(i:Nat)(first:Value):Prop:=
 (Lf w=true/\(∃ z:Nat,first=.int z 0)/\L=#[65].toList.map (·.2)) \/
 (Lf w=false/\(t.plain=true\/es.size<=1)/\(∃ z:Nat,first=.int z 0/\SetTable.below t.place z=i)/\L=es.toList.map (·.2)) \/
 (Lf w=false/\first=.ref T/\∃ pl:List Nat,pl.Perm (jZ es.size)/\(∃ o e,h.get? T=some o/\o.data=.seq (pl.map fun p:Nat=>Yt (p:Int) 0).toArray e)/\L=pl.map fun p=>(es.getD p (0,.none)).2)
structure FH(w:World)(es:Array (Int×Value))(ep:Nat)(t:qL)(S T I:Qo)(L:List Value)(i:Nat)(h:Heap):Prop where
 set:∃ o,h.get? S=some o/\o.data=.set es ep t
 it:∃ first,lN h I S first i es.size ep/\ae0 w es ep t S T L h i first
section
variable{P:qJ}{w:World}{A:Around}{E:Value->qM->Prop}{s:qM}{es:Array (Int×Value)}{ep:Nat}{t:qL}{S T I:Qo}{L:List Value}{i:Nat}
theorem next_item(hf:t.fits es.size=true)(hk:iC t (!Lf w))(hL:L.length=es.size)(hTI:T≠I)(hSI:S≠I)(st:FH w es ep t S T I L i s.heap)(hi:i<es.size){Q:Option Value->qM->Prop}(h:∀ h',Yv I s.heap h'->FH w es ep t S T I L (i+1) h'->Q (some (L.getD i .none)) { s with heap:=h' }):wpAny #[42] A #[244] Q E s:=by
 obtain⟨⟨oS,hS,SQ⟩,first,hit,by_⟩:=st
 exists 95
 have hLi:L.getD i .none=L[i]'#[0]:=by simp[Qm,hL,hi]
 unfold pyNext
 refine WY (WX (Wa (name:=Str.ofString "__next__") hit.typeIs SF.slot_next (Wb SF.slot_next hit.typeIs SF.entry_next ?_ (SF.args_next _))))
 unfold Builtin.«set_iterator.__next__»
 refine WY (m:=slotArgs "__next__" 0 _) (YJ ?_)
 refine WY (Wk ho hd ?_)
 dsimp only
 unfold setEntries
 refine WY (WY (YW hS SQ hf (YJ ?_)))
 rw[if_neg #[10]]
 have upI:∀ (f:Array Value->Array Value),(s.heap.update I (Obj.mapFields f)).get? I=some (Obj.mapFields f o):=fun f=>jr _ ho (Obj.isFreed_of_fields (Obj.data_mapFields hd _))
 have other:∀ (f:Array Value->Array Value) b,b≠I->(s.heap.update I (Obj.mapFields f)).get? b=s.heap.get? b:=fun f b hb=>jg _ _ (Ne.symm hb)
 have agl:∀ (h1:Heap) (fi:Value),lN h1 I S fi i es.size ep->lN (h1.update I #[34]) I S fi (i+1) es.size ep:=by
  rintro h1 fi ⟨o1,LS,hc1,HZ⟩
  exact⟨_,jr _ LS (Obj.isFreed_of_fields (Obj.data_mapFields HZ _)),#[280].trans hc1,by rw[Obj.data_mapFields HZ];simp[rawInt]⟩
 have adw:∀ (h1:Heap) (fi:Value) (nx:Nat),lN h1 I S fi i es.size ep->lN (h1.update I (Obj.mapFields (·.setIfInBounds 0 (rawInt nx)))) I S (.int nx 0) i es.size ep:=by
  rintro h1 fi nx ⟨o1,LS,hc1,HZ⟩
  exact⟨_,jr _ LS (Obj.isFreed_of_fields (Obj.data_mapFields HZ _)),#[280].trans hc1,by rw[Obj.data_mapFields HZ];simp[rawInt]⟩
 have aal:∀ h1,Yv I s.heap h1->∃ o,h1.get? S=some o/\o.data=.set es ep t:=fun h1 sb=>⟨oS,(sb.2 S hSI).trans hS,SQ⟩
 rcases by_ with⟨bt,⟨z,rfl⟩,eL⟩|⟨bt,pl,⟨z,rfl,hz⟩,eL⟩|⟨bt,rfl,pl,pp,⟨oT,eT,hT,hTd⟩,eL⟩
 ·have px:=Cn (w.params.setOrder S ep) es
  have hx:i<#[65].size:=by rw[<- jt,px.length_eq,jt];exact hi
  refine WY ?_
  unfold setNext
  refine WY #[225]
  unfold setsByText
  exists 78
  rw[if_pos (show#[42].w.params.followText "set-order" = true from bt),if_neg #[10]]
  unfold setWalk setsByText
  refine WY (WY #[225])
  exists 78
  rw[if_pos (show#[42].w.params.followText "set-order" = true from bt)]
  refine WY (WV #[306])
  have ex:(pickOrder (#[42].w.params.setOrder S ep) es)[((i:Nat):Int).toNat]?=some #[65][i]:=by
   rw[jB]
   exact JH hx
  rw[ex]
  dsimp only[Ql]
  exists 68
  obtain⟨o1,LS,hc1,HZ⟩:=adw _ _ z hit
  rw[show((z:Nat):Int).toNat=z from jB z]
  refine WY (YU LS HZ #[10] (YJ ⟨_,rfl,YJ ?_⟩))
  have sb:Yv I s.heap ((s.heap.update I (Obj.mapFields (·.setIfInBounds 0 (rawInt z)))).update I #[34]):=(Yo ..).trans (Yo ..)
  have q:=h _ sb ⟨aal _ sb,_,agl _ _ (adw _ _ z hit),.inl ⟨bt,⟨z,rfl⟩,eL⟩⟩
  rw[hLi]at q
  have eLi:L[i]'#[0]=#[65][i].2:=by simp[eL]
  rw[eLi]at q
  exact q
 ·have hpz:t.place.size=es.size:=by
   simp only[SetTable.fits,zv,beq_iff_eq,decide_eq_true_eq]at hf
   exact hf.1
  have hip:i<t.place.size:=by omega
  refine WY ?_
  unfold setNext
  refine WY #[225]
  unfold setsByText
  exists 78
  rw[if_neg (show ¬ (#[42].w.params.followText "set-order" = true)from by rw[show#[42].w.params.followText "set-order" = false from bt];exact jo)]
  show wpAny _ _ (if #[168]=true then _ else _) _ _ _
  rw[if_neg (by
   rcases pl with q|q
   ·rw[q];simp
   ·simp;omega)]
  show wpAny _ _ ((if (!t.led&&!es.isEmpty)=true then _ else pure ())>>=_) _ _ _
  rw[if_neg (by rw[hk.led,bt];simp)]
  refine WY #[306]
  rw[jB,hz,JH hi,JH hip]
  dsimp only
  exists 68
  obtain⟨o1,LS,hc1,HZ⟩:=adw _ _ (t.place[i]+1) hit
  refine WY (YU LS HZ #[10] (YJ ⟨_,rfl,YJ ?_⟩))
  have sb:Yv I s.heap ((s.heap.update I (Obj.mapFields (·.setIfInBounds 0 (rawInt (t.place[i]+1:Nat))))).update I #[34]):=(Yo ..).trans (Yo ..)
  have q:=h _ sb ⟨aal _ sb,_,agl _ _ (adw _ _ (t.place[i]+1) hit),.inr (.inl ⟨bt,pl,⟨_,rfl,Om hk.rise hip⟩,eL⟩)⟩
  rw[hLi]at q
  have eLi:L[i]'#[0]=es[i].2:=by simp[eL]
  rw[eLi]at q
  exact q
 ·have lpl:pl.length=es.size:=by rw[pp.length_eq,jq]
  have Al:pl[i]'#[0]<es.size:=je.mp (pp.mem_iff.mp (jM _))
  show wpAny _ _ (seqItems? #[249]>>=_) _ _ _
  unfold seqItems?
  refine WY (WY (Wx hT ?_))
  rw[hTd]
  refine YJ ?_
  dsimp only
  have ep1:(pl.map fun p:Nat=>Yt (p:Int) 0).toArray[((i:Nat):Int).toNat]?=some (Yt ((pl[i]'#[0]:Nat):Int) 0):=by
   rw[jB]
   simp[lpl,hi]
  rw[ep1]
  dsimp only
  unfold setNextDrawn
  refine WY (WY #[225])
  dsimp only
  rw[if_neg #[10],jB,JH Al]
  dsimp only
  refine YJ (WY (YU ho hd #[10] (YJ ⟨_,rfl,YJ ?_⟩)))
  have sb:Yv I s.heap (s.heap.update I #[34]):=Yo ..
  have q:=h _ sb ⟨aal _ sb,_,agl _ _ hit,.inr (.inr ⟨bt,rfl,pl,pp,⟨oT,eT,(sb.2 T hTI).trans hT,hTd⟩,eL⟩)⟩
  rw[hLi]at q
  have eLi:L[i]'#[0]=es[pl[i]'#[0]].2:=by simp[eL,QQ,Al]
  rw[eLi]at q
  exact q
theorem next_end(hh:A.handled=none)(hf:t.fits es.size=true)(hk:iC t (!Lf w))(hSI:S≠I)(st:FH w es ep t S T I L es.size s.heap){Q:Option Value->qM->Prop}(h:∀ h',Xc I s.heap h'->Q none { s with heap:=h' }):wpAny #[42] A #[244] Q E s:=by
 obtain⟨⟨oS,hS,SQ⟩,first,hit,by_⟩:=st
 exists 95
 unfold pyNext
 refine WY (WX (Wa (name:=Str.ofString "__next__") hit.typeIs SF.slot_next (Wb SF.slot_next hit.typeIs SF.entry_next ?_ (SF.args_next _))))
 unfold Builtin.«set_iterator.__next__»
 refine WY (m:=slotArgs "__next__" 0 _) (YJ ?_)
 refine WY (Wk ho hd ?_)
 dsimp only
 unfold setEntries
 refine WY (WY (YW hS SQ hf (YJ ?_)))
 rw[if_neg #[10]]
 have stop:∀ h1,Xc I s.heap h1->wpAny #[42] A.in1 (do let e <- newExc #[260] [];raiseNew e:qK Fin) (fun fin s'=>∃ v,fin=Fin.done (Flow.ret v)/\wpAny #[42] A (pure (some v)) Q E s')
   (fun e s'=>wpAny #[42] A (do if <- isInstance e #[260]then pure none else throw e) Q E s') { s with heap:=h1 }:=by
  intro h1 e1
  refine WY ?_
  simp only[newExc,newTuple]
  refine WY (YE ?_ #[239])
  refine WY (m:=firstArgMember _ _) (YH (a:=Yn) #[162] ?_)
  refine YE ?_ #[239]
  simp only[raiseNew]
  refine WY (Wo ?_)
  rw[show A.in1.handled=none from hh]
  refine WY (YJ (Ya ?_))
  refine WY (Wr (T := "StopIteration") (b:=true) ⟨_,jK _ rfl,rfl⟩ qx ?_)
  exact YJ (h _ ((e1.push _).push _))
 rcases by_ with⟨bt,⟨z,rfl⟩,eL⟩|⟨bt,pl,⟨z,rfl,hz⟩,eL⟩|⟨bt,rfl,pl,pp,⟨oT,eT,hT,hTd⟩,eL⟩
 ·have px:=Cn (w.params.setOrder S ep) es
  have hx:#[65].size=es.size:=by rw[<- jt,px.length_eq,jt]
  refine WY ?_
  unfold setNext
  refine WY #[225]
  unfold setsByText
  exists 78
  rw[if_pos (show#[42].w.params.followText "set-order" = true from bt),if_neg #[10]]
  unfold setWalk setsByText
  refine WY (WY #[225])
  exists 78
  rw[if_pos (show#[42].w.params.followText "set-order" = true from bt)]
  refine WY (WV #[306])
  have ex:(pickOrder (#[42].w.params.setOrder S ep) es)[((es.size:Nat):Int).toNat]?=none:=by
   rw[jB]
   exact zt (Zx hx)
  rw[ex]
  dsimp only[Ql]
  exists 68
  exact stop _ (Yo ..).extBut
 ·have hpz:t.place.size=es.size:=by
   simp only[SetTable.fits,zv,beq_iff_eq,decide_eq_true_eq]at hf
   exact hf.1
  refine WY ?_
  unfold setNext
  refine WY #[225]
  unfold setsByText
  exists 78
  rw[if_neg (show ¬ (#[42].w.params.followText "set-order" = true)from by rw[show#[42].w.params.followText "set-order" = false from bt];exact jo)]
  show wpAny _ _ (if #[168]=true then _ else _) _ _ _
  rw[if_neg (by
   rcases pl with q|q
   ·rw[q];simp
   ·simp;omega)]
  show wpAny _ _ ((if (!t.led&&!es.isEmpty)=true then _ else pure ())>>=_) _ _ _
  rw[if_neg (by rw[hk.led,bt];simp)]
  refine WY #[306]
  rw[jB,hz,zt (jF _)]
  dsimp only
  exists 68
  exact stop _ (Yo ..).extBut
 ·have lpl:pl.length=es.size:=by rw[pp.length_eq,jq]
  show wpAny _ _ (seqItems? #[249]>>=_) _ _ _
  unfold seqItems?
  refine WY (WY (Wx hT ?_))
  rw[hTd]
  refine YJ ?_
  dsimp only
  have ep1:(pl.map fun p:Nat=>Yt (p:Int) 0).toArray[((es.size:Nat):Int).toNat]?=none:=by
   rw[jB]
   simp[lpl]
  rw[ep1]
  dsimp only
  exists 68
  have hd0:=Obj.data_mapFields hd (·.setIfInBounds 0 (rawInt 0))
  refine WY (YU (jr _ ho (Obj.isFreed_of_fields hd0)) hd0 #[10] ?_)
  exact stop _ ((Yo ..).trans (Yo ..)).extBut
end
end L2
namespace L2
open PySem PySem.Spec PyProof.Rows
namespace SF
theorem C5:entryFor table "set_iterator.__iter__" = some Builtin.«dict_keyiterator.__iter__» := qp (id' := "dict_keyiterator.__iter__") #[214] rfl #[3] #[214]
theorem DI(a:Value):argsOk "set_iterator.__iter__" ⟨[a],[]⟩:=by unfold argsOk;kernel_rfl
end SF
section
variable{P:qJ}{w:World}{A:Around}{E:Value->qM->Prop}{s:qM}{es:Array (Int×Value)}{ep:Nat}{t:qL}{S T I:Qo}{L:List Value}
theorem aj9(hh:A.handled=none)(hf:t.fits es.size=true)(hk:iC t (!Lf w))(hL:L.length=es.size)(hTI:T≠I)(hSI:S≠I):
  WalksS P w A I [I,S,T] [I] (fun a b=>b=a) es.size (fun i v=>v=L.getD i .none) (fun i s=>FH w es ep t S T I L i s.heap) where
 sub:=fun b hb=>by simp at hb;simp[hb]
 grefl:=fun _=>rfl
 gtrans:=fun _ _ _ h1 h2=>h2.trans h1
 frame:=fun i s h' tk st _ k=>by
  obtain⟨⟨oS,hS,SQ⟩,first,⟨o,ho,r,r1⟩,by_⟩:=st
  refine⟨⟨oS,k S #[10] _ hS,SQ⟩,first,⟨o,k I #[10] _ ho,r,r1⟩,?_⟩
  rcases by_ with z|z|⟨b,e,pl,pp,⟨oT,eT,hT,hTd⟩,eL⟩
  ·exact .inl z
  ·exact .inr (.inl z)
  ·exact .inr (.inr ⟨b,e,pl,pp,⟨oT,eT,k T #[10] _ hT,hTd⟩,eL⟩)
 item:=fun i s Q E hi st hQ=>next_item hf hk hL hTI hSI st hi fun h' sb EL=>hQ _ _ rfl EL ⟨fun b o hb e=>(sb.2 b fun z=>hb (by simp[z])).trans e,rfl,rfl,rfl,jF _⟩
 done:=fun s Q E st hQ=>next_end hh hf hk hSI st fun h' eb=>hQ _ ⟨fun b o hb e=>eb b o (fun z=>hb (by simp[z])) e,rfl,rfl,rfl,jF _⟩
 self:=fun i s Q E st hQ=>by
  obtain⟨_,first,hit,_⟩:=st
  refine YN hit.typeIs SF.wG (Wb SF.wG hit.typeIs SF.C5 ?_ (SF.DI _))
  show wpAny _ _ (ret (.ref I)) _ _ s
  exact YJ ⟨_,rfl,"set_iterator",_,hit.typeIs,SF.slot_next.lookup,hQ⟩
theorem aiS{o:Obj}{Q:Value->qM->Prop}(ho:s.heap.get? S=some o)(hex:o.ExactSet)(hd:o.data=.set es ep t)(hb:es.size<scanBound)(hf:t.fits es.size=true)(hk:iC t (!Lf w))(h:∀ (h':Heap) (d':Qv) (I T:Qo) (L:List Value),L.Perm (es.toList.map (·.2))->FH w es ep t S T I L 0 h'->#[149]->s.heap.objs.size<=I->I<h'.objs.size->T≠I->(T=S\/s.heap.objs.size<=T)->Q (.ref I) { s with heap:=h',drawn:=d' }):
  wpAny #[42] A (pyIter (.ref S)) Q E s:=by
 have hT:s.TypeIs (.ref S) "set" := ⟨o,ho,hex.1⟩
 have hSl:S<s.heap.objs.size:=jL ho
 refine YN hT xS (Wb xS hT SF.OG ?_ (F.args_set_iter_1 _))
 unfold Builtin.«frozenset.__iter__» GV GR setEntries
 refine WY (WY (m:=slotArgs "__iter__" 0 _) #[306])
 refine WY (WY (WY (YW ho hd hf #[306])))
 refine WY ?_
 unfold setDrawn setsByText
 refine WY (YW ho hd hf ?_)
 refine WY (WY (WV #[306]))
 show wpAny _ _ (if (!Lf w&&#[168])=true then _ else _) _ _ _
 by_cases c:(!Lf w&&#[168])=true
 ·rw[if_pos c]
  have bt:Lf w=false:=by
   cases b:Lf w with
   | false=>rfl
   | true=>rw[b]at c;simp at c
  refine WY (FU _ _ _ _ #[10] fun pl d' pp=>WY ?_)
  have am7:pl.length=es.size:=by rw[pp.length_eq,jq]
  refine wpAny_newTuple (hsz:=by rw[jW,am7];exact qu hb) ?_
  have lpl:pl.length=es.size:=by rw[pp.length_eq,jq]
  have LS:(s.heap.push (seqObj "tuple" (pl.map fun i:Nat=>rawInt i).toArray 0)).get? S=some o:=jA _ ho
  unfold setEpoch
  refine WY (WY (YW (s:={ s with heap:=s.heap.push (seqObj "tuple" (pl.map fun i:Nat=>rawInt i).toArray 0),drawn:=d' }) LS hd hf (YJ ?_)))
  unfold newFields
  refine WY (YE (YJ ⟨_,rfl,"set_iterator",_,⟨_,jK _ rfl,rfl⟩,SF.slot_next.lookup,?_⟩) #[239])
  refine h _ d' _ s.heap.objs.size (pl.map fun p=>(es.getD p (0,.none)).2) ?_ ⟨⟨o,jA _ LS,hd⟩,_,⟨_,jK _ rfl,rfl,rfl⟩,.inr (.inr ⟨bt,rfl,pl,pp,⟨_,0,jA _ (jK _ rfl),rfl⟩,rfl⟩)⟩
   (fun b u q=>jA _ (jA _ q)) ?_ ?_ ?_ ?_
  ·refine(pp.map _).trans ?_
   rw[show(jZ es.size).map (fun p=>(es.getD p (0,.none)).2)=es.toList.map (·.2)from by
    refine zV #[10] fun i h1 h2=>?_
    have hi:i<es.size:=by simpa using h1
    simp[QQ,hi]]
  ·rw[JA];exact JS _
  ·exact jL (jK _ rfl)
  ·rw[JA];exact jQ (JU _)
  ·exact .inr (jF _)
 ·rw[if_neg c]
  refine WY (YJ ?_)
  unfold setEpoch
  refine WY (WY (YW ho hd hf (YJ ?_)))
  unfold newFields
  refine WY (YE (YJ ⟨_,rfl,"set_iterator",_,⟨_,jK _ rfl,rfl⟩,SF.slot_next.lookup,?_⟩) #[239])
  cases bt:Lf w with
  | true =>
   refine h _ s.drawn _ S (#[65].toList.map (·.2)) ((Cn _ es).map _) ⟨⟨o,jA _ ho,hd⟩,_,⟨_,jK _ rfl,rfl,rfl⟩,.inl ⟨bt,⟨0,rfl⟩,rfl⟩⟩
    (fun b u q=>jA _ q) (jF _) ?_ (jQ hSl) ?_
   ·rw[JA];exact JU _
   ·exact .inl rfl
  | false =>
   rw[bt]at c
   have pl:t.plain=true\/es.size<=1:=by
    cases q:t.plain with
    | true=>exact .inl rfl
    | false =>
     rw[q]at c
     simp at c
     exact .inr c
   refine h _ s.drawn _ S (es.toList.map (·.2)) (List.Perm.refl _) ⟨⟨o,jA _ ho,hd⟩,_,⟨_,jK _ rfl,rfl,rfl⟩,.inr (.inl ⟨bt,pl,⟨0,rfl,Oo hk.rise⟩,rfl⟩)⟩
    (fun b u q=>jA _ q) (jF _) ?_ (jQ hSl) ?_
   ·rw[JA];exact JU _
   ·exact .inl rfl
end
end L2
namespace L2
open PySem PySem.Spec PyProof.Rows
variable{P:qJ}{w:World}{A:Around}{E Q:Value→qM→Prop}{s ns:List Int}{S:Qo}{v:Int}{X:Cx}
section
variable{s:qM}
theorem W0{Q:List Value->qM->Prop}(hh:A.handled=none)(hS:rE P w s.heap S ns)(hQ:∀ (vs:List Value) (ms:List Int) (h':Heap) (d':Qv) (tk:Nat),qB vs ms->ms.Perm ns->#[149]->s.heap.objs.size<=h'.objs.size->Q vs { s with heap:=h',drawn:=d',toks:=tk }):
  wpAny #[42] A (collect (.ref S)) Q E s:=by
 obtain⟨o,es,ep,t,ho,hex,hd,hel,hi,hp,hb,hf,hk⟩:=hS
 have hSl:S<s.heap.objs.size:=jL ho
 unfold collect
 refine WY (wpAny_runValue (qY F.entry_proto_collect ?_))
 rw[Around.under_plainId F.plain_proto_collect _]
 show wpAny _ A.in1 (newList []>>=fun l=>again (.builtin "list.__iadd__" ⟨[l,.ref S],[]⟩)) _ _ s
 refine WY (YE ?_)
 refine YJ ⟨WC xE _,qY F.entry_list_iadd ?_⟩
 rw[Around.under_plainId xE _]
 generalize hN:({ cls:=.type "list",data:=.seq ([]:List Value).toArray }:Obj)=oN
 have LS:(s.heap.push oN).get? S=some o:=jA _ ho
 have hN1:(s.heap.push oN).get? s.heap.objs.size=some oN:=jK _ (by rw[<- hN];rfl)
 have ne:s.heap.objs.size≠S:=Js hSl
 have hT:(⟨s.heap.push oN,s.gens,s.drawn,s.toks,s.os⟩:qM).TypeIs (.ref S) "set" := ⟨o,LS,hex.1⟩
 show wpAny _ A.in1 (XC #[15] (.ref S) #[15]) _ _ ⟨s.heap.push oN,s.gens,s.drawn,s.toks,s.os⟩
 unfold XC
 refine WY (Yf hT ?_)
 rw[if_neg (by
  have h1:XN #[15] (.ref S)=false:=by simp[XN,ne]
  rw[h1]
  decide)]
 refine WY (aiS LS hex hd hb hf hk fun h1 d1 I T L pL st keep hI1 hI2 hTI hT2=>?_)
 have ho2:h1.get? S=some o:=keep S o LS
 have afw:(⟨h1,s.gens,d1,s.toks,s.os⟩:qM).TypeIs (.ref S) "set" := ⟨o,ho2,hex.1⟩
 refine WY (Wq ?_)
 unfold xY
 refine WY (YX afw F.slot_set_len.lookup ?_)
 (generalize hid:("set.__len__" : String)=id0;wp_delta;rw[show splitId id0=some ("set","__len__")from by subst hid;decide +kernel];subst hid)
 refine WY (Wr (b:=true) afw sub_set_self ?_)
 show wpAny _ _ (typeOf (.ref S)>>=_) _ _ _
 refine WY (Yf afw (YJ ?_))
 show wpAny _ A.in1 (rule "list.extend.makes-room" >>= fun _=>GZ #[15]>>=fun _ =>
  again (.builtin "list.extend.loop" ⟨[.ref s.heap.objs.size,.ref I,.ref s.heap.objs.size],[]⟩)) _ _ _
 refine WY (YS ?_)
 have OL:h1.get? s.heap.objs.size=some { cls:=.type "list",data:=.seq ([]:List Value).toArray }:=by rw[hN];exact keep _ _ hN1
 refine WY ?_
 show wpAny _ A.in1 (updateSeq s.heap.objs.size (·.push .none)>>=fun _=>updateSeq s.heap.objs.size (·.pop)) _ _ _
 refine WY (Yg OL rfl ?_)
 have LJ:=jr (Obj.mapSeq (·.push Yn)) OL rfl
 refine Yg LJ rfl ?_
 have hN4:=jr (Obj.mapSeq (·.pop)) LJ rfl
 have oth:∀ b u,b≠s.heap.objs.size->h1.get? b=some u->((h1.update s.heap.objs.size (Obj.mapSeq (·.push Yn))).update s.heap.objs.size (Obj.mapSeq (·.pop))).get? b=some u:=
  fun b u hb q=>#[290].trans (#[290].trans q)
 have lL:L.length=es.size:=by rw[pL.length_eq,jW,jt]
 have nI:s.heap.objs.size≠I:=by
  rw[JA]at hI1
  exact jQ hI1
 have nT:s.heap.objs.size≠T:=by
  rcases hT2 with z|z
  ·rw[z];exact ne
  ·rw[JA]at z
   exact jQ z
 have SI:S≠I:=by
  rw[JA]at hI1
  exact jQ (jh hSl (jk (JS _) hI1))
 have W:WalksS P w A.in1 I [I,S,T] [I] (fun a b=>b=a) es.size (fun i v=>v=L.getD i .none) (fun i s=>FH w es ep t S T I L i s.heap):=aj9 (A:=A.in1) (by simp[hh]) hf hk lL hTI SI
 have nfp:s.heap.objs.size∉[I,S,T]:=by
  simp only[jU,Jp,or_false,not_or]
  exact⟨nI,ne,nT⟩
 refine YJ ⟨WC F.plain_extend_loop _,codeAny_extend_loopS W (qu hb) _ nfp _ es.size 0 _ _ _ rfl (jd _)
  (W.frame 0 ⟨h1,s.gens,d1,s.toks,s.os⟩ _ s.toks st (jF _) fun b hb' u q=>oth b u (fun z=>nfp (z ▸ hb')) q) hN4 (ItemsOf.nil _) fun s' ab5 c' hm F6 sH=>?_⟩
 show wpAny _ A (load s.heap.objs.size>>=_) _ _ s'
 refine WY (Wx F6 (YJ ?_))
 obtain⟨h',g',d',tk',os'⟩:=s'
 have eg:g'=s.gens:=hm.gens
 have eo:os'=s.os:=hm.os
 subst eg eo
 have alo:ab5.toList=L:=by
  refine zV (by rw[jt,sH.1,lL]) fun i CB Dk=>?_
  have:=sH.2 i ab5[i] (by simp at CB;simp[CB])
  simp[this,Dk]
 rw[alo]
 have allI:∀ vs:List Value,(∀ v∈vs,∃ n u,v=Yt n u)->qB vs (vs.map PU):=by
  intro vs
  induction vs with
  | nil=>intro _;exact .nil
  | cons v r ih =>
   intro al
   obtain⟨n,u,rfl⟩:=al v jE
   exact .cons n u (ih fun x hx=>al x (jJ _ hx))
 refine hQ L (L.map PU) h' d' tk' (allI L fun v hv=>?_) ?_ (fun b u q=>?_) (Jl (jL F6))
 ·obtain⟨e,he,rfl⟩:=jN.mp (pL.mem_iff.mp hv)
  exact hi e he
 ·refine(pL.map _).trans ?_
  rw[JO]
  exact hp
 ·have hbn:b≠s.heap.objs.size:=jQ (jL q)
  refine hm.heap b u ?_ (oth b u hbn (keep b u (jA _ q)))
  simp only[jU,Jp,or_false,not_or]
  refine⟨hbn,jQ (jh (jL q) ?_)⟩
  rw[JA]at hI1
  exact jk (JS _) hI1
theorem adG(hh:A.handled=none)(hS:rE P w s.heap S ns)(h64:ns.length<64)(h:∀ (l:Qo) (out:List Value) (ms:List Int) (e:Nat) (h':Heap) (d':Qv) (tk:Nat),qB out ms->ms.Perm ns->ms.Pairwise (·<=·)->s.heap.objs.size<=l->h'.get? l=some (seqObj "list" out.toArray e)->#[149] ->
   Q #[202] { s with heap:=h',drawn:=d',toks:=tk }):wpAny #[42] A (call (.builtin "sorted") [.ref S]) Q E s:=by
 refine XG kind_sorted plain_sorted entry_sorted (args_sorted1 _) ?_
 unfold Builtin.«sorted»
 refine WY (m:=checkCount "sorted" 1 1 _) (YJ ?_)
 refine WY (W0 (by simp[hh]) hS fun vs ms h1 d1 tk1 hI hp keep amJ=>?_)
 have l64:vs.length<64:=by
  have e1:vs.length=ms.length:=hI.length
  have e2:=hp.length_eq
  omega
 refine WY (wpAny_newList (hsz:=jk (Jl l64) #[13]) ?_)
 have hoL:(h1.push (seqObj "list" vs.toArray 0)).get? h1.objs.size=some (seqObj "list" vs.toArray 0):=jK _ rfl
 refine WY (Wq (Wb slot_list_sort ⟨_,hoL,rfl⟩ entry_list_sort (list_sort_tree hoL hI l64 fun out ns' a1 a2 a3=>⟨_,rfl,?_⟩) (args_list_sort _)))
 obtain⟨e,he⟩:=sortedHeap_at (vs:=vs) (out:=out) hoL
 refine YJ ⟨_,rfl,?_⟩
 refine h h1.objs.size out.toList ns' e _ d1 tk1 a1 (a2.trans hp) a3 ?_ (by simpa using he) fun b u q=>?_
 ·exact amJ
 ·have q1:=keep b u q
  have lt:=jL q1
  rw[sortedHeap_old (jQ lt) (by rw[JA];exact Jz lt)]
  exact jA _ q1
end
abbrev Be(P:qJ)(w:World)(S:Qo)(ns:List Int):HO:=.ext fun h=>rE P w h S ns
theorem EU:∀ {ns:List Int} {us:List Value},Vals #[37] us->qB us ns
 | [],_,.nil=>.nil
 | n :: r,_,.cons ⟨t,e⟩ z=>by
  subst e
  exact .cons n t (EU z)
theorem N7:∀ {ns:List Int} {us:List Value},qB us ns->Vals #[37] us
 | _,_,.nil=>.nil
 | _,_,.cons n t r=>.cons ⟨t,rfl⟩ (N7 r)
def aK(ns:List Int):List Int:=ns.foldl step_dedup []
theorem Fo(ns:List Int):firstMet #[190] ns.length=aK ns:=by
 unfold firstMet aK
 congr 1
 refine zV #[10] fun i h1 h2=>?_
 simp[Qm,h2]
theorem Sy{k:Int}:k∈step_dedup s v↔k∈s\/k=v:=by
 unfold step_dedup
 split
 ·rename_i h
  have hv:v∈s:=by simpa using h
  exact⟨.inl,fun z=>z.elim id fun e=>e ▸ hv⟩
 ·simp
theorem Lv(h:s.Nodup):(step_dedup s v).Nodup:=by
 unfold step_dedup
 split
 ·exact h
 ·rename_i c
  have hv:v∉s:=by simpa using c
  exact JQ.mpr ⟨h,by simp,fun a ha b hb e=>hv (by rw[<- jG.mp hb,<- e];exact ha)⟩
theorem CM:∀ (ns s:List Int) (k:Int),k∈ns.foldl step_dedup s↔k∈s\/k∈ns
 | [],s,k=>by simp
 | n :: r,s,k=>by
  rw[Jf,CM r,Sy,jU]
  constructor
  ·rintro((h|h)|h)
   ·exact .inl h
   ·exact .inr (.inl h)
   ·exact .inr (.inr h)
  ·rintro(h|h|h)
   ·exact .inl (.inl h)
   ·exact .inl (.inr h)
   ·exact .inr h
theorem dk{k:Int}:k∈aK ns↔k∈ns:=by
 unfold aK
 rw[CM]
 simp
theorem As:∀ (ns s:List Int),s.Nodup->(ns.foldl step_dedup s).Nodup
 | [],s,h=>h
 | n :: r,s,h=>As r _ (Lv h)
theorem sX(ns:List Int):(aK ns).Nodup:=As ns [] List.Pairwise.nil
theorem iG:∀ (ns s:List Int),(ns.foldl step_dedup s).length<=s.length+ns.length
 | [],s=>jF _
 | n :: r,s=>by
  refine jk (iG r _) ?_
  have:(step_dedup s n).length<=s.length+1:=by
   unfold step_dedup
   split
   ·exact JS _
   ·rw[jH];exact jF _
  rw[jc]
  omega
theorem rT(ns:List Int):(aK ns).length<=ns.length:=by
 have q:=iG ns []
 unfold aK
 simpa using q
section
inductive Ll (P0:qJ) (w0:World) (xs:List V) (H:Hp) (Q:VK):Prop
 | mk (a:Qo) (ns:List Int) (_:xs=[.ref a]) (_:H a=some (.lst #[37])) (_:ns.length<4000) (_:∀ S,H S=none->Q (.ref S) (upd H S (Be P0 w0 S (aK ns))))
theorem rL(hc:X.calm=true):iz X (.type "set") (Ll X.prog X.w):=by
 exists 8
 obtain⟨a,ns,rfl,ha,hz,q⟩:=h
 exists 13
 cases rx
 obtain⟨_,aX,n,rv,hl,e⟩:=I.Fu ha
 have hln:aX.length=ns.length:=by rw[<- hl,jW]
 refine Sn #[120] ⟨_,e,rfl,n,rfl⟩ (ns:=ns) (by simpa using EU rv) (by simp only[jS];unfold scanBound;omega) fun h' tk hS keep=>?_
 have k2:∀ b o,s.heap.get? b=some o->h'.get? b=some o:=fun b o z=>keep b o (jL z) z
 have F6:rE X.prog X.w h' s.heap.objs.size (aK ns):=by
  simp only[jS]at hS
  rw[hln,Fo]at hS
  exact hS
 refine⟨.ref s.heap.objs.size,_,I.laid (o:=Be X.prog X.w s.heap.objs.size (aK ns)) (t' := tk) k2 (jF _) (show rE X.prog X.w h' s.heap.objs.size (aK ns)/\(∃ o,h'.get? s.heap.objs.size=some o)/\∀ h1 h2:Heap,rE X.prog X.w h1 s.heap.objs.size (aK ns)->(∀ o,h1.get? s.heap.objs.size=some o->h2.get? s.heap.objs.size=some o)->rE X.prog X.w h2 s.heap.objs.size (aK ns)from⟨F6,?_,fun h1 h2 p kp=>p.keep kp⟩),rfl,q _ #[115]⟩
 obtain⟨o,es,ep,t,ho,_⟩:=F6
 exact⟨o,ho⟩
theorem HL(hc:X.calm=true):iz X (.builtin "sorted") (fun xs H Q=>∃ (S:Qo) (ns:List Int),xs=[.ref S]/\H S=some (Be X.prog X.w S ns)/\ns.length<64 /\
  ∀ (l:Qo) (ms:List Int),H l=none->ms.Perm ns->ms.Pairwise (·<=·)->Q #[202] (upd H l (.lst (ms.map V.int)))):=by
 exists 8
 obtain⟨S,ns,rfl,hS,h64,q⟩:=h
 exists 13
 cases rx
 obtain⟨p,_,_⟩:=(show bF X.prog X.w H s.heap S (Be X.prog X.w S ns)from I.hok S _ hS)
 refine adG #[120] p h64 fun l out ms e h' d' tk hI hp hs hle hg keep=>?_
 have I1:Inv X pins σ (upd H l (.lst (ms.map V.int))) { s with heap:=h',toks:=tk }:=I.laid (t' := tk) keep hle ⟨by
  rw[jW,hp.length_eq]
  exact jk (Jl h64) #[13],out,e,N7 hI,hg⟩
 exact⟨.ref l,_,⟨I1.ok,I1.os,I1.bare,I1.base,I1.loc,I1.cell,I1.free,I1.freeC,I1.pin,I1.hok,I1.len⟩,rfl,q l ms (I.hok.fresh hle) hp hs⟩
end
section
inductive anE (K:Yh) (xs:List V) (H:Hp) (Q:VK):Prop
 | mk (a:Qo) (bs:List Bool) (_:xs=[.ref a]) (_:pk K H a (bs.map V.bl)) (_:Q (.bl (bs.any id)) H)
theorem V2(hc:X.calm=true):iz X (.builtin "any") (anE X.K):=by
 exists 8
 obtain⟨a,bs,rfl,hS,q⟩:=h
 obtain⟨u,rfl,ru⟩:=r.one
 cases(show u=Yi a from ru)
 obtain⟨aX,rv,ht,hz⟩:=I.list hS
 have hlen:=rv.length
 rw[jW]at hlen
 have dy:a<s.heap.objs.size:=by obtain⟨_,e,_⟩:=ht.isList;exact jL e
 refine call_any_walk (YL ht.isList ?_)
 have W:=Walks.list (prog:=X.prog) (w:=X.w) (A:=X.A.in1) #[120] s.heap.objs.size a (jQ dy) aX.toArray
 refine⟨_,_,_,_,_,_,fun i=>bs.getD i false,rfl,W,⟨⟨_,jK _ rfl,rfl,rfl⟩,ht.isList.push _⟩,fun i v s' Q' E' hv hQ=>?_,fun h' tk hk=>?_⟩
 ·have e':aX[i]?=some v:=by simpa using hv
  have hi:i<bs.length:=by rw[hlen];exact(js.mp e').1
  obtain⟨u,hu,ru⟩:=rv.get (i:=i) (x:=.bl bs[i]) (by simp[hi])
  rw[e']at hu
  cases hu
  cases(show v=yc bs[i]from ru)
  refine Yb ?_
  have:bs.getD i false=bs[i]:=by simp[hi]
  rw[<- this]
  exact hQ
 ·have I1:Inv X pins σ H { s with heap:=h',toks:=tk }:=I.kept (t' := tk) fun b o e=>hk b o (fun hm=>by
   rw[jG.mp hm]at e
   exact JX _ (jL e)) (jA _ e)
  refine⟨.bl (bs.any id),H,I1,?_,q⟩
  show yc _=yc _
  congr 1
  rw[jS,<- hlen]
  have e:bs=(jZ bs.length).map fun i=>bs.getD i false:=by
   apply QG
   intro i
   rcases JP i bs.length with q|q
   ·simp[q]
   ·simp[q]
  conv=>rhs;rw[e]
  rw[Qe]
  rfl
end
end L2
namespace PySem
open PyProof.Rows
end PySem
namespace L2
open PySem PySem.Spec PyProof.Rows
variable{a:Qo}{p:Pos}{ix:List (Option Nat)}{te:TE}{tc:TT}{σ:St}{H:Hp}{x:qN}{K:Yh}{xs:List V}{Qd:Qo→Hp→Prop}{o:Obj}{kvs:List (Key×V)}
theorem Lp{g:TG}(Pv:Qo->Nat->List V->Hp->Prop)(hg:∀ (T:Qo) (σ:St) (H:Hp) (Q:St->Hp->Prop) (x y:V),H T=some (.tup [x,y])->Q ((σ.set 0 (some x)).set 1 (some y)) H->g #[249] σ H Q)(h0:∀ D,H D=none->Pv D 0 [] #[75])(hl:∀ D i ys H',i<=xs.length->Pv D i ys H'->wO K H' a xs)(hs:∀ D i x ys H' T (Qy:VK) (Qn:Hp->Prop),H D=none->xs[i]?=some x->H' D=some #[88]->Pv D i ys H'->H' T=none->(∀ y H4,H4 D=some #[88]->ys.length<sizeLine->Pv D (i+1) (ys++[y]) (upd H4 D (.lst (ys++[y])))->Qy y H4) ->
   (∀ H4,H4 D=some #[88]->Pv D (i+1) ys H4->Qn H4)->tc (#[139].set 1 (some x)) (upd H' T #[169]) fun b H4=>if b=true then te (#[139].set 1 (some x)) H4 Qy else Qn H4)(hd:∀ D ys H',H D=none->H' D=some #[88]->Pv D xs.length ys H'->Qd D H'):Hy (Ite K a) ix g tc te σ H Qd:=by
 intro D hD
 refine⟨fun i m σ' H'=>m=xs.length-i/\i<=xs.length/\(σ'=aP ix σ\/∃ t u,σ'=(#[91].set 0 t).set 1 u)/\∃ ys,H' D=some #[88]/\Pv D i ys H',⟨xs.length,by simp,jd _,.inl rfl,[],ae,h0 D hD⟩,?_⟩
 exists 12
 exists 96
 exists 72
 ·exists 40
  obtain⟨T,x0,rfl,hT,rfl,y1⟩:=y
  have ex:=y1 xs q
  refine hg T σ' _ _ (.int i) x0 ae ?_
  have es:(#[198].set 1 (some x0))=(#[91].set 0 (some (V.int i))).set 1 (some x0):=by
   rcases hσ with z|⟨t,u,z⟩
   ·rw[z]
   ·rw[z,MN]
  show tc (#[198].set 1 (some x0)) _ _
  rw[es]
  exact hs D i x0 ys _ T _ _ hD ex hy p hT (fun y H4 h4 hz p4=>⟨ys,h4,hz,xs.length-(i+1),by omega,rfl,dy,.inr ⟨_,_,rfl⟩,ys++[y],ae,p4⟩) fun H4 h4 p4=>⟨xs.length-(i+1),by omega,rfl,dy,.inr ⟨_,_,rfl⟩,ys,h4,p4⟩
 ·exists 43
  subst e
  exists 62
theorem Su(Pv:Qo->Nat->List V->Hp->Prop)(h0:∀ D,H D=none->Pv D 0 [] #[75])(hl:∀ D i ys H',i<=kvs.length->Pv D i ys H'->H' a=some #[170])(hs:∀ D i p ys H' (Q':VK),H D=none->kvs[i]?=some p->H' D=some #[88]->Pv D i ys H'->#[8] ->
   te (#[91].set 0 (some (kV p.1))) H' Q')(hd:∀ D ys H',H D=none->H' D=some #[88]->Pv D kvs.length ys H'->Qd D H'):AZ (Itd a o kvs) ix (ba 0) te σ H Qd:=by
 intro D hD
 refine⟨fun i m σ' H'=>m=kvs.length-i/\i<=kvs.length/\#[50]/\∃ ys,H' D=some #[88]/\Pv D i ys H',⟨kvs.length,by simp,jd _,.inl rfl,[],ae,h0 D hD⟩,?_⟩
 exists 12
 exists 96
 by_cases dy:i<kvs.length
 ·refine .inr ⟨⟨dy,q⟩,fun x H2 y=>?_⟩
  obtain⟨e1,e2⟩:=y
  subst e1
  have ex:=e2 kvs[i] (jC dy)
  subst ex
  have es:σ'.set 0 (some (kV (kvs[i]).1))=#[91].set 0 (some (kV (kvs[i]).1)):=by
   exists 76
   ·rw[z]
   ·rw[z,zH]
  show te (σ'.set 0 (some (kV (kvs[i]).1))) _ _
  rw[es]
  refine hs D i kvs[i] ys _ _ hD (jC dy) hy p fun y H4 h4 hz p4=>⟨ys,h4,hz,kvs.length-(i+1),by omega,rfl,dy,.inr ⟨_,rfl⟩,ys++[y],ae,p4⟩
 ·have e:i=kvs.length:=by omega
  subst e
  exact .inl ⟨⟨jF _,q⟩,hd D ys H' hD hy p⟩
end L2
namespace PySem
open PyProof.Rows
variable{prog:qJ}{w:World}{K:Type}{A:Around}{E Q:Value→qM→Prop}{s:qM}{R:Result→qM→Prop}{h h':Heap}{a D I l:Qo}{i c:Nat}{ts:List Qo}
section
variable[DecidableEq K]{knd:KeyKind prog w K}
theorem IsTupleKey.there{ks:List K}(x:qE knd h ks a)(k:∀ o,h.get? a=some o->h'.get? a=some o):qE knd h' ks a:=let ⟨o,it,n,ho,r⟩:=x;⟨o,it,n,k _ ho,r⟩
def B1(knd:KeyKind prog w K)(h:Heap)(ts:List Qo)(ps:List #[140]):Prop := ∀ (j:Nat) (t:Qo) (p:List K×Qo×Value),ts[j]?=some t->ps[j]?=some p->qE knd h p.1 p.2.1/\qD h t #[.ref p.2.1,p.2.2]
def Dq(xs ps:List #[140]):List #[140]:=ps.foldl (fun acc p=>storedH acc p.1 p.2.1 p.2.2) xs
theorem DZ{xs:List #[140]}(x:h.DictOfH (WL knd) D xs)(hD:∀ o,h.get? D=some o->h'.get? D=some o)(hk:∀ p∈xs,∀ o,h.get? p.2.1=some o->h'.get? p.2.1=some o):h'.DictOfH (WL knd) D xs:=by
 obtain⟨o,es,ep,ho,hc,hd,he,his,hn⟩:=x
 exact⟨o,es,ep,hD _ ho,hc,hd,he,fun p hp=>IsTupleKey.there (his p hp) (hk p hp),hn⟩
theorem N2(xs:List #[140])(k:List K)(a:Qo)(v:Value):(storedH xs k a v).length<=xs.length+1:=by
 unfold storedH
 split
 ·rw[jW];omega
 ·rw[jH];exact jF _
theorem sN{ks:List K}(x:qE knd h ks a)(y:h.IsListIter I l i):a≠I:=by
 rintro rfl
 obtain⟨o,_,_,ho,hc,_⟩:=x
 obtain⟨o',U0,Y3,_⟩:=y
 rw[ho]at U0
 cases U0
 rw[hc]at Y3
 exact absurd (Gn Y3) #[13]
theorem IK{ps:List #[140]}(hu:A.units+1<cLine)(W:qP prog w A.in1 I [I,l] [I] ts.length (fun i v=>#[147].toArray[i]?=some v) (fun i h=>h.IsListIter I l i/\h.IsList l #[147].toArray))(hl:ts.length=ps.length)(hDI:D≠I)(hDl:D≠l)(hDt:∀ t∈ts,t≠D/\t≠I)(hz:ps.length<=sizeLine):
  ∀ (k i:Nat) (s:qM) (acc:List #[140]),ts.length-i=k->i<=ts.length->(s.heap.IsListIter I l i/\s.heap.IsList l #[147].toArray)->s.heap.DictOfH (WL knd) D acc->acc.length<=i->B1 knd s.heap ts ps ->
  (∀ h' tk,(∀ b o,b≠D->b≠I->s.heap.get? b=some o->h'.get? b=some o)->h'.DictOfH (WL knd) D (Dq acc (ps.drop i))->R (.ok (.ret .none)) { s with heap:=h',toks:=tk }) ->
  codeAny #[7] A (.builtin "dict.update.loop" ⟨[.ref D,.ref I,rawInt (i:Int),.none],[]⟩) R s:=by
 intro k
 induction k with
 | zero =>
  exists 84
  have tG:i=ts.length:=by omega
  subst tG
  refine qY eO ?_
  exists 97
  exists 47
  refine WY (W.done s _ _ tL fun h' tk hm=>?_)
  show wpAny _ _ (XJ D []>>=_) _ _ _
  refine WY (YH (a:=()) rfl ?_)
  have e:ps.drop ts.length=[]:=by rw[hl,zU]
  refine YJ (hR h' tk (fun b o _ hb q=>hm b o #[208] q) ?_)
  rw[e]
  obtain⟨_,_,_,_,_,_,_,his,_⟩:=id hD
  exact DZ hD (fun o q=>hm D o (by simpa using hDI) q) fun p hp o q=>hm _ o (by simpa using sN (his p hp) tL.1) q
 | succ k ih =>
  exists 84
  have dy:i<ts.length:=by omega
  have Z7:i<ps.length:=by omega
  refine qY eO ?_
  exists 97
  exists 47
  refine WY (W.item i s _ _ dy tL fun v h' tk hv C7 hm=>?_)
  have ev:v=.ref ts[i]:=by
   have:#[147].toArray[i]?=some (.ref ts[i]):=by simp[dy]
   rw[this]at hv
   exact(Option.some.inj hv).symm
  subst ev
  have keep:∀ b o,b≠I->s.heap.get? b=some o->h'.get? b=some o:=fun b o hb q=>hm b o #[208] q
  have aiV:∀ {ks:List K} {a:Qo},qE knd s.heap ks a->qE knd h' ks a:=fun x=>x.there fun o q=>keep _ o (sN x tL.1) q
  obtain⟨Z2,ht⟩:=hP i ts[i] ps[i] (jC dy) (jC Z7)
  have tn:=hDt ts[i] (jM dy)
  have U1:qD h' ts[i] #[.ref (ps[i]).2.1,(ps[i]).2.2]:=ht.extBut (b:=I) keep tn.2
  have hD':h'.DictOfH (WL knd) D acc:=by
   obtain⟨_,_,_,_,_,_,_,his,_⟩:=id hD
   exact DZ hD (fun o q=>keep D o hDI q) fun p hp o q=>keep _ o (sN (his p hp) tL.1) q
  obtain⟨ot,hot,hct,nt,hdt⟩:=id U1
  try dsimp only
  refine WY (Wq ?_)
  refine WY (Yc ?_)
  unfold Xe
  refine WY (Yf (s:={ s with heap:=h',toks:=tk }) U1.typeIs ?_)
  rw[if_pos #[13]]
  refine WY (YT (s:={ s with heap:=h',toks:=tk }) hot hdt ?_)
  refine YJ ?_
  show wpAny _ _ (holding [.ref (ps[i]).2.1,(ps[i]).2.2] (dictSet D (.ref (ps[i]).2.1) (ps[i]).2.2)) _ _ _
  refine Wq (Wf (knd:=WL knd) (k:=(ps[i]).1) (s:={ s with heap:=h',toks:=tk }) hu (aiV Z2) hD' (fun h2 F5 sb2=>?_) #[0])
  have Ar:∀ b o,b≠D->h'.get? b=some o->h2.get? b=some o:=fun b o hb q=>sb2.extBut b o hb q
  refine YJ ⟨WC bZ _,?_⟩
  have ri:rawInt ((i:Int)+1)=rawInt (((i+1:Nat)):Int):=by push_cast;rfl
  rw[ri]
  have am2:∀ {ks:List K} {a:Qo},qE knd s.heap ks a->a≠D:=fun x z=>by
   obtain⟨o,_,_,ho,_,hd,_⟩:=x
   obtain⟨o',_,_,U0,_,hd',_⟩:=hD
   rw[z,U0]at ho
   cases ho
   rw[hd']at hd
   cases hd
  refine ih (i+1) { s with heap:=h2,toks:=_ } (storedH acc (ps[i]).1 (ps[i]).2.1 (ps[i]).2.2) #[0] dy ⟨C7.1.at fun o q=>Ar I o (Ne.symm hDI) q,C7.2.at fun o q=>Ar l o (Ne.symm hDl) q⟩ F5 (by
   have:=N2 acc (ps[i]).1 (ps[i]).2.1 (ps[i]).2.2
   omega) (fun j t p h1 Dk=>?_) (fun h3 tk3 I9 AI=>?_)
  ·obtain⟨Dm,afI⟩:=hP j t p h1 Dk
   have tn' := hDt t (zB h1)
   exact⟨(aiV Dm).there fun o q=>Ar _ o (am2 Dm) q,(afI.extBut (b:=I) keep tn'.2).extBut (b:=D) Ar tn'.1⟩
  ·refine hR h3 tk3 (fun b o hb hb2 q=>I9 b o hb hb2 (Ar b o hb (keep b o hb2 q))) ?_
   rw[jz Z7]
   exact AI
theorem B8{ps:List #[140]}(hu:A.units+2<cLine)(hh:A.handled=none)(hL:s.heap.get? l=some { cls:=.type "list",dict:=none,data:=.seq #[147].toArray c,slots := #[] })(hl:ts.length=ps.length)(hP:B1 knd s.heap ts ps)(hz:ps.length<=sizeLine)(hQ:∀ h' tk,#[61]->h'.DictOfH (WL knd) s.heap.objs.size (Dq [] ps)->Q #[15] { s with heap:=h',toks:=tk }):
  wpAny #[7] A (call #[281] [.ref l]) Q E s:=by
 refine callType_codes (Q₁:=fun obj s₁=>obj=.ref s.heap.objs.size/\s₁={ s with heap:=s.heap.push { cls:=.type "dict",data:=.dict #[] } }) xK (Xn _) xD (qy _ ⟨rfl,rfl⟩) ?_
 rintro obj s₁ ⟨rfl,rfl⟩
 have Z8:#[28].DictOfH (WL knd) s.heap.objs.size []:=Gk s.heap
 have aei:({ s with heap:=s.heap.push { cls:=.type "dict",data:=.dict #[] } }:qM).TypeIs #[15] "dict" := ⟨_,jK s.heap rfl,rfl⟩
 have dy:l<s.heap.objs.size:=jL hL
 have hL':#[28].get? l=some { cls:=.type "list",dict:=none,data:=.seq #[147].toArray c,slots := #[] }:=jA _ hL
 exists aei,Xv _ _
 unfold Builtin.«dict.__init__»
 refine WY ?_
 unfold XM
 refine WY (YG aei ?_)
 show wpAny _ _ (pure (s.heap.objs.size,[Yi l])) _ _ _
 refine YJ ?_
 show wpAny _ _ (yS "dict.__init__" s.heap.objs.size #[202] [] .none) _ _ _
 unfold yS
 refine WY (Yf (T := "list") ⟨_,hL',rfl⟩ ?_)
 rw[if_pos #[13]]
 refine WY (wm hL' hh fun h1 tk1 Ig=>?_)
 rw[if_pos #[38]]
 refine WY (YS ?_)
 have EY:=Ig _ _ hL'
 have il1:GY h1 l #[147].toArray:=⟨_,EY,rfl,c,rfl⟩
 refine WY (YL (s:={ s with heap:=h1,toks:=tk1 }) il1 ?_)
 refine YJ ⟨WC bZ _,?_⟩
 have oI:#[47].get? h1.objs.size=some { cls:=.type "list_iterator",data:=.fields #[.ref l,.int 0 0] }:=jK _ rfl
 have l1:l<h1.objs.size:=jL EY
 have d1:s.heap.objs.size<h1.objs.size:=jL (Ig _ _ (jK s.heap rfl))
 have W:=Walks.list (prog:=prog) (w:=w) (A:=A.in1.in1) hh h1.objs.size l (jQ l1) #[147].toArray
 have sz:#[147].toArray.size=ts.length:=by simp
 rw[sz]at W
 have kp2:∀ b o,s.heap.get? b=some o->#[47].get? b=some o:=fun b o q=>jA _ (Ig _ _ (jA _ q))
 refine IK (A:=A.in1) (knd:=knd) (D:=s.heap.objs.size) (ps:=ps) (by show A.units+1+1<cLine;exact hu) W hl (jQ d1) (Js dy) (fun t ht=>?_) hz ts.length 0 { s with heap:=h1.push { cls:=.type "list_iterator",data:=.fields #[.ref l,.int 0 0] },toks:=tk1 } [] rfl (jd _) ⟨⟨_,oI,rfl,rfl⟩,il1.at fun o q=>jA _ q⟩ ?_ (jd _) (fun j t p a1 a2=>?_) fun h3 tk3 I9 AI=>?_
 ·obtain⟨j,hj⟩:=JF.mp ht
  have jl:j<ps.length:=by
   rw[<- hl]
   exact(js.mp hj).1
  obtain⟨_,o,ho,_⟩:=hP j t ps[j] hj (jC jl)
  have tl:=jL ho
  exact⟨jQ tl,jQ (Ju tl d1)⟩
 ·exact DZ Z8 (fun o q=>jA _ (Ig _ _ q)) fun p hp=>by cases hp
 ·obtain⟨hk,ht⟩:=hP j t p a1 a2
  exact⟨hk.there fun o q=>kp2 _ o q,ht.keeps kp2⟩
 ·exact⟨rfl,hQ h3 tk3 (fun b o q=>I9 b o (jQ (jL q)) (jQ (Ju (jL q) d1)) (kp2 b o q)) AI⟩
end
end PySem
namespace L2
open PySem PySem.Spec PyProof.Rows
variable{X:Cx}{P:qJ}{w:World}{H:Hp}{A:Around}
section
def Oj(H:Hp):List Qo->List #[84]->Prop:=qH fun t p=>∃ b,H t=some (.tup [.ref b,p.2])/\H b=some #[209]
theorem CL:∀ {kvs:List #[84]} {ts:List Qo} {H:Hp} {h:Heap},Oj H ts kvs->lM P w H h->∃ ps:List #[71],KT H kvs ps/\ps.length=ts.length/\B1 (bA P w) h ts ps
 | [],[],_,_,.nil,_=>⟨[],.nil,rfl,fun j t p h=>by simp at h⟩
 | _,_,_,_,.cons (a:=a) (b:=p) (l₁:=ts) (l₂:=kvs) q t,ok=>by
  obtain⟨ps,r1,r2,r3⟩:=CL t ok
  obtain⟨b,qa,qb⟩:=q
  obtain⟨z,aX,rv,ht⟩:=ok a _ qa
  obtain⟨u,v,rfl,ru,rv'⟩:=Vals.two rv
  cases(show u=Yi b from ru)
  refine⟨(p.1,b,v) :: ps,.cons ⟨rfl,qb,rv'⟩ r1,by simp[r2],fun j t' p' h1 h2=>?_⟩
  cases j with
  | zero =>
   simp at h1 h2
   subst h1 h2
   exact⟨sP ok qb,by simpa using ht⟩
  | succ j=>exact r3 j t' p' #[254] #[253]
def mK(acc kvs:List #[84]):List #[84]:=kvs.foldl (fun a p=>putK a p.1 p.2) acc
theorem rg:∀ (kvs acc:List #[84]),(mK acc kvs).length<=acc.length+kvs.length
 | [],acc=>jF _
 | p :: kvs,acc=>by
  have h1:=rg kvs (putK acc p.1 p.2)
  have h2:=my acc p.1 p.2
  show(mK (putK acc p.1 p.2) kvs).length<=_
  rw[jc]
  omega
theorem KT.merge:∀ {kvs:List #[84]} {ps:List #[71]} {acc:List #[84]} {xs:List #[71]},KT H kvs ps->KT H acc xs->KT H (mK acc kvs) (Dq xs ps)
 | [],[],_,_,.nil,r=>r
 | p :: kvs,q :: ps,acc,xs,.cons h t,r=>by
  obtain⟨e,hb,rv⟩:=h
  have s:=r.put p.1 hb rv
  rw[e]at s
  have i:=KT.merge t s
  show KT H (mK (putK acc p.1 p.2) kvs) (Dq (storedH xs q.1 q.2.1 q.2.2) ps)
  rw[e]
  exact i
inductive abf (xs:List V) (H:Hp) (Q:VK):Prop
 | mk (l:_) (ts:_) (kvs:_) (_:xs=[.ref l]) (_:H l=some #[177]) (_:Oj H ts kvs) (_:∀ D,H D=none->Q #[86] (upd H D (.dT (mK [] kvs))))
theorem HK(hc:X.calm=true)(hu:X.A.units+2<cLine):iz X #[281] abf:=by
 exists 8
 obtain⟨l,ts,kvs,rfl,hl,hp,q⟩:=h
 exists 13
 cases rx
 obtain⟨z,aX,n,rv,hln,e⟩:=I.Fu hl
 have ei:=Cv rv
 subst ei
 obtain⟨ps,r1,r2,r3⟩:=CL hp I.hok
 have hlen:kvs.length=ps.length:=Paired.length r1
 have zl:ps.length<=sizeLine:=by
  rw[r2]
  rw[jW]at z
  exact z
 refine B8 (knd:=bA X.prog X.w) hu #[120] e r2.symm r3 zl fun h' tk kp dd=>?_
 have ob:bF X.prog X.w (upd H s.heap.objs.size (.dT (mK [] kvs))) h' s.heap.objs.size (.dT (mK [] kvs)):=by
  obtain⟨o,es,ep,h1,h2,h3,h4,_,h5⟩:=dd
  refine⟨?_,beq_eq_false_iff_ne.mpr (Ne.symm (jQ I.big)),_,(KT.merge r1 .nil).keeps fun c ys ec=>?_,o,es,ep,h1,h2,h3,h4,h5⟩
  ·have:=rg kvs []
   simp only[Jo]at this
   omega
  ·rw[ag (ao ec #[115])]
   exact ec
 exists 26
end
theorem aae{k:Nat}(hr:dM k A):A.units+2<cLine:=by
 have:=hr.un
 omega
end L2
namespace PySem
variable{prog:qJ}{w:World}{A:Around}{E:Value→qM→Prop}{s:qM}{d it:Qo}{es:Array Qu}{ep:Nat}{Q:Option Value→qM→Prop}
section
def DD(h:Heap)(d:Qo)(es:Array Qu)(ep:Nat):Prop := ∃ o,h.get? d=some o/\o.ExactDict/\o.data=.dict es ep
theorem DD.ty(x:DD s.heap d es ep):s.TypeIs (.ref d) "dict" := let ⟨o,h1,h2,_⟩:=x;⟨o,h1,h2.1⟩
theorem DD.to{h h':Heap}(x:DD h d es ep)(k:∀ o,h.get? d=some o->h'.get? d=some o):DD h' d es ep:=let ⟨o,h1,r,r1⟩:=x;⟨o,k _ h1,r,r1⟩
theorem L3{Q:Value->qM->Prop}(lo:(d==WK)=false)(x:DD s.heap d es ep)(q:Q #[15] { s with heap:=s.heap.push { cls:=.type "dict_keyiterator",data:=.fields #[.ref d,.int 0 0,.int es.size 0,.int ep 0] } }):wpAny #[7] A (pyIter (.ref d)) Q E s:=by
 have ty:=x.ty
 obtain⟨ob,g1,g2,g3⟩:=x
 refine YN ty xM (Wb xM ty F.entry_dict_iter ?_ (F.args_dict_iter_1 _))
 unfold Builtin.«dict.__iter__» GA
 refine WY (WY (YG ty ?_))
 show wpAny _ _ (pure (Yi d)) _ _ s
 refine YJ ?_
 show wpAny _ _ (Xi d>>=_) _ _ s
 unfold Xi
 rw[if_neg (fun z=>by rw[lo]at z;cases z)]
 refine WY (YJ (WY (Wd g1 g3 (WY (We g1 g3 ?_)))))
 refine WY (YE (YJ ⟨_,rfl,"dict_keyiterator",_,⟨_,jK _ rfl,rfl⟩,F.slot_dict_keyiterator_next.lookup,?_⟩))
 simpa[rawInt]using q
theorem Mj{i:Nat}(y:s.heap.IsKeyIter it d i es.size ep)(x:DD s.heap d es ep)(hi:i<es.size)(q:∀ h',h'.IsKeyIter it d (i+1) es.size ep->Yv it s.heap h'->Q (some es[i].key) { s with heap:=h' }):wpAny #[7] A (pyNext #[194]) Q E s:=by
 have ty:=y.typeIs
 obtain⟨oi,i1,i2,i3⟩:=id y
 obtain⟨ob,g1,g2,g3⟩:=x
 unfold pyNext
 refine WY (WX (Wa (name:=Str.ofString "__next__") ty yL (Wb yL ty yr ?_ (yq _))))
 refine WY (YJ (WY (WY ?_)))
 exists 29
 refine WY (Wk i1 i3 ?_)
 have own:yz "dict_keyiterator" = false:=by decide
 simp only[own,JE,if_false]
 show wpAny _ _ (if (Yi d==Yn)=true then _ else _) _ _ s
 rw[if_neg #[2]]
 refine WY (YJ (WY (Wd g1 g3 ?_)))
 rw[if_neg #[10]]
 refine WY (YJ (WY (We g1 g3 ?_)))
 rw[if_neg #[10]]
 refine YJ ?_
 simp only[show ¬ ((i:Int)<0)from by omega,if_false,jB,JH hi]
 refine WY ?_
 exists 29
 refine WY (Ws ty ?_)
 show wpAny _ _ (setField #[194] 1 (rawInt ((i:Int)+1))>>=_) _ _ s
 refine WY (YU i1 i3 #[10] ?_)
 have y2:(s.heap.update it #[34]).IsKeyIter it d (i+1) es.size ep:=⟨_,jr _ i1 (Obj.isFreed_of_fields (Obj.data_mapFields i3 _)),#[280].trans i2,by rw[Obj.data_mapFields i3];simp[rawInt]⟩
 refine WY (Wq (WY (Ws (s:={ s with heap:=s.heap.update it #[34] }) y2.typeIs ?_)))
 show wpAny _ _ (pure es[i].key) _ _ _
 exact YJ (YJ ⟨_,rfl,YJ (q _ y2 (Yo ..))⟩)
theorem Rb(hh:A.handled=none)(y:s.heap.IsKeyIter it d es.size es.size ep)(x:DD s.heap d es ep)(q:∀ h',Xc it s.heap h'->Q none { s with heap:=h' }):wpAny #[7] A (pyNext #[194]) Q E s:=by
 have ty:=y.typeIs
 obtain⟨oi,i1,i2,i3⟩:=id y
 obtain⟨ob,g1,g2,g3⟩:=x
 unfold pyNext
 refine WY (WX (Wa (name:=Str.ofString "__next__") ty yL (Wb yL ty yr ?_ (yq _))))
 refine WY (YJ (WY (WY ?_)))
 exists 29
 refine WY (Wk i1 i3 ?_)
 have own:yz "dict_keyiterator" = false:=by decide
 simp only[own,JE,if_false]
 show wpAny _ _ (if (Yi d==Yn)=true then _ else _) _ _ s
 rw[if_neg #[2]]
 refine WY (YJ (WY (Wd g1 g3 ?_)))
 rw[if_neg #[10]]
 refine WY (YJ (WY (We g1 g3 ?_)))
 rw[if_neg #[10]]
 refine YJ ?_
 simp only[show ¬ ((es.size:Int)<0)from by omega,if_false,jB,zt (jF es.size)]
 refine WY ?_
 exists 29
 show wpAny _ _ (setField #[194] 0 .none>>=_) _ _ s
 refine WY (YU i1 i3 #[10] ?_)
 show wpAny _ _ (newExc #[260] []>>=_) _ _ _
 refine WY ?_
 simp only[newExc,newTuple]
 refine WY (YE (WY (m:=firstArgMember _ _) (YH (a:=Yn) #[162] (YE ?_ #[239]))) #[239])
 simp only[raiseNew]
 refine WY (Wo ?_)
 rw[show A.in1.handled=none from hh]
 refine(WY (YJ (Ya ?fin)))
 refine(WY (Wr (T := "StopIteration") (b:=true) ⟨_,(jK _ rfl),rfl⟩ qx ?_))
 exact YJ (q _ (((Yo ..).extBut.push _).push _))
theorem T7(hh:A.handled=none)(I d:Qo)(ne:d≠I)(es:Array Qu)(ep:Nat):
  qP prog w A I [I,d] [I] es.size (fun i v=>∃ hi:i<es.size,v=es[i].key) (fun i h=>h.IsKeyIter I d i es.size ep/\DD h d es ep) where
 sub:=fun b hb=>by simp at hb;simp[hb]
 frame:=fun _ _ _ st hk=>⟨st.1.at fun o e=>hk I #[10] o e,st.2.to fun o e=>hk d #[10] o e⟩
 item:=fun i s Q E hi st hQ=>Mj st.1 st.2 hi fun h' y2 sb=>hQ _ h' s.toks ⟨hi,rfl⟩ ⟨y2,st.2.to fun o e=>sb.extBut d o ne e⟩ fun b o hb e=>sb.extBut b o (fun h=>hb (by simp[h])) e
 done:=fun s Q E st hQ=>Rb hh st.1 st.2 fun h' he=>hQ h' s.toks fun b o hb e=>he b o (fun h=>hb (by simp[h])) e
 self:=fun _ _ _ _ st hQ=>wpAny_pyIter_keyiter st.1 hQ
end
theorem PySem.W.acR(lo:(d==WK)=false):PySem.W.KdlSrc prog w "dict" d d es.size (fun i v=>∃ hi:i<es.size,v=es[i].key) (fun h=>DD h d es ep) where
 type:=fun _ x=>x.ty
 there:=fun _ x=>let ⟨_,h1,_,_⟩:=x;⟨jL h1,jL h1⟩
 keep:=fun _ _ x hk=>x.to fun o e=>hk d #[95] o e
 notList:=by decide
 notTuple:=by decide
 hint:=fun _ _ _ _ x hq=>PySem.W.kdl_hint_dict x.ty hq
 iter:=fun _ s hh x=>⟨_,_,(fun _ _ q=>L3 lo x q),T7 hh _ d (let ⟨_,h1,_,_⟩:=x;jQ (jL h1)) es ep,⟨⟨_,jK _ rfl,rfl,rfl⟩,x.to fun o e=>jA _ e⟩⟩
end PySem
namespace L2
open PySem PySem.Spec PyProof.Rows
variable{X:Cx}{H:Hp}{K:Yh}{a f d:Qo}{xs:List V}{ix:List (Option Nat)}{te tl:TE}{σ:St}{Qd:Qo→Hp→Prop}{P prog:qJ}{w:World}{mg:qN→Option Value}{base h:Heap}{CX:J1}{fd:Qz}{ps:List qN}{pins:List (Qo×Obj)}{s:qM}{A:Around}{i:Int}{u:Value}{n:Nat}{o:Obj}{kvs:List (List Key×V)}{tg l:Expr}{E:Value→qM→Prop}{pos:Pos}
section
def J3(H:Hp):List Qo->List #[84]->Prop:=qH fun b p=>H b=some #[209]
theorem KT.keys:∀ {kvs:List #[84]} {xs:List #[71]},KT H kvs xs->J3 H #[286] kvs
 | [],[],.nil=>.nil
 | _ :: _,_ :: _,.cons h t=>.cons h.2.1 (KT.keys t)
inductive ago (xs:List V) (H:Hp) (Q:VK):Prop
 | mk (p:_) (kvs:_) (_:xs=[.ref p]) (_:H p=some #[204]) (_:∀ l bs,H l=none->J3 H bs kvs->Q #[202] (upd H l (.lst (bs.map V.ref))))
theorem Ov(hc:X.calm=true):iz X #[282] ago:=by
 exists 8
 obtain⟨p,kvs,rfl,hp,q⟩:=h
 exists 13
 cases rx
 obtain⟨hz,lo,xs,kt,o,es,ep,h1,h2,h3,h4,h5⟩:=(show bF X.prog X.w H s.heap p #[204]from I.hok p _ hp)
 have hlen:kvs.length=xs.length:=Paired.length kt
 have sz:es.size=xs.length:=by
  have:=congrArg zG h4
  rw[jW]at this
  simpa using this
 refine xJ (PySem.W.acR (es:=es) (ep:=ep) lo) #[120] ⟨o,h1,h2,h3⟩ (by rw[sz,<- hlen];exact hz) fun h' tk acc c' kp e sH=>?_
 have ea:acc.toList=#[286].map Yi:=by
  refine QG fun j=>?_
  rcases JP j es.size with hj|hj
  ·have hja:j<acc.size:=by rw[sH.1];exact hj
   obtain⟨hi,ev⟩:=sH.2 j acc[j] (JH hja)
   have ek:es[j]=entryOfKey (WL #[184]) (xs[j]'#[197]):=by
    have:=congrArg (fun l=>l[j]?) h4
    simp only[Jb,jO]at this
    rw[JH hj,jC #[197]]at this
    exact Option.some.inj this
   rw[Jb,JH hja,ev,ek,jO,jO,jC #[197]]
   rfl
  ·rw[Jj (by rw[jt,sH.1];exact hj),Jj (by rw[jW,jW,<- sz];exact hj)]
 have rv:∀ bs:List Qo,Vals (bs.map V.ref) (bs.map Yi):=fun bs=>by
  induction bs with
  | nil=>exact .nil
  | cons b bs ih=>exact .cons rfl ih
 have ob:bF X.prog X.w (upd H s.heap.objs.size (.lst (#[286].map V.ref))) h' s.heap.objs.size (.lst (#[286].map V.ref)):=by
  refine⟨by rw[jW,jW,<- hlen];exact hz,acc.toList,c',by rw[ea];exact rv _,?_⟩
  rw[Zm]
  exact e
 exact⟨.ref _,_,I.laid (t' := tk) kp (jF _) ob,rfl,q _ _ #[115] (KT.keys kt)⟩
end
theorem OD{g:TG}(Pv:Qo->Nat->List V->Hp->Prop)(hg:∀ (T:Qo) (σ:St) (H:Hp) (Q:St->Hp->Prop) (i:Int) (x:V),H T=some #[169]->Q ((σ.set 0 (some (.int i))).set 1 (some x)) H->g #[249] σ H Q)(h0:∀ D,H D=none->Pv D 0 [] #[75])(hl:∀ D i ys H',i<=xs.length->Pv D i ys H'->pk K H' a xs)(hs:∀ D i x ys H' T (Q':VK),H D=none->xs[i]?=some x->H' D=some #[88]->Pv D i ys H'->H' T=none->#[8] ->
   te (#[139].set 1 (some x)) (upd H' T #[169]) Q')(hd:∀ D ys H',H D=none->H' D=some #[88]->Pv D xs.length ys H'->Qd D H'):AZ (Se K a) ix g te σ H Qd:=by
 refine OC (n:=xs.length) (item:=fun i=>xs.getD i .non) Pv hg h0 (fun D i ys H' hi p=>?_) (fun D ys H' p=>⟨xs,hl D _ ys H' (jF _) p,jF _⟩) (fun D i ys H' T Q' hD hi hy p hT k=>?_) hd
 ·have q:=hl D i ys H' (Jl hi) p
  refine⟨⟨xs,xs[i],q,jC hi⟩,fun x H2 y=>?_⟩
  obtain⟨T,x0,rfl,hT,rfl,y⟩:=y
  have e:=y xs q
  exists T,rfl,hT
  show _=upd H' T (.tup [.int i,xs.getD i .non])
  rw[jI,e]
  rfl
 ·have e:xs.getD i .non=xs[i]:=by rw[jI,jC hi];rfl
  show te (#[139].set 1 (some (xs.getD i .non))) (upd H' T (.tup [.int i,xs.getD i .non])) Q'
  rw[e]
  exact hs D i xs[i] ys H' T Q' hD (jC hi) hy p hT k
theorem bw.or{k:Nat}{sp sp':Sp}(F:bw P w K mg base CX k f fd ps sp)(F':bw P w K mg base CX k f fd ps sp'):
  bw P w K mg base CX k f fd ps (fun vs H Q E=>sp vs H Q E\/sp' vs H Q E):=
 ⟨fun vs H Q E q=>q.elim (F.len vs H Q E) (F'.len vs H Q E),fun A outer s H args us vs Q E hr he hb hv hs=>hs.elim (F.run A outer s H args us vs Q E hr he hb hv) (F'.run A outer s H args us vs Q E hr he hb hv)⟩
def T8(K:Yh)(H:Hp):Nat->V->V->Prop
 | 0,x,y=>∃ i:Int,x=.int i/\y=.int i
 | n+1,x,y=>(∃ i:Int,x=.int i/\y=.int i)\/∃ a b xs ys,x=.ref a/\y=.ref b/\wO K H a xs/\wO K H b ys/\qH (T8 K H n) xs ys
theorem Ck{α β:Type}{F:α->β->Prop}:∀ {xs:List α} {ys:List β} {j:Nat} (h1:j<xs.length) (h2:j<ys.length),qH F xs ys->F xs[j] ys[j]
 | _,_,j,h1,_,.nil=>absurd h1 (zP _)
 | _,_,0,_,_,.cons a _=>a
 | _,_,j+1,h1,h2,.cons _ t=>Ck (j:=j) #[254] #[253] t
section
theorem Rc{v:Value}(ru:RelV (.int i) u)(rv:RelV (.int i) v):XH A s u v true:=by
 obtain⟨t,rfl⟩:=(show ∃ t,u=Yt i t from ru)
 obtain⟨t',rfl⟩:=(show ∃ t,v=Yt i t from rv)
 have z:=Xw (A:=A) (s:=s) i t i t'
 rw[beq_self_eq_true]at z
 exact z
theorem Rf(ih:∀ {A:Around} {x y:V} {u v:Value},A.units+n<cLine->T8 X.K H n x y->RelV x u->RelV y v->XH A s u v true){b:Qo}{ys:List V}(I:Inv X pins σ H s)(hu:A.units+(n+1)<cLine)(ha:wO X.K H a xs)(hb:wO X.K H b ys)(p:qH (T8 X.K H n) xs ys):SeqAt.RcAt A s #[203] (.ref b) true:=by
 obtain⟨aX,r1,p1,_⟩:=I.tuple ha
 obtain⟨jts,r2,p2,_⟩:=I.tuple hb
 have l1:=r1.length
 have l2:=r2.length
 have l3:=p.length
 have q:=xF (A:=A) (e:=fun _=>true) p1 p2 #[0] fun j h1 h2=>by
  have j1:j<xs.length:=by simp at h1;omega
  have j2:j<ys.length:=by omega
  obtain⟨u1,e1,q1⟩:=r1.get (i:=j) (x:=xs[j]) (by simp[j1])
  obtain⟨u2,e2,q2⟩:=r2.get (i:=j) (x:=ys[j]) (by simp[j2])
  have g1:aX.toArray[j]=u1:=by
   have:=(js.mp e1).2
   simpa using this
  have g2:jts.toArray[j]=u2:=by
   have:=(js.mp e2).2
   simpa using this
  rw[g1,g2]
  exact ih (show A.units+1+n<cLine by omega) (Ck j1 j2 p) q1 q2
 have e:((jZ (min aX.toArray.size jts.toArray.size)).all (fun _=>true)&&aX.toArray.size==jts.toArray.size)=true:=by
  simp
  omega
 rw[e]at q
 exact q
theorem T8.at(I:Inv X pins σ H s):∀ (n:Nat) {A:Around} {x y:V} {u v:Value},A.units+n<cLine->T8 X.K H n x y->RelV x u->RelV y v->XH A s u v true
 | 0,A,x,y,u,v,_,h,ru,rv=>by
  obtain⟨i,rfl,rfl⟩:=h
  exact Rc ru rv
 | n+1,A,x,y,u,v,hu,h,ru,rv=>by
  rcases h with⟨i,rfl,rfl⟩|⟨a,b,xs,ys,rfl,rfl,ha,hb,p⟩
  ·exact Rc ru rv
  ·cases ru
   cases rv
   by_cases e:a=b
   ·subst e;exact xT _
   ·exact Xx e (Rf (fun {A x y u v} h1 h2 h3 h4=>T8.at I n h1 h2 h3 h4) I hu ha hb p)
inductive aaQ (K0:Yh) (n:Nat) (x:V) (y:V) (H:Hp) (Q:VK):Prop
 | mk (a:_) (b:_) (xs:_) (ys:_) (_:x=.ref a) (_:y=.ref b) (_:wO K0 H a xs) (_:wO K0 H b ys) (_:qH (T8 K0 H n) xs ys) (_:Q #[284] H)
theorem aaP(n:Nat)(hu:X.A.units+(n+1)<cLine):DB X (qj .Eq) (aaQ X.K n):=by
 intro pins s σ H x y v u Q I r1 r2 h
 obtain⟨a,b,xs,ys,rfl,rfl,ha,hb,e,q⟩:=h
 cases r1
 cases r2
 exact Rf (fun {A x y u v} h1 h2 h3 h4=>T8.at I n h1 h2 h3 h4) I hu ha hb e X.prog X.w X.xe _ ⟨.bl true,H,I,rfl,q⟩
end
theorem aaf{k:Nat}(hr:dM k A):A.units+3<cLine:=by
 have:=hr.un
 omega
section
open Classical in
noncomputable def isR(H:Hp)(ns:List Int)(u:Value):Bool:=decide (∃ b,u=Yi b/\H b=some (.tup #[37]))
end
section
theorem Inv.acm(I:Inv X pins σ H s)(e:H a=some #[204])(ho:s.heap.get? a=some o):Inv X pins σ (upd H a (.se o #[204])) s:=by
 have nt:∀ b u,H b=some u->(u=.dT kvs->False)->b≠a:=fun b u q d=>aG q e d
 refine I.un (t' := s.toks) ⟨fun b u q _ _ _=>q,fun b u q _ _ _=>⟨u.slots,q⟩,fun b u q n _=>?_,fun b u q _=>⟨u,q⟩,fun b xs q=>?_,fun b u xs q=>?_,fun b ps q=>⟨#[],?_⟩⟩ (fun b u q=>?_)
 ·rw[ag (fun z=>by rw[z,e]at n;cases n)];exact n
 ·exists 48
 ·exists 48
 ·rw[ag (nt b _ q #[2]),q];simp
 ·by_cases hb:b=a
  ·subst hb
   rw[ae]at q
   cases q
   exists ho
   exact(I.hok b _ e).BQ (fun c v _ z=>z) (fun c z=>by rw[ag #[99]];exact z) fun c xs z=>by rw[ag #[99]];exact z
  ·rw[ag hb]at q
   exact(I.hok b u q).BQ (fun c v _ z=>z) (fun c z=>by rw[ag #[99]];exact z) fun c xs z=>by rw[ag #[99]];exact z
end
def aeP(a:Qo)(o:Obj)(kvs:List #[84]):It:=
 ⟨fun i H=>i<kvs.length/\H a=some (.se o #[204]),fun i H x H'=>H'=H/\∃ b,x=.ref b/\∀ p,kvs[i]?=some p->H b=some #[209],fun i H=>i=kvs.length/\H a=some (.se o #[204])⟩
theorem Cu(ok:lM P w H h)(e:H a=some (.se o #[204])):∃ (bs:List Qo) (es:Array Qu),DD h a es (mW o)/\(a==WK)=false/\h.get? a=some o/\es.size=kvs.length/\bs.length=kvs.length/\J3 H bs kvs/\∀ (j:Nat) (hj:j<es.size) (hb:j<bs.length),es[j].key=.ref bs[j]:=by
 obtain⟨ho,z,lo,xs,kt,ob,es,ep,h1,h2,h3,h4,h5⟩:=ok a _ e
 rw[ho]at h1
 cases h1
 have ee:mW o=ep:=by unfold mW;rw[h3]
 have hlen:kvs.length=xs.length:=Paired.length kt
 have sz:es.size=xs.length:=by
  have:=congrArg zG h4
  rw[jW]at this
  simpa using this
 refine⟨xs.map fun q=>q.2.1,es,⟨o,ho,h2,by rw[ee];exact h3⟩,lo,ho,by omega,by rw[jW];omega,KT.keys kt,fun j hj hb=>?_⟩
 have ek:es[j]=entryOfKey (WL (bA P w)) (xs[j]'#[197]):=by
  have:=congrArg (fun l=>l[j]?) h4
  simp only[Jb,jO]at this
  rw[JH hj,jC #[197]]at this
  exact Option.some.inj this
 rw[ek,Jh]
 rfl
theorem PL(a it:Qo)(o:Obj)(kvs:List #[84]):Turn P w K tg (aeP a o kvs) [it] it (fun i h=>h.IsKeyIter it a i kvs.length (mW o)) where
 mem:=by simp
 obj:=fun i h st b hb=>by
  exists 31
  subst e
  obtain⟨o,e,c,d⟩:=st
  exists 16
 keep:=fun i h h' st k=>by
  obtain⟨ob,e,r⟩:=st
  exact⟨ob,k it #[10] ob e,r⟩
 item:=by
  exists 1
  exists 92
  obtain⟨hi,Y5⟩:=hg
  obtain⟨bs,es,dat,lo,ho,sz,lb,kt,hk⟩:=Cu I.hok Y5
  exists 2
  rw[<- sz]at st
  refine Mj st dat #[0] fun h' EL sb=>?_
  exists 4
  rw[sz]at EL
  obtain⟨ob,e,c,d⟩:=id EL
  refine⟨_,rfl,FZ (s:={ s with heap:=h' }) e c d #[13] ⟨.ref (bs[i]'#[0]),H,I1,?_,⟨rfl,_,rfl,fun p' BV=>?_⟩,EL,fun b hb=>(hf b hb).1⟩⟩
  ·rw[hk i #[0] #[0]]
   rfl
  ·have:=Ck (j:=i) #[0] hi kt
   rw[jC hi]at BV
   cases BV
   exact this
 done:=by
  exists 1
  exists 92
  obtain⟨hi,Y5⟩:=hg
  obtain⟨bs,es,dat,lo,ho,sz,lb,kt,hk⟩:=Cu I.hok Y5
  exists 2
  subst hi
  rw[<- sz]at st
  exact Rb #[120] st dat fun h' eb=>⟨rfl,I.turned (t' := s.toks) #[97] f0 f1 f3 f4 f5⟩
 self:=fun A i s Q E st h=>by
  refine YN st.typeIs yB (Wb yB st.typeIs yd ?_ (yb _))
  show wpAny _ _ (ret #[194]) _ _ s
  exact YJ ⟨_,rfl,"dict_keyiterator",_,st.typeIs,PySem.F.slot_dict_keyiterator_next.lookup,h⟩
section
def afM(tl:TE):TI:=fun σ H R=>tl σ H fun x H1=>∃ a kvs,x=.ref a/\H1 a=some #[204]/\∀ o,R (aeP a o kvs) (upd H1 a (.se o #[204]))
theorem aa7(hl:PE X l tl):PI X tg l (afM tl):=by
 exists 42
 exists 9
 obtain⟨a,kvs,e,hd,q⟩:=q1
 subst e
 cases r1
 obtain⟨z,lo0,xs,kt0,ob,es0,ep,hg,rest⟩:=I1.hok a _ hd
 have I2:=I1.acm hd hg
 obtain⟨bs,es,dat,lo,ho,sz,lb,kt,hk⟩:=Cu I2.hok ae
 refine L3 lo dat ?_
 refine⟨s1.heap.objs.size,[s1.heap.objs.size],_,_,_,rfl,I2.kept (t' := s1.toks) fun b o e=>jA _ e,PL a _ ob kvs,⟨_,jK _ rfl,rfl,by rw[sz];rfl⟩,fun b hb=>?_,q ob⟩
 exists 24
 subst e
 exact I2.AG (jF _) (I2.hok.fresh (jF _))
end
theorem OB(Pv:Qo->Nat->List V->Hp->Prop)(h0:∀ D,H D=none->Pv D 0 [] #[75])(hl:∀ D i ys H',i<=kvs.length->Pv D i ys H'->H' a=some (.se o #[204]))(hs:∀ D i p b ys H' (Q':VK),H D=none->kvs[i]?=some p->H' b=some #[209]->H' D=some #[88]->Pv D i ys H'->#[8] ->
   te (#[91].set 0 (some (.ref b))) H' Q')(hd:∀ D ys H',H D=none->H' D=some #[88]->Pv D kvs.length ys H'->Qd D H'):AZ (aeP a o kvs) ix (ba 0) te σ H Qd:=by
 intro D hD
 refine⟨fun i m σ' H'=>m=kvs.length-i/\i<=kvs.length/\#[50]/\∃ ys,H' D=some #[88]/\Pv D i ys H',⟨kvs.length,by simp,jd _,.inl rfl,[],ae,h0 D hD⟩,?_⟩
 exists 12
 exists 96
 by_cases dy:i<kvs.length
 ·refine .inr ⟨⟨dy,q⟩,fun x H2 y=>?_⟩
  obtain⟨e1,b,rfl,e2⟩:=y
  subst e1
  have ex:=e2 kvs[i] (jC dy)
  have es:σ'.set 0 (some (.ref b))=#[91].set 0 (some (.ref b)):=by
   exists 76
   ·rw[z]
   ·rw[z,zH]
  show te (σ'.set 0 (some (.ref b))) _ _
  rw[es]
  refine hs D i kvs[i] b ys _ _ hD (jC dy) ex hy p fun y H4 h4 hz p4=>⟨ys,h4,hz,kvs.length-(i+1),by omega,rfl,dy,.inr ⟨_,rfl⟩,ys++[y],ae,p4⟩
 ·have e:i=kvs.length:=by omega
  subst e
  exact .inl ⟨⟨rfl,q⟩,hd D ys H' hD hy p⟩
def agF(Sa:List (TE×TE)):TE:=fun σ H Q=>∀ p,H p=none->IJ Sa σ (upd H p (.dT [])) fun ps H2=>H2 p=some (.dT [])/\∃ b k y,ps=[(.ref b,y)]/\H2 b=some #[246]/\Q (.ref p) (upd H2 p (.dT [(k,y)]))
theorem TR{r:Value}{Q:PUnit->qM->Prop}(h:wpAny #[7] A (dictSet d u r) (fun _ s'=>Q PUnit.unit s') E s):wpAny #[7] A (storeAll d [(u,r)]) Q E s:=by
 unfold storeAll
 simp only[Zd,QV]
 exact WY (WY (YB h (fun _ s' q=>YJ (YJ q)) fun _ _ e=>e))
theorem Mv{k v:Expr}{Sa:List (TE×TE)}(hu:X.A.units+1<cLine)(h:PPs X pos [some k] [v] Sa):PE X (.Dict [some k] [v] pos) (agF Sa):=by
 intro pins s σ H Q I q
 have hn:=I.hok.fresh (jF s.heap.objs.size)
 have I1:=I.laid (a:=s.heap.objs.size) (o:=.dT []) (h' := s.heap.push { cls:=.type "dict",data:=.dict #[] }) (t' := s.toks) #[252] (jF _) (W7 s.heap I.big)
 refine wpAny_Dict_any rfl rfl #[2] (by show 1<=15;decide) (bX (h pins _ σ _ _ I1 (q _ hn)) fun ws s2 ⟨ps,H2,I2,rel,e,b,kk,y,ep,hb,q2⟩=>?_)
 subst ep
 obtain⟨u,rr,hws,ru,ry⟩:∃ u rr,ws=[(u,rr)]/\RelV (.ref b) u/\RelV y rr:=by
  cases rel with
  | cons r t =>
   cases t
   exact⟨_,_,rfl,r.1,r.2⟩
 subst hws
 have eu:u=Yi b:=ru
 subst eu
 obtain⟨z,hd,xs,rl,dd⟩:=W8 I2.hok e
 cases rl
 refine TR (Wf (hsz:=by decide) (show X.A.units<cLine by omega) (sP I2.hok hb) dd fun h' IW hs=>⟨.ref s.heap.objs.size,_,?_,rfl,q2⟩)
 obtain⟨q',es,ep,hq,h2,h3,h4,_,h5⟩:=IW
 refine sG I2 #[98] hs ⟨q',hq⟩ ⟨by show 1<=sizeLine;decide,hd,_,(KT.put (H:=H2) (kvs:=[]) (xs:=[]) .nil kk hb ry).keeps fun c ys ec=>?_,q',es,ep,hq,h2,h3,h4,h5⟩
 rw[ag (aG ec e #[67])]
 exact ec
end L2
namespace PySem
variable{prog:qJ}{w:World}{A:Around}{E Q:Value→qM→Prop}{s:qM}{d:Qo}{n:Nat}
theorem Fw(d:Qo)(n:Nat)(hd:(d==WK)=false):
  MeetsIn prog w (Builtin.«dict.__len__» { pos:=[Yi d] }) fun _ R s=>(∃ o es ep,s.heap.get? d=some o/\o.data=Data.dict es ep/\es.size=n)/\R (.ok (.ret (Yt (n:Int) s.toks))) { s with toks:=s.toks+1 }:=
 MeetsIn.of_wp fun A R s ⟨⟨o,es,ep,h1,h2,h3⟩,h⟩=>by
  show wpAny #[7] A.in1 (do
   let n1 <- dictSize d
   let n2 <- GB d
   retInt ((n1:Int)+(n2:Int))) _ _ _
  refine WY (WY (Wd h1 h2 (YJ (WY (wpAny_pendingCount_other hd (YR ?_))))))
  rw[Nat.add_zero,h3]
  exact h
theorem Ru(hd:(d==WK)=false)(ty:s.TypeIs (.ref d) "dict")(hx:∃ o es ep,s.heap.get? d=some o/\o.data=Data.dict es ep/\es.size=n)(aq7:(n:Int)<2^63)(h:Q (Yt (n:Int) (s.toks+1)) { s with toks:=s.toks+1+1 }):
  wpAny #[7] A (call (Yx "len") [Yi d]) Q E s:=by
 refine XG kind_len plain_len entry_len (args_len1 (Yi d)) ?_
 show wpAny _ _ _ _ _ _
 refine WY (YJ (WY (Wa ty xU (qX xU ty F.entry_dict_len (F.args_dict_len_1 _) (Fw d n hd) ⟨hx,?_⟩))))
 show wpAny _ _ _ _ _ _
 refine WY (Wq (YJ (WY (Wv ?_))))
 show wpAny _ _ (if _ then _ else _) _ _ _
 rw[if_neg #[0]]
 show wpAny _ _ (if _ then _ else _) _ _ _
 rw[if_neg #[0]]
 exact WY (wpAny_mkInt (YJ ⟨_,rfl,h⟩))
end PySem
namespace L2
open PySem PySem.Spec PyProof.Rows
variable{X:Cx}
inductive Lj (xs:List V) (H:Hp) (Q:VK):Prop
 | mk (a:_) (kvs:_) (_:xs=[.ref a]) (_:H a=some #[204]) (_:Q (.int kvs.length) H)
theorem FP:iz X #[232] (Lj):=by
 exists 8
 obtain⟨a,kvs,rfl,ha,q⟩:=h
 exists 13
 cases rx
 obtain⟨hz,lo,xs,kt,o,es,ep,h1,h2,h3,h4,h5⟩:=(show bF X.prog X.w H s.heap a #[204]from I.hok a _ ha)
 have hlen:kvs.length=xs.length:=Paired.length kt
 have sz:es.size=xs.length:=by
  have:=congrArg zG h4
  rw[jW]at this
  simpa using this
 have dd:=(W8 I.hok ha).2.2
 obtain⟨xs',_,dd⟩:=dd
 exact Ru lo dd.typeIs ⟨o,es,ep,h1,h3,by rw[sz,<- hlen]⟩ (by rw[WG]at hz;omega) ⟨.int kvs.length,H,I.tok _,⟨_,rfl⟩,q⟩
end L2
namespace PySem
variable{prog:qJ}{w:World}{A:Around}{E:Value→qM→Prop}{s:qM}{n m:Nat}{a:Qo}{o:Obj}{items:Array Value}{i:Int}
section
theorem Hm{Q:Bool->qM->Prop}(hT:s.TypeIs #[203] "tuple")(ho:s.heap.get? a=some o)(hd:o.data=.seq items m)(hq:∀ y∈items.toList,∀ Q:Bool->qM->Prop,Q true s->wpAny #[7] A (eqIsQuiet n y) Q E s)(h:Q true s):wpAny #[7] A (eqIsQuiet (n+1) #[203]) Q E s:=by
 rw[eqIsQuiet.eq_def]
 refine WY (YX hT F.slot_tuple_eq.lookup ?_)
 refine WY (Wr hT isSubtype_tuple_tuple ?_)
 simp only[Zq,JE,if_false]
 refine WY (YT ho hd ?_)
 refine WY ?_
 show wpAny _ _ (forIn items _ _) _ _ _
 rw[<- QA]
 refine wpAny_forIn_list _ (fun rest r s'=>r.fst=none/\s'=s/\∀ y∈rest,y∈items.toList) _ ?_ ?_ _ _ ⟨rfl,rfl,fun y hy=>hy⟩
 ·rintro v rest ⟨r1,r2⟩ s' ⟨hr,rfl,LK⟩
  refine WY (hq v (LK v jE) _ ?_)
  simp only[Zq,JE,if_false]
  exact YJ ⟨rfl,rfl,fun y hy=>LK y (jJ _ hy)⟩
 ·rintro⟨r1,r2⟩ s' ⟨hr,rfl,_⟩
  cases(show r1=none from hr)
  exact YJ h
theorem PY{Q:Int->qM->Prop}(h:Q (reduceHash i) s):wpAny #[7] A (pyHashByItsType.reduced i) Q E s:=by
 unfold pyHashByItsType.reduced
 unfold reduceHash at h
 by_cases c:(decide (-2^63<=i)&&decide (i<2^63))=true
 ·rw[if_pos c]
  rw[if_pos c]at h
  exact YJ h
 ·rw[if_neg c]
  rw[if_neg c]at h
  exact WY (YS (YJ h))
theorem SR{u v:Value}{hu hv:Int}{du dv:Nat}{Q:Int->qM->Prop}(hr:A.units<cLine)(hT:s.TypeIs #[203] "tuple")(ho:s.heap.get? a=some o)(hd:o.data=.seq #[u,v] m)(h1:∀ (E:Value->qM->Prop) (t:Nat) (Q:Int->qM->Prop),Q hu { s with toks:=t+du }->wpAny #[7] A.in1 (pyHash u) Q E { s with toks:=t })(h2:∀ (E:Value->qM->Prop) (t:Nat) (Q:Int->qM->Prop),Q hv { s with toks:=t+dv }->wpAny #[7] A.in1 (pyHash v) Q E { s with toks:=t })(h:Q (reduceHash (ya [hu,hv])) { s with toks:=s.toks+(du+dv+1) }):wpAny #[7] A (pyHash #[203]) Q E s:=by
 show wpAny _ _ (pyHashByItsType #[203]) _ _ _
 unfold pyHashByItsType
 refine WY (wpAny_cRoomFor_or (.inr hr) (WY (YX hT F.slot_tuple_hash.lookup ?_)))
 rw[if_neg (by rw[beq_builtin_none "tuple.__hash__"];exact jo)]
 refine WY (YX hT F.slot_tuple_hash.lookup ?_)
 refine WY (wpAny_callSpecialIfBoundUnlessNone?_slot hT xG (Wb xG hT F.entry_tuple_hash ?_ (F.args_tuple_hash_1 _)))
 show wpAny #[7] A.in1 (do
  let xs <- xj #[203]
  let hs <- forIn xs #[] fun x hs=>do
   let i <- pyHash x
   pure (ForInStep.yield (hs.push i))
  retInt (ya hs.toList)) _ _ _
 refine WY (wpAny_tupleItemsOf ho hd (WY ?_))
 rw[<- QA]
 simp only[Zd,QV]
 refine WY (WY (h1 _ s.toks _ (YJ ?_)))
 refine WY (WY (h2 _ _ _ #[306]))
 refine YR ?_
 have e:s.toks+du+dv+1=s.toks+(du+dv+1):=by omega
 show wpAny _ _ (pyHashByItsType.reduced _) _ _ { s with toks:=s.toks+du+dv+1 }
 rw[e]
 exact PY h
end
end PySem
namespace L2
open PySem PySem.Spec PyProof.Rows
variable{P:qJ}{w:World}{h:Heap}{c a d b C:Qo}{aX:List Value}{ns:List Int}{xs ys:Array Value}{o:Obj}{es:Array Qu}{ep n i:Nat}{A:Around}{E:Value→qM→Prop}{s:qM}{y:Value}{H H':Hp}{X:Cx}{pins:List (Qo×Obj)}{σ:St}{pos pos':Pos}{x:qN}{ps:List qN}{iJ:List V}{sp:Sp}{e:Expr}{st b₀:Stmt}{body abx:List Stmt}{ts:TS}
theorem LZ:∀ {ns:List Int} {aX:List Value},qB aX ns->PySem.ItemsAre (qv P w) ns aX
 | _,_,.nil=>.nil
 | _,_,.cons n t r=>.cons (qw P w n t) (LZ r)
def tX(h:Heap)(k:Int×List Int)(a:Qo):Prop := ∃ (t:Tok) (c:Qo) (aX:List Value),h.IsTuple a #[.int k.1 t,.ref c]/\h.IsTuple c aX.toArray/\qB aX k.2
theorem tX.tk(p:h.IsTuple c aX.toArray)(q:qB aX ns):qE (qv P w) h ns c:=by
 obtain⟨o,h1,h2,n,h3⟩:=p
 exact⟨o,aX.toArray,n,h1,h2,h3,by simpa using LZ q⟩
theorem Af(p:h.IsTuple a xs)(q:h.IsTuple a ys):xs=ys:=by
 obtain⟨o,h1,_,n,h3⟩:=p
 obtain⟨o',CB,_,n',h3'⟩:=q
 rw[h1]at CB
 cases CB
 rw[h3]at h3'
 cases h3'
 rfl
theorem CS{h':Heap}(p:h.IsTuple a xs)(ho:h.get? d=some o)(hd:o.data=Data.dict es ep)(hs:Yv d h h'):h'.IsTuple a xs:=by
 obtain⟨o',h1,h2,n,h3⟩:=p
 have ne:a≠d:=fun z=>by
  subst z
  rw[h1]at ho
  cases ho
  rw[h3]at hd
  cases hd
 exact⟨o',(hs.2 a ne).trans h1,h2,n,h3⟩
theorem Eb:∀ {aX:List Value} {ns ms:List Int},qB aX ns->qB aX ms->ns=ms
 | _,_,_,.nil,.nil=>rfl
 | _,_,_,.cons n t r,.cons _ _ r'=>by rw[Eb r r']
theorem aai(h:qB aX ns):∀ y∈aX,carriedByValue y=true:=by
 induction h with
 | nil=>intro y hy;cases hy
 | cons n t r ih =>
  intro y hy
  rcases jU.mp hy with rfl|z
  ·rfl
  ·exact ih y z
theorem Hn(hy:carriedByValue y=true)(Q:Bool->qM->Prop)(h:Q true s):wpAny #[42] A (eqIsQuiet n y) Q E s:=by
 rw[eqIsQuiet_byValue n hy]
 exact YJ h
theorem ac1{x y:Int×List Int}(hr:A.units+1<cLine)(hx:tX s.heap x a)(hy:tX s.heap y b):XH A s #[203] (.ref b) (decide (x=y)):=by
 obtain⟨t,c,aX,p1,p2,p3⟩:=hx
 obtain⟨t',c',its',q1,q2,q3⟩:=hy
 by_cases e:a=b
 ·subst e
  have z:=Af p1 q1
  have z1:x.1=y.1/\c=c' := by
   have:=congrArg zj z
   simp only[List.cons.injEq,xV,xW,and_true]at this
   exact⟨this.1.1,this.2⟩
  obtain⟨z1,rfl⟩:=z1
  have z2:=Af p2 q2
  have z3:aX=its' := by simpa using congrArg zj z2
  subst z3
  rw[decide_eq_true (Prod.ext z1 (Eb p3 q3))]
  exact xT _
 ·have tup:XH A.in1 s (.ref c) (.ref c') (decide (x.2=y.2)):=fun prog w E Q h=>wpAny_eqBool_tuple (knd:=qv prog w) (by show A.units+1<cLine;exact hr) (tX.tk p2 p3) (tX.tk q2 q3) h
  have z:=xF (A:=A) (e:=fun j=>if j=0 then x.1==y.1 else decide (x.2=y.2)) p1 q1 #[0] fun j h1 h2=>by
   have:j<2:=h1
   match j,this with
   | 0,_=>exact Xw _ _ _ _
   | 1,_=>exact tup
  have e2:((jZ (min (#[Yt x.1 t,Yi c]).size (#[Yt y.1 t',Yi c']).size)).all (fun j=>if j=0 then x.1==y.1 else decide (x.2=y.2))&&(#[Yt x.1 t,Yi c]).size==(#[Yt y.1 t',Yi c']).size)=decide (x=y):=by
   show(((x.1==y.1)&&(decide (x.2=y.2)&&true))&&true)=decide (x=y)
   rw[QY,QY]
   by_cases c1:x.1=y.1
   ·by_cases c2:x.2=y.2
    ·rw[decide_eq_true c2,decide_eq_true (Prod.ext c1 c2),c1,beq_self_eq_true];rfl
    ·rw[decide_eq_false c2,Zk,decide_eq_false (show ¬ x=y from fun z=>c2 (by rw[z]))]
   ·rw[beq_false_of_ne c1,Zj,decide_eq_false (show ¬ x=y from fun z=>c1 (by rw[z]))]
  rw[e2]at z
  exact Xx e z
def Mh(P:qJ)(w:World):HeapKind P w (Int×List Int) where
 is:=tX
 hash:=fun k=>reduceHash (ya [(qv P w).hash k.1,tupleKeyHash (qv P w) k.2])
 draws:=fun k=>1+(k.2.length+1)+1
 room:=fun A=>A.units+1<cLine
 inj:=fun {h a x y} hx hy=>by
  obtain⟨t,c,aX,p1,p2,p3⟩:=hx
  obtain⟨t',c',its',q1,q2,q3⟩:=hy
  have z:=Af p1 q1
  have z1:x.1=y.1/\c=c' := by
   have:=congrArg zj z
   simp only[List.cons.injEq,xV,xW,and_true]at this
   exact⟨this.1.1,this.2⟩
  obtain⟨z1,rfl⟩:=z1
  have z2:=Af p2 q2
  have z3:aX=its' := by simpa using congrArg zj z2
  subst z3
  exact Prod.ext z1 (Eb p3 q3)
 keeps:=fun {h h' k a d o es ep} x ho hd hs=>by
  obtain⟨t,c,aX,p1,p2,p3⟩:=x
  exact⟨t,c,aX,CS p1 ho hd hs,CS p2 ho hd hs,p3⟩
 pyHash:=fun {A E s k a Q} hr hk h=>by
  obtain⟨t,c,aX,p1,p2,p3⟩:=hk
  have hT:s.TypeIs #[203] "tuple" := by obtain⟨o,h1,h2,_⟩:=p1;exact⟨o,h1,h2⟩
  obtain⟨o,h1,h2,m,h3⟩:=p1
  refine SR (du:=1) (dv:=k.2.length+1) #[0] hT h1 h3 (fun E t' Q hq=>(qv P w).pyHash (qw P w k.1 t) hq) (fun E t' Q hq=>wpAny_pyHash_tuple (knd:=qv P w) (s:={ s with toks:=t' }) (by show A.units+1<cLine;exact hr) (tX.tk p2 p3) hq) h
 eqBool:=fun {A E s x y a b Q} hr hx hy h=>ac1 hr hx hy P w E Q h
 quiet:=fun {A E s k a Q} hk h=>by
  obtain⟨t,c,aX,p1,p2,p3⟩:=hk
  obtain⟨o,h1,h2,m,h3⟩:=p1
  obtain⟨o',g1,g2,m',g3⟩:=p2
  refine Hm (n:=7) ⟨o,h1,h2⟩ h1 h3 (fun y hy Q hq=>?_) h
  have hy':y=.int k.1 t\/y=.ref c:=by simpa using hy
  rcases hy' with rfl|rfl
  ·exact Hn rfl Q hq
  ·exact Hm (n:=6) ⟨o',g1,g2⟩ g1 g3 (fun y hy Q hq=>Hn (aai p3 y (by simpa using hy)) Q hq) hq
abbrev NK:=Int×List Int
def NumV:Nat->List (NK×Qo)->List (NK×Qo×Value)->Prop
 | _,[],xs=>xs=[]
 | n,p :: ks,xs=>∃ t xs',xs=(p.1,p.2,.int n t) :: xs'/\NumV (n+1) ks xs'
theorem NumV.snoc{k:NK}{b:Qo}{t:Tok}:∀ {ks:List (NK×Qo)} {n:Nat} {xs:List (NK×Qo×Value)},NumV n ks xs->NumV n (ks++[(k,b)]) (xs++[(k,b,.int ((n+ks.length:Nat):Int) t)])
 | [],n,xs,h=>by
  cases(show xs=[]from h)
  exact⟨t,[],rfl,rfl⟩
 | p :: ks,n,xs,h=>by
  exists 89
  exists t',_,rfl
  have:=NumV.snoc (k:=k) (b:=b) (t:=t) h'
  rw[show n+1+ks.length=n+(p :: ks).length by rw[jc];omega]at this
  exact this
theorem NumV.keys:∀ {ks:List (NK×Qo)} {n:Nat} {xs:List (NK×Qo×Value)},NumV n ks xs->xs.map (fun x=>(x.1,x.2.1))=ks
 | [],n,xs,h=>by cases(show xs=[]from h);rfl
 | p :: ks,n,xs,h=>by
  exists 89
  rw[JN,NumV.keys h']
theorem NumV.none{k:NK}:∀ {ks:List (NK×Qo)} {n:Nat} {xs:List (NK×Qo×Value)},NumV n ks xs->k∉ks.map (·.1)->atKey xs k=none
 | [],n,xs,h,_=>by cases(show xs=[]from h);rfl
 | p :: ks,n,xs,h,hk=>by
  exists 89
  have ih:=NumV.none h' (k:=k) fun z=>hk (jJ _ z)
  unfold atKey at ih ⊢
  rw[Ze (by simpa using fun z=>hk (by rw[<- z];exact jE))]
  exact ih
theorem NumV.there{k:NK}:∀ {ks:List (NK×Qo)} {n j:Nat} {xs:List (NK×Qo×Value)},NumV n ks xs->#[182].Nodup->#[182][j]?=some k->∃ b t,atKey xs k=some (b,.int ((n+j:Nat):Int) t)
 | [],n,j,xs,h,_,hk=>by cases hk
 | p :: ks,n,0,xs,h,nd,hk=>by
  exists 89
  cases(show some p.1=some k from hk)
  exists p.2,t'
  unfold atKey
  rw[List.find?_cons_of_pos #[10]]
  rfl
 | p :: ks,n,j+1,xs,h,nd,hk=>by
  exists 89
  have Ik:=jy.mp nd
  have Dm:#[182][j]?=some k:=hk
  obtain⟨b,t,e⟩:=NumV.there h' Ik.2 Dm
  exists b,t
  unfold atKey at e ⊢
  rw[Ze (by simpa using fun z=>Ik.1 (by show p.1∈_;rw[z];exact zB Dm)),e]
  congr 3
  omega
def DA(P:qJ)(w:World)(d:Qo)(ks:List (NK×Qo))(h:Heap):Prop:=(d==WK)=false/\ks.length<=sizeLine/\#[182].Nodup/\∃ xs o es ep,NumV 0 ks xs/\h.get? d=some o/\o.ExactDict/\o.data=.dict es ep/\es.toList=xs.map (entryOfKey (Mh P w))
abbrev oH(P:qJ)(w:World)(d:Qo)(ks:List (NK×Qo)):HO:=.ext (DA P w d ks)
theorem DA.ok{ks:List (NK×Qo)}(x:DA P w d ks h):bF P w H h d (oH P w d ks):=
 ⟨x,let ⟨_,_,_,xs,o,es,ep,_,h1,_,_,_⟩:=x;⟨o,h1⟩,fun h1 h2 y k=>let ⟨a1,a2,a3,xs,o,es,ep,a4,a5,a6,a7,a8⟩:=y;⟨a1,a2,a3,xs,o,es,ep,a4,k o a5,a6,a7,a8⟩⟩
def oJ(H:Hp)(k:NK)(b:Qo):Prop := ∃ c,H b=some (.tup [.int k.1,.ref c])/\H c=some (.tup (k.2.map V.int))
def Bb(H:Hp)(ks:List (NK×Qo)):Prop := ∀ p∈ks,oJ H p.1 p.2
theorem oJ.same{k:NK}(h:oJ H k b)(s:∀ b xs,H b=some #[36]->H' b=some #[36]):oJ H' k b:=let ⟨c,e1,e2⟩:=h;⟨c,s _ _ e1,s _ _ e2⟩
theorem Bb.same{ks:List (NK×Qo)}(h:Bb H ks)(s:∀ b xs,H b=some #[36]->H' b=some #[36]):Bb H' ks:=fun p hp=>(h p hp).same s
theorem oJ.is{k:NK}(ok:lM P w H h)(x:oJ H k b):tX h k b:=by
 obtain⟨c,e1,e2⟩:=x
 obtain⟨_,aX,r,p⟩:=(show bF P w H h b (.tup [.int k.1,.ref c])from ok b _ e1)
 obtain⟨_,jts,r2,p2⟩:=(show bF P w H h c (.tup (k.2.map V.int))from ok c _ e2)
 obtain⟨t,e⟩:∃ t,aX=[.int k.1 t,.ref c]:=by
  cases r with
  | cons r1 r' =>
   cases r' with
   | cons r2 r3 =>
    cases r3
    obtain⟨t,rfl⟩:=r1
    cases r2
    exact⟨t,rfl⟩
 subst e
 exact⟨t,c,jts,p,p2,EU r2⟩
section
variable{ks:List (NK×Qo)}
theorem aay(I:Inv X pins σ H s)(e:H d=some (oH X.prog X.w d ks))(hk:Bb H ks):(d==WK)=false/\ks.length<=sizeLine/\#[182].Nodup/\∃ xs,NumV 0 ks xs/\s.heap.DictOfH (Mh X.prog X.w) d xs:=by
 obtain⟨⟨a1,a2,a3,xs,o,es,ep,a4,a5,a6,a7,a8⟩,_⟩:=(show bF X.prog X.w H s.heap d (oH X.prog X.w d ks)from I.hok d _ e)
 have ek:=a4.keys
 refine⟨a1,a2,a3,xs,a4,o,es,ep,a5,a6,a7,a8,fun x hx=>?_,?_⟩
 ·exact(hk (x.1,x.2.1) (by rw[<- ek];exact jN.mpr ⟨x,hx,rfl⟩)).is I.hok
 ·have:xs.map (fun x=>x.1)=ks.map (·.1):=by rw[<- ek,JO];rfl
  rw[this]
  exact a3
end
def agD(P:qJ)(w:World):TE:=fun _ H Q=>∀ p,H p=none->Q (.ref p) (upd H p (oH P w p []))
inductive TY (P:qJ) (w:World) (Q:VK) (y:V) (x:V) (H2:Hp):Prop
 | mk (d:_) (b:_) (k:_) (ks:_) (_:x=.ref d) (_:y=.ref b) (_:H2 d=some (oH P w d ks)) (_:Bb H2 ks) (_:oJ H2 k b) (_:Q (.bl (!decide (k∈ks.map (·.1)))) H2)
def adR(P:qJ)(w:World)(ty td:TE):TE:=fun σ H Q=>ty σ H fun y H1=>td σ H1 (TY P w Q y)
inductive adQ (P:qJ) (w:World) (Q:VK) (x:V) (y:V) (H2:Hp):Prop
 | mk (d:_) (b:_) (k:_) (ks:_) (j:_) (_:x=.ref d) (_:y=.ref b) (_:H2 d=some (oH P w d ks)) (_:Bb H2 ks) (_:oJ H2 k b) (_:#[182][j]?=some k) (_:Q (.int (j:Nat)) H2)
def ajS(P:qJ)(w:World)(td ty:TE):TE:=fun σ H Q=>td σ H fun x H1=>ty σ H1 (adQ P w Q x)
def ajA(P:qJ)(w:World)(td ty tv:TE):TS:=fun D σ H=>tv σ H fun v H1=>td σ H1 fun x H2=>ty σ H2 fun y H3=>∃ d b k ks,x=.ref d/\y=.ref b/\v=.int ks.length/\H3 d=some (oH P w d ks)/\Bb H3 ks/\oJ H3 k b/\k∉ks.map (·.1)/\ks.length<sizeLine/\D.nx σ (upd H3 d (oH P w d (ks++[(k,b)])))
section
variable{o i value:Expr}{td ty tv:TE}
theorem aaY:PE X (.Dict [] [] pos) (agD X.prog X.w):=fun pins s σ H Q I h =>
 WT ⟨.ref s.heap.objs.size,_,I.laid (a:=s.heap.objs.size) (o:=oH X.prog X.w s.heap.objs.size []) (t' := s.toks) #[252] (jF _) (DA.ok ⟨beq_eq_false_iff_ne.mpr (Ne.symm (jQ I.big)),jd _,JZ,[],_,#[],0,rfl,jK _ rfl,⟨rfl,rfl,rfl⟩,rfl,rfl⟩),rfl,h _ #[115]⟩
theorem Tz(hu:X.A.units+2<cLine)(hi:PE X i ty)(ho:PE X o td):PC X .NotIn i o (adR X.prog X.w ty td):=by
 exists 5
 refine bX (hi pins s σ H _ I h) fun iv s1 ⟨y,H1,I1,ry,q1⟩=>bX #[160] fun u s2 ⟨x,H2,I2,rx,d,b,k,ks,ex,ey,e,hk,hb,q2⟩=>?_
 subst ex ey
 obtain rfl:u=Yi d:=rx
 obtain rfl:iv=Yi b:=ry
 obtain⟨a1,a2,a3,xs,nv,dd⟩:=aay I2 e hk
 refine YF (knd:=Mh X.prog X.w) (show X.A.units+1+1<cLine by omega) (hb.is I2.hok) a1 dd ⟨.bl (!decide (k∈ks.map (·.1))),H2,I2.tok _,?_,q2⟩
 by_cases c:k∈ks.map (·.1)
 ·obtain⟨j,hj,ej⟩:=jm c
  obtain⟨b',t,e'⟩:=nv.there a3 (j:=j) (by rw[jC hj,ej])
  rw[e',decide_eq_true c]
  rfl
 ·rw[nv.none c,decide_eq_false c]
  rfl
theorem adp(hu:X.A.units+2<cLine)(ho:PE X o td)(hi:PE X i ty)(hs:aeS i):PE X (.Subscript o i pos) (ajS X.prog X.w td ty):=by
 exists 5
 refine R7 PySem.F.slot_dict_getitem.lookup hs (bX #[210] fun u s1 ⟨x,H1,I1,rx,q1⟩=>bX (hi pins s1 σ H1 _ I1 q1) fun iv s2 ⟨y,H2,I2,ry,d,b,k,ks,j,ex,ey,e,hk,hb,hj,q2⟩=>?_)
 subst ex ey
 obtain rfl:u=Yi d:=rx
 obtain rfl:iv=Yi b:=ry
 obtain⟨a1,a2,a3,xs,nv,dd⟩:=aay I2 e hk
 obtain⟨b',t,e'⟩:=nv.there a3 hj
 refine⟨dd.typeIs,Wm (knd:=Mh X.prog X.w) (show X.A.units+1+1<cLine by omega) (hb.is I2.hok) dd e' ⟨.int (j:Nat),H2,I2.tok _,?_,q2⟩⟩
 rw[Jd]
 exact⟨t,rfl⟩
theorem adv(hu:X.A.units+2<cLine)(ho:PE X o td)(hi:PE X i ty)(hv:PE X value tv)(hs:WJ value (some (.Subscript o i pos')) pos.line X.env=pure false):
  PS X (.Assign [.Subscript o i pos'] value pos) (ajA X.prog X.w td ty tv):=by
 exists 21
 refine WQ (bX #[275] fun r s1 ⟨v,H1,I1,rv,q1⟩=>bX #[160] fun u s2 ⟨x,H2,I2,rx,q2⟩=>bX (hi pins s2 σ H2 _ I2 q2) fun iv s3 ⟨y,H3,I3,ry,d,b,k,ks,ex,ey,ev,e,hk,hb,nk,hl,q3⟩=>?_) hs
 subst ex ey ev
 obtain rfl:u=Yi d:=rx
 obtain rfl:iv=Yi b:=ry
 obtain⟨t,rfl⟩:=(show ∃ t,r=Yt ks.length t from rv)
 obtain⟨a1,a2,a3,xs,nv,dd⟩:=aay I3 e hk
 have hz:xs.length<=sizeLine:=by
  have:=congrArg zG nv.keys
  rw[jW]at this
  omega
 refine YV (knd:=Mh X.prog X.w) (hsz:=hz) (show X.A.units+1+1<cLine by omega) (hb.is I3.hok) dd fun h' IW hsb=>⟨σ,_,?_,q3⟩
 have est:storedH xs k b (.int ks.length t)=xs++[(k,b,.int ks.length t)]:=by
  unfold storedH
  rw[nv.none nk]
  rfl
 rw[est]at IW
 obtain⟨o',es,ep,g1,g2,g3,g4,_,_⟩:=IW
 have nv' := nv.snoc (k:=k) (b:=b) (t:=t)
 rw[Jd]at nv'
 refine sG I3 #[98] hsb ⟨o',g1⟩ (DA.ok ⟨a1,by rw[jH];exact hl,?_,_,o',es,ep,nv',g1,g2,g3,g4⟩)
 rw[jD]
 exact JQ.mpr ⟨a3,jy.mpr ⟨by simp,JZ⟩,fun a ha c hc z=>nk (by have e1:c=k:=jG.mp hc;rw[<- e1,<- z];exact ha)⟩
inductive Lh (P0:qJ) (w0:World) (xs:List V) (H:Hp) (Q:VK):Prop
 | mk (d:_) (ks:_) (_:xs=[.ref d]) (_:H d=some (oH P0 w0 d ks)) (_:Q (.int ks.length) H)
theorem Sl:iz X #[232] (Lh X.prog X.w):=by
 exists 8
 obtain⟨d,ks,rfl,hd,q⟩:=h
 exists 13
 cases rx
 obtain⟨⟨a1,a2,a3,xs,o,es,ep,nv,h1,h2,h3,h4⟩,_⟩:=(show bF X.prog X.w H s.heap d (oH X.prog X.w d ks)from I.hok d _ hd)
 have sz:es.size=ks.length:=by
  have e1:=congrArg zG h4
  have e2:=congrArg zG nv.keys
  rw[jW]at e1 e2
  rw[<- e2,<- e1,jt]
 exact Ru a1 ⟨o,h1,h2.1⟩ ⟨o,es,ep,h1,h3,sz⟩ (by rw[WG]at a2;omega) ⟨.int ks.length,H,I.tok _,⟨_,rfl⟩,q⟩
inductive Li (P0:qJ) (w0:World) (xs:List V) (H:Hp) (Q:VK):Prop
 | mk (S:Qo) (ns:List Int) (_:xs=[.ref S]) (_:H S=some (Be P0 w0 S ns)) (_:Q (.int ns.length) H)
theorem wU:iz X #[232] (Li X.prog X.w):=by
 exists 8
 obtain⟨S,ns,rfl,hS,q⟩:=h
 exists 13
 cases rx
 obtain⟨⟨o,es,ep,t,h1,h2,h3,h4,h5,h6,h7,h8,h9⟩,_⟩:=(show bF X.prog X.w H s.heap S (Be X.prog X.w S ns)from I.hok S _ hS)
 have sz:es.size=ns.length:=by
  have:=h6.length_eq
  rw[jW,jt]at this
  exact this
 refine call_len_set h1 h2 h3 h8 ?_ ⟨.int ns.length,H,I.tok _,⟨s.toks+1,by rw[sz]⟩,q⟩
 have:es.size<2^63:=jh h7 #[13]
 omega
end
def Av(x C d:Qo)(h:Heap):Prop := ∃ (o:Obj) (vs:Array Value),h.get? x=some o/\o.cls=.ref C/\o.dict=some d/\o.data=.fields vs
theorem Av.at{x:Qo}(z:Av x C d h):abY x C h:=let ⟨o,vs,a,b,_,c⟩:=z;⟨o,vs,a,b,c⟩
theorem lM.ahT{ea:Qo}(x:lM P w H h)(z:H ea=QI)(p:Av ea C d h):lM P w (upd H ea (.ext (Av ea C d))) h:=by
 intro a u e
 by_cases q:a=ea
 ·subst q
  rw[ae]at e
  cases e
  obtain⟨ob,vs,e1,e2,e3,e4⟩:=p
  exists ⟨ob,vs,e1,e2,e3,e4⟩,⟨ob,e1⟩
  rintro h1 h2 ⟨ob',vs',f1,f2,f3,f4⟩ k
  exact⟨ob',vs',k _ f1,f2,f3,f4⟩
 ·rw[ag q]at e
  exact(x a u e).BQ (fun b v _ f=>f) (fun b f=>by rw[ag (ao f z)];exact f) fun b xs f=>by rw[ag (ao f z)];exact f
section
def aeM(X:Cx)(pins:List #[68])(σ:St)(E:XK)(e:Value)(s':qM):Prop := ∃ s H,Inv X pins σ H s/\P4 X.prog X.w X.stack H s E e s'
def aeV(X:Cx)(e:Expr)(t:TXE):Prop := ∀ (pins:List #[68]) (s:qM) (σ:St) (H:Hp) (Q:VK) (E:XK),Inv X pins σ H s->t σ H Q E->wpAny #[4] X.A #[278] #[77] (aeM X pins σ E) s
def aeU(X:Cx)(st:Stmt)(t:TX):Prop := ∀ (pins:List #[68]) (s:qM) (σ:St) (H:Hp) (D:Ends) (E:XK),Inv X pins σ H s->t D E σ H->wpAny #[4] X.A (exec st X.env) (SP X pins D) (aeM X pins σ E) s
def PX2(X:Cx)(st:List Stmt)(t:TX):Prop := ∀ (pins:List #[68]) (s:qM) (σ:St) (H:Hp) (D:Ends) (E:XK),Inv X pins σ H s->t D E σ H->wpAny #[4] X.A (execs st X.env) (SP X pins D) (aeM X pins σ E) s
end
section
variable{j k:Nat}{p:Pos}{es:List Expr}{t:TA}{E:XK}
theorem Hl(G:tQ X.prog X.w X.K X.mg X.base x k ps iJ sp)(hr:dM j X.A)(ha:PA X (e :: es) t)(hx:∀ e s,X.xe e s=False:=by intro _ _;rfl)(LQ:k<=j:=by decide)(hg:Gl X x:=by rfl)(Cf:#[18]=false:=by decide)(he:WH (e :: es) X.env=#[20] :: WH es X.env:=by rfl)(Al:#[29].any (·.1)=false:=by rfl):
  aeV X #[27] (agK sp iJ t):=by
 exists 46
 intro pins s σ H Q E I h
 exists 88
 refine yM (h₀:=X.base) I.ok.mod.kin hk (YB #[51] (fun us s1 ⟨vs,H1,I1,r,q⟩=>⟨I1.sJ,?_⟩) fun e' s' z=>((hx e' s').mp z).elim) he Al
 have r2:Vals (vs++iJ) (us++ds):=r.append hd
 have hl:(us++ds).length=ps.length:=by rw[<- r2.length];exact F.len _ _ _ _ q
 refine WZ (qg (F.run X.A X.stack s1 H1 ⟨us,[]⟩ (us++ds) (vs++iJ) Q E #[276] I1.X0 (hb s1 us I1.sJ hl) r2 q) fun r' s' hq=>?_)
 cases r' with
 | error e'=>exact⟨s1,H1,I1,hq⟩
 | ok fl =>
  cases fl with
  | ret u=>exact I1.after hq
  | next=>exact False.elim hq
  | brk=>exact False.elim hq
  | cont=>exact False.elim hq
theorem abd{t:TXE}(he:aeV X e t)(hs:WJ e none pos.line X.env=pure false:=by rfl):aeU X (.Expr e pos) (agO t):=by
 intro pins s σ H D E I h
 exact wpAny_Expr_any (bX (he pins s σ H _ E I h) fun v s1 ⟨y,H1,I1,r1,q1⟩=>⟨σ,H1,I1,q1⟩) I.quiet hs
theorem adx{t:TXE}(hN:X.N.Nodup)(hi:X.N[i]?=some x)(hx:Loc X.env.scope x)(he:aeV X e t)(hs:WJ e #[288] pos.line X.env=pure false:=by rfl)(hf:X.fn x=true\/X.env.scope.names.lookup x=some .local:=by first|exact .inl rfl|exact .inr rfl):aeU X #[187] (aj5 i t):=by
 intro pins s σ H D E I h
 refine WO (bX (he pins s σ H _ E I h) fun v s1 ⟨y,H1,I1,r1,q1⟩=>?_) hs
 exact wI I1 hN hi hx r1 (fun s2 I2=>⟨_,H1,I2,q1⟩) hf
theorem RI{t:TX}(h:aeU X st t):PX2 X [st] t:=by
 intro pins s σ H D E I q
 refine Wh (bX (h pins s σ H D E I q) fun f s' hs=>?_)
 cases f with
 | next=>exact Wi hs
 | brk=>exact hs
 | cont=>exact hs
 | ret u=>exact hs
end
section
variable{F:Qo}{n:qN}{np afG:Pos}{tb:TX}
def ajY(C:Qo)(i:Nat)(tb:TX)(ts:TS):TS:=fun D σ H=>tb D (fun c dd H1=>c=.ref C/\∃ d,dd=some d/\∀ ea,H1 ea=none ->
 ts { nx:=fun σ' H'=>D.nx (σ'.set i none) H',rt:=D.rt,bk:=fun σ' H'=>D.bk (σ'.set i none) H',ct:=fun σ' H'=>D.ct (σ'.set i none) H' } (σ.set i (some #[283])) (upd H1 ea (.ext (Av ea C d)))) σ H
theorem RH(hN:X.N.Nodup)(hi:X.N[i]?=some n)(hx:X.env.scope.names.lookup n=some .local)(hm:X.mg x=some (.ref F))(hq:yY X.K #[31] (.ref F)=some true)(hb:PX2 X body tb)(hs:∀ ea,HC (X.held ea) (b₀ :: abx) ts)(tL:X.stack=X.env :: X.outer:=by rfl)(Rj:X.env.frame=some X.env.locals:=by rfl)(hg:Gl X x:=by rfl)(Cf:#[18]=false:=by decide):
  PS X (.Try body [.ExceptHandler (some (.Name x np)) (some n) (b₀ :: abx) afG] [] [] pos) (ajY C i tb ts):=by
 exists 21
 refine wpAny_Try_except (YB (hb pins s σ H D _ I h) (fun f s1 q=>?_) fun e s1 q=>?_)
 ·cases f with
  | next=>exact Wi q
  | brk=>exact q
  | cont=>exact q
  | ret u=>exact q
 obtain⟨s0,H0,I0,ea,t,C',d,B,H',rfl,os,bare,un,hok,⟨f1,f2,f3,f4⟩,there,hn,hc,d',ed,k⟩:=q
 cases ed
 obtain rfl:C'=C:=xg hc
 have f3t:=f3
 rw[tL]at f3t
 have ean:s0.heap.get? ea=none:=by
  cases q:s0.heap.get? ea with
  | none=>rfl
  | some o =>
   by_cases hb:ea∈C6 X.stack
   ·exfalso
    obtain⟨oe,vs,_,_,_,he,_,_,hd,_⟩:=f4.ex
    have Z9:lM X.prog X.w H' s1.heap:=hok.kept fun b u q=>f1 b u q
    have J:Inv X pins σ H' s1:=I0.DR (ch:=[]) os un Z9 bare #[222]
    obtain⟨_,o',e',hnd⟩:=J.stack.mem hb
    rw[he]at e'
    cases e'
    exact hnd _ hd
   ·obtain⟨o',e'⟩:=there ea o q hb
    rw[f2]at e'
    cases e'
 have h0n:H0 ea=none:=I0.hok.none ean
 refine af0 (I0.ok.frames.trans (by rw[tL])) f3t Rj f4 f1 f2 fun h4 a4 b4 w4 sm4=>?_
 refine aap a4 b4 w4 fun h5 a5 b5 w5 sm5=>?_
 have sm:=sm4.trans sm5
 obtain⟨un5,amz⟩:=land I0 os bare un hok there f1 a5 sm
 have I5:Inv X pins σ H' { s1 with heap:=h5 }:=I0.DR (ch:=[]) os un5 amz bare #[222]
 refine wpAny_handleBy_cons (codeAny_handlers_test ?_) (by intro q;cases q)
 refine pI (X:=X.held ea) I5.held hg hm ?_ Cf
 have ty5:PySem.W.Looks #[4] h5 (typeOf #[283]) (.ref C'):=by
  obtain⟨ob,_,_,_,_,e1,e2,_⟩:=w5.ex
  exact e2 ▸ (Gm e1).andThen .now
 refine(PySem.W.exm_one (M:=model X.prog X.w) I5.sJ ty5 hq).here ?_
 refine codeAny_handlers_suite_as (aap a5 b5 w5 fun h6 a6 b6 w6 sm6=>?_)
 obtain⟨un6,amA⟩:=land I0 os bare un hok there f1 a6 (sm.trans sm6)
 have ex6:Av ea C' d h6:=by
  obtain⟨oe,vs,_,_,_,he,SU,hdi,hd,_⟩:=w6.ex
  exact⟨oe,vs,he,SU,hdi,hd⟩
 have I6:Inv X pins σ (upd H' ea (.ext (Av ea C' d))) { s1 with heap:=h6 }:=I0.DR (ch:=[]) os (un6.more ean h0n) (amA.ahT hn ex6) bare #[222]
 refine wI (X:=X.held ea) I6.held hN hi (.inl hx) (v:=.ref ea) rfl (fun s7 I7=>?_) (.inr hx)
 refine YB (hs ea pins s7 _ _ _ I7 (k ea hn)) (fun f s8 q8=>?_) fun _ _ z=>z.elim
 have fin:∀ {σ8:St} {H8:Hp} {Q:Unit->qM->Prop},Inv (X.held ea) pins σ8 H8 s8->(∀ s9,Inv X pins (σ8.set i none) H8 s9->Q () s9)->wpAny #[4] X.A (do bindName X.env n .none;unbindBehindTheSuite X.env n afG) Q X.xe s8:=
  fun {σ8 H8 Q} J g=>T5 (v:=.non) (J.agP I.ok) hN hi hx g
 cases f with
 | next=>obtain⟨σ8,H8,J,q⟩:=q8;exact fin J fun s9 J9=>⟨_,H8,J9,q⟩
 | brk=>obtain⟨σ8,H8,J,q⟩:=q8;exact fin J fun s9 J9=>⟨_,H8,J9,q⟩
 | cont=>obtain⟨σ8,H8,J,q⟩:=q8;exact fin J fun s9 J9=>⟨_,H8,J9,q⟩
 | ret u=>obtain⟨v,σ8,H8,J,r,q⟩:=q8;exact fin J fun s9 J9=>⟨v,_,H8,J9,r,q⟩
end
end L2
namespace L2
variable{prog P:qJ}{w:World}{A:Around}{E Q:Value→qM→Prop}{s:qM}{K:Yh}{x name:qN}{C d f:Qo}{vs:Array Value}{v dV:Value}{o:Obj}{mA mg:qN→Option Value}{base:Heap}{st:Stmt}{fd:Qz}{ps:List qN}{sp:Sp}{iJ:List V}{X:Cx}{e:Expr}{es:List Expr}{ta:TE}{j:Nat}
section
open PySem PySem.Spec PySem.W PySem.Builtin PySem.Builtin.ObjectAttr PyProof.Rows
variable{x:Qo}
theorem X7(c:Fh K C)(X:K.In s.heap)(hx:s.heap.get? x=some o)(hc:o.cls=.ref C)(hdi:o.dict=some d)(hdt:o.data=.fields vs)(hn:s.heap.Ns1 d mA)(na:findIn K #[31] name=some none)(hh:hasDictIn K C=true)(hv:mA name=some v)(hhv:handedIn v=true)(h:Q v { s with toks:=s.toks+1 }):wpAny #[7] A (getAttr #[180] name true) Q E s:=by
 obtain⟨od,hod,hl⟩:=Hd hn
 have J:InstAt s.heap x o C (some od):=⟨hx,hc,by unfold notCls;rw[hdt],by rw[hdi];exact hod⟩
 have hf:findObj K C (some od) name=some (.value v):=findObj_own hh na rfl (by rw[hl,hv])
 obtain⟨hp,g,dr,t,os⟩:=s
 have L0:=J.type (M:=model prog w)
 have L1:=looks_findIn (M:=model prog w) X c.ga
 have L2:=looks_findIn (M:=model prog w) X c.gt
 have LF:=looks_find (M:=model prog w) X J hf
 have LB:Looks #[7] hp (isInstance #[180] #[87]) true:=L0.andThen (qz (M:=model prog w) X c.be)
 unfold getAttr getAttrBy
 refine WY (wpAny_mkText (Wq (WY (L0.at (WY (L1.at ?_))))))
 have ne:(onTheHeap (Yi C)&&Yx "BaseException.__getattribute__" == Yx "object.__getattribute__")=false:=by
  have:(Yx "BaseException.__getattribute__" == Yx "object.__getattribute__")=false:=by decide +kernel
  rw[this];rfl
 dsimp only
 rw[ne]
 simp only[JE,if_false]
 unfold getAttrByItsOwn hookBefore
 rw[if_pos (show onTheHeap (Yi C)=true from rfl)]
 refine WY (L2.at ?_)
 refine WY (WX (Wq ?_))
 unfold callGetattribute
 rw[show(true&&onTheHeap (Yx "BaseException.__getattribute__"))=false from rfl]
 simp only[JE,if_false]
 unfold boundAndCalled
 rw[PySem.F.attrBase_ValueError.ga.bind #[180]]
 refine WY (YJ ?_)
 refine WZ (qZ PySem.F.attrBase_ValueError.ga.plain Xh ?_)
 refine FV LB ?_
 unfold Builtin.«object.__getattribute__»
 refine WY (YJ ?_)
 dsimp only
 refine WY ?_
 refine(show wpAny _ _ (pure _) _ _ _ from YJ ?_)
 refine WY (L0.at ?_)
 refine WY (LF.at ?_)
 dsimp only
 refine YJ ?_
 exact handed_on hhv h
end
open PySem PySem.Spec PyProof.Rows
section
theorem bL.ajk{qual:qN}{N:List qN}{k:Nat}(F:bL K x qual st dV f fd)(S:aE N ps (ar st))(len:∀ vs H Q E,sp vs H Q E->vs.length=ps.length)(Bv:∀ (cC:Value) (A:Around) (outer:List Qx) (s:qM) (H:Hp) (vs:List V) (Q:VK) (E:XK),dM k #[135]->sp vs H Q E ->
   ∃ t,HC (cu (P4 P w) P w K mg base N qual (ar st) f cC A outer s H E) (di st) t/\t { nx:=fun _ H'=>Q .non H',rt:=Q } #[218] H):bw P w K mg base (P4 P w) (k+1) f fd ps sp:=by
 exists 10
 exact ad6 lk HY S len fun A outer s H vs Q E hr ON=>Bv cC A outer s H vs Q E hr ON
theorem bw.calm{k:Nat}(F:bw P w K mg base (P4 P w) k f fd ps sp):bw P w K mg base eS k f fd ps (fun vs H Q _=>sp vs H Q fun _ _ _=>False):=
 ⟨fun vs H Q E h=>F.len vs H Q _ h,fun A outer s H args us vs Q E hr he hb hv hs=>qg (F.run A outer s H args us vs Q (fun _ _ _=>False) hr he hb hv hs) fun r s' q=>by
  cases r with
  | ok fl=>cases fl<;>exact q
  | error e =>
   obtain⟨_,_,_,_,_,_,_,_,_,_,_,_,_,_,z⟩:=q
   exact z⟩
theorem tQ.calm{k:Nat}(G:tQ P w K mg base x k ps iJ sp):bQ P w K mg base x k ps iJ (fun vs H Q _=>sp vs H Q fun _ _ _=>False):=by
 obtain⟨f,fd,ds,h1,h2,h3,h4,F⟩:=G.ex
 exact⟨f,fd,ds,h1,h2,h3,h4,F.calm⟩
end
section
variable{k:Nat}{y fl:qN}{p pos dN:Pos}{t:TA}{E:XK}
theorem TJ(G:aeO X.prog X.w X.K X.mg X.base x C f k ps sp)(hr:dM j X.A)(hc:X.calm=true)(ht:aeZ X E)(ha:PA X (e :: es) t)(LQ:k+1<=j:=by decide)(hex:X.ex=[]:=by rfl)(hg:Gl X x:=by rfl)(Cf:#[18]=false:=by decide)(he:WH (e :: es) X.env=#[20] :: WH es X.env:=by rfl)(Al:#[235].any (·.1)=false:=by rfl):
  PS X (.Raise (some (.Call (.Name x p) (e :: es) [] dN)) none pos) (R9 C sp [] E t):=by
 obtain⟨fd,hb,F⟩:=G.F
 exact TK G.M F #[276] hc G.m hb .nil ht ha hex hg Cf he Al
inductive adN (K:Yh) (fl:qN) (Q:VK) (v:V) (H1:Hp):Prop
 | mk (x C d f:Qo) (fs:List (qN×V)) (y:V) (_:v=.ref x) (_:H1 x=some (.ext (Av x C d))) (_:H1 d=some (.xd fs)) (_:Bl K C f) (_:Ym K #[31] fl=some none) (_:fs.lookup fl=some y) (_:Q y H1)
def ajN(K:Yh)(ta:TE)(fl:qN):TE:=fun σ H Q=>ta σ H (adN K fl Q)
theorem Ip(K:Yh)(he:PE X e ta)(hK:X.K=K:=by rfl)(hb:attributeBase e fl X.env #[278]=eval e X.env:=by rfl):PE X (.Attribute e fl pos) (ajN K ta fl):=by
 subst hK
 exists 5
 refine Q2 hb (bX #[80] fun u s1 ⟨v,H1,I1,rv,ea,C,d,f,fs,yv,ev,hx,hd,M,na,l,q⟩=>?_)
 subst ev
 obtain rfl:u=Yi ea:=rv
 obtain⟨⟨o,vs,z,zc,zd,zf⟩,_,_⟩:=(show bF X.prog X.w H1 s1.heap ea (.ext (Av ea C d))from I1.hok ea _ hx)
 obtain⟨mA,hn,hr⟩:=(show bF X.prog X.w H1 s1.heap d (.xd fs)from I1.hok d _ hd)
 obtain⟨w1,hw,rw1⟩:=pW.some_of (v:=yv) (o:=mA fl) (by rw[<- l];exact hr fl)
 exact X7 M.xc I1.sJ z zc zd zf hn na M.hd hw (F7 rw1) ⟨yv,H1,I1.tok _,rw1,q⟩
inductive anG (K:Yh) (xs:List V) (H:Hp) (Q:VK):Prop
 | mk (a C d:Qo) (c:V) (cv:Value) (b:Bool) (_:xs=[.ref a,c]) (_:H a=some (.ext (Av a C d))) (_:Fh K C) (_:ahN c=some cv) (_:Ys K #[31] cv=some b) (_:Q (.bl b) H)
theorem DS(K:Yh)(hK:X.K=K:=by rfl):iz X #[261] (anG K):=by
 subst hK
 exists 8
 obtain⟨a,C,d,c,cv,b,rfl,ha,cl,hc,e,q⟩:=h
 obtain⟨u,v,rfl,ru,rv⟩:=r.two
 cases(show u=Yi a from ru)
 cases V7 hc rv
 obtain⟨p,_⟩:=(show bF X.prog X.w H s.heap a (.ext (Av a C d))from I.hok a _ ha)
 exact Yu (aam cl) I.sJ p.at e #[67] fun tk=>⟨.bl b,H,I.tok tk,rfl,q⟩
end
end L2
set_option maxHeartbeats 8000000
namespace My
open PySem L2
variable{α:Type}{i N m n many wide j z c wd T k2:Nat}{K:Yh}{H H' H0:Hp}{a x b y h q lo M fg:Int}{P:qJ}{sc:Scope}{ix:List (Option Nat)}{X:Cx}{e:Expr}{te:TE}{pos:Pos}{D:Ends}{σ:St}{o:Obj}{cN ts ds oy:List Qo}{ra f B C go wt iw F0 f0 CT fa dC cW eU eF FE Ak:Qo}{w:World}{mg:qN→Option Value}{base:Heap}{fd:Qz}{dV doc cC tc:Value}{kvs:List (Key×V)}{sg grp SJ φ:Int→Int}{d:V}{spB spS spG sp:Sp}{st:Stmt}{od an td:Option Qo}{Hj tsl:Array (Option Value)}{loose:List qN}
abbrev LL:=List (List Int)
abbrev LI:=List Int
abbrev OV:=Option V
theorem fK{l:List α}{a:α}(h:l[i]?=some a):∃ h:i<l.length,l[i]=a:=js.mp h
theorem oz{l:List α}{a:α}(h:l[i]?=some a):a∈l:=zB h
theorem sU{a:α}{s t:List α}:a∈s++t↔a∈s\/a∈t:=Jm
theorem aO{β:Type}{f:α->β}{l:List α}:(l.map f).length=l.length:=jW f
theorem bV{a:Qo}{xs:List V}(h:H a=some #[36]):wO K H a xs:=wO.of h
theorem bS{a:Qo}{xs:List V}(h:H a=some #[236]):pk K H a xs:=pk.of h
def top(i:Nat):Stmt:=PySem.Challenge.pw_figuretell_k26_some_number.main.body.getD i (.Pass ⟨0,0,0,0⟩)
abbrev AW:Stmt:=top 5
abbrev mM:Stmt:=top 7
abbrev oo:Stmt:=top 8
abbrev dX:Stmt:=top 9
abbrev BN:Stmt:=top 11
abbrev dY:Stmt:=top 12
abbrev oj:Stmt:=top 13
abbrev dq:Stmt:=top 14
abbrev Cq:Stmt:=top 15
abbrev wC:Stmt:=top 20
abbrev lZ:Stmt:=top 21
abbrev Dv:Stmt:=top 22
abbrev Pq:Stmt:=top 24
abbrev rn:Stmt:=top 26
abbrev tj:Stmt:=top 27
abbrev oh:Stmt:=top 28
abbrev wz:Stmt:=top 29
abbrev fh:Stmt:=top 30
abbrev pN:Stmt:=top 31
abbrev tu:Stmt:=top 32
abbrev wB:Stmt:=top 33
abbrev lh:Stmt:=top 34
abbrev pP:Stmt:=top 35
abbrev og:Stmt:=top 36
abbrev lW:Stmt:=top 37
abbrev lA:Stmt:=top 38
abbrev mL:Stmt:=top 39
abbrev lY:Stmt:=top 40
abbrev rq:Stmt:=top 41
abbrev dW:Stmt:=top 42
abbrev wA:Stmt:=top 43
abbrev lC:Stmt:=top 44
abbrev pO:Stmt:=top 45
abbrev oZ:Stmt:=top 46
abbrev iZ:Stmt:=top 47
abbrev tf:Stmt:=top 48
abbrev abk:Stmt:=top 49
abbrev fQ:Stmt:=inClass (top 3) 0
abbrev cO:Stmt:=inClass (top 16) 0
abbrev lU:Stmt:=inClass (top 16) 1
abbrev dS:Stmt:=inClass (top 16) 2
abbrev lV:Stmt:=inClass (top 16) 3
abbrev dU:Stmt:=inClass (top 16) 4
abbrev iY:Stmt:=inClass (top 16) 5
abbrev fP:Stmt:=inClass (top 19) 0
abbrev lS:Stmt:=inClass (top 19) 1
abbrev hV:Stmt:=inClass (top 19) 2
abbrev hU:Stmt:=inClass (top 19) 3
theorem cV{N P:List qN}(h:(sc.kind=.function/\sc.isCoroutine=false/\sc.isGenerator=false)/\N.Nodup/\N.take P.length=P/\(∀ x∈P,sc.names.lookup x=some .local\/sc.names.lookup x=some .cell)/\∀ y∈sc.names,y.2≠.free):aE N P sc:=⟨h.1.1,h.1.2.1,h.1.2.2,h.2.1,h.2.2.1,h.2.2.2.1,h.2.2.2.2⟩
theorem mz{NX N:List qN}{scX:Scope}(h:sc.kind=.function/\N.Nodup/\(∀ y∈sc.names,y.2≠.cell)/\(∀ y∈sc.names,y.2=.local->sc.names.lookup y.1=some .local)/\(∀ y∈sc.names,y.2=.free->scX.names.lookup y.1=some .cell\/scX.names.lookup y.1=some .free)/\ix.length=N.length/\∀ p∈N.zip ix,∀ i∈p.2,NX[i]?=some p.1/\sc.names.lookup p.1=some .free):aU NX scX N ix sc:=⟨h.1,h.2.1,h.2.2.1,h.2.2.2.1,h.2.2.2.2.1,h.2.2.2.2.2.1,fun p m i e=>h.2.2.2.2.2.2 p m i e⟩
theorem aD{x:qN}{pos':Pos}(hN:X.N.Nodup)(he:PE X e te)(hi:X.N[i]?=some x:=by rfl)(hx:Loc X.env.scope x:=by first|exact .inl rfl|exact .inr rfl)(hs:WJ e #[288] pos.line X.env=pure false:=by rfl)(hf:X.fn x=true\/X.env.scope.names.lookup x=some .local:=by first|exact .inl rfl|exact .inr rfl|assumption):PS X #[187] (EO te (ba i)):=aa9 hN hi hx he hs hf
theorem aL{x:qN}(hN:X.N.Nodup)(hi:X.N[i]?=some x:=by rfl)(hx:Loc X.env.scope x:=by first|exact .inl rfl|exact .inr rfl)(hf:X.fn x=true\/X.env.scope.names.lookup x=some .local:=by first|exact .inl rfl|exact .inr rfl|assumption):PG X #[270] (ba i):=ads hN hi hx hf
theorem rP{c A B:Prop}[Decidable c](h1:c->A)(h2:¬ c->B):if decide c=true then A else B:=afS (fun h=>h1 (of_decide_eq_true h)) fun h=>h2 fun z=>h (decide_eq_true z)
theorem Aq{c A B:Prop}[Decidable c](h1:¬ c->A)(h2:c->B):if (!decide c)=true then A else B:=afS (fun h=>h1 fun z=>by rw[decide_eq_true z]at h;cases h) fun h=>h2 (Decidable.byContradiction fun z=>h (by rw[decide_eq_false z];rfl))
theorem LY{A B:Prop}(h1:a=b->A)(h2:a≠b->B):if decide (V.int a=V.int b)=true then A else B:=rP (fun h=>h1 (V.int.inj h)) fun h=>h2 fun z=>h (congrArg V.int z)
theorem aax{m n:Int}(a0:0<=a)(a1:a<=m)(b0:0<=b)(b1:b<=n):0<=a*b/\a*b<=m*n:=⟨zR a0 b0,QW a1 b1 b0 (Qf a0 a1)⟩
theorem fM(h:0<b):0<=a%b/\a%b<b:=⟨Jx a #[0],Jk a h⟩
theorem HR{t u:TS}(R:St->Hp->Prop)(h2:∀ σ' H',R σ' H'->u D σ' H')(h1:(∀ σ' H',R σ' H'->u D σ' H')->PJ t u D σ H):PJ t u D σ H:=h1 h2
theorem dh{t u:TS}(R:St->Hp->Prop)(h1:∀ σ' H',R σ' H'->u D σ' H')(h2:∀ D':Ends,(∀ σ' H',R σ' H'->D'.nx σ' H')->t D' σ H):PJ t u D σ H:=h2 { D with nx:=u D } h1
theorem au{p:Qo}{o:HO}(h:ay H H')(hp:H p=none):ay H (upd H' p o):=fun b u e=>by rw[ag (ao e hp)];exact h b u e
theorem cZ(h:0<=x):∃ n:Nat,x=(n:Int):=⟨x.toNat,by omega⟩
theorem getD_at{xs:List α}{d:α}(h:i<xs.length):xs.getD i d=xs[i]:=by simp[h]
theorem cF{ns:LI}{k:Int}(h0:0<=k)(h:k<(ns.length:Int)):Aj #[37] k=some (.int (ns.getD k.toNat 0)):=by
 have hk:k.toNat<ns.length:=by omega
 have ek:k=((k.toNat:Nat):Int):=by omega
 have q:Aj #[37] ((k.toNat:Nat):Int)=some (.int ns[k.toNat]):=pA (by rw[jO,jC hk]<;>rfl)
 rw[<- ek]at q
 rw[q,getD_at hk]
theorem rG{k:Int}(h0:0<=k)(h:cN[k.toNat]?=some ra):Aj #[44] k=some (.ref ra):=by
 have ek:k=((k.toNat:Nat):Int):=by omega
 have q:Aj #[44] ((k.toNat:Nat):Int)=some (.ref ra):=pA (by rw[jO,h]<;>rfl)
 rw[<- ek]at q
 exact q
theorem bp{ns:LI}{y:V}(h:#[37][i]?=some y):∃ z,y=V.int z/\ns[i]?=some z:=by
 rw[jO]at h
 cases e:ns[i]? with
 | none=>rw[e]at h;cases h
 | some z=>rw[e]at h;exact⟨z,(Option.some.inj h).symm,rfl⟩
theorem fZ(K:Yh):Ys K (.type "tuple") (.type "tuple")=some true:=by with_unfolding_all rfl
def stepI(rows:LL)(h f:Int):Int:=(rows.getD h.toNat []).getD f.toNat 0
def aR(rows:LL)(row:LI)(h:Int):Int:=row.foldl (stepI rows) h
structure aC(many wide:Nat)(rows:LL):Prop where
 len:rows.length=many
 row:∀ r∈rows,r.length=wide
 val:∀ r∈rows,∀ v∈r,0<=v/\v<(many:Int)
theorem cS{rows:LL}{f:Int}(R:aC many wide rows)(h0:0<=h)(h1:h<many)(f0:0<=f)(f1:f<wide):0<=stepI rows h f/\stepI rows h f<many:=by
 have l1:h.toNat<rows.length:=by rw[R.len];omega
 have l2:f.toNat<rows[h.toNat].length:=by rw[R.row _ (jM l1)];omega
 unfold stepI
 rw[getD_at l1,getD_at l2]
 exact R.val _ (jM l1) _ (jM l2)
theorem mG{rows:LL}(R:aC many wide rows):∀ {ns:LI} {h:Int},(∀ f∈ns,0<=f/\f<(wide:Int))->0<=h->h<many->0<=aR rows ns h/\aR rows ns h<many
 | [],h,_,h0,h1=>⟨h0,h1⟩
 | f :: r,h,hf,h0,h1=>by
  obtain⟨a,b⟩:=cS R h0 h1 (hf f jE).1 (hf f jE).2
  exact mG (ns:=r) R (fun g hg=>hf g (jJ _ hg)) a b
theorem eB(rows:LL)(xs ys:LI)(h:Int):aR rows (xs++ys) h=aR rows ys (aR rows xs h):=by
 unfold aR
 rw[JM]
def aH(H:Hp):List Qo->LL->Prop:=qH fun a r=>H a=some (.tup #[268])
theorem aH.length{rows:LL}(h:aH H cN rows):cN.length=rows.length:=Paired.length h
theorem aH.get:∀ {H:Hp} {cN:List Qo} {rows:LL} {i:Nat},aH H cN rows->(h:i<rows.length)->∃ ra,cN[i]?=some ra/\H ra=some (.tup (rows[i].map V.int))
 | _,_,_,_,.nil,h=>by simp at h
 | _,_,_,0,.cons (a:=a) r _,_=>⟨a,rfl,r⟩
 | _,_,_,i+1,.cons _ t,h=>by
  obtain⟨ra,h1,h2⟩:=aH.get (i:=i) t (by simpa using h)
  exact⟨ra,by simpa using h1,by simpa using h2⟩
theorem aH.same{rows:LL}(h:aH H cN rows)(s:∀ b xs,H b=some #[36]->H' b=some #[36]):aH H' cN rows:=Paired.Mc h fun _ _ q=>s _ _ q
theorem aH.snoc:∀ {H:Hp} {cN:List Qo} {rows:LL} {a:Qo} {r:LI},aH H cN rows->H a=some (.tup #[268])->aH H (cN++[a]) (rows++[r])
 | _,_,_,_,_,.nil,h=>.cons h .nil
 | _,_,_,_,_,.cons q t,h=>.cons q (aH.snoc t h)
structure bG(H:Hp)(m r g:Qo)(wide:Nat)(rows:LL)(signs:LI):Prop where
 tup:H m=some (.tup [.int wide,.ref r,.ref g])
 rows:∃ cN,H r=some (.tup #[44])/\aH H cN rows
 sgn:H g=some (.tup #[299])
theorem bG.same{m r g:Qo}{rows:LL}{signs:LI}(M:bG H m r g wide rows signs)(s:∀ b xs,H b=some #[36]->H' b=some #[36]):bG H' m r g wide rows signs:=by
 obtain⟨h1,⟨cN,h2,h3⟩,h4⟩:=M
 exact⟨s _ _ h1,⟨cN,s _ _ h2,h3.same s⟩,s _ _ h4⟩
theorem oY{rows:LL}{f:Int}(A:aH H cN rows)(R:aC many wide rows)(h0:0<=h)(h1:h<many)(f0:0<=f)(f1:f<wide):
  ∃ (ra:Qo) (r:LI),Aj #[44] h=some (.ref ra)/\H ra=some (.tup #[268])/\Aj #[268] f=some (.int (stepI rows h f)):=by
 have l1:h.toNat<rows.length:=by rw[R.len];omega
 have l2:rows[h.toNat].length=wide:=R.row _ (jM l1)
 obtain⟨ra,e1,e2⟩:=A.get l1
 exists ra,rows[h.toNat],rG h0 e1,e2
 rw[cF f0 (by rw[l2];exact f1)]
 unfold stepI
 rw[getD_at l1]
variable{xs u p ns r signs ks gs v ls col ins ws mem s dn signs' qs s1 s2 ps b0 tM Pw os:LI}{rows ms cols ax r1 r2 rs FT eP:LL}
def cy(rows:LL)(ρ:Int->Int)(qs:LI):LL:=qs.map fun q=>#[78].map ρ
def cB(signs qs:LI):LI:=qs.map fun q=>signs.getD q.toNat 0
def ahz(H:Hp)(D:Qo)(many:Nat)(rows:LL)(qs:LI)(ρ:Int->Int):Prop := ∃ kvs,H D=some #[74]/\∀ q∈qs,∀ t∈rows.getD q.toNat [],eR kvs (Sum.inl t)=some (.int (ρ t))
def ahA(H:Hp)(D:Qo)(many:Nat)(rows:LL)(qs:LI)(ρ:Int->Int):Prop := ∃ ns:LI,H D=some (.lst #[37])/\∀ q∈qs,∀ t∈rows.getD q.toNat [],(0<=t/\t<(ns.length:Int))/\ρ t=ns.getD t.toNat 0
inductive Dw (K:Yh) (Num:Hp->Qo->Nat->LL->LI->(Int->Int)->Prop) (vs:List V) (H:Hp) (Q:VK) (E:XK):Prop
 | mk (m kl D r g:Qo) (many wide:Nat) (rows:LL) (signs qs:LI) (ρ:Int->Int) (_:vs=[.ref m,.ref kl,.ref D]) (_:bG H m r g wide rows signs) (_:aC many wide rows) (_:signs.length=many) (_:(many<=1000/\wide<=1000)) (_:H kl=some (.lst (qs.map V.int))) (_:qs.length<=1000) (_:(∀ q∈qs,0<=q/\q<(many:Int))) (_:Num H D many rows qs ρ) (_:∀ (m' r' g':Qo) (H':Hp),ay H H'->bG H' m' r' g' wide (cy rows ρ qs) #[305]->Q (.ref m') H')
theorem aH.kept(A:aH H cN rows)(R:aC many wide rows)(h0:0<=q)(h1:q<(many:Int)):∃ ra,Aj #[44] q=some (.ref ra)/\H ra=some (.tup (#[78].map V.int))/\#[78].length=wide:=by
 have l:q.toNat<rows.length:=by rw[R.len];omega
 obtain⟨ra,e1,e2⟩:=A.get l
 refine⟨ra,?_,by rw[getD_at l];exact e2,by rw[getD_at l];exact R.row _ (jM l)⟩
 have q':Aj #[44] ((q.toNat:Nat):Int)=some (.ref ra):=pA (by rw[jO,e1];rfl)
 rw[jn h0]at q'
 exact q'
section
theorem cx:aE ["machine","kept","numbers","rows","signs","kept_rows","here"] ["machine","kept","numbers"] (ar dY):=cV #[3]
theorem fX:aU ["machine","kept","numbers","rows","signs","kept_rows","here"] (ar dY) ["there","numbers"] [none,some 2] ⟨.function,[#[48],("there",.local),("numbers",.free)],false,false,[]⟩:=mz #[3]
theorem fY:aU ["machine","kept","numbers","rows","signs","kept_rows","here"] (ar dY) ["here","signs"] [none,some 4] ⟨.function,[#[48],#[250],("signs",.free)],false,false,[]⟩:=mz #[3]
theorem Tu(F:bL K "with_rooms" "with_rooms" dY dV f fd)(aQ:mg "tuple" = none):bw P w K mg base eS 1 f fd ["machine","kept","numbers"] (Dw K ahz):=by
 refine F.ok cx #[6] #[1]
 ·obtain⟨m,kl,D,r,g,many,wide,rows,signs,qs,ρ,rfl,_⟩:=h
  rfl
 obtain⟨m,kl,D,r,g,many,wide,rows,signs,qs,ρ,rfl,M,R,lsg,⟨n1,w1⟩,hkl,lq,hqs,⟨kvs,hD,hv⟩,k⟩:=h
 exists 41
 exists 98
 refine⟨_,(ah (aD (i:=3) cx.nd #[5])
   (ah (aD (i:=4) cx.nd #[5])
   (ah (aD (i:=5) cx.nd (cX af))
   (ah (bq PassesOwn.never rfl (cI (pv 1)) (aL (i:=6) cx.nd) (ak (bJ (fc Yj Yk Yl bD (pv 5) (aa (aM aW #[38] aQ bW (aa (cT rfl fX (ik (aF aI (pv 3) (pv 6) #[12])) (fun _ _ _ _=>(aL (i:=0) fX.nd)) (fun _ _ _ _=>(Ry hu (pv 1) (pv 0) #[12]))) af)) af)))))
   (ak (aJ (cE (aa #[5] (aa #[151] (aa (aM aW #[38] aQ bW (aa (cT rfl fY (cI (pv 1)) (fun _ _ _ _=>(aL (i:=0) fY.nd)) (fun _ _ _ _=>(aF (Bz K) (pv 1) (pv 0) #[12]))) af)) af)))))))))),?_⟩
 exists 0
 exists _,rfl,m,_,_,_,rfl,rfl,bV hm,rfl
 exists _,rfl,m,_,_,_,rfl,rfl,bV hm,rfl
 exists 22
 exists 82
 exists 69
 refine dh (t:=rZ _ _ _) (fun σ' H'=>∃ (as:List Qo) (v:OV),σ'=[some #[73],some (.ref kl),some #[86],some (.ref r),some (.ref g),some #[285],v]/\ay H H'/\H' L=some #[231]/\aH H' as (cy rows ρ qs)) ?_ #[41]
 rotate_left
 ·exists _,rfl,kl,rfl,⟨_,bS (sL _ _ hkl)⟩
  refine dj (K:=K) (xs:=qs.map V.int) (fun i σ' H'=>∃ (as:List Qo) (v:OV),σ'=[some #[73],some (.ref kl),some #[86],some (.ref r),some (.ref g),some #[285],v]/\ay H H'/\H' L=some #[231]/\aH H' as (cy rows ρ #[243])) ⟨[],none,rfl,sL,ae,.nil⟩ (fun i σ' H' _ ⟨_,_,_,e,_,_⟩=>bS (e _ _ hkl)) ?_ ?_
  ·rintro i y σ' H3 hi ⟨as,v,rfl,s3,pZ,A3⟩
   exists 53
   have zm:=oz hz
   have li:=(fK hz).1
   obtain⟨z0,z1⟩:=hqs z zm
   obtain⟨ra,e1,e2,e3⟩:=hA.kept R z0 z1
   have la:as.length=i:=by rw[A3.length];unfold cy;rw[aO,jR];omega
   exists _,rfl,.inl ⟨rfl,_,bS pZ⟩,_,rfl,_,rfl,r,_,_,_,rfl,rfl,bV (s3 _ _ mH),e1,ra,rfl,⟨_,bV (s3 _ _ e2)⟩
   refine mx (K:=K) (xs:=#[113].map V.int) (fun D j ys H'=>ay H3 H'/\ys=((#[113].take j).map ρ).map V.int) #[21] (fun D j ys H' _ ⟨e,_⟩=>bV (e _ _ (s3 _ _ e2))) ?_ ?_
   ·exists 34
    obtain⟨t,rfl,ht⟩:=bp hj
    have tm:=oz ht
    have lj:=(fK ht).1
    have s34:=s3.trans s4
    have dg:eV H4 D (.int t) (some (.int (ρ t))):=by
     rw[<- hv z zm t tm]
     exact eV.k (k:=Sum.inl t) (s34 _ _ hD)
    refine⟨_,rfl,_,rfl,D,_,rfl,dg,k' _ _ hy #[57] ⟨au s4 hT,?_⟩⟩
    rw[jY,ht,jD,jD]
    rfl
   ·rintro T ys H4 hT hy ⟨s4,rfl⟩
    rw[aO,jV]at hy
    refine⟨T,_,rfl,.inl ⟨bS hy,fun t ht=>?_⟩⟩
    have HX:=s4 _ _ pZ
    have nL:L≠t:=ao HX ht
    exists 32
    have sT:∀ b xs,H3 b=some #[36]->(upd (upd H4 t (.tup ((#[113].map ρ).map V.int))) L (.lst (as.map V.ref++[V.ref t]))) b=some #[36]:=fun b xs e=>by
     have e4:=s4 _ _ e
     exists 60
     exact e4
    exists 14
    have ek:cy rows ρ (qs.take (i+1))=cy rows ρ #[243]++[#[113].map ρ]:=by
     unfold cy
     rw[jY,hz,jD]
     rfl
    rw[ek]
    exists 54
  ·rintro σ' H3 ⟨as,v,rfl,s3,pZ,A3⟩
   rw[aO,jV]at A3
   exact iK _ _ ⟨as,v,rfl,s3,pZ,A3⟩
 rintro σ' H1 ⟨as,v,rfl,s1,EY,A1⟩
 refine⟨_,rfl,m,_,_,_,rfl,rfl,bV (s1 _ _ hm),rfl,_,rfl,L,_,rfl,.inl ⟨bS EY,fun rt hrt=>?_⟩⟩
 have s2:=aj hrt (HO.tup #[62])
 have IA:=s1.trans s2
 exists _,rfl,kl,rfl,⟨_,bS (IA _ _ hkl)⟩
 refine iE (K:=K) (xs:=qs.map V.int) (fun D j ys H'=>ay (upd H1 rt (HO.tup #[62])) H'/\ys=(cB signs (qs.take j)).map V.int) #[21] (fun D j ys H' _ ⟨e,_⟩=>bS (e _ _ (IA _ _ hkl))) ?_ ?_
 ·exists 34
  exists 64
  have li:=(fK hz).1
  obtain⟨z0,z1⟩:=hqs z (oz hz)
  refine⟨_,rfl,_,rfl,g,_,_,_,rfl,rfl,bV ((IA.trans s4) _ _ hg),cF z0 #[0],k' _ _ hy (aw (by unfold cB;rw[aO,aO,jR];omega)) ⟨au s4 hT,?_⟩⟩
  unfold cB
  rw[jY,hz,jD,jD]
  rfl
 rintro G ys H4 hG hy ⟨s4,rfl⟩
 rw[aO,jV]at hy
 refine⟨G,_,rfl,.inl ⟨bS hy,fun gt hgt=>⟨#[117],fun mm hmm=>?_⟩⟩⟩
 have s5:=aj hgt (HO.tup (#[305].map V.int))
 have s6:=aj hmm #[128]
 have s56:=s5.trans s6
 exact k mm rt gt _ (IA.trans #[271]) ⟨ae,⟨as,#[271] _ _ ae,A1.same fun b zs e=>(s2.trans #[271]) _ _ e⟩,s6 _ _ ae⟩
theorem Tv(F:bL K "with_rooms" "with_rooms" dY dV f fd)(aQ:mg "tuple" = none):bw P w K mg base eS 1 f fd ["machine","kept","numbers"] (Dw K ahA):=by
 refine F.ok cx #[6] #[1]
 ·obtain⟨m,kl,D,r,g,many,wide,rows,signs,qs,ρ,rfl,_⟩:=h
  rfl
 obtain⟨m,kl,D,r,g,many,wide,rows,signs,qs,ρ,rfl,M,R,lsg,⟨n1,w1⟩,hkl,lq,hqs,⟨nl,hD,hv⟩,k⟩:=h
 exists 41
 exists 98
 refine⟨_,(ah (aD (i:=3) cx.nd #[5])
   (ah (aD (i:=4) cx.nd #[5])
   (ah (aD (i:=5) cx.nd (cX af))
   (ah (bq PassesOwn.never rfl (cI (pv 1)) (aL (i:=6) cx.nd) (ak (bJ (fc Yj Yk Yl bD (pv 5) (aa (aM aW #[38] aQ bW (aa (cT rfl fX (ik (aF aI (pv 3) (pv 6) #[12])) (fun _ _ _ _=>(aL (i:=0) fX.nd)) (fun _ _ _ _=>(aF (Bx K) (pv 1) (pv 0) #[12]))) af)) af)))))
   (ak (aJ (cE (aa #[5] (aa #[151] (aa (aM aW #[38] aQ bW (aa (cT rfl fY (cI (pv 1)) (fun _ _ _ _=>(aL (i:=0) fY.nd)) (fun _ _ _ _=>(aF (Bz K) (pv 1) (pv 0) #[12]))) af)) af)))))))))),?_⟩
 exists 0
 exists _,rfl,m,_,_,_,rfl,rfl,bV hm,rfl
 exists _,rfl,m,_,_,_,rfl,rfl,bV hm,rfl
 exists 22
 exists 82
 exists 69
 refine dh (t:=rZ _ _ _) (fun σ' H'=>∃ (as:List Qo) (v:OV),σ'=[some #[73],some (.ref kl),some #[86],some (.ref r),some (.ref g),some #[285],v]/\ay H H'/\H' L=some #[231]/\aH H' as (cy rows ρ qs)) ?_ #[41]
 rotate_left
 ·exists _,rfl,kl,rfl,⟨_,bS (sL _ _ hkl)⟩
  refine dj (K:=K) (xs:=qs.map V.int) (fun i σ' H'=>∃ (as:List Qo) (v:OV),σ'=[some #[73],some (.ref kl),some #[86],some (.ref r),some (.ref g),some #[285],v]/\ay H H'/\H' L=some #[231]/\aH H' as (cy rows ρ #[243])) ⟨[],none,rfl,sL,ae,.nil⟩ (fun i σ' H' _ ⟨_,_,_,e,_,_⟩=>bS (e _ _ hkl)) ?_ ?_
  ·rintro i y σ' H3 hi ⟨as,v,rfl,s3,pZ,A3⟩
   exists 53
   have zm:=oz hz
   have li:=(fK hz).1
   obtain⟨z0,z1⟩:=hqs z zm
   obtain⟨ra,e1,e2,e3⟩:=hA.kept R z0 z1
   have la:as.length=i:=by rw[A3.length];unfold cy;rw[aO,jR];omega
   exists _,rfl,.inl ⟨rfl,_,bS pZ⟩,_,rfl,_,rfl,r,_,_,_,rfl,rfl,bV (s3 _ _ mH),e1,ra,rfl,⟨_,bV (s3 _ _ e2)⟩
   refine mx (K:=K) (xs:=#[113].map V.int) (fun D j ys H'=>ay H3 H'/\ys=((#[113].take j).map ρ).map V.int) #[21] (fun D j ys H' _ ⟨e,_⟩=>bV (e _ _ (s3 _ _ e2))) ?_ ?_
   ·exists 34
    obtain⟨t,rfl,ht⟩:=bp hj
    have tm:=oz ht
    have lj:=(fK ht).1
    have s34:=s3.trans s4
    obtain⟨⟨t0,t1⟩,et⟩:=hv z zm t tm
    have at':Aj (nl.map V.int) t=some (.int (ρ t)):=by rw[et];exact cF t0 t1
    refine⟨_,rfl,_,rfl,D,_,_,_,rfl,rfl,bS (s34 _ _ hD),at',k' _ _ hy #[57] ⟨au s4 hT,?_⟩⟩
    rw[jY,ht,jD,jD]
    rfl
   ·rintro T ys H4 hT hy ⟨s4,rfl⟩
    rw[aO,jV]at hy
    refine⟨T,_,rfl,.inl ⟨bS hy,fun t ht=>?_⟩⟩
    have HX:=s4 _ _ pZ
    have nL:L≠t:=ao HX ht
    exists 32
    have sT:∀ b xs,H3 b=some #[36]->(upd (upd H4 t (.tup ((#[113].map ρ).map V.int))) L (.lst (as.map V.ref++[V.ref t]))) b=some #[36]:=fun b xs e=>by
     have e4:=s4 _ _ e
     exists 60
     exact e4
    exists 14
    have ek:cy rows ρ (qs.take (i+1))=cy rows ρ #[243]++[#[113].map ρ]:=by
     unfold cy
     rw[jY,hz,jD]
     rfl
    rw[ek]
    exists 54
  ·rintro σ' H3 ⟨as,v,rfl,s3,pZ,A3⟩
   rw[aO,jV]at A3
   exact iK _ _ ⟨as,v,rfl,s3,pZ,A3⟩
 rintro σ' H1 ⟨as,v,rfl,s1,EY,A1⟩
 refine⟨_,rfl,m,_,_,_,rfl,rfl,bV (s1 _ _ hm),rfl,_,rfl,L,_,rfl,.inl ⟨bS EY,fun rt hrt=>?_⟩⟩
 have s2:=aj hrt (HO.tup #[62])
 have IA:=s1.trans s2
 exists _,rfl,kl,rfl,⟨_,bS (IA _ _ hkl)⟩
 refine iE (K:=K) (xs:=qs.map V.int) (fun D j ys H'=>ay (upd H1 rt (HO.tup #[62])) H'/\ys=(cB signs (qs.take j)).map V.int) #[21] (fun D j ys H' _ ⟨e,_⟩=>bS (e _ _ (IA _ _ hkl))) ?_ ?_
 ·exists 34
  exists 64
  have li:=(fK hz).1
  obtain⟨z0,z1⟩:=hqs z (oz hz)
  refine⟨_,rfl,_,rfl,g,_,_,_,rfl,rfl,bV ((IA.trans s4) _ _ hg),cF z0 #[0],k' _ _ hy (aw (by unfold cB;rw[aO,aO,jR];omega)) ⟨au s4 hT,?_⟩⟩
  unfold cB
  rw[jY,hz,jD,jD]
  rfl
 rintro G ys H4 hG hy ⟨s4,rfl⟩
 rw[aO,jV]at hy
 refine⟨G,_,rfl,.inl ⟨bS hy,fun gt hgt=>⟨#[117],fun mm hmm=>?_⟩⟩⟩
 have s5:=aj hgt (HO.tup (#[305].map V.int))
 have s6:=aj hmm #[128]
 have s56:=s5.trans s6
 exact k mm rt gt _ (IA.trans #[271]) ⟨ae,⟨as,#[271] _ _ ae,A1.same fun b zs e=>(s2.trans #[271]) _ _ e⟩,s6 _ _ ae⟩
end
theorem Hc(p:α->Bool):∀ l:List α,l.length=(l.filter p).length+(l.filter fun x=>!p x).length
 | []=>rfl
 | x :: l=>by
  have ih:=Hc p l
  cases e:p x
  ·rw[JB (by rw[e];decide),JD (by rw[e];rfl),jc,jc]
   omega
  ·rw[JD e,JB (by rw[e];decide),jc,jc]
   omega
theorem bM:∀ (many:Nat) {ks:LI},ks.Nodup->(∀ q∈ks,0<=q/\q<(many:Int))->ks.length<=many
 | 0,ks,_,h=>by
  cases ks with
  | nil=>exact jF _
  | cons q r=>have:=h q jE;omega
 | many+1,ks,nd,h=>by
  have e:(ks.filter fun q=>decide #[265]).length<=many:=bM many (nd.filter _) fun q hq=>by
   have h1:=h q (ju.mp hq).1
   have h2:q≠(many:Int):=of_decide_eq_true (ju.mp hq).2
   omega
  have c:(ks.filter fun q=>!decide #[265]).length<=1:=by
   have nd2:=nd.filter fun q=>!decide #[265]
   have al:∀ q∈ks.filter (fun q=>!decide #[265]),q=(many:Int):=fun q hq=>by
    have:=(ju.mp hq).2
    simpa using this
   match hm:ks.filter (fun q=>!decide #[265]),nd2,al with
   | [],_,_=>exact jd _
   | [x],_,_=>exact jF _
   | x :: y :: r,nd2,al =>
    have h1:=al x jE
    have h2:=al y (jJ _ jE)
    rw[h1,h2]at nd2
    exact absurd jE (jy.mp nd2).1
  have t:=Hc (fun q=>decide #[265]) ks
  omega
def cH(ks:LI):List #[303]:=ks.map fun q=>(Sum.inl q,V.bl true)
theorem sS(ks:LI)(q:Int):(eR (cH ks) #[267]).isSome=decide (q∈ks):=by
 induction ks with
 | nil=>rfl
 | cons k r ih =>
  by_cases e:k=q
  ·subst e
   rw[show cH (k :: r)=#[176] :: cH r from rfl,mF rfl]
   simp
  ·rw[show cH (k :: r)=#[176] :: cH r from rfl,ft (fun z=>e (Sum.inl.inj z)),ih]
   simp[Ne.symm e]
theorem Ab(h:q∉ks):putK (cH ks) #[267] (V.bl true)=cH (ks++[q]):=by
 unfold putK
 rw[if_neg (by
  intro z
  obtain⟨p,hp,e⟩:=Ji.mp z
  obtain⟨k,hk,rfl⟩:=jN.mp hp
  have:=Sum.inl.inj (of_decide_eq_true e)
  exact h (this ▸ hk))]
 unfold cH
 rw[jD]
 rfl
def AK(es:List #[228]):List #[303]:=es.map fun e=>#[259]
theorem L5:∀ {es:List #[228]} {q:Int},q∉es.map Prod.fst->eR (AK es) #[267]=none
 | [],_,_=>rfl
 | e :: es,q,h=>by
  rw[show AK (e :: es)=#[259] :: AK es from rfl,ft (fun z=>h (by rw[<- Sum.inl.inj z];exact jE))]
  exact L5 fun z=>h (jJ _ z)
theorem AL:∀ {es:List #[228]} {q:Int} {a:Qo} {j:Nat},#[201].Nodup->es[j]?=some (q,a)->eR (AK es) #[267]=some (V.ref a)
 | [],_,_,_,_,h=>by cases h
 | e :: es,q,a,0,_,h=>by
  cases h
  exact mF rfl
 | e :: es,q,a,j+1,nd,h=>by
  have Ik:=jy.mp (show(e.1 :: es.map Prod.fst).Nodup from nd)
  have h':es[j]?=some (q,a):=h
  rw[show AK (e :: es)=#[259] :: AK es from rfl,ft (fun z=>Ik.1 (by
   have:e.1=q:=Sum.inl.inj z
   rw[this]
   exact jN.mpr ⟨(q,a),oz h',rfl⟩))]
  exact AL Ik.2 h'
theorem acU{es:List #[228]}{a:Qo}(h:q∉es.map Prod.fst):putK (AK es) #[267] (V.ref a)=AK (es++[(q,a)]):=by
 unfold putK
 rw[if_neg (by
  intro z
  obtain⟨p,hp,e⟩:=Ji.mp z
  obtain⟨k,hk,rfl⟩:=jN.mp hp
  have:=Sum.inl.inj (of_decide_eq_true e)
  exact h (this ▸ jN.mpr ⟨k,hk,rfl⟩))]
 unfold AK
 rw[jD]
 rfl
theorem snoc_cases{xs:List α}{y z:α}(h:(xs++[y])[j]?=some z):xs[j]?=some z\/(j=xs.length/\z=y):=by
 rcases JP j xs.length with q|q
 ·rw[JG q]at h
  exact .inl h
 ·rw[JK q]at h
  rcases JP (j-xs.length) 1 with p|p
  ·have e:j=xs.length:=by omega
   subst e
   rw[Jv]at h
   exact .inr ⟨rfl,(Option.some.inj h).symm⟩
  ·rw[Jj (by simpa using p)]at h
   cases h
theorem fH.same(h:fH H ts kvs)(s:∀ b xs,H b=some #[36]->H' b=some #[36]):fH H' ts kvs:=Paired.Mc h fun _ _ q=>s _ _ q
theorem Me:∀ {gs ks:LI},(ks++gs).Nodup->eZ (cH ks) (cH gs)=cH (ks++gs)
 | [],ks,_=>by rw[jx];rfl
 | g :: gs,ks,nd=>by
  have hg:g∉ks:=fun z=>(JQ.mp nd).2.2 g z g jE rfl
  show eZ (putK (cH ks) (Sum.inl g) (V.bl true)) (cH gs)=_
  rw[Ab hg,Me (by rw[JC];exact nd),JC]
  rfl
theorem Cj(nd:gs.Nodup):eZ [] (cH gs)=cH gs:=Me (ks:=[]) nd
structure bP(H0 H:Hp)(B:Qo)(es:List (Int×Qo))(P:Int->LI->Prop):Prop where
 at_:H B=some (.dK (AK es))
 nd:#[201].Nodup
 nd2:(es.map Prod.snd).Nodup
 fresh:∀ e∈es,H0 e.2=none
 lst:∀ e∈es,∃ ls:LI,H e.2=some (.lst #[274])/\P e.1 ls
 non:∀ q,q∉es.map Prod.fst->P q []
theorem bP.get{es:List #[228]}{P:Int->LI->Prop}(b:bP H0 H B es P){v:V}(h:eR (AK es) #[267]=some v):∃ la ls,v=.ref la/\(q,la)∈es/\H la=some (.lst #[274])/\P q ls:=by
 have hm:q∈es.map Prod.fst:=Classical.byContradiction fun z=>by rw[L5 z]at h;cases h
 obtain⟨e,he,rfl⟩:=jN.mp hm
 obtain⟨j,hj⟩:=JF.mp he
 have:=AL b.nd (q:=e.1) (a:=e.2) hj
 rw[this]at h
 obtain⟨ls,h1,h2⟩:=b.lst e he
 exact⟨e.2,ls,(Option.some.inj h).symm,he,h1,h2⟩
theorem acn{es:List #[228]}(nd:#[201].Nodup){e e':Int×Qo}(h:e∈es)(h':e'∈es)(q:e.1=e'.1):e=e' := by
 obtain⟨i,hi,ei⟩:=jm h
 obtain⟨j,hj,ej⟩:=jm h'
 have:#[201][i]'(by simpa using hi)=#[201][j]'(by simpa using hj):=by simp[ei,ej,q]
 have:=(JT nd).mp this
 subst this
 rw[<- ei,<- ej]
theorem adF{es:List #[228]}(nd:(es.map Prod.snd).Nodup){e e':Int×Qo}(h:e∈es)(h':e'∈es)(q:e.2=e'.2):e=e' := by
 obtain⟨i,hi,ei⟩:=jm h
 obtain⟨j,hj,ej⟩:=jm h'
 have:(es.map Prod.snd)[i]'(by simpa using hi)=(es.map Prod.snd)[j]'(by simpa using hj):=by simp[ei,ej,q]
 have:=(JT nd).mp this
 subst this
 rw[<- ei,<- ej]
theorem bP.old{la:Qo}{es:List #[228]}{P P':Int->LI->Prop}(b:bP H0 H B es P)(hm:(q,la)∈es)(hla:H la=some (.lst #[274]))(hp:P' q (ls++[h]))(ho:∀ p ls,p≠q->P p ls->P' p ls):
  bP H0 (upd H la (.lst (ls.map V.int++[.int h]))) B es P' where
 at_:=by rw[ag (aG b.at_ hla #[2])];exact b.at_
 nd:=b.nd
 nd2:=b.nd2
 fresh:=b.fresh
 lst:=fun e he=>by
  by_cases c:e.2=la
  ·have:=adF b.nd2 he hm c
   subst this
   exact⟨ls++[h],by rw[ae,jD];rfl,hp⟩
  ·obtain⟨ms,h1,h2⟩:=b.lst e he
   refine⟨ms,by rw[ag c];exact h1,ho _ _ (fun z=>c ?_) h2⟩
   have:=acn b.nd he hm z
   rw[this]
 non:=fun p BV=>ho p [] (fun z=>BV (by rw[z];exact jN.mpr ⟨_,hm,rfl⟩)) (b.non p BV)
theorem bP.new{L:Qo}{es:List #[228]}{P P':Int->LI->Prop}(b:bP H0 H B es P)(hq:q∉es.map Prod.fst)(hL:H L=some (.lst []))(fL:H0 L=none)(nL:∀ e∈es,e.2≠L)(hp:P' q [h])(ho:∀ p ls,p≠q->P p ls->P' p ls):
  bP H0 (upd (upd H B (.dK (putK (AK es) #[267] #[285]))) L (.lst [.int h])) B (es++[(q,L)]) P' where
 at_:=by rw[ag (aG b.at_ hL #[2]),ae,acU hq]
 nd:=by rw[jD];exact sV b.nd hq
 nd2:=by
  rw[jD]
  refine sV b.nd2 fun z=>?_
  obtain⟨e,he,e2⟩:=jN.mp z
  exact nL e he e2
 fresh:=fun e he=>by
  rcases sU.mp he with z|z
  ·exact b.fresh e z
  ·rw[jG.mp z];exact fL
 lst:=fun e he=>by
  rcases sU.mp he with z|z
  ·obtain⟨ms,h1,h2⟩:=b.lst e z
   refine⟨ms,by rw[ag (nL e z),ag (aG h1 b.at_ #[2])];exact h1,ho _ _ (fun y=>hq ?_) h2⟩
   rw[<- y]
   exact jN.mpr ⟨e,z,rfl⟩
  ·rw[jG.mp z]
   exact⟨[h],by rw[ae];rfl,hp⟩
 non:=fun p BV=>by
  rw[jD]at BV
  exact ho p [] (fun z=>BV (by rw[z];exact jP _ jE)) (b.non p fun z=>BV (jb _ z))
theorem bP.keep{es:List #[228]}{P:Int->LI->Prop}(b:bP H0 H B es P)(hB:H' B=H B)(hl:∀ e∈es,H' e.2=H e.2):bP H0 H' B es P where
 at_:=by rw[hB];exact b.at_
 nd:=b.nd
 nd2:=b.nd2
 fresh:=b.fresh
 lst:=fun e he=>by rw[hl e he];exact b.lst e he
 non:=b.non
theorem bP.same{es:List #[228]}{P:Int->LI->Prop}(b:bP H0 H B es P)(s:ay H H'):bP H0 H' B es P where
 at_:=s _ _ b.at_
 nd:=b.nd
 nd2:=b.nd2
 fresh:=b.fresh
 lst:=fun e he=>by
  obtain⟨ls,h1,h2⟩:=b.lst e he
  exact⟨ls,s _ _ h1,h2⟩
 non:=b.non
theorem bP.weak{es:List #[228]}{P P':Int->LI->Prop}(b:bP H0 H B es P)(h:∀ q ls,P q ls->P' q ls):bP H0 H B es P' :=
 ⟨b.at_,b.nd,b.nd2,b.fresh,fun e he=>by
  obtain⟨ls,h1,h2⟩:=b.lst e he
  exact⟨ls,h1,h _ _ h2⟩,fun q hq=>h _ _ (b.non q hq)⟩
theorem fq{t p:Int}(h:xs[j]?=some t):p∈xs.take (j+1)↔p∈xs.take j\/p=t:=by
 rw[jY,h,Jm]
 show _\/p∈[t]↔_
 rw[jG]
def Bp(rows:LL)(wide:Nat):LL:=(jZ wide).map fun f=>rows.map fun r=>r.getD f 0
inductive abm (K:Yh) (vs:List V) (H:Hp) (Q:VK) (E:XK):Prop
 | mk (m r g:Qo) (many wide:Nat) (rows:LL) (signs:LI) (_:vs=[.ref m]) (_:bG H m r g wide rows signs) (_:aC many wide rows) (_:(many<=1000/\wide<=1000)) (_:∀ (l:Qo) (cs:List Qo) (H':Hp),ay H H'->H' l=some (.lst (cs.map V.ref))->aH H' cs (Bp rows wide)->Q #[202] H')
def dA(col:LI)(q:Int):LI:=((jZ col.length).filter fun i=>decide (col.getD i 0=q)).map fun i:Nat=>(i:Int)
theorem MC(col:LI)(q:Int):(dA col q).length<=col.length:=by
 unfold dA
 rw[aO]
 exact jk (Jc _ _) #[10]
theorem Cp(col:LI)(t q:Int):dA (col++[t]) q=dA col q++(if t=q then [(col.length:Int)]else []):=by
 unfold dA
 rw[jH,jX,JI,JW,jD]
 congr 1
 ·congr 1
  refine ZX fun i hi=>?_
  have l:=je.mp hi
  rw[jI,jI,JG l]
 ·have e:(col++[t]).getD col.length 0=t:=by rw[jI,JK (jF _),Jv];rfl
  by_cases c:t=q
  ·rw[if_pos c,JD (by rw[e];exact decide_eq_true c)];rfl
  ·rw[if_neg c,JB (by rw[e,decide_eq_false c];decide)];rfl
theorem rV:x∈dA col q↔(0<=x/\x<(col.length:Int))/\col.getD x.toNat 0=q:=by
 unfold dA
 rw[jN]
 constructor
 ·rintro⟨i,hi,rfl⟩
  have h:=ju.mp hi
  have h1:=je.mp h.1
  exact⟨⟨by omega,by omega⟩,by rw[jB];exact of_decide_eq_true h.2⟩
 ·rintro⟨⟨h0,h1⟩,h2⟩
  exact⟨x.toNat,ju.mpr ⟨je.mpr #[0],decide_eq_true h2⟩,by omega⟩
inductive RS (K:Yh) (vs:List V) (H:Hp) (Q:VK) (E:XK):Prop
 | mk (c:Qo) (many:Nat) (col:LI) (_:vs=[.ref c]) (_:H c=some (.tup (col.map V.int))) (_:col.length<=1000) (_:many<=1000) (_:(∀ t∈col,0<=t/\t<(many:Int))) (_:∀ (B:Qo) (es:List #[228]) (H':Hp),ay H H'->H B=none->bP H H' B es #[196]->Q (.ref B) H')
section
theorem ma:aE ["machine","rows","columns","figure"] ["machine"] (ar oj):=cV #[3]
theorem tF:aU ["machine","rows","columns","figure"] (ar oj) ["row","figure"] [none,some 3] ⟨.function,[#[48],("row",.local),("figure",.free)],false,false,[]⟩:=mz #[3]
theorem tw:aE ["column","back","here","there"] ["column"] (ar Cq):=cV #[3]
theorem ac5(F:bL K "columns_of" "columns_of" oj dV f fd)(aB:mg "range" = none)(aQ:mg "tuple" = none):bw P w K mg base eS 1 f fd ["machine"] (abm K):=by
 refine F.ok ma #[6] #[1]
 ·exists 44
  rfl
 obtain⟨m,r,g,many,wide,rows,signs,rfl,M,R,⟨n1,w1⟩,k⟩:=h
 exists 41
 refine⟨_,(ah (aD (i:=1) ma.nd #[5])
   (ah (aD (i:=2) ma.nd (cX af))
   (ah (bq PassesOwn.never rfl (br rfl aB (aa #[5] af)) (aL (i:=3) ma.nd) (ak (bJ (fc Yj Yk Yl bD (pv 2) (aa (aM aW #[38] aQ bW (aa (cT rfl tF (ik (pv 1)) (fun _ _ _ _=>(aL (i:=0) tF.nd)) (fun _ _ _ _=>(aF (Bz K) (pv 0) (pv 1) #[12]))) af)) af)))))
   (ak (aJ (pv 2)))))),?_⟩
 exists 0
 exists _,rfl,m,_,_,_,rfl,rfl,bV hm,rfl
 exists 22
 exists 82
 refine⟨_,rfl,m,_,_,_,rfl,rfl,bV (sL _ _ hm),rfl,_,rfl,by omega,by omega,?_⟩
 refine cb (fun i σ' H'=>∃ (as:List Qo) (v:OV),σ'=[some #[73],some (.ref r),some #[285],v]/\ay H H'/\H' L=some #[231]/\aH H' as ((jZ i).map fun f=>rows.map fun r=>r.getD f 0)) ⟨[],none,rfl,sL,ae,.nil⟩ ?_ ?_
 ·rintro i σ' H3 hi ⟨as,v,rfl,s3,pZ,A3⟩
  rw[jB]at hi
  have la:as.length=i:=by rw[A3.length,aO,jq]
  exists 73
  exists _,rfl,.inl ⟨rfl,_,bS pZ⟩,_,rfl,r,rfl,⟨_,bV (s3 _ _ mH)⟩
  refine mx (K:=K) (xs:=cN.map V.ref) (fun D j ys H'=>ay H3 H'/\ys=((rows.take j).map fun r=>r.getD i 0).map V.int) #[21] (fun D j ys H' _ ⟨e,_⟩=>bV (e _ _ (s3 _ _ mH))) ?_ ?_
  ·exists 34
   have jl:j<rows.length:=by
    have:=(fK hj).1
    rw[aO,hA.length]at this
    exact this
   obtain⟨ra,e1,e2⟩:=hA.get jl
   have ey:y=.ref ra:=by rw[jO,e1]at hj;exact(Option.some.inj hj).symm
   subst ey
   have lr:=R.len
   have ai4:rows[j].length=wide:=R.row _ (jM jl)
   have at1:Aj (rows[j].map V.int) (0+(i:Int))=some (.int (rows[j].getD i 0)):=by
    rw[z0,cF #[0] #[0],jB]
   refine⟨_,rfl,_,rfl,ra,_,_,_,rfl,rfl,bV ((s3.trans s4) _ _ e2),at1,k' _ _ hy #[57] ⟨au s4 hT,?_⟩⟩
   rw[jY,jC jl,jD,jD]
   rfl
  ·rintro T ys H4 hT hy ⟨s4,rfl⟩
   rw[aO,hA.length,jV]at hy
   refine⟨T,_,rfl,.inl ⟨bS hy,fun t ht=>?_⟩⟩
   have HX:=s4 _ _ pZ
   have nL:L≠t:=ao HX ht
   exists 32
   have sT:∀ b xs,H3 b=some #[36]->(upd (upd H4 t (.tup ((rows.map fun r=>r.getD i 0).map V.int))) L (.lst (as.map V.ref++[V.ref t]))) b=some #[36]:=fun b xs e=>by
    have e4:=s4 _ _ e
    exists 60
    exact e4
   exists 14
   rw[JI,jD]
   exists 54
 ·rintro σ' H3 ⟨as,v,rfl,s3,pZ,A3⟩
  rw[jB]at A3
  exact⟨_,rfl,k L as _ s3 pZ A3⟩
theorem aaB(F:bL K "back_of" "back_of" Cq dV f fd)(bN:mg "enumerate" = none):bw P w K mg base eS 1 f fd ["column"] (RS K):=by
 refine F.ok tw #[6] #[1]
 ·obtain⟨c,many,col,rfl,_⟩:=h
  rfl
 obtain⟨c,many,col,rfl,hc,lc,n1,al8,k⟩:=h
 exists 98
 refine⟨_,(ah (aD (i:=1) tw.nd oW)
   (ah (bq PassesOwn.never rfl (Et rfl bN #[163]) (AO rfl (cR (aL (i:=2) tw.nd) (cR (aL (i:=3) tw.nd) pK))) (ak (bJ (fc Yj Yk Yl bD (Dr (pv 1) (pv 3) (cX af) ⟨rfl,rfl,rfl,rfl⟩) #[63]))))
   (ak (aJ (pv 1))))),?_⟩
 exists 0
 refine fun B hB=>?_
 have s0:=aj hB (HO.dK [])
 have b0:bP H (upd H B (.dK [])) B [] (fun q ls=>ls=dA (col.take 0) q):=⟨ae,List.Pairwise.nil,List.Pairwise.nil,#[142],#[142],fun q _=>rfl⟩
 refine⟨_,rfl,c,rfl,⟨_,bV (s0 _ _ hc)⟩,FY (K:=K) (xs:=col.map V.int) (fun i σ' H'=>∃ (es:List #[228]) (v1 v2:OV),σ'=[some (.ref c),some (.ref B),v1,v2]/\ay H H'/\(∀ e∈es,0<=e.1/\e.1<(many:Int))/\bP H H' B es (fun q ls=>ls=dA (col.take i) q))
  ⟨[],none,none,rfl,s0,#[142],b0⟩ (fun i σ' H' _ ⟨_,_,_,_,e,_,_⟩=>bV (e _ _ hc)) ?_ ?_⟩
 ·rintro i y σ' H1 T hi ⟨es,v1,v2,rfl,s1,kr,b1⟩ hT
  obtain⟨t,rfl,ht⟩:=bp hi
  have il:=(fK ht).1
  have stq:=al8 t (oz ht)
  have sT:=aj hT #[229]
  obtain⟨H2,EX⟩:∃ H2,upd H1 T #[229]=H2:=⟨_,rfl⟩
  have hT2:H2 T=some (.tup [V.int i,V.int t]):=by rw[<- EX];exact ae
  rw[EX]at sT ⊢
  have s2:=s1.trans sT
  have b2:=b1.same sT
  exists T,_,rfl,bV hT2,rfl,_,_,rfl,_,_,rfl,rfl
  refine⟨_,rfl,B,rfl,.inl ⟨_,.inl b2.at_⟩,_,rfl,#[24],fun L hL=>?_⟩
  exists 82
  have b3:=b2.same sL
  have nL:∀ e∈es,e.2≠L:=fun e he z=>by
   obtain⟨ls,h1,_⟩:=b2.lst e he
   rw[z,hL]at h1
   cases h1
  have nLB:B≠L:=ao b2.at_ hL
  have fL:H L=none:=s2.free hL
  have Fm:=bM many b3.nd (fun q hq=>by
   obtain⟨e,he,rfl⟩:=jN.mp hq
   exact kr e he)
  rw[aO]at Fm
  exists 39
  have et:col.take (i+1)=col.take i++[t]:=by rw[jY,ht];rfl
  have ln:(col.take i).length=i:=by rw[jR];omega
  have oth:∀ (p:Int) (ls:LI),p≠t->ls=dA (col.take i) p->ls=dA (col.take (i+1)) p:=fun p ls np z=>by
   rw[et,Cp,if_neg (Ne.symm np),jx]
   exact z
  have grow:∀ ls:LI,ls=dA (col.take i) t->ls++[(i:Int)]=dA (col.take (i+1)) t:=fun ls z=>by
   rw[et,Cp,if_pos rfl,ln,z]
  refine⟨_,Sum.inl t,b3.at_,rfl,len,fun v hv=>?_,fun hn=>?_⟩
  ·obtain⟨la,ls,rfl,hm,hla,hp⟩:=b3.get hv
   have pl:=MC (col.take i) t
   have lz:#[274].length<sizeLine:=aw (by rw[aO,hp];omega)
   exists .inl ⟨rfl,_,bS hla⟩,_,rfl,la,_,_,rfl,rfl,hla,lz
   exact⟨es,_,_,rfl,au (s2.trans sL) (b2.fresh _ hm),kr,b3.old hm hla (grow ls hp) oth⟩
  ·have hq:t∉es.map Prod.fst:=fun z=>by
    obtain⟨e,he,ee⟩:=jN.mp z
    obtain⟨jj,hjj⟩:=JF.mp he
    have:=AL b3.nd (q:=e.1) (a:=e.2) hjj
    rw[ee,hn]at this
    cases this
   have pZ:(upd (upd H2 L #[230]) B (HO.dK (putK (AK es) (Sum.inl t) (V.ref L)))) L=some (.lst []):=by rw[ag (Ne.symm nLB),ae]
   refine⟨.inl ⟨rfl,_,bS pZ⟩,_,rfl,L,_,_,rfl,rfl,pZ,(by show 0<sizeLine;decide),?_⟩
   refine⟨es++[(t,L)],_,_,rfl,au (au (s2.trans sL) hB) fL,fun e he=>?_,b3.new hq ae fL nL (grow [] (b3.non _ hq)) oth⟩
   rcases sU.mp he with z|z
   ·exact kr e z
   ·rw[jG.mp z];exact stq
 ·rintro σ' H1 ⟨es,v1,v2,rfl,s1,kr,b1⟩
  rw[aO,jV]at b1
  exact⟨_,rfl,k B es _ s1 hB b1⟩
end
structure J5(K:Yh)(C:Qo):Prop where
 cl:IV K C
 ng:iU K C "group_of"
 nm:iU K C "members"
 nw:iU K C "waiting"
 ni:iU K C "is_waiting"
structure J8(H:Hp)(C x go ms wt iw:Qo):Prop where
 ob:∃ dx:Qo,H x=some (.ins C dx [#[242],#[255],("waiting",.ref wt),("is_waiting",.ref iw)])
theorem J8.same{x ms:Qo}(h:J8 H C x go ms wt iw)(s:ay H H'):J8 H' C x go ms wt iw:=by
 obtain⟨dx,h1⟩:=h.ob
 exact⟨dx,s _ _ h1⟩
inductive MW (K:Yh) (C:Qo) (vs:List V) (H:Hp) (Q:VK) (E:XK):Prop
 | mk (x go ms wt iw:Qo) (gs:LI) (ds:List Qo) (_:vs=[.ref x]) (_:J8 H C x go ms wt iw) (_:H go=some #[179]) (_:H ms=some (.lst #[238])) (_:Q (.bl (decide (ds.length=gs.length))) H)
inductive abv (C:Qo) (vs:List V) (H:Hp) (Q:VK) (E:XK):Prop
 | mk (x go ms wt iw:Qo) (n:Int) (ws ks:LI) (_:vs=[.ref x,.int n]) (_:J8 H C x go ms wt iw) (_:H wt=some (.lst #[159])) (_:H iw=some #[154]) (_:ks.Nodup) (_:ws.length<=1000) (_:ks.length<=1000) (_:Q .non (upd (upd H wt (.lst ((ws++[n]).map V.int))) iw (.dK (cH (if n∈ks then ks else ks++[n])))))
theorem L7(ks:LI)(g:Int):D3 (cH ks) (Sum.inl g)=cH (ks.filter fun k=>decide (k≠g)):=by
 unfold D3 cH
 rw[List.filter_map]
 congr 1
 refine ZX fun k _=>?_
 by_cases c:k=g
 ·subst c
  simp
 ·have:(Sum.inl k:Key)≠Sum.inl g:=fun z=>c (Sum.inl.inj z)
  simp[c,this]
theorem aao(ks:LI):(cH ks).map (fun kv=>kV kv.1)=ks.map V.int:=by
 unfold cH
 rw[JO]
 rfl
inductive RY (C:Qo) (vs:List V) (H:Hp) (Q:VK) (E:XK):Prop
 | mk (x go ms wt iw da:Qo) (g:Int) (ws ks mem:LI) (ds:List Qo) (_:vs=[.ref x]) (_:J8 H C x go ms wt iw) (_:H wt=some (.lst #[297])) (_:H iw=some #[154]) (_:g∈ks) (_:H ms=some (.lst #[238])) (_:0<=g) (_:ds[g.toNat]?=some da) (_:ms≠wt) (_:H da=some (.dK (cH mem))) (_:da≠iw) (_:mem.length<=1000) (_:∀ l,H l=none->Q #[202] (upd (upd (upd H wt (.lst #[159])) iw (.dK (cH (ks.filter fun k=>decide (k≠g))))) l #[211]))
section
theorem BP:aE ["self"] ["self"] (ar lU):=cV #[3]
theorem AX:aE ["self","group"] ["self","group"] (ar iY):=cV #[3]
theorem iH:aE ["self","group"] ["self"] (ar dS):=cV #[3]
theorem Tj(F:bL K "is_done" "Parted.is_done" lU dV f fd)(pc:J5 K C)(aN:mg "len" = none):bw P w K mg base eS 1 f fd ["self"] (MW K C):=by
 refine F.ok BP #[6] #[1]
 ·obtain⟨x,go,ms,wt,iw,gs,ds,rfl,_⟩:=h
  rfl
 obtain⟨x,go,ms,wt,iw,gs,ds,rfl,⟨dx,hx⟩,LP,hms,q⟩:=h
 refine⟨_,(ak (aJ (hJ lJ (az aA #[38] aN bx (aa #[66] af)) (az aA #[38] aN bx (aa #[66] af)) (bz _)))),?_⟩
 exists 0
 exists _,rfl,x,C,dx,_,_,rfl,hx,pc.cl,pc.nm,rfl,ms,_,rfl,.inl (bS hms),_,rfl,x,C,dx,_,_,rfl,hx,pc.cl,pc.ng,rfl,go,_,rfl,.inl (bS LP),rfl
 rw[aO,aO]
 have e:decide (V.int (ds.length:Int)=V.int (gs.length:Int))=decide (ds.length=gs.length):=decide_eq_decide.mpr ⟨fun h=>by have:=V.int.inj h;omega,fun h=>by rw[h]⟩
 rw[e]
 exact q
theorem Pc(F:bL K "wait_for" "Parted.wait_for" iY dV f fd)(pc:J5 K C):bw P w K mg base eS 1 f fd ["self","group"] (abv C):=by
 refine F.ok AX #[6] #[1]
 ·obtain⟨x,go,ms,wt,iw,n,ws,ks,rfl,_⟩:=h
  rfl
 obtain⟨x,go,ms,wt,iw,n,ws,ks,rfl,⟨dx,hx⟩,D9,Fq,nd,l1,l2,q⟩:=h
 exists 98
 refine⟨_,(ah (bJ (fc Yj Yk Yl bD #[66] #[81]))
   (ak (pM hu #[66] (pv 1) cM rfl))),?_⟩
 exists 0
 have nx:x≠wt:=aG hx D9 #[2]
 have ni:iw≠wt:=aG Fq D9 #[2]
 refine⟨_,rfl,x,C,dx,_,_,rfl,hx,pc.cl,pc.nw,rfl,.inl ⟨rfl,_,bS D9⟩,_,rfl,wt,_,_,rfl,rfl,D9,aw (by rw[aO];exact l1),?_⟩
 refine⟨_,rfl,x,C,dx,_,_,rfl,by rw[ag nx];exact hx,pc.cl,pc.ni,rfl,_,rfl,iw,_,rfl,A0.k (k:=Sum.inl n) (by rw[ag ni];exact Fq) (aw (by unfold cH;rw[aO];exact l2)),?_⟩
 have e:putK (cH ks) (Sum.inl n) (V.bl true)=cH (if n∈ks then ks else ks++[n]):=by
  by_cases c:n∈ks
  ·rw[if_pos c]
   unfold putK
   rw[if_pos (show((cH ks).any fun kv=>decide (kv.fst=Sum.inl n))=true from Ji.mpr ⟨(Sum.inl n,V.bl true),jN.mpr ⟨n,c,rfl⟩,by simp⟩)]
   refine(ze fun kv hk=>?_).trans (Zf _)
   obtain⟨k,_,rfl⟩:=jN.mp hk
   show(if (Sum.inl k:Key)=Sum.inl n then((Sum.inl k:Key),V.bl true)else#[176])=#[176]
   split<;>rfl
  ·rw[if_neg c]
   exact Ab c
 rw[e]
 rw[jD]at q
 exact q
theorem aaG(F:bL K "next_splitter" "Parted.next_splitter" dS dV f fd)(pc:J5 K C)(eK:mg "list" = none):bw P w K mg base eS 1 f fd ["self"] (RY C):=by
 refine F.ok iH #[6] #[1]
 ·obtain⟨x,go,ms,wt,iw,da,g,ws,ks,mem,ds,rfl,_⟩:=h
  rfl
 obtain⟨x,go,ms,wt,iw,da,g,ws,ks,mem,ds,rfl,⟨dx,hx⟩,D9,Fq,gk,hms,g0,tK,nmw,EZ,ndi,lm,q⟩:=h
 exists 98
 refine⟨_,(ah (aD (i:=1) iH.nd (Im Yj yl ym O4 #[66]))
   (ah (bJ (Mw #[66] (pv 1) ⟨rfl,rfl,rfl,rfl⟩))
   (ak (aJ (aM (DU rfl) #[38] eK wQ (aa (aF cY #[66] (pv 1) #[12]) af)))))),?_⟩
 exists 0
 have nx:x≠wt:=aG hx D9 #[2]
 have nxi:x≠iw:=aG hx Fq #[2]
 have ni:iw≠wt:=aG Fq D9 #[2]
 have nmi:ms≠iw:=aG hms Fq #[2]
 have ndw:da≠wt:=aG EZ D9 #[2]
 have last:#[297][#[297].length-1]?=some (.int g):=by
  rw[aO,jH,jX,QB,jO,JK (jF _),Jv]
  rfl
 have dl:#[297].dropLast=ws.map V.int:=by rw[jD];exact Zn
 obtain⟨v,hv⟩:∃ v,eR (cH ks) (Sum.inl g)=some v:=by
  have h:=sS ks g
  rw[decide_eq_true gk]at h
  exact Jn.mp h
 have at':Aj #[238] g=some (.ref da):=by
  have q':Aj #[238] ((g.toNat:Nat):Int)=some (.ref da):=pA (by rw[jO,tK];rfl)
  rw[jn g0]at q'
  exact q'
 exists _,rfl,x,C,dx,_,_,rfl,hx,pc.cl,pc.nw,rfl,.inl ⟨rfl,_,bS D9⟩,wt,_,_,rfl,rfl,D9,last
 rw[dl]
 have OO:(upd H wt (HO.lst #[159])) x=_:=(ag nx).trans hx
 have ait:(upd H wt (HO.lst #[159])) iw=_:=(ag ni).trans Fq
 exists _,rfl,x,C,dx,_,_,rfl,OO,pc.cl,pc.ni,rfl,iw,rfl,.inl ⟨_,.inl ait⟩,_,rfl,cH ks,Sum.inl g,v,ait,rfl,hv
 rw[L7]
 refine⟨_,rfl,x,C,dx,_,_,rfl,(ag nxi).trans OO,pc.cl,pc.nm,rfl,_,rfl,ms,_,_,_,rfl,rfl,bS ((ag nmi).trans ((ag nmw).trans hms)),at',da,_,rfl,(ag ndi).trans ((ag ndw).trans EZ),fun l hl=>?_⟩
 rw[aao]
 refine q l ?_
 by_cases c1:l=iw
 ·rw[c1,ae]at hl
  cases hl
 ·rw[ag c1]at hl
  by_cases c2:l=wt
  ·rw[c2,ae]at hl
   cases hl
  ·rw[ag c2]at hl
   exact hl
end
def setG(gs done:LI)(n:Int):LI:=done.foldl (fun g q=>g.set q.toNat n) gs
def outF(mem done:LI):LI:=mem.filter fun q=>decide (q∉done)
theorem MQ(gs:LI)(n:Int):∀ done:LI,(setG gs done n).length=gs.length:=fun done=>by
 unfold setG
 induction done generalizing gs with
 | nil=>rfl
 | cons q r ih=>rw[Jf,ih,zg]
theorem TM(gs done:LI)(q n:Int):setG gs (done++[q]) n=(setG gs done n).set q.toNat n:=by
 unfold setG
 rw[JM]
 rfl
theorem Tw(mem done:LI)(q:Int):(outF mem done).filter (fun k=>decide (k≠q))=outF mem (done++[q]):=by
 unfold outF
 rw[List.filter_filter]
 refine ZX fun k _=>?_
 by_cases c:k=q
 ·subst c
  simp
 ·simp[c]
inductive R4 (K:Yh) (C:Qo) (vs:List V) (H:Hp) (Q:VK) (E:XK):Prop
 | mk (x go ms wt iw da il:Qo) (g:Int) (gs ws ks mem ins:LI) (ds:List Qo) (_:vs=[.ref x,.int g,.ref il]) (_:J8 H C x go ms wt iw) (_:H go=some #[179]) (_:H ms=some (.lst #[238])) (_:H wt=some (.lst #[159])) (_:H iw=some #[154]) (_:ks.Nodup) (_:(ws.length<=1000/\ks.length<=1000/\ds.length<1000/\ins.length<=1000)) (_:0<=g) (_:ds[g.toNat]?=some da) (_:H da=some (.dK (cH mem))) (_:H il=some (.lst (ins.map V.int))) (_:ins.Nodup) (_:(∀ q∈ins,q∈mem/\0<=q/\q<(gs.length:Int))) (_:(go≠ms/\go≠wt/\go≠il/\ms≠wt/\ms≠il/\wt≠il/\da≠iw)) (_:∀ (E:Qo) (nw:Int) (H':Hp),H E=none->H' E=some (.dK (cH ins))->H' ms=some (.lst ((ds++[E]).map V.ref))->H' da=some (.dK (cH #[273]))->H' go=some (.lst (#[138].map V.int))->H' wt=some (.lst ((ws++[nw]).map V.int))->H' iw=some (.dK (cH (if nw∈ks then ks else ks++[nw])))->(#[83]->nw=(ds.length:Int))->(¬ #[83]->nw=g)->(∀ c u,c≠go->c≠ms->c≠da->c≠wt->c≠iw->H c=some u->H' c=some u)->Q .non H')
theorem Rn(h:z<n):ixN n (z:Int)=some z:=by
 unfold ixN
 rw[if_pos #[0],if_pos #[0],jB]
section
theorem dB:aE ["self","group","inside","fresh","outside","here"] ["self","group","inside"] (ar dU):=cV #[3]
theorem lG:aU ["self","group","inside","fresh","outside","here"] (ar dU) ["here"] [none] ⟨.function,[#[48],#[250]],false,false,[]⟩:=mz #[3]
theorem aaK(F:bL K "split_off" "Parted.split_off" dU dV f fd)(pc:J5 K C)(pq:tP P w K mg base C "wait_for" 1 ["self","group"] (abv C))(aN:mg "len" = none)(iy:mg "dict" = none):bw P w K mg base eS 2 f fd ["self","group","inside"] (R4 K C):=by
 refine F.ok dB #[6] #[1]
 ·obtain⟨x,go,ms,wt,iw,da,il,g,gs,ws,ks,mem,ins,ds,rfl,_⟩:=h
  rfl
 obtain⟨x,go,ms,wt,iw,da,il,g,gs,ws,ks,mem,ins,ds,rfl,⟨dx,hx⟩,LP,hms,D9,Fq,U2,⟨lw,lk,ld,li⟩,g0,tK,EZ,Y9,ndi,amj,⟨n1,n2,n3,n4,n5,n6,n7⟩,k⟩:=h
 exists 98
 refine⟨_,(ah (aD (i:=3) dB.nd (az aA #[38] aN bx (aa #[66] af)))
   (ah (aD (i:=4) dB.nd (aF cY #[66] (pv 1) #[12]))
   (ah (bq PassesOwn.never rfl (cI (pv 2)) (aL (i:=5) dB.nd) (ah (bJ (Mw (pv 4) (pv 5) ⟨rfl,rfl,rfl,rfl⟩))
   (ak (Ph (pv 3) (aa3 #[66] (pv 5) set_list)))))
   (ah (bJ (fc Yj Yk Yl bD #[66] (aa (aM (pF rfl) #[38] iy Bm (aa (cT rfl lG (cI (pv 2)) (fun _ _ _ _=>(aL (i:=0) lG.nd)) #[118]) af)) af)))
   (ak (cK (PW.pt (tH (AR (Pd hu (pv 1) #[66]) #[60]) (wy (bK ajm #[173] (az wR #[38] aN bx #[106]) (bz _))))) (ak (bJ (Hk pq hr (pv 0) #[107]))) (ak (bJ (Hk pq hr (pv 0) #[81]))))))))),?_⟩
 exists 0
 have o0:outF mem []=mem:=Zs.mpr fun _ _=>by simp
 have nxg:x≠go:=aG hx LP #[2]
 have nxd:x≠da:=aG hx EZ #[2]
 have ngd:go≠da:=aG LP EZ #[2]
 have at':Aj #[238] g=some (.ref da):=by
  have q':Aj #[238] ((g.toNat:Nat):Int)=some (.ref da):=pA (by rw[jO,tK];rfl)
  rw[jn g0]at q'
  exact q'
 exists _,rfl,x,C,dx,_,_,rfl,hx,pc.cl,pc.nm,rfl,ms,_,rfl,.inl (bS hms)
 rw[aO]
 exists _,rfl,x,C,dx,_,_,rfl,hx,pc.cl,pc.nm,rfl,_,rfl,ms,_,_,_,rfl,rfl,bS hms,at'
 exists 69
 refine dh (t:=rZ _ _ _) (fun σ' H'=>∃ v:OV,σ'=[some #[180],some (.int g),some (.ref il),some (.int (ds.length:Int)),some (.ref da),v]/\H' da=some (.dK (cH #[273]))/\H' go=some (.lst (#[138].map V.int))/\∀ c u,c≠go->c≠da->H c=some u->H' c=some u) ?_ #[41]
 rotate_left
 ·exists _,rfl,il,rfl,⟨_,bS Y9⟩
  refine dj (K:=K) (xs:=ins.map V.int) (fun i σ' H'=>∃ v:OV,σ'=[some #[180],some (.int g),some (.ref il),some (.int (ds.length:Int)),some (.ref da),v]/\H' da=some (.dK (cH (outF mem (ins.take i))))/\H' go=some (.lst ((setG gs (ins.take i) (ds.length:Int)).map V.int))/\∀ c u,c≠go->c≠da->H c=some u->H' c=some u) ⟨none,rfl,by rw[ZM,o0];exact EZ,LP,fun _ _ _ _ e=>e⟩ (fun i σ' H' _ ⟨_,_,_,_,e⟩=>bS (e _ _ (Ne.symm n3) (aG Y9 EZ #[2]) Y9)) ?_ ?_
  ·rintro i y σ' H3 hi ⟨v,rfl,hd3,hg3,I9⟩
   exists 93
   have qm:=amj q (oz hq)
   have qo:q∈outF mem (ins.take i):=by
    refine ju.mpr ⟨qm.1,decide_eq_true fun z=>?_⟩
    obtain⟨j,hj,ej⟩:=jm z
    rw[jR]at hj
    rw[zp]at ej
    have ql:=fK hq
    have:=(JT ndi).mp (ej.trans ql.2.symm)
    omega
   obtain⟨vv,hvv⟩:∃ v,eR (cH (outF mem (ins.take i))) #[267]=some v:=by
    have h:=sS (outF mem (ins.take i)) q
    rw[decide_eq_true qo]at h
    exact Jn.mp h
   have et:ins.take (i+1)=ins.take i++[q]:=by rw[jY,hq];rfl
   exists _,rfl,da,rfl,.inl ⟨_,.inl hd3⟩,_,rfl,_,Sum.inl q,vv,hd3,rfl,hvv
   rw[L7,Tw,<- et]
   have hx3:=I9 _ _ nxg nxd hx
   refine⟨_,rfl,_,rfl,x,C,dx,_,_,rfl,(ag nxd).trans hx3,pc.cl,pc.ng,rfl,_,rfl,go,_,q,q.toNat,rfl,rfl,(ag ngd).trans hg3,?_,?_⟩
   ·rw[aO,MQ]
    have:=Rn (n:=gs.length) (z:=q.toNat) #[0]
    rw[jn qm.2.1]at this
    exact this
   ·refine⟨_,rfl,by rw[ag (Ne.symm ngd),ae],?_,fun c u c1 c2 e=>by rw[ag c1,ag c2];exact I9 c u c1 c2 e⟩
    rw[ae,et,TM,Qg]
  ·rintro σ' H3 ⟨v,rfl,hd3,hg3,I9⟩
   rw[aO,jV]at hd3 hg3
   exact iK _ _ ⟨v,rfl,hd3,hg3,I9⟩
 rintro σ' H1 ⟨v,rfl,HZ,hg1,Ig⟩
 have OO:=Ig _ _ nxg nxd hx
 have aiB:=Ig _ _ (Ne.symm n1) (aG hms EZ #[2]) hms
 have afA:=Ig _ _ (Ne.symm n3) (aG Y9 EZ #[2]) Y9
 exists _,rfl,x,C,dx,_,_,rfl,OO,pc.cl,pc.nm,rfl,.inl ⟨rfl,_,bS aiB⟩,_,rfl,il,rfl,⟨_,bS afA⟩
 refine iE (K:=K) (xs:=ins.map V.int) (fun D i ys H'=>ay H1 H'/\∃ ts,ys=ts.map V.ref/\fH H' ts (cH (ins.take i))) #[70] (fun D i ys H' _ ⟨e,_⟩=>bS (e _ _ afA)) ?_ ?_
 ·rintro D i y ys H' Q' hD hi hy ⟨hs,ts,rfl,pv⟩ k'
  exists 93
  have il':i<ins.length:=(fK hq).1
  exists 27
  have sT:=aj hT (HO.tup [V.int q,V.bl true])
  have nD:D≠T:=ao hy hT
  have lts:ts.length=i:=by
   rw[Paired.length pv]
   unfold cH
   rw[aO,jR]
   omega
  have hyT:#[64] D=some #[177]:=by rw[ag nD];exact hy
  exists 11
  rw[jY,hq]
  have up:∀ b xs,#[64] b=some #[36]->(upd #[64] D #[125]) b=some #[36]:=fun b xs e=>by
   exists 49
  show fH _ _ (cH (ins.take i++[q]))
  unfold cH
  rw[jD]
  exists 30
 rintro L ys H2 fL hL ⟨s2,ts,rfl,pv⟩
 rw[aO,jV]at pv
 refine⟨L,ts,_,rfl,hL,pv,fun N hN=>?_⟩
 rw[Cj ndi]
 have s3:=s2.trans (aj hN (HO.dK (cH ins)))
 obtain⟨H3,IX⟩:∃ H3,upd H2 N (HO.dK (cH ins))=H3:=⟨_,rfl⟩
 have LJ:H3 N=some (.dK (cH ins)):=by rw[<- IX];exact ae
 rw[IX]at s3 ⊢
 have fN:H1 N=none:=s2.free hN
 have Ib:=s3 _ _ aiB
 have nxm:x≠ms:=aG hx hms #[2]
 refine⟨ms,_,_,rfl,rfl,Ib,aw #[30],?_⟩
 have nNm:N≠ms:=aG LJ Ib #[2]
 have nxi:x≠iw:=aG hx Fq #[2]
 have nim:iw≠ms:=aG Fq hms #[2]
 have ndm:da≠ms:=aG EZ hms #[2]
 obtain⟨H4,wW⟩:∃ H4,upd H3 ms (HO.lst (ds.map V.ref++[V.ref N]))=H4:=⟨_,rfl⟩
 have kp4:∀ c u,c≠ms->H1 c=some u->H4 c=some u:=fun c u c1 e=>by rw[<- wW,ag c1];exact s3 _ _ e
 have LR:H4 ms=some (.lst ((ds++[N]).map V.ref)):=by rw[<- wW,ae,jD];rfl
 have hN4:H4 N=some (.dK (cH ins)):=by rw[<- wW,ag nNm];exact LJ
 have Od:=kp4 _ _ nxm OO
 have acz:=kp4 _ _ nim (Ig _ _ (aG Fq LP #[2]) (Ne.symm n7) Fq)
 have acL:=kp4 _ _ (Ne.symm n4) (Ig _ _ (Ne.symm n2) (aG D9 EZ #[2]) D9)
 have aif:=kp4 _ _ ndm HZ
 have OM:=kp4 _ _ n1 hg1
 have afB:=kp4 _ _ (Ne.symm n5) afA
 rw[wW]
 have niw:iw≠wt:=aG Fq D9 #[2]
 have lo:(cH #[273]).length=#[273].length:=by unfold cH;rw[aO]
 have fN0:H N=none:=by
  cases e:H N with
  | none=>rfl
  | some u =>
   have z1:N=go\/N=da:=Classical.byContradiction fun z=>by
    have:=Ig N u (fun a=>z (.inl a)) (fun a=>z (.inr a)) e
    rw[fN]at this
    cases this
   rcases z1 with z|z
   ·rw[z,hg1]at fN;cases fN
   ·rw[z,HZ]at fN;cases fN
 have fin:∀ nw:Int,(#[83]->nw=(ds.length:Int))->(¬ #[83]->nw=g)->Q .non (upd (upd H4 wt (.lst ((ws++[nw]).map V.int))) iw (.dK (cH (if nw∈ks then ks else ks++[nw])))):=fun nw h1 h2=>by
  have nNw:N≠wt:=aG hN4 acL #[2]
  have nNi:N≠iw:=fun z=>by rw[z,Fq]at fN0;cases fN0
  refine k N nw _ fN0 ?_ ?_ ?_ ?_ ?_ ae h1 h2 fun c u c1 c2 c3 c4 c5 e=>?_
  ·rw[ag nNi,ag nNw];exact hN4
  ·rw[ag (Ne.symm nim),ag n4];exact LR
  ·rw[ag n7,ag (aG EZ D9 #[2])];exact aif
  ·rw[ag (aG LP Fq #[2]),ag n2];exact OM
  ·rw[ag (Ne.symm niw),ae]
  ·rw[ag c5,ag c4];exact kp4 _ _ c2 (Ig c u c1 c3 e)
 exists _,rfl,_,rfl,x,C,dx,_,_,rfl,Od,pc.cl,pc.ni,rfl,iw,_,rfl,eV.k (k:=Sum.inl g) acz,_,rfl
 rw[sS]
 have yes:#[83]->Q .non (upd (upd H4 wt (.lst ((ws++[(ds.length:Int)]).map V.int))) iw (.dK (cH (if (ds.length:Int)∈ks then ks else ks++[(ds.length:Int)])))):=fun h=>fin _ (fun _=>rfl) (fun n=>absurd h n)
 refine rP #[53] #[53]
 ·exact oU ⟨_,rfl,x,dx,_,rfl,Od,rfl,_,rfl,x,go,ms,wt,iw,(ds.length:Int),ws,ks,rfl,⟨dx,Od⟩,acL,acz,U2,lw,lk,yes (.inl c)⟩
 ·refine⟨_,rfl,il,_,rfl,.inl (bS afB),_,rfl,da,_,rfl,aif,_,_,rfl,rfl,_,rfl,rP (fun c2=>?_) (fun c2=>?_)⟩
  ·rw[aO,lo]at c2
   exact⟨_,rfl,x,dx,_,rfl,Od,rfl,_,rfl,x,go,ms,wt,iw,(ds.length:Int),ws,ks,rfl,⟨dx,Od⟩,acL,acz,U2,lw,lk,yes (.inr #[0])⟩
  ·rw[aO,lo]at c2
   exact⟨_,rfl,x,dx,_,rfl,Od,rfl,_,rfl,x,go,ms,wt,iw,g,ws,ks,rfl,⟨dx,Od⟩,acL,acz,U2,lw,lk,fin g (fun h=>absurd h (fun z=>by
    rcases z with z|z
    ·exact c z
    ·exact c2 #[0])) (fun _=>rfl)⟩
end
def av(many:Nat)(q:Int):Prop:=0<=q/\q<(many:Int)
structure ad1(many:Nat)(cols:List (Int->Int))(sg:Int->Int)(R:Int->Int->Prop):Prop where
 sgn:∀ x y,R x y->sg x=sg y
 led:∀ x y,R x y->∀ c∈cols,R (c x) (c y)
structure P6(many:Nat)(cols:List (Int->Int))(sg:Int->Int)(R:Int->Int->Prop)(grp:Int->Int)(W:Int->Prop):Prop where
 coarse:∀ x y,av many x->av many y->R x y->grp x=grp y
 signs:∀ x y,av many x->av many y->grp x=grp y->sg x=sg y
 cong:∀ x y,av many x->av many y->grp x=grp y->∀ c∈cols,grp (c x)=grp (c y)\/W (grp (c x))\/W (grp (c y))
structure Ay(many:Nat)(cols:List (Int->Int))(sg:Int->Int)(R:Int->Int->Prop)(grp:Int->Int)(W:Int->Prop)(S:Int->Prop)(k:Nat):Prop where
 coarse:∀ x y,av many x->av many y->R x y->grp x=grp y
 signs:∀ x y,av many x->av many y->grp x=grp y->sg x=sg y
 whole:∀ x y,av many x->av many y->R x y->S x->S y
 cong:∀ x y,av many x->av many y->grp x=grp y->∀ (j:Nat) (c:Int->Int),cols[j]?=some c ->
  grp (c x)=grp (c y)\/W (grp (c x))\/W (grp (c y))\/(k<=j/\((S (c x)/\¬ S (c y))\/(S (c y)/\¬ S (c x))))
section
variable{cols:List (Int->Int)}{R:Int->Int->Prop}{W S:Int->Prop}{k:Nat}
theorem P6.pop(h:P6 many cols sg R grp W)(hc:∀ x,av many x->∀ c∈cols,av many (c x))(s:Int):Ay many cols sg R grp (fun g=>W g/\g≠s) (fun q=>grp q=s) 0 where
 coarse:=h.coarse
 signs:=h.signs
 whole:=fun x y hx hy r e=>(h.coarse x y hx hy r).symm.trans e
 cong:=fun x y hx hy e j c hj=>by
  have cm:=oz hj
  rcases Classical.em (grp (c x)=grp (c y))with q|q
  ·exact .inl q
  rcases Classical.em (grp (c x)=s)with a|a
  ·exact .inr (.inr (.inr ⟨jd _,.inl ⟨a,fun b=>q (a.trans b.symm)⟩⟩))
  rcases Classical.em (grp (c y)=s)with b|b
  ·exact .inr (.inr (.inr ⟨jd _,.inr ⟨b,a⟩⟩))
  rcases h.cong x y hx hy e c cm with z|z|z
  ·exact .inl z
  ·exact .inr (.inl ⟨z,a⟩)
  ·exact .inr (.inr (.inl ⟨z,b⟩))
theorem Ay.done(h:Ay many cols sg R grp W S cols.length):P6 many cols sg R grp W where
 coarse:=h.coarse
 signs:=h.signs
 cong:=fun x y hx hy e c cm=>by
  obtain⟨j,hj⟩:=JF.mp cm
  rcases h.cong x y hx hy e j c hj with z|z|z|⟨z,_⟩
  ·exact .inl z
  ·exact .inr (.inl z)
  ·exact .inr (.inr z)
  ·have:=(fK hj).1
   omega
theorem Ay.split(h:Ay many cols sg R grp W S k)(sym:∀ x y,R x y->R y x)(hc:∀ x,av many x->∀ c∈cols,av many (c x)){L:Int->Prop}{n:Int}{W':Int->Prop}(hL:∀ x y,av many x->av many y->R x y->L x->L y)(nn:∀ x,av many x->grp x≠n)(w1:∀ g,W g->W' g)(w2:W b->W' n)(w3:W' n\/W' b)(g1:∀ x,av many x->grp x=b->L x->SJ x=n)(g2:∀ x,av many x->¬ (grp x=b/\L x)->SJ x=grp x):
  Ay many cols sg R SJ W' S k:=by
 have back:∀ x y,av many x->av many y->SJ x=SJ y->grp x=grp y/\(grp x=b->(L x↔L y)):=fun x y hx hy e=>by
  rcases Classical.em (grp x=b/\L x)with q|q
  ·rcases Classical.em (grp y=b/\L y)with p|p
   ·exact⟨q.1.trans p.1.symm,fun _=>⟨fun _=>p.2,fun _=>q.2⟩⟩
   ·rw[g1 x hx q.1 q.2,g2 y hy p]at e
    exact absurd e.symm (nn y hy)
  ·rcases Classical.em (grp y=b/\L y)with p|p
   ·rw[g2 x hx q,g1 y hy p.1 p.2]at e
    exact absurd e (nn x hx)
   ·rw[g2 x hx q,g2 y hy p]at e
    exact⟨e,fun eb=>⟨fun lx=>absurd ⟨eb,lx⟩ q,fun ly=>absurd ⟨e.symm.trans eb,ly⟩ p⟩⟩
 have wait:∀ x,av many x->W (grp x)->W' (SJ x):=fun x hx w=>by
  rcases Classical.em (grp x=b/\L x)with q|q
  ·rw[g1 x hx q.1 q.2]
   exact w2 (q.1 ▸ w)
  ·rw[g2 x hx q]
   exact w1 _ w
 refine⟨fun x y hx hy r=>?_,fun x y hx hy e=>h.signs x y hx hy (back x y hx hy e).1,h.whole,fun x y hx hy e j c hj=>?_⟩
 ·have e:=h.coarse x y hx hy r
  rcases Classical.em (grp x=b/\L x)with q|q
  ·rw[g1 x hx q.1 q.2,g1 y hy (e.symm.trans q.1) (hL x y hx hy r q.2)]
  ·have p:¬ (grp y=b/\L y):=fun p=>q ⟨e.trans p.1,hL y x hy hx (sym x y r) p.2⟩
   rw[g2 x hx q,g2 y hy p,e]
 ·have cm:=oz hj
  have hcx:=hc x hx c cm
  have hcy:=hc y hy c cm
  rcases h.cong x y hx hy (back x y hx hy e).1 j c hj with z|z|z|z
  ·rcases Classical.em (grp (c x)=b/\L (c x))with q|q
   ·rcases Classical.em (grp (c y)=b/\L (c y))with p|p
    ·exact .inl (by rw[g1 _ hcx q.1 q.2,g1 _ hcy p.1 p.2])
    ·have ex:=g1 _ hcx q.1 q.2
     have ey:=g2 _ hcy p
     rcases w3 with a|a
     ·exact .inr (.inl (by rw[ex];exact a))
     ·exact .inr (.inr (.inl (by rw[ey,<- z,q.1];exact a)))
   ·rcases Classical.em (grp (c y)=b/\L (c y))with p|p
    ·have ex:=g2 _ hcx q
     have ey:=g1 _ hcy p.1 p.2
     rcases w3 with a|a
     ·exact .inr (.inr (.inl (by rw[ey];exact a)))
     ·exact .inr (.inl (by rw[ex,z,p.1];exact a))
    ·exact .inl (by rw[g2 _ hcx q,g2 _ hcy p,z])
  ·exact .inr (.inl (wait _ hcx z))
  ·exact .inr (.inr (.inl (wait _ hcy z)))
  ·exact .inr (.inr (.inr z))
theorem Ay.next(h:Ay many cols sg R grp W S k){c:Int->Int}(hk:cols[k]?=some c)(hn:∀ x y,av many x->av many y->grp x=grp y->S (c x)->S (c y)):Ay many cols sg R grp W S (k+1) where
 coarse:=h.coarse
 signs:=h.signs
 whole:=h.whole
 cong:=fun x y hx hy e j c' hj=>by
  rcases h.cong x y hx hy e j c' hj with z|z|z|⟨kj,z⟩
  ·exact .inl z
  ·exact .inr (.inl z)
  ·exact .inr (.inr (.inl z))
  ·rcases JP k j with l|l
   ·exact .inr (.inr (.inr ⟨l,z⟩))
   ·have ej:j=k:=by omega
    subst ej
    rw[hk]at hj
    cases hj
    rcases z with⟨a,b⟩|⟨a,b⟩
    ·exact absurd (hn x y hx hy e a) b
    ·exact absurd (hn y x hy hx e.symm a) b
theorem P6.agu(h:P6 many cols sg R grp W)(hw:∀ x,av many x->¬ W (grp x))(hc:∀ x,av many x->∀ c∈cols,av many (c x)):∀ x y,av many x->av many y->grp x=grp y->∀ c∈cols,grp (c x)=grp (c y):=fun x y hx hy e c cm=>by
 rcases h.cong x y hx hy e c cm with z|z|z
 ·exact z
 ·exact absurd z (hw _ (hc x hx c cm))
 ·exact absurd z (hw _ (hc y hy c cm))
theorem P6.single(inj:∀ x y,av many x->av many y->grp x=grp y->x=y):∀ x y,av many x->av many y->grp x=grp y->∀ c∈cols,grp (c x)=grp (c y):=fun x y hx hy e c _=>by rw[inj x y hx hy e]
end
theorem P6.start{cols:List (Int->Int)}{R:Int->Int->Prop}(l:ad1 many cols sg R){W:Int->Prop}(hg:∀ x y,av many x->av many y->(grp x=grp y↔sg x=sg y))(hw:∀ x,av many x->W (grp x))(hc:∀ x,av many x->∀ c∈cols,av many (c x)):P6 many cols sg R grp W where
 coarse:=fun x y hx hy r=>(hg x y hx hy).mpr (l.sgn x y r)
 signs:=fun x y hx hy e=>(hg x y hx hy).mp e
 cong:=fun x y hx hy _ c cm=>.inr (.inl (hw _ (hc x hx c cm)))
theorem lR:∀ {xs ys:LI},xs.Nodup->(∀ x∈xs,x∈ys)->xs.length<=ys.length
 | [],_,_,_=>jd _
 | x :: xs,ys,nd,h=>by
  have n:=jy.mp nd
  have m:=h x jE
  have i:=lR (xs:=xs) (ys:=ys.erase x) n.2 fun y hy=>by
   have e:y≠x:=fun z=>n.1 (z ▸ hy)
   exact(zC e).mpr (h y (jJ _ hy))
  rw[zI m]at i
  have:=Ja m
  rw[jc]
  omega
theorem O5{ys:LI}(nd:xs.Nodup)(h:∀ x∈xs,x∈ys)(l:ys.length<=xs.length):∀ y∈ys,y∈xs:=fun y hy=>Classical.byContradiction fun z=>by
 have:=lR (xs:=y :: xs) (ys:=ys) (jy.mpr ⟨z,nd⟩) fun q hq=>by
  rcases jU.mp hq with r|r
  ·rw[r];exact hy
  ·exact h q r
 rw[jc]at this
 omega
theorem MO{n:Int}:∀ {done gs:LI} {x:Nat},x<gs.length->(∀ q∈done,0<=q)->(setG gs done n).getD x 0=if (x:Int)∈done then n else gs.getD x 0
 | [],gs,x,_,_=>by rw[if_neg #[10]];rfl
 | q :: r,gs,x,hx,h=>by
  have ih:=MO (gs:=gs.set q.toNat n) (n:=n) (done:=r) (x:=x) (by rw[zg];exact hx) fun p hp=>h p (jJ _ hp)
  show(setG (gs.set q.toNat n) r n).getD x 0=_
  rw[ih]
  have q0:=h q jE
  by_cases c:(x:Int)∈r
  ·rw[if_pos c,if_pos (jJ _ c)]
  ·rw[if_neg c]
   by_cases d:(x:Int)=q
   ·rw[if_pos (by rw[d];exact jE)]
    have e:q.toNat=x:=by omega
    rw[e,jI,Jq hx]
    rfl
   ·rw[if_neg (fun z=>(jU.mp z).elim d c)]
    have e:q.toNat≠x:=by omega
    rw[jI,zA e,jI]
def bH(gs:LI)(q:Int):Int:=gs.getD q.toNat 0
theorem MP{n:Int}(h0:0<=q)(h1:q<(gs.length:Int))(hi:∀ p∈ins,0<=p):bH (setG gs ins n) q=if q∈ins then n else bH gs q:=by
 have h:=MO (n:=n) (done:=ins) (gs:=gs) (x:=q.toNat) #[0] hi
 rw[jn h0]at h
 exact h
structure CV(H:Hp)(C x go ms wt iw:Qo)(many:Nat)(gs:LI)(ds:List Qo)(ws:LI):Prop where
 pt:J8 H C x go ms wt iw
 go_:H go=some #[179]
 ms_:H ms=some (.lst #[238])
 wt_:H wt=some (.lst #[159])
 iw_:H iw=some (.dK (cH ws))
 lg:gs.length=many
 val:∀ q,av many q->0<=bH gs q/\bH gs q<(ds.length:Int)
 mem:∀ (i:Nat) (da:Qo),ds[i]?=some da->∃ mem:LI,H da=some (.dK (cH mem))/\mem.Nodup/\mem≠[]/\∀ q,q∈mem↔av many q/\bH gs q=(i:Int)
 dn:ds.Nodup
 ndi:iw∉ds
 n1:go≠ms
 n2:go≠wt
 n3:ms≠wt
 wn:ws.Nodup
 wv:∀ g∈ws,0<=g/\g<(ds.length:Int)
section
variable{x ms:Qo}
theorem CV.at_(h:CV H C x go ms wt iw many gs ds ws){d:Qo}(hd:d∈ds):∃ mem:LI,H d=some (.dK (cH mem)):=by
 obtain⟨i,hi⟩:=JF.mp hd
 obtain⟨mem,h1,_⟩:=h.mem i d hi
 exact⟨mem,h1⟩
theorem CV.same(h:CV H C x go ms wt iw many gs ds ws)(s:ay H H'):CV H' C x go ms wt iw many gs ds ws:=
 ⟨h.pt.same s,s _ _ h.go_,s _ _ h.ms_,s _ _ h.wt_,s _ _ h.iw_,h.lg,h.val,fun i da hi=>by
  obtain⟨mem,h1,h2,h3,h4⟩:=h.mem i da hi
  exact⟨mem,s _ _ h1,h2,h3,h4⟩,h.dn,h.ndi,h.n1,h.n2,h.n3,h.wn,h.wv⟩
theorem CV.Fm(h:CV H C x go ms wt iw many gs ds ws):ds.length<=many:=by
 have t:=lR (xs:=(jZ ds.length).map fun i:Nat=>(i:Int)) (ys:=gs) (Je.mpr (List.nodup_range.imp fun {a b} n z=>n (by
  have z':(a:Int)=(b:Int):=z
  omega))) (fun g hg=>by
  obtain⟨i,hi,rfl⟩:=jN.mp hg
  have il:=je.mp hi
  obtain⟨mem,_,_,ne,iff⟩:=h.mem i _ (jC il)
  obtain⟨q,r,rfl⟩:=zY ne
  obtain⟨⟨q0,q1⟩,e⟩:=(iff q).mp jE
  have l:q.toNat<gs.length:=by rw[h.lg];omega
  unfold bH at e
  rw[getD_at l]at e
  rw[<- e]
  exact jM l)
 rw[aO,jq,h.lg]at t
 exact t
theorem CV.aob(h:CV H C x go ms wt iw many gs ds ws):ws.length<=ds.length:=bM ds.length h.wn h.wv
theorem CV.split{da E:Qo}{g nw:Int}(h:CV H C x go ms wt iw many gs ds ws)(g0:0<=g)(tK:ds[g.toNat]?=some da)(EZ:H da=some (.dK (cH mem)))(hm:∀ q,q∈mem↔av many q/\bH gs q=g)(nm:mem.Nodup)(ndi:ins.Nodup)(tG:∀ q∈ins,q∈mem)(hne:ins≠[])(lt:ins.length<mem.length)(fE:H E=none)(hE:H' E=some (.dK (cH ins)))(hms:H' ms=some (.lst ((ds++[E]).map V.ref)))(hd':H' da=some (.dK (cH #[273])))(LP:H' go=some (.lst (#[138].map V.int)))(D9:H' wt=some (.lst ((ws++[nw]).map V.int)))(Fq:H' iw=some (.dK (cH (if nw∈ws then ws else ws++[nw]))))(hnw:nw∉ws)(nwv:nw=(ds.length:Int)\/nw=g)(kp:∀ c u,c≠go->c≠ms->c≠da->c≠wt->c≠iw->H c=some u->H' c=some u):CV H' C x go ms wt iw many #[138] (ds++[E]) (ws++[nw]):=by
 have gl:g.toNat<ds.length:=(fK tK).1
 have ip:∀ p∈ins,0<=p:=fun p hp=>((hm p).mp (tG p hp)).1.1
 have gr:∀ q,av many q->bH #[138] q=if q∈ins then(ds.length:Int)else bH gs q:=fun q hq=>MP hq.1 (by rw[h.lg];exact hq.2) ip
 have eE:E∉ds:=fun z=>by
  obtain⟨m,hm⟩:=h.at_ z
  rw[fE]at hm
  cases hm
 obtain⟨dx,hx⟩:=h.pt.ob
 refine⟨⟨dx,kp _ _ (aG hx h.go_ #[2]) (aG hx h.ms_ #[2]) (aG hx EZ #[2]) (aG hx h.wt_ #[2]) (aG hx h.iw_ #[2]) hx⟩,LP,hms,D9,by rw[if_neg hnw]at Fq;exact Fq,by rw[MQ];exact h.lg,fun q hq=>?_,fun i d hi=>?_,?_,?_,h.n1,h.n2,h.n3,sV h.wn hnw,fun p hp=>?_⟩
 ·rw[gr q hq,jH,jX]
  have v:=h.val q hq
  split<;>omega
 ·rcases snoc_cases hi with hi|⟨rfl,rfl⟩
  ·have il:=(fK hi).1
   by_cases c:d=da
   ·subst c
    have ei:i=g.toNat:=by
     have e1:=(fK hi).2
     have e2:=(fK tK).2
     exact(JT h.dn).mp (e1.trans e2.symm)
    refine⟨outF mem ins,hd',nm.filter _,fun z=>?_,fun q=>?_⟩
    ·have all:∀ q∈mem,q∈ins:=fun q hq=>Classical.byContradiction fun n=>by
      have:q∈outF mem ins:=ju.mpr ⟨hq,decide_eq_true n⟩
      rw[z]at this
      cases this
     have:=lR nm all
     omega
    ·unfold outF
     rw[ju,hm,ei,jn g0]
     constructor
     ·rintro⟨⟨h1,h2⟩,h3⟩
      exact⟨h1,by rw[gr q h1,if_neg (of_decide_eq_true h3)];exact h2⟩
     ·rintro⟨h1,h2⟩
      rw[gr q h1]at h2
      by_cases n:q∈ins
      ·rw[if_pos n]at h2
       omega
      ·rw[if_neg n]at h2
       exact⟨⟨h1,h2⟩,decide_eq_true n⟩
   ·obtain⟨m2,h1,h2,h3,h4⟩:=h.mem i d hi
    refine⟨m2,kp _ _ (aG h1 h.go_ #[2]) (aG h1 h.ms_ #[2]) c (aG h1 h.wt_ #[2]) (fun z=>h.ndi (z ▸ oz hi)) h1,h2,h3,fun q=>?_⟩
    have ni:(i:Int)≠g:=fun z=>by
     have e:i=g.toNat:=by omega
     rw[e,tK]at hi
     exact c #[152].symm
    rw[h4]
    refine and_congr_right fun hq=>?_
    rw[gr q hq]
    by_cases n:q∈ins
    ·have e:=((hm q).mp (tG q n)).2
     rw[if_pos n,e]
     constructor<;>intro z<;>omega
    ·rw[if_neg n]
  ·refine⟨ins,hE,ndi,hne,fun q=>?_⟩
   constructor
   ·intro hq
    have r:=((hm q).mp (tG q hq)).1
    exact⟨r,by rw[gr q r,if_pos hq]⟩
   ·rintro⟨hq,e⟩
    rw[gr q hq]at e
    by_cases n:q∈ins
    ·exact n
    ·rw[if_neg n]at e
     have:=h.val q hq
     omega
 ·refine JQ.mpr ⟨h.dn,jy.mpr ⟨by simp,JZ⟩,fun a ha b hb=>?_⟩
  rw[jG.mp hb]
  exact fun z=>eE (z ▸ ha)
 ·intro z
  rcases sU.mp z with z|z
  ·exact h.ndi z
  ·have e:=jG.mp z
   rw[<- e,h.iw_]at fE
   cases fE
 ·rw[jH,jX]
  rcases sU.mp hp with z|z
  ·have:=h.wv p z
   omega
  ·rw[jG.mp z]
   rcases nwv with e|e<;>omega
end
def ab1(many:Nat)(L gs:LI)(n:Nat)(ws wZ mQ:LI):Prop := ∃ b nw:Int,mQ=ws++[nw]/\(nw=(n:Int)\/nw=b)/\(b∈ws->nw=(n:Int))/\(∀ q,av many q->bH gs q=b->q∈L->bH wZ q=(n:Int))/\(∀ q,av many q->¬ (bH gs q=b/\q∈L)->bH wZ q=bH gs q)
inductive MZ (C:Qo) (vs:List V) (H:Hp) (Q:VK) (E:XK):Prop
 | mk (x go ms wt iw ll:Qo) (many:Nat) (gs ws L:LI) (ds:List Qo) (J:LI->Nat->LI->Prop) (_:vs=[.ref x,.ref ll]) (_:CV H C x go ms wt iw many gs ds ws) (_:many<1000) (_:H ll=some (.lst (L.map V.int))) (_:(ll≠go/\ll≠ms/\ll≠wt)) (_:L.Nodup) (_:(∀ q∈L,av many q)) (_:J gs ds.length ws) (_:(∀ gs n ws wZ mQ,J gs n ws->(∀ q,av many q->0<=bH gs q/\bH gs q<(n:Int))->ab1 many L gs n ws wZ mQ->J wZ (n+1) mQ)) (_:∀ (H':Hp) (wZ mQ:LI) (more:List Qo),CV H' C x go ms wt iw many wZ #[300] mQ->J wZ #[300].length mQ->(∀ a b,av many a->av many b->bH wZ a=bH wZ b->a∈L->b∈L)->(∀ d∈more,H d=none)->(∀ c u,c≠go->c≠ms->c≠wt->c≠iw->c∉ds->H c=some u->H' c=some u)->Q .non H')
section
theorem dw:aE ["self","leading","touched","here","group","inside"] ["self","leading"] (ar lV):=cV #[3]
theorem Tr(F:bL K "part_by" "Parted.part_by" lV dV f fd)(pc:J5 K C)(sh:tP P w K mg base C "split_off" 2 ["self","group","inside"] (R4 K C))(aN:mg "len" = none):bw P w K mg base eS 3 f fd ["self","leading"] (MZ C):=by
 refine F.ok dw #[6] #[1]
 ·obtain⟨x,go,ms,wt,iw,ll,many,gs,ws,L,ds,J,rfl,_⟩:=h
  rfl
 obtain⟨x,go,ms,wt,iw,ll,many,gs,ws,L,ds,J,rfl,S,apj,hll,⟨l1,l2,l3⟩,ndL,hL,j0,jst,k⟩:=h
 exists 98
 obtain⟨dx,hx⟩:=S.pt.ob
 have aqC:L.length<=many:=bM many ndL hL
 have aqA:=S.Fm
 refine⟨_,(ah (aD (i:=2) dw.nd oW)
   (ah (bq PassesOwn.never rfl (cI (pv 1)) (aL (i:=3) dw.nd) (ak (bJ (fc Yj Yk Yl bD (Dr (pv 2) (aF cY #[66] (pv 3) #[12]) (cX af) ⟨rfl,rfl,rfl,rfl⟩) #[107]))))
   (ak (bq PassesOwn.never rfl (aa8 (Im yI XW PySem.F.type_dict_items aaw (pv 2))) (AO rfl (cR (aL (i:=4) dw.nd) (cR (aL (i:=5) dw.nd) pK))) (ak (cK (bK Mr (az aA #[38] aN bx (aa (pv 5) af)) (az wR #[38] aN bx (aa (aF cY #[66] (pv 4) #[12]) af)) (bz _)) (ak (bJ (Hk sh hr (pv 0) (aa (pv 4) (aa (pv 5) af))))) bB)))))),?_⟩
 exists 0
 refine fun B hB=>?_
 have s0:=aj hB (HO.dK [])
 exists 69
 refine dh (t:=rZ _ _ _) (fun σ' H'=>∃ (es:List #[228]) (v:OV),σ'=[some #[180],some (.ref ll),some (.ref B),v,none,none]/\ay H H'/\bP H H' B es (fun q ls=>ls=L.filter fun h=>decide (bH gs h=q))/\∀ e∈es,∃ h∈L,bH gs h=e.1) ?_ #[41]
 rotate_left
 ·have b0:bP H (upd H B (.dK [])) B [] (fun q ls=>ls=(L.take 0).filter fun h=>decide (bH gs h=q)):=⟨ae,List.Pairwise.nil,List.Pairwise.nil,#[142],#[142],fun q _=>rfl⟩
  exists _,rfl,ll,rfl,⟨_,bS (s0 _ _ hll)⟩
  refine dj (K:=K) (xs:=L.map V.int) (fun i σ' H'=>∃ (es:List #[228]) (v:OV),σ'=[some #[180],some (.ref ll),some (.ref B),v,none,none]/\ay H H'/\bP H H' B es (fun q ls=>ls=(L.take i).filter fun h=>decide (bH gs h=q))/\∀ e∈es,∃ h∈L,bH gs h=e.1) ⟨[],none,rfl,s0,b0,fun e h=>by cases h⟩ (fun i σ' H' _ ⟨_,_,_,e,_,_⟩=>bS (e _ _ hll)) ?_ ?_
  ·rintro i y σ' H2 hi ⟨es,v,rfl,s2,b2,kr⟩
   obtain⟨h,rfl,hh⟩:=bp hi
   have hm:=oz hh
   have il:=(fK hh).1
   have tG:=hL h hm
   have gv:=S.val h tG
   have at':Aj (gs.map V.int) h=some (.int (bH gs h)):=cF tG.1 (by rw[S.lg];exact tG.2)
   refine⟨_,rfl,B,rfl,.inl ⟨_,.inl b2.at_⟩,_,rfl,x,C,dx,_,_,rfl,s2 _ _ hx,pc.cl,pc.ng,rfl,_,rfl,go,_,_,_,rfl,rfl,bS (s2 _ _ S.go_),at',#[24],fun La Rh=>?_⟩
   have sL:=aj Rh #[230]
   have b3:=b2.same sL
   have nL:∀ e∈es,e.2≠La:=fun e he z=>by
    obtain⟨ls,h1,_⟩:=b2.lst e he
    rw[z,Rh]at h1
    cases h1
   have nLB:B≠La:=ao b2.at_ Rh
   have fL:H La=none:=s2.free Rh
   have Fm:=bM ds.length b3.nd (fun q hq=>by
    obtain⟨e,he,rfl⟩:=jN.mp hq
    obtain⟨p,hp,ep⟩:=kr e he
    rw[<- ep]
    exact S.val p (hL p hp))
   rw[aO]at Fm
   exists 39
   have et:L.take (i+1)=L.take i++[h]:=by rw[jY,hh];rfl
   have oth:∀ (p:Int) (ls:LI),p≠bH gs h->(ls=(L.take i).filter fun h=>decide (bH gs h=p))->ls=(L.take (i+1)).filter fun h=>decide (bH gs h=p):=fun p ls np z=>by
    rw[et,JW,JB (by rw[decide_eq_false (Ne.symm np)];decide),QS,jx]
    exact z
   have grow:∀ ls:LI,(ls=(L.take i).filter fun q=>decide (bH gs q=bH gs h))->ls++[h]=(L.take (i+1)).filter fun q=>decide (bH gs q=bH gs h):=fun ls z=>by
    have e1:[h].filter (fun q=>decide (bH gs q=bH gs h))=[h]:=by simp
    rw[et,JW,e1,z]
   refine⟨_,Sum.inl (bH gs h),b3.at_,rfl,len,fun v hv=>?_,fun hn=>?_⟩
   ·obtain⟨la,ls,rfl,hme,hla,hp⟩:=b3.get hv
    have pl:ls.length<=i:=by
     rw[hp]
     exact jk (Jc _ _) #[302]
    have lz:#[274].length<sizeLine:=aw #[30]
    exists .inl ⟨rfl,_,bS hla⟩,_,rfl,la,_,_,rfl,rfl,hla,lz
    exact⟨es,_,rfl,au (s2.trans sL) (b2.fresh _ hme),b3.old hme hla (grow ls hp) oth,kr⟩
   ·have hq:bH gs h∉es.map Prod.fst:=fun z=>by
     obtain⟨e,he,ee⟩:=jN.mp z
     obtain⟨jj,hjj⟩:=JF.mp he
     have:=AL b3.nd (q:=e.1) (a:=e.2) hjj
     rw[ee,hn]at this
     cases this
    have pZ:(upd (upd H2 La #[230]) B (HO.dK (putK (AK es) (Sum.inl (bH gs h)) (V.ref La)))) La=some (.lst []):=by rw[ag (Ne.symm nLB),ae]
    refine⟨.inl ⟨rfl,_,bS pZ⟩,_,rfl,La,_,_,rfl,rfl,pZ,(by show 0<sizeLine;decide),?_⟩
    refine⟨es++[(bH gs h,La)],_,rfl,au (au (s2.trans sL) hB) fL,b3.new hq ae fL nL (grow [] (b3.non _ hq)) oth,fun e he=>?_⟩
    rcases sU.mp he with z|z
    ·exact kr e z
    ·rw[jG.mp z]
     exact⟨h,hm,rfl⟩
  ·rintro σ' H1 ⟨es,v,rfl,s1,b1,kr⟩
   rw[aO,jV]at b1
   exact iK _ _ ⟨es,v,rfl,s1,b1,kr⟩
 rintro σ' H1 ⟨es,v,rfl,s1,b1,kr⟩
 refine⟨_,rfl,.inr (.inr (.inl ⟨rfl,.inl ⟨_,b1.at_⟩⟩)),B,_,rfl,rfl,b1.at_,fun vw hvw=>?_⟩
 have nBv:B≠vw:=ao b1.at_ hvw
 refine⟨vw,B,AK es,rfl,ae,by rw[ag nBv];exact b1.at_,fun o=>?_⟩
 have fvw:H vw=none:=s1.free hvw
 obtain⟨H2,EX⟩:∃ H2,upd (upd H1 vw (Ba vw B)) B (.se o (.dK (AK es)))=H2:=⟨_,rfl⟩
 have s2:ay H H2:=by rw[<- EX];exact au (au s1 fvw) hB
 have hB2:H2 B=some (.se o (.dK (AK es))):=by rw[<- EX,ae]
 have ls2:∀ e∈es,H2 e.2=some (.lst ((L.filter fun h=>decide (bH gs h=e.1)).map V.int)):=fun e he=>by
  obtain⟨ls,h1,h2⟩:=b1.lst e he
  rw[<- EX,ag (aG h1 b1.at_ #[2]),ag (ao h1 hvw),h1,h2]
 rw[EX]
 have U2:=b1.nd
 have lk:(AK es).length=es.length:=by unfold AK;rw[aO]
 refine SG (o:=o) (kvs:=AK es) (fun i σ' H'=>∃ (wZ mQ:LI) (more:List Qo) (v1 v2 v3:OV),σ'=[some #[180],some (.ref ll),some (.ref B),v1,v2,v3]/\CV H' C x go ms wt iw many wZ #[300] mQ/\J wZ #[300].length mQ/\(∀ d∈more,H d=none)/\H' B=some (.se o (.dK (AK es))) /\
   (∀ e∈es,H' e.2=some (.lst ((L.filter fun h=>decide (bH gs h=e.1)).map V.int)))/\(∀ c u,c≠go->c≠ms->c≠wt->c≠iw->c∉ds->H c=some u->H' c=some u)/\(∀ q,av many q->bH gs q∉(es.take i).map Prod.fst->bH wZ q=bH gs q) /\
   (∀ a b,av many a->av many b->bH wZ a=bH wZ b->bH gs a=bH gs b/\(bH gs a∈(es.take i).map Prod.fst->(a∈L↔b∈L))))
  ⟨gs,ws,[],v,none,none,rfl,by rw[jx];exact S.same s2,by rw[jx];exact j0,(fun d hd=>by cases hd),hB2,ls2,(fun c u _ _ _ _ _ e=>s2 _ _ e),(fun _ _ _=>rfl),fun a b _ _ e=>⟨e,fun z=>by rw[ZM]at z;cases z⟩⟩
  (fun i σ' H' _ ⟨_,_,_,_,_,_,_,_,_,_,e,_,_,_,_⟩=>e) ?_ ?_
 ·rintro i p σ' H3 T hi ⟨wZ,mQ,more,v1,v2,v3,rfl,S3,j3,fm,hB3,ls3,I9,ga,gb⟩ hT
  obtain⟨e,he,rfl⟩:∃ e,es[i]?=some e/\p=#[259]:=by
   unfold AK at hi
   rw[jO]at hi
   obtain⟨e,h1,h2⟩:=zQ.mp hi
   exact⟨e,h1,h2.symm⟩
  obtain⟨b,il⟩:=e
  have hme:=oz he
  have ilt:i<es.length:=(fK he).1
  have sT:=aj hT (HO.tup [V.int b,V.ref il])
  exists T,_,rfl,bV ae,rfl,_,_,rfl,_,_,rfl,rfl
  obtain⟨H4,wW⟩:∃ H4,upd H3 T (HO.tup [V.int b,V.ref il])=H4:=⟨_,rfl⟩
  have sT':ay H3 H4:=by rw[<- wW];exact sT
  have alm:upd H3 T (HO.tup [kV (Sum.inl b),V.ref il])=H4:=wW
  try rw[wW]
  try rw[alm]
  have S4:=S3.same sT'
  obtain⟨dx4,Od⟩:=S4.pt.ob
  obtain⟨h0,h0m,e0⟩:=kr _ hme
  have bv:=S.val h0 (hL h0 h0m)
  rw[e0]at bv
  have bl:b.toNat<ds.length:=by omega
  have tK:#[300][b.toNat]?=some ds[b.toNat]:=by rw[JG bl,jC bl]
  obtain⟨da,eda⟩:∃ da,ds[b.toNat]=da:=⟨_,rfl⟩
  rw[eda]at tK
  obtain⟨mem,EZ,ndm,nem,hm⟩:=S4.mem b.toNat da tK
  rw[jn bv.1]at hm
  have at':Aj (#[300].map V.ref) b=some (.ref da):=rG bv.1 tK
  have afB:=sT' _ _ (ls3 _ hme)
  obtain⟨ins,afh⟩:∃ ins,(L.filter fun h=>decide (bH gs h=b))=ins:=⟨_,rfl⟩
  have Y9:H4 il=some (.lst (ins.map V.int)):=by rw[<- afh];exact afB
  have insm:∀ q,q∈ins↔q∈L/\bH gs q=b:=fun q=>by
   rw[<- afh,ju]
   exact and_congr_right fun _=>⟨of_decide_eq_true,decide_eq_true⟩
  have O6:b∉(es.take i).map Prod.fst:=fun z=>by
   obtain⟨e,h1,h2⟩:=jN.mp z
   obtain⟨j,hj,ej⟩:=jm h1
   rw[jR]at hj
   rw[zp]at ej
   have e2:=(fK he).2
   have:#[201][j]'#[30]=#[201][i]'#[30]:=by
    rw[Jh,Jh,ej,e2]
    exact h2
   have:=(JT U2).mp this
   omega
  have Ea:∀ q∈ins,q∈mem:=fun q hq=>by
   have h1:=(insm q).mp hq
   refine(hm q).mpr ⟨hL q h1.1,?_⟩
   rw[ga q (hL q h1.1) (by rw[h1.2];exact O6),h1.2]
  have Rw:ins.Nodup:=by rw[<- afh];exact ndL.filter _
  have ajd:ins≠[]:=fun z=>by
   have:=(insm h0).mpr ⟨h0m,e0⟩
   rw[z]at this
   cases this
  have etk:(es.take (i+1)).map Prod.fst=(es.take i).map Prod.fst++[b]:=by rw[jY,he,jD];rfl
  have lkm:(cH mem).length=mem.length:=by unfold cH;rw[aO]
  have ngo:=S4.go_
  have nms:=S4.ms_
  have nwt:=S4.wt_
  have fil:H il=none:=b1.fresh _ hme
  have g1:go≠il:=fun z=>by rw[<- z,S.go_]at fil;cases fil
  have g2:ms≠il:=fun z=>by rw[<- z,S.ms_]at fil;cases fil
  have g3:wt≠il:=fun z=>by rw[<- z,S.wt_]at fil;cases fil
  have aqD:=S4.Fm
  have aqE:=S4.aob
  have aly:mem.length<=many:=bM many ndm fun q hq=>((hm q).mp hq).1
  have aqB:ins.length<=mem.length:=lR Rw Ea
  refine⟨_,rfl,il,_,rfl,.inl (bS Y9),_,rfl,x,C,dx4,_,_,rfl,Od,pc.cl,pc.nm,rfl,_,rfl,ms,_,_,_,rfl,rfl,bS nms,at',da,_,rfl,EZ,_,_,rfl,rfl,_,rfl,rP #[53] #[53]⟩
  ·rw[aO,lkm]at c
   have lt:ins.length<mem.length:=by omega
   have dsn:#[300].length<1000:=by omega
   refine⟨_,rfl,x,dx4,_,rfl,Od,rfl,_,rfl,_,rfl,x,go,ms,wt,iw,da,il,b,wZ,mQ,mQ,mem,ins,ds++more,rfl,⟨dx4,Od⟩,ngo,nms,nwt,S4.iw_,S4.wn,⟨by omega,by omega,dsn,by omega⟩,bv.1,tK,EZ,Y9,Rw,fun q hq=>?_,⟨S4.n1,S4.n2,g1,S4.n3,g2,g3,fun z=>S4.ndi (z ▸ oz tK)⟩,fun E nw H5 fE hE acE ama SV acM aml hy hn S7=>?_⟩
   ·have h1:=(hm q).mp (Ea q hq)
    exact⟨Ea q hq,h1.1.1,by rw[S4.lg];exact h1.1.2⟩
   ·have nwv:nw=(#[300].length:Int)\/nw=b:=by
     by_cases z:b∈mQ\/ins.length<=#[273].length
     ·exact .inl (hy z)
     ·exact .inr (hn z)
    have nww:nw∉mQ:=fun z=>by
     by_cases y:b∈mQ\/ins.length<=#[273].length
     ·have:=S4.wv nw z
      rw[hy y]at this
      omega
     ·rw[hn y]at z
      exact y (.inl z)
    have S5:=S4.split bv.1 tK EZ hm ndm Rw Ea ajd lt fE hE acE ama SV acM aml nww nwv S7
    have ip:∀ p∈ins,0<=p:=fun p hp=>((hm p).mp (Ea p hp)).1.1
    have gr:∀ q,av many q->bH (setG wZ ins (#[300].length:Int)) q=if q∈ins then(#[300].length:Int)else bH wZ q:=fun q hq=>MP hq.1 (by rw[S4.lg];exact hq.2) ip
    have gh0:bH wZ h0=b:=by rw[ga h0 (hL h0 h0m) (by rw[e0];exact O6),e0]
    have inb:∀ q,av many q->(q∈ins↔bH wZ q=b/\q∈L):=fun q hq =>
     ⟨fun z=>⟨((hm q).mp (Ea q z)).2,((insm q).mp z).1⟩,fun z=>(insm q).mpr ⟨z.2,by
      rw[(gb q h0 hq (hL h0 h0m) (z.1.trans gh0.symm)).1]
      exact e0⟩⟩
    have fE0:H E=none:=by
     cases e:H E with
     | none=>rfl
     | some u =>
      have:=sT' _ _ (I9 E u (fun z=>by rw[z,ngo]at fE;cases fE) (fun z=>by rw[z,nms]at fE;cases fE) (fun z=>by rw[z,nwt]at fE;cases fE) (fun z=>by rw[z,S4.iw_]at fE;cases fE) (fun z=>by
       obtain⟨m,hm⟩:=S4.at_ (jb _ z)
       rw[fE]at hm
       cases hm) e)
      rw[fE]at this
      cases this
    have hB4:=sT' _ _ hB3
    have dam:da∈ds:=eda ▸ jM bl
    refine⟨setG wZ ins (#[300].length:Int),mQ++[nw],more++[E],_,_,_,rfl,by rw[<- JC];exact S5,?_,fun d hd=>?_,S7 _ _ (aG hB4 ngo #[2]) (aG hB4 nms #[2]) (aG hB4 EZ #[2]) (aG hB4 nwt #[2]) (aG hB4 S4.iw_ #[2]) hB4,fun e he=>?_,fun c u c1 c2 c3 c4 c5 e=>S7 c u c1 c2 (fun z=>c5 (z ▸ dam)) c3 c4 (sT' _ _ (I9 c u c1 c2 c3 c4 c5 e)),fun q hq nq=>?_,fun a c ha hc e=>?_⟩
    ·have el:(ds++(more++[E])).length=#[300].length+1:=by simp only[jH,jX];omega
     rw[el]
     exact jst wZ _ mQ _ _ j3 S4.val ⟨b,nw,rfl,nwv,fun z=>hy (.inl z),fun q hq e hl=>by rw[gr q hq,if_pos ((inb q hq).mpr ⟨e,hl⟩)],fun q hq n=>by rw[gr q hq,if_neg fun z=>n ((inb q hq).mp z)]⟩
    ·rcases sU.mp hd with z|z
     ·exact fm d z
     ·rw[jG.mp z];exact fE0
    ·have fe:=b1.fresh e he
     have he4:=sT' _ _ (ls3 e he)
     exact S7 _ _ (fun z=>by rw[z,S.go_]at fe;cases fe) (fun z=>by rw[z,S.ms_]at fe;cases fe) (aG he4 EZ #[2]) (fun z=>by rw[z,S.wt_]at fe;cases fe) (aG he4 S4.iw_ #[2]) he4
    ·rw[etk]at nq
     rw[gr q hq,if_neg fun z=>nq (jP _ (by rw[((insm q).mp z).2];exact jE))]
     exact ga q hq fun z=>nq (jb _ z)
    ·rw[gr a ha,gr c hc]at e
     by_cases ai:a∈ins
     ·by_cases ci:c∈ins
      ·have h1:=(insm a).mp ai
       have h2:=(insm c).mp ci
       exact⟨h1.2.trans h2.2.symm,fun _=>⟨fun _=>h2.1,fun _=>h1.1⟩⟩
      ·rw[if_pos ai,if_neg ci]at e
       have:=S4.val c hc
       omega
     ·by_cases ci:c∈ins
      ·rw[if_neg ai,if_pos ci]at e
       have:=S4.val a ha
       omega
      ·rw[if_neg ai,if_neg ci]at e
       have g:=gb a c ha hc e
       refine⟨g.1,fun z=>?_⟩
       rw[etk]at z
       rcases sU.mp z with z|z
       ·exact g.2 z
       ·have za:=jG.mp z
        exact⟨fun h=>absurd ((insm a).mpr ⟨h,za⟩) ai,fun h=>absurd ((insm c).mpr ⟨h,g.1.symm.trans za⟩) ci⟩
  ·rw[aO,lkm]at c
   have all:=O5 Rw Ea #[0]
   refine⟨wZ,mQ,more,_,_,_,rfl,S4,j3,fm,sT' _ _ hB3,(fun e he=>sT' _ _ (ls3 e he)),(fun c u c1 c2 c3 c4 c5 e=>sT' _ _ (I9 c u c1 c2 c3 c4 c5 e)),fun q hq nq=>?_,fun a c ha hc e=>?_⟩
   ·rw[etk]at nq
    exact ga q hq fun z=>nq (jb _ z)
   ·have g:=gb a c ha hc e
    refine⟨g.1,fun z=>?_⟩
    rw[etk]at z
    rcases sU.mp z with z|z
    ·exact g.2 z
    ·have za:=jG.mp z
     have inL:∀ q,av many q->bH gs q=b->q∈L:=fun q hq eq=>((insm q).mp (all q ((hm q).mpr ⟨hq,by rw[ga q hq (by rw[eq];exact O6),eq]⟩))).1
     exact⟨fun _=>inL c hc (g.1.symm.trans za),fun _=>inL a ha za⟩
 ·rintro σ' H' ⟨wZ,mQ,more,v1,v2,v3,rfl,S3,j3,fm,hB3,ls3,I9,ga,gb⟩
  rw[lk,jV]at gb
  refine k H' wZ mQ more S3 j3 (fun a b ha hb e hm=>?_) fm I9
  have g:=gb a b ha hb e
  refine(g.2 (Classical.byContradiction fun z=>?_)).mp hm
  have:=b1.non _ z
  have h2:a∈L.filter fun h=>decide (bH gs h=bH gs a):=ju.mpr ⟨hm,decide_eq_true rfl⟩
  rw[<- this]at h2
  cases h2
end
def Reach(wide:Nat)(rows:LL)(q:Int):Prop := ∃ row:LI,(∀ f∈row,0<=f/\f<(wide:Int))/\aR rows row 0=q
theorem Reach.zero:Reach wide rows 0:=⟨[],(fun f h=>by cases h),rfl⟩
theorem Reach.step{wide:Nat}{rows:LL}{q f:Int}(h:Reach wide rows q)(f0:0<=f)(f1:f<(wide:Int)):Reach wide rows #[263]:=by
 obtain⟨row,hr,rfl⟩:=h
 refine⟨row++[f],fun g hg=>?_,by rw[eB];rfl⟩
 rcases sU.mp hg with z|z
 ·exact hr g z
 ·rw[jG.mp z];exact⟨f0,f1⟩
theorem Reach.of{S:Int->Prop}(h0:S 0)(hs:∀ q,S q->∀ f,0<=f->f<(wide:Int)->S #[263])(h:Reach wide rows q):S q:=by
 obtain⟨row,hr,rfl⟩:=h
 have go:∀ (row:LI) (p:Int),(∀ f∈row,0<=f/\f<(wide:Int))->S p->S (aR rows row p):=by
  intro row
  induction row with
  | nil=>intro p _ hp;exact hp
  | cons f r ih=>intro p hr hp;exact ih (stepI rows p f) (fun g hg=>hr g (jJ _ hg)) (hs p hp f (hr f jE).1 (hr f jE).2)
 exact go row 0 hr h0
def dH(s:LI)(x:Int):LI:=if x∈s then s else s++[x]
def fA(rows:LL)(s:LI)(q:Int):LI:=#[78].foldl dH s
theorem abb(h:y∈s):y∈dH s x:=by
 unfold dH
 split
 ·exact h
 ·exact jb _ h
theorem aba(s:LI)(x:Int):x∈dH s x:=by
 unfold dH
 split
 ·assumption
 ·exact jP _ jE
theorem AS:∀ (xs:LI) {s:LI} {y:Int},y∈s->y∈xs.foldl dH s
 | [],_,_,h=>h
 | x :: xs,_,_,h=>AS xs (abb h)
theorem Ey:∀ (xs:LI) {s:LI} {y:Int},y∈xs->y∈xs.foldl dH s
 | [],_,_,h=>by cases h
 | x :: xs,s,y,h=>by
  rcases jU.mp h with rfl|h
  ·exact AS xs (aba s y)
  ·exact Ey xs h
theorem wY(rows:LL):∀ (qs:LI) {s:LI} {y:Int},y∈s->y∈qs.foldl #[277] s
 | [],_,_,h=>h
 | q :: qs,_,_,h=>wY rows qs (AS _ h)
theorem rN(rows:LL):∀ (qs:LI) {s:LI} {q y:Int},q∈qs->y∈rows.getD q.toNat []->y∈qs.foldl #[277] s
 | [],_,_,_,h,_=>by cases h
 | p :: qs,s,q,y,h,hy=>by
  rcases jU.mp h with rfl|h
  ·exact wY rows qs (Ey _ hy)
  ·exact rN rows qs h hy
structure Bfs(many wide:Nat)(rows:LL)(qs:LI):Prop where
 eq:qs=qs.foldl #[277] [0]
 nd:qs.Nodup
 inr:∀ q∈qs,0<=q/\q<(many:Int)
 re:∀ q,q∈qs↔Reach wide rows q
inductive Ht (K:Yh) (vs:List V) (H:Hp) (Q:VK) (E:XK):Prop
 | mk (m r g:Qo) (many wide:Nat) (rows:LL) (signs:LI) (_:vs=[.ref m,.int 0]) (_:bG H m r g wide rows signs) (_:aC many wide rows) (_:(1<=many/\many<=1000)) (_:∀ (l:Qo) (H':Hp) (qs:LI),ay H H'->H' l=some (.lst (qs.map V.int))->Bfs many wide rows qs->Q #[202] H')
structure Found(many wide:Nat)(rows:LL)(dn ks:LI):Prop where
 eq:ks=dn.foldl #[277] [0]
 nd:ks.Nodup
 inr:∀ q∈ks,0<=q/\q<(many:Int)
 re:∀ q∈ks,Reach wide rows q
structure Part(many wide:Nat)(rows:LL)(dn:LI)(xs:LI)(ks:LI):Prop where
 eq:ks=xs.foldl dH (dn.foldl #[277] [0])
 nd:ks.Nodup
 inr:∀ q∈ks,0<=q/\q<(many:Int)
 re:∀ q∈ks,Reach wide rows q
theorem Part.put(F:Part many wide rows dn xs ks)(h:q∉ks)(q0:0<=q)(q1:q<(many:Int))(r:Reach wide rows q):Part many wide rows dn (xs++[q]) (ks++[q]) where
 eq:=by
  rw[JM,<- F.eq]
  show _=dH ks q
  unfold dH
  rw[if_neg h]
 nd:=JQ.mpr ⟨F.nd,by simp,fun a ha b hb e=>h (by rw[<- jG.mp hb,<- e];exact ha)⟩
 inr:=fun p hp=>by
  rcases sU.mp hp with z|z
  ·exact F.inr p z
  ·rw[jG.mp z];exact⟨q0,q1⟩
 re:=fun p hp=>by
  rcases sU.mp hp with z|z
  ·exact F.re p z
  ·rw[jG.mp z];exact r
theorem Part.old(F:Part many wide rows dn xs ks)(h:q∈ks):Part many wide rows dn (xs++[q]) ks where
 eq:=by
  rw[JM,<- F.eq]
  show _=dH ks q
  unfold dH
  rw[if_pos h]
 nd:=F.nd
 inr:=F.inr
 re:=F.re
section
theorem cn:aE ["machine","start","rows","reached","level","fresh","here","there"] ["machine","start"] (ar mM):=cV #[3]
theorem Pb(F:bL K "reached_rooms" "reached_rooms" mM dV f fd)(eK:mg "list" = none):bw P w K mg base eS 1 f fd ["machine","start"] (Ht K):=by
 refine F.ok cn #[6] #[1]
 ·exists 44
  rfl
 obtain⟨m,r,g,many,wide,rows,signs,rfl,M,R,⟨n0,n1⟩,k⟩:=h
 obtain⟨cN,mH,hA⟩:=M.rows
 exists 98
 refine⟨_,(ah (aD (i:=2) cn.nd #[5])
   (ah (aD (i:=3) cn.nd (adk (Eu (pv 1) cM Ir) rfl rfl #[2] #[13]))
   (ah (aD (i:=4) cn.nd (cX #[81]))
   (ah (rW PassesOwn.never (wx (pv 4) (fun _=>rfl)) (ah (aD (i:=5) cn.nd (cX af))
   (ah (bq PassesOwn.never rfl (cI (pv 4)) (aL (i:=6) cn.nd) (ak (bq PassesOwn.never rfl (ik (aF aI (pv 2) (pv 6) #[12])) (aL (i:=7) cn.nd) (ak (cK (AR (Ac hu (pv 7) (pv 3)) #[60]) (ah (pM hu (pv 3) (pv 7) cM rfl)
   (ak (bJ (fc Yj Yk Yl bD (pv 5) (aa (pv 7) af))))) bB)))))
   (ak (aD (i:=4) cn.nd (pv 5))))))
   (ak (aJ (aM (DU rfl) #[38] eK wQ #[107]))))))),?_⟩
 exists 0
 exists _,rfl,m,_,_,_,rfl,rfl,bV M.tup,rfl
 refine fun D hD=>⟨_,rfl,ae,[(Sum.inl 0,V.bl true)],rfl,by show 1<=15;decide,?_⟩
 rw[Sd]
 have sD:=aj hD (HO.dK (cH [0]))
 refine⟨_,rfl,#[45],fun W hW=>?_⟩
 have hWD:W≠D:=fun z=>by rw[z,ae]at hW;cases hW
 have hW0:H W=none:=by rw[ag hWD]at hW;exact hW
 exists 55
 refine HR (t:=wJ _ _) (fun σ' H'=>∃ (ks:LI) (W:Qo) (v0 v1 v2:OV),σ'=[some #[73],some (.int 0),some (.ref r),some #[86],some (.ref W),v0,v1,v2]/\ay H H'/\H' D=some #[154]/\Found many wide rows ks ks) ?_ (fun iK=>?_)
 rotate_left
 ·refine Ag (fun mm σ' H'=>∃ (dn lv:LI) (W:Qo) (v0 v1 v2:OV),mm=2*(many-(dn++lv).length)+lv.length/\σ'=[some #[73],some (.int 0),some (.ref r),some #[86],some (.ref W),v0,v1,v2]/\ay H H'/\H' D=some (.dK (cH (dn++lv)))/\W≠D/\H' W=some #[294]/\Found many wide rows dn (dn++lv))
   ⟨_,[],[0],W,none,none,none,rfl,rfl,sD.trans (aj hW _),by rw[ag (Ne.symm hWD),ae];rfl,hWD,ae,?_⟩ ?_
  ·refine⟨rfl,by simp,fun q hq=>by rw[ZG]at hq;rw[jG.mp hq];omega,fun q hq=>by rw[ZG]at hq;rw[jG.mp hq];exact Reach.zero⟩
  rintro mm σ' H1 ⟨dn,lv,W,v0,v1,v2,rfl,rfl,s1,OK,hWD,hW1,FD⟩
  by_cases en:lv=[]
  ·subst en
   refine⟨_,rfl,_,.inl ⟨_,bS hW1,rfl⟩,lQ ?_⟩
   rw[jx]at OK FD
   exact iK _ _ ⟨dn,W,v0,v1,v2,rfl,s1,OK,FD⟩
  exists _,rfl,_,.inl ⟨_,bS hW1,rfl⟩
  have ne:(!(lv.map V.int).isEmpty)=true:=by
   cases lv with
   | nil=>exact absurd rfl en
   | cons x r=>rfl
  rw[ne]
  have kl:=bM many FD.nd FD.inr
  have lv1:1<=lv.length:=by
   cases lv with
   | nil=>exact absurd rfl en
   | cons x r=>exact Za (jd _)
  rw[jH]at kl
  refine oU ⟨fun σ' H'=>∃ m',m'<2*(many-(dn++lv).length)+lv.length/\∃ (dn lv:LI) (W:Qo) (v0 v1 v2:OV),m'=2*(many-(dn++lv).length)+lv.length/\σ'=[some #[73],some (.int 0),some (.ref r),some #[86],some (.ref W),v0,v1,v2]/\ay H H'/\H' D=some (.dK (cH (dn++lv)))/\W≠D/\H' W=some #[294]/\Found many wide rows dn (dn++lv),fun σ' H' h=>h,?_⟩
  refine⟨#[24],fun N hN=>?_⟩
  have hND:N≠D:=fun z=>by rw[z,OK]at hN;cases hN
  have hNW:N≠W:=fun z=>by rw[z,hW1]at hN;cases hN
  have hN0:H N=none:=s1.free hN
  exists 55
  refine⟨_,rfl,W,rfl,⟨_,bS (by rw[ag (Ne.symm hNW)];exact hW1)⟩,dj (K:=K) (xs:=lv.map V.int) (fun i σ' H'=>∃ (fr:LI) (v1 v2:OV),
    σ'=[some #[73],some (.int 0),some (.ref r),some #[86],some (.ref W),some (.ref N),v1,v2]/\ay H H'/\H' D=some (.dK (cH (dn++lv++fr)))/\H' W=some #[294]/\H' N=some (.lst (fr.map V.int))/\Found many wide rows (dn++lv.take i) (dn++lv++fr))
   ⟨[],v1,v2,rfl,s1.trans (aj hN _),by rw[ag (Ne.symm hND),jx];exact OK,by rw[ag (Ne.symm hNW)];exact hW1,ae,by rw[ZM,jx,jx];exact FD⟩ (fun i σ' H' _ ⟨_,_,_,_,_,_,e,_,_⟩=>bS e) ?_ ?_⟩
  ·rintro i x σ' H2 hi ⟨fr,v1,v2,rfl,s2,F5,hW2,OL,F2⟩
   obtain⟨here,rfl,hz⟩:=bp hi
   have Y9:i<lv.length:=(fK hz).1
   have hk:here∈dn++lv++fr:=jb _ (jP _ (oz hz))
   have hh:=F2.inr here hk
   have hre:=F2.re here hk
   have l1:here.toNat<rows.length:=by rw[R.len];omega
   obtain⟨ra,e1,e2⟩:=hA.get l1
   have lr:rows[here.toNat].length=wide:=R.row _ (jM l1)
   refine⟨_,rfl,_,rfl,r,_,_,_,rfl,rfl,bV (s2 _ _ mH),rG hh.1 e1,ra,rfl,⟨_,bV (s2 _ _ e2)⟩,pH (K:=K) (xs:=rows[here.toNat].map V.int) (fun j σ' H'=>∃ (fr:LI) (v:OV),
     σ'=[some #[73],some (.int 0),some (.ref r),some #[86],some (.ref W),some (.ref N),some (.int here),v]/\ay H H'/\H' D=some (.dK (cH (dn++lv++fr)))/\H' W=some #[294]/\H' N=some (.lst (fr.map V.int))/\Part many wide rows (dn++lv.take i) (rows[here.toNat].take j) (dn++lv++fr))
    ⟨fr,v2,rfl,s2,F5,hW2,OL,⟨F2.eq,F2.nd,F2.inr,F2.re⟩⟩ (fun i σ' H' _ ⟨_,_,_,e,_,_,_,_⟩=>bV (e _ _ e2)) ?_ ?_⟩
   ·rintro j x σ' H3 hj ⟨fr,v,rfl,s3,AI,hW3,LJ,F3⟩
    exists 64
    have hjl:j<rows[here.toNat].length:=(fK hz).1
    have zin:=R.val _ (jM l1) z (oz hz)
    have kl3:=bM many F3.nd F3.inr
    rw[jH,jH]at kl3
    have stp:stepI rows here (j:Int)=z:=by
     unfold stepI
     rw[getD_at l1,jB,getD_at hjl]
     exact(fK hz).2
    have tk:rows[here.toNat].take (j+1)=rows[here.toNat].take j++[z]:=by rw[jY,hz];rfl
    exists _,rfl,_,rfl,D,_,rfl,eV.k (k:=Sum.inl z) AI,_,rfl
    rw[sS]
    refine Aq #[53] #[53]
    ·refine⟨_,rfl,_,rfl,D,_,rfl,A0.k (k:=Sum.inl z) AI (aw (by unfold cH;rw[aO,jH,jH];omega)),?_⟩
     rw[Ab c]
     have hN4:(upd H3 D (HO.dK (cH (dn++lv++fr++[z])))) N=some (.lst (fr.map V.int)):=by rw[ag hND];exact LJ
     refine⟨_,rfl,.inl ⟨rfl,_,bS hN4⟩,_,rfl,N,_,_,rfl,rfl,hN4,zk (show _<=2000 by rw[aO];omega) #[13],?_⟩
     have F4:=F3.put c zin.1 zin.2 (by rw[<- stp];exact hre.step #[0] #[0])
     refine⟨fr++[z],_,rfl,au (au s3 hD) hN0,?_,?_,?_,?_⟩
     ·rw[ag (Ne.symm hND),ae,JC]
     ·rw[ag (Ne.symm hNW),ag hWD];exact hW3
     ·rw[ae,jD];rfl
     ·rw[tk,<- JC];exact F4
    ·exists fr,_,rfl,s3,AI,hW3,LJ
     rw[tk]
     exact F3.old c
   ·rintro σ' H3 ⟨fr,v,rfl,s3,AI,hW3,LJ,F3⟩
    rw[aO,jV]at F3
    refine⟨fr,_,_,rfl,s3,AI,hW3,LJ,⟨?_,F3.nd,F3.inr,F3.re⟩⟩
    have e9:dn++lv.take (i+1)=(dn++lv.take i)++[here]:=by rw[jY,hz,JC];rfl
    rw[F3.eq,e9,JM (l:=dn++lv.take i)]
    show _=fA rows _ here
    unfold fA
    rw[getD_at l1]
  ·rintro σ' H3 ⟨fr,v1,v2,rfl,s3,AI,hW3,LJ,F3⟩
   rw[aO,jV]at F3
   have kl3:=bM many F3.nd F3.inr
   rw[jH,jH]at kl3
   refine⟨_,rfl,_,?_,dn++lv,fr,N,_,_,_,rfl,rfl,s3,AI,hND,LJ,F3⟩
   rw[jH,jH]
   omega
 rintro σ' H1 ⟨ks,W,v0,v1,v2,rfl,s1,OK,FD⟩
 refine⟨_,rfl,D,_,rfl,OK,fun l hl=>?_⟩
 have e:(cH ks).map (fun q=>kV q.1)=ks.map V.int:=by
  unfold cH
  rw[JO]
  rfl
 rw[e]
 have z0:(0:Int)∈ks:=by rw[FD.eq];exact wY rows ks jE
 refine k l _ ks (s1.trans (aj hl _)) ae ⟨FD.eq,FD.nd,FD.inr,fun q=>⟨FD.re q,fun h=>?_⟩⟩
 refine Reach.of (S:=fun q=>q∈ks) z0 (fun p hp f f0 f1=>?_) h
 have BV:=FD.inr p hp
 have l1:p.toNat<rows.length:=by rw[R.len];omega
 have lr:rows[p.toNat].length=wide:=R.row _ (jM l1)
 have hf:f.toNat<rows[p.toNat].length:=by omega
 rw[FD.eq]
 refine rN rows ks hp ?_
 unfold stepI
 rw[getD_at l1,getD_at hf]
 exact jM hf
end
def sgn(signs:LI)(x:Int):Int:=signs.getD x.toNat 0
def Am(wide:Nat)(v:LI):Prop := ∀ f∈v,0<=f/\f<(wide:Int)
def Agree(rows:LL)(wide:Nat)(signs:LI)(n:Nat)(a b:Int):Prop := ∀ v,Am wide v->v.length<=n->sgn signs (aR rows v a)=sgn signs (aR rows v b)
theorem Agree.up(h0:sgn signs a=sgn signs b)(h:∀ f:Nat,f<wide->Agree rows wide signs n (stepI rows a f) (stepI rows b f)):Agree rows wide signs (n+1) a b:=by
 intro v h1 h2
 cases v with
 | nil=>exact h0
 | cons f v =>
  have hf:=h1 f jE
  have q:=h f.toNat #[0] v (fun g hg=>h1 g (jJ _ hg)) (by rw[jc]at h2;omega)
  rw[jn hf.1]at q
  exact q
def iL(rows:LL)(wide:Nat)(signs:LI)(x y:Int):Prop := ∀ n,Agree rows wide signs n x y
theorem iL.sgn(h:iL rows wide signs x y):My.sgn signs x=My.sgn signs y:=h 0 [] #[257] (jF 0)
theorem iL.led(h:iL rows wide signs x y){f:Nat}(hf:f<wide):iL rows wide signs #[217] #[262]:=fun n v h1 h2=>by
 refine h (n+1) ((f:Int) :: v) (fun g hg=>?_) (by rw[jc];omega)
 rcases jU.mp hg with z|z
 ·rw[z]
  exact⟨by omega,by omega⟩
 ·exact h1 g z
def oP(c:LI)(q:Int):Int:=c.getD q.toNat 0
structure BW(many wide:Nat)(rows cols:LL):Prop where
 of:∀ c∈cols,∃ f:Nat,f<wide/\∀ q,av many q->oP c q=stepI rows q f
 all:∀ f:Nat,f<wide->∃ c∈cols,∀ q,av many q->oP c q=stepI rows q f
theorem BW.room(C:BW many wide rows cols)(R:aC many wide rows):∀ x,av many x->∀ c∈cols.map oP,av many (c x):=fun x hx c hc=>by
 obtain⟨l,hl,rfl⟩:=jN.mp hc
 obtain⟨f,hf,e⟩:=C.of l hl
 rw[e x hx]
 exact cS R hx.1 hx.2 #[0] #[0]
theorem BW.ai2(C:BW many wide rows cols)(R:aC many wide rows):ad1 many #[213] #[240] #[130] where
 sgn:=fun x y h=>h.2.2.sgn
 led:=fun x y h c hc=>by
  have h1:=C.room R x h.1 c hc
  have h2:=C.room R y h.2.1 c hc
  exists h1,h2
  obtain⟨l,hl,rfl⟩:=jN.mp hc
  obtain⟨f,hf,e⟩:=C.of l hl
  rw[e x h.1,e y h.2.1]
  exact h.2.2.led hf
theorem Rk{W:Int->Prop}(C:BW many wide rows cols)(R:aC many wide rows)(h:P6 many #[213] #[240] #[130] grp W)(st:∀ x y,av many x->av many y->grp x=grp y->∀ c∈cols.map oP,grp (c x)=grp (c y))(hx:av many x)(hy:av many y):
  grp x=grp y↔iL rows wide signs x y:=by
 refine⟨fun e n=>?_,fun a=>h.coarse x y hx hy ⟨hx,hy,a⟩⟩
 induction n generalizing x y with
 | zero =>
  intro v _ h2
  have:v=[]:=List.eq_nil_of_length_eq_zero #[0]
  rw[this]
  exact h.signs x y hx hy e
 | succ n ih =>
  refine Agree.up (h.signs x y hx hy e) fun f hf=>?_
  obtain⟨c,hc,ec⟩:=C.all f hf
  have hm:oP c∈cols.map oP:=jN.mpr ⟨c,hc,rfl⟩
  have q:=st x y hx hy e _ hm
  rw[ec x hx,ec y hy]at q
  exact ih (cS R hx.1 hx.2 #[0] #[0]) (cS R hy.1 hy.2 #[0] #[0]) q
def aY:Nat->LI->Option Nat
 | m,[]=>some m
 | m,t :: r=>if t=(m:Int)then aY (m+1) r else if t<(m:Int)then aY m r else none
def bO:Nat->Nat->LL->Option Nat
 | _,m,[]=>some m
 | q,m,r :: rs=>if q<m then(aY m r).bind fun m'=>bO (q+1) m' rs else none
def mS(rows:LL):Prop:=bO 0 1 rows=some rows.length
def Tells(wide:Nat)(rows ax:LL)(signs signs':LI)(a b:Int):Prop := ∀ v,Am wide v->sgn signs (aR rows v a)=sgn signs' (aR ax v b)
def Apart(wide:Nat)(rows:LL)(signs:LI):Prop := ∀ a b,av rows.length a->av rows.length b->iL rows wide signs a b->a=b
section
theorem Tells.led(h:Tells wide rows ax signs signs' a b){f:Nat}(hf:f<wide):Tells wide rows ax signs signs' (stepI rows a f) (stepI ax b f):=fun v hv =>
 h ((f:Int) :: v) fun g hg=>by
  rcases jU.mp hg with z|z
  ·rw[z]
   exact⟨by omega,by omega⟩
  ·exact hv g z
theorem Tells.left{c:Int}(h:Tells wide rows ax signs signs' a c)(h':Tells wide rows ax signs signs' b c):iL rows wide signs a b:=fun n v hv _=>(h v hv).trans (h' v hv).symm
theorem Tells.right{c:Int}(h:Tells wide rows ax signs signs' c a)(h':Tells wide rows ax signs signs' c b):iL ax wide signs' a b:=fun n v hv _=>(h v hv).symm.trans (h' v hv)
theorem EC(A:Apart wide rows signs)(A':Apart wide ax signs'):∀ {r r':LI} {m m1 m2:Nat},r.length=r'.length->(∀ i:Nat,i<m->Tells wide rows ax signs signs' i i)->(m<=rows.length/\m<=ax.length) ->
  (∀ (j:Nat) (t t':Int),r[j]?=some t->r'[j]?=some t'->av rows.length t/\av ax.length t'/\Tells wide rows ax signs signs' t t')->aY m r=some m1->aY m r'=some m2 ->
  r=r'/\m1=m2/\(∀ i:Nat,i<m1->Tells wide rows ax signs signs' i i)/\m1<=rows.length/\m1<=ax.length
 | [],[],m,m1,m2,_,hB,hm,_,h1,h2=>by
  cases h1
  cases h2
  exact⟨rfl,rfl,hB,hm.1,hm.2⟩
 | [],t' :: r',_,_,_,hl,_,_,_,_,_=>by cases hl
 | t :: r,[],_,_,_,hl,_,_,_,_,_=>by cases hl
 | t :: r,t' :: r',m,m1,m2,hl,hB,hm,hT,h1,h2=>by
  obtain⟨ht,U1,tt⟩:=hT 0 t t' rfl rfl
  have hl':r.length=r'.length:=Nat.succ.inj hl
  have hT':∀ (j:Nat) (u u':Int),r[j]?=some u->r'[j]?=some u'->av rows.length u/\av ax.length u'/\Tells wide rows ax signs signs' u u' := fun j u u' a b=>hT (j+1) u u' a b
  have low:∀ {x:Int},0<=x->x<(m:Int)->∃ i:Nat,i<m/\x=(i:Int):=fun h0 h1=>⟨_,by omega,(jn h0).symm⟩
  have CB:(if t=(m:Int)then aY (m+1) r else if t<(m:Int)then aY m r else none)=some m1:=h1
  have Dk:(if t'=(m:Int)then aY (m+1) r' else if t'<(m:Int)then aY m r' else none)=some m2:=h2
  by_cases c:t=(m:Int)
  ·by_cases c':t'=(m:Int)
   ·rw[if_pos c]at CB
    rw[if_pos c']at Dk
    have hB':∀ i:Nat,i<m+1->Tells wide rows ax signs signs' i i:=fun i hi=>by
     rcases JP i m with z|z
     ·exact hB i z
     ·have:i=m:=by omega
      rw[this,<- c]
      rw[c']at tt
      rw[c]
      rw[c]at tt
      exact tt
    obtain⟨e1,e2⟩:=EC A A' hl' hB' ⟨by have:=ht.2;omega,by have:=U1.2;omega⟩ hT' CB Dk
    exact⟨by rw[c,c',e1],e2⟩
   ·rw[if_neg c']at Dk
    by_cases d:t'<(m:Int)
    ·obtain⟨i,hi,rfl⟩:=low U1.1 d
     have:=A t (i:Int) ht ⟨by omega,by omega⟩ (tt.left (hB i hi))
     omega
    ·rw[if_neg d]at Dk
     cases Dk
  ·rw[if_neg c]at CB
   by_cases d:t<(m:Int)
   ·rw[if_pos d]at CB
    obtain⟨i,hi,rfl⟩:=low ht.1 d
    have e:=A' t' (i:Int) U1 ⟨by omega,by omega⟩ (tt.right (hB i hi))
    subst e
    rw[if_neg #[0],if_pos d]at Dk
    obtain⟨e1,e2⟩:=EC A A' hl' hB hm hT' CB Dk
    exact⟨by rw[e1],e2⟩
   ·rw[if_neg d]at CB
    cases CB
theorem Ho(A:Apart wide rows signs)(A':Apart wide ax signs')(R:aC rows.length wide rows)(R':aC ax.length wide ax):∀ {rs rs':LL} {q m:Nat},rs=rows.drop q->rs'=ax.drop q->q<=rows.length->q<=ax.length ->
  (∀ i:Nat,i<m->Tells wide rows ax signs signs' i i)->(m<=rows.length/\m<=ax.length)->bO q m rs=some rows.length->bO q m rs'=some ax.length->rs=rs'/\rows.length=ax.length/\∀ i:Nat,i<rows.length->Tells wide rows ax signs signs' i i
 | [],[],q,m,_,_,_,_,hB,_,h1,h2=>by
  have e1:m=rows.length:=Option.some.inj h1
  have e2:m=ax.length:=Option.some.inj h2
  exact⟨rfl,e1.symm.trans e2,fun i hi=>hB i #[0]⟩
 | [],r' :: rs',q,m,e,_,hq,_,_,_,h1,h2=>by
  have e1:m=rows.length:=Option.some.inj h1
  have hl:rows.length<=q:=zD.mp e.symm
  have Dk:(if q<m then(aY m r').bind fun m'=>bO (q+1) m' rs' else none)=some ax.length:=h2
  rw[if_neg #[0]]at Dk
  cases Dk
 | r :: rs,[],q,m,_,e,_,hq,_,_,h1,h2=>by
  have e1:m=ax.length:=Option.some.inj h2
  have hl:ax.length<=q:=zD.mp e.symm
  have CB:#[122]=some rows.length:=h1
  rw[if_neg #[0]]at CB
  cases CB
 | r :: rs,r' :: rs',q,m,e,e',hq,Ic,hB,hm,h1,h2=>by
  have CB:#[122]=some rows.length:=h1
  have Dk:(if q<m then(aY m r').bind fun m'=>bO (q+1) m' rs' else none)=some ax.length:=h2
  by_cases c:q<m
  ·rw[if_pos c]at CB Dk
   have l1:q<rows.length:=by omega
   have l2:q<ax.length:=by omega
   have d1:=jz l1
   have d2:=jz l2
   rw[d1]at e
   rw[d2]at e'
   injection e with er es
   injection e' with er' AE
   cases o1:aY m r with
   | none=>rw[o1]at CB;cases CB
   | some m1 =>
    cases o2:aY m r' with
    | none=>rw[o2]at Dk;cases Dk
    | some m2 =>
     rw[o1]at CB
     rw[o2]at Dk
     have hr:=R.row _ (jM l1)
     have mH:=R'.row _ (jM l2)
     have key:∀ (j:Nat) (t t':Int),r[j]?=some t->r'[j]?=some t'->av rows.length t/\av ax.length t'/\Tells wide rows ax signs signs' t t' := fun j t t' a b=>by
      rw[er]at a
      rw[er']at b
      have ja:=(fK a).1
      have jw:j<wide:=by omega
      have s1:stepI rows (q:Int) (j:Int)=t:=by
       unfold stepI
       rw[jB,jB,getD_at l1,jI,a]
       rfl
      have s2:stepI ax (q:Int) (j:Int)=t' := by
       unfold stepI
       rw[jB,jB,getD_at l2,jI,b]
       rfl
      exists R.val _ (jM l1) t (oz a),R'.val _ (jM l2) t' (oz b)
      have:=(hB q c).led jw
      rw[s1,s2]at this
      exact this
     obtain⟨e1,e2,hB',k1,k2⟩:=EC A A' (by rw[er,er',hr,mH]) hB hm key o1 o2
     subst e2
     obtain⟨f1,f2,f3⟩:=Ho A A' R R' es AE l1 l2 hB' ⟨k1,k2⟩ CB Dk
     exact⟨by rw[e1,f1],f2,f3⟩
  ·rw[if_neg c]at CB
   cases CB
theorem Ow(A:Apart wide rows signs)(A':Apart wide ax signs')(R:aC rows.length wide rows)(R':aC ax.length wide ax)(n0:0<rows.length)(n1:0<ax.length)(O:mS rows)(O':mS ax)(ls:signs.length=rows.length)(ls':signs'.length=ax.length)(h:Tells wide rows ax signs signs' 0 0):rows=ax/\signs=signs' := by
 obtain⟨e,el,hB⟩:=Ho A A' R R' (rs:=rows) (rs' := ax) (q:=0) (m:=1) rfl rfl (jd _) (jd _) (fun i hi=>by
  have:i=0:=by omega
  rw[this]
  exact h) ⟨n0,n1⟩ O O'
 refine⟨e,zV #[0] fun i h1 h2=>?_⟩
 have q:=hB i #[0] [] #[257]
 unfold sgn at q
 have q':signs.getD ((i:Int)).toNat 0=signs'.getD ((i:Int)).toNat 0:=q
 rw[jB,getD_at h1,getD_at h2]at q'
 exact q'
end
def bj(φ:Int->Int):Nat->Nat
 | 0=>0
 | m+1=>if φ (m:Int)=(bj φ m:Int)then bj φ m+1 else bj φ m
def cq(φ:Int->Int)(n:Nat):List Nat:=(jZ n).filter fun q=>decide (φ (q:Int)=(bj φ q:Int))
def iO(φ:Int->Int)(n:Nat):Prop := ∀ q:Nat,q<n->0<=φ (q:Int)/\φ (q:Int)<=(bj φ q:Int)
section
theorem FR:∀ {a b:Nat},a<=b->bj φ a<=bj φ b:=by
 intro a b h
 induction h with
 | refl=>exact jF _
 | @step m _ ih =>
  have e:bj φ (m+1)=if φ (m:Int)=(bj φ m:Int)then bj φ m+1 else bj φ m:=rfl
  refine jk ih ?_
  rw[e]
  by_cases c:φ (m:Int)=(bj φ m:Int)
  ·rw[if_pos c];exact JS _
  ·rw[if_neg c];exact jF _
theorem iO.lt(h:iO φ n){t:Nat}(ht:t<m)(hm:m<=n):φ (t:Int)<(bj φ m:Int):=by
 have h1:=(h t #[0]).2
 have h2:=FR (φ:=φ) (show t+1<=m from ht)
 have h3:bj φ (t+1)=if φ (t:Int)=(bj φ t:Int)then bj φ t+1 else bj φ t:=rfl
 by_cases c:φ (t:Int)=(bj φ t:Int)
 ·rw[if_pos c]at h3
  omega
 ·rw[if_neg c]at h3
  omega
theorem oQ(φ:Int->Int):∀ n,(cq φ n).length=bj φ n
 | 0=>rfl
 | n+1=>by
  have ih:=oQ φ n
  unfold cq at ih ⊢
  rw[JI,JW,jH,ih]
  show _=if φ (n:Int)=(bj φ n:Int)then bj φ n+1 else bj φ n
  by_cases c:φ (n:Int)=(bj φ n:Int)
  ·rw[if_pos c,JD (by exact decide_eq_true c)]
   rfl
  ·rw[if_neg c,JB (by rw[decide_eq_false c];decide)]
   rfl
theorem Iw(F:iO φ n):∀ {r:LI} {m m1:Nat},m<=n->(∀ t∈r,av n t)->aY m r=some m1->aY (bj φ m) (r.map φ)=some (bj φ m1)/\m1<=n/\(∀ t∈r,t<(m1:Int))/\m<=m1
 | [],m,m1,hm,_,h=>by
  cases h
  exact⟨rfl,hm,fun t ht=>(by cases ht),jF _⟩
 | t :: r,m,m1,hm,hr,h=>by
  have ht:=hr t jE
  have mH:∀ u∈r,av n u:=fun u hu=>hr u (jJ _ hu)
  exists 19
  show(if φ t=(bj φ m:Int)then aY (bj φ m+1) (r.map φ)else if φ t<(bj φ m:Int)then aY (bj φ m) (r.map φ)else none)=_/\_
  by_cases c:t=(m:Int)
  ·rw[if_pos c]at h'
   have mn:m<n:=by have:=ht.2;omega
   obtain⟨e1,e2,e3,e4⟩:=Iw F (show m+1<=n from mn) mH h'
   have e5:∀ u∈t :: r,u<(m1:Int):=fun u hu=>by
    rcases jU.mp hu with z|z
    ·rw[z,c];omega
    ·exact e3 u z
   have es:bj φ (m+1)=if φ (m:Int)=(bj φ m:Int)then bj φ m+1 else bj φ m:=rfl
   rw[c]
   by_cases d:φ (m:Int)=(bj φ m:Int)
   ·rw[if_pos d]
    rw[if_pos d]at es
    rw[es]at e1
    rw[c]at e5
    exact⟨e1,e2,e5,by omega⟩
   ·rw[if_neg d]at es
    rw[if_neg d,if_pos (by have:=(F m mn).2;omega)]
    rw[es]at e1
    rw[c]at e5
    exact⟨e1,e2,e5,by omega⟩
  ·rw[if_neg c]at h'
   by_cases d:t<(m:Int)
   ·rw[if_pos d]at h'
    obtain⟨e1,e2,e3,e4⟩:=Iw F hm mH h'
    have lt:φ t<(bj φ m:Int):=by
     have:=F.lt (t:=t.toNat) (m:=m) (by have:=ht.1;omega) hm
     rw[jn ht.1]at this
     exact this
    rw[if_neg #[0],if_pos lt]
    refine⟨e1,e2,fun u hu=>?_,e4⟩
    rcases jU.mp hu with z|z
    ·rw[z];omega
    ·exact e3 u z
   ·rw[if_neg d]at h'
    cases h'
theorem Iv(F:iO φ n):∀ {r:LI} {m m1:Nat},m<=n->(∀ t∈r,av n t/\φ t<(bj φ m:Int))->aY m r=some m1->bj φ m1=bj φ m/\m1<=n/\(∀ t∈r,t<(m1:Int))/\m<=m1
 | [],m,m1,hm,_,h=>by
  cases h
  exact⟨rfl,hm,fun t ht=>(by cases ht),jF _⟩
 | t :: r,m,m1,hm,hr,h=>by
  have ht:=hr t jE
  exists 19
  by_cases c:t=(m:Int)
  ·rw[if_pos c]at h'
   have mn:m<n:=by have:=ht.1.2;omega
   have es:bj φ (m+1)=bj φ m:=by
    show(if φ (m:Int)=(bj φ m:Int)then bj φ m+1 else bj φ m)=_
    rw[if_neg (by have:=ht.2;rw[c]at this;omega)]
   obtain⟨e1,e2,e3,e4⟩:=Iv F (show m+1<=n from mn) (fun u hu=>by rw[es];exact hr u (jJ _ hu)) h'
   refine⟨e1.trans es,e2,fun u hu=>?_,by omega⟩
   rcases jU.mp hu with z|z
   ·rw[z,c];omega
   ·exact e3 u z
  ·rw[if_neg c]at h'
   by_cases d:t<(m:Int)
   ·rw[if_pos d]at h'
    obtain⟨e1,e2,e3,e4⟩:=Iv F hm (fun u hu=>hr u (jJ _ hu)) h'
    refine⟨e1,e2,fun u hu=>?_,e4⟩
    rcases jU.mp hu with z|z
    ·rw[z];omega
    ·exact e3 u z
   ·rw[if_neg d]at h'
    cases h'
def dQ(φ:Int->Int)(rows:LL):Nat->LL->LL
 | _,[]=>[]
 | q,r :: rs=>if φ (q:Int)=(bj φ q:Int)then r.map φ :: dQ φ rows (q+1) rs else dQ φ rows (q+1) rs
theorem EA(F:iO φ rows.length)(R:aC rows.length wide rows)(cp:∀ x y:Nat,x<rows.length->y<rows.length->φ (x:Int)=φ (y:Int)->∀ f:Nat,f<wide->φ #[217]=φ #[262]):
  ∀ {rs:LL} {q m k:Nat},rs=rows.drop q->q<=rows.length->m<=rows.length->(∀ x:Nat,x<q->∀ f:Nat,f<wide->stepI rows x f<(m:Int))->bO q m rs=some k->bO (bj φ q) (bj φ m) (dQ φ rows q rs)=some (bj φ k)
 | [],q,m,k,_,_,_,_,h=>by
  cases h
  rfl
 | r :: rs,q,m,k,e,hq,hm,old,h=>by
  have h':#[122]=some k:=h
  by_cases c:q<m
  ·rw[if_pos c]at h'
   have l1:q<rows.length:=by omega
   rw[jz l1]at e
   injection e with er es
   cases o1:aY m r with
   | none=>rw[o1]at h';cases h'
   | some m1 =>
    rw[o1]at h'
    have hr:=R.row _ (jM l1)
    have hv:∀ t∈r,av rows.length t:=fun t ht=>R.val _ (jM l1) t (er ▸ ht)
    have stp:∀ f:Nat,f<wide->stepI rows (q:Int) (f:Int)∈r:=fun f hf=>by
     have lf:f<rows[q].length:=by omega
     have:stepI rows (q:Int) (f:Int)=rows[q][f]:=by
      unfold stepI
      rw[jB,jB,getD_at l1,getD_at lf]
     rw[this,er]
     exact jM lf
    have AE:bj φ (q+1)=if φ (q:Int)=(bj φ q:Int)then bj φ q+1 else bj φ q:=rfl
    have iK:∀ m1:Nat,(∀ t∈r,t<(m1:Int))->m<=m1->∀ x:Nat,x<q+1->∀ f:Nat,f<wide->stepI rows x f<(m1:Int):=fun m1 e3 e4 x hx f hf=>by
     rcases JP x q with z|z
     ·have:=old x z f hf
      omega
     ·have:x=q:=by omega
      rw[this]
      exact e3 _ (stp f hf)
    by_cases d:φ (q:Int)=(bj φ q:Int)
    ·obtain⟨e1,e2,e3,e4⟩:=Iw F hm hv o1
     have ih:=EA F R cp es l1 e2 (iK m1 e3 e4) h'
     rw[AE,if_pos d]at ih
     have lt:bj φ q<bj φ m:=by
      have:=F.lt c hm
      omega
     show bO _ _ (if φ (q:Int)=(bj φ q:Int)then _ else _)=_
     rw[if_pos d]
     show(if bj φ q<bj φ m then(aY (bj φ m) (r.map φ)).bind fun m'=>bO (bj φ q+1) m' (dQ φ rows (q+1) rs)else none)=_
     rw[if_pos lt,e1]
     exact ih
    ·-- room q is ar2 an akl one
     have hl:φ (q:Int)<(bj φ q:Int):=by
      have:=(F q l1).2
      omega
     obtain⟨x,hx,ex⟩:∃ x:Nat,x<q/\φ (x:Int)=φ (q:Int):=by
      have:∀ (b:Nat) (g:Int),0<=g->g<(bj φ b:Int)->∃ x:Nat,x<b/\φ (x:Int)=g:=by
       intro b
       induction b with
       | zero=>intro g g0 g1;exact absurd g1 (by show ¬ g<((0:Nat):Int);omega)
       | succ b ih =>
        intro g g0 g1
        have eb:bj φ (b+1)=if φ (b:Int)=(bj φ b:Int)then bj φ b+1 else bj φ b:=rfl
        by_cases z:g<(bj φ b:Int)
        ·obtain⟨x,h1,h2⟩:=ih g g0 z
         exact⟨x,by omega,h2⟩
        ·by_cases y:φ (b:Int)=(bj φ b:Int)
         ·rw[eb,if_pos y]at g1
          exact⟨b,JU b,by omega⟩
         ·rw[eb,if_neg y]at g1
          exact absurd g1 z
      exact this q _ (F q l1).1 hl
     have hv':∀ t∈r,av rows.length t/\φ t<(bj φ m:Int):=fun t ht=>by
      exists hv t ht
      obtain⟨f,hf,et⟩:=jm (er ▸ ht)
      have fw:f<wide:=by omega
      have st:stepI rows (q:Int) (f:Int)=t:=by
       unfold stepI
       rw[jB,jB,getD_at l1,getD_at hf,et]
      have c1:=cp x q #[0] l1 ex f fw
      rw[st]at c1
      rw[<- c1]
      have o:=old x hx f fw
      have rm:=cS R (show(0:Int)<=(x:Int) by omega) #[0] (show(0:Int)<=(f:Int) by omega) #[0]
      have:=F.lt (t:=#[217].toNat) (m:=m) #[0] hm
      rw[jn rm.1]at this
      exact this
     obtain⟨e1,e2,e3,e4⟩:=Iv F hm hv' o1
     have ih:=EA F R cp es l1 e2 (iK m1 e3 e4) h'
     rw[AE,if_neg d,e1]at ih
     show bO _ _ (if φ (q:Int)=(bj φ q:Int)then _ else _)=_
     rw[if_neg d]
     exact ih
  ·rw[if_neg c]at h'
   cases h'
end
abbrev dd(s:LI)(v:Int):LI:=yg s v
theorem rM{v:Int}(h:v∈s):dd s v=s:=by
 unfold dd yg
 simp[h]
theorem lP{v:Int}(h:v∉s):dd s v=s++[v]:=by
 unfold dd yg
 simp[h]
theorem Ca:∀ (ys s:LI),∃ zs,ys.foldl dd s=s++zs
 | [],s=>⟨[],by simp⟩
 | y :: ys,s=>by
  by_cases c:y∈s
  ·obtain⟨zs,e⟩:=Ca ys s
   exact⟨zs,by rw[Jf,rM c,e]⟩
  ·obtain⟨zs,e⟩:=Ca ys (s++[y])
   exact⟨y :: zs,by rw[Jf,lP c,e,JC];rfl⟩
theorem Mp(gs:LI)(m:Nat):∃ zs,aK gs=aK #[245]++zs:=by
 obtain⟨zs,e⟩:=Ca (gs.drop m) (aK #[245])
 exists zs
 rw[<- e]
 show gs.foldl dd []=(gs.drop m).foldl dd (#[245].foldl dd [])
 rw[<- JM,zS]
theorem oA{g:Int}(h:gs[m]?=some g):aK (gs.take (m+1))=dd (aK #[245]) g:=by
 unfold aK
 rw[jY,h,JM]
 rfl
def rh(gs:LI)(q:Int):Int:=((aK gs).idxOf (gs.getD q.toNat 0):Nat)
theorem acO{zs:LI}{g:Int}(h:g∈xs):(xs++zs).idxOf g=xs.idxOf g:=by rw[zq,if_pos h]
theorem Dt{g:Int}(h:gs[m]?=some g)(ho:g∈aK #[245]):rh gs (m:Int)=((aK #[245]).idxOf g:Nat):=by
 obtain⟨zs,e⟩:=Mp gs m
 unfold rh
 rw[jB,jI,h,e]
 show(((aK #[245]++zs).idxOf g:Nat):Int)=_
 rw[acO ho]
theorem Ds{g:Int}(h:gs[m]?=some g)(ho:g∉aK #[245]):rh gs (m:Int)=((aK #[245]).length:Nat):=by
 obtain⟨zs,e⟩:=Mp gs (m+1)
 rw[oA h,lP ho]at e
 unfold rh
 rw[jB,jI,h,e,JC]
 show(((aK #[245]++([g]++zs)).idxOf g:Nat):Int)=_
 rw[zq,if_neg ho]
 simp
theorem HN(gs:LI):∀ {m:Nat},m<=gs.length->bj (rh gs) m=(aK #[245]).length
 | 0,_=>rfl
 | m+1,h=>by
  have ih:=HN gs (m:=m) #[0]
  have hg:gs[m]?=some gs[m]:=jC #[0]
  show(if rh gs (m:Int)=(bj (rh gs) m:Int)then bj (rh gs) m+1 else bj (rh gs) m)=_
  rw[ih,oA hg]
  by_cases c:gs[m]∈aK #[245]
  ·have e:=Dt hg c
   have lt:=jv c
   rw[rM c,if_neg #[0]]
  ·have e:=Ds hg c
   rw[lP c,if_pos e,jH]
   rfl
theorem SD(gs:LI):iO (rh gs) gs.length:=fun q hq=>by
 have hg:gs[q]?=some gs[q]:=jC hq
 rw[HN gs #[0]]
 by_cases c:gs[q]∈aK (gs.take q)
 ·have e:=Dt hg c
  have lt:=jv c
  omega
 ·have e:=Ds hg c
  omega
theorem aa4(hx:av gs.length x)(hy:av gs.length y):rh gs x=rh gs y↔gs.getD x.toNat 0=gs.getD y.toNat 0:=by
 have mem:∀ {z:Int},av gs.length z->gs.getD z.toNat 0∈aK gs:=fun {z} hz=>by
  have l:z.toNat<gs.length:=by have:=hz.1;have:=hz.2;omega
  rw[getD_at l]
  exact dk.mpr (jM l)
 unfold rh
 constructor
 ·intro h
  have h':(aK gs).idxOf (gs.getD x.toNat 0)=(aK gs).idxOf (gs.getD y.toNat 0):=by omega
  have lx:=jv (mem hx)
  have ly:=jv (mem hy)
  have ex:(aK gs)[(aK gs).idxOf (gs.getD x.toNat 0)]=gs.getD x.toNat 0:=Jw lx
  have ey:(aK gs)[(aK gs).idxOf (gs.getD y.toNat 0)]=gs.getD y.toNat 0:=Jw ly
  rw[<- ex,<- ey]
  congr 1
 ·intro h
  rw[h]
theorem wg:∀ {b:Nat} {g:Int},0<=g->g<(bj φ b:Int)->∃ x:Nat,x<b/\φ (x:Int)=g/\(bj φ x:Int)=g
 | 0,g,g0,g1=>absurd g1 (by show ¬ g<((0:Nat):Int);omega)
 | b+1,g,g0,g1=>by
  have eb:bj φ (b+1)=if φ (b:Int)=(bj φ b:Int)then bj φ b+1 else bj φ b:=rfl
  by_cases z:g<(bj φ b:Int)
  ·obtain⟨x,h1,h2,afo⟩:=wg g0 z
   exact⟨x,by omega,h2,afo⟩
  ·by_cases y:φ (b:Int)=(bj φ b:Int)
   ·rw[eb,if_pos y]at g1
    exact⟨b,JU b,by omega,by omega⟩
   ·rw[eb,if_neg y]at g1
    exact absurd g1 z
theorem Cd:∀ {n q:Nat},q<n->φ (q:Int)=(bj φ q:Int)->(cq φ n)[bj φ q]?=some q
 | 0,q,h,_=>absurd h (zP _)
 | n+1,q,h,e=>by
  have l:=oQ φ n
  unfold cq at l ⊢
  rw[JI,JW]
  rcases JP q n with z|z
  ·have ih:=Cd z e
   unfold cq at ih
   rw[JG (fK ih).1]
   exact ih
  ·have:q=n:=by omega
   subst this
   rw[JK #[0],l,Jv,JD (by exact decide_eq_true e)]
   rfl
theorem Ez{φ:Int->Int}:∀ {rs:LL} {q:Nat},rs=rows.drop q->q<=rows.length->dQ φ rows q rs=((List.range' q (rows.length-q)).filter fun i:Nat=>decide (φ (i:Int)=(bj φ i:Int))).map fun i=>(rows.getD i []).map φ
 | [],q,e,hq=>by
  have hl:rows.length<=q:=zD.mp e.symm
  rw[show rows.length-q=0 from by omega]
  rfl
 | r :: rs,q,e,hq=>by
  have l1:q<rows.length:=by
   rcases JP q rows.length with z|z
   ·exact z
   ·rw[Zg z]at e
    cases e
  rw[jz l1]at e
  injection e with er es
  have ih:=Ez (φ:=φ) es l1
  rw[show rows.length-q=(rows.length-(q+1))+1 from by omega,List.range'_succ]
  show(if φ (q:Int)=(bj φ q:Int)then r.map φ :: dQ φ rows (q+1) rs else dQ φ rows (q+1) rs)=_
  by_cases c:φ (q:Int)=(bj φ q:Int)
  ·rw[if_pos c,ih,JD (by exact decide_eq_true c),JN,getD_at l1,er]
  ·rw[if_neg c,ih,JB (by rw[decide_eq_false c];decide)]
theorem BK:dQ φ rows 0 rows=(cq φ rows.length).map fun i=>(rows.getD i []).map φ:=by
 have h:=Ez (φ:=φ) (rows:=rows) (rs:=rows) (q:=0) rfl (jd _)
 rw[h]
 unfold cq
 rw[List.range_eq_range',Qh]
structure dJ(wide:Nat)(rows ax:LL)(signs signs':LI):Prop where
 ok:aC ax.length wide ax
 pos:0<ax.length
 sgn:signs'.length=ax.length
 ord:mS ax
 apart:Apart wide ax signs'
 tells:Tells wide rows ax signs signs' 0 0
section
theorem abe(F:iO φ rows.length)(R:aC rows.length wide rows)(cp:∀ x y:Nat,x<rows.length->y<rows.length->φ (x:Int)=φ (y:Int)->∀ f:Nat,f<wide->φ #[217]=φ #[262])(hq:av rows.length q){f:Nat}(hf:f<wide):
  stepI #[207] (φ q) f=φ #[263]:=by
 obtain⟨n,rfl⟩:=cZ hq.1
 have hn:n<rows.length:=by have:=hq.2;omega
 have lt:=F.lt hn (jF _)
 obtain⟨x,hx,e1,e2⟩:=wg (F n hn).1 lt
 have at' := Cd hx (e1.trans e2.symm)
 have lr:(rows[x]).length=wide:=R.row _ (jM hx)
 have e3:#[207].getD (φ (n:Int)).toNat []=(rows[x]).map φ:=by
  rw[BK,<- e2,jB,jI,jO,at']
  show(rows.getD x []).map φ=_
  rw[getD_at hx]
 have e4:stepI rows (x:Int) (f:Int)=(rows[x])[f]'#[0]:=by
  unfold stepI
  rw[jB,jB,getD_at hx,getD_at #[0]]
 rw[<- cp x n hx hn e1 f hf,e4]
 unfold stepI
 rw[e3,jB,jI,jO,jC #[0]]
 rfl
theorem ME(F:iO φ rows.length)(R:aC rows.length wide rows)(cp:∀ x y:Nat,x<rows.length->y<rows.length->φ (x:Int)=φ (y:Int)->∀ f:Nat,f<wide->φ #[217]=φ #[262]):∀ {v:LI} {q:Int},Am wide v->av rows.length q->aR #[207] v (φ q)=φ (aR rows v q)
 | [],q,_,_=>rfl
 | f :: v,q,hv,hq=>by
  have hf:=hv f jE
  obtain⟨m,rfl⟩:=cZ hf.1
  show aR _ v (stepI _ (φ q) (m:Int))=φ (aR rows v (stepI rows q (m:Int)))
  rw[abe F R cp hq #[0]]
  exact ME F R cp (fun g hg=>hv g (jJ _ hg)) (cS R hq.1 hq.2 hf.1 hf.2)
theorem aar(F:iO φ rows.length)(R:aC rows.length wide rows)(O:mS rows)(n0:0<rows.length)(al:∀ x y:Nat,x<rows.length->y<rows.length->(φ (x:Int)=φ (y:Int)↔iL rows wide signs x y)):
  dJ wide rows #[207] signs #[156]:=by
 have cp:∀ x y:Nat,x<rows.length->y<rows.length->φ (x:Int)=φ (y:Int)->∀ f:Nat,f<wide->φ #[217]=φ #[262]:=fun x y hx hy e f hf=>by
  have a:=((al x y hx hy).mp e).led hf
  have rx:=cS R (show(0:Int)<=(x:Int) by omega) #[0] (show(0:Int)<=(f:Int) by omega) #[0]
  have ry:=cS R (show(0:Int)<=(y:Int) by omega) #[0] (show(0:Int)<=(f:Int) by omega) #[0]
  have h:=(al #[217].toNat #[262].toNat #[0] #[0]).mpr (by rw[jn rx.1,jn ry.1];exact a)
  rw[jn rx.1,jn ry.1]at h
  exact h
 have ll:#[207].length=bj φ rows.length:=by rw[BK,aO,oQ]
 have p0:φ ((0:Nat):Int)=((0:Nat):Int):=by
  have h:=F 0 n0
  have e:bj φ 0=0:=rfl
  rw[e]at h
  omega
 have c1:bj φ 1=1:=by
  show(if φ ((0:Nat):Int)=((bj φ 0:Nat):Int)then bj φ 0+1 else bj φ 0)=1
  rw[if_pos (by rw[p0];rfl)]
  rfl
 have dN:0<bj φ rows.length:=by
  have:=FR (φ:=φ) (show 1<=rows.length from n0)
  omega
 have sg:∀ {q:Int},av rows.length q->sgn #[156] (φ q)=sgn signs q:=fun {q} hq=>by
  obtain⟨n,rfl⟩:=cZ hq.1
  have hn:n<rows.length:=by have:=hq.2;omega
  obtain⟨x,hx,e1,e2⟩:=wg (F n hn).1 (F.lt hn (jF _))
  have at' := Cd hx (e1.trans e2.symm)
  have a:=((al x n hx hn).mp e1).sgn
  rw[<- a]
  unfold sgn
  rw[<- e2,jB,jB,jI,jO,at']
  rfl
 have tl:∀ {q:Int},av rows.length q->Tells wide rows #[207] signs #[156] q (φ q):=fun {q} hq v hv=>by
  rw[ME F R cp hv hq,sg (mG R hv hq.1 hq.2)]
 refine⟨⟨rfl,fun r hr=>?_,fun r hr v hv=>?_⟩,by omega,by rw[aO,oQ,ll],?_,fun a b ha hb hab=>?_,?_⟩
 ·rw[BK]at hr
  obtain⟨x,hx,rfl⟩:=jN.mp hr
  have xl:=je.mp (ju.mp hx).1
  rw[aO,getD_at xl]
  exact R.row _ (jM xl)
 ·rw[BK]at hr
  obtain⟨x,hx,rfl⟩:=jN.mp hr
  have xl:=je.mp (ju.mp hx).1
  obtain⟨t,ht,rfl⟩:=jN.mp hv
  rw[getD_at xl]at ht
  have rt:=R.val _ (jM xl) t ht
  obtain⟨n,rfl⟩:=cZ rt.1
  have hn:n<rows.length:=by omega
  have h1:=(F n hn).1
  have h2:=F.lt hn (jF _)
  rw[ll]
  exact⟨h1,h2⟩
 ·have h:=EA F R cp (rs:=rows) (q:=0) (m:=1) (k:=rows.length) rfl (jd _) n0 (fun x hx=>absurd hx (zP _)) O
  rw[c1]at h
  show bO 0 1 _=some _
  rw[ll]
  exact h
 ·rw[ll]at ha hb
  obtain⟨x,hx,e1,_⟩:=wg ha.1 ha.2
  obtain⟨y,hy,e2,_⟩:=wg hb.1 hb.2
  rw[<- e1,<- e2]
  refine(al x y hx hy).mpr fun n v hv hl=>?_
  rw[tl (q:=(x:Int)) ⟨by omega,by omega⟩ v hv,tl (q:=(y:Int)) ⟨by omega,by omega⟩ v hv,e1,e2]
  exact hab n v hv hl
 ·have h:=tl (q:=0) ⟨by omega,by omega⟩
  have z:φ 0=0:=p0
  rw[z]at h
  exact h
end
theorem Ad:∀ (r s:LI),∃ zs,r.foldl dH s=s++zs
 | [],s=>⟨[],by simp⟩
 | t :: r,s=>by
  by_cases c:t∈s
  ·obtain⟨zs,e⟩:=Ad r s
   exact⟨zs,by rw[Jf,show dH s t=s from if_pos c,e]⟩
  ·obtain⟨zs,e⟩:=Ad r (s++[t])
   exact⟨t :: zs,by rw[Jf,show dH s t=s++[t]from if_neg c,e,JC];rfl⟩
theorem Bu(rows:LL):∀ (qs s:LI),∃ zs,qs.foldl #[277] s=s++zs
 | [],s=>⟨[],by simp⟩
 | q :: qs,s=>by
  obtain⟨z1,e1⟩:=Ad #[78] s
  obtain⟨z2,e2⟩:=Bu rows qs (fA rows s q)
  exists z1++z2
  rw[Jf,e2]
  show#[78].foldl dH s++z2=_
  rw[e1,JC]
def rj(qs:LI)(q:Int):Int:=((qs.idxOf q:Nat):Int)
theorem Hr:∀ {r s zs:LI},qs=r.foldl dH s++zs->aY s.length (r.map (rj qs))=some (r.foldl dH s).length
 | [],s,zs,_=>rfl
 | t :: r,s,zs,e=>by
  have e':qs=r.foldl dH (dH s t)++zs:=e
  obtain⟨ys,ey⟩:=Ad r (dH s t)
  have ih:=Hr e'
  show(if rj qs t=(s.length:Int)then aY (s.length+1) (r.map (rj qs))else if rj qs t<(s.length:Int)then aY s.length (r.map (rj qs))else none)=some (r.foldl dH (dH s t)).length
  by_cases c:t∈s
  ·have ep:dH s t=s:=if_pos c
   rw[ep]at ih e' ey ⊢
   have ei:qs.idxOf t=s.idxOf t:=by rw[e',ey,JC,zq,if_pos c]
   have lt:=jv c
   have er:rj qs t=((s.idxOf t:Nat):Int):=by unfold rj;rw[ei]
   rw[if_neg #[0],if_pos #[0]]
   exact ih
  ·have ep:dH s t=s++[t]:=if_neg c
   rw[ep]at ih e' ey ⊢
   have ei:qs.idxOf t=s.length:=by
    rw[e',ey,JC,JC,zq,if_neg c]
    simp
   have er:rj qs t=(s.length:Int):=by unfold rj;rw[ei]
   rw[if_pos er]
   rw[jH,jX]at ih
   exact ih
section
theorem EF(R:aC many wide rows)(n0:0<many)(eq:qs=qs.foldl #[277] [0])(nd:qs.Nodup)(re:∀ q∈qs,∃ row,Am wide row/\aR rows row 0=q):
  ∀ {ps:LI} {k:Nat},ps=qs.drop k->k<=qs.length->bO k ((qs.take k).foldl #[277] [0]).length (ps.map fun q=>#[78].map (rj qs))=some qs.length
 | [],k,e,hk=>by
  have hl:qs.length<=k:=zD.mp e.symm
  show some _=some _
  rw[Jr hl,<- eq]
 | p :: ps,k,e,hk=>by
  have l1:k<qs.length:=by
   rcases JP k qs.length with z|z
   ·exact z
   ·rw[Zg z]at e
    cases e
  have e0:=e
  rw[jz l1]at e
  injection e with ep es
  obtain⟨s,hs⟩:∃ s,(qs.take k).foldl #[277] [0]=s:=⟨_,rfl⟩
  have all:qs=(p :: ps).foldl #[277] s:=by
   rw[<- hs,<- JM,e0,zS]
   exact eq
  obtain⟨zs,ez⟩:=Bu rows (p :: ps) s
  rw[<- all]at ez
  have ks:k<s.length:=by
   rcases JP k s.length with z|z
   ·exact z
   ·have sub:∀ q∈s,q∈qs.take k:=fun q hq=>by
     have:s=qs.take s.length:=by
      have h:(s++zs).take s.length=s:=List.take_left' rfl
      rw[<- ez]at h
      exact h.symm
     rw[this]at hq
     exact(List.take_prefix_take_left z).subset hq
    have cl:∀ q∈s,∀ f:Int,0<=f->f<(wide:Int)->av many q->stepI rows q f∈s:=fun q hq f f0 f1 hr=>by
     rw[<- hs]
     refine rN rows (qs.take k) (sub q hq) ?_
     exists 33
     have lf:f.toNat<rows[q.toNat].length:=by rw[R.row _ (jM lq)];omega
     unfold stepI
     rw[getD_at lq,getD_at lf]
     exact jM lf
    have z0:(0:Int)∈s:=by rw[<- hs];exact wY rows _ jE
    have wk:∀ (row:LI) (q:Int),Am wide row->av many q->q∈s->aR rows row q∈s:=fun row=>by
     induction row with
     | nil=>intro q _ _ h;exact h
     | cons f row ih =>
      intro q hf hr h
      have h0:=hf f jE
      exact ih _ (fun g hg=>hf g (jJ _ hg)) (cS R hr.1 hr.2 h0.1 h0.2) (cl q h f h0.1 h0.2 hr)
    have lq:qs[k]∈s:=by
     obtain⟨row,hf,ew⟩:=re qs[k] (jM l1)
     rw[<- ew]
     exact wk row 0 hf ⟨by omega,by omega⟩ z0
    have ht:=sub _ lq
    obtain⟨i,hi,ei⟩:=jm ht
    rw[jR]at hi
    rw[zp]at ei
    have:=(JT nd).mp ei
    omega
  show(if k<((qs.take k).foldl #[277] [0]).length then(aY ((qs.take k).foldl #[277] [0]).length ((rows.getD p.toNat []).map (rj qs))).bind fun m'=>bO (k+1) m' (ps.map fun q=>#[78].map (rj qs))else none)=_
  rw[hs,if_pos ks]
  obtain⟨ys,ey⟩:=Bu rows ps (fA rows s p)
  have all2:qs=(rows.getD p.toNat []).foldl dH s++ys:=by
   rw[all]
   exact ey
  rw[Hr all2]
  have ih:=EF R n0 eq nd re es l1
  have et:(qs.take (k+1)).foldl #[277] [0]=fA rows s p:=by
   rw[jY,jC l1,JM,hs,<- ep]
   rfl
  rw[et]at ih
  exact ih
theorem Px(R:aC many wide rows)(inr:∀ q∈qs,av many q)(hq:q∈qs){f:Nat}(hf:f<wide):stepI #[11] (rj qs q) f=rj qs #[263]:=by
 have li:=jv hq
 have hr:=inr q hq
 exists 33
 have lf:f<rows[q.toNat].length:=by rw[R.row _ (jM lq)];exact hf
 have ei:qs[qs.idxOf q]?=some q:=by rw[jC li,Jw li]
 have e3:#[11].getD (rj qs q).toNat []=(rows[q.toNat]).map (rj qs):=by
  unfold rj
  rw[jB,jI,jO,ei]
  show#[78].map _=_
  rw[getD_at lq]
 unfold stepI
 rw[e3,jB,getD_at lq,getD_at lf,jI,jO,jC lf]
 rfl
theorem abl(R:aC many wide rows)(eq:qs=qs.foldl #[277] [0])(inr:∀ q∈qs,av many q){f:Int}(hq:q∈qs)(f0:0<=f)(f1:f<(wide:Int)):stepI rows q f∈qs:=by
 rw[eq]
 refine rN rows qs hq ?_
 have hr:=inr q hq
 exists 33
 have lf:f.toNat<rows[q.toNat].length:=by rw[R.row _ (jM lq)];omega
 unfold stepI
 rw[getD_at lq,getD_at lf]
 exact jM lf
theorem EG(R:aC many wide rows)(eq:qs=qs.foldl #[277] [0])(inr:∀ q∈qs,av many q):∀ {v:LI} {q:Int},Am wide v->q∈qs->aR #[11] v (rj qs q)=rj qs (aR rows v q)/\aR rows v q∈qs
 | [],q,_,hq=>⟨rfl,hq⟩
 | f :: v,q,hv,hq=>by
  have hf:=hv f jE
  obtain⟨m,rfl⟩:=cZ hf.1
  have hs:=abl R eq inr hq hf.1 hf.2
  have ih:=EG R eq inr (fun g hg=>hv g (jJ _ hg)) hs
  have st:=Px R inr hq (f:=m) #[0]
  show aR _ v (stepI _ (rj qs q) (m:Int))=rj qs (aR rows v (stepI rows q (m:Int)))/\aR rows v (stepI rows q (m:Int))∈qs
  rw[st]
  exact ih
theorem MR(R:aC many wide rows)(n0:0<many)(eq:qs=qs.foldl #[277] [0])(nd:qs.Nodup)(inr:∀ q∈qs,av many q)(re:∀ q∈qs,∃ row,Am wide row/\aR rows row 0=q):
  aC qs.length wide #[11]/\mS #[11]/\0<qs.length/\Tells wide rows #[11] signs #[141] 0 0:=by
 obtain⟨zs,ez⟩:=Bu rows qs [0]
 rw[<- eq]at ez
 have z0:(0:Int)∈qs:=by rw[ez];exact jE
 have r0:rj qs 0=0:=by
  unfold rj
  rw[ez]
  simp
 refine⟨⟨jW _,fun r hr=>?_,fun r hr v hv=>?_⟩,?_,Ja z0,fun v hv=>?_⟩
 ·obtain⟨q,hq,rfl⟩:=jN.mp hr
  have h:=inr q hq
  have lq:q.toNat<rows.length:=by have:=R.len;have:=h.1;have:=h.2;omega
  rw[aO,getD_at lq]
  exact R.row _ (jM lq)
 ·obtain⟨q,hq,rfl⟩:=jN.mp hr
  have h:=inr q hq
  have lq:q.toNat<rows.length:=by have:=R.len;have:=h.1;have:=h.2;omega
  obtain⟨t,ht,rfl⟩:=jN.mp hv
  have tm:t∈qs:=by rw[eq];exact rN rows qs hq ht
  have:=jv tm
  unfold rj
  omega
 ·have h:=EF R n0 eq nd re (ps:=qs) (k:=0) rfl (jd _)
  show bO 0 1 _=some _
  rw[aO]
  exact h
 ·have h:=EG R eq inr hv z0
  rw[r0]at h
  rw[h.1]
  obtain⟨w,ew⟩:∃ w,aR rows v 0=w:=⟨_,rfl⟩
  have hw:=h.2
  rw[ew]at hw ⊢
  have li:=jv hw
  unfold sgn rj
  rw[jB,jI (l:=qs.map _),jO,jC li,Jw li]
  rfl
end
theorem Tells.trans{r3:LL}{s3:LI}{c:Int}(h:Tells wide r1 r2 s1 s2 a b)(h':Tells wide r2 r3 s2 s3 b c):Tells wide r1 r3 s1 s3 a c:=fun v hv=>(h v hv).trans (h' v hv)
theorem Tells.symm(h:Tells wide r1 r2 s1 s2 a b):Tells wide r2 r1 s2 s1 b a:=fun v hv=>(h v hv).symm
theorem dJ.of{ss:LI}(h:dJ wide rs ax ss signs')(t:Tells wide rows rs signs ss 0 0):dJ wide rows ax signs signs' :=
 ⟨h.ok,h.pos,h.sgn,h.ord,h.apart,t.trans h.tells⟩
theorem dJ.one{a b:LL}{sa sb:LI}(h1:dJ wide r1 a s1 sa)(h2:dJ wide r2 b s2 sb)(t:Tells wide r1 r2 s1 s2 0 0):a=b/\sa=sb:=
 Ow h1.apart h2.apart h1.ok h2.ok h1.pos h2.pos h1.ord h2.ord h1.sgn h2.sgn ((h1.tells.symm.trans t).trans h2.tells)
theorem L8(R:aC many wide rows)(n0:0<many)(eq:qs=qs.foldl #[277] [0])(nd:qs.Nodup)(inr:∀ q∈qs,av many q)(re:∀ q∈qs,∃ row,Am wide row/\aR rows row 0=q)(lg:gs.length=qs.length)(hg:∀ x y:Nat,x<qs.length->y<qs.length->(gs.getD x 0=gs.getD y 0↔iL #[11] wide #[141] x y)):
  dJ wide rows (dQ (rh gs) #[11] 0 #[11]) signs ((cq (rh gs) qs.length).map fun q=>#[141].getD q 0):=by
 obtain⟨R1,O1,p1,t1⟩:=MR (signs:=signs) R n0 eq nd inr re
 have el:#[11].length=qs.length:=jW _
 have F:=SD gs
 have h:=aar (φ:=rh gs) (wide:=wide) (rows:=qs.map fun q=>#[78].map (rj qs)) (signs:=qs.map fun q=>signs.getD q.toNat 0) (by rw[el,<- lg];exact F) (by rw[el];exact R1) O1 (by rw[el];exact p1) (fun x y hx hy=>by
  rw[el]at hx hy
  rw[aa4 ⟨by omega,by omega⟩ ⟨by omega,by omega⟩,jB,jB]
  exact hg x y hx hy)
 rw[el]at h
 exact h.of t1
def Ci(xs:LI)(k:Nat):List #[303]:=(xs.zipIdx k).map fun p=>(Sum.inl p.1,V.int (p.2:Int))
theorem sQ(xs:LI)(k:Nat):(Ci xs k).length=xs.length:=by
 unfold Ci
 rw[aO,QC]
theorem Aa:∀ (xs:LI) (k:Nat) (g:Int),eR (Ci xs k) (Sum.inl g)=if g∈xs then some (.int ((k+xs.idxOf g:Nat):Int))else none
 | [],k,g=>by rw[if_neg #[10]];rfl
 | x :: xs,k,g=>by
  have ih:=Aa xs (k+1) g
  have e0:Ci (x :: xs) k=(Sum.inl x,V.int (k:Int)) :: Ci xs (k+1):=rfl
  by_cases e:x=g
  ·subst e
   rw[e0,mF rfl,if_pos jE,QT]
   simp
  ·rw[e0,ft (fun z=>e (Sum.inl.inj z)),ih]
   have m:g∈x :: xs↔g∈xs:=by simp[Ne.symm e]
   by_cases c:g∈xs
   ·have i:(x :: xs).idxOf g=xs.idxOf g+1:=by rw[QT,show(x==g)=false from beq_false_of_ne e];rfl
    rw[if_pos c,if_pos (m.mpr c),i]
    congr 3
    omega
   ·rw[if_neg c,if_neg fun z=>c (m.mp z)]
theorem Ih{g:Int}(h:g∉xs):putK (Ci xs 0) (Sum.inl g) (V.int (xs.length:Int))=Ci (xs++[g]) 0:=by
 unfold putK
 rw[if_neg (by
  intro z
  obtain⟨p,hp,e⟩:=Ji.mp z
  obtain⟨k,hk,rfl⟩:=jN.mp hp
  have e' := Sum.inl.inj (of_decide_eq_true e)
  have m:k.1∈xs:=by
   obtain⟨i,hi,ei⟩:=jm hk
   rw[List.getElem_zipIdx]at ei
   rw[<- ei]
   exact jM _
  exact h (e' ▸ m))]
 unfold Ci
 rw[ZT,jD,Jd]
 rfl
theorem AM:∀ (gs s:LI),s.Nodup->(gs.foldl dd s).Nodup
 | [],s,h=>h
 | g :: gs,s,h=>by
  rw[Jf]
  by_cases c:g∈s
  ·rw[rM c];exact AM gs s h
  ·rw[lP c];exact AM gs _ (sV h c)
theorem adg(gs:LI):(aK gs).Nodup:=AM gs [] JZ
theorem iG:∀ (gs s:LI),(gs.foldl dd s).length<=s.length+gs.length
 | [],s=>jF _
 | g :: gs,s=>by
  rw[Jf]
  by_cases c:g∈s
  ·rw[rM c]
   have:=iG gs s
   rw[jc]
   omega
  ·rw[lP c]
   have:=iG gs (s++[g])
   rw[jH,jX]at this
   rw[jc]
   omega
theorem rT(gs:LI):(aK gs).length<=gs.length:=by
 have:=iG gs []
 rw[Jo,Jd]at this
 exact this
def fO(gs:LI):LI:=(jZ gs.length).map fun i:Nat=>rh gs i
theorem BI(h0:0<=q)(h1:q<(gs.length:Int)):bH (fO gs) q=rh gs q:=by
 unfold bH fO
 have l:q.toNat<gs.length:=by omega
 rw[getD_at (by rw[aO,jq];exact l),Jh,QD,jn h0]
theorem aa5(h0:0<=q)(h1:q<(gs.length:Int)):0<=rh gs q/\rh gs q<((aK gs).length:Int):=by
 have l:q.toNat<gs.length:=by omega
 have m:gs.getD q.toNat 0∈aK gs:=by rw[getD_at l];exact dk.mpr (jM l)
 have:=jv m
 unfold rh
 omega
theorem aa6(h:j<(aK gs).length):∃ q:Int,av gs.length q/\rh gs q=(j:Int):=by
 have m:(aK gs)[j]∈gs:=dk.mp (jM h)
 obtain⟨i,hi,e⟩:=jm m
 refine⟨(i:Int),⟨by omega,by omega⟩,?_⟩
 unfold rh
 rw[jB,getD_at hi,e]
 have l:=jv (jM h)
 have q:=(JT (adg gs)).mp (Jw l)
 rw[q]
theorem RG(col:LI)(q:Int):(dA col q).Nodup:=by
 unfold dA
 refine Je.mpr ((List.nodup_range.filter _).imp fun {a b} n z=>n ?_)
 have z':(a:Int)=(b:Int):=z
 omega
inductive M9 (C:Qo) (vs:List V) (H:Hp) (Q:VK) (E:XK):Prop
 | mk (x dx g:Qo) (signs:LI) (_:vs=[.ref x,.ref g]) (_:H x=some (.ins C dx [])) (_:H g=some (.tup #[299])) (_:signs.length<1000) (_:∀ (H':Hp) (go ms wt iw:Qo) (ds:List Qo),(∀ b u,b≠x->H b=some u->H' b=some u)->H go=none->H ms=none->H wt=none->H iw=none->(∀ d∈ds,H d=none)->CV H' C x go ms wt iw signs.length #[223] ds ((jZ ds.length).map fun i:Nat=>(i:Int))->Q .non H')
section
theorem cG:aE ["self","signs","numbers","group_of","members","here","group"] ["self","signs"] (ar cO):=cV #[3]
theorem mf:aU ["self","signs","numbers","group_of","members","here","group"] (ar cO) ["sign","numbers"] [none,some 2] ⟨.function,[#[48],("sign",.local),("len",.globalImplicit),("numbers",.free)],false,false,[]⟩:=mz #[3]
theorem mh:aU ["self","signs","numbers","group_of","members","here","group"] (ar cO) ["sign"] [none] ⟨.function,[#[48],("sign",.local)],false,false,[]⟩:=mz #[3]
theorem ml:aU ["self","signs","numbers","group_of","members","here","group"] (ar cO) ["group"] [none] ⟨.function,[#[48],("group",.local)],false,false,[]⟩:=mz #[3]
theorem Pa(F:bL K "__init__" "Parted.__init__" cO dV f fd)(pc:J5 K C)(aN:mg "len" = none)(eK:mg "list" = none)(aB:mg "range" = none)(iy:mg "dict" = none)(bN:mg "enumerate" = none):bw P w K mg base eS 1 f fd ["self","signs"] (M9 C):=by
 refine F.ok cG #[6] #[1]
 ·obtain⟨x,dx,g,signs,rfl,_⟩:=h
  rfl
 obtain⟨x,dx,g,signs,rfl,hx,hg,ln,k⟩:=h
 exists 98
 refine⟨_,(ah (aD (i:=2) cG.nd oW)
   (ah (iq (i:=3) rfl cG.nd rfl #[248] mf (ik (pv 1)) (fun _ _ _ _=>(aL (i:=0) mf.nd)) (fun _ _ _ _=>(Dr (pv 1) (pv 0) (az wR #[38] aN bx #[81]) ⟨rfl,rfl,rfl,rfl⟩)))
   (ah (iq (i:=4) rfl cG.nd rfl #[248] mh (adt (pv 2)) (fun _ _ _ _=>(aL (i:=0) mh.nd)) (fun _ _ _ _=>oW))
   (ah (bq PassesOwn.never rfl (Es rfl bN #[107]) (AO rfl (cR (aL (i:=5) cG.nd) (cR (aL (i:=6) cG.nd) pK))) (ak (pM hu (aF cY (pv 4) (pv 6) #[12]) (pv 5) cM rfl)))
   (ah (wu (pv 0) (pv 3) rfl)
   (ah (wu (pv 0) (pv 4) rfl)
   (ah (wu (pv 0) (Pe rfl rfl eK rfl aB (aa (az aA #[38] aN bx #[106]) af)) rfl)
   (ak (wu (pv 0) (aM (pF rfl) #[38] iy Bm (aa (cT rfl ml (br rfl aB (aa (az aA #[38] aN bx #[106]) af)) (fun _ _ _ _=>(aL (i:=0) ml.nd)) #[118]) af)) rfl))))))))),?_⟩
 exists 0
 refine fun Nd hNd=>?_
 have s0:=aj hNd (HO.dK [])
 have pl:#[223].length=signs.length:=by unfold fO;rw[aO,jq]
 exists 69
 refine dh (t:=EO _ _) (fun σ' H'=>∃ go:Qo,σ'=[some #[180],some (.ref g),some (.ref Nd),some (.ref go),none,none,none]/\ay H H'/\H go=none/\H' go=some #[110]/\H' Nd=some (.dK (Ci (aK signs) 0))) ?_ #[41]
 rotate_left
 ·exists _,rfl,g,rfl,⟨_,bV (s0 _ _ hg)⟩
  refine mx (K:=K) (xs:=signs.map V.int) (fun D i ys H'=>ay H H'/\H' Nd=some (.dK (Ci (aK (signs.take i)) 0))/\ys=((jZ i).map fun j:Nat=>rh signs j).map V.int) (fun D hD=>⟨au s0 (s0.free hD),by rw[ag (ao ae hD),ae];rfl,rfl⟩) (fun D i ys H' _ ⟨e,_⟩=>bV (e _ _ hg)) ?_ ?_
  ·rintro D i y ys H2 Q' hD hi hy ⟨s2,OL,rfl⟩ k'
   obtain⟨sg,rfl,hs⟩:=bp hi
   have il:=(fK hs).1
   have ol:=rT (signs.take i)
   rw[jR]at ol
   have nND:Nd≠D:=aG OL hy #[2]
   have fD:H D=none:=s0.free hD
   refine⟨_,rfl,Nd,rfl,.inl ⟨_,.inl OL⟩,_,rfl,_,rfl,Nd,_,rfl,OL,_,Sum.inl sg,OL,rfl,aw (by rw[sQ];omega),fun v hv=>?_,fun hn=>?_⟩
   ·rw[Aa]at hv
    by_cases c:sg∈aK (signs.take i)
    ·rw[if_pos c,Jd]at hv
     have ev:=(Option.some.inj hv).symm
     subst ev
     refine k' _ _ hy (aw (by rw[aO,aO,jq];omega)) ⟨au s2 fD,by rw[ag nND,OL,oA hs,rM c],?_⟩
     rw[JI,jD,jD,<- Dt hs c]
     rfl
    ·rw[if_neg c]at hv
     cases hv
   ·rw[Aa]at hn
    by_cases c:sg∈aK (signs.take i)
    ·rw[if_pos c]at hn
     cases hn
    ·rw[sQ]
     refine k' _ _ (by rw[ag (Ne.symm nND)];exact hy) (aw (by rw[aO,aO,jq];omega)) ⟨au (au s2 hNd) fD,by rw[ag nND,ae,Ih c,oA hs,lP c],?_⟩
     rw[JI,jD,jD,<- Ds hs c]
     rfl
  ·rintro D ys H2 hD hy ⟨s2,OL,rfl⟩
   rw[aO,jV]at OL
   rw[aO]at hy
   exact iK _ _ ⟨D,rfl,s2,s0.free hD,hy,OL⟩
 rintro σ' H1 ⟨go,rfl,s1,fgo,aiq,hN1⟩
 have ol:=rT signs
 refine dh (t:=EO _ _) (fun σ' H'=>∃ (ms:Qo) (as:List Qo),σ'=[some #[180],some (.ref g),some (.ref Nd),some (.ref go),some (.ref ms),none,none]/\ay H H'/\H' go=some #[110]/\H ms=none/\H' ms=some #[231]/\as.length=(aK signs).length/\as.Nodup/\ms≠go/\(∀ a∈as,H a=none/\H' a=some (.dK []))) ?_ #[41]
 rotate_left
 ·refine⟨_,rfl,Nd,_,rfl,.inl ⟨hN1,fun o=>?_⟩⟩
  obtain⟨H2,EX⟩:∃ H2,upd H1 Nd (.se o (.dK (Ci (aK signs) 0)))=H2:=⟨_,rfl⟩
  have s2:ay H H2:=by rw[<- EX];exact au s1 hNd
  have OL:H2 Nd=some (.se o (.dK (Ci (aK signs) 0))):=by rw[<- EX,ae]
  have Y6:H2 go=some #[110]:=by rw[<- EX,ag (aG aiq hN1 #[2])];exact aiq
  rw[EX]
  refine Su (o:=o) (kvs:=Ci (aK signs) 0) (fun D i ys H'=>ay H2 H'/\∃ as:List Qo,ys=as.map V.ref/\as.length=i/\as.Nodup/\(∀ a∈as,H2 a=none/\H' a=some (.dK []))) (fun D hD=>⟨aj hD _,[],rfl,rfl,JZ,fun a h=>by cases h⟩) (fun D i ys H' _ ⟨e,_⟩=>e _ _ OL) ?_ ?_
  ·rintro D i p ys H3 Q' hD hi hy ⟨s3,as,rfl,la,nd,ha⟩ k'
   have il:=(fK hi).1
   rw[sQ]at il
   refine fun d hd=>?_
   have nDd:D≠d:=ao hy hd
   have nda:d∉as:=fun z=>by rw[(ha d z).2]at hd;cases hd
   refine k' _ _ (by rw[ag nDd];exact hy) (aw #[30]) ⟨au (au s3 (s3.free hd)) hD,as++[d],by rw[jD];rfl,by rw[jH,jX,la],?_,fun a h=>?_⟩
   ·exact JQ.mpr ⟨nd,by simp,fun a ha b hb e=>nda (by rw[<- jG.mp hb,<- e];exact ha)⟩
   ·rcases sU.mp h with z|z
    ·obtain⟨h1,h2⟩:=ha a z
     exact⟨h1,by rw[ag (aG h2 hy #[2]),ag (fun y:a=d=>nda (y ▸ z))];exact h2⟩
    ·rw[jG.mp z]
     exact⟨s3.free hd,by rw[ag (Ne.symm nDd),ae]⟩
  ·rintro D ys H3 hD hy ⟨s3,as,rfl,la,nd,ha⟩
   rw[sQ]at la
   exact iK _ _ ⟨D,as,rfl,s2.trans s3,s3 _ _ Y6,s2.free hD,hy,la,nd,Ne.symm (ao Y6 hD),fun a h=>⟨s2.free (ha a h).1,(ha a h).2⟩⟩
 rintro σ' H2 ⟨ms,as,rfl,s2,Y6,fms,amq,la,nda,nmg,ha2⟩
 refine dh (t:=rZ _ _ _) (fun σ' H'=>∃ (v1 v2:OV),σ'=[some #[180],some (.ref g),some (.ref Nd),some (.ref go),some (.ref ms),v1,v2]/\ay H H'/\H' go=some #[110]/\H' ms=some #[231]/\∀ (j:Nat) (a:Qo),as[j]?=some a->H' a=some (.dK (cH (dA #[223] (j:Int))))) ?_ #[41]
 rotate_left
 ·refine⟨_,rfl,go,rfl,⟨_,bS Y6⟩,FX (K:=K) (xs:=#[223].map V.int) (fun i σ' H'=>∃ (v1 v2:OV),σ'=[some #[180],some (.ref g),some (.ref Nd),some (.ref go),some (.ref ms),v1,v2]/\ay H H'/\H' go=some #[110]/\H' ms=some #[231]/\∀ (j:Nat) (a:Qo),as[j]?=some a->H' a=some (.dK (cH (dA (#[223].take i) (j:Int)))))
   ⟨none,none,rfl,s2,Y6,amq,fun j a h=>(ha2 a (oz h)).2⟩ (fun i σ' H' _ ⟨_,_,_,_,e,_,_⟩=>bS e) ?_ ?_⟩
  ·rintro i y σ' H3 T hi ⟨v1,v2,rfl,s3,Y7,Ib,ha3⟩ hT
   obtain⟨t,rfl,ht⟩:=bp hi
   have il:=(fK ht).1
   rw[pl]at il
   have et:t=rh signs (i:Int):=by
    have e:=(fK ht).2
    rw[<- e]
    unfold fO
    rw[Jh,QD]
   have tv:=aa5 (gs:=signs) (q:=(i:Int)) #[0] #[0]
   rw[<- et]at tv
   have tl:t.toNat<as.length:=by omega
   have sT:=aj hT #[229]
   obtain⟨H4,wW⟩:∃ H4,upd H3 T #[229]=H4:=⟨_,rfl⟩
   have hT4:H4 T=some (.tup [V.int i,V.int t]):=by rw[<- wW];exact ae
   rw[wW]at sT ⊢
   obtain⟨a,ea⟩:∃ a,as[t.toNat]?=some a:=⟨_,jC tl⟩
   have ha4:=sT _ _ (ha3 _ _ ea)
   have tn:((t.toNat:Nat):Int)=t:=jn tv.1
   rw[tn]at ha4
   have lp:(#[223].take i).length=i:=by rw[jR];omega
   have ajg:(i:Int)∉dA (#[223].take i) t:=fun z=>by
    have h1:=(rV.mp z).1.2
    rw[lp]at h1
    omega
   have pln:=MC (#[223].take i) t
   exists T,_,rfl,bV hT4,rfl,_,_,rfl,_,_,rfl,rfl
   refine⟨_,rfl,_,rfl,ms,_,_,_,rfl,rfl,bS (sT _ _ Ib),rG tv.1 ea,_,rfl,a,_,rfl,A0.k (k:=Sum.inl (i:Int)) ha4 (aw (by unfold cH;rw[aO];omega)),?_⟩
   rw[Ab ajg]
   have fa:H a=none:=(ha2 a (oz ea)).1
   have OM:=sT _ _ Y7
   have LR:=sT _ _ Ib
   refine⟨_,_,rfl,au (s3.trans sT) fa,by rw[ag (aG OM ha4 #[2])];exact OM,by rw[ag (aG LR ha4 #[2])];exact LR,fun j b hb=>?_⟩
   have et2:#[223].take (i+1)=#[223].take i++[t]:=by rw[jY,ht];rfl
   rw[et2,Cp,lp]
   by_cases c:b=a
   ·subst c
    have ej:j=t.toNat:=by
     have e1:=(fK hb)
     have e2:=(fK ea)
     exact(JT nda).mp (e1.2.trans e2.2.symm)
    rw[ae,ej,tn,if_pos rfl]
   ·have nj:t≠(j:Int):=fun z=>by
     have e:t.toNat=j:=by omega
     rw[e,hb]at ea
     exact c (Option.some.inj ea)
    rw[ag c,if_neg nj,jx]
    exact sT _ _ (ha3 j b hb)
  ·rintro σ' H3 ⟨v1,v2,rfl,s3,Y7,Ib,ha3⟩
   rw[aO,jV]at ha3
   exact iK _ _ ⟨v1,v2,rfl,s3,Y7,Ib,ha3⟩
 rintro σ' H3 ⟨v1,v2,rfl,s3,Y7,Ib,ha3⟩
 have fa:∀ a∈as,H a=none:=fun a h=>(ha2 a h).1
 refine⟨_,rfl,_,rfl,x,C,dx,[],rfl,s3 _ _ hx,pc.cl,pc.ng,by decide,?_⟩
 refine⟨_,rfl,_,rfl,x,C,dx,_,rfl,ae,pc.cl,pc.nm,by show(1:Nat)<1000;decide,?_⟩
 rw[Sd]
 obtain⟨H4,wW⟩:∃ H4,upd H3 x (HO.ins C dx (mC "members" (V.ref ms) (mC "group_of" (V.ref go) [])))=H4:=⟨_,rfl⟩
 have k4:∀ b u,b≠x->H b=some u->H4 b=some u:=fun b u n h=>by rw[<- wW,ag n];exact s3 _ _ h
 have x4:H4 x=some (.ins C dx [#[242],#[255]]):=by rw[<- wW,ae];rfl
 have nxa:∀ b:Qo,H b=none->x≠b:=fun b h=>ao hx h
 have OM:H4 go=some #[110]:=by rw[<- wW,ag (Ne.symm (nxa _ fgo))];exact Y7
 have LR:H4 ms=some #[231]:=by rw[<- wW,ag (Ne.symm (nxa _ fms))];exact Ib
 have ha4:∀ (j:Nat) (a:Qo),as[j]?=some a->H4 a=some (.dK (cH (dA #[223] (j:Int)))):=fun j a h=>by
  rw[<- wW,ag (Ne.symm (nxa _ (fa a (oz h))))];exact ha3 j a h
 have f4:∀ {b},H4 b=none->H b=none:=fun {b} h=>by
  rcases Decidable.em (b=x)with z|z
  ·subst z;rw[x4]at h;cases h
  ·cases e:H b with
   | none=>rfl
   | some u=>rw[k4 b u z e]at h;cases h
 rw[wW]
 have lm:#[62].length=as.length:=jW _
 refine⟨_,rfl,ms,_,rfl,.inl (bS LR),#[62].length,rfl,small (by rw[lm];omega),fun wt D9=>?_⟩
 rw[lm]
 have nxw:x≠wt:=ao x4 D9
 refine⟨_,rfl,x,C,dx,_,rfl,by rw[ag nxw];exact x4,pc.cl,pc.nw,by show(2:Nat)<1000;decide,?_⟩
 obtain⟨H5,eH5⟩:∃ H5,upd (upd H4 wt (HO.lst ((jZ as.length).map fun i:Nat=>V.int i))) x (HO.ins C dx (mC "waiting" (V.ref wt) [#[242],#[255]]))=H5:=⟨_,rfl⟩
 have k5:∀ b u,b≠x->H4 b=some u->H5 b=some u:=fun b u n h=>by rw[<- eH5,ag n,ag (ao h D9)];exact h
 have x5:H5 x=some (.ins C dx [#[242],#[255],("waiting",.ref wt)]):=by rw[<- eH5,ae];rfl
 have acM:H5 wt=some (.lst (((jZ as.length).map fun i:Nat=>(i:Int)).map V.int)):=by rw[<- eH5,ag (Ne.symm nxw),ae,JO];rfl
 have SV:=k5 _ _ (Ne.symm (nxa _ fgo)) OM
 have acE:=k5 _ _ (Ne.symm (nxa _ fms)) LR
 have f5:∀ {b},H5 b=none->H4 b=none:=fun {b} h=>by
  rcases Decidable.em (b=x)with z|z
  ·subst z;rw[x5]at h;cases h
  ·cases e:H4 b with
   | none=>rfl
   | some u=>rw[k5 b u z e]at h;cases h
 rw[eH5]
 obtain⟨ns,ens⟩:∃ ns:LI,((jZ as.length).map fun i:Nat=>(i:Int))=ns:=⟨_,rfl⟩
 have lns:ns.length=as.length:=by rw[<- ens,aO,jq]
 have ndn:ns.Nodup:=by
  rw[<- ens]
  refine Je.mpr (List.nodup_range.imp fun {a b} n z=>n ?_)
  have z':(a:Int)=(b:Int):=z
  omega
 refine⟨_,rfl,ms,_,rfl,.inl (bS acE),_,rfl,by rw[lm];omega,by rw[lm];omega,?_⟩
 refine ig (fun D i ys H'=>ay H5 H'/\∃ ts,ys=ts.map V.ref/\fH H' ts (cH (ns.take i))) #[70] ?_ ?_
 ·rintro D i ys H' Q' hD hi hy ⟨hs,ts,rfl,pv⟩ k'
  rw[jB,lm]at hi
  have hq:ns[i]?=some (i:Int):=by
   rw[<- ens,jO,Zt hi]
   rfl
  exists 27
  rw[JJ]
  have sT:=aj hT (HO.tup [V.int i,V.bl true])
  have nD:D≠T:=ao hy hT
  have lts:ts.length=i:=by
   rw[Paired.length pv]
   unfold cH
   rw[aO,jR]
   omega
  have hyT:#[199] D=some #[177]:=by rw[ag nD];exact hy
  exists 11
  rw[jY,hq]
  have up:∀ b xs,#[199] b=some #[36]->(upd #[199] D #[125]) b=some #[36]:=fun b xs e=>by
   exists 49
  show fH _ _ (cH (ns.take i++[(i:Int)]))
  unfold cH
  rw[jD]
  exists 30
 rintro L ys H6 fL hL ⟨s6,ts,rfl,pv⟩
 rw[jB,lm,<- lns,jV]at pv
 refine⟨L,ts,_,rfl,hL,pv,fun iw Fq=>?_⟩
 rw[Cj ndn]
 have nxi:x≠iw:=ao (s6 _ _ x5) Fq
 refine⟨_,rfl,x,C,dx,_,rfl,by rw[ag nxi];exact s6 _ _ x5,pc.cl,pc.ni,by show(3:Nat)<1000;decide,?_⟩
 have fiw:H5 iw=none:=s6.free Fq
 have kz:∀ b u,b≠x->H5 b=some u->(upd (upd H6 iw (HO.dK (cH ns))) x (HO.ins C dx (mC "is_waiting" (V.ref iw) [#[242],#[255],("waiting",.ref wt)]))) b=some u:=fun b u n h=>by
  rw[ag n,ag (ao h fiw)];exact s6 _ _ h
 have ha5:∀ (j:Nat) (a:Qo),as[j]?=some a->H5 a=some (.dK (cH (dA #[223] (j:Int)))):=fun j a h=>k5 _ _ (Ne.symm (nxa _ (fa a (oz h)))) (ha4 j a h)
 refine k _ go ms wt iw as (fun b u n h=>kz _ _ n (k5 _ _ n (k4 _ _ n h))) fgo fms (f4 D9) (f4 (f5 fiw)) fa ?_
 have nw4:wt≠x:=Ne.symm nxw
 refine⟨⟨dx,by rw[ae];rfl⟩,kz _ _ (Ne.symm (nxa _ fgo)) SV,kz _ _ (Ne.symm (nxa _ fms)) acE,by rw[ens];rw[ens]at acM;exact kz _ _ nw4 acM,by rw[ens,ag (Ne.symm nxi),ae],pl,fun q hq=>?_,fun j a h=>?_,nda,fun z=>?_,Ne.symm nmg,?_,?_,by rw[ens];exact ndn,fun p hp=>?_⟩
 ·rw[BI hq.1 hq.2,la]
  exact aa5 hq.1 hq.2
 ·have jl:=(fK h).1
  refine⟨dA #[223] (j:Int),kz _ _ (Ne.symm (nxa _ (fa a (oz h)))) (ha5 j a h),RG _ _,fun z=>?_,fun q=>?_⟩
  ·obtain⟨q,hq,e⟩:=aa6 (gs:=signs) (j:=j) #[0]
   have:q∈dA #[223] (j:Int):=rV.mpr ⟨⟨hq.1,by rw[pl];exact hq.2⟩,by
    have:=BI hq.1 hq.2
    unfold bH at this
    rw[this,e]⟩
   rw[z]at this
   cases this
  ·rw[rV,pl]
   rfl
 ·obtain⟨j,hj⟩:=JF.mp z
  have:=ha5 j iw hj
  rw[fiw]at this
  cases this
 ·exact ao OM D9
 ·exact ao LR D9
 ·rw[ens]at hp
  rw[<- ens]at hp
  obtain⟨i,hi,rfl⟩:=jN.mp hp
  have:=je.mp hi
  omega
end
theorem abc(acc:List #[84])(a k:List Key)(v:V):k∈(putK acc a v).map Prod.fst↔k∈acc.map Prod.fst\/k=a:=by
 unfold putK
 by_cases c:(acc.any fun kv=>decide (kv.fst=a))=true
 ·rw[if_pos c,JO]
  have e:acc.map (Prod.fst ∘ fun kv=>if kv.fst=a then(kv.fst,v)else kv)=acc.map Prod.fst:=ze fun kv _=>by
   show(if kv.fst=a then(kv.fst,v)else kv).fst=kv.fst
   split<;>rfl
  rw[e]
  obtain⟨kv,h1,h2⟩:=Ji.mp c
  have h3:a∈acc.map Prod.fst:=jN.mpr ⟨kv,h1,of_decide_eq_true h2⟩
  exact⟨.inl,fun z=>z.elim id fun z=>z ▸ h3⟩
 ·rw[if_neg c,jD,Jm]
  exact or_congr Iff.rfl jG
theorem El:∀ (kvs acc:List #[84]) (k:List Key),k∈(mK acc kvs).map Prod.fst↔k∈acc.map Prod.fst\/k∈kvs.map Prod.fst
 | [],acc,k=>⟨.inl,fun z=>z.elim id fun z=>by cases z⟩
 | p :: kvs,acc,k=>by
  show k∈(mK (putK acc p.1 p.2) kvs).map Prod.fst↔_
  rw[El kvs,abc,or_assoc]
  exact or_congr Iff.rfl (jU (a:=k) (b:=p.1) (l:=kvs.map Prod.fst)).symm
theorem Rm{x y:LI}(e:x.map (Sum.inl:Int->Key)=y.map Sum.inl):x=y:=by
 have h:=congrArg (List.map fun k:Key=>Sum.elim id (fun _=>(0:Int)) k) e
 rw[JO,JO]at h
 have f:((fun k:Key=>Sum.elim id (fun _=>(0:Int)) k) ∘ (Sum.inl:Int->Key))=id:=rfl
 rw[f,Zf,Zf]at h
 exact h
theorem G6:∀ {bs:List Qo} {kvs:List #[84]},J3 H bs kvs->(∀ k∈kvs.map Prod.fst,∃ c:LI,k=c.map Sum.inl)->∃ cols:LL,aH H bs cols/\kvs.map Prod.fst=cols.map fun c=>c.map Sum.inl
 | [],[],.nil,_=>⟨[],.nil,rfl⟩
 | _,_,.cons (a:=b) (b:=p) (l₁:=bs) (l₂:=kvs) h t,q=>by
  obtain⟨cols,h1,h2⟩:=G6 t fun k hk=>q k (jJ _ hk)
  obtain⟨c,e⟩:=q p.1 jE
  refine⟨c :: cols,.cons ?_ h1,by rw[JN,JN,h2,e]⟩
  rw[e,JO]at h
  exact h
theorem Fl{bs:List Qo}(h:J3 H bs (mK [] (FT.map fun c=>(c.map Sum.inl,V.bl true)))):∃ cols:LL,aH H bs cols/\cols.length<=FT.length/\∀ c,c∈cols↔c∈FT:=by
 have mem:∀ k,k∈(mK [] (FT.map fun c=>((c.map Sum.inl:List Key),V.bl true))).map Prod.fst↔∃ c∈FT,k=c.map Sum.inl:=fun k=>by
  rw[El,JO]
  constructor
  ·rintro(z|z)
   ·cases z
   ·obtain⟨c,h1,h2⟩:=jN.mp z
    exact⟨c,h1,h2.symm⟩
  ·rintro⟨c,h1,h2⟩
   exact .inr (jN.mpr ⟨c,h1,h2.symm⟩)
 obtain⟨cols,h1,h2⟩:=G6 h fun k hk=>let ⟨c,_,e⟩:=(mem k).mp hk;⟨c,e⟩
 refine⟨cols,h1,?_,fun c=>?_⟩
 ·have e1:=congrArg zG h2
  have e2:=rg (FT.map fun c=>((c.map Sum.inl:List Key),V.bl true)) []
  rw[aO,aO]at e1
  rw[aO,Jo]at e2
  omega
 have m:=mem (c.map Sum.inl)
 rw[h2]at m
 constructor
 ·intro hc
  obtain⟨c',h3,e⟩:=m.mp (jN.mpr ⟨c,hc,rfl⟩)
  rw[Rm e]
  exact h3
 ·intro hc
  obtain⟨c',h3,e⟩:=jN.mp (m.mpr ⟨c,hc,rfl⟩)
  rw[<- Rm e]
  exact h3
theorem V9(R:aC many wide rows)(f:Nat)(hq:av many q):oP (rows.map fun r=>r.getD f 0) q=stepI rows q f:=by
 have l:q.toNat<rows.length:=by have:=hq.1;have:=hq.2;rw[R.len];omega
 unfold oP stepI
 rw[getD_at (by rw[aO];exact l),Jh,jB,getD_at l]
theorem aca(R:aC many wide rows)(h:∀ c,c∈cols↔c∈Bp rows wide):BW many wide rows cols where
 of:=fun c hc=>by
  obtain⟨f,hf,rfl⟩:=jN.mp ((h c).mp hc)
  exact⟨f,je.mp hf,fun q hq=>V9 R f hq⟩
 all:=fun f hf=>⟨_,(h _).mpr (jN.mpr ⟨f,je.mpr hf,rfl⟩),fun q hq=>V9 R f hq⟩
theorem Q6(R:aC many wide rows){c:LI}(h:c∈Bp rows wide):c.length=many/\∀ t∈c,0<=t/\t<(many:Int):=by
 obtain⟨f,hf,rfl⟩:=jN.mp h
 have fl:=je.mp hf
 refine⟨by rw[aO,R.len],fun t ht=>?_⟩
 obtain⟨r,hr,rfl⟩:=jN.mp ht
 have lr:=R.row r hr
 rw[getD_at #[0]]
 exact R.val r hr _ (jM _)
theorem MB(l:col.length=many):x∈dA col q↔av many x/\oP col x=q:=by
 rw[rV,l]
 rfl
theorem HW(col:LI):∀ {ms:LI},ms.Nodup->(ms.flatMap (dA col)).Nodup
 | [],_=>JZ
 | m :: ms,h=>by
  have n:=jy.mp h
  rw[QH]
  refine JQ.mpr ⟨RG col m,HW col n.2,fun a ha b hb e=>?_⟩
  obtain⟨m',h1,h2⟩:=zw.mp hb
  have e1:=(rV.mp ha).2
  have e2:=(rV.mp h2).2
  rw[<- e,e1]at e2
  exact n.1 (e2 ▸ h1)
theorem LG{ms:LI}(l:col.length=many):x∈ms.flatMap (dA col)↔av many x/\oP col x∈ms:=by
 rw[zw]
 constructor
 ·rintro⟨m,h1,h2⟩
  have h3:=(MB l).mp h2
  exact⟨h3.1,h3.2 ▸ h1⟩
 ·rintro⟨h1,h2⟩
  exact⟨_,h2,(MB l).mpr ⟨h1,rfl⟩⟩
theorem Ay.mono{cols:List (Int->Int)}{R:Int->Int->Prop}{W W' S:Int->Prop}{k:Nat}(h:Ay many cols sg R grp W S k)(w:∀ g,W g->W' g):Ay many cols sg R grp W' S k:=
 ⟨h.coarse,h.signs,h.whole,fun x y hx hy e j c hj=>by
  rcases h.cong x y hx hy e j c hj with z|z|z|z
  ·exact .inl z
  ·exact .inr (.inl (w _ z))
  ·exact .inr (.inr (.inl (w _ z)))
  ·exact .inr (.inr (.inr z))⟩
theorem iL.symm(h:iL rows wide signs x y):iL rows wide signs y x:=fun n v h1 h2=>(h n v h1 h2).symm
theorem CV.pop{x ms l:Qo}{IU:LI}{s:Int}(h:CV H C x go ms wt iw many gs ds (IU++[s]))(hl:H l=none):
  CV (upd (upd (upd H wt (.lst (IU.map V.int))) iw (.dK (cH ((IU++[s]).filter fun k=>decide (k≠s))))) l #[211]) C x go ms wt iw many gs ds IU:=by
 have nd:=JQ.mp h.wn
 have ef:(IU++[s]).filter (fun k=>decide (k≠s))=IU:=by
  rw[JW,JB #[10],QS,jx]
  exact Zs.mpr fun k hk=>decide_eq_true fun z=>nd.2.2 k hk s jE z
 rw[ef]
 have nl:∀ c u,H c=some u->c≠l:=fun c u e=>ao e hl
 have kp:∀ c u,c≠wt->c≠iw->H c=some u->(upd (upd (upd H wt (.lst (IU.map V.int))) iw (.dK (cH IU))) l #[211]) c=some u:=fun c u c1 c2 e=>by rw[ag (nl c u e),ag c2,ag c1];exact e
 obtain⟨dx,hx⟩:=h.pt.ob
 have nwi:wt≠iw:=aG h.wt_ h.iw_ #[2]
 refine⟨⟨dx,kp _ _ (aG hx h.wt_ #[2]) (aG hx h.iw_ #[2]) hx⟩,kp _ _ h.n2 (aG h.go_ h.iw_ #[2]) h.go_,kp _ _ h.n3 (aG h.ms_ h.iw_ #[2]) h.ms_,by rw[ag (nl _ _ h.wt_),ag nwi,ae],by rw[ag (nl _ _ h.iw_),ae],h.lg,h.val,fun i d hi=>?_,h.dn,h.ndi,h.n1,h.n2,h.n3,nd.1,fun g hg=>h.wv g (jb _ hg)⟩
 obtain⟨m,h1,h2,afo,alI⟩:=h.mem i d hi
 exact⟨m,kp _ _ (aG h1 h.wt_ #[2]) (fun z=>h.ndi (z ▸ oz hi)) h1,h2,afo,alI⟩
theorem CV.alone{x ms:Qo}(h:CV H C x go ms wt iw many gs ds ws)(e:ds.length=many):∀ a b,av many a->av many b->bH gs a=bH gs b->a=b:=fun a b ha hb eg=>Classical.byContradiction fun ne=>by
 have la:a.toNat<gs.length:=by have:=ha.1;have:=ha.2;rw[h.lg];omega
 have lb:b.toNat<gs.length:=by have:=hb.1;have:=hb.2;rw[h.lg];omega
 have nab:a.toNat≠b.toNat:=by have:=ha.1;have:=hb.1;omega
 unfold bH at eg
 rw[getD_at la,getD_at lb]at eg
 have t:=lR (xs:=(jZ ds.length).map fun i:Nat=>(i:Int)) (ys:=gs.eraseIdx b.toNat) (Je.mpr (List.nodup_range.imp fun {a b} n z=>n (by
  have z':(a:Int)=(b:Int):=z
  omega))) (fun g hg=>by
  obtain⟨i,hi,rfl⟩:=jN.mp hg
  have il:=je.mp hi
  obtain⟨mem,_,_,nn,iff⟩:=h.mem i _ (jC il)
  obtain⟨q,r,rfl⟩:=zY nn
  obtain⟨⟨q0,q1⟩,eq⟩:=(iff q).mp jE
  have lq:q.toNat<gs.length:=by rw[h.lg];omega
  unfold bH at eq
  rw[getD_at lq]at eq
  rw[List.mem_eraseIdx_iff_getElem]
  by_cases c:q.toNat=b.toNat
  ·exists a.toNat,la,nab
   rw[eg,<- eq]
   congr 1
   exact c.symm
  ·exact⟨q.toNat,lq,c,eq⟩)
 rw[aO,jq,zX lb,h.lg,e]at t
 have:=hb.1
 have:=hb.2
 omega
inductive aez (K:Yh) (vs:List V) (H:Hp) (Q:VK) (E:XK):Prop
 | mk (m r g:Qo) (many wide:Nat) (rows:LL) (signs:LI) (_:vs=[.ref m]) (_:bG H m r g wide rows signs) (_:aC many wide rows) (_:signs.length=many) (_:many<1000) (_:wide<=1000) (_:∀ (go:Qo) (gs:LI) (H':Hp),ay H H'->H go=none->H' go=some #[179]->gs.length=many->(∀ x y,av many x->av many y->(bH gs x=bH gs y↔iL rows wide signs x y))->Q (.ref go) H')
def abW(H:Hp):List Qo->LL->Prop:=qH fun B col=>∃ H0 es,bP H0 H B es #[196]
section
theorem bU:aE ["machine","distinct","backs","parted","splitter","back","leading","here"] ["machine"] (ar dq):=cV #[3]
theorem mq:aU ["machine","distinct","backs","parted","splitter","back","leading","here"] (ar dq) ["column"] [none] ⟨.function,[#[48],("column",.local)],false,false,[]⟩:=mz #[3]
theorem mv:aU ["machine","distinct","backs","parted","splitter","back","leading","here"] (ar dq) ["column"] [none] ⟨.function,[#[48],("column",.local),("back_of",.globalImplicit)],false,false,[]⟩:=mz #[3]
theorem aga(F:bL K "unparted_groups" "unparted_groups" dq dV f fd)(pc:J5 K C)(sr:bQ P w K mg base "columns_of" 1 ["machine"] [] (abm K))(BZ:bQ P w K mg base "back_of" 1 ["column"] [] (RS K))(BX:P5 P w K mg base "Parted" C 1 ["self","signs"] (M9 C))(Aw:tP P w K mg base C "is_done" 1 ["self"] (MW K C))(lK:tP P w K mg base C "next_splitter" 1 ["self"] (RY C))(Ax:tP P w K mg base C "part_by" 3 ["self","leading"] (MZ C))(eK:mg "list" = none)(iy:mg "dict" = none):bw P w K mg base eS 4 f fd ["machine"] (aez K):=by
 refine F.ok bU #[6] #[1]
 ·exists 44
  rfl
 obtain⟨m,r,g,many,wide,rows,signs,rfl,M,R,ls,n1,w1,k⟩:=h
 exists 98
 have hu2:=aae hr
 refine⟨_,(ah (aD (i:=1) bU.nd (aM (Ov rfl) #[38] eK wQ (aa (aM ((HK rfl hu2)) #[38] iy Bm (aa (cT rfl mq (cI (bE sr hr #[163])) (fun _ _ _ _=>(aL (i:=0) mq.nd)) #[118]) af)) af)))
   (ah (iq (i:=2) rfl bU.nd rfl #[248] mv (cI (pv 1)) (fun _ _ _ _=>(aL (i:=0) mv.nd)) (fun _ _ _ _=>(bE BZ hr #[163])))
   (ah (aD (i:=3) bU.nd (aa1 BX hr (aa #[5] af)))
   (ah (rW PassesOwn.never (PW.pt (Iu ((wx (dz (pv 3) rfl) (fun _=>rfl))) (Du (ir (eJ (Pf Aw hr (pv 3))))))) (ah (aD (i:=4) bU.nd (Pf lK hr (pv 3)))
   (ak (bq PassesOwn.never rfl (cI (pv 2)) (aL (i:=5) bU.nd) (ah (aD (i:=6) bU.nd (cX af))
   (ah (bq PassesOwn.never rfl (cI (pv 4)) (aL (i:=7) bU.nd) (ak (bJ (fc Yj XO XQ O2 (pv 6) (aa (Mu hu (pv 5) (pv 7) (cE af) ⟨rfl,rfl,rfl,rfl⟩) af)))))
   (ak (bJ (Hk Ax hr (pv 3) (aa (pv 6) af))))))))))
   (ak (aJ (dz (pv 3) rfl))))))),?_⟩
 exists 0
 exists 69
 refine dh (t:=EO _ _) (fun σ' H'=>∃ (dl:Qo) (bs:List Qo) (cols:LL),σ'=[some #[73],some (.ref dl),none,none,none,none,none,none]/\ay H H'/\H' dl=some (.lst (bs.map V.ref))/\aH H' bs cols/\cols.length<=wide/\∀ c,c∈cols↔c∈Bp rows wide) ?_ #[41]
 rotate_left
 ·refine⟨_,rfl,m,r,g,many,wide,rows,signs,rfl,M,R,⟨by omega,w1⟩,fun l cs H1 s1 hl1 A1=>?_⟩
  exists l,rfl,⟨_,bS hl1⟩
  have lc:(Bp rows wide).length=wide:=by unfold Bp;rw[aO,jq]
  refine iE (K:=K) (xs:=cs.map V.ref) (fun D i ys H'=>ay H1 H'/\∃ ts,ys=ts.map V.ref/\Oj H' ts (((Bp rows wide).take i).map fun c=>(c.map Sum.inl,V.bl true))) #[70] (fun D i ys H' _ ⟨e,_⟩=>bS (e _ _ hl1)) ?_ ?_
  ·rintro D i y ys H2 Q' hD hi hy ⟨s2,ts,rfl,pv⟩ k'
   have jl:i<(Bp rows wide).length:=by
    have:=(fK hi).1
    rw[aO,A1.length]at this
    exact this
   obtain⟨ca,e1,e2⟩:=A1.get jl
   have ey:y=.ref ca:=by rw[jO,e1]at hi;exact#[152].symm
   subst ey
   exists 27
   have sT:=aj hT #[193]
   have nD:D≠T:=ao hy hT
   have lts:ts.length=i:=by
    rw[Paired.length pv,aO,jR]
    omega
   have hyT:(upd H2 T #[193]) D=some #[177]:=by rw[ag nD];exact hy
   refine k' _ _ hyT (aw #[30]) ⟨au (au s2 (s2.free hT)) hD,ts++[T],by rw[jD];rfl,?_⟩
   have up:∀ b xs,(upd H2 T #[193]) b=some #[36]->(upd (upd H2 T #[193]) D #[125]) b=some #[36]:=fun b xs e=>by
    exists 49
   rw[jY,jC jl,jD]
   refine Paired.snoc (Paired.Mc pv fun t p h=>?_) ⟨ca,up _ _ ae,?_⟩
   ·obtain⟨b,h1,h2⟩:=h
    exact⟨b,up _ _ (sT _ _ h1),up _ _ (sT _ _ h2)⟩
   ·rw[JO]
    exact up _ _ (sT _ _ (s2 _ _ e2))
  ·rintro D ys H2 hD hy ⟨s2,ts,rfl,pv⟩
   rw[aO,A1.length,jV]at pv
   refine⟨D,ts,_,rfl,hy,pv,fun dd hdd=>?_⟩
   have s3:=aj hdd (HO.dT (mK [] ((Bp rows wide).map fun c=>(c.map Sum.inl,V.bl true))))
   refine⟨dd,_,rfl,ae,fun dl bs hdl kt=>?_⟩
   obtain⟨cols,c1,c3,c2⟩:=Fl kt
   rw[lc]at c3
   have s4:=aj hdl (HO.lst (bs.map V.ref))
   exact iK _ _ ⟨dl,bs,cols,rfl,((s1.trans s2).trans s3).trans s4,ae,c1.same fun b xs e=>s4 _ _ e,c3,c2⟩
 rintro σ' H1 ⟨dl,bs,cols,rfl,s1,aii,A1,lcw,hc⟩
 have CO:=aca R hc
 refine dh (t:=EO _ _) (fun σ' H'=>∃ (bl:Qo) (Bs:List Qo),σ'=[some #[73],some (.ref dl),some (.ref bl),none,none,none,none,none]/\ay H H'/\H' bl=some (.lst (Bs.map V.ref))/\abW H' Bs cols) ?_ #[41]
 rotate_left
 ·exists _,rfl,dl,rfl,⟨_,bS aii⟩
  refine iE (K:=K) (xs:=bs.map V.ref) (fun D i ys H'=>ay H1 H'/\∃ Bs,ys=Bs.map V.ref/\qH (fun B col=>∃ H0 es,(∃ u,H0 D=some u)/\bP H0 H' B es #[196]) Bs (cols.take i)) #[70] (fun D i ys H' _ ⟨e,_⟩=>bS (e _ _ aii)) ?_ ?_
  ·rintro D i y ys H2 Q' hD hi hy ⟨s2,Bs,rfl,pv⟩ k'
   have jl:i<cols.length:=by
    have:=(fK hi).1
    rw[aO,A1.length]at this
    exact this
   obtain⟨ca,e1,e2⟩:=A1.get jl
   have ey:y=.ref ca:=by rw[jO,e1]at hi;exact#[152].symm
   subst ey
   have ci:=Q6 R ((hc _).mp (jM jl))
   have lB:Bs.length=i:=by
    rw[Paired.length pv,jR]
    omega
   refine⟨_,rfl,ca,many,cols[i],rfl,s2 _ _ e2,by omega,by omega,ci.2,fun B es H3 s3 fB bo=>?_⟩
   have hy3:=s3 _ _ hy
   refine k' _ _ hy3 (aw #[30]) ⟨au (s2.trans s3) hD,Bs++[B],by rw[jD];rfl,?_⟩
   have keep:∀ (H0:Hp) (B':Qo) (AE:List #[228]) (col:LI),(∃ u,H0 D=some u)->bP H0 H3 B' AE #[196]->bP H0 (upd H3 D (.lst (Bs.map V.ref++[V.ref B]))) B' AE #[196]:=fun H0 B' AE col hu bo'=>bo'.keep (ag (aG bo'.at_ hy3 #[2])) fun e he=>ag fun z=>by
    obtain⟨u,hu⟩:=hu
    have:=bo'.fresh e he
    rw[z,hu]at this
    cases this
   rw[jY,jC jl]
   exact Paired.snoc (Paired.Mc pv fun B' col h=>let ⟨H0,AE,hu,b⟩:=h;⟨H0,AE,hu,keep H0 B' AE col hu (b.same s3)⟩) ⟨H2,es,⟨_,hy⟩,keep H2 B es cols[i] ⟨_,hy⟩ bo⟩
  ·rintro D ys H2 hD hy ⟨s2,Bs,rfl,pv⟩
   rw[aO,A1.length,jV]at pv
   exact iK _ _ ⟨D,Bs,rfl,s1.trans s2,hy,Paired.Mc pv fun B col h=>let ⟨H0,es,_,b⟩:=h;⟨H0,es,b⟩⟩
 rintro σ' Hb ⟨bl,Bs,rfl,sb,hbl,BA⟩
 have lBs:Bs.length=cols.length:=Paired.length BA
 refine⟨_,rfl,m,_,_,_,rfl,rfl,bV (sb _ _ M.tup),rfl,fun x dx hx hdx ne=>?_⟩
 have up:∀ b u,Hb b=some u->(upd (upd Hb dx (HO.own x)) x (HO.ins C dx [])) b=some u:=fun b u h=>by rw[ag (ao h hx),ag (ao h hdx)];exact h
 refine⟨x,dx,g,signs,rfl,ae,up _ _ (sb _ _ M.sgn),by omega,fun H1 go ms wt iw ds0 kk f1 f2 f3 f4 f5 S1=>⟨rfl,?_⟩⟩
 have s1':ay Hb H1:=fun b u h=>kk b u (ao h hx) (up b u h)
 have fr:∀ {b},(upd (upd Hb dx (HO.own x)) x (HO.ins C dx [])) b=none->Hb b=none:=fun {b} h=>by
  cases e:Hb b with
  | none=>rfl
  | some u=>rw[up b u e]at h;cases h
 rw[ls]at S1
 obtain⟨RR,eRR⟩:∃ RR:Int->Int->Prop,#[130]=RR:=⟨_,rfl⟩
 have lk:=CO.ai2 (signs:=signs) R
 rw[eRR]at lk
 have room:=CO.room R
 have sym:∀ x y,RR x y->RR y x:=fun x y h=>by rw[<- eRR]at h ⊢;exact⟨h.2.1,h.1,h.2.2.symm⟩
 have fg:=fr f1
 have fms:=fr f2
 have fw:=fr f3
 have fi:=fr f4
 have amC:P6 many #[213] #[240] RR (bH #[223]) (fun g=>g∈(jZ ds0.length).map fun i:Nat=>(i:Int)):=by
  refine P6.start lk (fun a b ha hb=>?_) (fun a ha=>?_) room
  ·have la:av signs.length a:=by rw[ls];exact ha
   have lb:av signs.length b:=by rw[ls];exact hb
   rw[BI la.1 la.2,BI lb.1 lb.2]
   exact aa4 la lb
  ·have v:=S1.val a ha
   exact jN.mpr ⟨(bH #[223] a).toNat,je.mpr #[0],jn v.1⟩
 exists 69
 refine dh (t:=wJ _ _) (fun σ' H'=>∃ (gs ws:LI) (ds:List Qo) (v4 v5 v6 v7:OV),σ'=[some #[73],some (.ref dl),some (.ref bl),some #[180],v4,v5,v6,v7]/\ay Hb H'/\CV H' C x go ms wt iw many gs ds ws/\∀ a b,av many a->av many b->(bH gs a=bH gs b↔iL rows wide signs a b)) ?_ #[41]
 rotate_left
 ·refine Ag (fun mm σ' H'=>∃ (gs ws:LI) (ds:List Qo) (v4 v5 v6 v7:OV),mm=2*many+ws.length-2*ds.length/\σ'=[some #[73],some (.ref dl),some (.ref bl),some #[180],v4,v5,v6,v7]/\ay Hb H'/\CV H' C x go ms wt iw many gs ds ws/\(∀ d∈ds,Hb d=none)/\P6 many #[213] #[240] RR (bH gs) (fun g=>g∈ws))
   ⟨_,fO signs,_,ds0,none,none,none,none,rfl,rfl,s1',S1,fun d hd=>fr (f5 d hd),amC⟩ ?_
  rintro mm σ' H2 ⟨gs,ws,ds,v4,v5,v6,v7,emm,rfl,s2,S2,fd2,hop⟩
  obtain⟨dx2,hx2⟩:=S2.pt.ob
  have aqy:=S2.Fm
  rw[<- eRR]at hop
  by_cases en:ws=[]
  ·subst en
   refine⟨_,rfl,x,C,dx2,_,_,rfl,hx2,pc.cl,pc.nw,rfl,_,.inl ⟨_,bS S2.wt_,rfl⟩,lQ (lQ ?_)⟩
   exact iK _ _ ⟨gs,[],ds,v4,v5,v6,v7,rfl,s2,S2,fun a b ha hb=>Rk CO R hop (hop.agu (fun _ _ z=>by cases z) room) ha hb⟩
  exists _,rfl,x,C,dx2,_,_,rfl,hx2,pc.cl,pc.nw,rfl,_,.inl ⟨_,bS S2.wt_,rfl⟩
  have ne':(!#[159].isEmpty)=true:=by
   cases ws with
   | nil=>exact absurd rfl en
   | cons a r=>rfl
  rw[ne']
  refine oU ⟨_,rfl,x,dx2,_,rfl,hx2,rfl,x,go,ms,wt,iw,gs,ds,rfl,S2.pt,S2.go_,S2.ms_,_,rfl,Aq #[53] #[53]⟩
  ·refine⟨fun σ' H'=>∃ m',m'<mm/\∃ (gs ws:LI) (ds:List Qo) (v4 v5 v6 v7:OV),m'=2*many+ws.length-2*ds.length/\σ'=[some #[73],some (.ref dl),some (.ref bl),some #[180],v4,v5,v6,v7]/\ay Hb H'/\CV H' C x go ms wt iw many gs ds ws/\(∀ d∈ds,Hb d=none)/\P6 many #[213] #[240] RR (bH gs) (fun g=>g∈ws),fun _ _ h=>h,?_⟩
   rw[eRR]at hop
   obtain⟨IU,s,ews⟩:∃ IU s,ws=IU++[s]:=⟨ws.dropLast,ws.getLast en,(ZL en).symm⟩
   subst ews
   have sv:=S2.wv s (jP _ jE)
   have sl':s.toNat<ds.length:=by omega
   obtain⟨da,tK⟩:∃ da,ds[s.toNat]?=some da:=⟨_,jC sl'⟩
   obtain⟨mem,EZ,ndm,nem,hm⟩:=S2.mem s.toNat da tK
   rw[jn sv.1]at hm
   have aly:mem.length<=many:=bM many ndm fun q hq=>((hm q).mp hq).1
   refine⟨_,rfl,x,dx2,_,rfl,hx2,rfl,x,go,ms,wt,iw,da,s,IU,IU++[s],mem,ds,rfl,S2.pt,S2.wt_,S2.iw_,jP _ jE,S2.ms_,sv.1,tK,S2.n3,EZ,(fun z=>S2.ndi (z ▸ oz tK)),by omega,fun sl hsl=>?_⟩
   have S3:=S2.pop (mem:=mem) hsl
   obtain⟨H3,IX⟩:∃ H3,upd (upd (upd H2 wt (HO.lst (IU.map V.int))) iw (HO.dK (cH ((IU++[s]).filter fun k=>decide (k≠s))))) sl (HO.lst (mem.map V.int))=H3:=⟨_,rfl⟩
   have ne3:∀ c u,Hb c=some u->c≠go/\c≠ms/\c≠wt/\c≠iw:=fun c u e=>⟨fun z=>(by rw[z,fg]at e;cases e),fun z=>(by rw[z,fms]at e;cases e),fun z=>(by rw[z,fw]at e;cases e),fun z=>(by rw[z,fi]at e;cases e)⟩
   have s3:ay Hb H3:=fun c u e=>by
    have n:=ne3 c u e
    rw[<- IX,ag (ao (s2 _ _ e) hsl),ag n.2.2.2,ag n.2.2.1]
    exact s2 _ _ e
   have amI:H3 sl=some #[211]:=by rw[<- IX,ae]
   rw[IX]at S3 ⊢
   have q1:sl≠go:=fun z=>by rw[z,S2.go_]at hsl;cases hsl
   have q2:sl≠ms:=fun z=>by rw[z,S2.ms_]at hsl;cases hsl
   have q3:sl≠wt:=fun z=>by rw[z,S2.wt_]at hsl;cases hsl
   have hs0:Ay many #[213] #[240] RR (bH gs) (fun g=>g∈IU) (fun q=>bH gs q=s) 0:=(hop.pop room s).mono fun g h=>by
    rcases sU.mp h.1 with z|z
    ·exact z
    ·exact absurd (jG.mp z) h.2
   exists _,rfl,bl,rfl,⟨_,bS (s3 _ _ hbl)⟩
   refine dj (K:=K) (xs:=Bs.map V.ref) (fun k σ' H'=>∃ (wZ mQ:LI) (ds':List Qo) (v5 v6 v7:OV),σ'=[some #[73],some (.ref dl),some (.ref bl),some #[180],some (.ref sl),v5,v6,v7]/\ay Hb H'/\CV H' C x go ms wt iw many wZ ds' mQ/\(∀ d∈ds',Hb d=none)/\H' sl=some #[211]/\Ay many #[213] #[240] RR (bH wZ) (fun g=>g∈mQ) (fun q=>bH gs q=s) k/\(mQ.length:Int)-2*(ds'.length:Int)<=(IU.length:Int)-2*(ds.length:Int))
    ⟨gs,IU,ds,_,_,_,rfl,s3,S3,fd2,amI,hs0,ZO _⟩ (fun i σ' H' _ ⟨_,_,_,_,_,_,_,e,_,_,_,_,_⟩=>bS (e _ _ hbl)) ?_ ?_
   ·rintro k y σ' H4 hk ⟨wZ,mQ,ds',v5,v6,v7,rfl,s4,S4,fd4,acJ,E1,me4⟩
    have kl:k<cols.length:=by
     have:=(fK hk).1
     rw[aO]at this
     omega
    obtain⟨B,hB,H0,es,bo⟩:=mB BA (jC kl)
    have ey:y=.ref B:=by rw[jO,hB]at hk;exact(Option.some.inj hk).symm
    subst ey
    obtain⟨col,afg⟩:∃ col,cols[k]=col:=⟨_,rfl⟩
    rw[afg]at bo
    have hcm:col∈cols:=afg ▸ jM kl
    have ci:=Q6 R ((hc _).mp hcm)
    have hkc:#[213][k]?=some (oP col):=by rw[jO,jC kl,afg];rfl
    have cmm:=oz hkc
    have lm:∀ {x:Int},x∈mem.flatMap (dA col)↔av many x/\oP col x∈mem:=fun {x}=>LG ci.1
    obtain⟨dx4,Od⟩:=S4.pt.ob
    refine⟨#[24],fun La Rh=>?_⟩
    have sLa:=aj Rh #[230]
    exists 69
    refine dh (t:=rZ _ _ _) (fun σ' H'=>∃ v7:OV,σ'=[some #[73],some (.ref dl),some (.ref bl),some #[180],some (.ref sl),some (.ref B),some (.ref La),v7]/\ay H4 H'/\H' La=some (.lst ((mem.flatMap (dA col)).map V.int))) ?_ (fun D'' anw=>?_)
    rotate_left
    ·exists _,rfl,sl,rfl,⟨_,bS (sLa _ _ acJ)⟩
     refine dj (K:=K) (xs:=mem.map V.int) (fun i σ' H'=>∃ v7:OV,σ'=[some #[73],some (.ref dl),some (.ref bl),some #[180],some (.ref sl),some (.ref B),some (.ref La),v7]/\ay H4 H'/\H' La=some (.lst (((mem.take i).flatMap (dA col)).map V.int))) ⟨_,rfl,sLa,ae⟩ (fun i σ' H' _ ⟨_,_,e,_⟩=>bS (e _ _ acJ)) ?_ ?_
     ·rintro i y σ' H5 hi ⟨v7,rfl,s5,Oa⟩
      exists 93
      have b5:=bo.same (s4.trans s5)
      refine⟨_,rfl,.inl ⟨rfl,_,bS Oa⟩,_,rfl,B,rfl,.inl ⟨_,.inl b5.at_⟩,_,rfl,#[24],fun t0 ht0=>?_⟩
      have U3:=aj ht0 (HO.tup [])
      have b6:=b5.same U3
      exists _,eV.k (k:=Sum.inl q) b6.at_
      have hL6:=U3 _ _ Oa
      have et:(mem.take (i+1)).flatMap (dA col)=(mem.take i).flatMap (dA col)++dA col q:=by
       rw[jY,hq,Zu]
       show _++[q].flatMap (dA col)=_
       rw[QH,List.flatMap_nil,jx]
      have len:(((mem.take i).flatMap (dA col)).map V.int).length+((dA col q).map V.int).length<=sizeLine:=by
       have nd:=HW col (ms:=mem.take (i+1)) ((ZV _ _).nodup ndm)
       have fw' := bM many nd fun z hz=>((LG ci.1).mp hz).1
       rw[et,jH]at fw'
       rw[aO,aO]
       exact small #[0]
      cases hv:eR (AK es) #[267]with
      | none =>
       have Ic:q∉es.map Prod.fst:=fun z=>by
        obtain⟨e,he,ee⟩:=jN.mp z
        obtain⟨jj,hjj⟩:=JF.mp he
        have:=AL b6.nd (q:=e.1) (a:=e.2) hjj
        rw[ee,hv]at this
        cases this
       have e0:=b6.non _ Ic
       rw[<- e0]at et
       rw[<- e0]at len
       refine .inr ⟨La,t0,_,[],rfl,rfl,hL6,ae,len,?_⟩
       exact⟨_,rfl,au (s5.trans U3) Rh,by rw[ae,et,jD];rfl⟩
      | some v =>
       obtain⟨la,ls',rfl,hm',hla,hp⟩:=b6.get hv
       rw[<- hp]at et
       rw[<- hp]at len
       refine .inl ⟨La,la,_,_,rfl,rfl,hL6,hla,len,?_⟩
       exact⟨_,rfl,au (s5.trans U3) Rh,by rw[ae,et,jD]⟩
     ·rintro σ' H5 ⟨v7,rfl,s5,Oa⟩
      rw[aO,jV]at Oa
      exact anw _ _ ⟨v7,rfl,s5,Oa⟩
    rintro σ' H5 ⟨v7,rfl,s5,Oa⟩
    have S5:=S4.same s5
    have anb:∀ q,av many q->(q∈mem↔bH gs q=s):=fun q hq=>⟨fun z=>((hm q).mp z).2,fun z=>(hm q).mpr ⟨hq,z⟩⟩
    have inL:∀ a,av many a->(a∈mem.flatMap (dA col)↔bH gs (oP col a)=s):=fun a ha=>by
     rw[lm,anb _ (room a ha _ cmm)]
     exact⟨fun z=>z.2,fun z=>⟨ha,z⟩⟩
    refine⟨_,rfl,x,dx4,_,rfl,s5 _ _ Od,rfl,_,rfl,x,go,ms,wt,iw,La,many,wZ,mQ,mem.flatMap (dA col),ds',fun gs1 n1 ws1=>Ay many #[213] #[240] RR (bH gs1) (fun g=>g∈ws1) (fun q=>bH gs q=s) k/\(ws1.length:Int)-2*(n1:Int)<=(IU.length:Int)-2*(ds.length:Int),rfl,S5,n1,Oa,⟨fun z=>(by rw[z,S4.go_]at Rh;cases Rh),fun z=>(by rw[z,S4.ms_]at Rh;cases Rh),fun z=>(by rw[z,S4.wt_]at Rh;cases Rh)⟩,HW col ndm,fun q hq=>(lm.mp hq).1,⟨E1,me4⟩,?_,?_⟩
    ·rintro gs1 n1 ws1 gs2 ws2 ⟨h1,h2⟩ val ⟨b,nw,rfl,e1,e2,e3,e4⟩
     refine⟨h1.split sym room (L:=fun a=>a∈mem.flatMap (dA col)) (b:=b) (n:=(n1:Int)) (fun a c ha Y3 r hl=>?_) (fun a ha z=>?_) (fun g hg=>jb _ hg) (fun hb=>?_) ?_ e3 e4,?_⟩
     ·rw[inL a ha]at hl
      rw[inL c Y3]
      exact h1.whole _ _ (room a ha _ cmm) (room c Y3 _ cmm) (lk.led a c r _ cmm) hl
     ·have:=val a ha
      omega
     ·rw[<- e2 hb]
      exact jP _ jE
     ·rcases e1 with e1|e1
      ·exact .inl (by rw[<- e1];exact jP _ jE)
      ·exact .inr (by rw[<- e1];exact jP _ jE)
     ·rw[jH,jX]
      omega
    ·intro H6 gs6 ws6 more S6 j6 nc fm kp
     have s6:ay Hb H6:=fun c u e=>by
      have n:=ne3 c u e
      exact kp c u n.1 n.2.1 n.2.2.1 n.2.2.2 (fun z=>by rw[fd4 c z]at e;cases e) (s5 _ _ (s4 _ _ e))
     have afH:=s5 _ _ acJ
     refine⟨gs6,ws6,ds'++more,_,_,_,rfl,s6,S6,fun d hd=>?_,kp sl _ q1 q2 q3 (aG afH S5.iw_ #[2]) (fun z=>?_) afH,j6.1.next hkc fun a c ha Y3 e h=>?_,j6.2⟩
     ·rcases sU.mp hd with z|z
      ·exact fd4 d z
      ·have:=fm d z
       cases e:Hb d with
       | none=>rfl
       | some u=>rw[s5 _ _ (s4 _ _ e)]at this;cases this
     ·obtain⟨mm',hmm⟩:=S5.at_ z
      rw[afH]at hmm
      cases hmm
     ·exact(inL c Y3).mp (nc a c ha Y3 e ((inL a ha).mpr h))
   ·rintro σ' H4 ⟨wZ,mQ,ds',v5,v6,v7,rfl,s4,S4,fd4,acJ,E1,me4⟩
    have aqz:=S4.Fm
    rw[aO,lBs]at E1
    have lcm:cols.length=#[213].length:=(jW _).symm
    rw[lcm]at E1
    refine⟨_,?_,wZ,mQ,ds',_,_,_,_,rfl,rfl,s4,S4,fd4,E1.done⟩
    rw[emm,jH,jX]
    omega
  ·refine iK _ _ ⟨gs,ws,ds,v4,v5,v6,v7,rfl,s2,S2,fun a b ha hb=>Rk CO R hop (P6.single (S2.alone (by rw[c,S2.lg]))) ha hb⟩
 rintro σ' H2 ⟨gs,ws,ds,v4,v5,v6,v7,rfl,s2,S2,fin⟩
 obtain⟨dx2,hx2⟩:=S2.pt.ob
 exact⟨_,rfl,x,C,dx2,_,_,rfl,hx2,pc.cl,pc.ng,rfl,k go gs H2 (sb.trans s2) (sb.free fg) S2.go_ S2.lg fin⟩
end
def R5(K:Yh):Sp:=fun vs H Q E=>Dw K ahz vs H Q E\/Dw K ahA vs H Q E
theorem Eh(xs:LI)(g:Int):Ci (xs++[g]) 0=Ci xs 0++[(Sum.inl g,V.int (xs.length:Int))]:=by
 unfold Ci
 rw[ZT,jD,Jd]
 rfl
theorem He(nd:qs.Nodup):∀ i,eZ [] (Ci #[243] 0)=Ci #[243] 0
 | 0=>by rw[ZM];rfl
 | i+1=>by
  have ih:=He nd i
  cases e:qs[i]? with
  | none =>
   rw[jY,e]
   show eZ [] (Ci (qs.take i++[]) 0)=Ci (qs.take i++[]) 0
   rw[jx]
   exact ih
  | some g =>
   have et:qs.take (i+1)=qs.take i++[g]:=by rw[jY,e];rfl
   have il:=fK e
   have hg:g∉qs.take i:=fun z=>by
    obtain⟨j,hj,ej⟩:=jm z
    rw[jR]at hj
    rw[zp]at ej
    have:=(JT nd).mp (ej.trans il.2.symm)
    omega
   rw[et]
   show eZ [] (Ci (qs.take i++[g]) 0)=_
   have m:eZ [] (Ci #[243] 0++[(Sum.inl g,V.int (#[243].length:Int))])=putK (eZ [] (Ci #[243] 0)) (Sum.inl g) (V.int (#[243].length:Int)):=by
    unfold eZ
    rw[JM]
    rfl
   rw[Eh,m,ih,Ih hg,Eh]
theorem CA(φ:Int->Int)(n:Nat):cq φ (n+1)=cq φ n++(if φ (n:Int)=(bj φ n:Int)then [n]else []):=by
 unfold cq
 rw[JI,JW]
 congr 1
 by_cases c:φ (n:Int)=(bj φ n:Int)
 ·exists 45
 ·exists 37
theorem SE{q:Nat}(h:q∈cq φ n):q<n:=je.mp (ju.mp h).1
theorem BM(R:aC many wide rows){t:Int}(h0:0<=q)(h1:q<(many:Int))(ht:t∈rows.getD q.toNat []):∃ f:Nat,f<wide/\t=stepI rows q f:=by
 have l:q.toNat<rows.length:=by rw[R.len];omega
 rw[getD_at l]at ht
 obtain⟨f,hf,e⟩:=jm ht
 have lr:=R.row _ (jM l)
 refine⟨f,by omega,?_⟩
 unfold stepI
 rw[getD_at l,jB,getD_at hf,e]
inductive RW (K:Yh) (vs:List V) (H:Hp) (Q:VK) (E:XK):Prop
 | mk (m r g:Qo) (many wide:Nat) (rows:LL) (signs:LI) (_:vs=[.ref m]) (_:bG H m r g wide rows signs) (_:aC many wide rows) (_:signs.length=many) (_:(1<=many/\many<1000)) (_:wide<=1000) (_:∀ (m' r' g':Qo) (ax:LL) (signs':LI) (H':Hp),ay H H'->bG H' m' r' g' wide ax signs'->dJ wide rows ax signs signs'->Q (.ref m') H')
section
theorem aaM(F:bL K "with_rooms" "with_rooms" dY dV f fd)(aQ:mg "tuple" = none):bw P w K mg base eS 1 f fd ["machine","kept","numbers"] (R5 K):=bw.or (Tu F aQ) (Tv F aQ)
theorem mE:aE ["machine","reached","small","numbers","firsts","groups","here","group"] ["machine"] (ar BN):=cV #[3]
theorem AB:aU ["machine","reached","small","numbers","firsts","groups","here","group"] (ar BN) ["number","here"] [none,none] ⟨.function,[#[48],("number",.local),#[250]],false,false,[]⟩:=mz #[3]
theorem DN:aU ["machine","reached","small","numbers","firsts","groups","here","group"] (ar BN) ["group","numbers"] [none,some 3] ⟨.function,[#[48],("group",.local),("numbers",.free)],false,false,[]⟩:=mz #[3]
theorem aaE(F:bL K "least" "least" BN dV f fd)(iR:bQ P w K mg base "reached_rooms" 1 ["machine","start"] [.int 0] (Ht K))(mR:bQ P w K mg base "with_rooms" 1 ["machine","kept","numbers"] [] (R5 K))(iT:bQ P w K mg base "unparted_groups" 4 ["machine"] [] (aez K))(bN:mg "enumerate" = none)(iy:mg "dict" = none)(aN:mg "len" = none):bw P w K mg base eS 5 f fd ["machine"] (RW K):=by
 refine F.ok mE #[6] #[1]
 ·exists 44
  rfl
 obtain⟨m,r,g,many,wide,rows,signs,rfl,M,R,ls,⟨n0,n1⟩,w1,k⟩:=h
 exists 98
 refine wc (bc (mT.mk (aD (i:=1) mE.nd (bE iR hr #[163])))
   (bc (mT.mk (aD (i:=2) mE.nd (bE mR hr (aa (pv 0) (aa (pv 1) (aa (aM (pF rfl) #[38] iy Bm (aa (cT rfl AB (Es rfl bN #[81]) (fun _ _ _ _=>(RB K (n:=2) rfl (cR (aL (i:=0) AB.nd) (cR (aL (i:=1) AB.nd) pK)))) (fun _ _ _ _=>(cE (aa (pv 1) #[163])))) af)) af))))))
   (bc (mT.mk (aD (i:=3) mE.nd oW))
   (bc (mT.mk (aD (i:=4) mE.nd (cX af)))
   (bc (mT.mk (aD (i:=5) mE.nd (bE iT hr #[63])))
   (bc (mT.mk (bq PassesOwn.never rfl (Es rfl bN (aa (pv 5) af)) (AO rfl (cR (aL (i:=6) mE.nd) (cR (aL (i:=7) mE.nd) pK))) (ak (cK (AR (Ac hu (pv 7) (pv 3)) #[60]) (ah (pM hu (pv 3) (pv 7) (az wR #[38] aN bx #[107]) rfl)
   (ak (bJ (fc Yj Yk Yl bD (pv 4) (aa (pv 6) af))))) bB))))
   (rC (mT.mk (aJ (bE mR hr (aa (pv 2) (aa (pv 4) (aa (cT rfl DN (cI (pv 5)) (fun _ _ _ _=>(aL (i:=0) DN.nd)) (fun _ _ _ _=>(Ry hu (pv 1) (pv 0) #[12]))) af))))))))))))) ?_
 exists 0
 refine⟨_,rfl,m,r,g,many,wide,rows,signs,rfl,M,R,⟨n0,by omega⟩,fun l H1 qs s1 hl1 bf=>?_⟩
 have Fm:=bM many bf.nd bf.inr
 have reF:∀ q∈qs,∃ row,Am wide row/\aR rows row 0=q:=fun q hq=>(bf.re q).mp hq
 obtain⟨R1,O1,p1,t1⟩:=MR (signs:=signs) R #[0] bf.eq bf.nd (fun q hq=>bf.inr q hq) reF
 exists 69
 refine dh (t:=EO _ _) (fun σ' H'=>∃ m1 r1 g1:Qo,σ'=[some #[73],some #[202],some (.ref m1),none,none,none,none,none]/\ay H H'/\bG H' m1 r1 g1 wide (cy rows (rj qs) qs) #[305]) ?_ #[41]
 rotate_left
 ·exists _,rfl,_,rfl,_,rfl,l,rfl,⟨_,bS hl1⟩
  refine OD (K:=K) (xs:=qs.map V.int) (fun D i ys H'=>ay H1 H'/\∃ ts,ys=ts.map V.ref/\fH H' ts (Ci #[243] 0)) (fun T σ H Q i x h q=>⟨T,[.int i,x],rfl,bV h,rfl,.int i,[x],rfl,x,[],rfl,rfl,q⟩) #[70] (fun D i ys H' _ ⟨e,_⟩=>bS (e _ _ hl1)) ?_ ?_
  ·rintro D i y ys H2 T0 Q' hD hi hy ⟨s2,ts,rfl,pv⟩ hT0 k'
   exists 93
   have il:=(fK hq).1
   have sT0:=aj hT0 (HO.tup [V.int i,V.int q])
   refine⟨_,rfl,_,rfl,(by show 2<=sizeLine;decide),fun T hT=>?_⟩
   have sT:=aj hT (HO.tup [V.int q,V.int i])
   obtain⟨H3,IX⟩:∃ H3,upd (upd H2 T0 (HO.tup [V.int i,V.int q])) T (HO.tup [V.int q,V.int i])=H3:=⟨_,rfl⟩
   have hT3:H3 T=some (.tup [V.int q,V.int i]):=by rw[<- IX,ae]
   rw[IX]at sT ⊢
   have s3:=sT0.trans sT
   have hy3:=s3 _ _ hy
   have lts:ts.length=i:=by
    rw[Paired.length pv,sQ,jR]
    omega
   refine k' _ _ hy3 (aw #[30]) ⟨au (s2.trans s3) hD,ts++[T],by rw[jD];rfl,?_⟩
   have up:∀ b xs,H3 b=some #[36]->(upd H3 D #[125]) b=some #[36]:=fun b xs e=>by
    rw[ag (aG e hy3 #[2])];exact e
   have et:qs.take (i+1)=qs.take i++[q]:=by rw[jY,hq];rfl
   have ll:#[243].length=i:=by rw[jR];omega
   rw[et,Eh,ll]
   exact Paired.snoc (fH.same pv fun b xs e=>up b xs (s3 _ _ e)) (up _ _ hT3)
  ·rintro L ys H2 fL hL ⟨s2,ts,rfl,pv⟩
   rw[aO,jV]at pv
   refine⟨L,ts,_,rfl,hL,pv,fun D hD=>?_⟩
   have mk:=He bf.nd qs.length
   rw[jV]at mk
   rw[mk]
   have s3:=s2.trans (aj hD (HO.dK (Ci qs 0)))
   refine .inl ⟨m,l,D,r,g,many,wide,rows,signs,qs,rj qs,rfl,M.same fun b xs e=>s3 _ _ (s1 _ _ e),R,ls,⟨by omega,w1⟩,s3 _ _ hl1,by omega,bf.inr,⟨_,ae,fun q hq t ht=>?_⟩,fun m1 r1 g1 H3 s4 M3=>?_⟩
   ·have qi:=bf.inr q hq
    obtain⟨f,hf,e⟩:=BM R qi.1 qi.2 ht
    have tq:t∈qs:=(bf.re t).mpr (by rw[e];exact((bf.re q).mp hq).step #[0] #[0])
    rw[Aa,if_pos tq,Jd]
    rfl
   ·exact iK _ _ ⟨m1,r1,g1,rfl,(s1.trans s3).trans s4,M3⟩
 rintro σ' H2 ⟨m1,r1,g1,rfl,s2,M2⟩
 refine fun Nn hNn=>⟨#[24],fun Fa hFa=>?_⟩
 obtain⟨H3,IX⟩:∃ H3,upd (upd H2 Nn (HO.dK [])) Fa #[230]=H3:=⟨_,rfl⟩
 have s3:ay H2 H3:=by rw[<- IX];exact(aj hNn _).trans (aj hFa _)
 have nNF:Nn≠Fa:=ao ae hFa
 have LJ:H3 Nn=some (.dK []):=by rw[<- IX,ag nNF,ae]
 have hF3:H3 Fa=some (.lst []):=by rw[<- IX,ae]
 have fN:H Nn=none:=s2.free hNn
 have fF:H Fa=none:=s2.free ((aj hNn (HO.dK [])).free hFa)
 rw[IX]
 have lsg:#[305].length=qs.length:=by unfold cB;rw[aO]
 have R1':aC qs.length wide (cy rows (rj qs) qs):=R1
 refine⟨_,rfl,m1,r1,g1,qs.length,wide,_,_,rfl,M2.same fun b xs e=>s3 _ _ e,R1',lsg,by omega,w1,fun go gs H4 s4 fgo LP lg hg=>?_⟩
 have sH4:ay H2 H4:=s3.trans s4
 have M4:=M2.same fun b xs e=>sH4 _ _ e
 exists 69
 refine dh (t:=rZ _ _ _) (fun σ' H'=>∃ v6 v7:OV,σ'=[some #[73],some #[202],some (.ref m1),some (.ref Nn),some (.ref Fa),some (.ref go),v6,v7]/\(∀ c u,c≠Nn->c≠Fa->H4 c=some u->H' c=some u)/\H' Nn=some (.dK (Ci (aK gs) 0))/\H' Fa=some (.lst ((#[134].map fun i:Nat=>(i:Int)).map V.int))) ?_ #[41]
 rotate_left
 ·have ngN:go≠Nn:=aG LP (s4 _ _ LJ) #[2]
  have ngF:go≠Fa:=fun z=>by rw[z,hF3]at fgo;cases fgo
  refine⟨_,rfl,go,rfl,⟨_,bS LP⟩,FX (K:=K) (xs:=gs.map V.int) (fun i σ' H'=>∃ v6 v7:OV,σ'=[some #[73],some #[202],some (.ref m1),some (.ref Nn),some (.ref Fa),some (.ref go),v6,v7]/\(∀ c u,c≠Nn->c≠Fa->H4 c=some u->H' c=some u)/\H' Nn=some (.dK (Ci (aK (gs.take i)) 0))/\H' Fa=some (.lst (((cq (rh gs) i).map fun i:Nat=>(i:Int)).map V.int)))
   ⟨none,none,rfl,fun _ _ _ _ e=>e,s4 _ _ LJ,s4 _ _ hF3⟩ (fun i σ' H' _ ⟨_,_,_,e,_,_⟩=>bS (e _ _ ngN ngF LP)) ?_ ?_⟩
  ·rintro i y σ' H5 T hi ⟨v6,v7,rfl,S7,hN5,Y0⟩ hT
   obtain⟨gg,rfl,hgg⟩:=bp hi
   have il:=(fK hgg).1
   have sT:=aj hT (HO.tup [V.int i,V.int gg])
   obtain⟨H6,eH6⟩:∃ H6,upd H5 T (HO.tup [V.int i,V.int gg])=H6:=⟨_,rfl⟩
   have hT6:H6 T=some (.tup [V.int i,V.int gg]):=by rw[<- eH6];exact ae
   rw[eH6]at sT ⊢
   have hN6:=sT _ _ hN5
   have hF6:=sT _ _ Y0
   have ol:=rT (gs.take i)
   rw[jR]at ol
   have cp:=HN gs (m:=i) #[0]
   have fl:=oQ (rh gs) i
   exists T,_,rfl,bV hT6,rfl,_,_,rfl,_,_,rfl,rfl
   exists _,rfl,_,rfl,Nn,_,rfl,eV.k (k:=Sum.inl gg) hN6,_,rfl
   rw[Aa]
   by_cases c:gg∈aK (gs.take i)
   ·rw[if_pos c]
    refine lQ ⟨_,_,rfl,fun c' u c1 c2 e=>sT _ _ (S7 c' u c1 c2 e),by rw[hN6,oA hgg,rM c],?_⟩
    have ph:=Dt hgg c
    have lt:=jv c
    rw[hF6,CA,if_neg (by rw[ph,cp];omega),jx]
   ·rw[if_neg c]
    refine oU ⟨_,rfl,Nn,_,rfl,hN6,_,rfl,_,rfl,Nn,_,rfl,A0.k (k:=Sum.inl gg) hN6 (aw (by rw[sQ];omega)),?_⟩
    rw[sQ,Ih c]
    have nFN:Fa≠Nn:=Ne.symm nNF
    have ph:=Ds hgg c
    refine⟨_,rfl,.inl ⟨rfl,_,bS (by rw[ag nFN];exact hF6)⟩,_,rfl,Fa,_,_,rfl,rfl,(by rw[ag nFN];exact hF6),aw (by rw[aO,aO,fl,cp];omega),?_⟩
    refine⟨_,_,rfl,fun c' u c1 c2 e=>by rw[ag c2,ag c1];exact sT _ _ (S7 c' u c1 c2 e),by rw[ag nNF,ae,oA hgg,lP c],?_⟩
    rw[ae,CA,if_pos (by rw[ph,cp]),jD,jD]
    rfl
  ·rintro σ' H5 ⟨v6,v7,rfl,S7,hN5,Y0⟩
   rw[aO,jV]at hN5
   rw[aO]at Y0
   exact iK _ _ ⟨v6,v7,rfl,S7,hN5,Y0⟩
 rintro σ' H5 ⟨v6,v7,rfl,S7,hN5,Y0⟩
 have s5:ay H H5:=fun c u e=>S7 c u (fun z=>by rw[z,fN]at e;cases e) (fun z=>by rw[z,fF]at e;cases e) (sH4 _ _ (s2 _ _ e))
 have M5:bG H5 m1 r1 g1 wide (cy rows (rj qs) qs) #[305]:=M4.same fun b xs e=>S7 b _ (aG e (s4 _ _ LJ) #[2]) (aG e (s4 _ _ hF3) #[2]) e
 have SV:H5 go=some #[179]:=S7 _ _ (aG LP (s4 _ _ LJ) #[2]) (fun z=>by rw[z,hF3]at fgo;cases fgo) LP
 have plg:(fO gs).length=gs.length:=by unfold fO;rw[aO,jq]
 exists _,rfl,_,rfl,_,rfl,go,rfl,⟨_,bS SV⟩
 refine iE (K:=K) (xs:=gs.map V.int) (fun D i ys H'=>ay H5 H'/\ys=((fO gs).take i).map V.int) #[21] (fun D i ys H' _ ⟨e,_⟩=>bS (e _ _ SV)) ?_ ?_
 ·rintro D i y ys H6 Q' hD hi hy ⟨s6,rfl⟩ k'
  obtain⟨gg,rfl,hgg⟩:=bp hi
  have il:=(fK hgg).1
  have om:gg∈aK gs:=dk.mpr (oz hgg)
  have ph:rh gs (i:Int)=(((aK gs).idxOf gg:Nat):Int):=by
   unfold rh
   rw[jB,jI,hgg]
   rfl
  have dg:eV H6 Nn (.int gg) (some (.int (rh gs (i:Int)))):=by
   have d:=eV.k (k:=Sum.inl gg) (s6 _ _ hN5)
   rw[Aa,if_pos om,Jd,<- ph]at d
   exact d
  have hp:(fO gs)[i]?=some (rh gs (i:Int)):=by
   unfold fO
   rw[jO,Zt il]
   rfl
  refine⟨_,rfl,_,rfl,Nn,_,rfl,dg,k' _ _ hy (aw (by rw[aO,jR];omega)) ⟨au s6 hD,?_⟩⟩
  rw[jY,hp,jD]
  rfl
 ·rintro L ys H6 fL hL ⟨s6,rfl⟩
  rw[aO,<- plg,jV]at hL
  have fi:∀ q∈#[134].map (fun i:Nat=>(i:Int)),0<=q/\q<(qs.length:Int):=fun q hq=>by
   obtain⟨i,hi,rfl⟩:=jN.mp hq
   have:=SE hi
   omega
  have alA:(#[134].map fun i:Nat=>(i:Int)).length<=1000:=by
   rw[aO]
   have:=Jc (fun q:Nat=>decide (rh gs (q:Int)=(bj (rh gs) q:Int))) (jZ gs.length)
   rw[jq]at this
   unfold cq
   omega
  refine .inr ⟨m1,Fa,L,r1,g1,qs.length,wide,_,_,_,rh gs,rfl,M5.same fun b xs e=>s6 _ _ e,R1',lsg,⟨by omega,w1⟩,s6 _ _ Y0,alA,fi,⟨fO gs,hL,fun q hq t ht=>?_⟩,fun m' r' g' H7 s7 M7=>?_⟩
  ·have qi:=fi q hq
   obtain⟨f,hf,e⟩:=BM R1' qi.1 qi.2 ht
   have tv:=cS R1' qi.1 qi.2 (f:=(f:Int)) #[0] #[0]
   rw[<- e]at tv
   have tv1:t<(gs.length:Int):=by rw[lg];exact tv.2
   refine⟨⟨tv.1,by rw[plg];exact tv1⟩,?_⟩
   have:=BI (gs:=gs) tv.1 tv1
   unfold bH at this
   exact this.symm
  ·refine k m' r' g' _ _ H7 ((s5.trans s6).trans s7) M7 ?_
   have L:=L8 (signs:=signs) (gs:=gs) R #[0] bf.eq bf.nd (fun q hq=>bf.inr q hq) reF lg (fun x y hx hy=>by
    have h:=hg (x:Int) (y:Int) ⟨by omega,by omega⟩ ⟨by omega,by omega⟩
    unfold bH at h
    rw[jB,jB]at h
    exact h)
   have el:#[11].length=gs.length:=by rw[aO,lg]
   rw[BK,el,<- lg]at L
   have e1:cy (cy rows (rj qs) qs) (rh gs) (#[134].map fun i:Nat=>(i:Int))=#[134].map fun i=>(#[11].getD i []).map (rh gs):=by
    unfold cy
    rw[JO]
    rfl
   have e2:cB #[305] (#[134].map fun i:Nat=>(i:Int))=#[134].map fun q=>#[141].getD q 0:=by
    unfold cB
    rw[JO]
    rfl
   rw[e1,e2]
   exact L
end
theorem Er{q k:Nat}(h:bO q m (r :: rs)=some k):q<m/\∃ m1,aY m r=some m1/\bO (q+1) m1 rs=some k:=by
 unfold bO at h
 by_cases c:q<m
 ·rw[if_pos c]at h
  cases e:aY m r with
  | none=>rw[e]at h;cases h
  | some m1=>rw[e]at h;exact⟨c,m1,rfl,h⟩
 ·rw[if_neg c]at h
  cases h
theorem T6{f:Int}:aR rows (v++[f]) 0=stepI rows (aR rows v 0) f:=by
 rw[eB]
 rfl
theorem AN{P:Int->Prop}:∀ {r:LI} {m m1:Nat},aY m r=some m1->(∀ i:Nat,i<m->P (i:Int))->(∀ t∈r,P t)->∀ i:Nat,i<m1->P (i:Int)
 | [],m,m1,h,hm,_=>by
  have e:m=m1:=Option.some.inj h
  subst e
  exact hm
 | t :: r,m,m1,h,hm,ht=>by
  exists 19
  have U1:∀ t∈r,P t:=fun x hx=>ht x (jJ _ hx)
  by_cases c:t=(m:Int)
  ·rw[if_pos c]at h'
   refine AN h' (fun i hi=>?_) U1
   by_cases d:i=m
   ·rw[d,<- c];exact ht t jE
   ·exact hm i #[0]
  ·rw[if_neg c]at h'
   by_cases d:t<(m:Int)
   ·rw[if_pos d]at h'
    exact AN h' hm U1
   ·rw[if_neg d]at h'
    cases h'
theorem CN{P:Int->Prop}:∀ {rs:LL} {q m k:Nat},bO q m rs=some k->(∀ i:Nat,i<m->P (i:Int))->(∀ (j:Nat) (r:LI),rs[j]?=some r->P ((q+j:Nat):Int)->∀ t∈r,P t)->∀ i:Nat,i<k->P (i:Int)
 | [],q,m,k,h,hm,_=>by
  have e:m=k:=Option.some.inj h
  subst e
  exact hm
 | r :: rs,q,m,k,h,hm,hr=>by
  obtain⟨c,m1,o1,o2⟩:=Er h
  refine CN o2 (AN o1 hm (hr 0 r rfl (hm q c))) fun j r' hj hp=>hr (j+1) r' hj ?_
  rw[show q+(j+1)=q+1+j by omega]
  exact hp
theorem mS.RL(R:aC rows.length wide rows)(O:mS rows):∀ i:Nat,i<rows.length->∃ v,Am wide v/\aR rows v 0=(i:Int):=by
 refine CN (P:=fun q=>∃ v,Am wide v/\aR rows v 0=q) O (fun i hi=>⟨[],#[257],by rw[show i=0 by omega];rfl⟩) ?_
 rintro j r hj ⟨v,hv,e⟩ t ht
 rw[Jd]at e
 obtain⟨f,hf,ef⟩:=jm ht
 have lr:r.length=wide:=R.row r (oz hj)
 refine⟨v++[(f:Int)],fun g hg=>?_,?_⟩
 ·rcases sU.mp hg with z|z
  ·exact hv g z
  ·rw[jG.mp z];omega
 ·rw[T6,e]
  have er:rows.getD j []=r:=by rw[jI,hj];rfl
  unfold stepI
  rw[jB,jB,er,getD_at hf,ef]
theorem Tells.on(h:Tells wide rows ax signs signs' a b)(hv:Am wide v):Tells wide rows ax signs signs' (aR rows v a) (aR ax v b):=fun u hu=>by
 have:=h (v++u) fun f hf=>by
  rcases sU.mp hf with z|z
  ·exact hv f z
  ·exact hu f z
 rw[eB,eB]at this
 exact this
theorem dJ.Fm(h:dJ wide rows ax signs signs')(R:aC many wide rows)(m0:1<=many):ax.length<=many:=by
 have ex:∀ i:Nat,∃ p:Int,i<ax.length->(0<=p/\p<(many:Int))/\Tells wide rows ax signs signs' p (i:Int):=fun i=>by
  by_cases c:i<ax.length
  ·obtain⟨v,hv,ew⟩:=h.ord.RL h.ok i c
   refine⟨aR rows v 0,fun _=>⟨mG R hv #[0] #[0],?_⟩⟩
   have:=Tells.on h.tells hv
   rw[ew]at this
   exact this
  ·exact⟨0,fun z=>absurd z c⟩
 obtain⟨F,hF⟩:=Classical.axiomOfChoice ex
 have nd:((jZ ax.length).map F).Nodup:=Je.mpr (List.nodup_range.imp_of_mem fun {a b} ha hb ne z=>ne (by
  have ia:=je.mp ha
  have ib:=je.mp hb
  have ta:=(hF a ia).2
  have tb:=(hF b ib).2
  rw[z]at ta
  have:=h.apart (a:Int) (b:Int) ⟨by omega,by omega⟩ ⟨by omega,by omega⟩ (Tells.right ta tb)
  omega))
 have:=bM many nd fun q hq=>by
  obtain⟨i,hi,rfl⟩:=jN.mp hq
  exact(hF i (je.mp hi)).1
 rw[aO,jq]at this
 exact this
theorem F9:∀ r:LI,qH (T8 K H 0) #[268] #[268]
 | []=>.nil
 | i :: r=>.cons ⟨i,rfl,rfl⟩ (F9 r)
theorem MI:∀ {rows:LL} {as bs:List Qo},aH H as rows->aH H bs rows->qH (T8 K H 1) #[62] (bs.map V.ref)
 | [],as,bs,h,h'=>by
  cases h
  cases h'
  exact .nil
 | r :: rows,as,bs,h,h'=>by
  cases h with
  | cons h t =>
   cases h' with
   | cons h' t'=>exact .cons (.inr ⟨_,_,_,_,rfl,rfl,bV h,bV h',F9 r⟩) (MI t t')
theorem F8:∀ r:LI,qH (T8 K H 1) #[268] #[268]
 | []=>.nil
 | i :: r=>.cons (.inl ⟨i,rfl,rfl⟩) (F8 r)
theorem bG.eqD{m r g m' r' g':Qo}(M:bG H m r g wide rows signs)(M':bG H m' r' g' wide rows signs):qH (T8 K H 2) [.int wide,.ref r,.ref g] [.int wide,.ref r',.ref g']:=by
 obtain⟨cN,h1,h2⟩:=M.rows
 obtain⟨AU,CB,Dk⟩:=M'.rows
 exact .cons (.inl ⟨_,rfl,rfl⟩) (.cons (.inr ⟨_,_,_,_,rfl,rfl,bV h1,bV CB,MI h2 Dk⟩) (.cons (.inr ⟨_,_,_,_,rfl,rfl,bV M.sgn,bV M'.sgn,F8 signs⟩) .nil))
theorem sub_len[DecidableEq α]:∀ {ps vs:List α},ps.Nodup->(∀ p∈ps,p∈vs)->ps.length<=vs.length
 | [],_,_,_=>jd _
 | p :: ps,vs,nd,h=>by
  have Ik:=jy.mp nd
  have hp:=h p jE
  have:=sub_len (vs:=vs.erase p) Ik.2 fun q hq=>(zC (show q≠p from fun z=>Ik.1 (by rw[<- z];exact hq))).mpr (h q (jJ _ hq))
  rw[zI hp]at this
  have:=Ja hp
  rw[jc]
  omega
def tR(a b:LI):Prop:=a.length=b.length/\∀ i j:Nat,i<a.length->j<a.length->b.getD i 0=b.getD j 0->a.getD i 0=a.getD j 0
theorem LA{a b:LI}(h:tR a b):∃ φ:Int->Int,∀ i:Nat,i<a.length->a.getD i 0=φ (b.getD i 0):=by
 refine⟨fun v=>a.getD (b.idxOf v) 0,fun i hi=>?_⟩
 have hb:i<b.length:=by have:=h.1;omega
 have hm:b.getD i 0∈b:=by rw[getD_at hb];exact jM hb
 have hj:=jv hm
 refine h.2 i _ hi (by have:=h.1;omega) ?_
 rw[getD_at hj,Jw]
theorem X4{a b:LI}(h:tR a b):(aK a).length<=(aK b).length:=by
 obtain⟨φ,hφ⟩:=LA h
 have:=sub_len (sX a) (vs:=(aK b).map φ) fun p hp=>by
  obtain⟨i,hi,rfl⟩:=jm (dk.mp hp)
  have hb:i<b.length:=by have:=h.1;omega
  refine jN.mpr ⟨b.getD i 0,dk.mpr (by rw[getD_at hb];exact jM hb),?_⟩
  rw[<- hφ i hi,getD_at hi]
 rw[aO]at this
 exact this
theorem X3{a b:LI}(h:tR a b)(e:(aK b).length=(aK a).length):tR b a:=by
 refine⟨h.1.symm,fun i j hi hj eq=>?_⟩
 by_cases c:b.getD i 0=b.getD j 0
 ·exact c
 exfalso
 obtain⟨φ,hφ⟩:=LA h
 have l:=h.1
 have mj:b.getD j 0∈aK b:=dk.mpr (by rw[getD_at hj];exact jM hj)
 have mi:b.getD i 0∈aK b:=dk.mpr (by rw[getD_at hi];exact jM hi)
 have:=sub_len (sX a) (vs:=((aK b).erase (b.getD j 0)).map φ) fun p hp=>by
  obtain⟨k,hk,rfl⟩:=jm (dk.mp hp)
  have hb:k<b.length:=by omega
  by_cases d:b.getD k 0=b.getD j 0
  ·refine jN.mpr ⟨b.getD i 0,(zC c).mpr mi,?_⟩
   rw[<- hφ i #[0],eq,hφ j #[0],<- d,<- hφ k hk,getD_at hk]
  ·refine jN.mpr ⟨b.getD k 0,(zC d).mpr (dk.mpr (by rw[getD_at hb];exact jM hb)),?_⟩
   rw[<- hφ k hk,getD_at hk]
 rw[aO,zI mj]at this
 have:=Ja mj
 omega
theorem aaO{a:LI}(h:∀ i j:Nat,i<a.length->j<a.length->a.getD i 0=a.getD j 0->i=j):(aK a).length=a.length:=by
 refine ZH (rT a) (sub_len ?_ fun p hp=>dk.mpr hp)
 refine zh.mpr fun i j hi hj lt z=>?_
 have:=h i j hi hj (by rw[getD_at hi,getD_at hj];exact z)
 omega
def Behind(rows:LL)(wide:Nat)(a b:LI):Prop:=a.length=rows.length/\b.length=rows.length/\∀ i j:Nat,i<rows.length->j<rows.length->(b.getD i 0=b.getD j 0↔a.getD i 0=a.getD j 0/\∀ f:Nat,f<wide->sgn a (stepI rows (i:Int) f)=sgn a (stepI rows (j:Int) f))
theorem Behind.X2{a b:LI}(h:Behind rows wide a b):tR a b:=⟨by rw[h.1,h.2.1],fun i j hi hj e=>((h.2.2 i j (by rw[<- h.1];exact hi) (by rw[<- h.1];exact hj)).mp e).1⟩
theorem OZ{a b:LI}(R:aC rows.length wide rows)(A:Apart wide rows signs)(ls:signs.length=rows.length)(fs:tR signs a)(h:Behind rows wide a b)(e:(aK b).length=(aK a).length):(aK a).length=rows.length:=by
 have fe:=X3 h.X2 e
 have la:=h.1
 rw[aaO (a:=a) ?_,la]
 intro i j hi hj eq
 have ap:=A (i:Int) (j:Int) ⟨by omega,by omega⟩ ⟨by omega,by omega⟩ ?_
 ·omega
 intro n v hv hn
 have go:∀ (v:LI) (x y:Nat),Am wide v->x<rows.length->y<rows.length->a.getD x 0=a.getD y 0->∃ x' y':Nat,aR rows v (x:Int)=(x':Int)/\aR rows v (y:Int)=(y':Int)/\x'<rows.length/\y'<rows.length/\a.getD x' 0=a.getD y' 0:=by
  intro v
  induction v with
  | nil=>intro x y _ hx hy e;exact⟨x,y,rfl,rfl,hx,hy,e⟩
  | cons f v ih =>
   intro x y hv hx hy e
   have hf:=hv f jE
   obtain⟨g,rfl⟩:=cZ hf.1
   have sx:=cS R (h:=(x:Int)) (f:=(g:Int)) #[0] #[0] #[0] hf.2
   have sy:=cS R (h:=(y:Int)) (f:=(g:Int)) #[0] #[0] #[0] hf.2
   obtain⟨x1,ex⟩:=cZ sx.1
   obtain⟨y1,ey⟩:=cZ sy.1
   have eb:b.getD x 0=b.getD y 0:=fe.2 x y (by rw[h.2.1];exact hx) (by rw[h.2.1];exact hy) e
   have st:=((h.2.2 x y hx hy).mp eb).2 g #[0]
   rw[ex,ey]at st
   obtain⟨x',y',q1,q2,q3,anB,anC⟩:=ih x1 y1 (fun z hz=>hv z (jJ _ hz)) #[0] #[0] st
   refine⟨x',y',?_,?_,q3,anB,anC⟩
   ·show aR rows v (stepI rows (x:Int) (g:Int))=_
    rw[ex];exact q1
   ·show aR rows v (stepI rows (y:Int) (g:Int))=_
    rw[ey];exact q2
 obtain⟨x',y',q1,q2,q3,q4,q5⟩:=go v i j hv #[0] #[0] eq
 rw[q1,q2]
 exact fs.2 x' y' #[0] #[0] q5
theorem O0{a b:LI}(h:Behind rows wide a b)(ne:(aK b).length≠(aK a).length):(aK a).length<(aK b).length:=by
 have:=X4 h.X2
 omega
theorem tR.trans{a b c:LI}(h:tR a b)(h':tR b c):tR a c:=⟨h.1.trans h'.1,fun i j hi hj e=>h.2 i j hi hj (h'.2 i j (by have:=h.1;omega) (by have:=h.1;omega) e)⟩
def rB(b:Int):LI->Int
 | []=>0
 | p :: r=>p+b*rB b r
def InB(b:Int)(ps:LI):Prop := ∀ p∈ps,0<=p/\p<b
theorem InB.tail{p:Int}(h:InB b (p :: r)):InB b r:=fun x hx=>h x (jJ _ hx)
theorem wM(hb:0<=b):∀ {ps:LI},InB b ps->0<=rB b ps
 | [],_=>ZO 0
 | p :: r,h=>Int.add_nonneg (h p jE).1 (zR hb (wM hb h.tail))
theorem wL(b:Int):∀ (ps qs:LI),rB b (ps++qs)=rB b ps+b^ps.length*rB b qs
 | [],qs=>by simp[rB]
 | p :: r,qs=>by
  simp only[QP,rB,wL b r qs,jc]
  rw[ZP,zJ,QZ,<- Jy,zK b (b^r.length)]
def pw(w:Int):Nat->Int
 | 0=>w
 | i+1=>pw w i*pw w i
def cA(x b lo:Int):Int:=x%lo+lo*(x / (lo*b))
def pd(x b lo p:Int):Int:=x%lo+lo*p+lo*b*(x / lo)
inductive IE (vs:List V) (H:Hp) (Q:VK) (E:XK):Prop
 | mk (b:Int) (n:Nat) (_:vs=[.int b,.int n]) (_:(0<=b/\b<=1000)) (_:n<=1000) (_:Q (.int (b^n)) H)
inductive R6 (vs:List V) (H:Hp) (Q:VK) (E:XK):Prop
 | mk (x b lo p:Int) (_:vs=[.int x,.int b,.int lo,.int p]) (_:(0<b/\b<=1000)) (_:(0<lo/\lo<=100000)) (_:Q (.int (pd x b lo p)) H)
inductive R0 (vs:List V) (H:Hp) (Q:VK) (E:XK):Prop
 | mk (b:Nat) (lo:Int) (_:vs=[.int b,.int lo]) (_:b<=1000) (_:(0<lo/\lo<=100000)) (_:∀ (l:Qo) (H':Hp),ay H H'->H l=none->H' l=some (.lst (((jZ b).map fun i:Nat=>lo*(i:Int)).map V.int))->Q #[202] H')
section
theorem pR:aE ["base","times","power","turn"] ["base","times"] (ar AW):=cV #[3]
theorem IB:aE ["figure","base","below","part"] ["figure","base","below","part"] (ar wC):=cV #[3]
theorem ED:aE ["base","below"] ["base","below"] (ar lZ):=cV #[3]
theorem rK:aU ["base","below"] (ar lZ) ["part","below"] [none,some 1] ⟨.function,[#[48],("part",.local),("below",.free)],false,false,[]⟩:=mz #[3]
theorem aaI(F:bL K "power_of" "power_of" AW dV f fd)(aB:mg "range" = none):bw P w K mg base eS 1 f fd ["base","times"] IE:=by
 refine F.ok pR #[6] #[1]
 ·obtain⟨b,n,rfl,_⟩:=h
  rfl
 obtain⟨b,n,rfl,⟨b0,b1⟩,hn,q⟩:=h
 refine⟨_,(ah (aD (i:=2) pR.nd aq)
   (ah (bq PassesOwn.never rfl (br rfl aB #[81]) (aL (i:=3) pR.nd) (ak (aD (i:=2) pR.nd (aS fb (pv 2) (pv 0)))))
   (ak (aJ (pv 2))))),?_⟩
 exists 0
 refine⟨_,rfl,(n:Int),rfl,by omega,by omega,cb (fun i σ' H'=>∃ v,σ'=[some (.int b),some (.int n),some (.int (b^i)),v]/\H'=H) ⟨none,by rw[Zb];rfl,rfl⟩ ?_ ?_⟩
 ·exists 85
  exact⟨_,rfl,_,rfl,_,_,rfl,rfl,.inr ⟨by omega,by omega⟩,some (.int (0+i)),by rw[zJ];rfl,rfl⟩
 ·exists 86
  rw[jB]
  exact⟨_,rfl,q⟩
theorem aaN(F:bL K "with_part" "with_part" wC dV f fd):bw P w K mg base eS 1 f fd ["figure","base","below","part"] R6:=by
 refine F.ok IB #[6] #[1]
 ·obtain⟨x,b,lo,p,rfl,_⟩:=h
  rfl
 obtain⟨x,b,lo,p,rfl,⟨b0,b1⟩,⟨l0,l1⟩,q⟩:=h
 have mm:=aax (a:=lo) (b:=b) (m:=100000) (n:=1000) #[0] l1 #[0] b1
 exists _,(ak (aJ (aS dP (aS dP (aS de (pv 0) (pv 2)) (aS fb (pv 2) (pv 3))) (aS fb (aS fb (pv 2) (pv 1)) (aS BG (pv 0) (pv 2))))))
 exists 0
 exact⟨_,rfl,_,rfl,_,_,rfl,rfl,l0,_,rfl,_,rfl,_,_,rfl,rfl,.inl ⟨by omega,by omega⟩,_,_,rfl,rfl,_,rfl,_,rfl,_,_,rfl,rfl,.inl ⟨by omega,by omega⟩,_,rfl,_,rfl,_,_,rfl,rfl,⟨l0,by omega⟩,_,_,rfl,rfl,.inl ⟨by omega,by omega⟩,_,_,rfl,rfl,q⟩
theorem aaH(F:bL K "parts_alone" "parts_alone" lZ dV f fd)(aB:mg "range" = none):bw P w K mg base eS 1 f fd ["base","below"] R0:=by
 refine F.ok ED #[6] #[1]
 ·obtain⟨b,lo,rfl,_⟩:=h
  rfl
 obtain⟨b,lo,rfl,b1,⟨l0,l1⟩,k⟩:=h
 refine⟨_,(ak (aJ (cT rfl rK (br rfl aB #[163]) (fun _ _ _ _=>(aL (i:=0) rK.nd)) (fun _ _ _ _=>(aS fb (pv 1) (pv 0)))))),?_⟩
 exists 0
 refine⟨_,rfl,(b:Int),rfl,by omega,by omega,?_⟩
 refine ig (fun D i ys H'=>ay H H'/\ys=((jZ i).map fun i:Nat=>lo*(i:Int)).map V.int) #[21] ?_ ?_
 ·rintro D i ys H' Q' hD hi hy ⟨hs,rfl⟩ k'
  refine⟨_,rfl,_,rfl,_,_,rfl,rfl,.inl ⟨by omega,by omega⟩,k' _ _ hy (aw #[291]) ⟨au hs hD,?_⟩⟩
  rw[JI,jD,jD,JJ]
  rfl
 ·rintro D ys H' hD hy ⟨hs,rfl⟩
  rw[jB]at hy
  exact k D _ hs hD hy
end
def ff(signs:LI)(sg:Int)(n:Nat):LI:=((jZ n).filter fun i=>decide (signs.getD i 0=sg)).map fun i:Nat=>(i:Int)
theorem CQ(signs:LI)(sg:Int)(n:Nat):ff signs sg (n+1)=ff signs sg n++(if signs.getD n 0=sg then [(n:Int)]else []):=by
 unfold ff
 rw[JI,JW,jD]
 congr 1
 by_cases c:signs.getD n 0=sg
 ·exists 45
 ·exists 37
theorem Pn(signs:LI)(sg:Int)(n:Nat):(ff signs sg n).length<=n:=by
 unfold ff
 rw[aO]
 exact jk (Jc _ _) #[10]
theorem dR{sg:Int}:q∈ff signs sg n↔0<=q/\q<(n:Int)/\signs.getD q.toNat 0=sg:=by
 unfold ff
 rw[jN]
 constructor
 ·rintro⟨i,hi,rfl⟩
  have h:=ju.mp hi
  have h1:=je.mp h.1
  exact⟨by omega,by omega,by rw[jB];exact of_decide_eq_true h.2⟩
 ·rintro⟨h0,h1,h2⟩
  exact⟨q.toNat,ju.mpr ⟨je.mpr #[0],decide_eq_true h2⟩,by omega⟩
inductive N1 (vs:List V) (H:Hp) (Q:VK) (E:XK):Prop
 | mk (m r g:Qo) (wide:Nat) (rows:LL) (signs:LI) (sg:Int) (_:vs=[.ref m,.int sg]) (_:bG H m r g wide rows signs) (_:signs.length<=1000) (_:∀ (l:Qo) (H':Hp),ay H H'->H l=none->H' l=some (.lst ((ff signs sg signs.length).map V.int))->Q #[202] H')
section
theorem Fz:aE ["machine","sign"] ["machine","sign"] (ar oo):=cV #[3]
theorem mJ:aU ["machine","sign"] (ar oo) ["here","other","sign"] [none,none,some 1] ⟨.function,[#[48],#[250],("other",.local),("sign",.free)],false,false,[]⟩:=mz #[3]
theorem Ts(F:bL K "rooms_with" "rooms_with" oo dV f fd)(bN:mg "enumerate" = none):bw P w K mg base eS 1 f fd ["machine","sign"] N1:=by
 refine F.ok Fz #[6] #[1]
 ·obtain⟨m,r,g,wide,rows,signs,sg,rfl,_⟩:=h
  rfl
 obtain⟨m,r,g,wide,rows,signs,sg,rfl,M,hl,k⟩:=h
 refine⟨_,(ak (aJ (Mt rfl mJ (Et rfl bN (aa #[5] af)) (fun _ _ _ _=>(RB K (n:=2) rfl (cR (aL (i:=0) mJ.nd) (cR (aL (i:=1) mJ.nd) pK)))) (fun _ _ _ _=>(bK lJ (pv 1) (pv 2) (bz _))) (fun _ _ _ _=>(pv 0))))),?_⟩
 exists 0
 exists _,rfl,m,_,_,_,rfl,rfl,bV M.tup,rfl,g,rfl,⟨_,bV M.sgn⟩
 refine Lp (K:=K) (xs:=signs.map V.int) (fun D i ys H'=>ay H H'/\ys=(ff signs sg i).map V.int) (fun T σ H Q x y h q=>⟨T,[x,y],rfl,bV h,rfl,x,[y],rfl,y,[],rfl,rfl,q⟩) #[21] (fun D i ys H' _ p=>bV (p.1 _ _ M.sgn)) ?_ ?_
 ·rintro D i x ys H' T Qy Qn hD hx hy ⟨hs,rfl⟩ hT ky kn
  obtain⟨z,rfl,hz⟩:=bp hx
  have li:=(fK hz).1
  have ez:signs.getD i 0=z:=by rw[jI,hz];rfl
  have nD:D≠T:=ao hy hT
  have lr:=Pn signs sg i
  refine⟨_,rfl,_,rfl,rfl,_,rfl,LY #[53] #[53]⟩
  ·refine⟨_,rfl,ky _ _ (by rw[ag nD];exact hy) (aw #[30]) ⟨au (au hs (hs.free hT)) hD,?_⟩⟩
   rw[CQ,if_pos (by rw[ez];exact c),jD]
   rfl
  ·refine kn _ (by rw[ag nD];exact hy) ⟨au hs (hs.free hT),?_⟩
   rw[CQ,if_neg (by rw[ez];exact c),jx]
 ·rintro D ys H' hD hy ⟨hs,rfl⟩
  rw[aO]at hy
  exact k D _ hs hD hy
end
def bR(rows:LL)(fs gs:LI)(q:Int):Prop := ∃ row:LI,(∀ f∈row,f∈fs)/\aR rows row q∈gs
theorem bR.goal{fs:LI}(h:q∈gs):bR rows fs gs q:=⟨[],(fun f z=>by cases z),h⟩
theorem bR.step{rows:LL}{fs gs:LI}{q f:Int}(hf:f∈fs)(h:bR rows fs gs #[263]):bR rows fs gs q:=by
 obtain⟨row,h1,h2⟩:=h
 refine⟨f :: row,fun g hg=>?_,h2⟩
 rcases jU.mp hg with z|z
 ·rw[z];exact hf
 ·exact h1 g z
def PB(rows:LL)(fs:LI)(many n i j:Nat)(q:Int)(ls:LI):Prop:=ls.length<=n/\(∀ h∈ls,(0<=h/\h<(many:Int))/\∃ f∈fs,stepI rows h f=q)/\∀ (h:Nat) (f:Int),((h<i/\f∈fs)\/(h=i/\f∈fs.take j))->stepI rows h f=q->(h:Int)∈ls
inductive RV (K:Yh) (vs:List V) (H:Hp) (Q:VK) (E:XK):Prop
 | mk (m r g gl tk:Qo) (many wide:Nat) (rows:LL) (signs gs fs:LI) (_:vs=[.ref m,.ref gl,.ref tk]) (_:bG H m r g wide rows signs) (_:aC many wide rows) (_:(1<=many/\many<=400)) (_:(1<=wide/\wide<=400)) (_:H gl=some #[179]) (_:gs.Nodup) (_:(∀ q∈gs,0<=q/\q<(many:Int))) (_:H tk=some (.lst (fs.map V.int))) (_:fs.length<=400) (_:(∀ f∈fs,0<=f/\f<(wide:Int))) (_:∀ (D:Qo) (H':Hp) (ks:LI),ay H H'->H D=none->H' D=some #[154]->ks.Nodup->#[92]->(∀ q:Int,0<=q->q<(many:Int)->bR rows fs gs q->q∈ks)->Q #[86] H')
section
theorem bC:aE ["machine","goals","taken","back","here","row","figure","waiting","leading","there"] ["machine","goals","taken"] (ar dX):=cV #[3]
theorem lH:aU ["machine","goals","taken","back","here","row","figure","waiting","leading","there"] (ar dX) ["here"] [none] ⟨.function,[#[48],#[250]],false,false,[]⟩:=mz #[3]
theorem aaD(F:bL K "rooms_leading_to" "rooms_leading_to" dX dV f fd)(bN:mg "enumerate" = none)(eK:mg "list" = none)(iy:mg "dict" = none):bw P w K mg base eS 1 f fd ["machine","goals","taken"] (RV K):=by
 refine F.ok bC #[6] #[1]
 ·obtain⟨m,r,g,gl,tk,many,wide,rows,signs,gs,fs,rfl,_⟩:=h
  rfl
 obtain⟨m,r,g,gl,tk,many,wide,rows,signs,gs,fs,rfl,M,R,⟨n0,n1⟩,⟨w0,w1⟩,hgl,ndg,hgs,htk,lfs,IY,k⟩:=h
 obtain⟨cN,mH,hA⟩:=M.rows
 exists 98
 refine⟨_,(ah (aD (i:=3) bC.nd oW)
   (ah (bq PassesOwn.never rfl (Et rfl bN (aa #[5] af)) (AO rfl (cR (aL (i:=4) bC.nd) (cR (aL (i:=5) bC.nd) pK))) (ak (bq PassesOwn.never rfl (cI (pv 2)) (aL (i:=6) bC.nd) (ak (bJ (fc Yj Yk Yl bD (Dr (pv 3) (aF aI (pv 5) (pv 6) #[12]) (cX af) ⟨rfl,rfl,rfl,rfl⟩) #[106]))))))
   (ah (aD (i:=7) bC.nd (aM Bo #[38] eK wQ #[81]))
   (ah (aD (i:=8) bC.nd (aM (pF rfl) #[38] iy Bm (aa (cT rfl lH (cI (pv 7)) (fun _ _ _ _=>(aL (i:=0) lH.nd)) #[118]) af)))
   (ah (rW PassesOwn.never (wx (pv 7) (fun _=>rfl)) (ah (aD (i:=4) bC.nd (Im Yj yl ym O4 (pv 7)))
   (ak (bq PassesOwn.never rfl (agk (Mu hu (pv 3) (pv 4) (cE af) ⟨rfl,rfl,rfl,rfl⟩)) (aL (i:=9) bC.nd) (ak (cK (AR (Ac hu (pv 9) (pv 8)) #[60]) (ah (pM hu (pv 8) (pv 9) cM rfl)
   (ak (bJ (fc Yj Yk Yl bD (pv 7) (aa (pv 9) af))))) bB))))))
   (ak (aJ (pv 8)))))))),?_⟩
 exists 0
 refine fun B hB=>?_
 have kr0:∀ e∈([]:List #[228]),0<=e.1/\e.1<(many:Int):=fun e h=>by cases h
 have b0:bP H (upd H B (.dK [])) B [] (PB rows fs many 0 0 0):=⟨ae,List.Pairwise.nil,List.Pairwise.nil,#[142],#[142],(fun q _=>⟨jF _,(fun h z=>by cases z),fun h f z _=>by
  rcases z with z|z
  ·omega
  ·have:=z.2
   simp at this⟩)⟩
 exists 55
 refine dh (t:=rZ _ _ _) (fun σ' H'=>∃ (es:List #[228]) (v1 v2 v3:OV),σ'=[some #[73],some (.ref gl),some (.ref tk),some (.ref B),v1,v2,v3,none,none,none]/\ay H H'/\bP H H' B es #[35]) ?_ #[41]
 rotate_left
 ·have s0:=aj hB (HO.dK [])
  refine⟨_,rfl,m,_,_,_,rfl,rfl,bV (s0 _ _ M.tup),rfl,r,rfl,⟨_,bV (s0 _ _ mH)⟩,FY (K:=K) (xs:=cN.map V.ref) (fun i σ' H'=>∃ (es:List #[228]) (v1 v2 v3:OV),σ'=[some #[73],some (.ref gl),some (.ref tk),some (.ref B),v1,v2,v3,none,none,none]/\ay H H'/\(∀ e∈es,0<=e.1/\e.1<(many:Int))/\bP H H' B es (PB rows fs many (i*fs.length) i 0))
   ⟨[],none,none,none,rfl,s0,kr0,by rw[Nat.zero_mul];exact b0⟩ (fun i σ' H' _ ⟨_,_,_,_,_,e,_,_⟩=>bV (e _ _ mH)) ?_ ?_⟩
  ·rintro i y σ' H1 T hi ⟨es,v1,v2,v3,rfl,s1,kr1,b1⟩ hT
   have il:i<rows.length:=by
    have:=(fK hi).1
    rw[aO,hA.length]at this
    exact this
   obtain⟨ra,e1,e2⟩:=hA.get il
   have ey:y=.ref ra:=by rw[jO,e1]at hi;exact#[152].symm
   subst ey
   have im:i<many:=by rw[<- R.len];exact il
   have ai4:rows[i].length=wide:=R.row _ (jM il)
   have sT:=aj hT (HO.tup [V.int i,V.ref ra])
   have big:i*fs.length+fs.length<=400*400+400:=by
    have:=ZN (show i<=400 by omega) lfs
    omega
   exists T,_,rfl,bV ae,rfl,_,_,rfl,_,_,rfl,rfl
   refine⟨_,rfl,tk,rfl,⟨_,bS (sT _ _ (s1 _ _ htk))⟩,dj (K:=K) (xs:=fs.map V.int) (fun j σ' H'=>∃ (es:List #[228]) (v3:OV),σ'=[some #[73],some (.ref gl),some (.ref tk),some (.ref B),some (.int i),some (.ref ra),v3,none,none,none]/\ay H H'/\(∀ e∈es,0<=e.1/\e.1<(many:Int))/\bP H H' B es (PB rows fs many (i*fs.length+j) i j))
    ⟨es,v3,rfl,s1.trans sT,kr1,b1.same sT⟩ (fun j σ' H' _ ⟨_,_,_,e,_,_⟩=>bS (e _ _ htk)) ?_ ?_⟩
   ·rintro j y σ' H2 hj ⟨es,v3,rfl,s2,kr2,b2⟩
    obtain⟨fi,rfl,hfi⟩:=bp hj
    have jl:j<fs.length:=(fK hfi).1
    have fm:=oz hfi
    have fr:=IY fi fm
    have es0:(rows[i]).getD fi.toNat 0=stepI rows (i:Int) fi:=by
     unfold stepI
     rw[jB,getD_at il]
    have at1:Aj (rows[i].map V.int) fi=some (.int #[195]):=by
     rw[cF fr.1 (by rw[ai4];exact fr.2),es0]
    refine⟨_,rfl,B,rfl,.inl ⟨_,.inl b2.at_⟩,_,rfl,_,rfl,ra,_,_,_,rfl,rfl,bV (s2 _ _ e2),at1,#[24],fun L hL=>?_⟩
    exists 82
    have b3:=b2.same sL
    have nL:∀ e∈es,e.2≠L:=fun e he z=>by
     obtain⟨ls,h1,_⟩:=b2.lst e he
     rw[z,hL]at h1
     cases h1
    have nLB:B≠L:=ao b2.at_ hL
    have fL:H L=none:=s2.free hL
    have stq:=cS R (show(0:Int)<=(i:Int) by omega) #[0] fr.1 fr.2
    have Fm:=bM many b3.nd (fun q hq=>by
     obtain⟨e,he,rfl⟩:=jN.mp hq
     exact kr2 e he)
    rw[aO]at Fm
    exists 39
    have oth:∀ (p:Int) (ls:LI),p≠stepI rows (i:Int) fi->PB rows fs many (i*fs.length+j) i j p ls->PB rows fs many (i*fs.length+(j+1)) i (j+1) p ls:=fun p ls np z=>⟨by have:=z.1;omega,z.2.1,fun h f c e=>by
     rcases c with c|⟨rfl,c⟩
     ·exact z.2.2 h f (.inl c) e
     ·rcases(fq hfi).mp c with d|d
      ·exact z.2.2 h f (.inr ⟨rfl,d⟩) e
      ·rw[d]at e;exact absurd e.symm np⟩
    have one:(0<=(i:Int)/\(i:Int)<(many:Int))/\∃ f∈fs,stepI rows (i:Int) f=stepI rows (i:Int) fi:=⟨⟨by omega,by omega⟩,fi,fm,rfl⟩
    have grow:∀ ls:LI,PB rows fs many (i*fs.length+j) i j #[195] ls->PB rows fs many (i*fs.length+(j+1)) i (j+1) #[195] (ls++[(i:Int)]):=fun ls z=>⟨by rw[jH,jX];have:=z.1;omega,fun h hh=>by
      rcases sU.mp hh with y|y
      ·exact z.2.1 h y
      ·rw[jG.mp y];exact one,fun h f c e=>by
      rcases c with c|⟨rfl,c⟩
      ·exact jb _ (z.2.2 h f (.inl c) e)
      ·exact jP _ jE⟩
    refine⟨_,Sum.inl #[195],b3.at_,rfl,len,fun v hv=>?_,fun hn=>?_⟩
    ·obtain⟨la,ls,rfl,hm,hla,hp⟩:=b3.get hv
     have lz:#[274].length<sizeLine:=zk (show _<=1000000 by rw[aO];have:=hp.1;omega) #[13]
     exists .inl ⟨rfl,_,bS hla⟩,_,rfl,la,_,_,rfl,rfl,hla,lz
     refine⟨es,_,rfl,au (s2.trans sL) (b2.fresh _ hm),kr2,b3.old hm hla (grow ls hp) oth⟩
    ·have hq:stepI rows (i:Int) fi∉es.map Prod.fst:=fun z=>by
      obtain⟨e,he,ee⟩:=jN.mp z
      obtain⟨jj,hjj⟩:=JF.mp he
      have:=AL b3.nd (q:=e.1) (a:=e.2) hjj
      rw[ee,hn]at this
      cases this
     have pZ:(upd (upd H2 L #[230]) B (HO.dK (putK (AK es) (Sum.inl #[195]) (V.ref L)))) L=some (.lst []):=by rw[ag (Ne.symm nLB),ae]
     refine⟨.inl ⟨rfl,_,bS pZ⟩,_,rfl,L,_,_,rfl,rfl,pZ,(by show 0<sizeLine;decide),?_⟩
     refine⟨es++[(stepI rows (i:Int) fi,L)],_,rfl,au (au (s2.trans sL) hB) fL,fun e he=>?_,b3.new hq ae fL nL (grow [] (b3.non _ hq)) oth⟩
     rcases sU.mp he with z|z
     ·exact kr2 e z
     ·rw[jG.mp z];exact stq
   ·rintro σ' H2 ⟨es,v3,rfl,s2,kr2,b2⟩
    rw[aO]at b2
    refine⟨es,_,_,_,rfl,s2,kr2,b2.weak fun q ls z=>⟨by rw[QE];exact z.1,z.2.1,fun h f c e=>?_⟩⟩
    rcases c with c|c
    ·rcases JP h i with d|d
     ·exact z.2.2 h f (.inl ⟨d,c.2⟩) e
     ·exact z.2.2 h f (.inr ⟨by omega,by rw[jV];exact c.2⟩) e
    ·have:=c.2
     simp at this
  ·rintro σ' H1 ⟨es,v1,v2,v3,rfl,s1,kr1,b1⟩
   rw[aO,hA.length]at b1
   exact iK _ _ ⟨es,_,_,_,rfl,s1,b1⟩
 rintro σ' H1 ⟨es,v1,v2,v3,rfl,s1,b1⟩
 refine⟨_,rfl,gl,_,rfl,.inl (bS (s1 _ _ hgl)),fun W hW=>?_⟩
 have sW:=aj hW (HO.lst (gs.map V.int))
 have fW:H W=none:=s1.free hW
 exists _,rfl,W,rfl,⟨_,bS ae⟩
 refine iE (K:=K) (xs:=gs.map V.int) (fun D i ys H'=>ay (upd H1 W (HO.lst (gs.map V.int))) H'/\∃ ts,ys=ts.map V.ref/\fH H' ts (cH (gs.take i))) #[70] (fun D i ys H' _ ⟨e,_⟩=>bS (e _ _ ae)) ?_ ?_
 ·rintro D i y ys H' Q' hD hi hy ⟨hs,ts,rfl,pv⟩ k'
  exists 93
  have il:i<gs.length:=(fK hq).1
  have gl4:=bM many ndg hgs
  exists 27
  have sT:=aj hT (HO.tup [V.int q,V.bl true])
  have nD:D≠T:=ao hy hT
  have lts:ts.length=i:=by
   rw[Paired.length pv]
   unfold cH
   rw[aO,jR]
   omega
  have hyT:#[64] D=some #[177]:=by rw[ag nD];exact hy
  exists 11
  rw[jY,hq]
  have up:∀ b xs,#[64] b=some #[36]->(upd #[64] D #[125]) b=some #[36]:=fun b xs e=>by
   exists 49
  show fH _ _ (cH (gs.take i++[q]))
  unfold cH
  rw[jD]
  exists 30
 rintro L ys H2 fL hL ⟨s2,ts,rfl,pv⟩
 rw[aO,jV]at pv
 refine⟨L,ts,_,rfl,hL,pv,fun D hD=>?_⟩
 rw[Cj ndg]
 have s3:=s2.trans (aj hD (HO.dK (cH gs)))
 have fD:H D=none:=(s1.trans sW).free (s2.free hD)
 have hW3:=s3 _ _ (show(upd H1 W (HO.lst (gs.map V.int))) W=_ from ae)
 have hWD:W≠D:=aG hW3 (show(upd H2 D (HO.dK (cH gs))) D=some (.dK (cH gs))from ae) #[2]
 have b3:bP H (upd H2 D (HO.dK (cH gs))) B es #[35]:=(b1.same sW).same s3
 have nW:∀ e∈es,e.2≠W:=fun e he z=>by
  obtain⟨ls,h1,_⟩:=b1.lst e he
  rw[z,hW]at h1
  cases h1
 have nBD:B≠D:=fun z=>by
  have:=(b1.same sW).same s2
  rw[<- z,this.at_]at hD
  cases hD
 have neD:∀ e∈es,e.2≠D:=fun e he z=>by
  obtain⟨ls,h1,_⟩:=((b1.same sW).same s2).lst e he
  rw[z,hD]at h1
  cases h1
 exists 55
 refine dh (t:=wJ _ _) (fun σ' H'=>∃ (ks:LI) (v1 v2 v3 v4:OV),σ'=[some #[73],some (.ref gl),some (.ref tk),some (.ref B),v1,v2,v3,some (.ref W),some #[86],v4]/\ay H H'/\H' D=some #[154]/\ks.Nodup/\#[92]/\(∀ q∈gs,q∈ks)/\(∀ q∈ks,∀ (h:Nat) (f:Int),h<many->f∈fs->stepI rows h f=q->(h:Int)∈ks)) ?_ #[41]
 rotate_left
 ·refine Ag (fun mm σ' H'=>∃ (ks ws:LI) (v1 v2 v3 v4:OV),mm=2*(many-ks.length)+ws.length/\σ'=[some #[73],some (.ref gl),some (.ref tk),some (.ref B),v1,v2,v3,some (.ref W),some #[86],v4]/\ay H H'/\H' D=some #[154]/\H' W=some (.lst #[159])/\ks.Nodup/\#[92]/\(∀ q∈ws,q∈ks)/\ws.length<=ks.length/\(∀ q∈gs,q∈ks)/\(∀ q∈ks,q∉ws->∀ (h:Nat) (f:Int),h<many->f∈fs->stepI rows h f=q->(h:Int)∈ks)/\bP H H' B es #[35])
   ⟨_,gs,gs,v1,v2,v3,none,rfl,rfl,s1.trans (sW.trans s3),ae,hW3,ndg,fun q hq=>⟨hgs q hq,bR.goal hq⟩,fun q h=>h,jF _,fun q h=>h,fun q h n=>absurd h n,b3⟩ ?_
  rintro mm σ' H4 ⟨ks,ws,v1,v2,v3,v4,rfl,rfl,s4,SK,Ob,U2,hk,hwk,lw,hgk,SU,b4⟩
  have kl:=bM many U2 fun q hq=>(hk q hq).1
  by_cases en:ws=[]
  ·subst en
   refine⟨_,rfl,_,.inl ⟨_,bS Ob,rfl⟩,lQ ?_⟩
   exact iK _ _ ⟨ks,_,_,_,_,rfl,s4,SK,U2,hk,hgk,fun q hq=>SU q hq (fun z=>by cases z)⟩
  exists _,rfl,_,.inl ⟨_,bS Ob,rfl⟩
  have ne:(!#[159].isEmpty)=true:=by
   cases ws with
   | nil=>exact absurd rfl en
   | cons x r=>rfl
  rw[ne]
  refine oU ⟨fun σ' H'=>∃ m',m'<2*(many-ks.length)+ws.length/\∃ (ks ws:LI) (v1 v2 v3 v4:OV),m'=2*(many-ks.length)+ws.length/\σ'=[some #[73],some (.ref gl),some (.ref tk),some (.ref B),v1,v2,v3,some (.ref W),some #[86],v4]/\ay H H'/\H' D=some #[154]/\H' W=some (.lst #[159])/\ks.Nodup/\#[92]/\(∀ q∈ws,q∈ks)/\ws.length<=ks.length/\(∀ q∈gs,q∈ks)/\(∀ q∈ks,q∉ws->∀ (h:Nat) (f:Int),h<many->f∈fs->stepI rows h f=q->(h:Int)∈ks)/\bP H H' B es #[35],fun σ' H' h=>h,?_⟩
  have wl:0<ws.length:=by
   cases ws with
   | nil=>exact absurd rfl en
   | cons x r=>exact Nat.succ_pos _
  have ai1:ws.length-1<ws.length:=by omega
  obtain⟨here,Z4⟩:∃ here,ws[ws.length-1]?=some here:=⟨_,jC ai1⟩
  have hks:=hwk here (oz Z4)
  refine⟨_,rfl,.inl ⟨rfl,_,bS Ob⟩,W,_,V.int here,rfl,rfl,Ob,by rw[aO,jO,Z4];rfl,?_⟩
  have eDL:#[159].dropLast=ws.dropLast.map V.int:=by rw[List.map_dropLast]
  rw[eDL]
  have nBW:B≠W:=aG b4.at_ Ob #[2]
  have b5:bP H #[82] B es #[35]:=b4.keep (by rw[ag nBW]) fun e he=>by rw[ag (nW e he)]
  have SM:#[82] D=some #[154]:=by rw[ag (Ne.symm hWD)];exact SK
  have ajD:∀ q∈ws.dropLast,q∈ks:=fun q hq=>hwk q (List.dropLast_subset _ hq)
  have ld5:ws.dropLast.length=ws.length-1:=ZE
  have ai0:∀ q,q∈ws->q∉ws.dropLast->q=here:=fun q h1 h2=>by
   have hl:ws.length-1+1=ws.length:=by omega
   have h3:q∈ws.take (ws.length-1+1):=by rw[hl,jV];exact h1
   rcases(fq Z4).mp h3 with z|z
   ·exact absurd (by rw[List.dropLast_eq_take];exact z) h2
   ·exact z
  have cl5:∀ q∈ks,q∉ws.dropLast->q≠here->∀ (h:Nat) (f:Int),h<many->f∈fs->stepI rows h f=q->(h:Int)∈ks:=fun q hq h1 h2=>SU q hq fun z=>h2 (ai0 q z h1)
  refine⟨_,rfl,B,rfl,.inl ⟨_,.inl b5.at_⟩,_,rfl,#[24],fun t0 ht0=>?_⟩
  have U3:=aj ht0 (HO.tup [])
  have b6:=b5.same U3
  exists _,eV.k (k:=Sum.inl here) b6.at_
  have hD6:=U3 _ _ SM
  have hW6:=U3 _ _ (show#[82] W=_ from ae)
  have s6:ay H (upd #[82] t0 (HO.tup [])):=(au s4 fW).trans U3
  cases hv:eR (AK es) (Sum.inl here)with
  | none =>
   refine⟨t0,rfl,.inr ⟨⟨_,bV ae⟩,?_⟩⟩
   refine pH (K:=K) (xs:=[]) (fun i σ' H'=>∃ v4 v3,σ'=[some #[73],some (.ref gl),some (.ref tk),some (.ref B),some (.int here),v2,v3,some (.ref W),some #[86],v4]/\H'=(upd #[82] t0 (HO.tup []))) ⟨_,_,rfl,rfl⟩ (fun i σ' H' _ ⟨_,_,_,e⟩=>by rw[e];exact bV ae) (fun i x σ' H' hx _=>by simp at hx) ?_
   rintro σ' H' ⟨v4,v3,rfl,rfl⟩
   exact⟨_,(by rw[ld5];omega:2*(many-ks.length)+ws.dropLast.length<_),ks,ws.dropLast,_,_,_,_,rfl,rfl,s6,hD6,hW6,U2,hk,ajD,by omega,hgk,(fun q hq hn h f hh hf e=>by
    by_cases c:q=here
    ·subst c
     have np:q∉es.map Prod.fst:=fun z=>by
      obtain⟨e',he',ee⟩:=jN.mp z
      obtain⟨jj,hjj⟩:=JF.mp he'
      have:=AL b6.nd (q:=e'.1) (a:=e'.2) hjj
      rw[ee,hv]at this
      cases this
     exact absurd ((b6.non q np).2.2 h f (.inl ⟨by rw[R.len];exact hh,hf⟩) e) #[10]
    ·exact cl5 q hq hn c h f hh hf e),b6⟩
  | some v =>
   obtain⟨la,ls,rfl,hm,hla,hp⟩:=b6.get hv
   refine⟨la,rfl,.inl ⟨⟨_,bS hla⟩,?_⟩⟩
   refine dj (K:=K) (xs:=ls.map V.int) (fun i σ' H'=>∃ (tM mQ:LI) (v4:OV) (v3:OV),σ'=[some #[73],some (.ref gl),some (.ref tk),some (.ref B),some (.int here),v2,v3,some (.ref W),some #[86],v4]/\ay H H'/\H' D=some (.dK (cH tM))/\H' W=some (.lst (mQ.map V.int))/\tM.Nodup/\(∀ q∈tM,#[192]/\bR rows fs gs q)/\(∀ q∈mQ,q∈tM)/\mQ.length<=tM.length/\(∀ q∈gs,q∈tM)/\(∀ q∈tM,q∉mQ->q≠here->∀ (h:Nat) (f:Int),h<many->f∈fs->stepI rows h f=q->(h:Int)∈tM)/\(∀ h∈ls.take i,h∈tM)/\2*(many-tM.length)+mQ.length<2*(many-ks.length)+ws.length/\here∈tM/\H' la=some (.lst #[274])/\bP H H' B es #[35])
    ⟨ks,ws.dropLast,_,_,rfl,s6,hD6,hW6,U2,hk,ajD,by omega,hgk,cl5,(fun h z=>by simp at z),by omega,hks,hla,b6⟩ (fun i σ' H' _ ⟨_,_,_,_,_,_,_,_,_,_,_,_,_,_,_,_,_,e,_⟩=>bS e) ?_ ?_
   ·rintro i y σ' H7 hi ⟨tM,mQ,v4,v3,rfl,s7,LH,hW7,nd7,hk7,adI,lw7,hg7,cl7,tk7,af3,hh7,afC,b7⟩
    obtain⟨th,rfl,hth⟩:=bp hi
    obtain⟨thr,fi,hfi,stp⟩:=hp.2.1 th (oz hth)
    have kl7:=bM many nd7 fun q hq=>(hk7 q hq).1
    exists _,rfl,_,rfl,D,_,rfl,eV.k (k:=Sum.inl th) LH,_,rfl
    rw[sS]
    refine Aq #[53] #[53]
    ·refine⟨_,rfl,_,rfl,D,_,rfl,A0.k (k:=Sum.inl th) LH (aw (by unfold cH;rw[aO];omega)),?_⟩
     rw[Ab c]
     have hW8:(upd H7 D (HO.dK (cH (tM++[th])))) W=some (.lst (mQ.map V.int)):=by rw[ag hWD];exact hW7
     have nd8:(tM++[th]).Nodup:=sV nd7 c
     have hk8:∀ q∈tM++[th],#[192]/\bR rows fs gs q:=fun q hq=>by
      rcases sU.mp hq with z|z
      ·exact hk7 q z
      ·rw[jG.mp z]
       exact⟨thr,bR.step hfi (by rw[stp];exact(hk7 here hh7).2)⟩
     have kl8:=bM many nd8 fun q hq=>(hk8 q hq).1
     rw[jH,jX]at kl8
     refine⟨_,rfl,.inl ⟨rfl,_,bS hW8⟩,_,rfl,W,_,_,rfl,rfl,hW8,aw #[30],?_⟩
     refine⟨tM++[th],mQ++[th],_,_,rfl,au (au s7 fD) fW,by rw[ag (Ne.symm hWD),ae],by rw[ae,jD];rfl,nd8,hk8,?_,by rw[jH,jH,jX];omega,fun q hq=>jb _ (hg7 q hq),fun q hq hn nh h f hh hf e=>?_,fun h hh=>?_,by rw[jH,jH,jX];omega,jb _ hh7,?_,?_⟩
     ·intro q hq
      rcases sU.mp hq with z|z
      ·exact jb _ (adI q z)
      ·exact jP _ z
     ·rcases sU.mp hq with z|z
      ·exact jb _ (cl7 q z (fun y=>hn (jb _ y)) nh h f hh hf e)
      ·exact absurd (jP _ z) hn
     ·rcases(fq hth).mp hh with z|z
      ·exact jb _ (tk7 h z)
      ·rw[z];exact jP _ jE
     ·rw[ag (nW _ hm),ag (neD _ hm)];exact afC
     ·exact b7.keep (by rw[ag nBW,ag nBD]) fun e he=>by rw[ag (nW e he),ag (neD e he)]
    ·refine⟨tM,mQ,_,_,rfl,s7,LH,hW7,nd7,hk7,adI,lw7,hg7,cl7,fun h hh=>?_,af3,hh7,afC,b7⟩
     rcases(fq hth).mp hh with z|z
     ·exact tk7 h z
     ·rw[z];exact c
   ·rintro σ' H7 ⟨tM,mQ,v4,v3,rfl,s7,LH,hW7,nd7,hk7,adI,lw7,hg7,cl7,tk7,af3,hh7,afC,b7⟩
    rw[aO,jV]at tk7
    refine⟨_,af3,tM,mQ,_,_,_,_,rfl,rfl,s7,LH,hW7,nd7,hk7,adI,lw7,hg7,fun q hq hn h f hh hf e=>?_,b7⟩
    by_cases c:q=here
    ·subst c
     exact tk7 _ (hp.2.2 h f (.inl ⟨by rw[R.len];exact hh,hf⟩) e)
    ·exact cl7 q hq hn c h f hh hf e
 rintro σ' H4 ⟨ks,v1,v2,v3,v4,rfl,s4,SK,U2,hk,hgk,SU⟩
 refine⟨_,rfl,k D H4 ks s4 fD SK U2 hk ?_⟩
 have go:∀ (row:LI) (q:Int),0<=q->q<(many:Int)->(∀ f∈row,f∈fs)->aR rows row q∈gs->q∈ks:=by
  intro row
  induction row with
  | nil=>intro q _ _ _ h;exact hgk q h
  | cons f r ih =>
   intro q q0 q1 hf h
   have fin:=hf f jE
   have st:=cS R q0 q1 (IY f fin).1 (IY f fin).2
   have h2:=ih #[263] st.1 st.2 (fun g hg=>hf g (jJ _ hg)) h
   obtain⟨n,rfl⟩:=cZ q0
   exact SU _ h2 n f #[0] fin rfl
 exact fun q q0 q1 ⟨row,hr1,hr2⟩=>go row q q0 q1 hr1 hr2
end
section
variable[DecidableEq α]
def Co(st:α->Nat->α)(b:α)(v:LI):α:=v.foldl (fun p f=>st p f.toNat) b
theorem rU(st:α->Nat->α)(b:α)(v:LI)(f:Int):Co st b (v++[f])=st (Co st b v) f.toNat:=by
 unfold Co
 rw[JM]
 rfl
structure FF(st:α->Nat->α)(b:α)(wide:Nat)(ps:List α)(rows:LL):Prop where
 nd:ps.Nodup
 hd:ps[0]?=some b
 le:rows.length<=ps.length
 row:∀ (i:Nat) (r:LI),rows[i]?=some r->r.length=wide
 to:∀ (i:Nat) (r:LI) (f:Nat) (t:Int),rows[i]?=some r->r[f]?=some t->∃ (n:Nat) (p:α),t=(n:Int)/\ps[i]?=some p/\ps[n]?=some (st p f)
 ord:bO 0 1 rows=some ps.length
 re:∀ p∈ps,∃ v,Am wide v/\Co st b v=p
structure CU(st:α->Nat->α)(b:α)(wide:Nat)(ps:List α)(rows:LL)(p:α)(r:LI):Prop where
 nd:ps.Nodup
 hd:ps[0]?=some b
 at_:ps[rows.length]?=some p
 row:∀ (i:Nat) (r:LI),rows[i]?=some r->r.length=wide
 to:∀ (i:Nat) (r:LI) (f:Nat) (t:Int),rows[i]?=some r->r[f]?=some t->∃ (n:Nat) (p:α),t=(n:Int)/\ps[i]?=some p/\ps[n]?=some (st p f)
 now:∀ (f:Nat) (t:Int),r[f]?=some t->∃ n:Nat,t=(n:Int)/\ps[n]?=some (st p f)
 ord:∃ m,bO 0 1 rows=some m/\rows.length<m/\aY m r=some ps.length
 re:∀ p∈ps,∃ v,Am wide v/\Co st b v=p
variable{st:α->Nat->α}{b:α}{ps:List α}{p:α}
theorem pJ:∀ {r:LI} {m k:Nat} {t:Int},aY m r=some k->aY m (r++[t])=if t=(k:Int)then some (k+1)else if t<(k:Int)then some k else none
 | [],m,k,t,h=>by
  have e:m=k:=Option.some.inj h
  subst e
  rfl
 | x :: r,m,k,t,h=>by
  have h':(if x=(m:Int)then aY (m+1) r else if x<(m:Int)then aY m r else none)=some k:=h
  show(if x=(m:Int)then aY (m+1) (r++[t])else if x<(m:Int)then aY m (r++[t])else none)=_
  by_cases c:x=(m:Int)
  ·rw[if_pos c]at h' ⊢;exact pJ h'
  ·rw[if_neg c]at h' ⊢
   by_cases d:x<(m:Int)
   ·rw[if_pos d]at h' ⊢;exact pJ h'
   ·rw[if_neg d]at h';cases h'
theorem BH:∀ {rs:LL} {q m k:Nat} {r:LI} {k':Nat},bO q m rs=some k->q+rs.length<k->aY k r=some k'->bO q m (rs++[r])=some k'
 | [],q,m,k,r,k',h,hq,hr=>by
  have e:m=k:=Option.some.inj h
  subst e
  show(if q<m then(aY m r).bind fun m'=>bO (q+1) m' []else none)=some k'
  rw[if_pos (by simpa using hq),hr]
  rfl
 | x :: rs,q,m,k,r,k',h,hq,hr=>by
  obtain⟨c,m1,o1,o2⟩:=Er h
  show(if q<m then(aY m x).bind fun m'=>bO (q+1) m' (rs++[r])else none)=some k'
  rw[if_pos c,o1]
  exact BH o2 (by rw[jc]at hq;omega) hr
theorem FF.start(st:α->Nat->α)(b:α)(wide:Nat):FF st b wide [b] []:=
 ⟨jy.mpr ⟨by simp,JZ⟩,rfl,jd _,(fun i r h=>by cases h),(fun i r f t h=>by cases h),rfl,fun p hp=>⟨[],#[257],by rw[jG.mp hp];rfl⟩⟩
theorem FF.next(g:FF st b wide ps rows)(h:ps[rows.length]?=some p):CU st b wide ps rows p []:=
 ⟨g.nd,g.hd,h,g.row,g.to,(fun f t h=>by cases h),⟨ps.length,g.ord,(fK h).1,rfl⟩,g.re⟩
theorem CU.old(g:CU st b wide ps rows p r)(h:ps[n]?=some (st p r.length)):CU st b wide ps rows p (r++[(n:Int)]):=by
 obtain⟨m,o1,o2,o3⟩:=g.ord
 have nl:=(fK h).1
 refine⟨g.nd,g.hd,g.at_,g.row,g.to,fun f t hf=>?_,⟨m,o1,o2,?_⟩,g.re⟩
 ·rcases snoc_cases hf with z|⟨rfl,rfl⟩
  ·exact g.now f t z
  ·exact⟨n,rfl,h⟩
 ·rw[pJ o3,if_neg #[0],if_pos #[0]]
theorem CU.new(g:CU st b wide ps rows p r)(hw:r.length<wide)(h:st p r.length∉ps):CU st b wide (ps++[st p r.length]) rows p (r++[(ps.length:Int)]):=by
 obtain⟨m,o1,o2,o3⟩:=g.ord
 have up:∀ (n:Nat) (x:α),ps[n]?=some x->(ps++[st p r.length])[n]?=some x:=fun n x hx=>by
  rw[JG (fK hx).1]
  exact hx
 refine⟨nd_snocA g.nd h,up _ _ g.hd,up _ _ g.at_,g.row,fun i r' f t h1 h2=>?_,fun f t hf=>?_,⟨m,o1,o2,?_⟩,fun x hx=>?_⟩
 ·obtain⟨n,q,e1,e2,e3⟩:=g.to i r' f t h1 h2
  exact⟨n,q,e1,up _ _ e2,up _ _ e3⟩
 ·rcases snoc_cases hf with z|⟨rfl,rfl⟩
  ·obtain⟨n,e1,e2⟩:=g.now f t z
   exact⟨n,e1,up _ _ e2⟩
  ·exact⟨ps.length,rfl,by rw[JK (jF _),Jv];rfl⟩
 ·rw[pJ o3,if_pos rfl,jH,jX]
 ·rcases sU.mp hx with z|z
  ·exact g.re x z
  ·obtain⟨v,hv,e⟩:=g.re p (oz g.at_)
   refine⟨v++[(r.length:Int)],fun f hf=>?_,?_⟩
   ·rcases sU.mp hf with y|y
    ·exact hv f y
    ·rw[jG.mp y];omega
   ·rw[rU,e,jB,jG.mp z]
where
 nd_snocA {xs:List α} {x:α} (h:xs.Nodup) (n:x∉xs):(xs++[x]).Nodup:=
  JQ.mpr ⟨h,jy.mpr ⟨by simp,JZ⟩,fun a ha c hc e=>n (by rw[<- jG.mp hc,<- e];exact ha)⟩
theorem CU.done(g:CU st b wide ps rows p r)(hw:r.length=wide):FF st b wide ps (rows++[r]):=by
 obtain⟨m,o1,o2,o3⟩:=g.ord
 have lt:=(fK g.at_).1
 refine⟨g.nd,g.hd,by rw[jH,jX];omega,fun i r' h=>?_,fun i r' f t h1 h2=>?_,BH o1 #[0] o3,g.re⟩
 ·rcases snoc_cases h with z|⟨_,rfl⟩
  ·exact g.row i r' z
  ·exact hw
 ·rcases snoc_cases h1 with z|⟨rfl,rfl⟩
  ·exact g.to i r' f t z h2
  ·obtain⟨n,e1,e2⟩:=g.now f t h2
   exact⟨n,p,e1,g.at_,e2⟩
theorem FF.ok(g:FF st b wide ps rows)(h:rows.length=ps.length):aC rows.length wide rows:=by
 refine⟨rfl,fun r hr=>?_,fun r hr v hv=>?_⟩
 ·obtain⟨i,hi,e⟩:=jm hr
  exact g.row i r (by rw[jC hi,e])
 ·obtain⟨i,hi,e⟩:=jm hr
  obtain⟨f,hf,ef⟩:=jm hv
  obtain⟨n,p,e1,_,e3⟩:=g.to i r f v (by rw[jC hi,e]) (by rw[jC hf,ef])
  have:=(fK e3).1
  omega
theorem FF.walk(g:FF st b wide ps rows)(h:rows.length=ps.length):∀ (v:LI) (n:Nat) (p:α),Am wide v->ps[n]?=some p->∃ k:Nat,aR rows v (n:Int)=(k:Int)/\ps[k]?=some (v.foldl (fun p f=>st p f.toNat) p)
 | [],n,p,_,hp=>⟨n,rfl,hp⟩
 | f :: v,n,p,hv,hp=>by
  have hf:=hv f jE
  have nl:=(fK hp).1
  have nr:n<rows.length:=by omega
  have lr:=g.row n _ (jC nr)
  have fl:f.toNat<(rows[n]).length:=by omega
  obtain⟨k,q,e1,e2,e3⟩:=g.to n _ f.toNat _ (jC nr) (jC fl)
  rw[hp]at e2
  have eq:=Option.some.inj e2
  subst eq
  obtain⟨j,e4,e5⟩:=g.walk h v k _ (fun x hx=>hv x (jJ _ hx)) e3
  refine⟨j,?_,e5⟩
  show aR rows v (stepI rows (n:Int) f)=_
  unfold stepI
  rw[jB,getD_at nr,getD_at fl,e1]
  exact e4
theorem FF.told(g:FF st b wide ps rows)(h:rows.length=ps.length)(hv:Am wide v):∃ k:Nat,aR rows v 0=(k:Int)/\ps[k]?=some (Co st b v):=g.walk h v 0 b hv g.hd
end
inductive abq (C:Qo) (vs:List V) (H:Hp) (Q:VK) (E:XK):Prop
 | mk (x:Qo) (n:Int) (_:vs=[.ref x,.int n]) (_:H x=some (.ext (mO x C))) (_:(n.natAbs.log2<1920/\(Str.ofString (toString n)).length<=1000)) (_:∀ d,H d=none->d≠x->Q .non (upd (upd H x (.ext (iM x C d))) d (.xd [("most",.int n)])))
section
theorem wF:aE ["self","most"] ["self","most"] (ar fQ):=cV #[3]
theorem ac9(F:bL K "__init__" "TooGreat.__init__" fQ dV f fd)(M:Bl K C f0)(na:Ym K #[31] "most" = some none)(eG:mg "FigureError" = some (.ref F0))(D6:yV K (.ref F0) "__getattribute__" = some #[188])(EB:Xa K F0 #[145]=true)(D4:Xb K (.ref F0) #[145] "__init__" = some (.val #[166])):bw P w K mg base eS 1 f fd ["self","most"] (abq C):=by
 refine F.ok wF #[6] #[1]
 ·obtain⟨x,n,rfl,_⟩:=h
  rfl
 obtain⟨x,n,rfl,hx,⟨l1,l2⟩,k⟩:=h
 refine⟨_,(ah (bJ (Ms rfl eG D6 EB D4 (aa (pv 0) (aa (adl (MA agi (MA (agh (pv 1)) adq))) af))))
   (ak (adu (pv 0) (pv 1)))),?_⟩
 exists 0
 refine⟨_,rfl,_,rfl,.inr ⟨n,rfl,l1,l2,fun z=>?_⟩⟩
 exists x,C,f0,_,rfl,hx,M.ex
 exact⟨_,rfl,_,rfl,x,C,f0,rfl,hx,M,na,fun d hd ne=>k d hd ne⟩
end
def lF(u:LI):List Key:=u.map Sum.inl
theorem sM(u:LI):(lF u).map kV=u.map V.int:=by
 unfold lF
 rw[JO]
 rfl
theorem BB(h:lF u=lF v):u=v:=by
 have:=congrArg (List.map fun k:Key=>match k with|Sum.inl i=>i|Sum.inr _=>0) h
 unfold lF at this
 rw[JO,JO]at this
 have e:∀ w:LI,w.map ((fun k:Key=>match k with|Sum.inl i=>i|Sum.inr _=>0) ∘ Sum.inl)=w:=fun w=>by
  show w.map (fun i=>i)=w
  exact List.map_id' w
 rw[e,e]at this
 exact this
def Dc(ps:LL)(k:Nat):List #[84]:=(ps.zipIdx k).map fun p=>(lF p.1,V.int (p.2:Int))
theorem BD(ps:LL)(k:Nat):(Dc ps k).length=ps.length:=by
 unfold Dc
 rw[aO,QC]
theorem Ei:∀ {ps:LL} {k:Nat} {u:LI},u∉ps->eR (Dc ps k) (lF u)=none
 | [],_,_,_=>rfl
 | p :: ps,k,u,h=>by
  rw[show Dc (p :: ps) k=(lF p,V.int (k:Int)) :: Dc ps (k+1)from rfl,ft (fun z=>h (by rw[<- BB z];exact jE))]
  exact Ei fun z=>h (jJ _ z)
theorem aan:∀ {ps:LL} {k n:Nat} {u:LI},ps.Nodup->ps[n]?=some u->eR (Dc ps k) (lF u)=some (.int ((k+n:Nat):Int))
 | [],_,_,_,_,h=>by cases h
 | p :: ps,k,0,u,_,h=>by
  cases h
  exact mF rfl
 | p :: ps,k,n+1,u,nd,h=>by
  have Ik:=jy.mp nd
  have h':ps[n]?=some u:=h
  rw[show Dc (p :: ps) k=(lF p,V.int (k:Int)) :: Dc ps (k+1)from rfl,ft (fun z=>Ik.1 (by rw[BB z];exact oz h')),aan Ik.2 h']
  congr 3
  omega
theorem acW{ps:LL}(h:u∉ps):putK (Dc ps 0) (lF u) (V.int (ps.length:Int))=Dc (ps++[u]) 0:=by
 rw[MD _ (Ei h)]
 unfold Dc
 rw[ZT,jD,Jd]
 rfl
theorem acV{ps:LL}{p:List Key×V}(h:(Dc ps 0)[i]?=some p):∃ u,ps[i]?=some u/\p.1=lF u:=by
 unfold Dc at h
 rw[jO,List.getElem?_zipIdx]at h
 cases e:ps[i]? with
 | none=>rw[e]at h;cases h
 | some u =>
  rw[e]at h
  cases h
  exact⟨u,rfl,rfl⟩
theorem PK{n:Int}(h0:0<=n)(h:n<10^18):n.natAbs.log2<1920/\(Str.ofString (toString n)).length<=1000:=by
 have hn:n.natAbs<10^18:=by
  have e:((n.natAbs:Nat):Int)=n:=Int.natAbs_of_nonneg h0
  have:((n.natAbs:Nat):Int)<((10^18:Nat):Int):=by rw[e];exact h
  exact Qi.mp this
 constructor
 ·rcases Jt n.natAbs with z|z
  ·rw[z];decide
  ·exact(Qk #[0]).mpr (Ju hn #[13])
 ·have q:=int_text_length_le10 (a:=n) (k:=18) #[13] hn
  rw[ofString_length]
  omega
structure Wlk(C x:Qo)(wide:Nat)(W:Hp->Prop)(J4:LI->Prop)(st:LI->Nat->LI)(b0:LI)(sg:LI->Int)(spB spS spG:Sp):Prop where
 same:∀ H H',ay H H'->W H->W H'
 ob:∀ H,W H->∃ (dx:Qo) (fs:List (qN×V)),H x=some #[186]/\fs.lookup ("begin" : qN)=none/\fs.lookup ("step" : qN)=none/\fs.lookup ("sign" : qN)=none
 begin:∀ (H:Hp) (Q:VK) (E:XK),W H->(∀ (t:Qo) (H':Hp),ay H H'->H' t=some (.tup (b0.map V.int))->Q (.ref t) H')->spB [.ref x] H Q E
 step:∀ (H:Hp) (Q:VK) (E:XK) (b:Qo) (u:LI) (f:Nat) (fi:Int),fi=(f:Int)->W H->H b=some (.tup (u.map V.int))->J4 u->f<wide->(∀ (t:Qo) (H':Hp),ay H H'->H' t=some (.tup ((st u f).map V.int))->Q (.ref t) H')->spS [.ref x,.ref b,.int fi] H Q E
 sign:∀ (H:Hp) (Q:VK) (E:XK) (b:Qo) (u:LI),W H->H b=some (.tup (u.map V.int))->J4 u->(∀ H':Hp,ay H H'->Q (.int (sg u)) H')->spG [.ref x,.ref b] H Q E
 ok0:J4 b0
 okS:∀ u f,J4 u->f<wide->J4 (st u f)
theorem Wlk.all{x:Qo}{W:Hp->Prop}{J4:LI->Prop}{st:LI->Nat->LI}{sg:LI->Int}(h:Wlk C x wide W J4 st b0 sg spB spS spG)(hv:Am wide v):J4 (Co st b0 v):=by
 have:∀ (v:LI) (b:LI),J4 b->Am wide v->J4 (Co st b v):=by
  intro v
  induction v with
  | nil=>intro b hb _;exact hb
  | cons f v ih =>
   intro b hb hi
   refine ih _ (h.okS _ _ hb ?_) fun g hg=>hi g (jJ _ hg)
   have:=hi f jE
   omega
 exact this v b0 h.ok0 hv
inductive MV (C CT:Qo) (spB spS spG:Sp) (vs:List V) (H:Hp) (Q:VK) (E:XK):Prop
 | mk (x:Qo) (wide most:Nat) (W:Hp->Prop) (J4:LI->Prop) (st:LI->Nat->LI) (b0:LI) (sg:LI->Int) (_:vs=[.ref x,.int wide,.int most]) (_:W H) (_:Wlk C x wide W J4 st b0 sg spB spS spG) (_:wide<=1000) (_:(1<=most/\most<=1000)) (_:(∀ (m' r' g':Qo) (ax ps:LL) (H':Hp),ay H H'->bG H' m' r' g' wide ax (ps.map sg)->FF st b0 wide ps ax->ax.length=ps.length->ps.length<=most->Q (.ref m') H')) (_:∀ (d:Qo) (H':Hp) (ps:LL),ay H H'->H' d=some (.xd [("most",.int most)])->ps.Nodup->(∀ p∈ps,∃ v,Am wide v/\Co st b0 v=p)->most<ps.length->E (.ref CT) (some d) H')
section
theorem dG:aE ["walk","wide","most","begin","numbers","rows","level","fresh","place","row","figure","there","number"] ["walk","wide","most"] (ar Dv):=cV #[3]
theorem DM:aU ["walk","wide","most","begin","numbers","rows","level","fresh","place","row","figure","there","number"] (ar Dv) ["place","walk"] [none,some 0] ⟨.function,[#[48],("place",.local),("walk",.free)],false,false,[]⟩:=mz #[3]
theorem Ti(F:bL K "grown" "grown" Dv dV f fd)(Dx:tP P w K mg base C "begin" 1 ["self"] spB)(HA:tP P w K mg base C "step" 2 ["self","place","figure"] spS)(Hz:tP P w K mg base C "sign" 1 ["self","place"] spG)(me:aeO P w K mg base "TooGreat" CT f0 1 ["self","most"] (abq CT))(aB:mg "range" = none)(aN:mg "len" = none)(aQ:mg "tuple" = none):bw P w K mg base (P4 P w) 3 f fd ["walk","wide","most"] (MV C CT spB spS spG):=by
 refine F.ajk dG #[6] #[1]
 ·obtain⟨x,wide,most,W,J4,st,b0,sg,rfl,_⟩:=h
  rfl
 obtain⟨x,wide,most,W,J4,st,b0,sg,rfl,hW0,T,w1,⟨m0,m1⟩,k,kx⟩:=h
 exists 98
 obtain⟨dx,fs0,hx0,fB,fS,fG⟩:=T.ob H hW0
 refine wc (bc (mT.mk (aD (i:=3) dG.nd (Pf Dx hr (pv 0))))
   (bc (mT.mk (aD (i:=4) dG.nd (Mv hu (Eu (pv 3) aq Ir))))
   (bc (mT.mk (aD (i:=5) dG.nd (cX af)))
   (bc (mT.mk (aD (i:=6) dG.nd (cX #[107])))
   (bc (mT.mk (rW PassesOwn.leaving (wx (pv 6) (fun _=>rfl)) (ah (aD (i:=7) dG.nd (cX af))
   (ah (bq PassesOwn.leaving rfl (cI (pv 6)) (aL (i:=8) dG.nd) (ah (aD (i:=9) dG.nd (cX af))
   (ah (bq PassesOwn.leaving rfl (br rfl aB #[81]) (aL (i:=10) dG.nd) (ah (aD (i:=11) dG.nd (Hk HA hr (pv 0) (aa (pv 8) (aa (pv 10) af))))
   (ah (aD (i:=12) dG.nd (aaX hu (pv 4) (pv 11) ⟨rfl,rfl,rfl,rfl⟩))
   (ah (cK (bK agc (pv 12) aa2 (bz _)) (ah (aD (i:=12) dG.nd (az FP #[38] aN bx #[106]))
   (ah (cK (bK aaS (pv 12) (pv 2) (bz _)) (ak (TJ me hr rfl abE #[63])) bB)
   (ah (pM hu (pv 4) (pv 11) (pv 12) rfl)
   (ak (bJ (fc Yj Yk Yl bD (pv 7) (aa (pv 11) af))))))) bB)
   (ak (bJ (fc Yj Yk Yl bD (pv 9) (aa (pv 12) af))))))))
   (ak (bJ (fc Yj Yk Yl bD (pv 5) (aa (aM aW #[38] aQ bW (aa (pv 9) af)) af)))))))
   (ak (aD (i:=6) dG.nd (pv 7)))))))
   (rC (aeI (aeJ (lD (FG.mk (pv 1)) (lD (FG.mk #[151]) (lD (FG.mk (aM aW #[38] aQ bW (aa (cT rfl DM (aa7 (pv 4)) (fun _ _ _ _=>(aL (i:=0) DM.nd)) (fun _ _ _ _=>(Hk Hz hr (pv 1) #[163]))) af))) PV))))))))))) ?_
 exists 0
 refine⟨_,rfl,x,dx,_,rfl,hx0,fB,T.begin _ _ _ hW0 fun g H0 s0 hg0=>?_⟩
 have hW:=T.same _ _ s0 hW0
 have hx:=s0 _ _ hx0
 have k:=fun m' r' g' ax ps H' (s:ay H0 H')=>k m' r' g' ax ps H' (s0.trans s)
 have kx:=fun d H' ps (s:ay H0 H')=>kx d H' ps (s0.trans s)
 refine fun D hD=>?_
 have sD:=aj hD (HO.dT [])
 refine⟨_,rfl,ae,g,lF b0,.int 0,rfl,by rw[sM];exact sD _ _ hg0,?_⟩
 obtain⟨H1,eH1⟩:∃ H1,upd (upd H0 D (HO.dT [])) D (HO.dT [(lF b0,V.int 0)])=H1:=⟨_,rfl⟩
 have s1:ay H0 H1:=by rw[<- eH1];exact au sD hD
 have OK:H1 D=some (.dT (Dc [b0] 0)):=by rw[<- eH1,ae];rfl
 rw[eH1]
 refine⟨#[24],fun RR hRR=>?_⟩
 have sR:=aj hRR #[230]
 have nDR:D≠RR:=ao OK hRR
 refine⟨_,rfl,#[45],fun L0 hL0=>?_⟩
 obtain⟨H2,EX⟩:∃ H2,upd (upd H1 RR #[230]) L0 (HO.lst [V.ref g])=H2:=⟨_,rfl⟩
 have IA:ay H1 H2:=by rw[<- EX];exact sR.trans (aj hL0 _)
 have F5:=IA _ _ OK
 have al2:H2 RR=some (.lst []):=by rw[<- EX,ag (ao ae hL0),ae]
 have Rg:H2 L0=some (.lst ([g].map V.ref)):=by rw[<- EX,ae];rfl
 have s2:=s1.trans IA
 have fRR:H0 RR=none:=s1.free hRR
 rw[EX]
 exists 3
 refine dh (t:=wJ _ _) (fun σ' H'=>∃ (ps ax:LL) (cN:List Qo) (v6 v7 v8 v9 v10 v11 Dg:OV),σ'=[some #[180],some #[148],some (.int most),some (.ref g),some #[86],some (.ref RR),v6,v7,v8,v9,v10,v11,Dg]/\ay H0 H'/\H' D=some (.dT (Dc ps 0))/\H' RR=some (.lst #[44])/\aH H' cN ax/\FF st b0 wide ps ax/\ps.length<=most/\ax.length=ps.length) ?_ #[41]
 rotate_left
 ·refine Ag (fun mm σ' H'=>∃ (ps ax us:LL) (cN lv:List Qo) (L:Qo) (v7 v8 v9 v10 v11 Dg:OV),mm=most-ax.length/\σ'=[some #[180],some #[148],some (.int most),some (.ref g),some #[86],some (.ref RR),some #[285],v7,v8,v9,v10,v11,Dg]/\ay H0 H'/\H' D=some (.dT (Dc ps 0))/\H' RR=some (.lst #[44])/\aH H' cN ax/\FF st b0 wide ps ax/\ps.length<=most/\H' L=some #[178]/\RR≠L/\aH H' lv us/\ps.drop ax.length=us)
   ⟨_,[b0],[],[b0],[],[g],L0,none,none,none,none,none,none,rfl,rfl,s2,F5,al2,.nil,FF.start _ _ _,m0,Rg,ao ae hL0,.cons (s2 _ _ hg0) .nil,rfl⟩ ?_
  rintro mm σ' H3 ⟨ps,ax,us,cN,lv,L,v7,v8,v9,v10,v11,Dg,rfl,rfl,s3,AI,SN,A3,G,le3,pZ,nRL,TA,du⟩
  by_cases en:lv=[]
  ·subst en
   cases TA
   refine⟨_,rfl,_,.inl ⟨_,bS pZ,rfl⟩,lQ ?_⟩
   have e:ps.length<=ax.length:=zD.mp du
   exact iK _ _ ⟨ps,ax,cN,_,v7,v8,v9,v10,v11,Dg,rfl,s3,AI,SN,A3,G,le3,ZH G.le e⟩
  exists _,rfl,_,.inl ⟨_,bS pZ,rfl⟩
  have ne:(!(lv.map V.ref).isEmpty)=true:=by
   cases lv with
   | nil=>exact absurd rfl en
   | cons x r=>rfl
  rw[ne]
  have lv1:1<=lv.length:=by
   cases lv with
   | nil=>exact absurd rfl en
   | cons x r=>exact Za (jd _)
  have llu:lv.length=us.length:=Paired.length TA
  have pl:ps.length=ax.length+us.length:=by
   have:=congrArg zG du
   rw[zT]at this
   have:=G.le
   omega
  have lm:=le3
  refine oU ⟨fun σ' H'=>∃ m',m'<most-ax.length/\∃ (ps ax us:LL) (cN lv:List Qo) (L:Qo) (v7 v8 v9 v10 v11 Dg:OV),m'=most-ax.length/\σ'=[some #[180],some #[148],some (.int most),some (.ref g),some #[86],some (.ref RR),some #[285],v7,v8,v9,v10,v11,Dg]/\ay H0 H'/\H' D=some (.dT (Dc ps 0))/\H' RR=some (.lst #[44])/\aH H' cN ax/\FF st b0 wide ps ax/\ps.length<=most/\H' L=some #[178]/\RR≠L/\aH H' lv us/\ps.drop ax.length=us,fun _ _ h=>h,?_⟩
  refine⟨#[24],fun Fr hFr=>?_⟩
  have sF:=aj hFr #[230]
  have fFr:H0 Fr=none:=s3.free hFr
  have nFD:D≠Fr:=ao AI hFr
  have nFR:RR≠Fr:=ao SN hFr
  have nFL:L≠Fr:=ao pZ hFr
  obtain⟨H4,wW⟩:∃ H4,upd H3 Fr #[230]=H4:=⟨_,rfl⟩
  have s4:ay H0 H4:=by rw[<- wW];exact s3.trans sF
  have t4:ay H3 H4:=by rw[<- wW];exact sF
  have hF4:H4 Fr=some (.lst (([]:List Qo).map V.ref)):=by rw[<- wW,ae];rfl
  rw[wW]
  have lps:∀ {qs:LL},(∀ p∈qs,∃ v,Am wide v/\Co st b0 v=p)->∀ u∈qs,J4 u:=fun h u hu'=>by
   obtain⟨v,hv,e⟩:=h u hu'
   rw[<- e]
   exact T.all hv
  exists 3
  refine⟨_,rfl,L,rfl,⟨_,bS (t4 _ _ pZ)⟩,dj (K:=K) (xs:=lv.map V.ref) (fun i σ' H'=>∃ (BJ eP qs:LL) (AU fr:List Qo) (v8 v9 v10 v11 Dg:OV),
    σ'=[some #[180],some #[148],some (.int most),some (.ref g),some #[86],some (.ref RR),some #[285],some (.ref Fr),v8,v9,v10,v11,Dg]/\ay H0 H'/\H' D=some (.dT (Dc BJ 0))/\H' RR=some #[296]/\aH H' AU eP/\FF st b0 wide BJ eP/\BJ.length<=most/\eP.length=ax.length+i/\BJ=ps++qs/\H' Fr=some #[295]/\aH H' fr qs/\H' L=some #[178]/\aH H' lv us)
   ⟨ps,ax,[],cN,[],v8,v9,v10,v11,Dg,rfl,s4,t4 _ _ AI,t4 _ _ SN,A3.same (fun b xs e=>t4 _ _ e),G,le3,rfl,(jx _).symm,hF4,.nil,t4 _ _ pZ,TA.same (fun b xs e=>t4 _ _ e)⟩ (fun i σ' H' _ ⟨_,_,_,_,_,_,_,_,_,_,_,_,_,_,_,_,_,_,_,_,_,e,_⟩=>bS e) ?_ ?_⟩
  ·rintro i y σ' H5 hi ⟨BJ,eP,qs,AU,fr,v8,v9,v10,v11,Dg,rfl,s5,SM,hR5,A5,G5,le5,l5,rfl,Y0,TF5,Oa,TA5⟩
   have il:i<us.length:=by
    have:=(fK hi).1
    rw[aO]at this
    omega
   obtain⟨pa,e1,e2⟩:=TA5.get il
   have ey:y=.ref pa:=by rw[jO,e1]at hi;exact#[152].symm
   subst ey
   have atp:ps[eP.length]?=some us[i]:=by
    have:(ps.drop ax.length)[i]?=some us[i]:=by rw[du];exact jC il
    rw[List.getElem?_drop]at this
    rw[l5];exact this
   have ahI:(ps++qs)[eP.length]?=some us[i]:=by rw[JG (fK atp).1];exact atp
   have lu:J4 us[i]:=lps G5.re _ (oz ahI)
   refine⟨#[24],fun Ro hRo=>?_⟩
   have sO:=aj hRo #[230]
   have fRo:H0 Ro=none:=s5.free hRo
   have nOD:D≠Ro:=ao SM hRo
   have nOR:RR≠Ro:=ao hR5 hRo
   have nOF:Fr≠Ro:=ao Y0 hRo
   have nOL:L≠Ro:=ao Oa hRo
   obtain⟨H6,eH6⟩:∃ H6,upd H5 Ro #[230]=H6:=⟨_,rfl⟩
   have t6:ay H5 H6:=by rw[<- eH6];exact sO
   have hO6:H6 Ro=some (.lst (([]:LI).map V.int)):=by rw[<- eH6,ae];rfl
   rw[eH6]
   exists 3
   refine dh (t:=rZ _ _ _) (fun σ' H'=>∃ (BJ qs:LL) (fr:List Qo) (row:LI) (v10 v11 Dg:OV),
    σ'=[some #[180],some #[148],some (.int most),some (.ref g),some #[86],some (.ref RR),some #[285],some (.ref Fr),some (.ref pa),some (.ref Ro),v10,v11,Dg]/\ay H0 H'/\H' D=some (.dT (Dc BJ 0))/\H' RR=some #[296]/\aH H' AU eP/\CU st b0 wide BJ eP us[i] row/\BJ.length<=most/\row.length=wide/\H' Ro=some (.lst #[157])/\BJ=ps++qs/\H' Fr=some #[295]/\aH H' fr qs/\H' L=some #[178]/\aH H' lv us/\H' pa=some (.tup (us[i].map V.int))) ?_ (fun D1 anx=>?_)
   rotate_left
   ·refine⟨_,rfl,_,rfl,by omega,by omega,?_⟩
    refine cb (fun j σ' H'=>∃ (BJ qs:LL) (fr:List Qo) (row:LI) (v10 v11 Dg:OV),
     σ'=[some #[180],some #[148],some (.int most),some (.ref g),some #[86],some (.ref RR),some #[285],some (.ref Fr),some (.ref pa),some (.ref Ro),v10,v11,Dg]/\ay H0 H'/\H' D=some (.dT (Dc BJ 0))/\H' RR=some #[296]/\aH H' AU eP/\CU st b0 wide BJ eP us[i] row/\BJ.length<=most/\row.length=j/\H' Ro=some (.lst #[157])/\BJ=ps++qs/\H' Fr=some #[295]/\aH H' fr qs/\H' L=some #[178]/\aH H' lv us/\H' pa=some (.tup (us[i].map V.int)))
     ⟨ps++qs,qs,fr,[],v10,v11,Dg,rfl,s5.trans t6,t6 _ _ SM,t6 _ _ hR5,A5.same (fun b xs e=>t6 _ _ e),G5.next ahI,le5,rfl,hO6,rfl,t6 _ _ Y0,TF5.same (fun b xs e=>t6 _ _ e),t6 _ _ Oa,TA5.same (fun b xs e=>t6 _ _ e),t6 _ _ e2⟩ ?_ ?_
    ·rintro j σ' H7 hj ⟨BJ,qs,fr,row,v10,v11,Dg,rfl,s7,LH,hR7,A7,G7,le7,rfl,hO7,rfl,hF7,TF7,hL7,TA7,aaa⟩
     rw[jB]at hj
     refine⟨_,rfl,x,dx,_,rfl,s7 _ _ hx,fS,_,rfl,_,rfl,T.step _ _ _ pa us[i] row.length _ (JJ _) (T.same _ _ s7 hW) aaa lu hj fun Th H8 s8 hTh=>?_⟩
     have hD8:=s8 _ _ LH
     have lq:(ps++qs).length<=most:=le7
     by_cases c:st us[i] row.length∈ps++qs
     ·obtain⟨n,nl,en'⟩:=jm c
      have hn:(ps++qs)[n]?=some #[287]:=by rw[jC nl,en']
      have dg:eV H8 D (.ref Th) (some (.int (n:Int))):=by
       have z:=eV.t (k:=lF #[287]) hD8 (b:=Th) (by rw[sM];exact hTh)
       rw[aan G7.nd hn,Jd]at z
       exact z
      exists _,rfl,D,rfl,.inr ⟨_,.inl hD8⟩,_,rfl,_,dg
      refine⟨_,rfl,rfl,_,rfl,lQ ?_⟩
      have hO8:=s8 _ _ hO7
      refine⟨_,rfl,.inl ⟨rfl,_,bS hO8⟩,_,rfl,Ro,_,_,rfl,rfl,hO8,aw #[30],?_⟩
      have oth:∀ b u,b≠Ro->H7 b=some u->(upd H8 Ro (.lst (row.map V.int++[V.int (n:Int)]))) b=some u:=fun b u n e=>by
       rw[ag n];exact s8 _ _ e
      have up:∀ b xs,H7 b=some #[36]->(upd H8 Ro (.lst (row.map V.int++[V.int (n:Int)]))) b=some #[36]:=fun b xs e=>oth b _ (aG e hO7 #[2]) e
      exact⟨_,qs,fr,row++[(n:Int)],_,_,_,rfl,au (s7.trans s8) fRo,oth _ _ nOD LH,oth _ _ nOR hR7,A7.same up,G7.old hn,le7,by rw[jH];rfl,by rw[ae,jD];rfl,rfl,oth _ _ nOF hF7,TF7.same up,oth _ _ nOL hL7,TA7.same up,up _ _ aaa⟩
     ·have dg:eV H8 D (.ref Th) none:=by
       have z:=eV.t (k:=lF #[287]) hD8 (b:=Th) (by rw[sM];exact hTh)
       rw[Ei c]at z
       exact z
      exists _,rfl,D,rfl,.inr ⟨_,.inl hD8⟩,_,rfl,_,dg
      have G8:=G7.new hj c
      refine⟨_,rfl,rfl,_,rfl,oU ?_⟩
      refine⟨_,rfl,D,_,rfl,hD8,_,rfl,_,rfl,_,_,rfl,rfl,_,rfl,afS (fun z=>?_) (fun z=>?_)⟩
      ·have z' := of_decide_eq_true z
       rw[BD]at z'
       refine⟨_,rfl,(by show 1<=8;decide),fun xa hxa=>⟨xa,(most:Int),rfl,ae,PK #[0] #[0],fun d hd nd=>⟨rfl,d,?_,?_⟩⟩⟩
       ·rw[ag (Ne.symm nd),ae]
       ·refine kx d _ (ps++qs++[st us[i] row.length]) ?_ ?_ G8.nd G8.re ?_
        ·intro b u eb
         have e8:=(s7.trans s8) _ _ eb
         have nb:b≠xa:=ao e8 hxa
         have nbd:b≠d:=ao (a:=b) (show(upd H8 xa _) b=some u by rw[ag nb];exact e8) hd
         rw[mU nb,ag nbd,ag nb,ag nb]
         exact e8
        ·rw[mU nd,ae]
        ·rw[jH,jX]
         omega
      have z':¬ (most:Int)<=((ps++qs).length:Int):=fun q=>z (decide_eq_true (by rw[BD];exact q))
      rw[BD]
      refine⟨_,rfl,_,rfl,_,rfl,D,_,rfl,A0.t (k:=lF #[287]) hD8 (by rw[sM];exact hTh) (aw (by rw[BD];omega)),?_⟩
      rw[acW c]
      have hO8:=s8 _ _ hO7
      have hF8:=s8 _ _ hF7
      obtain⟨u',eu⟩:∃ u',st us[i] row.length=u' := ⟨_,rfl⟩
      rw[eu]at G8 hTh ⊢
      obtain⟨H9,e9⟩:∃ H9,upd H8 D (HO.dT (Dc (ps++qs++[u']) 0))=H9:=⟨_,rfl⟩
      rw[e9]
      have o9:∀ b u,b≠D->H8 b=some u->H9 b=some u:=fun b u n e=>by rw[<- e9,ag n];exact e
      have hF9:=o9 _ _ (Ne.symm nFD) hF8
      have hO9:=o9 _ _ (Ne.symm nOD) hO8
      have lfr:=TF7.length
      have lpq:(ps++qs).length=ps.length+qs.length:=jH
      refine⟨_,rfl,.inl ⟨rfl,_,bS hF9⟩,_,rfl,Fr,_,_,rfl,rfl,hF9,aw #[30],?_⟩
      have ah2:(upd H9 Fr (.lst (fr.map V.ref++[V.ref Th]))) Ro=some (.lst #[157]):=by rw[ag (Ne.symm nOF)];exact hO9
      refine⟨_,rfl,.inl ⟨rfl,_,bS ah2⟩,_,rfl,Ro,_,_,rfl,rfl,ah2,aw #[30],?_⟩
      obtain⟨HB,e11⟩:∃ HB,upd (upd H9 Fr (.lst (fr.map V.ref++[V.ref Th]))) Ro (.lst (row.map V.int++[V.int ((ps++qs).length:Int)]))=HB:=⟨_,rfl⟩
      have oth:∀ b u,b≠Ro->b≠Fr->b≠D->H8 b=some u->HB b=some u:=fun b u n1 n2 n3 e=>by
       rw[<- e11,ag n1,ag n2];exact o9 _ _ n3 e
      have up8:∀ b xs,H8 b=some #[36]->HB b=some #[36]:=fun b xs e=>oth b _ (aG e hO8 #[2]) (aG e hF8 #[2]) (aG e hD8 #[2]) e
      have up:∀ b xs,H7 b=some #[36]->HB b=some #[36]:=fun b xs e=>up8 _ _ (s8 _ _ e)
      have s11:ay H0 HB:=by
       rw[<- e11,<- e9]
       exact au (au (au (s7.trans s8) hD) fFr) fRo
      have alQ:HB D=some (.dT (Dc (ps++qs++[u']) 0)):=by rw[<- e11,ag nOD,ag nFD,<- e9,ae]
      have alR:HB Fr=some (.lst ((fr++[Th]).map V.ref)):=by rw[<- e11,ag nOF,ae,jD];rfl
      have alZ:HB Ro=some (.lst ((row++[((ps++qs).length:Int)]).map V.int)):=by rw[<- e11,ae,jD];rfl
      have goal:∃ (BJ qs':LL) (fr:List Qo) (Po:LI) (an8 v11 Dg:OV),[some (V.ref x),some #[148],some (.int most),some (.ref g),some #[86],some (.ref RR),some #[285],some (.ref Fr),some (.ref pa),some (.ref Ro),some (.int (0+(row.length:Int))),some (.ref Th),some (.int ((ps++qs).length:Int))]=[some #[180],some #[148],some (.int most),some (.ref g),some #[86],some (.ref RR),some #[285],some (.ref Fr),some (.ref pa),some (.ref Ro),an8,v11,Dg]/\ay H0 HB/\HB D=some (.dT (Dc BJ 0))/\HB RR=some #[296]/\aH HB AU eP/\CU st b0 wide BJ eP us[i] Po/\BJ.length<=most/\Po.length=row.length+1/\HB Ro=some (.lst (Po.map V.int))/\BJ=ps++qs'/\HB Fr=some #[295]/\aH HB fr qs'/\HB L=some #[178]/\aH HB lv us/\HB pa=some (.tup (us[i].map V.int)):=
       ⟨ps++qs++[u'],qs++[u'],fr++[Th],row++[((ps++qs).length:Int)],_,_,_,rfl,s11,alQ,oth _ _ nOR nFR (Ne.symm nDR) (s8 _ _ hR7),A7.same up,G8,by rw[jH,jX];omega,by rw[jH];rfl,alZ,JC ..,alR,aH.snoc (TF7.same up) (up8 _ _ hTh),oth _ _ nOL nFL (aG hL7 LH #[2]) (s8 _ _ hL7),TA7.same up,up _ _ aaa⟩
      rw[<- e11]at goal
      exact goal
    ·rintro σ' H7 ⟨BJ,qs,fr,row,v10,v11,Dg,rfl,s7,LH,hR7,A7,G7,le7,lr7,hO7,rfl,hF7,TF7,hL7,TA7,aaa⟩
     rw[jB]at lr7
     exact anx _ _ ⟨_,qs,fr,row,v10,v11,Dg,rfl,s7,LH,hR7,A7,G7,le7,lr7,hO7,rfl,hF7,TF7,hL7,TA7,aaa⟩
   ·rintro σ' H7 ⟨BJ,qs,fr,row,v10,v11,Dg,rfl,s7,LH,hR7,A7,G7,le7,lr7,hO7,rfl,hF7,TF7,hL7,TA7,_⟩
    have lt7:=(fK G7.at_).1
    have lq:(ps++qs).length<=most:=le7
    refine⟨_,rfl,.inl ⟨rfl,_,bS hR7⟩,_,rfl,Ro,_,rfl,.inl ⟨bS hO7,fun t ht=>?_⟩⟩
    have nRt:RR≠t:=ao hR7 ht
    have s8:=aj ht (HO.tup #[157])
    have lra:=A7.length
    refine⟨RR,_,_,rfl,rfl,s8 _ _ hR7,aw #[30],?_⟩
    have up:∀ b xs,H7 b=some #[36]->(upd (upd H7 t (.tup #[157])) RR (.lst (AU.map V.ref++[V.ref t]))) b=some #[36]:=fun b xs e=>by
     rw[ag (aG e hR7 #[2]),ag (ao e ht)]
     exact e
    have oth:∀ b u,b≠RR->H7 b=some u->(upd (upd H7 t (.tup #[157])) RR (.lst (AU.map V.ref++[V.ref t]))) b=some u:=fun b u n e=>by
     rw[ag n];exact s8 _ _ e
    refine⟨ps++qs,eP++[row],qs,AU++[t],fr,_,_,_,_,_,rfl,au (s7.trans s8) fRR,oth _ _ nDR LH,by rw[ae,jD];rfl,aH.snoc (A7.same up) (by rw[ag (Ne.symm nRt),ae]),G7.done lr7,le7,by rw[jH,jX,l5];rfl,rfl,oth _ _ (Ne.symm nFR) hF7,TF7.same up,oth _ _ (Ne.symm nRL) hL7,TA7.same up⟩
  ·rintro σ' H5 ⟨BJ,eP,qs,AU,fr,v8,v9,v10,v11,Dg,rfl,s5,SM,hR5,A5,G5,le5,l5,rfl,Y0,TF5,Oa,TA5⟩
   rw[aO]at l5
   refine⟨_,rfl,most-eP.length,?_,ps++qs,eP,qs,AU,fr,Fr,some (.ref Fr),v8,v9,v10,v11,Dg,rfl,rfl,s5,SM,hR5,A5,G5,le5,Y0,nFR,TF5,?_⟩
   ·omega
   ·rw[l5,llu,<- pl,ZK (jF _),zU,ZG]
 rintro σ' H3 ⟨ps,ax,cN,v6,v7,v8,v9,v10,v11,Dg,rfl,s3,AI,SN,A3,G,le3,el⟩
 refine⟨_,rfl,_,rfl,RR,_,rfl,.inl ⟨bS SN,fun rt hrt=>?_⟩⟩
 have s4:=aj hrt (HO.tup #[44])
 refine⟨_,rfl,D,_,rfl,s4 _ _ AI,fun o=>?_⟩
 obtain⟨Hf,eHf⟩:∃ Hf,upd (upd H3 rt (HO.tup #[44])) D (.se o (.dT (Dc ps 0)))=Hf:=⟨_,rfl⟩
 have sf:ay H0 Hf:=by rw[<- eHf];exact au (s3.trans s4) hD
 have hDf:Hf D=some (.se o (.dT (Dc ps 0))):=by rw[<- eHf,ae]
 have upf:∀ b xs,(upd H3 rt (HO.tup #[44])) b=some #[36]->Hf b=some #[36]:=fun b xs e=>by
  rw[<- eHf,ag (aG e (s4 _ _ AI) #[2])];exact e
 have lps:∀ u∈ps,J4 u:=fun u hu'=>by
  obtain⟨v,hv,e⟩:=G.re u hu'
  rw[<- e]
  exact T.all hv
 have lm:=le3
 rw[eHf]
 refine OB (fun Dl i ys H'=>ay Hf H'/\ys=((ps.take i).map sg).map V.int) (fun Dl hDl=>⟨aj hDl _,rfl⟩) (fun Dl i ys H' _ ⟨e,_⟩=>e _ _ hDf) ?_ ?_
 ·rintro Dl i p b ys H4 Q' hDl hi hb hy ⟨s5,rfl⟩ k'
  obtain⟨u,hu',ep⟩:=acV hi
  rw[ep,sM]at hb
  have il:=(fK hu').1
  have lu:=lps u (oz hu')
  refine⟨_,rfl,x,dx,_,rfl,s5 _ _ (sf _ _ hx),fG,_,rfl,T.sign _ _ _ b u (T.same _ _ (sf.trans s5) hW) hb lu fun H9 s9=>k' _ _ (s9 _ _ hy) #[57] ⟨au (s5.trans s9) hDl,?_⟩⟩
  rw[jY,hu',jD,jD]
  rfl
 ·rintro Dl ys H4 hDl hy ⟨s5,rfl⟩
  rw[BD,jV]at hy
  refine⟨Dl,_,rfl,.inl ⟨bS hy,fun gt hgt=>?_⟩⟩
  have s6:=aj hgt (HO.tup ((ps.map sg).map V.int))
  refine⟨#[117],fun m' hm'=>?_⟩
  have s7:=aj hm' #[128]
  have s67:=s6.trans s7
  exact k m' rt gt ax ps _ (sf.trans (s5.trans s67)) ⟨ae,⟨cN,s67 _ _ (s5 _ _ (upf _ _ ae)),A3.same fun b xs e=>s67 _ _ (s5 _ _ (upf _ _ (s4 _ _ e)))⟩,s7 _ _ ae⟩ G el le3
end
theorem Iz(signs:LI)(sg:Int)(n:Nat):(ff signs sg n).Nodup:=by
 unfold ff
 refine Je.mpr (List.Pairwise.imp (fun {a b} h=>?_) (List.nodup_range.filter _))
 intro z
 exact h #[0]
structure abX(K:Yh)(C:Qo):Prop where
 cl:IV K C
 nr:iU K C "rows"
 nb:iU K C "base"
 nl:iU K C "below"
 nw:iU K C "winning"
structure Og(H:Hp)(C x r:Qo)(b lo:Int)(ks:LI):Prop where
 ob:∃ dx D:Qo,H x=some (.ins C dx [("rows",.ref r),("base",.int b),("below",.int lo),("winning",.ref D)])/\H D=some #[154]
theorem Og.same{x r:Qo}(h:Og H C x r b lo ks)(s:ay H H'):Og H' C x r b lo ks:=by
 obtain⟨dx,D,h1,h2⟩:=h.ob
 exact⟨dx,D,s _ _ h1,s _ _ h2⟩
def DJ(lo:Int)(b:Nat):LI:=(jZ b).map fun i:Nat=>lo*(i:Int)
def K8(rows:LL)(signs:LI)(lo:Int)(b many:Nat)(ks:LI):Prop:=ks.Nodup/\(∀ q∈ks,#[192]/\bR rows (DJ lo b) (ff signs 1 many) q)/\∀ q:Int,0<=q->q<(many:Int)->bR rows (DJ lo b) (ff signs 1 many) q->q∈ks
inductive MU (C:Qo) (vs:List V) (H:Hp) (Q:VK) (E:XK):Prop
 | mk (x dx m r g:Qo) (b n many wide:Nat) (rows:LL) (signs:LI) (_:vs=[.ref x,.ref m,.int b,.int n]) (_:H x=some (.ins C dx [])) (_:bG H m r g wide rows signs) (_:aC many wide rows) (_:signs.length=many) (_:(1<=many/\many<=400)) (_:(1<=wide/\wide<=400)) (_:(1<=b/\b<=400)) (_:n<=1000) (_:(0<(b:Int)^n/\(b:Int)^n<=100000)) (_:(∀ i:Nat,i<b->(b:Int)^n*(i:Int)<(wide:Int))) (_:∀ (H':Hp) (ks:LI),(∀ c u,c≠x->H c=some u->H' c=some u)->Og H' C x r b ((b:Int)^n) ks->K8 rows signs ((b:Int)^n) b many ks->Q .non H')
inductive Cs (vs:List V) (H:Hp) (Q:VK) (E:XK):Prop
 | mk (x:Qo) (_:vs=[.ref x]) (_:∀ (t:Qo) (H':Hp),ay H H'->H' t=some (.tup [.int 0])->Q (.ref t) H')
section
theorem wD:aE ["self","machine","base","at"] ["self","machine","base","at"] (ar fP):=cV #[3]
theorem BO:aE ["self"] ["self"] (ar lS):=cV #[3]
theorem Te(F:bL K "__init__" "Choosing.__init__" fP dV f fd)(cc:abX K C)(hZ:bQ P w K mg base "power_of" 1 ["base","times"] [] IE)(su:bQ P w K mg base "rooms_with" 1 ["machine","sign"] [] N1)(pV:bQ P w K mg base "parts_alone" 1 ["base","below"] [] R0)(ic:bQ P w K mg base "rooms_leading_to" 1 ["machine","goals","taken"] [] (RV K)):bw P w K mg base eS 2 f fd ["self","machine","base","at"] (MU C):=by
 refine F.ok wD #[6] #[1]
 ·obtain⟨x,dx,m,r,g,b,n,many,wide,rows,signs,rfl,_⟩:=h
  rfl
 obtain⟨x,dx,m,r,g,b,n,many,wide,rows,signs,rfl,hx,M,R,lsg,⟨n0,n1⟩,⟨w0,w1⟩,⟨b0,b1⟩,hn,⟨p0,p1⟩,hf,k⟩:=h
 refine⟨_,(ah (wu (pv 0) (aF aI (pv 1) aq #[12]) rfl)
   (ah (wu (pv 0) (pv 2) rfl)
   (ah (wu (pv 0) (bE hZ hr (aa (pv 2) #[107])) rfl)
   (ak (wu (pv 0) (bE ic hr (aa (pv 1) (aa (bE su hr (aa (pv 1) (aa aq af))) (aa (bE pV hr (aa (pv 2) (aa #[66] af))) af)))) rfl))))),?_⟩
 exists 0
 have ntx:∀ {a:Qo} {ys:List V},H a=some (.tup ys)->a≠x:=fun e=>aG e hx #[2]
 refine⟨_,rfl,m,_,_,_,rfl,rfl,bV M.tup,rfl,_,rfl,x,C,dx,[],rfl,hx,cc.cl,cc.nr,by decide,?_⟩
 refine⟨_,rfl,_,rfl,x,C,dx,_,rfl,ae,cc.cl,cc.nb,by show 1<1000;decide,?_⟩
 refine⟨_,rfl,_,rfl,(b:Int),n,rfl,⟨by omega,by omega⟩,hn,_,rfl,x,C,dx,_,rfl,ae,cc.cl,cc.nl,by show 2<1000;decide,?_⟩
 obtain⟨H3,IX⟩:∃ H3,upd (upd (upd H x (HO.ins C dx (mC "rows" (V.ref r) []))) x (HO.ins C dx (mC "base" (V.int b) (mC "rows" (V.ref r) [])))) x (HO.ins C dx (mC "below" (V.int ((b:Int)^n)) (mC "base" (V.int b) (mC "rows" (V.ref r) []))))=H3:=⟨_,rfl⟩
 have keep:∀ c u,c≠x->H c=some u->H3 c=some u:=fun c u hc e=>by rw[<- IX,ag hc,ag hc,ag hc];exact e
 have hx3:H3 x=some (.ins C dx [("rows",.ref r),("base",.int b),("below",.int ((b:Int)^n))]):=by rw[<- IX,ae];rfl
 have M3:=M.same fun a ys e=>keep a _ (ntx e) e
 rw[IX]
 refine⟨_,rfl,_,rfl,m,r,g,wide,rows,signs,1,rfl,M3,by omega,fun gl H4 s4 arc hgl=>?_⟩
 rw[lsg]at hgl
 have Od:=s4 _ _ hx3
 refine⟨_,rfl,_,rfl,x,C,dx,_,_,rfl,Od,cc.cl,cc.nl,rfl,b,_,rfl,by omega,⟨p0,p1⟩,fun tk H5 s5 arG htk=>?_⟩
 have hx5:=s5 _ _ Od
 have M5:=M3.same fun a ys e=>(s4.trans s5) _ _ e
 refine⟨m,r,g,gl,tk,many,wide,rows,signs,ff signs 1 many,DJ ((b:Int)^n) b,rfl,M5,R,⟨n0,n1⟩,⟨w0,w1⟩,s5 _ _ hgl,Iz _ _ _,fun q hq=>⟨(dR.mp hq).1,(dR.mp hq).2.1⟩,htk,by unfold DJ;simp;omega,fun fg hfg=>?_,fun D H6 ks s6 hD0 hD nd k1 k2=>?_⟩
 ·obtain⟨i,hi,rfl⟩:=jN.mp hfg
  exact⟨zR #[0] #[0],hf i (je.mp hi)⟩
 have hx6:=s6 _ _ hx5
 refine⟨_,rfl,x,C,dx,_,rfl,hx6,cc.cl,cc.nw,by show 3<1000;decide,?_⟩
 have nDx:D≠x:=aG hD hx6 #[2]
 refine k _ ks (fun c u hc e=>?_) ⟨dx,D,ae,by rw[ag nDx];exact hD⟩ ⟨nd,k1,k2⟩
 rw[ag hc]
 exact(s4.trans (s5.trans s6)) _ _ (keep c u hc e)
theorem O7(F:bL K "begin" "Choosing.begin" lS dV f fd):bw P w K mg base eS 1 f fd ["self"] Cs:=by
 refine F.ok BO #[6] #[1]
 ·obtain⟨x,rfl,_⟩:=h
  rfl
 obtain⟨x,rfl,q⟩:=h
 exists _,(ak (aJ (cE (aa aq af))))
 exists 0
 exact⟨#[45],fun t ht=>q t _ (aj ht _) ae⟩
end
theorem Ae:∀ {xs ys:LI},xs.Pairwise (·<·)->ys.Pairwise (·<·)->(∀ q,q∈xs↔q∈ys)->xs=ys
 | [],[],_,_,_=>rfl
 | [],y :: ys,_,_,h=>by cases(h y).mpr jE
 | x :: xs,[],_,_,h=>by cases(h x).mp jE
 | x :: xs,y :: ys,hx,hy,h=>by
  have IZ:=ZS.mp hx
  have hy' := ZS.mp hy
  have e:x=y:=by
   rcases jU.mp ((h x).mp jE)with z|z
   ·exact z
   ·rcases jU.mp ((h y).mpr jE)with z2|z2
    ·exact z2.symm
    ·have h1:=IZ.1 y z2
     have h2:=hy'.1 x z
     omega
  subst e
  congr 1
  refine Ae IZ.2 hy'.2 fun q=>⟨fun hq=>?_,fun hq=>?_⟩
  ·rcases jU.mp ((h q).mp (jJ _ hq))with z|z
   ·have h1:=IZ.1 q hq
    omega
   ·exact z
  ·rcases jU.mp ((h q).mpr (jJ _ hq))with z|z
   ·have h1:=hy'.1 q hq
    omega
   ·exact z
def iX(rows:LL)(ps fs:LI)(many:Nat):LI:=((jZ many).filter fun q:Nat=>decide (∃ p∈ps,∃ f∈fs,stepI rows p f=(q:Int))).map fun q:Nat=>(q:Int)
theorem fx{fs:LI}:q∈iX rows ps fs many↔#[192]/\∃ p∈ps,∃ f∈fs,stepI rows p f=q:=by
 unfold iX
 rw[jN]
 constructor
 ·rintro⟨i,hi,rfl⟩
  have h:=ju.mp hi
  have h1:=je.mp h.1
  exact⟨⟨by omega,by omega⟩,of_decide_eq_true h.2⟩
 ·rintro⟨⟨h0,h1⟩,h2⟩
  obtain⟨n,rfl⟩:=cZ h0
  exact⟨n,ju.mpr ⟨je.mpr #[0],decide_eq_true h2⟩,rfl⟩
theorem mY(rows:LL)(ps fs:LI)(many:Nat):(iX rows ps fs many).Pairwise (·<·):=by
 unfold iX
 refine Je.mpr (List.Pairwise.imp (fun {a b} h=>?_) (List.pairwise_lt_range.filter _))
 omega
theorem Hh(rows:LL)(ps fs:LI)(many:Nat):(iX rows ps fs many).length<=many:=by
 unfold iX
 rw[aO]
 exact jk (Jc _ _) #[10]
theorem Mi{fs:LI}(h:∀ f,f∈fs↔f∈gs):iX rows ps fs many=iX rows ps gs many:=
 Ae (mY ..) (mY ..) fun q=>by
  rw[fx,fx]
  exact⟨fun⟨h0,p,hp,f,hf,e⟩=>⟨h0,p,hp,f,(h f).mp hf,e⟩,fun⟨h0,p,hp,f,hf,e⟩=>⟨h0,p,hp,f,(h f).mpr hf,e⟩⟩
theorem MS{fs ms:LI}(hs:ms.Pairwise (·<=·))(nd:ms.Nodup)(h:∀ q,q∈ms↔#[192]/\∃ p∈ps,∃ f∈fs,stepI rows p f=q):ms=iX rows ps fs many:=by
 refine Ae ((hs.and nd).imp fun h=>?_) (mY ..) fun q=>by rw[h,fx]
 have h1:=h.1
 have h2:=h.2
 omega
def eD(g:Int)(b:Nat)(lo:Int):LI:=(jZ b).map fun i:Nat=>pd g b lo (i:Int)
def oX(rows:LL)(ps fs:LI):LI:=fs.flatMap fun f=>ps.map fun p=>stepI rows p f
theorem Pk{fs:LI}:q∈oX rows ps fs↔∃ p∈ps,∃ f∈fs,stepI rows p f=q:=by
 unfold oX
 rw[zw]
 constructor
 ·rintro⟨f,hf,hq⟩
  obtain⟨p,hp,e⟩:=jN.mp hq
  exact⟨p,hp,f,hf,e⟩
 ·rintro⟨p,hp,f,hf,e⟩
  exact⟨f,hf,jN.mpr ⟨p,hp,e⟩⟩
theorem AV(rows:LL)(ps:LI):∀ fs:LI,(oX rows ps fs).length=fs.length*ps.length
 | []=>by show 0=0*_;omega
 | f :: fs=>by
  have ih:=AV rows ps fs
  have e:oX rows ps (f :: fs)=(ps.map fun p=>stepI rows p f)++oX rows ps fs:=rfl
  rw[e,jH,aO,ih,jc,QE]
  omega
theorem MH(rows:LL)(ps fs:LI)(f:Int):oX rows ps (fs++[f])=oX rows ps fs++ps.map fun p=>stepI rows p f:=by
 unfold oX
 rw[Zu]
 simp
theorem fU(R:aC many wide rows){f:Int}(y0:0<=y)(y1:y<(many:Int))(f0:0<=f)(f1:f<(wide:Int)):0<=stepI rows y f/\stepI rows y f<(many:Int):=by
 obtain⟨r0,rl,rv⟩:=R
 have l:y.toNat<rows.length:=by omega
 have e:rows.getD y.toNat []=rows[y.toNat]:=by rw[jI,jC l];rfl
 have hm:=jM l
 have l2:f.toNat<rows[y.toNat].length:=by rw[rl _ hm];omega
 have e2:rows[y.toNat].getD f.toNat 0=rows[y.toNat][f.toNat]:=by rw[jI,jC l2];rfl
 unfold stepI
 rw[e,e2]
 exact rv _ hm _ (jM l2)
inductive EI (C:Qo) (vs:List V) (H:Hp) (Q:VK) (E:XK):Prop
 | mk (x t m r g:Qo) (b many wide:Nat) (lo fg:Int) (ks ps:LI) (rows:LL) (signs:LI) (_:vs=[.ref x,.ref t,.int fg]) (_:Og H C x r b lo ks) (_:bG H m r g wide rows signs) (_:aC many wide rows) (_:many<=60) (_:H t=some (.tup (ps.map V.int))) (_:ps.length<=20) (_:(∀ p∈ps,0<=p/\p<(many:Int))) (_:(1<=b/\b<=20)) (_:(0<lo/\lo<=100000)) (_:(∀ f∈eD fg b lo,0<=f/\f<(wide:Int))) (_:∀ (T:Qo) (H':Hp),ay H H'->H' T=some (.tup ((iX rows ps (eD fg b lo) many).map V.int))->Q #[249] H')
inductive EH (C:Qo) (vs:List V) (H:Hp) (Q:VK) (E:XK):Prop
 | mk (x t r:Qo) (b lo:Int) (ks ps:LI) (_:vs=[.ref x,.ref t]) (_:Og H C x r b lo ks) (_:H t=some (.tup (ps.map V.int))) (_:ps.length<=1000) (_:∀ H':Hp,ay H H'->Q (.int (if (ps.map fun p=>decide (p∈ks)).any id=true then 1 else 0)) H')
section
theorem fy:aE ["self","place","figure","reached","part","whole"] ["self","place","figure"] (ar hV):=cV #[3]
theorem oM:aU ["self","place","figure","reached","part","whole"] (ar hV) ["here","self","whole"] [none,some 0,some 5] ⟨.function,[#[48],#[250],("self",.free),("whole",.free)],false,false,[]⟩:=mz #[3]
theorem Cr:aE ["self","place"] ["self","place"] (ar hU):=cV #[3]
theorem oK:aU ["self","place"] (ar hU) ["here","self"] [none,some 0] ⟨.function,[#[48],#[250],("self",.free)],false,false,[]⟩:=mz #[3]
theorem Tg(F:bL K "step" "Choosing.step" hV dV f fd)(cc:abX K C)(tW:bQ P w K mg base "with_part" 1 ["figure","base","below","part"] [] R6)(aB:mg "range" = none)(aQ:mg "tuple" = none)(EV:mg "sorted" = none)(BU:mg "set" = none):bw P w K mg base eS 2 f fd ["self","place","figure"] (EI C):=by
 refine F.ok fy #[6] #[1]
 ·obtain⟨x,t,m,r,g,b,many,wide,lo,fg,ks,ps,rows,signs,rfl,_⟩:=h
  rfl
 obtain⟨x,t,m,r,g,b,many,wide,lo,fg,ks,ps,rows,signs,rfl,CH,M,R,n1,ht,lp,hp,⟨b0,b1⟩,⟨l0,l1⟩,hf,k⟩:=h
 obtain⟨dx,D,hx,hD⟩:=CH.ob
 exists 41
 refine⟨_,(ah (aD (i:=3) fy.nd (cX af))
   (ah (bq PassesOwn.never rfl (br rfl aB (aa #[66] af)) (aL (i:=4) fy.nd) (ah (aD (i:=5) fy.nd (bE tW hr (aa (pv 2) (aa #[66] (aa #[66] #[106])))))
   (ak (bJ (fc Yj XO XQ Hg (pv 3) (aa (cT rfl oM (ik (pv 1)) (fun _ _ _ _=>(aL (i:=0) oM.nd)) (fun _ _ _ _=>(aF (Bz K) (aF (Bz K) (Rz K (pv 1) rfl) (pv 0) #[12]) (pv 2) #[12]))) af))))))
   (ak (aJ (aM aW #[38] aQ bW (aa (az (HL rfl) #[38] EV Sj (aa (aM (rL rfl) #[38] BU DP #[107]) af)) af)))))),?_⟩
 exists 0
 exists 22
 exists 82
 refine⟨_,rfl,x,C,dx,_,_,rfl,sL _ _ hx,cc.cl,cc.nb,rfl,(b:Int),rfl,by omega,by omega,?_⟩
 refine cb (fun i σ' H'=>∃ v1 v2,σ'=[some #[180],some (.ref t),some (.int fg),some #[285],v1,v2]/\ay H H'/\H' L=some (.lst ((oX rows ps ((eD fg b lo).take i)).map V.int))) ⟨none,none,rfl,sL,ae⟩ ?_ ?_
 ·rintro i σ' H1 hi ⟨v1,v2,rfl,s1,EY⟩
  rw[jB]at hi
  have OO:=s1 _ _ hx
  obtain⟨w0,ew⟩:∃ w0,pd fg b lo (0+(i:Int))=w0:=⟨_,rfl⟩
  have ei:(eD fg b lo).take (i+1)=(eD fg b lo).take i++[w0]:=by
   unfold eD
   rw[<- Qa,<- Qa,QU,QU,ZI #[0],ZI #[0],JI,jD,<- ew,JJ]
   rfl
  have hw:w0∈eD fg b lo:=by
   rw[<- ew,JJ]
   exact jN.mpr ⟨i,je.mpr hi,rfl⟩
  obtain⟨f0,f1⟩:=hf w0 hw
  have ll:(oX rows ps ((eD fg b lo).take i)).length<=400:=by
   rw[AV,jR]
   exact jk (ZN (jk (Nat.min_le_left _ _) (show i<=20 by omega)) lp) #[13]
  exists _,rfl,_,rfl,x,C,dx,_,_,rfl,OO,cc.cl,cc.nb,rfl,_,rfl,x,C,dx,_,_,rfl,OO,cc.cl,cc.nl,rfl,_,rfl,fg,(b:Int),lo,0+(i:Int),rfl,⟨by omega,by omega⟩,⟨l0,l1⟩
  rw[ew]
  exists _,rfl,.inl ⟨rfl,_,bS EY⟩,_,rfl,t,rfl,⟨_,bV (s1 _ _ ht)⟩
  refine mx (K:=K) (xs:=ps.map V.int) (fun D j ys H'=>ay H1 H'/\ys=((ps.take j).map fun p=>stepI rows p w0).map V.int) #[21] (fun D j ys H' _ ⟨e,_⟩=>bV (e _ _ (s1 _ _ ht))) ?_ ?_
  ·rintro D j y ys H2 Q' hD hj hy ⟨s2,rfl⟩ k'
   exists 64
   have lj:=(fK hz).1
   obtain⟨z0,z1⟩:=hp z (oz hz)
   have IA:=s1.trans s2
   obtain⟨ra,rr,e1,e2,e3⟩:=oY (hA.same fun a ys e=>IA _ _ e) R z0 z1 f0 f1
   exists _,rfl,x,C,dx,_,_,rfl,IA _ _ hx,cc.cl,cc.nr,rfl,_,rfl,r,_,_,_,rfl,rfl,bV (IA _ _ mH),e1,_,rfl,ra,_,_,_,rfl,rfl,bV e2,e3
   refine k' _ _ hy #[57] ⟨au s2 hD,?_⟩
   rw[jY,hz,jD,jD]
   rfl
  ·rintro D ys H2 hD hy ⟨s2,rfl⟩
   rw[aO,jV]at hy
   have nDL:L≠D:=ao EY hD
   refine⟨L,D,_,_,rfl,rfl,s2 _ _ EY,hy,small (by rw[aO,aO,aO];omega),?_⟩
   exists _,_,rfl,au (s1.trans s2) hL
   rw[ae,ei,MH,jD]
 ·rintro σ' H1 ⟨v1,v2,rfl,s1,EY⟩
  rw[jB,Jr (by unfold eD;simp)]at EY
  obtain⟨ns,en⟩:∃ ns,oX rows ps (eD fg b lo)=ns:=⟨_,rfl⟩
  have hns:∀ q,q∈ns↔∃ p∈ps,∃ f∈eD fg b lo,stepI rows p f=q:=fun q=>by rw[<- en];exact Pk
  have tG:∀ q∈ns,0<=q/\q<(many:Int):=fun q hq=>by
   obtain⟨p,BV,fg',T9,e⟩:=(hns q).mp hq
   rw[<- e]
   exact fU R (hp p BV).1 (hp p BV).2 (hf _ T9).1 (hf _ T9).2
  have lw:(eD fg b lo).length=b:=by unfold eD;simp
  have ll:ns.length<=400:=by
   rw[<- en,AV,lw]
   exact jk (ZN b1 lp) #[13]
  rw[en]at EY
  have ar5:(aK ns).length<=many:=bM many (sX ns) fun q hq=>tG q (dk.mp hq)
  refine⟨_,rfl,L,ns,rfl,EY,by omega,fun S hS=>⟨S,aK ns,rfl,ae,by omega,fun l ms hl pm srt=>⟨l,_,rfl,.inl ⟨bS ae,fun T hT=>?_⟩⟩⟩⟩
  refine k T _ (s1.trans ((aj hS _).trans ((aj hl _).trans (aj hT _)))) ?_
  rw[ae,MS srt (pm.nodup_iff.mpr (sX ns)) fun q=>?_]
  rw[pm.mem_iff,dk]
  exact⟨fun h=>⟨tG q h,(hns q).mp h⟩,fun h=>(hns q).mpr h.2⟩
theorem Tf(F:bL K "sign" "Choosing.sign" hU dV f fd)(cc:abX K C)(abK:mg "any" = none):bw P w K mg base eS 1 f fd ["self","place"] (EH C):=by
 refine F.ok Cr #[6] #[1]
 ·obtain⟨x,t,r,b,lo,ks,ps,rfl,_⟩:=h
  rfl
 obtain⟨x,t,r,b,lo,ks,ps,rfl,CH,ht,lp,k⟩:=h
 obtain⟨dx,D,hx,hD⟩:=CH.ob
 exists 98
 refine⟨_,(ak (aJ (aaZ (eJ (az (V2 rfl) #[38] abK ae5 (aa (cT rfl oK (ik (pv 1)) (fun _ _ _ _=>(aL (i:=0) oK.nd)) (fun _ _ _ _=>(age (Pd hu (pv 0) (Rz K (pv 1) rfl)) #[60]))) af))) aq aq))),?_⟩
 exists 0
 exists _,rfl,t,rfl,⟨_,bV ht⟩
 refine mx (K:=K) (xs:=ps.map V.int) (fun D j ys H'=>ay H H'/\ys=((ps.take j).map fun p=>decide (p∈ks)).map V.bl) #[21] (fun D j ys H' _ ⟨e,_⟩=>bV (e _ _ ht)) ?_ ?_
 ·rintro L j y ys H2 Q' hL hj hy ⟨s2,rfl⟩ k'
  exists 64
  exists _,rfl,_,rfl,x,C,dx,_,_,rfl,s2 _ _ hx,cc.cl,cc.nw,rfl,D,_,rfl,eV.k (k:=Sum.inl z) (s2 _ _ hD)
  refine k' _ _ hy #[57] ⟨au s2 hL,?_⟩
  rw[jY,hz,jD,jD,sS]
  rfl
 ·rintro L ys H2 hL hy ⟨s2,rfl⟩
  rw[aO,jV]at hy
  exists L,_,rfl,bS hy,_,rfl
  have kk:=k H2 s2
  cases c:(ps.map fun p=>decide (p∈ks)).any id with
  | true =>
   rw[c,if_pos rfl]at kk
   exact oU kk
  | false =>
   rw[c,if_neg #[13]]at kk
   exact lQ kk
end
theorem Ij{l r:Int}(l0:0<l)(r0:0<=r)(r1:r<l):(r+l*x)%l=r/\(r+l*x) / l=x:=by
 refine⟨?_,?_⟩
 ·rw[Int.add_mul_emod_self_left]
  exact Int.emod_eq_of_lt r0 r1
 ·rw[Int.add_mul_ediv_left _ _ #[0],Zh r0 r1,JJ]
theorem IT{g p:Int}(l0:0<lo)(p0:0<=p)(p1:p<b):cA (pd g b lo p) b lo=g:=by
 have b0:0<b:=by omega
 have m0:0<=g%lo:=Jx _ #[0]
 have m1:g%lo<lo:=Jk _ l0
 have e1:pd g b lo p=g%lo+lo*(p+b*(g / lo)):=by
  unfold pd
  rw[ZP,Jy,QZ]
 have h1:=Ij (x:=p+b*(g / lo)) l0 m0 m1
 have h2:=Ij (x:=g / lo) b0 p0 p1
 unfold cA
 rw[e1,h1.1,<- zM (show 0<=lo by omega),h1.2,h2.2]
 exact zy g lo
theorem IQ{f:Int}(l0:0<lo)(b0:0<b):pd (cA f b lo) b lo (f / lo%b)=f:=by
 have m0:0<=f%lo:=Jx _ #[0]
 have m1:f%lo<lo:=Jk _ l0
 have h1:=Ij (x:=f / (lo*b)) l0 m0 m1
 unfold pd
 unfold cA
 rw[h1.1,h1.2,<- zM (show 0<=lo by omega)]
 have e1:f / lo%b+b*(f / lo / b)=f / lo:=zy _ _
 have e2:f%lo+lo*(f / lo)=f:=zy _ _
 have e3:lo*(f / lo%b)+lo*b*(f / lo / b)=lo*(f / lo):=by rw[Jy,<- ZP,e1]
 omega
theorem Cw{g f:Int}{b:Nat}(l0:0<lo)(b0:0<b)(g0:0<=g)(g1:g<lo*M):f∈eD g b lo↔(0<=f/\f<lo*b*M)/\cA f b lo=g:=by
 unfold eD
 rw[jN]
 have lb0:0<lo*(b:Int):=QJ l0 #[0]
 constructor
 ·rintro⟨i,hi,rfl⟩
  have hi' := je.mp hi
  have m0:0<=g%lo:=Jx _ #[0]
  have m1:g%lo<lo:=Jk _ l0
  have q0:0<=g / lo:=ZJ g0 #[0]
  have q1:g / lo<M:=Zl l0 (by rw[zK];exact g1)
  have k0:0<=lo*(i:Int):=zR #[0] #[0]
  have k1:lo*(i:Int)<=lo*((b:Int)-1):=JR #[0] #[0]
  have k2:lo*((b:Int)-1)=lo*b-lo:=by rw[QK,zZ]
  have k3:0<=lo*(b:Int)*(g / lo):=zR #[0] q0
  have k4:lo*(b:Int)*(g / lo)<=lo*b*(M-1):=JR #[0] #[0]
  have k5:lo*(b:Int)*(M-1)=lo*b*M-lo*b:=by rw[QK,zZ]
  refine⟨⟨?_,?_⟩,IT l0 #[0] #[0]⟩
  ·unfold pd
   omega
  ·unfold pd
   omega
 ·rintro⟨⟨f0,f1⟩,rfl⟩
  have m0:0<=f / lo%(b:Int):=Jx _ #[0]
  have m1:f / lo%(b:Int)<b:=Jk _ #[0]
  obtain⟨n,hn⟩:=cZ m0
  refine⟨n,je.mpr #[0],?_⟩
  show pd (cA f b lo) b lo (n:Int)=f
  rw[<- hn]
  exact IQ l0 #[0]
theorem PX{f:Int}(l0:0<lo)(b0:0<b)(f0:0<=f)(f1:f<lo*b*M):0<=cA f b lo/\cA f b lo<lo*M:=by
 have m0:0<=f%lo:=Jx _ #[0]
 have m1:f%lo<lo:=Jk _ l0
 have lb:0<lo*b:=QJ l0 b0
 have q0:0<=f / (lo*b):=ZJ f0 #[0]
 have q1:f / (lo*b)<M:=Zl lb (by rw[zK];exact f1)
 have k0:0<=lo*(f / (lo*b)):=zR #[0] q0
 have k1:lo*(f / (lo*b))<=lo*(M-1):=JR #[0] #[0]
 have k2:lo*(M-1)=lo*M-lo:=by rw[QK,zZ]
 unfold cA
 omega
theorem rH(lo:Int)(b:Nat):DJ lo b=eD 0 b lo:=by
 unfold DJ eD
 refine ze fun i _=>?_
 show lo*(i:Int)=pd 0 b lo i
 unfold pd
 rw[Qb,Qc,Qj]
 omega
def oO(rows:LL)(b many:Nat)(lo:Int)(ps:LI)(f:Nat):LI:=iX rows ps (eD (f:Int) b lo) many
def EW(ks:LI)(ps:LI):Int:=if (ps.map fun p=>decide (p∈ks)).any id=true then 1 else 0
structure Sf(b n wd N at_:Nat):Prop where
 hb:2<=b/\b<=20
 hn:1<=n/\n<=20
 wl:1<=wd/\wd<=400
 nl:1<=N/\N<=400
 ew:wd=b^n
 en:N=b^(n-1)
 e2:(wd:Int)=(b:Int)^at_*(b:Int)*(b:Int)^(n-1-at_)
 f2:(N:Int)=(b:Int)^at_*(b:Int)^(n-1-at_)
 l2:0<(b:Int)^at_/\(b:Int)^at_<=100000
 n2:at_<n
theorem aby{b at_:Nat}(hb:2<=b/\b<=20)(hn:1<=n/\n<=20)(h16:b^n<=400)(h2:at_<n):Sf b n (b^n) (b^(n-1)) at_:=by
 have b0:0<b:=by omega
 have cst:∀ k:Nat,((b^k:Nat):Int)=(b:Int)^k:=fun k=>by push_cast;rfl
 have low:∀ k:Nat,k<=n->b^k<=400:=fun k hk=>jk (zE b0 hk) h16
 have pw:(b:Int)^n=(b:Int)^at_*(b:Int)*(b:Int)^(n-1-at_):=by
  rw[<- zJ,<- QL]
  congr 1
  omega
 have pm:(b:Int)^(n-1)=(b:Int)^at_*(b:Int)^(n-1-at_):=by
  rw[<- QL]
  congr 1
  omega
 refine⟨hb,hn,⟨QM b0,h16⟩,⟨QM b0,low _ #[0]⟩,rfl,rfl,by rw[cst];exact pw,by rw[cst];exact pm,?_,h2⟩
 have:=low at_ #[0]
 have p:=QM (n:=at_) b0
 rw[<- cst]
 omega
theorem BR{g:Int}{b:Nat}(l0:0<lo)(b0:0<b)(ew:(wide:Int)=lo*b*M)(g0:0<=g)(g1:g<lo*M):∀ f∈eD g b lo,0<=f/\f<(wide:Int):=fun f hf=>by
 rw[ew]
 exact((Cw (M:=M) l0 b0 g0 g1).mp hf).1
structure rF(b N many:Nat)(lo:Int)(rows:LL)(signs:LI)(ax:LL)(signs':LI)(n:Nat):Prop where
 ex:∃ (ks:LI) (ps mD:LL),K8 rows signs lo b many ks/\FF #[206] [0] N ps mD/\mD.length=ps.length/\dJ N mD ax (ps.map (EW ks)) signs'/\n=ps.length
inductive EK (CT:Qo) (vs:List V) (H:Hp) (Q:VK) (E:XK):Prop
 | mk (m r g:Qo) (many wd N most b n at_:Nat) (rows:LL) (signs:LI) (_:vs=[.ref m,.int b,.int n,.int at_,.int most]) (_:bG H m r g wd rows signs) (_:aC many wd rows) (_:signs.length=many) (_:(1<=many/\many<=20)) (_:Sf b n wd N at_) (_:(1<=most/\most<=900)) (_:(∀ (m' r' g':Qo) (ax:LL) (signs':LI) (k:Nat) (H':Hp),ay H H'->bG H' m' r' g' N ax signs'->rF b N many #[14] rows signs ax signs' k->k<=most->Q (.ref m') H')) (_:∀ (d:Qo) (H':Hp) (ps:LL),ay H H'->H' d=some (.xd [("most",.int most)])->ps.Nodup->(∀ p∈ps,∃ v,Am N v/\Co #[79] [0] v=p)->most<ps.length->E (.ref CT) (some d) H')
theorem V4{b:Nat}{f:Nat}:(∀ p∈oO rows b many lo ps f,0<=p/\p<(many:Int))/\(oO rows b many lo ps f).length<=many:=
 ⟨fun p hp=>(fx.mp hp).1,Hh ..⟩
theorem ab9{x m r g:Qo}{b at_:Nat}(Z:Sf b n wd N at_)(R:aC many wd rows)(n1:1<=many/\many<=20):
  Wlk C x N (fun H=>Og H C x r b #[14] ks/\bG H m r g wd rows signs) (fun u=>(∀ p∈u,0<=p/\p<(many:Int))/\u.length<=20) #[79] [0] (EW ks) Cs (EI C) (EH C) where
 same:=fun H H' s h=>⟨h.1.same s,h.2.same fun a xs e=>s _ _ e⟩
 ob:=fun H h=>by
  obtain⟨dx,D,h1,_⟩:=h.1.ob
  exact⟨dx,_,h1,rfl,rfl,rfl⟩
 begin:=fun H Q E h q=>⟨x,rfl,fun t H' s ht=>q t H' s ht⟩
 step:=fun H Q E bb u f fi e h hb o hf q=>by
  subst e
  refine⟨x,bb,m,r,g,b,many,wd,(b:Int)^at_,(f:Int),ks,u,rows,signs,rfl,h.1,h.2,R,by omega,hb,o.2,o.1,⟨by have:=Z.hb;omega,Z.hb.2⟩,Z.l2,BR (M:=(b:Int)^(n-1-at_)) Z.l2.1 (by have:=Z.hb;omega) Z.e2 #[0] #[279],fun T H' s hT=>q T H' s hT⟩
 sign:=fun H Q E bb u h hb o q=>⟨x,bb,r,b,(b:Int)^at_,ks,u,rfl,h.1,hb,by have:=o.2;omega,fun H' s=>q H' s⟩
 ok0:=⟨fun p hp=>by rw[jG.mp hp];omega,by show 1<=20;decide⟩
 okS:=fun u f o hf=>⟨V4.1,jk V4.2 n1.2⟩
section
theorem adC:aE ["machine","base","many","at","most"] ["machine","base","many","at","most"] (ar Pq):=cV #[3]
theorem Rx(F:bL K "some" "some" Pq dV f fd)(pz:P5 P w K mg base "Choosing" C 2 ["self","machine","base","at"] (MU C))(hZ:bQ P w K mg base "power_of" 1 ["base","times"] [] IE)(A2:tQ P w K mg base "grown" 3 ["walk","wide","most"] [] (MV C CT Cs (EI C) (EH C)))(Dj:bQ P w K mg base "least" 5 ["machine"] [] (RW K)):bw P w K mg base (P4 P w) 6 f fd ["machine","base","many","at","most"] (EK CT):=by
 refine F.ajk adC #[6] #[1]
 ·obtain⟨m,r,g,many,wd,N,most,b,n,at_,rows,signs,rfl,_⟩:=h
  rfl
 obtain⟨m,r,g,many,wd,N,most,b,n,at_,rows,signs,rfl,M,R,ls,n1,Z,m1,k,kx⟩:=h
 exists _,(ak (aJ (aes Dj hr (aa (agf A2 hr Tx (aa (aa1 pz hr (aa (pv 0) (aa (pv 1) #[107]))) (aa (aes hZ hr (aa (pv 1) (aa (aS Il (pv 2) aq) af))) #[106]))) af))))
 exists 0
 have hb:=Z.hb
 have hn:=Z.hn
 refine⟨_,rfl,_,rfl,_,rfl,fun x dx hx hdx ne=>?_⟩
 have s2:ay H (upd (upd H dx (.own x)) x (.ins C dx [])):=fun b u e=>by rw[ag (ao e hx),ag (ao e hdx)];exact e
 have lt:∀ i:Nat,i<b->(b:Int)^at_*(i:Int)<(wd:Int):=fun i hi=>by
  have:=(BR (M:=(b:Int)^(n-1-at_)) (g:=0) Z.l2.1 #[0] Z.e2 #[0] (by rw[<- Z.f2];have:=Z.nl;omega) ((b:Int)^at_*(i:Int)) (by rw[<- rH];exact jN.mpr ⟨i,je.mpr hi,rfl⟩)).2
  exact this
 refine⟨x,dx,m,r,g,b,at_,many,wd,rows,signs,rfl,ae,M.same (fun b xs e=>s2 _ _ e),R,ls,⟨n1.1,by omega⟩,Z.wl,⟨by omega,by omega⟩,by have:=Z.n2;omega,Z.l2,lt,fun H2 ks kp C2 W2=>⟨rfl,?_⟩⟩
 have s3:ay H H2:=fun b u e=>kp b u (ao e hx) (s2 _ _ e)
 have e1:(n:Int)-1=((n-1:Nat):Int):=by omega
 exists _,rfl,_,rfl,_,_,rfl,rfl,(b:Int),n-1,by show [V.int _,V.int ((n:Int)-1)]=_;rw[e1],⟨by omega,by omega⟩,by omega,_,rfl
 have eN:(b:Int)^(n-1)=(N:Int):=by rw[Z.en];push_cast;rfl
 refine⟨x,N,most,_,_,_,[0],EW ks,by show [V.ref x,V.int ((b:Int)^(n-1)),V.int (most:Int)]=_;rw[eN],⟨C2,M.same fun a xs e=>s3 _ _ e⟩,ab9 Z R n1,by have:=Z.nl;omega,⟨m1.1,by omega⟩,fun m2 r2 g2 eP ps H3 s4 M3 G el le=>?_,fun d H3 ps s4 hd nd re lt=>kx d H3 ps (s3.trans s4) hd nd re lt⟩
 refine⟨m2,r2,g2,ps.length,N,eP,ps.map (EW ks),rfl,M3,?_,jW _,⟨?_,by omega⟩,by have:=Z.nl;omega,fun m3 r3 g3 ajv agr H4 s5 M4 LO=>k m3 r3 g3 ajv agr ps.length H4 ((s3.trans s4).trans s5) M4 ⟨ks,ps,eP,W2,G,el,LO,rfl⟩ le⟩
 ·rw[<- el]
  exact G.ok el
 ·have:=(fK G.hd).1
  omega
end
inductive RZ (K:Yh) (vs:List V) (H:Hp) (Q:VK) (E:XK):Prop
 | mk (a:Qo) (k:Int) (ns:LI) (_:vs=[.ref a,.int k]) (_:pk K H a #[37]) (_:ns.length<=63) (_:0<=k) (_:k<1000000) (_:∀ v:Int,0<=v->v<2147483399->Q (.int v) H)
section
theorem pb:aE ["_law_script","_law_k","_law_number_here"] ["_law_script","_law_k"] (ar rn):=cV #[3]
theorem af7(F:bL K "_law_number" "_law_number" rn dV f fd)(aN:mg "len" = none):bw P w K mg base eS 1 f fd ["_law_script","_law_k"] (RZ K):=by
 refine F.ok pb #[6] #[1]
 ·obtain⟨a,k,ns,rfl,_⟩:=h
  rfl
 obtain⟨a,k,ns,rfl,hS,Fp,h0,h1,q⟩:=h
 have hl:#[37].length=ns.length:=jW _
 refine⟨_,(ah (cK (bK Mr (pv 1) #[19] (bz _)) (ak (aJ (aS de #[215] aq))) bB)
   (ah (aD (i:=2) pb.nd (aS dP (aS dP (aS fb (aS fb aq (pv 1)) (pv 1)) (aS fb aq (pv 1))) aq))
   (ah (cK (bK Mq #[19] aq (bz _)) (ak (aD (i:=2) pb.nd (aS fb (pv 2) (aS dP (aS de (aF cY (pv 0) (aS de (pv 1) #[19]) #[12]) aq) aq)))) bB)
   (ak (aJ (aS de (aS fb (pv 2) aq) aq)))))),?_⟩
 exists 0
 have fin:∀ c:Int,Q (.int (c*40692%2147483399)) H:=fun c=>by
  have r:=fM (a:=c*40692) (b:=2147483399) #[13]
  exact q _ r.1 r.2
 refine⟨_,rfl,_,rfl,a,_,rfl,.inl hS,_,_,rfl,rfl,_,rfl,rP #[53] #[53]⟩
 ·rw[hl]at c
  have r:=fM (a:=ns.getD k.toNat 0) (b:=1000000007) #[13]
  exact⟨_,rfl,_,rfl,a,_,_,_,rfl,rfl,hS,cF h0 c,_,_,rfl,rfl,(by show(0:Int)<1000000007;decide),q _ r.1 #[0]⟩
 exists _,rfl,_,_,rfl,rfl,.inl ⟨by decide,by decide⟩,_,rfl,_,_,rfl,rfl,.inr ⟨by omega,by omega⟩,_,rfl,_,_,rfl,rfl,.inl ⟨by decide,by decide⟩,_,_,rfl,rfl,_,_,rfl,rfl
 exists _,rfl,a,_,rfl,.inl hS,_,_,rfl,rfl,_,rfl
 refine rP #[53] #[53]
 ·have c':(0:Int)<((#[37].length:Nat):Int):=c
  have m0:=Jx k (show((#[37].length:Nat):Int)≠0 by omega)
  have m1:=Jk k c'
  have m2:=fM (a:=ns.getD (k%((#[37].length:Nat):Int)).toNat 0) (b:=65521) #[13]
  refine⟨_,rfl,_,rfl,_,rfl,_,rfl,a,_,rfl,.inl hS,_,_,rfl,rfl,c',a,_,_,_,rfl,rfl,hS,cF m0 (by rw[<- hl];exact m1),_,_,rfl,rfl,(by show(0:Int)<65521;decide),_,_,rfl,rfl,_,_,rfl,rfl,.inr ⟨by omega,by omega⟩,?_⟩
  exact⟨_,rfl,_,_,rfl,rfl,.inr ⟨by decide,by decide⟩,_,_,rfl,rfl,(by show(0:Int)<2147483399;decide),fin _⟩
 ·exact⟨_,rfl,_,_,rfl,rfl,.inr ⟨by decide,by decide⟩,_,_,rfl,rfl,(by show(0:Int)<2147483399;decide),fin _⟩
end
theorem acZ{f:Nat->Int}{t:Nat}(h:t<many):((jZ many).map f).getD t 0=f t:=by simp[h]
def CF(rows:LL)(q:Int):Nat->Int
 | 0=>q
 | k+1=>stepI rows (CF rows q k) 0
theorem Ed(R:aC many wide rows)(w1:1<=wide)(q0:0<=q)(q1:q<(many:Int)):∀ k,0<=CF rows q k/\CF rows q k<(many:Int)
 | 0=>⟨q0,q1⟩
 | k+1=>by
  have h:=Ed R w1 q0 q1 k
  exact cS R h.1 h.2 #[13] #[0]
theorem Bw(rows:LL)(q:Int):∀ k,CF rows (stepI rows q 0) k=CF rows q (k+1)
 | 0=>rfl
 | k+1=>by
  show stepI rows (CF rows (stepI rows q 0) k) 0=stepI rows (CF rows q (k+1)) 0
  rw[Bw rows q k]
theorem G3(h:CF rows q i=CF rows q j):∀ t,CF rows q (i+t)=CF rows q (j+t)
 | 0=>h
 | t+1=>by
  show stepI rows (CF rows q (i+t)) 0=stepI rows (CF rows q (j+t)) 0
  rw[G3 h t]
theorem OS(R:aC many wide rows)(w1:1<=wide)(q0:0<=q)(q1:q<(many:Int)):∃ c,1<=c/\c<=many/\∀ t,CF rows q (many+c+t)=CF rows q (many+t):=by
 have ex:∃ i j,i<j/\j<=many/\CF rows q i=CF rows q j:=by
  refine Classical.byContradiction fun no=>?_
  have nd:((jZ (many+1)).map (CF rows q)).Nodup:=by
   refine zh.mpr fun i j hi hj hij=>?_
   intro e
   rw[aO,jq]at hi hj
   simp at e
   exact no ⟨i,j,hij,by omega,e⟩
  have:=bM many nd (fun x hx=>by
   obtain⟨i,_,rfl⟩:=jN.mp hx
   exact Ed R w1 q0 q1 i)
  rw[aO,jq]at this
  omega
 obtain⟨i,j,hij,hj,e⟩:=ex
 refine⟨j-i,by omega,by omega,fun t=>?_⟩
 have:=G3 e (many-i+t)
 rw[show i+(many-i+t)=many+t from by omega,show j+(many-i+t)=many+(j-i)+t from by omega]at this
 exact this.symm
def L9(rows:LL)(q:Int)(n:Nat):Nat->Int
 | 0=>CF rows q n
 | k+1=>if CF rows q (n+k+1)<L9 rows q n k then CF rows q (n+k+1)else L9 rows q n k
theorem BE{rows:LL}{q:Int}{n:Nat}:∀ {k i:Nat},i<=k->L9 rows q n k<=CF rows q (n+i)
 | 0,i,h=>by
  have:i=0:=by omega
  subst this
  exact ZO _
 | k+1,i,h=>by
  simp only[L9]
  rcases Nat.lt_or_eq_of_le h with z|z
  ·have:=BE (rows:=rows) (q:=q) (n:=n) (show i<=k by omega)
   split
   ·omega
   ·exact this
  ·subst z
   have e:n+(k+1)=n+k+1:=by omega
   rw[e]
   split<;>omega
theorem Dp{rows:LL}{q:Int}{n:Nat}:∀ k:Nat,∃ i,i<=k/\L9 rows q n k=CF rows q (n+i)
 | 0=>⟨0,jF _,rfl⟩
 | k+1=>by
  simp only[L9]
  split
  ·exact⟨k+1,jF _,rfl⟩
  ·obtain⟨i,hi,e⟩:=Dp (rows:=rows) (q:=q) (n:=n) k
   exact⟨i,by omega,e⟩
def rX(rows:LL)(n:Nat)(q:Int):Int:=L9 rows q n n
theorem abh(R:aC many wide rows)(w1:1<=wide)(q0:0<=q)(q1:q<(many:Int)):0<=rX rows many q/\rX rows many q<(many:Int):=by
 obtain⟨i,_,e⟩:=Dp (rows:=rows) (q:=q) (n:=many) many
 unfold rX
 rw[e]
 exact Ed R w1 q0 q1 _
theorem Pl(R:aC many wide rows)(w1:1<=wide)(q0:0<=q)(q1:q<(many:Int)):rX rows many (stepI rows q 0)=rX rows many q:=by
 obtain⟨c,c1,c2,hc⟩:=OS R w1 q0 q1
 unfold rX
 refine Int.le_antisymm ?_ ?_
 ·obtain⟨j,hj,e⟩:=Dp (rows:=rows) (q:=q) (n:=many) many
  rw[e]
  by_cases z:j=0
  ·subst z
   have:=BE (rows:=rows) (q:=stepI rows q 0) (n:=many) (k:=many) (i:=c-1) #[0]
   rw[Bw,show many+(c-1)+1=many+c+0 from by omega,hc 0]at this
   exact this
  ·have:=BE (rows:=rows) (q:=stepI rows q 0) (n:=many) (k:=many) (i:=j-1) #[0]
   rw[Bw,show many+(j-1)+1=many+j from by omega]at this
   exact this
 ·obtain⟨i,hi,e⟩:=Dp (rows:=rows) (q:=stepI rows q 0) (n:=many) many
  rw[e,Bw]
  by_cases z:i=many
  ·have:=BE (rows:=rows) (q:=q) (n:=many) (k:=many) (i:=many+1-c) #[0]
   rw[<- hc (many+1-c)]at this
   rw[show many+i+1=many+c+(many+1-c)from by omega]
   exact this
  ·have:=BE (rows:=rows) (q:=q) (n:=many) (k:=many) (i:=i+1) #[0]
   rw[show many+(i+1)=many+i+1 from by omega]at this
   exact this
def lX(many:Nat)(rows:LL)(signs:LI):Prop := ∀ q:Int,0<=q->q<(many:Int)->signs.getD (stepI rows q 0).toNat 0=signs.getD q.toNat 0
theorem TQ{drawn:LI}(R:aC many wide rows)(w1:1<=wide)(e:signs=(jZ many).map fun q:Nat=>drawn.getD (rX rows many q).toNat 0):lX many rows signs:=fun q q0 q1=>by
 have h:=cS R q0 q1 (show(0:Int)<=0 by decide) (show(0:Int)<wide by omega)
 have m1:∀ x:Int,0<=x->x<(many:Int)->signs.getD x.toNat 0=drawn.getD (rX rows many x).toNat 0:=fun x x0 x1=>by
  have hx:x.toNat<many:=by omega
  rw[e,acZ hx,show((x.toNat:Nat):Int)=x from by omega]
 rw[m1 _ h.1 h.2,m1 _ q0 q1,Pl R w1 q0 q1]
inductive abt (K:Yh) (vs:List V) (H:Hp) (Q:VK) (E:XK):Prop
 | mk (r:Qo) (q:Int) (many wide:Nat) (cN:List Qo) (rows:LL) (_:vs=[.ref r,.int q]) (_:H r=some (.lst #[44])) (_:aH H cN rows) (_:aC many wide rows) (_:1<=wide) (_:many<=1000) (_:#[192]) (_:Q (.int (rX rows many q)) H)
section
theorem eh:aE ["_law_rows","_law_here","_law_k","_law_lowest"] ["_law_rows","_law_here"] (ar wz):=cV #[3]
theorem ade(F:bL K "_law_rest" "_law_rest" wz dV f fd)(aN:mg "len" = none)(aB:mg "range" = none)(abM:mg "min" = none):bw P w K mg base eS 1 f fd ["_law_rows","_law_here"] (abt K):=by
 refine F.ok eh #[6] #[1]
 ·obtain⟨r,q,many,wide,cN,rows,rfl,_⟩:=h
  rfl
 obtain⟨r,q,many,wide,cN,rows,rfl,mH,hA,R,w1,n1,⟨q0,q1⟩,k⟩:=h
 have lr:#[44].length=many:=by rw[aO,hA.length,R.len]
 refine⟨_,(ah (bq PassesOwn.never rfl #[234] (aL (i:=2) eh.nd) (ak (aD (i:=1) eh.nd (aF aI #[215] aq #[12]))))
   (ah (aD (i:=3) eh.nd (pv 1))
   (ah (bq PassesOwn.never rfl #[234] (aL (i:=2) eh.nd) (ah (aD (i:=1) eh.nd (aF aI #[215] aq #[12]))
   (ak (aD (i:=3) eh.nd (az (Sm rfl) #[38] abM ae7 (aa (pv 3) #[81]))))))
   (ak (aJ (pv 3)))))),?_⟩
 exists 0
 have stp:∀ (x:Int),0<=x->x<(many:Int)->∃ (ra:Qo) (rr:LI),Aj #[44] x=some (.ref ra)/\H ra=some (.tup (rr.map V.int))/\Aj (rr.map V.int) 0=some (.int (stepI rows x 0)):=fun x x0 x1=>oY hA R x0 x1 #[13] #[0]
 exists 55
 refine HR (t:=rZ _ _ _) (fun σ' H'=>∃ v,σ'=[some (.ref r),some (.int (CF rows q many)),v,none]/\H'=H) ?_ (fun iK=>?_)
 rotate_left
 ·exists _,rfl,r,_,rfl,.inl (bS mH)
  rw[lr]
  refine⟨(many:Int),rfl,by omega,by omega,cb (fun i σ' H'=>∃ v,σ'=[some (.ref r),some (.int (CF rows q i)),v,none]/\H'=H) ⟨none,rfl,rfl⟩ ?_ ?_⟩
  ·exists 85
   have hx:=Ed R w1 q0 q1 i
   obtain⟨ra,rr,e1,e2,e3⟩:=stp _ hx.1 hx.2
   exact⟨_,rfl,_,rfl,r,_,_,_,rfl,rfl,bS mH,e1,ra,_,_,_,rfl,rfl,bV e2,e3,_,rfl,rfl⟩
  ·exists 86
   rw[jB]
   exact iK _ _ ⟨v,rfl,rfl⟩
 exists 86
 exists _,rfl
 exists 55
 refine HR (t:=rZ _ _ _) (fun σ' pf=>∃ v x,σ'=[some (.ref r),x,v,some (.int (rX rows many q))]/\pf=H') ?_ (fun iK=>?_)
 rotate_left
 ·exists _,rfl,r,_,rfl,.inl (bS mH)
  rw[lr]
  refine⟨(many:Int),rfl,by omega,by omega,cb (fun i σ' pf=>∃ v,σ'=[some (.ref r),some (.int (CF rows q (many+i))),v,some (.int (L9 rows q many i))]/\pf=H') ⟨v,rfl,rfl⟩ ?_ ?_⟩
  ·rintro i σ' pf hi ⟨v,rfl,rfl⟩
   have hx:=Ed R w1 q0 q1 (many+i)
   obtain⟨ra,rr,e1,e2,e3⟩:=stp _ hx.1 hx.2
   exists _,rfl,_,rfl,r,_,_,_,rfl,rfl,bS mH,e1,ra,_,_,_,rfl,rfl,bV e2,e3
   exact⟨_,rfl,_,rfl,_,_,rfl,some (.int (0+i)),rfl,rfl⟩
  ·rintro σ' pf ⟨v,rfl,rfl⟩
   rw[jB]
   exact iK _ _ ⟨_,_,rfl,rfl⟩
 rintro σ' pf ⟨v,x,rfl,rfl⟩
 exact⟨_,rfl,k⟩
end
def In4(z:Int):Prop:=z=0\/z=1\/z=2\/z=999999
theorem LV:∀ {ys:List V},(∀ y∈ys,∃ z,y=V.int z/\In4 z)->∃ drawn:LI,ys=drawn.map V.int/\∀ z∈drawn,In4 z
 | [],_=>⟨[],rfl,(fun z h=>by cases h)⟩
 | y :: r,h=>by
  obtain⟨z,e,hz⟩:=h y jE
  obtain⟨d,ed,hd⟩:=LV (ys:=r) fun y' h'=>h y' (jJ _ h')
  exact⟨z :: d,by rw[e,ed];rfl,fun x hx=>by
   rcases jU.mp hx with q|q
   ·rw[q];exact hz
   ·exact hd x q⟩
inductive RX (K:Yh) (vs:List V) (H:Hp) (Q:VK) (E:XK):Prop
 | mk (l:Qo) (st:Int) (Ft:Bool) (many wide:Nat) (ns:LI) (_:vs=[.ref l,.int st,.int wide,.int many,.bl Ft]) (_:pk K H l #[37]) (_:ns.length<=63) (_:(0<=st/\st<10)) (_:(1<=many/\many<=6)) (_:(2<=wide/\wide<=100)) (_:∀ (m r g:Qo) (H':Hp) (rows:LL) (signs:LI),ay H H'->bG H' m r g wide rows signs->aC many wide rows->signs.length=many->lX many rows signs->Q #[73] H')
section
theorem cD:aE ["_law_script","_law_start","_law_wide_here","_law_many","_law_lost","_law_rows","_law_q","_law_row","_law_f","_law_number_here","_law_at","_law_drawn"] ["_law_script","_law_start","_law_wide_here","_law_many","_law_lost"] (ar fh):=cV #[3]
theorem pC:aU ["_law_script","_law_start","_law_wide_here","_law_many","_law_lost","_law_rows","_law_q","_law_row","_law_f","_law_number_here","_law_at","_law_drawn"] (ar fh) ["_law_q","_law_at","_law_script"] [none,some 10,some 0] ⟨.function,[#[48],("_law_q",.local),("_law_number",.globalImplicit),("_law_at",.free),("_law_script",.free)],false,false,[]⟩:=mz #[3]
theorem pD:aU ["_law_script","_law_start","_law_wide_here","_law_many","_law_lost","_law_rows","_law_q","_law_row","_law_f","_law_number_here","_law_at","_law_drawn"] (ar fh) ["_law_q","_law_drawn","_law_rows"] [none,some 11,some 5] ⟨.function,[#[48],("_law_q",.local),("_law_rest",.globalImplicit),("_law_drawn",.free),("_law_rows",.free)],false,false,[]⟩:=mz #[3]
theorem aaF(F:bL K "_law_machine" "_law_machine" fh dV f fd)(aV:bQ P w K mg base "_law_number" 1 ["_law_script","_law_k"] [] (RZ K))(tU:bQ P w K mg base "_law_rest" 1 ["_law_rows","_law_here"] [] (abt K))(aB:mg "range" = none)(aQ:mg "tuple" = none):
  bw P w K mg base eS 2 f fd ["_law_script","_law_start","_law_wide_here","_law_many","_law_lost"] (RX K):=by
 refine F.ok cD #[6] #[1]
 ·obtain⟨l,st,Ft,many,wide,ns,rfl,_⟩:=h
  rfl
 obtain⟨l,st,Ft,many,wide,ns,rfl,hS,Fp,⟨U3,Oe⟩,⟨m0,m1⟩,⟨w0,w1⟩,k⟩:=h
 refine⟨_,(ah (aD (i:=5) cD.nd (cX af))
   (ah (bq PassesOwn.never rfl (br rfl aB #[107]) (aL (i:=6) cD.nd) (ah (aD (i:=7) cD.nd (cX af))
   (ah (bq PassesOwn.never rfl (br rfl aB #[63]) (aL (i:=8) cD.nd) (ah (aD (i:=9) cD.nd (bE aV hr (aa (pv 0) (aa (aS dP (aS dP (pv 1) (aS fb (pv 6) (pv 2))) (pv 8)) af))))
   (ak (cK (PW.pt (Iu (wx (pv 4) (fun _=>rfl)) (Du (PW.pt (tH (bK lJ (pv 6) (aS Il (pv 3) aq) (bz _)) (wy (bK lJ (aS de (pv 9) aq) aq (bz _)))))))) (ak (bJ (fc Yj Yk Yl bD (pv 7) (aa (aS Il (pv 3) aq) af)))) (ak (bJ (fc Yj Yk Yl bD (pv 7) (aa (aS de (aS BG (pv 9) aq) (pv 3)) af))))))))
   (ak (bJ (fc Yj Yk Yl bD (pv 5) (aa (aM aW #[38] aQ bW (aa (pv 7) af)) af)))))))
   (ah (aD (i:=10) cD.nd (aS dP (pv 1) (aS fb (pv 3) (pv 2))))
   (ah (aD (i:=11) cD.nd (cT rfl pC (br rfl aB #[107]) (fun _ _ _ _=>(aL (i:=0) pC.nd)) (fun _ _ _ _=>(aF (Bx K) (cX (aa aq (aa aq (aa aq (aa aq (aa aq (aa aq af))))))) (aS de (bE aV hr (aa (pv 2) (aa (aS dP (pv 1) (pv 0)) af))) aq) #[12]))))
   (ak (aJ (cE (aa (pv 2) (aa #[151] (aa (aM aW #[38] aQ bW (aa (cT rfl pD (br rfl aB #[107]) (fun _ _ _ _=>(aL (i:=0) pD.nd)) (fun _ _ _ _=>(aF (Bx K) (pv 1) (bE tU hr (aa (pv 2) #[163])) #[12]))) af)) af)))))))))),?_⟩
 exists 0
 have hmw:many*wide+many<=700:=by
  have:=ZN m1 w1
  omega
 have prod:∀ i:Nat,i<=many->i*wide<=many*wide:=fun i hi=>Zo _ hi
 have ajq:∀ i:Nat,i<many->i*wide+wide<=many*wide:=fun i hi=>by
  have:=Zo wide hi
  rw[QE]at this
  exact this
 have cst:∀ i:Nat,((i:Int)*(wide:Int))=((i*wide:Nat):Int):=fun i=>by push_cast;rfl
 refine⟨#[24],fun R hR=>?_⟩
 exists 55
 refine dh (t:=rZ _ _ _) (fun σ' H'=>∃ (cN:List Qo) (rws:LL) (v1 v2 v3 v4:OV),σ'=[some #[202],some (.int st),some #[148],some (.int many),some (.bl Ft),some (.ref R),v1,v2,v3,v4,none,none]/\ay H H'/\H' R=some (.lst #[44])/\aH H' cN rws/\aC many wide rws) ?_ #[41]
 rotate_left
 ·refine⟨_,rfl,(many:Int),rfl,by omega,by omega,cb (fun i σ' pf=>∃ (cN:List Qo) (rws:LL) (v1 v2 v3 v4:OV),σ'=[some #[202],some (.int st),some #[148],some (.int many),some (.bl Ft),some (.ref R),v1,v2,v3,v4,none,none]/\ay H pf/\pf R=some (.lst #[44])/\aH pf cN rws /\
    (∀ r∈rws,r.length=wide)/\(∀ r∈rws,∀ v∈r,0<=v/\v<(many:Int))/\rws.length=i)
   ⟨[],[],none,none,none,none,rfl,aj hR _,ae,.nil,(fun r h=>by cases h),(fun r h=>by cases h),rfl⟩ ?_ ?_⟩
  ·rintro i σ' H3 hi ⟨cN,rws,v1,v2,v3,v4,rfl,hs3,SN,hA3,hl3,hv3,hn3⟩
   have hi':i<many:=by omega
   have ar0:cN.length=i:=by rw[hA3.length];exact hn3
   exists 73
   rw[z0]
   have pi:=ajq i hi'
   refine⟨#[24],fun W hW=>?_⟩
   have nRW:R≠W:=ao SN hW
   exists 55
   refine dh (t:=rZ _ _ _) (fun σ' pf=>∃ (row:LI) (v3 v4:OV),σ'=[some #[202],some (.int st),some #[148],some (.int many),some (.bl Ft),some (.ref R),some (.int i),some (.ref W),v3,v4,none,none]/\ay H3 pf/\pf W=some (.lst #[157])/\row.length=wide/\∀ v∈row,0<=v/\v<(many:Int)) ?_ (fun D' af5=>?_)
   rotate_left
   ·refine⟨_,rfl,(wide:Int),rfl,by omega,by omega,cb (fun j σ' pf=>∃ (row:LI) (v3 v4:OV),σ'=[some #[202],some (.int st),some #[148],some (.int many),some (.bl Ft),some (.ref R),some (.int i),some (.ref W),v3,v4,none,none]/\ay H3 pf/\pf W=some (.lst #[157])/\row.length=j/\∀ v∈row,0<=v/\v<(many:Int))
     ⟨[],v3,v4,rfl,aj hW _,ae,rfl,(fun v h=>by cases h)⟩ ?_ ?_⟩
    ·rintro j σ' H4 hj ⟨row,v3,v4,rfl,E1,Ob,hl4,hv4⟩
     have hj':j<wide:=by omega
     have z1:(0:Int)+(j:Int)=(j:Int):=JJ _
     rw[z1]
     have fit:#[157].length<sizeLine:=aw #[30]
     refine⟨_,rfl,_,rfl,_,rfl,_,rfl,_,_,rfl,rfl,.inl ⟨by omega,by omega⟩,_,_,rfl,rfl,_,rfl,_,_,rfl,rfl,l,_,ns,rfl,(hs3.trans E1).seq hS,Fp,by rw[cst];omega,by rw[cst];omega,fun v v0 v1=>?_⟩
     have ap:∀ t:Int,0<=t->t<(many:Int)->∃ (Po:LI) (v3 v4:OV),[some (V.ref l),some (V.int st),some (V.int wide),some (V.int many),some (V.bl Ft),some (V.ref R),some (V.int i),some (V.ref W),some (V.int j),some (V.int v),none,none]=[some (V.ref l),some (V.int st),some (V.int wide),some (V.int many),some (V.bl Ft),some (V.ref R),some (V.int i),some (V.ref W),v3,v4,none,none]/\ay H3 (upd H4 W (.lst (row.map V.int++[V.int t])))/\(upd H4 W (.lst (row.map V.int++[V.int t]))) W=some (.lst (Po.map V.int))/\Po.length=j+1/\∀ v∈Po,0<=v/\v<(many:Int):=fun t t0 t1=>by
      refine⟨row++[t],_,_,rfl,au E1 hW,by rw[ae,jD];rfl,by simp[hl4],fun y hy=>?_⟩
      rcases sU.mp hy with q|q
      ·exact hv4 y q
      ·rw[jG.mp q];exact⟨t0,t1⟩
     have els:=fM (a:=v / 2) (b:=(many:Int)) #[0]
     cases Ft with
      | false=>exact⟨_,rfl,_,rfl,lQ ⟨_,rfl,.inl ⟨rfl,_,bS Ob⟩,_,rfl,_,_,rfl,rfl,⟨by decide,by decide⟩,_,rfl,_,_,rfl,rfl,#[0],W,_,_,rfl,rfl,Ob,fit,ap (v / 2%(many:Int)) els.1 els.2⟩⟩
      | true =>
       refine⟨_,rfl,_,rfl,oU ⟨_,rfl,_,rfl,_,_,rfl,rfl,rfl,_,rfl,LY (fun c2=>oU ⟨_,rfl,.inl ⟨rfl,_,bS Ob⟩,_,rfl,_,_,rfl,rfl,W,_,_,rfl,rfl,Ob,fit,ap ((many:Int)-1) #[0] #[0]⟩) (fun c2=>?_)⟩⟩
       refine⟨_,rfl,_,_,rfl,rfl,#[233],rfl,_,rfl,LY (fun c3=>⟨_,rfl,.inl ⟨rfl,_,bS Ob⟩,_,rfl,_,_,rfl,rfl,W,_,_,rfl,rfl,Ob,fit,ap ((many:Int)-1) #[0] #[0]⟩) (fun c3=>⟨_,rfl,.inl ⟨rfl,_,bS Ob⟩,_,rfl,_,_,rfl,rfl,⟨by decide,by decide⟩,_,rfl,_,_,rfl,rfl,#[0],W,_,_,rfl,rfl,Ob,fit,ap (v / 2%(many:Int)) els.1 els.2⟩)⟩
    ·rintro σ' H4 ⟨row,v3,v4,rfl,E1,Ob,hl4,hv4⟩
     rw[jB]at hl4
     exact af5 _ _ ⟨row,v3,v4,rfl,E1,Ob,hl4,hv4⟩
   rintro σ' H4 ⟨row,v3,v4,rfl,E1,hW,hl4,acH⟩
   have hR4:=E1 _ _ SN
   refine⟨_,rfl,.inl ⟨rfl,_,bS hR4⟩,_,rfl,W,_,rfl,.inl ⟨bS hW,fun tp htp=>?_⟩⟩
   have nR:R≠tp:=ao hR4 htp
   refine⟨R,_,_,rfl,rfl,by rw[ag nR];exact hR4,aw #[30],?_⟩
   have sT:∀ b xs,H3 b=some #[36]->(upd (upd H4 tp (.tup #[157])) R (.lst (cN.map V.ref++[V.ref tp]))) b=some #[36]:=fun b xs e=>by
    have e4:=E1 _ _ e
    rw[ag (aG e4 hR4 #[2]),ag (ao e4 htp)]
    exact e4
   refine⟨cN++[tp],rws++[row],_,_,_,_,rfl,au (au (hs3.trans E1) ((hs3.trans E1).free htp)) hR,?_,aH.snoc (hA3.same sT) ?_,?_,?_,by simp[hn3]⟩
   ·rw[ae,jD];rfl
   ·rw[ag (Ne.symm nR),ae]
   ·intro r mH
    rcases sU.mp mH with z|z
    ·exact hl3 r z
    ·rw[jG.mp z];omega
   ·intro r mH
    rcases sU.mp mH with z|z
    ·exact hv3 r z
    ·rw[jG.mp z];exact acH
  ·rintro σ' H3 ⟨cN,rws,v1,v2,v3,v4,rfl,hs3,SN,hA3,hl3,hv3,hn3⟩
   exact iK _ _ ⟨cN,rws,v1,v2,v3,v4,rfl,hs3,SN,hA3,⟨by omega,hl3,hv3⟩⟩
 rintro σ' H3 ⟨cN,rws,v1,v2,v3,v4,rfl,hs3,SN,hA3,RO⟩
 exists _,rfl,_,rfl,_,rfl,_,_,rfl,rfl,.inl ⟨by omega,by omega⟩,_,_,rfl,rfl
 rw[cst]
 exists 58
 refine ig (fun D j ys pf=>ay H3 pf/\ys.length=j/\∀ y∈ys,∃ z,y=V.int z/\In4 z) (fun D hD=>⟨aj hD _,rfl,(fun y h=>by cases h)⟩) ?_ ?_
 ·rintro D j ys H4 Q' hD hj hy ⟨E1,hl4,Y2⟩ k'
  refine⟨(by show 6<=sizeLine;decide),fun L6 hL6=>?_⟩
  have s6:=aj hL6 (HO.lst [V.int 0,V.int 1,V.int 2,V.int 1,V.int 0,V.int 999999])
  have nD:D≠L6:=ao hy hL6
  refine⟨_,rfl,_,rfl,_,rfl,_,_,rfl,rfl,l,_,ns,rfl,(hs3.trans (E1.trans s6)).seq hS,Fp,by omega,by omega,fun v v0 v1=>?_⟩
  have r6:=fM (a:=v) (b:=6) #[13]
  have pick:∃ z,Aj [V.int 0,V.int 1,V.int 2,V.int 1,V.int 0,V.int 999999] (v%6)=some (V.int z)/\In4 z:=by
   have h6:v%6=0\/v%6=1\/v%6=2\/v%6=3\/v%6=4\/v%6=5:=by omega
   rcases h6 with e|e|e|e|e|e<;>rw[e]
   ·exact⟨0,rfl,.inl rfl⟩
   ·exact⟨1,rfl,.inr #[95]⟩
   ·exact⟨2,rfl,.inr (.inr #[95])⟩
   ·exact⟨1,rfl,.inr #[95]⟩
   ·exact⟨0,rfl,.inl rfl⟩
   ·exact⟨999999,rfl,.inr (.inr (.inr rfl))⟩
  obtain⟨z,ez,hz⟩:=pick
  refine⟨_,_,rfl,rfl,(by show(0:Int)<6;decide),L6,_,_,_,rfl,rfl,bS ae,ez,k' _ _ (by rw[ag nD];exact hy) (aw #[0]) ⟨au (au E1 (E1.free hL6)) hD,by simp[hl4],?_⟩⟩
  intro y hy'
  rcases sU.mp hy' with q|q
  ·exact Y2 y q
  ·rw[jG.mp q];exact⟨z,rfl,hz⟩
 rintro D ys H4 fD hD ⟨E1,hl4,Y2⟩
 have hd:=LV Y2
 obtain⟨drawn,rfl,hdr⟩:=hd
 rw[aO]at hl4
 exists 55
 refine⟨_,rfl,_,rfl,R,_,rfl,.inl ⟨bS (E1 _ _ SN),fun rt hrt=>?_⟩⟩
 have s5:=aj hrt (HO.tup #[44])
 have s35:=E1.trans s5
 exists 58
 refine ig (fun D2 j ys pf=>ay (upd H4 rt (HO.tup #[44])) pf/\ys=((jZ j).map fun q:Nat=>drawn.getD (rX rws many q).toNat 0).map V.int) (fun D2 F5=>⟨aj F5 _,rfl⟩) ?_ ?_
 ·rintro D2 j ys H5 Q' F5 hj hy ⟨hs5,rfl⟩ k'
  have hj':(j:Int)<many:=by omega
  have z0:(0:Int)+(j:Int)=(j:Int):=JJ _
  rw[z0]
  have s3' := s35.trans hs5
  have rr:=abh RO #[0] (show(0:Int)<=(j:Int) by omega) hj'
  refine⟨_,rfl,_,rfl,_,rfl,R,_,many,wide,cN,rws,rfl,s3' _ _ SN,hA3.same fun b xs e=>s3' _ _ e,RO,by omega,by omega,⟨by omega,hj'⟩,D,_,_,_,rfl,rfl,bS (hs5 _ _ (s5 _ _ hD)),cF rr.1 #[0],k' _ _ hy (aw (by rw[aO,aO,jq];omega)) ⟨au hs5 F5,?_⟩⟩
  rw[JI,jD,jD]
  rfl
 rintro G ys H5 fG hG ⟨hs5,rfl⟩
 rw[jB]at hG
 refine⟨G,_,rfl,.inl ⟨bS hG,fun gt hgt=>?_⟩⟩
 have s6:=aj hgt (HO.tup (((jZ many).map fun q:Nat=>drawn.getD (rX rws many q).toNat 0).map V.int))
 refine⟨#[117],fun m hm=>?_⟩
 have s7:=aj hm #[128]
 have s57:=hs5.trans (s6.trans s7)
 exact k m rt gt _ rws ((jZ many).map fun q:Nat=>drawn.getD (rX rws many q).toNat 0) (hs3.trans (s35.trans s57)) ⟨ae,⟨cN,s57 _ _ ae,(hA3.same fun b xs e=>s57 _ _ (s35 _ _ e))⟩,s7 _ _ ae⟩ RO #[10] (TQ RO #[0] rfl)
end
def lO(al:List Bool):LI->Int
 | []=>0
 | q :: r=>if al.getD q.toNat false=true then 1 else lO al r
inductive EJ (K:Yh) (vs:List V) (H:Hp) (Q:VK) (E:XK):Prop
 | mk (p l:Qo) (qs:LI) (al:List Bool) (_:vs=[.ref p,.ref l]) (_:H p=some (.tup (qs.map V.int))) (_:H l=some #[153]) (_:(∀ q∈qs,0<=q/\q<(al.length:Int))) (_:Q (.int (lO al qs)) H)
theorem K9{al:List Bool}(h:al.getD q.toNat false=false):lO al (q :: r)=lO al r:=by
 show(if al.getD q.toNat false=true then 1 else lO al r)=_
 rw[if_neg (by rw[h];decide)]
theorem Q0{bs:List Bool}{k:Int}(h0:0<=k)(h:k<(bs.length:Int)):Aj (bs.map V.bl) k=some (.bl (bs.getD k.toNat false)):=by
 have hk:k.toNat<bs.length:=by omega
 have ek:k=((k.toNat:Nat):Int):=by omega
 have q:Aj (bs.map V.bl) ((k.toNat:Nat):Int)=some (.bl bs[k.toNat]):=pA (by rw[jO,jC hk]<;>rfl)
 rw[<- ek]at q
 rw[q,getD_at hk]
section
theorem pQ:aE ["_law_place","_law_alive_here","_law_q"] ["_law_place","_law_alive_here"] (ar lW):=cV #[3]
theorem Mo(F:bL K "_law_one_alive" "_law_one_alive" lW dV f fd):bw P w K mg base eS 1 f fd ["_law_place","_law_alive_here"] (EJ K):=by
 refine F.ok pQ #[6] #[1]
 ·obtain⟨p,l,qs,al,rfl,_⟩:=h
  rfl
 obtain⟨p,l,qs,al,rfl,hp,hl,tG,k⟩:=h
 refine⟨_,(ah (bq PassesOwn.never rfl (ik (pv 0)) (aL (i:=2) pQ.nd) (ak (cK (eJ (aF cY (pv 1) (pv 2) #[12])) (ak (aJ aq)) bB)))
   (ak (aJ aq))),?_⟩
 exists 0
 refine⟨_,rfl,p,rfl,⟨_,bV hp⟩,pH (K:=K) (xs:=qs.map V.int) (fun i σ' H'=>∃ v,σ'=[some (.ref p),some #[202],v]/\H'=H/\lO al qs=lO al (qs.drop i)) ⟨none,rfl,rfl,by rw[QX]⟩ (fun i σ' H' _ ⟨_,_,e,_⟩=>by rw[e];exact bV hp) ?_ ?_⟩
 ·rintro i y σ' H' hi ⟨v,rfl,rfl,e⟩
  exists 53
  have hz' := tG z (oz hz)
  have li:=(fK hz).1
  have ed:qs.drop i=z :: qs.drop (i+1):=by rw[jz li,(fK hz).2]
  exists _,rfl,_,rfl,l,_,_,_,rfl,rfl,bS hl,Q0 hz'.1 hz'.2,_,rfl
  cases c:al.getD z.toNat false with
  | true =>
   refine oU ?_
   have e1:lO al qs=1:=by rw[e,ed];exact if_pos c
   rw[e1]at k
   exact k
  | false =>
   exact lQ ⟨_,rfl,rfl,by rw[e,ed,K9 c]⟩
 ·rintro σ' H' ⟨v,rfl,rfl,e⟩
  rw[aO,zU]at e
  have e1:lO al qs=0:=e
  rw[e1]at k
  exact k
end
theorem ab8{xs:List V}{j:Int}{p:V->Prop}(j0:0<=j)(j1:j<(xs.length:Int))(h:∀ y∈xs,p y):∃ y,Aj xs j=some y/\p y:=by
 have hj:j.toNat<xs.length:=by omega
 have ej:j=((j.toNat:Nat):Int):=by omega
 refine⟨xs[j.toNat],?_,h _ (jM hj)⟩
 have q:Aj xs ((j.toNat:Nat):Int)=some xs[j.toNat]:=pA (jC hj)
 rw[<- ej]at q
 exact q
def U6(b n:Nat):Prop:=(2<=b/\b<=5)/\(1<=n/\n<=3)/\b^n<=9
theorem TN{t0 t1 t2 t3 t4 t5:Qo}{j:Int}(a0:H t0=some (.tup [.int 2,.int 1]))(a1:H t1=some (.tup [.int 2,.int 2]))(a2:H t2=some (.tup [.int 2,.int 3]))(a3:H t3=some (.tup [.int 3,.int 1]))(a4:H t4=some (.tup [.int 3,.int 2]))(a5:H t5=some (.tup [.int 5,.int 1]))(j0:0<=j)(j1:j<6):
  ∃ y,Aj [V.ref t0,V.ref t1,V.ref t2,V.ref t3,V.ref t4,V.ref t5] j=some y/\∃ (t:Qo) (b n:Nat),y=.ref t/\H t=some (.tup [.int b,.int n])/\U6 b n:=by
 refine ab8 j0 j1 fun y hy=>?_
 simp only[jU,Jp,or_false]at hy
 rcases hy with rfl|rfl|rfl|rfl|rfl|rfl
 ·exact⟨t0,2,1,rfl,a0,⟨by decide,by decide⟩,⟨by decide,by decide⟩,by decide⟩
 ·exact⟨t1,2,2,rfl,a1,⟨by decide,by decide⟩,⟨by decide,by decide⟩,by decide⟩
 ·exact⟨t2,2,3,rfl,a2,⟨by decide,by decide⟩,⟨by decide,by decide⟩,by decide⟩
 ·exact⟨t3,3,1,rfl,a3,⟨by decide,by decide⟩,⟨by decide,by decide⟩,by decide⟩
 ·exact⟨t4,3,2,rfl,a4,⟨by decide,by decide⟩,⟨by decide,by decide⟩,by decide⟩
 ·exact⟨t5,5,1,rfl,a5,⟨by decide,by decide⟩,⟨by decide,by decide⟩,by decide⟩
inductive R3 (vs:List V) (H:Hp) (Q:VK) (E:XK):Prop
 | mk (c:Int) (_:vs=[.int c]) (_:∀ (t:Qo) (H':Hp) (b n:Nat),ay H H'->H' t=some (.tup [.int b,.int n])->U6 b n->Q (.ref t) H')
theorem acX:∀ {ks:LI} {q:Int},q∈ks->ks.Nodup->putK (cH ks) #[267] (V.bl true)=cH ks:=by
 intro ks q h nd
 unfold putK
 rw[if_pos (show((cH ks).any fun kv=>decide (kv.fst=Sum.inl q))=true from Ji.mpr ⟨(Sum.inl q,V.bl true),jN.mpr ⟨q,h,rfl⟩,by simp⟩)]
 refine(ze fun kv hk=>?_).trans (Zf _)
 obtain⟨k,_,rfl⟩:=jN.mp hk
 show(if (Sum.inl k:Key)=Sum.inl q then((Sum.inl k:Key),V.bl true)else#[176])=#[176]
 split<;>rfl
def Sh(ks:LI)(q:Int):LI:=if q∈ks then ks else ks++[q]
theorem V0(nd:ks.Nodup):putK (cH ks) #[267] (V.bl true)=cH (Sh ks q):=by
 unfold Sh
 by_cases c:q∈ks
 ·rw[if_pos c];exact acX c nd
 ·rw[if_neg c];exact Ab c
theorem U9{p:Int}:p∈Sh ks q↔p∈ks\/p=q:=by
 unfold Sh
 by_cases c:q∈ks
 ·rw[if_pos c]
  exact⟨.inl,fun h=>by rcases h with z|z;exact z;rw[z];exact c⟩
 ·rw[if_neg c,Jm,jG]
theorem ab6(nd:ks.Nodup):(Sh ks q).Nodup:=by
 unfold Sh
 by_cases c:q∈ks
 ·rw[if_pos c];exact nd
 ·rw[if_neg c];exact sV nd c
theorem En(rows:LL)(ps fs:LI)(n:Nat):iX rows ps fs (n+1)=iX rows ps fs n++(if ∃ p∈ps,∃ f∈fs,stepI rows p f=(n:Int)then [(n:Int)]else []):=by
 unfold iX
 rw[JI,JW,jD]
 congr 1
 by_cases c:∃ p∈ps,∃ f∈fs,stepI rows p f=(n:Int)
 ·exists 45
 ·exists 37
inductive Py (K:Yh) (vs:List V) (H:Hp) (Q:VK) (E:XK):Prop
 | mk (p m l r g:Qo) (many wide:Nat) (ps fs:LI) (rows:LL) (signs:LI) (_:vs=[.ref p,.ref m,.ref l]) (_:H p=some (.tup (ps.map V.int))) (_:bG H m r g wide rows signs) (_:aC many wide rows) (_:H l=some (.lst (fs.map V.int))) (_:many<=400) (_:(∀ q∈ps,0<=q/\q<(many:Int))) (_:(∀ q∈fs,0<=q/\q<(wide:Int))) (_:∀ (T:Qo) (H':Hp),ay H H'->H' T=some (.tup ((iX rows ps fs many).map V.int))->Q #[249] H')
section
theorem Fy:aE ["_law_number_here"] ["_law_number_here"] (ar tu):=cV #[3]
theorem ow:aE ["_law_place","_law_machine_here","_law_ways_there","_law_there","_law_q","_law_f"] ["_law_place","_law_machine_here","_law_ways_there"] (ar pP):=cV #[3]
theorem wb:aU ["_law_place","_law_machine_here","_law_ways_there","_law_there","_law_q","_law_f"] (ar pP) ["_law_q","_law_there"] [none,some 3] ⟨.function,[#[48],("_law_q",.local),("_law_there",.free)],false,false,[]⟩:=mz #[3]
theorem aaJ(F:bL K "_law_sides" "_law_sides" tu dV f fd):bw P w K mg base eS 1 f fd ["_law_number_here"] R3:=by
 refine F.ok Fy #[6] #[1]
 ·obtain⟨c,rfl,_⟩:=h
  rfl
 obtain⟨c,rfl,k⟩:=h
 refine wc (rC (aeI (aoa cY (aj7 (lD #[101] (lD #[101] (lD #[101] (lD #[101] (lD #[101] (lD #[101] PV))))))) (FG.mk (aS de (pv 0) aq)) #[12]))) ?_
 exists 0
 have two:2<=sizeLine:=by decide
 refine⟨two,fun t0 h0=>⟨two,fun t1 h1=>⟨two,fun t2 h2=>⟨two,fun t3 h3=>⟨two,fun t4 h4=>⟨two,fun t5 h5=>⟨(by show 6<=sizeLine;decide),fun l hl=>?_⟩⟩⟩⟩⟩⟩⟩
 have s0:=aj h0 (HO.tup [V.int 2,V.int 1])
 have s1:=aj h1 (HO.tup [V.int 2,V.int 2])
 have s2:=aj h2 (HO.tup [V.int 2,V.int 3])
 have s3:=aj h3 (HO.tup [V.int 3,V.int 1])
 have s4:=aj h4 (HO.tup [V.int 3,V.int 2])
 have s5:=aj h5 (HO.tup [V.int 5,V.int 1])
 have s8:=aj hl (HO.lst [V.ref t0,V.ref t1,V.ref t2,V.ref t3,V.ref t4,V.ref t5])
 have u5:=s5.trans s8
 have u4:=s4.trans u5
 have u3:=s3.trans u4
 have u2:=s2.trans u3
 have u1:=s1.trans u2
 have r8:=fM (a:=c) (b:=(6:Int)) #[13]
 obtain⟨y,ey,t,b,n,rfl,ht,hs⟩:=TN (u1 _ _ ae) (u2 _ _ ae) (u3 _ _ ae) (u4 _ _ ae) (u5 _ _ ae) (s8 _ _ ae) r8.1 r8.2
 exact⟨_,rfl,_,_,rfl,rfl,(by show(0:Int)<6;decide),l,_,_,_,rfl,rfl,bS ae,ey,k t _ b n (s0.trans u1) ht hs⟩
theorem ada(F:bL K "_law_next" "_law_next" pP dV f fd)(aB:mg "range" = none)(aN:mg "len" = none)(aQ:mg "tuple" = none):bw P w K mg base eS 1 f fd ["_law_place","_law_machine_here","_law_ways_there"] (Py K):=by
 refine F.ok ow #[6] #[1]
 ·obtain⟨p,m,l,r,g,many,wide,ps,fs,rows,signs,rfl,_⟩:=h
  rfl
 obtain⟨p,m,l,r,g,many,wide,ps,fs,rows,signs,rfl,hp,M,R,hl,n1,hps,IY,k⟩:=h
 exists 41
 exists 98
 refine⟨_,(ah (aD (i:=3) ow.nd oW)
   (ah (bq PassesOwn.never rfl (ik (pv 0)) (aL (i:=4) ow.nd) (ak (bq PassesOwn.never rfl (cI (pv 2)) (aL (i:=5) ow.nd) (ak (pM hu (pv 3) (aF aI (aF aI (aF aI (pv 1) aq #[12]) (pv 4) #[12]) (pv 5) #[12]) cM rfl)))))
   (ak (aJ (aM aW #[38] aQ bW (aa (Mt rfl wb (br rfl aB (aa (az aA #[38] aN bx (aa (aF aI (pv 1) aq #[12]) af)) af)) (fun _ _ _ _=>(aL (i:=0) wb.nd)) (fun _ _ _ _=>(AR (Pd hu (pv 0) (pv 1)) #[60])) (fun _ _ _ _=>(pv 0))) af)))))),?_⟩
 exists 0
 refine fun D hD=>?_
 have sD:=aj hD (HO.dK [])
 exists 55
 refine dh (t:=rZ _ _ _) (fun σ' H'=>∃ (ks:LI) (v1 v2:OV),σ'=[some (.ref p),some #[73],some #[202],some #[86],v1,v2]/\ay H H'/\H' D=some #[154]/\ks.Nodup/\∀ q,q∈ks↔∃ p∈ps,∃ f∈fs,stepI rows p f=q) ?_ #[41]
 rotate_left
 ·exists _,rfl,p,rfl,⟨_,bV (sD _ _ hp)⟩
  refine pH (K:=K) (xs:=ps.map V.int) (fun i σ' H'=>∃ (ks:LI) (v1 v2:OV),σ'=[some (.ref p),some #[73],some #[202],some #[86],v1,v2]/\ay H H'/\H' D=some #[154]/\ks.Nodup/\∀ q,q∈ks↔∃ p∈ps.take i,∃ f∈fs,stepI rows p f=q)
   ⟨[],none,none,rfl,sD,ae,List.Pairwise.nil,fun q=>⟨fun h=>(by cases h),fun⟨_,h,_⟩=>(by cases h)⟩⟩ (fun i σ' H' _ ⟨_,_,_,_,e,_,_,_⟩=>bV (e _ _ hp)) ?_ ?_
  ·rintro i y σ' H2 hi ⟨ks,v1,v2,rfl,s2,F5,nd2,hk2⟩
   exists 53
   obtain⟨z0,z1⟩:=hps z (oz hz)
   exists _,rfl,l,rfl,⟨_,bS (s2 _ _ hl)⟩
   refine dj (K:=K) (xs:=fs.map V.int) (fun j σ' H'=>∃ (ks:LI) (v2:OV),σ'=[some (.ref p),some #[73],some #[202],some #[86],some (.int z),v2]/\ay H H'/\H' D=some #[154]/\ks.Nodup/\∀ q,q∈ks↔(∃ p∈ps.take i,∃ f∈fs,stepI rows p f=q)\/∃ f∈fs.take j,stepI rows z f=q)
    ⟨ks,v2,rfl,s2,F5,nd2,fun q=>⟨fun h=>.inl ((hk2 q).mp h),fun h=>by
     rcases h with h|⟨_,h,_⟩
     ·exact(hk2 q).mpr h
     ·cases h⟩⟩ (fun j σ' H' _ ⟨_,_,_,e,_,_,_⟩=>bS (e _ _ hl)) ?_ ?_
   ·rintro j y σ' H3 hj ⟨ks,v2,rfl,s3,AI,nd3,hk3⟩
    obtain⟨fg,rfl,hfg⟩:=bp hj
    obtain⟨f0,f1⟩:=IY fg (oz hfg)
    obtain⟨ra,rr,e1,e2,e3⟩:=oY (hA.same fun a ys e=>s3 _ _ e) R z0 z1 f0 f1
    have kl:=bM many nd3 fun q hq=>by
     rcases(hk3 q).mp hq with⟨p',BV,f',T9,e⟩|⟨f',T9,e⟩
     ·rw[<- e]
      exact fU R (hps p' (zF BV)).1 (hps p' (zF BV)).2 (IY f' T9).1 (IY f' T9).2
     ·rw[<- e]
      exact fU R z0 z1 (IY f' (zF T9)).1 (IY f' (zF T9)).2
    refine⟨_,rfl,_,rfl,m,_,_,_,rfl,rfl,bV (s3 _ _ hm),rfl,_,rfl,r,_,_,_,rfl,rfl,bV (s3 _ _ mH),e1,_,rfl,ra,_,_,_,rfl,rfl,bV e2,e3,D,_,rfl,A0.k (k:=Sum.inl _) AI (aw (by unfold cH;rw[aO];omega)),?_⟩
    rw[V0 nd3]
    refine⟨_,_,rfl,au s3 hD,ae,ab6 nd3,fun q=>?_⟩
    rw[U9,hk3]
    constructor
    ·rintro((h|⟨f',T9,e⟩)|h)
     ·exact .inl h
     ·exact .inr ⟨f',(fq hfg).mpr (.inl T9),e⟩
     ·exact .inr ⟨fg,(fq hfg).mpr (.inr rfl),h.symm⟩
    ·rintro(h|⟨f',T9,e⟩)
     ·exact .inl (.inl h)
     ·rcases(fq hfg).mp T9 with h|h
      ·exact .inl (.inr ⟨f',h,e⟩)
      ·rw[h]at e
       exact .inr e.symm
   ·rintro σ' H3 ⟨ks,v2,rfl,s3,AI,nd3,hk3⟩
    rw[aO,jV]at hk3
    refine⟨ks,_,_,rfl,s3,AI,nd3,fun q=>?_⟩
    rw[hk3]
    constructor
    ·rintro(⟨p',BV,h⟩|h)
     ·exact⟨p',(fq hz).mpr (.inl BV),h⟩
     ·exact⟨z,(fq hz).mpr (.inr rfl),h⟩
    ·rintro⟨p',BV,h⟩
     rcases(fq hz).mp BV with h'|h'
     ·exact .inl ⟨p',h',h⟩
     ·rw[h']at h
      exact .inr h
  ·rintro σ' H2 ⟨ks,v1,v2,rfl,s2,F5,nd2,hk2⟩
   rw[aO,jV]at hk2
   exact iK _ _ ⟨ks,v1,v2,rfl,s2,F5,nd2,hk2⟩
 rintro σ' H1 ⟨ks,v1,v2,rfl,s1,OK,nd,hks⟩
 have lr:cN.length=many:=by rw[hA.length,R.len]
 refine⟨_,rfl,m,_,_,_,rfl,rfl,bV (s1 _ _ hm),rfl,r,_,rfl,.inr (bV (s1 _ _ mH)),_,rfl,by omega,by rw[aO,lr];omega,?_⟩
 refine Lq (fun D i ys H'=>ay H1 H'/\ys=(iX rows ps fs i).map V.int) #[21] ?_ ?_
 ·rintro L i ys H2 Qy Qn hL hi hy ⟨s2,rfl⟩ ky kn
  rw[aO,lr,jB]at hi
  have ln:=Hh rows ps fs i
  exists _,rfl,_,rfl,D,_,rfl,eV.k (k:=Sum.inl (0+(i:Int))) (s2 _ _ OK),_,rfl
  rw[sS]
  refine rP #[53] #[53]
  ·rw[hks,JJ]at c
   refine⟨_,rfl,ky _ _ hy (aw #[30]) ⟨au s2 hL,?_⟩⟩
   rw[En,if_pos c,jD,JJ]
   rfl
  ·rw[hks,JJ]at c
   refine kn _ hy ⟨s2,?_⟩
   rw[En,if_neg c,jx]
 ·rintro L ys H2 hL hy ⟨s2,rfl⟩
  rw[aO,lr,jB]at hy
  refine⟨L,_,rfl,.inl ⟨bS hy,fun T hT=>k T _ (s1.trans (s2.trans (aj hT _))) ae⟩⟩
end
def FI(al:List Bool)(q:Nat):Bool:=al.getD q false
theorem P9{al:List Bool}{q:Nat}(hz:z<al.length):FI (al.set z true) q=if q=z then true else FI al q:=by
 unfold FI
 rw[jI,jI,List.getElem?_set]
 by_cases e:z=q
 ·subst e
  rw[if_pos rfl,if_pos rfl,if_pos hz]
  rfl
 ·rw[if_neg e,if_neg (Ne.symm e)]
def Lets(rows:LL)(al:List Bool)(q:Nat)(f:Int):Prop:=FI al (stepI rows (q:Int) f).toNat=true->FI al q=true
def tN(rows:LL)(fs:LI)(many:Nat)(al:List Bool):Prop := ∀ q:Nat,q<many->∀ f∈fs,Lets rows al q f
def HM(al:List Bool):Nat:=al.countP id
structure Fb(rows:LL)(fs gs:LI)(many:Nat)(al:List Bool):Prop where
 len:al.length=many
 snd:∀ q:Nat,FI al q=true->bR rows fs gs (q:Int)
 gol:∀ q:Nat,q<many->(q:Int)∈gs->FI al q=true
def Tri(rows:LL)(fs:LI)(many k z j:Nat)(al:List Bool):Prop:=tN rows fs many al\/k+1<=HM al\/(k<=HM al/\(∀ q:Nat,q<z->∀ f∈fs,Lets rows al q f)/\∀ f∈fs.take j,Lets rows al z f)
section
variable{fs:LI}{k:Nat}{al:List Bool}
theorem N8(h:Tri rows fs many k z j al)(hj:fs[j]?=some fg)(c:Lets rows al z fg):Tri rows fs many k z (j+1) al:=by
 rcases h with h|h|⟨h1,h2,h3⟩
 ·exact .inl h
 ·exact .inr (.inl h)
 ·refine .inr (.inr ⟨h1,h2,fun f hf=>?_⟩)
  rcases(fq hj).mp hf with q|q
  ·exact h3 f q
  ·rw[q];exact c
theorem ae3(o:Fb rows fs gs many al)(R:aC many wide rows)(hz:z<many)(hj:fs[j]?=some fg)(hf:0<=fg/\fg<(wide:Int))(h:Tri rows fs many k z j al)(c:FI al (stepI rows (z:Int) fg).toNat=true):Fb rows fs gs many (al.set z true)/\Tri rows fs many k z (j+1) (al.set z true):=by
 have hl:z<al.length:=by rw[o.len];exact hz
 cases e:FI al z with
 | true =>
  have es:al.set z true=al:=by
   have e1:al[z]=true:=by
    have:FI al z=al[z]:=by unfold FI;rw[jI,jC hl];rfl
    rw[<- this];exact e
   rw[<- e1]
   exact List.set_getElem_self hl
  rw[es]
  exact⟨o,N8 h hj fun _=>e⟩
 | false =>
  have ec:HM (al.set z true)=HM al+1:=by
   unfold HM
   have e1:al[z]=false:=by
    have:FI al z=al[z]:=by unfold FI;rw[jI,jC hl];rfl
    rw[<- this];exact e
   rw[List.countP_set hl,e1]
   simp
  refine⟨⟨by rw[zg];exact o.len,fun q hq=>?_,fun q hq hg=>?_⟩,.inr (.inl ?_)⟩
  ·rw[P9 hl]at hq
   by_cases eq:q=z
   ·subst eq
    refine bR.step (oz hj) ?_
    have h1:=o.snd _ c
    have h2:=(fU R (show(0:Int)<=(q:Int) by omega) #[0] hf.1 hf.2).1
    rw[jn h2]at h1
    exact h1
   ·rw[if_neg eq]at hq
    exact o.snd q hq
  ·rw[P9 hl]
   by_cases eq:q=z
   ·rw[if_pos eq]
   ·rw[if_neg eq];exact o.gol q hq hg
  ·rw[ec]
   rcases h with h|h|⟨h1,_⟩
   ·have:=h z hz fg (oz hj) c
    rw[e]at this
    cases this
   ·omega
   ·omega
theorem adX(h:Tri rows fs many k z fs.length al):Tri rows fs many k (z+1) 0 al:=by
 rcases h with h|h|⟨h1,h2,h3⟩
 ·exact .inl h
 ·exact .inr (.inl h)
 ·refine .inr (.inr ⟨h1,fun q hq f hf=>?_,fun f hf=>by cases hf⟩)
  rcases JP q z with y|y
  ·exact h2 q y f hf
  ·have:q=z:=by omega
   subst this
   exact h3 f (by rw[jV];exact hf)
theorem abG(h:Tri rows fs many k many 0 al):tN rows fs many al\/k+1<=HM al:=by
 rcases h with h|h|⟨h1,h2,h3⟩
 ·exact .inl h
 ·exact .inr h
 ·exact .inl h2
theorem ae1(o:Fb rows fs gs many al)(h:tN rows fs many al\/many<=HM al):tN rows fs many al:=by
 rcases h with h|h
 ·exact h
 ·have hc:al.countP id=al.length:=ZH List.countP_le_length (by rw[o.len];exact h)
  have LK:=List.countP_eq_length.mp hc
  intro q hq f hf _
  have hl:q<al.length:=by rw[o.len];exact hq
  have:FI al q=al[q]:=by unfold FI;rw[jI,jC hl];rfl
  rw[this]
  exact LK _ (jM hl)
theorem V1(o:Fb rows fs gs many al)(R:aC many wide rows)(IY:∀ f∈fs,0<=f/\f<(wide:Int))(h:tN rows fs many al):∀ (row:LI) (q:Nat),q<many->(∀ f∈row,f∈fs)->aR rows row (q:Int)∈gs->FI al q=true
 | [],q,hq,_,hg=>o.gol q hq hg
 | f :: row,q,hq,hr,hg=>by
  have hf:=hr f jE
  have st:=fU R (show(0:Int)<=(q:Int) by omega) #[0] (IY f hf).1 (IY f hf).2
  refine h q hq f hf (V1 o R IY h row _ #[0] (fun g hg'=>hr g (jJ _ hg')) ?_)
  rw[jn st.1]
  exact hg
theorem ae2(o:Fb rows fs gs many al)(R:aC many wide rows)(IY:∀ f∈fs,0<=f/\f<(wide:Int))(h:tN rows fs many al)(q:Int)(q0:0<=q)(q1:q<(many:Int)):al.getD q.toNat false=true↔bR rows fs gs q:=by
 obtain⟨n,rfl⟩:=cZ q0
 rw[jB]
 exact⟨fun e=>o.snd n e,fun⟨row,hr,hg⟩=>V1 o R IY h row n #[0] hr hg⟩
end
theorem bR.congr{fs fs':LI}(h:∀ f∈fs,f∈fs')(l:bR rows fs gs q):bR rows fs' gs q:=by
 obtain⟨row,h1,h2⟩:=l
 exact⟨row,fun f hf=>h f (h1 f hf),h2⟩
inductive RQ (K:Yh) (vs:List V) (H:Hp) (Q:VK) (E:XK):Prop
 | mk (m l r g:Qo) (many wide:Nat) (fs:LI) (rows:LL) (signs:LI) (_:vs=[.ref m,.ref l]) (_:bG H m r g wide rows signs) (_:aC many wide rows) (_:signs.length=many) (_:many<=400) (_:H l=some (.lst (fs.map V.int))) (_:(∀ f∈fs,0<=f/\f<(wide:Int))) (_:∀ (L:Qo) (H':Hp) (al:List Bool),ay H H'->H' L=some #[153]->al.length=many->(∀ q:Int,0<=q->q<(many:Int)->(al.getD q.toNat false=true↔bR rows fs (ff signs 1 many) q))->Q #[285] H')
theorem aau(al:List Bool)(z:Nat):(al.map V.bl).set z (V.bl true)=(al.set z true).map V.bl:=(Qg ..).symm
section
theorem fV:aE ["_law_machine_here","_law_bare","_law_alive_here","_law_turn","_law_q","_law_f"] ["_law_machine_here","_law_bare"] (ar og):=cV #[3]
theorem tE:aU ["_law_machine_here","_law_bare","_law_alive_here","_law_turn","_law_q","_law_f"] (ar og) ["_law_sign"] [none] ⟨.function,[#[48],("_law_sign",.local)],false,false,[]⟩:=mz #[3]
theorem aaA(F:bL K "_law_alive" "_law_alive" og dV f fd)(aB:mg "range" = none)(aN:mg "len" = none):bw P w K mg base eS 1 f fd ["_law_machine_here","_law_bare"] (RQ K):=by
 refine F.ok fV #[6] #[1]
 ·obtain⟨m,l,r,g,many,wide,fs,rows,signs,rfl,_⟩:=h
  rfl
 obtain⟨m,l,r,g,many,wide,fs,rows,signs,rfl,M,R,lsg,n1,hl,IY,k⟩:=h
 exists 41
 obtain⟨gs,egs⟩:∃ gs,ff signs 1 many=gs:=⟨_,rfl⟩
 refine⟨_,(ah (iq (i:=2) rfl fV.nd rfl #[248] tE (ik #[5]) (fun _ _ _ _=>(aL (i:=0) tE.nd)) (fun _ _ _ _=>(hJ lJ (pv 0) aq (bz _))))
   (ah (bq PassesOwn.never rfl (br rfl aB (aa #[173] af)) (aL (i:=3) fV.nd) (ak (bq PassesOwn.never rfl (br rfl aB (aa #[173] af)) (aL (i:=4) fV.nd) (ak (bq PassesOwn.never rfl (cI (pv 1)) (aL (i:=5) fV.nd) (ak (cK (eJ (aF cY (pv 2) (aF aI (aF aI #[5] (pv 4) #[12]) (pv 5) #[12]) #[12])) (ak (Ph cM (aa3 (pv 2) (pv 4) set_list))) bB)))))))
   (ak (aJ (pv 2))))),?_⟩
 exists 0
 exists _,rfl,m,_,_,_,rfl,rfl,bV hm,rfl,g,rfl,⟨_,bV hg⟩
 refine mx (K:=K) (xs:=signs.map V.int) (fun D i ys H'=>ay H H'/\ys=((signs.take i).map fun s=>decide (V.int s=V.int 1)).map V.bl) #[21] (fun D i ys H' _ ⟨e,_⟩=>bV (e _ _ hg)) ?_ ?_
 ·rintro D j y ys H2 Q' hD hj hy ⟨s2,rfl⟩ k'
  exists 64
  have lj:=(fK hz).1
  refine⟨_,rfl,rfl,k' _ _ hy #[57] ⟨au s2 hD,?_⟩⟩
  rw[jY,hz,jD,jD]
  rfl
 rintro L ys H1 hL EY ⟨s1,rfl⟩
 rw[aO,jV]at EY
 obtain⟨al0,ea⟩:∃ al0,(signs.map fun s=>decide (V.int s=V.int 1))=al0:=⟨_,rfl⟩
 rw[ea]at EY
 have ok0:Fb rows fs gs many al0:=by
  have lal:al0.length=many:=by rw[<- ea,aO];exact lsg
  have ev:∀ q:Nat,q<many->(FI al0 q=true↔signs.getD q 0=1):=fun q hq=>by
   have Ic:q<signs.length:=by omega
   unfold FI
   rw[<- ea,jI,jO,jC Ic,jI,jC Ic]
   show decide (V.int signs[q]=V.int 1)=true↔signs[q]=1
   rw[decide_eq_true_iff]
   exact⟨fun h=>V.int.inj h,fun h=>by rw[h]⟩
  refine⟨lal,fun q hq=>?_,fun q hq hg=>?_⟩
  ·have Ic:q<many:=by
    rcases JP q many with z|z
    ·exact z
    ·unfold FI at hq
     rw[jI,Jj #[0]]at hq
     cases hq
   refine bR.goal ?_
   rw[<- egs]
   exact dR.mpr ⟨by omega,by omega,by rw[jB];exact(ev q Ic).mp hq⟩
  ·rw[<- egs]at hg
   have:=(dR.mp hg).2.2
   rw[jB]at this
   exact(ev q hq).mpr this
 rw[egs]at k
 clear ea
 exists 55
 refine dh (t:=rZ _ _ _) (fun σ' H'=>∃ (al:List Bool) (v1 v2 v3:OV),σ'=[some #[73],some #[202],some #[285],v1,v2,v3]/\ay H H'/\H' L=some #[153]/\Fb rows fs gs many al/\(tN rows fs many al\/many<=HM al)) ?_ #[41]
 rotate_left
 ·refine⟨_,rfl,L,_,rfl,.inl (bS EY),_,rfl,by omega,by rw[aO,ok0.len];omega,?_⟩
  refine cb (fun i σ' H'=>∃ (al:List Bool) (v1 v2 v3:OV),σ'=[some #[73],some #[202],some #[285],v1,v2,v3]/\ay H H'/\H' L=some #[153]/\Fb rows fs gs many al/\(tN rows fs many al\/i<=HM al)) ⟨al0,none,none,none,rfl,s1,EY,ok0,.inr (jd _)⟩ ?_ ?_
  ·rintro i σ' H2 hi ⟨al,v1,v2,v3,rfl,s2,Rg,o2,h2⟩
   refine⟨_,rfl,L,_,rfl,.inl (bS Rg),_,rfl,by omega,by rw[aO,o2.len];omega,?_⟩
   refine cb (fun z σ' H'=>∃ (al:List Bool) (v2 v3:OV),σ'=[some #[73],some #[202],some #[285],some (.int (0+(i:Int))),v2,v3]/\ay H H'/\H' L=some #[153]/\Fb rows fs gs many al/\Tri rows fs many i z 0 al)
    ⟨al,v2,v3,rfl,s2,Rg,o2,by
     rcases h2 with h|h
     ·exact .inl h
     ·exact .inr (.inr ⟨h,fun q hq=>absurd hq (zP _),fun f hf=>by cases hf⟩)⟩ ?_ ?_
   ·rintro z σ' H3 hz ⟨al,v2,v3,rfl,s3,pZ,o3,t3⟩
    rw[aO,o2.len,jB]at hz
    exists _,rfl,l,rfl,⟨_,bS (s3 _ _ hl)⟩
    refine dj (K:=K) (xs:=fs.map V.int) (fun j σ' H'=>∃ (al:List Bool) (v3:OV),σ'=[some #[73],some #[202],some #[285],some (.int (0+(i:Int))),some (.int (0+(z:Int))),v3]/\ay H H'/\H' L=some #[153]/\Fb rows fs gs many al/\Tri rows fs many i z j al)
     ⟨al,v3,rfl,s3,pZ,o3,t3⟩ (fun j σ' H' _ ⟨_,_,_,e,_,_,_⟩=>bS (e _ _ hl)) ?_ ?_
    ·rintro j y σ' H4 hj ⟨al,v3,rfl,s4,HX,o4,t4⟩
     obtain⟨fg,rfl,hfg⟩:=bp hj
     have hf:=IY fg (oz hfg)
     have ez:(0:Int)+(z:Int)=(z:Int):=JJ _
     obtain⟨ra,rr,e1,e2,e3⟩:=oY (hA.same fun a ys e=>s4 _ _ e) R (show(0:Int)<=(z:Int) by omega) #[0] hf.1 hf.2
     have st:=fU R (show(0:Int)<=(z:Int) by omega) #[0] hf.1 hf.2
     rw[<- ez]at e1
     exists _,rfl,_,rfl,m,_,_,_,rfl,rfl,bV (s4 _ _ hm),rfl,_,rfl,r,_,_,_,rfl,rfl,bV (s4 _ _ mH),e1,_,rfl,ra,_,_,_,rfl,rfl,bV e2,e3,L,_,_,_,rfl,rfl,bS HX,Q0 st.1 (by rw[o4.len];exact st.2),_,rfl
     cases c:al.getD (stepI rows (z:Int) fg).toNat false with
     | true =>
      refine oU ⟨_,rfl,_,rfl,L,_,_,z,rfl,rfl,HX,?_,?_⟩
      ·rw[aO,o4.len,ez]
       exact Rn hz
      ·obtain⟨o5,t5⟩:=ae3 o4 R hz hfg hf t4 c
       exact⟨al.set z true,_,rfl,au s4 hL,by rw[ae,aau],o5,t5⟩
     | false =>
      exact lQ ⟨al,_,rfl,s4,HX,o4,N8 t4 hfg fun h=>by rw[show FI al (stepI rows (z:Int) fg).toNat=false from c]at h;cases h⟩
    ·rintro σ' H4 ⟨al,v3,rfl,s4,HX,o4,t4⟩
     rw[aO]at t4
     exact⟨al,_,_,rfl,s4,HX,o4,adX t4⟩
   ·rintro σ' H3 ⟨al,v2,v3,rfl,s3,pZ,o3,t3⟩
    rw[aO,o2.len,jB]at t3
    exact⟨al,_,_,_,rfl,s3,pZ,o3,abG t3⟩
  ·rintro σ' H2 ⟨al,v1,v2,v3,rfl,s2,Rg,o2,h2⟩
   rw[aO,ok0.len,jB]at h2
   exact iK _ _ ⟨al,v1,v2,v3,rfl,s2,Rg,o2,h2⟩
 rintro σ' H2 ⟨al,v1,v2,v3,rfl,s2,Rg,o2,h2⟩
 have cl:=ae1 o2 h2
 exact⟨_,rfl,k L _ al s2 Rg o2.len (ae2 o2 R IY cl)⟩
end
inductive RT (K:Yh) (vs:List V) (H:Hp) (Q:VK) (E:XK):Prop
 | mk (a:Qo) (k:Int) (ns:LI) (_:vs=[.ref a,.int k]) (_:pk K H a #[37]) (_:ns.length<=63) (_:(0<=k/\k<1000)) (_:∀ v:Int,0<=v->v<10^18->Q (.int v) H)
inductive IG (vs:List V) (H:Hp) (Q:VK) (E:XK):Prop
 | mk (b:Int) (n:Nat) (_:vs=[.int b,.int n]) (_:(0<=b/\b<=1000)) (_:n<=1000) (_:Q (.int (b^n)) H)
section
theorem Au:aE ["_law_found"] ["_law_found"] (ar oh):=cV #[3]
theorem Fx:aE ["_law_script","_law_k"] ["_law_script","_law_k"] (ar tj):=cV #[3]
theorem ox:aE ["_law_base","_law_many","_law_wide_here","_law_k"] ["_law_base","_law_many"] (ar wB):=cV #[3]
theorem aaC(F:bL K "_law_great" "_law_great" tj dV f fd)(aV:bQ P w K mg base "_law_number" 1 ["_law_script","_law_k"] [] (RZ K))(aN:mg "len" = none):bw P w K mg base eS 2 f fd ["_law_script","_law_k"] (RT K):=by
 refine F.ok Fx #[6] #[1]
 ·obtain⟨a,k,ns,rfl,_⟩:=h
  rfl
 obtain⟨a,k,ns,rfl,hS,Fp,⟨h0,h1⟩,q⟩:=h
 have hl:#[37].length=ns.length:=jW _
 refine⟨_,(ah (cK (bK Mr (pv 1) #[19] (bz _)) (ak (aJ (aS de #[215] (aS aaU aq aq)))) bB)
   (ak (aJ (aS de (aS adi (bE aV hr (aa (pv 0) #[81])) (bE aV hr (aa (pv 0) (aa (aS dP (pv 1) aq) af)))) (aS aaU aq aq))))),?_⟩
 exists 0
 refine⟨_,rfl,_,rfl,a,_,rfl,.inl hS,_,_,rfl,rfl,_,rfl,rP #[53] #[53]⟩
 ·rw[hl]at c
  have r:=fM (a:=ns.getD k.toNat 0) (b:=10^18) #[13]
  exact⟨_,rfl,_,rfl,a,_,_,_,rfl,rfl,hS,cF h0 c,_,_,rfl,rfl,⟨by decide,by decide,by decide⟩,_,_,rfl,rfl,(by show(0:Int)<10^18;decide),q _ r.1 r.2⟩
 ·refine⟨_,rfl,_,rfl,a,_,ns,rfl,hS,Fp,h0,by omega,fun v v0 v1=>?_⟩
  refine⟨_,rfl,_,rfl,_,_,rfl,rfl,a,_,ns,rfl,hS,Fp,by omega,by omega,fun v' v0' v1'=>?_⟩
  have bg:(2147483399:Int)<BIG:=by decide +kernel
  have r:=fM (a:=v*v') (b:=10^18) #[13]
  exact⟨_,_,rfl,rfl,⟨⟨v0,by omega⟩,⟨v0',by omega⟩⟩,_,_,rfl,rfl,⟨by decide,by decide,by decide⟩,_,_,rfl,rfl,(by show(0:Int)<10^18;decide),q _ r.1 r.2⟩
theorem aaL(F:bL K "_law_wide" "_law_wide" wB dV f fd)(aB:mg "range" = none):bw P w K mg base eS 1 f fd ["_law_base","_law_many"] IG:=by
 refine F.ok ox #[6] #[1]
 ·obtain⟨b,n,rfl,_⟩:=h
  rfl
 obtain⟨b,n,rfl,⟨b0,b1⟩,hn,q⟩:=h
 refine⟨_,(ah (aD (i:=2) ox.nd aq)
   (ah (bq PassesOwn.never rfl (br rfl aB #[81]) (aL (i:=3) ox.nd) (ak (aD (i:=2) ox.nd (aS fb (pv 2) (pv 0)))))
   (ak (aJ (pv 2))))),?_⟩
 exists 0
 refine⟨_,rfl,(n:Int),rfl,by omega,by omega,cb (fun i σ' H'=>∃ v,σ'=[some (.int b),some (.int n),some (.int (b^i)),v]/\H'=H) ⟨none,by rw[Zb];rfl,rfl⟩ ?_ ?_⟩
 ·exists 85
  exact⟨_,rfl,_,rfl,_,_,rfl,rfl,.inr ⟨by omega,by omega⟩,some (.int (0+i)),by rw[zJ];rfl,rfl⟩
 ·exists 86
  rw[jB]
  exact⟨_,rfl,q⟩
end
def pG(n:Nat)(b lo g:Int):LI:=((jZ n).filter fun f:Nat=>decide (cA (f:Int) b lo=g)).map fun f:Nat=>(f:Int)
theorem D5(n:Nat)(b lo g:Int):pG (n+1) b lo g=pG n b lo g++(if cA (n:Int) b lo=g then [(n:Int)]else []):=by
 unfold pG
 rw[JI,JW,jD]
 congr 1
 by_cases c:cA (n:Int) b lo=g
 ·exists 45
 ·exists 37
theorem Cc{g:Int}:q∈pG n b lo g↔(0<=q/\q<(n:Int))/\cA q b lo=g:=by
 unfold pG
 rw[jN]
 constructor
 ·rintro⟨i,hi,rfl⟩
  have h:=ju.mp hi
  have h1:=je.mp h.1
  exact⟨⟨by omega,by omega⟩,of_decide_eq_true h.2⟩
 ·rintro⟨⟨h0,h1⟩,h2⟩
  obtain⟨m,rfl⟩:=cZ h0
  exact⟨m,ju.mpr ⟨je.mpr #[0],decide_eq_true h2⟩,rfl⟩
theorem SA(n:Nat)(b lo g:Int):(pG n b lo g).length<=n:=by
 unfold pG
 rw[aO]
 exact jk (Jc _ _) #[10]
structure ByL(H0 H:Hp)(T:Qo)(oy:List Qo)(N i:Nat)(b lo:Int):Prop where
 at_:H T=some (.lst (oy.map V.ref))
 len:oy.length=N
 nd:oy.Nodup
 fresh:∀ a∈oy,H0 a=none
 lst:∀ (g:Nat) (la:Qo),oy[g]?=some la->H la=some (.lst ((pG i b lo (g:Int)).map V.int))
theorem ByL.same{T:Qo}(h:ByL H0 H T oy N i b lo)(s:ay H H'):ByL H0 H' T oy N i b lo:=
 ⟨s _ _ h.at_,h.len,h.nd,h.fresh,fun g la e=>s _ _ (h.lst g la e)⟩
theorem ByL.get{T:Qo}{g:Int}(h:ByL H0 H T oy N i b lo)(g0:0<=g)(g1:g<(N:Int)):∃ la,oy[g.toNat]?=some la/\Aj (oy.map V.ref) g=some (.ref la)/\H la=some (.lst ((pG i b lo g).map V.int)):=by
 obtain⟨n,rfl⟩:=cZ g0
 have hn:n<oy.length:=by rw[h.len];omega
 have e:oy[n]?=some oy[n]:=jC hn
 exact⟨oy[n],e,pA (by rw[jO,e];rfl),h.lst n _ e⟩
theorem aja(nd:oy.Nodup){a:Qo}(h:oy[i]?=some a)(h':oy[j]?=some a):i=j:=by
 obtain⟨hi,ei⟩:=fK h
 obtain⟨hj,ej⟩:=fK h'
 exact(JT nd).mp (ei.trans ej.symm)
inductive MT (K:Yh) (vs:List V) (H:Hp) (Q:VK) (E:XK):Prop
 | mk (b wide k N:Nat) (M:Int) (_:vs=[.int b,.int wide,.int k]) (_:(2<=b/\b<=10)) (_:wide<=100) (_:k<=100) (_:(wide:Int)=(b:Int)^k*b*M) (_:(N:Int)=(b:Int)^k*M) (_:∀ (T:Qo) (H':Hp) (oy:List Qo),ay H H'->ByL H H' T oy N wide b ((b:Int)^k)->Q #[249] H')
section
theorem hX:aE ["_law_base","_law_wide_here","_law_at","_law_low","_law_by_left_here","_law_f"] ["_law_base","_law_wide_here","_law_at"] (ar lh):=cV #[3]
theorem pB:aU ["_law_base","_law_wide_here","_law_at","_law_low","_law_by_left_here","_law_f"] (ar lh) ["_law_k"] [none] ⟨.function,[#[48],("_law_k",.local)],false,false,[]⟩:=mz #[3]
theorem Td(F:bL K "_law_by_left" "_law_by_left" lh dV f fd)(iB:bQ P w K mg base "_law_wide" 1 ["_law_base","_law_many"] [] IG)(aB:mg "range" = none):bw P w K mg base eS 2 f fd ["_law_base","_law_wide_here","_law_at"] (MT K):=by
 refine F.ok hX #[6] #[1]
 ·obtain⟨b,wide,kk,N,M,rfl,_⟩:=h
  rfl
 obtain⟨b,wide,kk,N,M,rfl,⟨b0,b1⟩,w1,hk,ew,eN,k⟩:=h
 obtain⟨lo,elo⟩:∃ lo,(b:Int)^kk=lo:=⟨_,rfl⟩
 have l0:0<lo:=by rw[<- elo];exact ZQ #[0]
 rw[elo]at ew eN k
 have eW:(wide:Int)=(N:Int)*b:=by rw[ew,eN,Jy,Jy,zK M]
 have ed:(wide:Int) / (b:Int)=(N:Int):=by rw[eW];exact Zv _ #[0]
 have hN:N<=100:=by
  have:(N:Int)*1<=N*b:=JR #[0] #[0]
  omega
 have M0:0<N->0<M:=fun h=>by
  have:0<lo*M:=by rw[<- eN];omega
  exact Int.pos_of_mul_pos_right this #[0]
 refine⟨_,(ah (aD (i:=3) hX.nd (bE iB hr (aa (pv 0) #[63])))
   (ah (iq (i:=4) rfl hX.nd rfl #[248] pB (br rfl aB (aa (aS BG (pv 1) (pv 0)) af)) (fun _ _ _ _=>(aL (i:=0) pB.nd)) (fun _ _ _ _=>(cX af)))
   (ah (bq PassesOwn.never rfl (br rfl aB #[81]) (aL (i:=5) hX.nd) (ak (bJ (fc Yj Yk Yl bD (aF cY (pv 4) (aS dP (aS de (pv 5) (pv 3)) (aS fb (aS BG (pv 5) (aS fb (pv 3) (pv 0))) (pv 3))) #[12]) (aa (pv 5) af)))))
   (ak (aJ (pv 4)))))),?_⟩
 exists 0
 refine⟨_,rfl,_,rfl,(b:Int),kk,rfl,⟨by omega,by omega⟩,by omega,?_⟩
 rw[elo]
 refine⟨_,rfl,_,rfl,_,_,rfl,rfl,⟨by omega,by omega⟩,_,rfl,by omega,by omega,?_⟩
 rw[ed,jB]
 refine ig (fun D i ys H'=>ay H H'/\∃ oy:List Qo,ys=oy.map V.ref/\oy.length=i/\oy.Nodup/\∀ a∈oy,a≠D/\H a=none/\H' a=some (.lst [])) (fun D hD=>⟨aj hD _,[],rfl,rfl,List.Pairwise.nil,fun a h=>by cases h⟩) ?_ ?_
 ·rintro D i ys H1 Q' hD hi hy ⟨s1,oy,rfl,hl,nd,hla⟩ k'
  exists 22
  have nDL:D≠L:=ao hy hL
  have nl:L∉oy:=fun z=>by
   have:=(hla L z).2.2
   rw[hL]at this
   cases this
  refine k' _ _ (by rw[ag nDL];exact hy) (aw #[30]) ⟨au (s1.trans (aj hL _)) hD,oy++[L],by rw[jD];rfl,by simp[hl],?_,fun a ha=>?_⟩
  ·exact JQ.mpr ⟨nd,zN _ L,fun a ha c hc=>by rw[jG.mp hc];intro z;exact nl (z ▸ ha)⟩
  ·rcases sU.mp ha with z|z
   ·have h:=hla a z
    have na:a≠L:=fun e=>nl (by rw[<- e];exact z)
    exact⟨h.1,h.2.1,by rw[ag h.1,ag na];exact h.2.2⟩
   ·rw[jG.mp z]
    exact⟨Ne.symm nDL,s1.free hL,by rw[ag (Ne.symm nDL),ae]⟩
 rintro T ys H1 hT hT1 ⟨s1,oy,rfl,hl,nd,hla⟩
 have B0:ByL H H1 T oy N 0 b lo:=⟨hT1,hl,nd,fun a ha=>(hla a ha).2.1,fun g la e=>(hla la (oz e)).2.2⟩
 refine⟨_,rfl,_,rfl,by omega,by omega,?_⟩
 refine cb (fun i σ' H'=>∃ v,σ'=[some (.int b),some #[148],some (.int kk),some (.int lo),some #[249],v]/\ay H H'/\ByL H H' T oy N i b lo) ⟨none,rfl,s1,B0⟩ ?_ ?_
 ·rintro i σ' H2 hi ⟨v,rfl,s2,B2⟩
  rw[jB]at hi
  have zi:(0:Int)+(i:Int)=(i:Int):=JJ _
  rw[zi]
  have lob:0<lo*(b:Int)/\lo*(b:Int)<=100:=by
   have p0:0<lo*(b:Int):=QJ l0 #[0]
   have N0:0<N:=by
    rcases Jt N with z|z
    ·rw[z]at eW;omega
    ·exact z
   have h:=JR (show(1:Int)<=M by have:=M0 N0;omega) (show 0<=lo*(b:Int) by omega)
   rw[zZ,<- ew]at h
   omega
  have lo1:lo<=100:=by
   have h:=JR (show(1:Int)<=(b:Int) by omega) (show 0<=lo by omega)
   omega
  have q0:0<=(i:Int) / (lo*(b:Int))/\(i:Int) / (lo*(b:Int))<=100:=⟨ZJ #[0] #[0],Qf (Int.ediv_le_self _ #[0]) #[0]⟩
  have eI:(i:Int)%lo+(i:Int) / (lo*(b:Int))*lo=cA (i:Int) b lo:=by unfold cA;rw[zK ((i:Int) / (lo*(b:Int)))]
  exists _,rfl,_,rfl,_,rfl,_,_,rfl,rfl,l0,_,rfl,_,rfl,_,rfl,_,_,rfl,rfl,.inl ⟨by omega,by omega⟩,_,_,rfl,rfl,⟨by omega,by omega⟩,_,rfl,_,_,rfl,rfl,.inl ⟨by omega,by omega⟩,_,_,rfl,rfl
  have H3:=H2
  have s3:ay H2 H2:=fun _ _ e=>e
  obtain⟨g0,g1⟩:=PX (f:=(i:Int)) (b:=(b:Int)) (M:=M) l0 #[0] #[0] (by rw[<- ew];omega)
  rw[<- eN]at g1
  have B3:=B2.same s3
  obtain⟨la,e1,e2,e3⟩:=B3.get g0 g1
  have ln:=SA i b lo (cA (i:Int) b lo)
  have e2':Aj (oy.map V.ref) ((i:Int)%lo+(i:Int) / (lo*(b:Int))*lo)=some (.ref la):=by rw[eI];exact e2
  refine⟨T,_,_,_,rfl,rfl,bS B3.at_,e2',.inl ⟨rfl,_,bS e3⟩,_,rfl,la,_,_,rfl,rfl,e3,aw #[30],?_⟩
  have fla:H la=none:=B3.fresh la (oz e1)
  have nT:T≠la:=fun z=>by
   rw[z]at hT1
   have:=B3.at_
   rw[z,e3]at this
   have h1:((pG i b lo (cA (i:Int) b lo)).map V.int)=oy.map V.ref:=by
    have:=Option.some.inj this
    injection this
   cases hq:oy with
   | nil=>rw[hq]at e1;cases e1
   | cons a r =>
    rw[hq]at h1
    cases hf:pG i b lo (cA (i:Int) b lo)with
    | nil=>rw[hf]at h1;cases h1
    | cons c d=>rw[hf]at h1;cases h1
  refine⟨_,rfl,au (s2.trans s3) fla,⟨by rw[ag nT];exact B3.at_,B3.len,B3.nd,B3.fresh,fun g lb eb=>?_⟩⟩
  by_cases c:lb=la
  ·subst c
   have eg:=aja B3.nd eb e1
   have eg':(g:Int)=cA (i:Int) b lo:=by omega
   rw[ae,D5,eg',if_pos rfl,jD]
   rfl
  ·rw[ag c,D5,if_neg (fun z=>c ?_),jx]
   ·exact B3.lst g lb eb
   ·rw[z,jB,eb]at e1
    exact Option.some.inj e1
 ·rintro σ' H2 ⟨v,rfl,s2,B2⟩
  rw[jB]at B2
  exact⟨_,rfl,k T _ oy s2 B2⟩
end
inductive Ct (vs:List V) (H:Hp) (Q:VK) (E:XK):Prop
 | mk (m r g:Qo) (wide:Nat) (rows:LL) (signs:LI) (_:vs=[.ref m,.int wide]) (_:bG H m r g wide rows signs) (_:aC rows.length wide rows) (_:0<rows.length) (_:signs.length=rows.length) (_:Q #[284] H)
inductive MY (vs:List V) (H:Hp) (Q:VK) (E:XK):Prop
 | mk (r:Qo) (cN:List Qo) (wide:Nat) (rows:LL) (_:vs=[.ref r]) (_:H r=some (.tup #[44])) (_:aH H cN rows) (_:aC rows.length wide rows) (_:rows.length<=1000) (_:mS rows) (_:Q #[284] H)
inductive MX (vs:List V) (H:Hp) (Q:VK) (E:XK):Prop
 | mk (l r:Qo) (cN:List Qo) (wide:Nat) (rows:LL) (a:LI) (_:vs=[.ref l,.ref r]) (_:H l=some (.lst (a.map V.int))) (_:a.length=rows.length) (_:H r=some (.tup #[44])) (_:aH H cN rows) (_:aC rows.length wide rows) (_:rows.length<=1000) (_:wide<=1000) (_:∀ (l':Qo) (H':Hp) (b:LI),ay H H'->H' l'=some (.lst (b.map V.int))->Behind rows wide a b->Q (.ref l') H')
inductive Hs (vs:List V) (H:Hp) (Q:VK) (E:XK):Prop
 | mk (r g:Qo) (cN:List Qo) (wide:Nat) (rows:LL) (signs:LI) (_:vs=[.ref r,.ref g]) (_:H r=some (.tup #[44])) (_:aH H cN rows) (_:aC rows.length wide rows) (_:(0<rows.length/\rows.length<=1000)) (_:wide<=1000) (_:H g=some (.tup #[299])) (_:signs.length=rows.length) (_:Apart wide rows signs) (_:∀ H':Hp,ay H H'->Q #[284] H')
def kindOf(rows:LL)(a:LI)(q:Nat):NK:=(a.getD q 0,(rows.getD q []).map fun t=>sgn a t)
theorem acS{a:LI}(R:aC rows.length wide rows)(hi:i<rows.length)(hj:j<rows.length):kindOf rows a i=kindOf rows a j↔a.getD i 0=a.getD j 0/\∀ f:Nat,f<wide->sgn a (stepI rows (i:Int) f)=sgn a (stepI rows (j:Int) f):=by
 have li:=R.row _ (jM hi)
 have lj:=R.row _ (jM hj)
 unfold kindOf
 rw[getD_at hi (d:=[]),getD_at hj (d:=[])]
 have st:∀ (q:Nat) (hq:q<rows.length) (f:Nat) (hf:f<rows[q].length),stepI rows (q:Int) (f:Int)=rows[q][f]:=fun q hq f hf=>by
  unfold stepI
  rw[jB,jB,getD_at hq,getD_at hf]
 constructor
 ·intro h
  refine⟨congrArg Prod.fst h,fun f hf=>?_⟩
  have h2:=congrArg Prod.snd h
  have:=congrArg (fun l=>l[f]?) h2
  simp only[jO]at this
  rw[jC (show f<rows[i].length by omega),jC (show f<rows[j].length by omega)]at this
  rw[st i hi f #[0],st j hj f #[0]]
  exact Option.some.inj this
 ·rintro⟨h1,h2⟩
  refine Prod.ext h1 (zV (by rw[aO,aO];omega) fun f g1 g2=>?_)
  rw[aO]at g1 g2
  rw[Jh,Jh]
  have:=h2 f #[0]
  rw[st i hi f g1,st j hj f g2]at this
  exact this
inductive wH (vs:List V) (H:Hp) (Q:VK) (E:XK):Prop
 | mk (z:Int) (_:vs=[.int z]) (_:Q #[284] H)
section
theorem dZ:aE ["_law_found","_law_wide_here","_law_row","_law_there","_law_sign"] ["_law_found","_law_wide_here"] (ar lA):=cV #[3]
theorem dF:aE ["_law_rows","_law_known","_law_q","_law_there"] ["_law_rows"] (ar mL):=cV #[3]
theorem fj:aE ["_law_marks","_law_rows","_law_kinds","_law_behind","_law_q","_law_kind"] ["_law_marks","_law_rows"] (ar lY):=cV #[3]
theorem rJ:aU ["_law_marks","_law_rows","_law_kinds","_law_behind","_law_q","_law_kind"] (ar lY) ["_law_there","_law_marks"] [none,some 0] ⟨.function,[#[48],("_law_there",.local),("_law_marks",.free)],false,false,[]⟩:=mz #[3]
theorem fk:aE ["_law_rows","_law_signs","_law_marks","_law_turn","_law_behind"] ["_law_rows","_law_signs"] (ar rq):=cV #[3]
theorem Tn(F:bL K "_law_whole" "_law_whole" oh dV f fd)(aZ:mg "isinstance" = none)(BS:mg "int" = none)(Cy:mg "bool" = none):bw P w K mg base eS 1 f fd ["_law_found"] wH:=by
 refine F.ok Au #[6] #[1]
 ·obtain⟨z,rfl,_⟩:=h
  rfl
 obtain⟨z,rfl,q⟩:=h
 refine⟨_,(ak (aJ (sY (az mw #[38] aZ cf (aa (pv 0) (aa (mZ (v:=.ty "int") rfl BS Ot rfl) af))) (Cm (Pg (az mw #[38] aZ cf (aa (pv 0) (aa (mZ (v:=.ty "bool") rfl Cy Q4 rfl) af)))))))),?_⟩
 exists 0
 refine⟨_,rfl,_,_,_,_,rfl,pX.int z,CI K,_,rfl,oU ?_⟩
 exact⟨_,rfl,_,_,_,_,rfl,pX.int z,BC K,_,rfl,q⟩
theorem Tq(F:bL K "_law_in_order" "_law_in_order" mL dV f fd)(aN:mg "len" = none)(aB:mg "range" = none):bw P w K mg base eS 1 f fd ["_law_rows"] MY:=by
 refine F.ok dF #[6] #[1]
 ·obtain⟨r,cN,wide,rows,rfl,_⟩:=h
  rfl
 obtain⟨r,cN,wide,rows,rfl,mH,hA,R,l1,O,q⟩:=h
 have af1:cN.length=rows.length:=hA.length
 refine⟨_,(ah (aD (i:=1) dF.nd aq)
   (ah (bq PassesOwn.never rfl #[234] (aL (i:=2) dF.nd) (ah (cK (bK aaS (pv 2) (pv 1) (bz _)) #[126] bB)
   (ak (bq PassesOwn.never rfl (ik (aF aI (pv 0) (pv 2) #[12])) (aL (i:=3) dF.nd) (ah (cK (bK Mq (pv 3) (pv 1) (bz _)) #[126] bB)
   (ak (cK (bK lJ (pv 3) (pv 1) (bz _)) (ak (aD (i:=1) dF.nd (aS dP (pv 1) aq))) bB)))))))
   #[126])),?_⟩
 exists 0
 refine⟨_,rfl,r,_,rfl,.inr (bV mH),_,rfl,by rw[aO];omega,by rw[aO];omega,?_⟩
 rw[aO,af1]
 refine cb (fun i σ' H'=>∃ (m:Nat) (v2 v3:OV),σ'=[some (.ref r),some (.int m),v2,v3]/\H'=H/\bO i m (rows.drop i)=some rows.length) ⟨1,none,none,rfl,rfl,O⟩ ?_ ?_
 ·rintro i σ' H' hi ⟨m,v2,v3,rfl,rfl,o⟩
  rw[jB]at hi
  rw[JJ]
  rw[jz hi]at o
  obtain⟨im,m1,o1,o2⟩:=Er o
  obtain⟨ra,e1,e2⟩:=hA.get hi
  refine⟨_,rfl,_,rfl,_,_,rfl,rfl,_,rfl,rP (fun c=>by omega) #[191]⟩
  exists _,rfl,_,rfl,r,_,_,_,rfl,rfl,bV mH,rG #[0] (by rw[jB];exact e1),ra,rfl,⟨_,bV e2⟩
  refine pH (K:=K) (xs:=rows[i].map V.int) (fun j σ' pf=>∃ (m':Nat) (v3:OV),σ'=[some (.ref r),some (.int m'),some (.int i),v3]/\pf=H'/\aY m' (rows[i].drop j)=some m1) ⟨m,v3,rfl,rfl,o1⟩ (fun j σ' pf _ ⟨_,_,_,e,_⟩=>by rw[e];exact bV e2) ?_ ?_
  ·rintro j y σ' pf hj ⟨m',v3,rfl,rfl,o3⟩
   obtain⟨t,rfl,ht⟩:=bp hj
   have jl:=fK ht
   rw[jz jl.1,jl.2]at o3
   have o4:(if t=(m':Int)then aY (m'+1) (rows[i].drop (j+1))else if t<(m':Int)then aY m' (rows[i].drop (j+1))else none)=some m1:=o3
   by_cases c:t=(m':Int)
   ·rw[if_pos c]at o4
    refine⟨_,rfl,_,rfl,_,_,rfl,rfl,_,rfl,rP (fun z=>by omega) #[191]⟩
    refine⟨_,rfl,_,rfl,rfl,_,rfl,LY #[191] (fun z=>absurd c z)⟩
    exact⟨_,rfl,_,_,rfl,rfl,m'+1,_,rfl,rfl,o4⟩
   ·rw[if_neg c]at o4
    by_cases d:t<(m':Int)
    ·rw[if_pos d]at o4
     refine⟨_,rfl,_,rfl,_,_,rfl,rfl,_,rfl,rP (fun z=>by omega) #[191]⟩
     exact⟨_,rfl,_,rfl,rfl,_,rfl,LY (fun z=>absurd z c) (fun _=>⟨m',_,rfl,rfl,o4⟩)⟩
    ·rw[if_neg d]at o4
     cases o4
  ·rintro σ' pf ⟨m',v3,rfl,rfl,o3⟩
   rw[aO,zU]at o3
   have e:m'=m1:=Option.some.inj o3
   subst e
   exact⟨m',_,_,rfl,rfl,o2⟩
 ·rintro σ' H' ⟨m,v2,v3,rfl,rfl,o⟩
  exact q
theorem O8(F:bL K "_law_is_machine" "_law_is_machine" lA dV f fd)(df:bQ P w K mg base "_law_whole" 1 ["_law_found"] [] wH)(aZ:mg "isinstance" = none)(aQ:mg "tuple" = none)(aN:mg "len" = none):bw P w K mg base eS 2 f fd ["_law_found","_law_wide_here"] Ct:=by
 refine F.ok dZ #[6] #[1]
 ·obtain⟨m,r,g,wide,rows,signs,rfl,_⟩:=h
  rfl
 obtain⟨m,r,g,wide,rows,signs,rfl,M,R,n0,ls,k⟩:=h
 obtain⟨cN,mH,hA⟩:=M.rows
 have af1:cN.length=rows.length:=hA.length
 have lsg:#[299].length=rows.length:=by rw[aO];exact ls
 have lrs:#[44].length=rows.length:=by rw[aO];exact af1
 refine wc (bc (mT.mk (cK (PW.pt (tH (ir (eJ (az mw #[38] aZ cf (aa (pv 0) #[116])))) (tH (bK Ep #[19] aq (bz _)) (tH (ir (eJ (bE df hr (aa #[5] af)))) (wy (bK Ep #[5] (pv 1) (bz _))))))) #[126] bB))
   (bc (mT.mk (cK (PW.pt (tH (ir (eJ (az mw #[38] aZ cf (aa #[5] #[116])))) (wy (ir (eJ (az mw #[38] aZ cf (aa #[5] #[116]))))))) #[126] bB))
   (bc (mT.mk (cK (PW.pt (tH (bK Mr #[93] aq (bz _)) (wy (bK Ep #[93] #[93] (bz _))))) #[126] bB))
   (bc (mT.mk (bq PassesOwn.never rfl (ik #[5]) (aL (i:=2) dZ.nd) (ah (cK (PW.pt (tH (ir (eJ (az mw #[38] aZ cf (aa (pv 2) #[116])))) (wy (bK Ep #[173] (pv 1) (bz _))))) #[126] bB)
   (ak (bq PassesOwn.never rfl (ik (pv 2)) (aL (i:=3) dZ.nd) (ak (cK (PW.pt (tH (ir (eJ (bE df hr #[107]))) (tH (bK Mr (pv 3) aq (bz _)) (wy (bK aaS (pv 3) #[93] (bz _)))))) #[126] bB)))))))
   (bc (mT.mk (bq PassesOwn.never rfl (ik #[5]) (aL (i:=4) dZ.nd) (ak (cK (ir (eJ (bE df hr #[106]))) #[126] bB))))
   (rC (mT.mk (aJ cM)))))))) ?_
 exists 0
 refine⟨_,rfl,_,_,_,_,rfl,pX.tup M.tup,fZ K,_,rfl,lQ ?_⟩
 refine⟨_,rfl,m,_,rfl,.inr (bV M.tup),rfl,_,rfl,Aq (fun z=>absurd rfl z) #[191]⟩
 refine⟨_,rfl,m,_,_,_,rfl,rfl,bV M.tup,rfl,_,rfl,_,rfl,lQ ?_⟩
 refine⟨_,rfl,m,_,_,_,rfl,rfl,bV M.tup,rfl,_,rfl,rfl,_,rfl,Aq (fun z=>absurd rfl z) #[191]⟩
 refine⟨_,rfl,m,_,_,_,rfl,rfl,bV M.tup,rfl,_,_,_,_,rfl,pX.tup mH,fZ K,_,rfl,lQ ?_⟩
 refine⟨_,rfl,m,_,_,_,rfl,rfl,bV M.tup,rfl,_,_,_,_,rfl,pX.tup M.sgn,fZ K,_,rfl,lQ ?_⟩
 refine⟨_,rfl,m,_,_,_,rfl,rfl,bV M.tup,rfl,r,_,rfl,.inr (bV mH),_,_,rfl,rfl,_,rfl,rP (fun z=>by omega) #[191]⟩
 refine⟨_,rfl,m,_,_,_,rfl,rfl,bV M.tup,rfl,r,_,rfl,.inr (bV mH),_,rfl,m,_,_,_,rfl,rfl,bV M.tup,rfl,g,_,rfl,.inr (bV M.sgn),rfl,_,rfl,Aq (fun z=>absurd (by rw[lsg,lrs]) z) #[191]⟩
 exists 3
 refine dh (t:=rZ _ _ _) (fun σ' H'=>∃ v2 v3:OV,σ'=[some #[73],some #[148],v2,v3,none]/\H'=H) ?_ #[41]
 rotate_left
 ·refine⟨_,rfl,m,_,_,_,rfl,rfl,bV M.tup,rfl,r,rfl,⟨_,bV mH⟩,pH (K:=K) (xs:=cN.map V.ref) (fun i σ' H'=>∃ v2 v3:OV,σ'=[some #[73],some #[148],v2,v3,none]/\H'=H) ⟨none,none,rfl,rfl⟩ (fun i σ' H' _ ⟨_,_,_,e⟩=>by rw[e];exact bV mH) ?_ (fun σ' H' h=>iK _ _ h)⟩
  rintro i y σ' H' hi ⟨v2,v3,rfl,rfl⟩
  have jl:i<rows.length:=by
   have:=(fK hi).1
   omega
  obtain⟨ra,e1,e2⟩:=hA.get jl
  have ey:y=.ref ra:=by rw[jO,e1]at hi;exact#[152].symm
  subst ey
  have lr:=R.row _ (jM jl)
  refine⟨_,rfl,_,_,_,_,rfl,pX.tup e2,fZ K,_,rfl,lQ ?_⟩
  refine⟨_,rfl,ra,_,rfl,.inr (bV e2),_,rfl,rfl,_,rfl,Aq (fun z=>absurd (by rw[aO,lr]) z) #[191]⟩
  refine⟨_,rfl,ra,rfl,⟨_,bV e2⟩,pH (K:=K) (xs:=rows[i].map V.int) (fun j σ' pf=>∃ v3:OV,σ'=[some #[73],some #[148],some (.ref ra),v3,none]/\pf=H') ⟨v3,rfl,rfl⟩ (fun j σ' pf _ ⟨_,_,e⟩=>by rw[e];exact bV e2) ?_ (fun σ' pf ⟨v3,e1,e2⟩=>⟨_,v3,e1,e2⟩)⟩
  rintro j y σ' pf hj ⟨v3,rfl,rfl⟩
  exists 64
  have zi:=R.val _ (jM jl) z (oz hz)
  refine⟨_,rfl,_,rfl,_,rfl,lQ ?_⟩
  refine⟨_,rfl,_,_,rfl,rfl,_,rfl,rP (fun c=>by omega) #[191]⟩
  refine⟨_,rfl,_,rfl,m,_,_,_,rfl,rfl,bV M.tup,rfl,r,_,rfl,.inr (bV mH),_,_,rfl,rfl,_,rfl,rP (fun c=>by omega) #[191]⟩
  exact⟨_,rfl,rfl⟩
 rintro σ' H' ⟨v2,v3,rfl,rfl⟩
 refine⟨_,rfl,m,_,_,_,rfl,rfl,bV M.tup,rfl,g,rfl,⟨_,bV M.sgn⟩,pH (K:=K) (xs:=signs.map V.int) (fun i σ' pf=>∃ v4:OV,σ'=[some #[73],some #[148],v2,v3,v4]/\pf=H') ⟨none,rfl,rfl⟩ (fun i σ' pf _ ⟨_,_,e⟩=>by rw[e];exact bV M.sgn) ?_ (fun σ' pf ⟨_,_,e⟩=>by rw[e];exact k)⟩
 rintro i y σ' pf hi ⟨v4,rfl,rfl⟩
 exists 53
 exact⟨_,rfl,_,rfl,_,rfl,lQ ⟨_,rfl,rfl⟩⟩
theorem Tp(F:bL K "_law_marked" "_law_marked" lY dV f fd)(aN:mg "len" = none)(aB:mg "range" = none)(aQ:mg "tuple" = none):bw P w K mg base eS 1 f fd ["_law_marks","_law_rows"] MX:=by
 refine F.ok fj #[6] #[1]
 ·obtain⟨l,r,cN,wide,rows,a,rfl,_⟩:=h
  rfl
 obtain⟨l,r,cN,wide,rows,a,rfl,hl,la,mH,hA,R,n1,w1,k⟩:=h
 have hu2:=aae hr
 have lrs:#[44].length=rows.length:=by rw[aO];exact hA.length
 refine wc (bc (mT.mk (aD (i:=2) fj.nd aaY))
   (bc (mT.mk (aD (i:=3) fj.nd (cX af)))
   (bc (aj6 PassesOwn.never rfl (br rfl aB (aa (az aA #[38] aN bx #[81]) af)) (aL (i:=4) fj.nd) (bc (aj8 (i:=5) fj.nd rfl #[248] (aeJ (lD (FG.mk (aF cY (pv 0) (pv 4) #[12])) (lD (FG.mk (aM aW #[38] aQ bW (aa (cT rfl rJ (ik (aF aI (pv 1) (pv 4) #[12])) (fun _ _ _ _=>(aL (i:=0) rJ.nd)) (fun _ _ _ _=>(aF (Bx K) (pv 1) (pv 0) #[12]))) af))) PV))))
   (bc (mT.mk (cK (AR (Tz hu2 (pv 5) (pv 2)) #[60]) (ak (adv hu2 (pv 2) (pv 5) (az Sl #[38] aN bx #[63]) rfl)) bB))
   (rC (mT.mk (bJ (fc Yj Yk Yl bD (pv 3) (aa (adp hu2 (pv 2) (pv 5) #[12]) af))))))))
   (rC (mT.mk (aJ (pv 3))))))) ?_
 exists 0
 refine fun D hD=>?_
 have sD:=aj hD (oH P w D [])
 refine⟨#[24],fun B hB=>?_⟩
 have sB:=aj hB #[230]
 have nDB:D≠B:=ao ae hB
 have fB:H B=none:=sD.free hB
 have kin:∀ i,i<rows.length->∀ t∈rows.getD i [],0<=t/\t<(a.length:Int):=fun i hi t ht=>by
  rw[getD_at hi]at ht
  have:=R.val _ (jM hi) t ht
  omega
 exists 3
 refine⟨_,rfl,r,_,rfl,.inr (bV (sB _ _ (sD _ _ mH))),_,rfl,by omega,by omega,?_⟩
 rw[lrs]
 refine cb (fun i σ' H'=>∃ (ks:List (NK×Qo)) (b:LI) (v4 v5:OV),σ'=[some #[202],some (.ref r),some #[86],some (.ref B),v4,v5]/\ay H H'/\H' D=some (oH P w D ks)/\Bb H' ks/\H' B=some (.lst (b.map V.int))/\b.length=i/\ks.length<=i/\#[182].Nodup/\∀ j,j<i->∃ n:Nat,b[j]?=some (n:Int)/\#[182][n]?=some (kindOf rows a j))
  ⟨[],[],none,none,rfl,sD.trans sB,sB _ _ ae,(fun p hp=>by cases hp),ae,rfl,jF _,JZ,fun j hj=>absurd hj (zP _)⟩ ?_ ?_
 ·rintro i σ' H2 hi ⟨ks,b,v4,v5,rfl,s2,F5,nk2,hB2,lb,lk,nd,inv⟩
  rw[jB]at hi
  rw[JJ]
  obtain⟨ra,e1,e2⟩:=hA.get hi
  have lr:=R.row _ (jM hi)
  have hl2:=s2 _ _ hl
  have ra2:=s2 _ _ e2
  refine⟨_,rfl,_,rfl,l,_,_,_,rfl,rfl,bS hl2,cF #[0] #[0],?_⟩
  exists _,rfl,_,rfl,r,_,_,_,rfl,rfl,bV (s2 _ _ mH),rG #[0] (by rw[jB];exact e1),ra,rfl,⟨_,bV ra2⟩
  refine mx (K:=K) (xs:=rows[i].map V.int) (fun E j ys H'=>ay H2 H'/\ys=((rows[i].take j).map fun t=>sgn a t).map V.int) (fun E hE=>⟨aj hE _,rfl⟩) (fun E j ys H' _ p=>bV (p.1 _ _ ra2)) ?_ ?_
  ·rintro E j y ys H3 Q' hE hj hy ⟨s3,rfl⟩ k'
   obtain⟨t,rfl,ht⟩:=bp hj
   have jl:=(fK ht).1
   have ti:=kin i hi t (by rw[getD_at hi];exact oz ht)
   refine⟨_,rfl,_,rfl,l,_,_,_,rfl,rfl,bS (s3 _ _ hl2),cF ti.1 ti.2,k' _ _ hy #[57] ⟨au s3 hE,?_⟩⟩
   rw[jY,ht,jD,jD]
   rfl
  rintro E ys H3 hE hy ⟨s3,rfl⟩
  rw[aO,jV]at hy
  refine⟨E,_,rfl,.inl ⟨bS hy,fun c hc=>?_⟩⟩
  have sc:=aj hc (HO.tup ((rows[i].map fun t=>sgn a t).map V.int))
  refine⟨(by show 2<=sizeLine;decide),fun T hT=>?_⟩
  have sT:=aj hT (HO.tup [V.int (a.getD ((i:Int)).toNat 0),V.ref c])
  obtain⟨H4,wW⟩:∃ H4,upd (upd H3 c (HO.tup ((rows[i].map fun t=>sgn a t).map V.int))) T (HO.tup [V.int (a.getD ((i:Int)).toNat 0),V.ref c])=H4:=⟨_,rfl⟩
  have s24:ay H2 H4:=by rw[<- wW];exact s3.trans (sc.trans sT)
  have kT:oJ H4 (kindOf rows a i) T:=by
   refine⟨c,by rw[<- wW,ae,jB];rfl,?_⟩
   rw[<- wW,sT _ _ ae]
   unfold kindOf
   rw[getD_at hi (d:=[])]
  rw[wW]
  have SK:=s24 _ _ F5
  have nk4:=nk2.same fun b xs e=>s24 _ _ e
  have hB4:=s24 _ _ hB2
  exists 3
  refine dh (t:=adO _ _ _) (fun σ' H'=>∃ (tM:List (NK×Qo)) (n:Nat),σ'=[some #[202],some (.ref r),some #[86],some (.ref B),some (.int (i:Int)),some #[249]]/\ay H H'/\H' D=some (oH P w D tM)/\Bb H' tM/\oJ H' (kindOf rows a i) T/\H' B=some (.lst (b.map V.int))/\tM.length<=i+1/\(tM.map (·.1)).Nodup/\(tM.map (·.1))[n]?=some (kindOf rows a i)/\∀ (m:Nat) (k:NK),#[182][m]?=some k->(tM.map (·.1))[m]?=some k) ?_ #[41]
  rotate_left
  ·by_cases c1:kindOf rows a i∈ks.map (·.1)
   ·obtain⟨n,nl,en⟩:=jm c1
    exists _,rfl,_,rfl,D,T,kindOf rows a i,ks,rfl,rfl,SK,nk4,kT,_,rfl
    rw[decide_eq_true c1]
    refine lQ (iK _ _ ⟨ks,n,rfl,s2.trans s24,SK,nk4,kT,hB4,by omega,nd,by rw[jC nl,en],fun m k h=>h⟩)
   ·exists _,rfl,_,rfl,D,T,kindOf rows a i,ks,rfl,rfl,SK,nk4,kT,_,rfl
    rw[decide_eq_false c1]
    refine oU ?_
    refine⟨_,rfl,D,ks,rfl,SK,_,rfl,_,rfl,D,T,kindOf rows a i,ks,rfl,rfl,rfl,SK,nk4,kT,c1,aw #[0],?_⟩
    have up:∀ b xs,H4 b=some #[36]->(upd H4 D (oH P w D (ks++[(kindOf rows a i,T)]))) b=some #[36]:=fun b xs e=>by
     rw[ag (aG e SK #[2])];exact e
    refine iK _ _ ⟨ks++[(kindOf rows a i,T)],ks.length,rfl,au (s2.trans s24) hD,ae,?_,kT.same up,by rw[ag (Ne.symm nDB)];exact hB4,by rw[jH];exact Za lk,?_,?_,fun m k h=>?_⟩
    ·intro p hp
     rcases sU.mp hp with z|z
     ·exact(nk4 p z).same up
     ·rw[jG.mp z];exact kT.same up
    ·rw[jD]
     exact JQ.mpr ⟨nd,jy.mpr ⟨by simp,JZ⟩,fun x hx y hy z=>c1 (by have e1:y=kindOf rows a i:=jG.mp hy;rw[<- e1,<- z];exact hx)⟩
    ·rw[jD,JK (by rw[aO];exact jF _),aO,Jv]
     rfl
    ·rw[jD,JG (fK h).1]
     exact h
  rintro σ' H5 ⟨tM,n,rfl,s5,SM,nk5,kT5,hB5,lk',Ik,hn,keep⟩
  refine⟨_,rfl,.inl ⟨rfl,_,bS hB5⟩,_,rfl,_,rfl,D,T,kindOf rows a i,tM,n,rfl,rfl,SM,nk5,kT5,hn,B,_,_,rfl,rfl,hB5,aw #[30],?_⟩
  have up:∀ c xs,H5 c=some #[36]->(upd H5 B (.lst (b.map V.int++[V.int (n:Int)]))) c=some #[36]:=fun c xs e=>by
   rw[ag (aG e hB5 #[2])];exact e
  refine⟨tM,b++[(n:Int)],_,_,rfl,au s5 fB,by rw[ag nDB];exact SM,nk5.same up,by rw[ae,jD];rfl,by rw[jH,lb];rfl,lk',Ik,fun j hj=>?_⟩
  by_cases c2:j<i
  ·obtain⟨m,h1,h2⟩:=inv j c2
   exact⟨m,by rw[JG #[0]];exact h1,keep m _ h2⟩
  ·have:j=i:=by omega
   subst this
   exact⟨n,by rw[JK #[0],lb,Jv];rfl,hn⟩
 ·rintro σ' H2 ⟨ks,b,v4,v5,rfl,s2,F5,nk2,hB2,lb,lk,nd,inv⟩
  rw[jB]at lb inv
  refine⟨_,rfl,k B _ b s2 hB2 ⟨la,lb,fun i j hi hj=>?_⟩⟩
  rw[<- acS R hi hj]
  obtain⟨m,h1,h2⟩:=inv i hi
  obtain⟨n,g1,g2⟩:=inv j hj
  rw[jI,jI,h1,g1]
  constructor
  ·intro e
   have:m=n:=by have e':(m:Int)=(n:Int):=e;omega
   subst this
   rw[h2]at g2
   exact Option.some.inj g2
  ·intro e
   rw[<- e]at g2
   obtain⟨x1,y1⟩:=fK h2
   obtain⟨x2,y2⟩:=fK g2
   have:m=n:=(JT nd).mp (y1.trans y2.symm)
   rw[this]
theorem O9(F:bL K "_law_parted" "_law_parted" rq dV f fd)(pT:bQ P w K mg base "_law_marked" 1 ["_law_marks","_law_rows"] [] MX)(eK:mg "list" = none)(BU:mg "set" = none)(aN:mg "len" = none)(aB:mg "range" = none):bw P w K mg base eS 2 f fd ["_law_rows","_law_signs"] Hs:=by
 refine F.ok fk #[6] #[1]
 ·obtain⟨r,g,cN,wide,rows,signs,rfl,_⟩:=h
  rfl
 obtain⟨r,g,cN,wide,rows,signs,rfl,mH,hA,R,⟨n0,n1⟩,w1,hg,ls,AP,k⟩:=h
 have lrs:#[44].length=rows.length:=by rw[aO];exact hA.length
 refine wc (bc (mT.mk (aD (i:=2) fk.nd (aM Bo #[38] eK wQ #[81])))
   (bc (mT.mk (bq PassesOwn.never rfl #[234] (aL (i:=3) fk.nd) (ah (aD (i:=4) fk.nd (bE pT hr (aa (pv 2) #[163])))
   (ah (cK (bK lJ (az wU #[38] aN bx (aa (aM (rL rfl) #[38] BU DP #[106]) af)) #[124] (bz _)) (ak (aJ (hJ lJ #[124] #[19] (bz _)))) bB)
   (ak (aD (i:=2) fk.nd (pv 4)))))))
   (rC (mT.mk (aJ (hJ lJ #[124] #[19] (bz _))))))) ?_
 exists 0
 refine⟨_,rfl,g,_,rfl,.inr (bV hg),fun l0 hl0=>?_⟩
 have s0:=aj hl0 (HO.lst #[299])
 exists 3
 have o1:1<=(aK signs).length:=Ja (dk.mpr (jM (show 0<signs.length by omega)))
 refine⟨_,rfl,r,_,rfl,.inr (bV (s0 _ _ mH)),_,rfl,by omega,by omega,?_⟩
 rw[lrs]
 refine cb (fun t σ' H'=>∃ (l:Qo) (a:LI) (v3 v4:OV),σ'=[some (.ref r),some (.ref g),some #[202],v3,v4]/\ay H H'/\H' l=some (.lst (a.map V.int))/\a.length=rows.length/\tR signs a/\t+1<=(aK a).length)
  ⟨l0,signs,none,none,rfl,s0,ae,ls,⟨rfl,fun _ _ _ _ e=>e⟩,o1⟩ ?_ ?_
 ·rintro t σ' H1 ht ⟨l,a,v3,v4,rfl,s1,hl,la,fa,ta⟩
  refine⟨_,rfl,_,rfl,l,r,cN,wide,rows,a,rfl,hl,la,s1 _ _ mH,hA.same (fun b xs e=>s1 _ _ e),R,n1,w1,fun l' H2 b s2 hl' bh=>?_⟩
  have lb:=bh.2.1
  refine⟨_,rfl,l',b,rfl,hl',by omega,fun S hS=>?_⟩
  have t1:=aj hS (Be P w S (aK b))
  refine⟨S,aK b,rfl,ae,_,rfl,l,a,rfl,t1 _ _ (s2 _ _ hl),by omega,fun S2 hS2=>?_⟩
  have t2:=aj hS2 (Be P w S2 (aK a))
  have s4:=t1.trans t2
  have s3:=(s1.trans s2).trans s4
  refine⟨S2,aK a,rfl,ae,rfl,_,rfl,LY #[53] #[53]⟩
  ·have c':(aK b).length=(aK a).length:=by omega
   have done:=OZ R AP ls fa bh c'
   refine⟨_,rfl,l,a,rfl,s4 _ _ (s2 _ _ hl),by omega,fun S3 hS3=>?_⟩
   have t3:=aj hS3 (Be P w S3 (aK a))
   exists S3,aK a,rfl,ae,_,rfl,r,_,rfl,.inr (bV (t3 _ _ (s3 _ _ mH))),rfl
   rw[lrs,done,decide_eq_true rfl]
   exact k _ (s3.trans t3)
  ·have more:=O0 bh #[0]
   exact⟨_,rfl,l',b,_,_,rfl,s3,s4 _ _ hl',lb,fa.trans bh.X2,by omega⟩
 ·rintro σ' H1 ⟨l,a,v3,v4,rfl,s1,hl,la,fa,ta⟩
  exfalso
  rw[jB]at ta
  have:=rT a
  omega
end
theorem eA[DecidableEq α]:∀ {ps vs:List α},ps.Nodup->(∀ p∈ps,p∈vs)->ps.length<=vs.length
 | [],_,_,_=>jd _
 | p :: ps,vs,nd,h=>by
  have Ik:=jy.mp nd
  have hp:=h p jE
  have:=eA (vs:=vs.erase p) Ik.2 fun q hq=>(zC (show q≠p from fun z=>Ik.1 (by rw[<- z];exact hq))).mpr (h q (jJ _ hq))
  rw[zI hp]at this
  have:=Ja hp
  rw[jc]
  omega
def subs:LI->LL
 | []=>[[]]
 | a :: r=>subs r++(subs r).map fun u=>a :: u
theorem N3:∀ r:LI,(subs r).length=2^r.length
 | []=>rfl
 | a :: r=>by
  show(subs r++(subs r).map fun u=>a :: u).length=_
  rw[jH,aO,N3 r,jc,Nat.pow_succ]
  omega
theorem EN(φ:Int->Bool):∀ r:LI,r.filter φ∈subs r
 | []=>jE
 | a :: r=>by
  show _∈subs r++(subs r).map fun u=>a :: u
  cases c:φ a with
  | true=>rw[JD c];exact jP _ (jN.mpr ⟨_,EN φ r,rfl⟩)
  | false=>rw[JB (by rw[c];decide)];exact jb _ (EN φ r)
theorem LX(n:Nat):((jZ n).map fun q:Nat=>(q:Int)).Pairwise (·<·):=by
 rw[Je]
 exact List.Pairwise.imp (fun h=>Qi.mpr h) zr
theorem agw(so:u.Pairwise (·<·))(h:∀ q∈u,0<=q/\q<(n:Int)):u∈subs ((jZ n).map fun q:Nat=>(q:Int)):=by
 have e:u=((jZ n).map fun q:Nat=>(q:Int)).filter fun q=>decide (q∈u):=by
  refine Ae so (List.Pairwise.filter _ (LX n)) fun q=>?_
  rw[ju,decide_eq_true_iff]
  refine⟨fun hq=>⟨?_,hq⟩,fun hq=>hq.2⟩
  obtain⟨q0,q1⟩:=h q hq
  exact jN.mpr ⟨q.toNat,je.mpr #[0],by omega⟩
 rw[e]
 exact EN _ _
def J7(many:Nat)(u:LI):Prop:=u.Pairwise (·<·)/\∀ q∈u,0<=q/\q<(many:Int)
theorem AQ{ps:LL}(nd:ps.Nodup)(h:∀ p∈ps,J7 many p):ps.length<=2^many:=by
 have:=eA nd fun p hp=>agw (h p hp).1 (h p hp).2
 rw[N3,aO,jq]at this
 exact this
def tJ(rows:LL)(b many:Nat)(lo:Int)(N:Nat)(p:LI):Prop := ∃ v,Am N v/\Co #[206] [0] v=p
section
variable{b:Nat}
theorem ae8(u:LI)(f:Nat):J7 many (oO rows b many lo u f):=⟨mY ..,fun q hq=>(fx.mp hq).1⟩
theorem tJ.start:tJ rows b many lo N [0]:=⟨[],(fun f h=>by cases h),rfl⟩
theorem tJ.step{p:LI}(h:tJ rows b many lo N p){f:Nat}(hf:f<N):tJ rows b many lo N (oO rows b many lo p f):=by
 obtain⟨v,hv,e⟩:=h
 refine⟨v++[(f:Int)],fun g hg=>?_,?_⟩
 ·rcases sU.mp hg with z|z
  ·exact hv g z
  ·rw[jG.mp z];omega
 ·rw[rU,e,jB]
theorem tJ.ok(m0:1<=many)(h:tJ rows b many lo N p):J7 many p:=by
 obtain⟨v,hv,e⟩:=h
 subst e
 have:∀ (v:LI) (u:LI),J7 many u->J7 many (Co #[206] u v):=by
  intro v
  induction v with
  | nil=>intro u hu;exact hu
  | cons f v ih=>intro u hu;exact ih _ (ae8 u f.toNat)
 exact this v [0] ⟨zN _ _,fun q hq=>by rw[jG.mp hq];omega⟩
theorem tJ.all(h0:[0]∈ms)(h:∀ p∈ms,∀ f:Nat,f<N->oO rows b many lo p f∈ms)(hp:tJ rows b many lo N p):p∈ms:=by
 obtain⟨v,hv,e⟩:=hp
 subst e
 have:∀ (v:LI) (u:LI),u∈ms->Am N v->Co #[206] u v∈ms:=by
  intro v
  induction v with
  | nil=>intro u hu _;exact hu
  | cons f v ih =>
   intro u hu hi
   have hf:=hi f jE
   exact ih _ (h u hu f.toNat #[0]) fun g hg=>hi g (jJ _ hg)
 exact this v [0] h0 hv
theorem FF.rch{ps mD:LL}(g:FF #[206] [0] N ps mD)(h:mD.length=ps.length):p∈ps↔tJ rows b many lo N p:=
 ⟨fun hp=>g.re p hp,fun⟨v,hv,e⟩=>by
  obtain⟨k,_,h2⟩:=g.told h hv
  rw[e]at h2
  exact oz h2⟩
theorem RK{ps:LL}(nd:ps.Nodup)(Ik:ms.Nodup)(h:∀ p,p∈ps↔tJ rows b many lo N p)(h':∀ p,p∈ms↔tJ rows b many lo N p):ps.length=ms.length:=
 ZH (eA nd fun p hp=>(h' p).mpr ((h p).mp hp)) (eA Ik fun p hp=>(h p).mpr ((h' p).mp hp))
theorem wV:EW ks ps=1↔∃ p∈ps,p∈ks:=by
 unfold EW
 rw[Qe]
 constructor
 ·intro h
  by_cases c:ps.any (id ∘ fun p=>decide (p∈ks))=true
  ·obtain⟨p,hp,e⟩:=Ji.mp c
   exact⟨p,hp,of_decide_eq_true e⟩
  ·rw[if_neg c]at h
   cases h
 ·rintro⟨p,hp,hk⟩
  exact if_pos (Ji.mpr ⟨p,hp,decide_eq_true hk⟩)
theorem Ox(ks ps:LI):EW ks ps=0\/EW ks ps=1:=by
 unfold EW
 split
 ·exact .inr rfl
 ·exact .inl rfl
theorem Oy{BJ:LI}(h:(∃ p∈ps,p∈ks)↔∃ p∈BJ,p∈tM):EW ks ps=EW tM BJ:=by
 have e:EW ks ps=1↔EW tM BJ=1:=by rw[wV,wV];exact h
 rcases Ox ks ps with z|z
 ·rcases Ox tM BJ with y|y
  ·rw[z,y]
  ·rw[e.mpr y]at z;cases z
 ·rw[z,e.mp z]
variable{at_:Nat}{k:Nat}
theorem K8.eq(h:K8 rows signs lo b many ks)(h':K8 rows signs lo b many tM)(q0:0<=q/\q<(many:Int)):q∈ks↔q∈tM:=
 ⟨fun z=>h'.2.2 q q0.1 q0.2 (h.2.1 q z).2,fun z=>h.2.2 q q0.1 q0.2 (h'.2.1 q z).2⟩
theorem rF.told(h:rF b N many lo rows signs ax signs' k)(m0:1<=many):∃ ks,K8 rows signs lo b many ks/\∀ v,Am N v->sgn signs' (aR ax v 0)=EW ks (Co #[206] [0] v):=by
 exists 70
 refine⟨ks,W,fun v hv=>?_⟩
 obtain⟨j,h1,h2⟩:=G.told el hv
 rw[<- LO.tells v hv,h1]
 unfold sgn
 rw[jB,jI,jO,h2]
 rfl
theorem rF.one(h:rF b N many lo rows signs ax signs' k)(h2:rF b N many lo rows signs eP Pw k2)(m0:1<=many):(ax=eP/\signs'=Pw)/\k=k2:=by
 exists 70
 obtain⟨ks2,ps2,anL,W2,G2,el2,LO2,en2⟩:=h2.ex
 refine⟨dJ.one LO LO2 fun v hv=>?_,?_⟩
 ·obtain⟨j,h1,h2⟩:=G.told el hv
  obtain⟨j2,h3,h4⟩:=G2.told el2 hv
  rw[h1,h3]
  unfold sgn
  rw[jB,jB,jI,jO,h2,jI,jO,h4]
  have o:=(tJ.ok m0 (⟨v,hv,rfl⟩:tJ rows b many lo N _)).2
  exact Oy ⟨fun⟨p,hp,z⟩=>⟨p,hp,(W.eq W2 (o p hp)).mp z⟩,fun⟨p,hp,z⟩=>⟨p,hp,(W.eq W2 (o p hp)).mpr z⟩⟩
 ·rw[en,en2]
  exact RK G.nd G2.nd (fun p=>G.rch el) fun p=>G2.rch el2
theorem DY(Z:Sf b n wd N at_)(R:aC many wd rows)(SS:lX many rows signs)(W:K8 rows signs #[14] b many ks)(o:J7 many u):EW ks (oO rows b many #[14] u 0)=EW ks u:=by
 have hb:=Z.hb
 have tG:∀ f∈eD 0 b #[14],0<=f/\f<(wd:Int):=BR (M:=(b:Int)^(n-1-at_)) Z.l2.1 #[0] Z.e2 #[0] (by rw[<- Z.f2];have:=Z.nl;omega)
 refine Oy ⟨fun⟨q,hq,hk⟩=>?_,fun⟨p,hp,hk⟩=>?_⟩
 ·obtain⟨q0,p,hp,f,hf,e⟩:=fx.mp hq
  refine⟨p,hp,W.2.2 p (o.2 p hp).1 (o.2 p hp).2 (bR.step (f:=f) (by rw[rH];exact hf) (by rw[e];exact(W.2.1 q hk).2))⟩
 ·obtain⟨row,acH,hg⟩:=(W.2.1 p hk).2
  have p0:=o.2 p hp
  cases row with
  | nil =>
   have hg':p∈ff signs 1 many:=hg
   have s1:=(dR.mp hg').2.2
   have z:(0:Int)∈eD 0 b #[14]:=by
    rw[<- rH]
    exact jN.mpr ⟨0,je.mpr #[0],by omega⟩
   have w1:=Z.wl
   have q0:=fU R p0.1 p0.2 (show(0:Int)<=0 by omega) (show(0:Int)<(wd:Int) by omega)
   refine⟨stepI rows p 0,fx.mpr ⟨q0,p,hp,0,z,rfl⟩,W.2.2 _ q0.1 q0.2 (bR.goal (dR.mpr ⟨q0.1,q0.2,?_⟩))⟩
   rw[SS p p0.1 p0.2]
   exact s1
  | cons f row =>
   have hf:f∈eD 0 b #[14]:=by rw[<- rH];exact acH f jE
   have q0:=fU R p0.1 p0.2 (tG f hf).1 (tG f hf).2
   exact⟨stepI rows p f,fx.mpr ⟨q0,p,hp,f,hf,rfl⟩,W.2.2 _ q0.1 q0.2 ⟨row,fun g hg=>acH g (jJ _ hg),hg⟩⟩
theorem rF.agv(h:rF b N many #[14] rows signs ax signs' k)(Z:Sf b n wd N at_)(R:aC many wd rows)(SS:lX many rows signs)(m0:1<=many):lX ax.length ax signs' := fun q q0 q1=>by
 obtain⟨ks,W,t⟩:=h.told m0
 obtain⟨_,_,_,_,_,_,LO,_⟩:=h.ex
 obtain⟨i,rfl⟩:=cZ q0
 obtain⟨v,hv,e⟩:=LO.ord.RL LO.ok i #[0]
 have hN:=Z.nl
 have hv':Am N (v++[0]):=fun g hg=>by
  rcases sU.mp hg with z|z
  ·exact hv g z
  ·rw[jG.mp z];omega
 have t1:=t v hv
 have t2:=t (v++[0]) hv'
 rw[rU,Int.toNat_zero,DY Z R SS W (tJ.ok (b:=b) (rows:=rows) (lo:=(b:Int)^at_) (N:=N) m0 ⟨v,hv,rfl⟩),<- t1]at t2
 have ew:aR ax (v++[0]) 0=stepI ax (i:Int) 0:=by
  unfold aR at e ⊢
  rw[JM,e]
  rfl
 rw[ew,e]at t2
 exact t2
end
def J0(ms:LL):List #[84]:=ms.map fun p=>(lF p,V.bl true)
theorem Rt(ms:LL):(J0 ms).length=ms.length:=jW _
theorem Eg:∀ {ms:LL} {u:LI},u∉ms->eR (J0 ms) (lF u)=none
 | [],_,_=>rfl
 | p :: ms,u,h=>by
  rw[show J0 (p :: ms)=(lF p,V.bl true) :: J0 ms from rfl,ft (fun z=>h (by rw[<- BB z];exact jE))]
  exact Eg fun z=>h (jJ _ z)
theorem L4:∀ {ms:LL} {u:LI},u∈ms->eR (J0 ms) (lF u)=some #[284]
 | p :: ms,u,h=>by
  by_cases e:p=u
  ·subst e;exact mF rfl
  ·rw[show J0 (p :: ms)=(lF p,V.bl true) :: J0 ms from rfl,ft (fun z=>e (BB z))]
   exact L4 ((jU.mp h).resolve_left (Ne.symm e))
theorem acT(h:u∉ms):putK (J0 ms) (lF u) (V.bl true)=J0 (ms++[u]):=by
 rw[MD _ (Eg h)]
 unfold J0
 rw[jD]
 rfl
theorem Hi{g:Int}{b:Nat}(l0:0<lo)(b0:0<b)(ew:(wide:Int)=lo*b*M)(g0:0<=g)(g1:g<lo*M):iX rows ps (pG wide b lo g) many=iX rows ps (eD g b lo) many:=
 Mi fun f=>by rw[Cw (M:=M) l0 b0 g0 g1,Cc,ew]
theorem HV{g:Int}:∀ f∈pG wide b lo g,0<=f/\f<(wide:Int):=fun f hf=>(Cc.mp hf).1
theorem aH.last:∀ {was:List Qo} {ws:LL},aH H was ws->was≠[]->∃ (Dh:List Qo) (wa:Qo) (mQ:LL) (p:LI),was=Dh++[wa]/\ws=mQ++[p]/\aH H Dh mQ/\H wa=some (.tup (p.map V.int))
 | _,_,.nil,h=>absurd rfl h
 | _,_,.cons (a:=a) (b:=p) r .nil,_=>⟨[],a,[],p,rfl,rfl,.nil,r⟩
 | _,_,.cons r (.cons r2 t),_=>by
  obtain⟨Dh,wa,mQ,q,e1,e2,h1,h2⟩:=aH.last (.cons r2 t) #[10]
  exact⟨_ :: Dh,wa,_ :: mQ,q,by rw[e1];rfl,by rw[e2];rfl,.cons r h1,h2⟩
structure Sts(rows:LL)(b many:Nat)(lo:Int)(N:Nat)(ms ws:LL):Prop where
 nd:ms.Nodup
 sub:∀ p∈ws,p∈ms
 re:∀ p∈ms,tJ rows b many lo N p
 z:[0]∈ms
 cl:∀ p∈ms,p∈ws\/∀ f:Nat,f<N->oO rows b many lo p f∈ms
structure U7(rows:LL)(b many:Nat)(lo:Int)(N:Nat)(ms ws:LL)(p:LI)(i:Nat):Prop where
 nd:ms.Nodup
 sub:∀ p∈ws,p∈ms
 re:∀ p∈ms,tJ rows b many lo N p
 z:[0]∈ms
 cl:∀ q∈ms,q∈ws\/q=p\/∀ f:Nat,f<N->oO rows b many lo q f∈ms
 pm:p∈ms
 now:∀ f:Nat,f<i->oO rows b many lo p f∈ms
section
variable{b:Nat}{ws:LL}
theorem Sts.start(h:Sts rows b many lo N ms (ws++[p])):U7 rows b many lo N ms ws p 0:=
 ⟨h.nd,fun q hq=>h.sub q (jb _ hq),h.re,h.z,fun q hq=>by
  rcases h.cl q hq with y|y
  ·rcases sU.mp y with y|y
   ·exact .inl y
   ·exact .inr (.inl (jG.mp y))
  ·exact .inr (.inr y),h.sub p (jP _ jE),fun f hf=>by omega⟩
theorem U7.old(h:U7 rows b many lo N ms ws p i)(o:oO rows b many lo p i∈ms):U7 rows b many lo N ms ws p (i+1):=
 ⟨h.nd,h.sub,h.re,h.z,h.cl,h.pm,fun f hf=>by
  by_cases e:f=i
  ·rw[e];exact o
  ·exact h.now f #[0]⟩
theorem U7.new(h:U7 rows b many lo N ms ws p i)(hi:i<N)(o:oO rows b many lo p i∉ms):U7 rows b many lo N (ms++[oO rows b many lo p i]) (ws++[oO rows b many lo p i]) p (i+1):=by
 refine⟨?_,fun q hq=>?_,fun q hq=>?_,jb _ h.z,fun q hq=>?_,jb _ h.pm,fun f hf=>?_⟩
 ·exact JQ.mpr ⟨h.nd,zN _ _,fun a ha c hc=>by rw[jG.mp hc];intro z;exact o (z ▸ ha)⟩
 ·rcases sU.mp hq with y|y
  ·exact jb _ (h.sub q y)
  ·exact jP _ y
 ·rcases sU.mp hq with y|y
  ·exact h.re q y
  ·rw[jG.mp y];exact(h.re p h.pm).step hi
 ·rcases sU.mp hq with y|y
  ·rcases h.cl q y with y|y|y
   ·exact .inl (jb _ y)
   ·exact .inr (.inl y)
   ·exact .inr (.inr fun f hf=>jb _ (y f hf))
  ·exact .inl (jP _ y)
 ·by_cases e:f=i
  ·rw[e];exact jP _ jE
  ·exact jb _ (h.now f #[0])
theorem U7.done(h:U7 rows b many lo N ms ws p N):Sts rows b many lo N ms ws:=
 ⟨h.nd,h.sub,h.re,h.z,fun q hq=>by
  rcases h.cl q hq with y|y|y
  ·exact .inl y
  ·rw[y];exact .inr h.now
  ·exact .inr y⟩
end
inductive abu (K:Yh) (vs:List V) (H:Hp) (Q:VK) (E:XK):Prop
 | mk (m bl r g:Qo) (oy:List Qo) (H0:Hp) (many wd N b n at_:Nat) (rows:LL) (signs:LI) (_:vs=[.ref m,.ref bl]) (_:bG H m r g wd rows signs) (_:aC many wd rows) (_:(1<=many/\many<=5)) (_:Sf b n wd N at_) (_:ByL H0 H bl oy N wd b #[14]) (_:∀ (ms:LL) (H':Hp),ay H H'->ms.Nodup->(∀ p,p∈ms↔tJ rows b many #[14] N p)->Q (.int (ms.length:Nat)) H')
section
theorem fz:aE ["_law_machine_here","_law_by_left_here","_law_met","_law_waiting","_law_place","_law_ways_there","_law_there"] ["_law_machine_here","_law_by_left_here"] (ar wA):=cV #[3]
theorem adf(F:bL K "_law_sets" "_law_sets" wA dV f fd)(iA:bQ P w K mg base "_law_next" 1 ["_law_place","_law_machine_here","_law_ways_there"] [] (Py K))(aN:mg "len" = none):bw P w K mg base eS 2 f fd ["_law_machine_here","_law_by_left_here"] (abu K):=by
 refine F.ok fz #[6] #[1]
 ·obtain⟨m,bl,r,g,oy,H0,many,wd,N,b,n,at_,rows,signs,rfl,_⟩:=h
  rfl
 obtain⟨m,bl,r,g,oy,H0,many,wd,N,b,n,at_,rows,signs,rfl,M,R,n1,Z,B,k⟩:=h
 exists 98
 refine wc (bc (mT.mk (aD (i:=2) fz.nd (Mv hu (Eu (cE (aa aq af)) cM Ir))))
   (bc (mT.mk (aD (i:=3) fz.nd (cX (aa (cE (aa aq af)) af))))
   (bc (mT.mk (rW PassesOwn.never (bK Mq (az aA #[38] aN bx #[107]) aq (bz _)) (ah (aD (i:=4) fz.nd (Im Yj yl ym O4 (pv 3)))
   (ak (bq PassesOwn.never rfl (cI (pv 1)) (aL (i:=5) fz.nd) (ah (aD (i:=6) fz.nd (bE iA hr (aa (pv 4) (aa (pv 0) (aa (pv 5) af)))))
   (ak (cK (AR (Ac hu (pv 6) (pv 2)) #[60]) (ah (pM hu (pv 2) (pv 6) cM rfl)
   (ak (bJ (fc Yj Yk Yl bD (pv 3) (aa (pv 6) af))))) bB))))))))
   (rC (mT.mk (aJ (az FP #[38] aN bx #[63]))))))) ?_
 exists 0
 refine fun D hD=>?_
 have sD:=aj hD (HO.dT [])
 refine⟨#[45],fun t0 ht0=>⟨by rw[ag (ao ae ht0)];exact ae,t0,lF [0],.bl true,rfl,by rw[sM,ae];rfl,?_⟩⟩
 obtain⟨H1,eH1⟩:∃ H1,upd (upd (upd H D (HO.dT [])) t0 (HO.tup [V.int 0])) D (HO.dT [(lF [0],V.bl true)])=H1:=⟨_,rfl⟩
 have s1:ay H H1:=by rw[<- eH1];exact au (sD.trans (aj ht0 _)) hD
 have OK:H1 D=some (.dT (J0 [[0]])):=by rw[<- eH1,ae];rfl
 rw[eH1]
 refine⟨#[45],fun t1 ht1=>⟨#[45],fun L hL=>?_⟩⟩
 obtain⟨H2,EX⟩:∃ H2,upd (upd H1 t1 (HO.tup [V.int 0])) L (HO.lst [V.ref t1])=H2:=⟨_,rfl⟩
 have IA:ay H1 H2:=by rw[<- EX];exact(aj ht1 _).trans (aj hL _)
 have s2:=s1.trans IA
 have F5:=IA _ _ OK
 have Rg:H2 L=some (.lst ([t1].map V.ref)):=by rw[<- EX,ae];rfl
 have ht2:H2 t1=some (.tup ([(0:Int)].map V.int)):=by rw[<- EX,ag (ao ae hL),ae];rfl
 have fL:H L=none:=s1.free ((aj ht1 _).free hL)
 have nDL:D≠L:=ao (a:=D) (show(upd H1 t1 (HO.tup [V.int 0])) D=_ by rw[ag (ao OK ht1)];exact OK) hL
 rw[EX]
 have lo0:=Z.l2
 have hb:=Z.hb
 have hN:=Z.nl
 have U3:Sts rows b many #[14] N [[0]] [[0]]:=⟨zN _ _,fun p h=>h,fun p h=>by rw[jG.mp h];exact tJ.start,jE,fun p h=>.inl h⟩
 have Fm:∀ {ms ws:LL},Sts rows b many #[14] N ms ws->ms.length<=32:=fun st=>by
  have:=AQ st.nd fun p hp=>(st.re p hp).ok n1.1
  have h2:2^many<=2^5:=zE #[13] n1.2
  omega
 have ahU:∀ {ms ws:LL} {p:LI} {i:Nat},U7 rows b many #[14] N ms ws p i->ms.length<=32:=fun st=>by
  have:=AQ st.nd fun p hp=>(st.re p hp).ok n1.1
  have h2:2^many<=2^5:=zE #[13] n1.2
  omega
 exists 3
 refine dh (t:=wJ _ _) (fun σ' H'=>∃ (ms:LL) (v4 v5 v6:OV),σ'=[some #[73],some (.ref bl),some #[86],some #[285],v4,v5,v6]/\ay H H'/\H' D=some (.dT (J0 ms))/\Sts rows b many #[14] N ms []) ?_ #[41]
 rotate_left
 ·refine Ag (fun mm σ' H'=>∃ (ms ws:LL) (was:List Qo) (v4 v5 v6:OV),mm=2*(32-ms.length)+ws.length/\mm<=63/\σ'=[some #[73],some (.ref bl),some #[86],some #[285],v4,v5,v6]/\ay H H'/\H' D=some (.dT (J0 ms))/\H' L=some (.lst (was.map V.ref))/\aH H' was ws/\Sts rows b many #[14] N ms ws)
   ⟨_,[[0]],[[0]],[t1],none,none,none,rfl,by decide,rfl,s2,F5,Rg,.cons ht2 .nil,U3⟩ ?_
  rintro mm σ' H3 ⟨ms,ws,was,v4,v5,v6,rfl,m63,rfl,s3,AI,pZ,A3,st⟩
  have lw:=A3.length
  refine⟨_,rfl,L,_,rfl,.inl (bS pZ),_,_,rfl,rfl,_,rfl,rP #[53] #[53]⟩
  ·rw[aO]at c
   obtain⟨Dh,wa,mQ,p,rfl,rfl,A4,hwa⟩:=A3.last (fun z=>by rw[z]at c;exact absurd c #[13])
   have last:((Dh++[wa]).map V.ref)[((Dh++[wa]).map V.ref).length-1]?=some (.ref wa):=by
    rw[aO,jH,jX,QB,jO,JK (jF _),Jv]
    rfl
   have dl:((Dh++[wa]).map V.ref).dropLast=Dh.map V.ref:=by rw[jD];exact Zn
   refine⟨fun σ' H'=>∃ m',m'<2*(32-ms.length)+(mQ++[p]).length/\∃ (ms ws:LL) (was:List Qo) (v4 v5 v6:OV),m'=2*(32-ms.length)+ws.length/\m'<=63/\σ'=[some #[73],some (.ref bl),some #[86],some #[285],v4,v5,v6]/\ay H H'/\H' D=some (.dT (J0 ms))/\H' L=some (.lst (was.map V.ref))/\aH H' was ws/\Sts rows b many #[14] N ms ws,fun _ _ h=>h,?_⟩
   exists _,rfl,.inl ⟨rfl,_,bS pZ⟩,L,_,_,rfl,rfl,pZ,last
   rw[dl]
   obtain⟨H4,wW⟩:∃ H4,upd H3 L (HO.lst (Dh.map V.ref))=H4:=⟨_,rfl⟩
   have s4:ay H H4:=by rw[<- wW];exact au s3 fL
   have up4:∀ a xs,H3 a=some #[36]->H4 a=some #[36]:=fun a xs e=>by rw[<- wW,ag (aG e pZ #[2])];exact e
   have SK:H4 D=some (.dT (J0 ms)):=by rw[<- wW,ag nDL];exact AI
   have HX:H4 L=some (.lst (Dh.map V.ref)):=by rw[<- wW,ae]
   rw[wW]
   exists 3
   refine⟨_,rfl,bl,rfl,⟨_,bS (s4 _ _ B.at_)⟩,dj (K:=K) (xs:=oy.map V.ref) (fun i σ' H'=>∃ (ms' ws2:LL) (IP:List Qo) (v5 v6:OV),σ'=[some #[73],some (.ref bl),some #[86],some #[285],some (.ref wa),v5,v6]/\ay H H'/\H' D=some (.dT (J0 ms'))/\H' L=some (.lst (IP.map V.ref))/\aH H' IP ws2/\H' wa=some (.tup (p.map V.int))/\2*(32-ms'.length)+ws2.length<=2*(32-ms.length)+mQ.length/\U7 rows b many #[14] N ms' ws2 p i)
    ⟨ms,mQ,Dh,v5,v6,rfl,s4,SK,HX,A4.same up4,up4 _ _ hwa,jF _,st.start⟩ (fun i σ' H' _ ⟨_,_,_,_,_,_,e,_,_,_,_,_,_⟩=>bS (e _ _ B.at_)) ?_ ?_⟩
   ·rintro i y σ' H5 hi ⟨ms',ws2,IP,v5,v6,rfl,s5,SM,Oa,A5,hw5,le5,E8⟩
    have il:i<N:=by
     have:=(fK hi).1
     rw[aO,B.len]at this
     exact this
    obtain⟨la,e1,e2,e3⟩:=(B.same s5).get (g:=(i:Int)) #[0] #[0]
    rw[jB]at e1
    have ey:y=.ref la:=by rw[jO,e1]at hi;exact#[152].symm
    subst ey
    have po:=(E8.re p E8.pm).ok n1.1
    refine⟨_,rfl,_,rfl,_,rfl,wa,m,la,r,g,many,wd,p,_,rows,signs,rfl,hw5,M.same (fun a xs e=>s5 _ _ e),R,e3,by omega,po.2,HV,fun T H6 s6 hT=>?_⟩
    rw[Hi (M:=(b:Int)^(n-1-at_)) lo0.1 #[0] Z.e2 #[0] #[279]]at hT
    have hT':H6 T=some (.tup (#[219].map V.int)):=hT
    have hD6:=s6 _ _ SM
    have l5:=ahU E8
    have lw5:=A5.length
    have ana:=m63
    rw[jH,jX]at ana
    obtain⟨u,eu⟩:∃ u,oO rows b many #[14] p i=u:=⟨_,rfl⟩
    by_cases c:oO rows b many #[14] p i∈ms'
    ·have dg:eV H6 D #[249] (some #[284]):=by
      have z:=eV.t (k:=lF #[219]) hD6 (b:=T) (by rw[sM];exact hT')
      rw[L4 c]at z
      exact z
     refine⟨_,rfl,_,rfl,D,_,rfl,dg,_,rfl,lQ ?_⟩
     exact⟨ms',ws2,IP,_,_,rfl,s5.trans s6,hD6,s6 _ _ Oa,A5.same (fun a xs e=>s6 _ _ e),s6 _ _ hw5,le5,E8.old c⟩
    ·have dg:eV H6 D #[249] none:=by
      have z:=eV.t (k:=lF #[219]) hD6 (b:=T) (by rw[sM];exact hT')
      rw[Eg c]at z
      exact z
     refine⟨_,rfl,_,rfl,D,_,rfl,dg,_,rfl,oU ?_⟩
     have st7:=E8.new il c
     have l7:=ahU st7
     rw[jH,jX]at l7
     refine⟨_,rfl,_,rfl,D,_,rfl,A0.t (k:=lF #[219]) hD6 (by rw[sM];exact hT') (aw (by rw[Rt];omega)),?_⟩
     rw[acT c]
     have hL6:=s6 _ _ Oa
     have hL7:(upd H6 D (HO.dT (J0 (ms'++[oO rows b many #[14] p i])))) L=some (.lst (IP.map V.ref)):=by rw[ag (Ne.symm nDL)];exact hL6
     refine⟨_,rfl,.inl ⟨rfl,_,bS hL7⟩,_,rfl,L,_,_,rfl,rfl,hL7,aw #[30],?_⟩
     have up:∀ a xs,H6 a=some #[36]->(upd (upd H6 D (HO.dT (J0 (ms'++[oO rows b many #[14] p i])))) L (HO.lst (IP.map V.ref++[V.ref T]))) a=some #[36]:=fun a xs e=>by
      rw[ag (aG e hL6 #[2]),ag (aG e hD6 #[2])]
      exact e
     exact⟨ms'++[oO rows b many #[14] p i],ws2++[oO rows b many #[14] p i],IP++[T],_,_,rfl,au (au (s5.trans s6) hD) fL,by rw[ag nDL,ae],by rw[ae,jD];rfl,aH.snoc (A5.same fun a xs e=>up _ _ (s6 _ _ e)) (up _ _ hT'),up _ _ (s6 _ _ hw5),by rw[jH,jX,jH,jX];omega,st7⟩
   ·rintro σ' H5 ⟨ms',ws2,IP,v5,v6,rfl,s5,SM,Oa,A5,hw5,le5,E8⟩
    rw[aO,B.len]at E8
    exact⟨_,by rw[jH,jX];omega,ms',ws2,IP,_,v5,v6,rfl,by rw[jH,jX]at m63;omega,rfl,s5,SM,Oa,A5,E8.done⟩
  ·rw[aO]at c
   have e0:ws=[]:=zL.mp #[0]
   subst e0
   exact iK _ _ ⟨ms,v4,v5,v6,rfl,s3,AI,st⟩
 rintro σ' H3 ⟨ms,v4,v5,v6,rfl,s3,AI,st⟩
 exists _,rfl,D,_,rfl,AI
 rw[Rt]
 exact k ms H3 s3 st.nd fun p=>⟨st.re p,tJ.all st.z fun q hq=>(st.cl q hq).resolve_left #[10]⟩
end
inductive aey (vs:List V) (H:Hp) (Q:VK) (E:XK):Prop
 | mk (m r g:Qo) (wide:Nat) (rows:LL) (signs:LI) (_:vs=[.ref m,.int wide]) (_:bG H m r g wide rows signs) (_:aC rows.length wide rows) (_:(0<rows.length/\rows.length<=1000)) (_:(1<=wide/\wide<=1000)) (_:signs.length=rows.length) (_:mS rows) (_:Apart wide rows signs) (_:lX rows.length rows signs) (_:∀ H':Hp,ay H H'->Q #[284] H')
inductive RP (K:Yh) (vs:List V) (H:Hp) (Q:VK) (E:XK):Prop
 | mk (a m bl m' r g r' g':Qo) (oy:List Qo) (H0:Hp) (ns:LI) (many wd N b n at_ k:Nat) (rows ax:LL) (signs signs':LI) (_:vs=[.ref a,.ref m,.ref bl,.ref m']) (_:pk K H a #[37]) (_:ns.length<=63) (_:bG H m r g wd rows signs) (_:aC many wd rows) (_:signs.length=many) (_:(1<=many/\many<=5)) (_:Sf b n wd N at_) (_:ByL H0 H bl oy N wd b #[14]) (_:bG H m' r' g' N ax signs') (_:rF b N many #[14] rows signs ax signs' k) (_:∀ H':Hp,ay H H'->Q #[284] H')
theorem So{al:List Bool}(hp:∀ p∈ps,0<=p/\p<(many:Int))(h:∀ q:Int,0<=q->q<(many:Int)->(al.getD q.toNat false=true↔q∈ks)):lO al ps=EW ks ps:=by
 induction ps with
 | nil=>rfl
 | cons p ps ih =>
  have BV:=hp p jE
  by_cases c:p∈ks
  ·have e:al.getD p.toNat false=true:=(h p BV.1 BV.2).mpr c
   show(if al.getD p.toNat false=true then 1 else lO al ps)=_
   rw[if_pos e,wV.mpr ⟨p,jE,c⟩]
  ·have e:¬ al.getD p.toNat false=true:=fun z=>c ((h p BV.1 BV.2).mp z)
   show(if al.getD p.toNat false=true then 1 else lO al ps)=_
   rw[if_neg e,ih fun q hq=>hp q (jJ _ hq)]
   refine Oy ⟨fun⟨q,hq,hk⟩=>⟨q,jJ _ hq,hk⟩,fun⟨q,hq,hk⟩=>?_⟩
   rcases jU.mp hq with z|z
   ·exact absurd (z ▸ hk) c
   ·exact⟨q,z,hk⟩
section
theorem iI:aE ["_law_found","_law_wide_here","_law_q"] ["_law_found","_law_wide_here"] (ar dW):=cV #[3]
theorem cU:aE ["_law_script","_law_machine_here","_law_by_left_here","_law_found","_law_alive_here","_law_place","_law_here","_law_cell","_law_figure"] ["_law_script","_law_machine_here","_law_by_left_here","_law_found"] (ar tf):=cV #[3]
theorem af9(F:bL K "_law_is_steady_least" "_law_is_steady_least" dW dV f fd)(cL:bQ P w K mg base "_law_is_machine" 2 ["_law_found","_law_wide_here"] [] Ct)(mI:bQ P w K mg base "_law_in_order" 1 ["_law_rows"] [] MY)(pU:bQ P w K mg base "_law_parted" 2 ["_law_rows","_law_signs"] [] Hs)(aN:mg "len" = none)(aB:mg "range" = none):bw P w K mg base eS 3 f fd ["_law_found","_law_wide_here"] aey:=by
 refine F.ok iI #[6] #[1]
 ·obtain⟨m,r,g,wide,rows,signs,rfl,_⟩:=h
  rfl
 obtain⟨m,r,g,wide,rows,signs,rfl,M,R,⟨n0,n1⟩,⟨w0,w1⟩,ls,O,Ap,St,k⟩:=h
 obtain⟨cN,mH,hA⟩:=M.rows
 refine⟨_,(ah (cK (PW.pt (tH (ir (eJ (bE cL hr (aa (pv 0) #[81])))) (tH (ir (eJ (bE mI hr (aa #[5] af)))) (wy (ir (eJ (bE pU hr (aa #[5] (aa #[5] af))))))))) #[126] bB)
   (ah (bq PassesOwn.never rfl (br rfl aB (aa #[93] af)) (aL (i:=2) iI.nd) (ak (cK (bK Ep (aF aI #[5] (pv 2) #[12]) (aF aI #[5] (aF aI (aF aI #[5] (pv 2) #[12]) aq #[12]) #[12]) (bz _)) #[126] bB)))
   #[126])),?_⟩
 exists 0
 refine⟨_,rfl,_,rfl,m,r,g,wide,rows,signs,rfl,M,R,n0,ls,_,rfl,lQ ?_⟩
 refine⟨_,rfl,m,_,_,_,rfl,rfl,bV M.tup,rfl,r,cN,wide,rows,rfl,mH,hA,R,n1,O,_,rfl,lQ ?_⟩
 refine⟨_,rfl,m,_,_,_,rfl,rfl,bV M.tup,rfl,_,rfl,m,_,_,_,rfl,rfl,bV M.tup,rfl,r,g,cN,wide,rows,signs,rfl,mH,hA,R,⟨n0,n1⟩,w1,M.sgn,ls,Ap,fun H1 s1=>⟨_,rfl,lQ ?_⟩⟩
 have M1:=M.same fun a xs e=>s1 _ _ e
 obtain⟨anK,hr1,hA1⟩:=M1.rows
 have lra:(anK.map V.ref).length=rows.length:=by rw[aO];exact hA1.length
 refine⟨_,rfl,m,_,_,_,rfl,rfl,bV M1.tup,rfl,r,_,rfl,.inr (bV hr1),_,rfl,by omega,by omega,?_⟩
 refine cb (fun i σ' H'=>∃ v,σ'=[some #[73],some #[148],v]/\H'=H1) ⟨none,rfl,rfl⟩ ?_ ?_
 ·exists 85
  rw[lra,jB]at hi
  exists 73
  rw[z0]
  obtain⟨ra,rr,e1,e2,e3⟩:=oY hA1 R (show(0:Int)<=(i:Int) by omega) (show(i:Int)<(rows.length:Int) by omega) (show(0:Int)<=0 by omega) (show(0:Int)<(wide:Int) by omega)
  have q0:=fU R (show(0:Int)<=(i:Int) by omega) (show(i:Int)<(rows.length:Int) by omega) (show(0:Int)<=0 by omega) (show(0:Int)<(wide:Int) by omega)
  refine⟨_,rfl,m,_,_,_,rfl,rfl,bV M1.tup,rfl,_,rfl,g,_,_,_,rfl,rfl,bV M1.sgn,cF #[0] #[0],?_⟩
  exists _,rfl,m,_,_,_,rfl,rfl,bV M1.tup,rfl,_,rfl,m,_,_,_,rfl,rfl,bV M1.tup,rfl,_,rfl,r,_,_,_,rfl,rfl,bV hr1,e1,ra,_,_,_,rfl,rfl,bV e2,e3,g,_,_,_,rfl,rfl,bV M1.sgn,cF q0.1 #[0],rfl,_,rfl
  refine Aq (fun c=>absurd ?_ c) (fun c=>⟨_,rfl,rfl⟩)
  rw[St (i:Int) #[0] #[0]]
 ·exists 86
  exact k H' s1
theorem aaz(F:bL K "_law_agree" "_law_agree" tf dV f fd)(sj:bQ P w K mg base "_law_alive" 1 ["_law_machine_here","_law_bare"] [] (RQ K))(fu:bQ P w K mg base "_law_one_alive" 1 ["_law_place","_law_alive_here"] [] (EJ K))(iA:bQ P w K mg base "_law_next" 1 ["_law_place","_law_machine_here","_law_ways_there"] [] (Py K))(aN:mg "len" = none):bw P w K mg base eS 2 f fd ["_law_script","_law_machine_here","_law_by_left_here","_law_found"] (RP K):=by
 refine F.ok cU #[6] #[1]
 ·obtain⟨a,m,bl,m',r,g,r',g',oy,H0,ns,many,wd,N,b,n,at_,kk,rows,ax,signs,signs',rfl,_⟩:=h
  rfl
 obtain⟨a,m,bl,m',r,g,r',g',oy,H0,ns,many,wd,N,b,n,at_,kk,rows,ax,signs,signs',rfl,hS,Fp,M,R,ls,n1,Z,B,M',SO,k⟩:=h
 obtain⟨ks,W,tl⟩:=SO.told n1.1
 obtain⟨_,_,_,_,_,_,LO,_⟩:=SO.ex
 have hN:=Z.nl
 have hb:=Z.hb
 have lo0:=Z.l2
 refine⟨_,(ah (aD (i:=4) cU.nd (bE sj hr (aa (pv 1) (aa (aF cY (pv 2) aq #[12]) af))))
   (ah (aD (i:=5) cU.nd (cE (aa aq af)))
   (ah (aD (i:=6) cU.nd aq)
   (ah (bq PassesOwn.never rfl (cI (pv 0)) (aL (i:=7) cU.nd) (ah (cK (bK Ep #[174] (bE fu hr (aa (pv 5) #[106])) (bz _)) #[126] bB)
   (ah (aD (i:=8) cU.nd (aS de (pv 7) #[173]))
   (ah (aD (i:=5) cU.nd (bE iA hr (aa (pv 5) (aa (pv 1) (aa (aF cY (pv 2) (pv 8) #[12]) af)))))
   (ak (aD (i:=6) cU.nd (aF aI #[174] (pv 8) #[12])))))))
   (ak (aJ (hJ lJ #[174] (bE fu hr (aa (pv 5) #[106])) (bz _)))))))),?_⟩
 exists 0
 obtain⟨la,e1,e2,e3⟩:=B.get (g:=0) #[0] #[0]
 refine⟨_,rfl,_,rfl,bl,_,_,_,rfl,rfl,bS B.at_,e2,m,la,r,g,many,wd,_,rows,signs,rfl,M,R,ls,by omega,e3,HV,fun L H1 al s1 hL lal hal=>?_⟩
 have fm:∀ f,f∈DJ #[14] b↔f∈pG wd b #[14] 0:=fun f=>by
  rw[rH,Cw (M:=(b:Int)^(n-1-at_)) lo0.1 #[0] (ZO 0) #[279],Cc,Z.e2]
 have al5:∀ q:Int,0<=q->q<(many:Int)->(al.getD q.toNat false=true↔q∈ks):=fun q q0 q1=>by
  rw[hal q q0 q1]
  exact⟨fun z=>W.2.2 q q0 q1 (z.congr fun f hf=>(fm f).mpr hf),fun z=>(W.2.1 q z).2.congr fun f hf=>(fm f).mp hf⟩
 have at2:∀ v,Am N v->lO al (Co #[79] [0] v)=signs'.getD (aR ax v 0).toNat 0:=fun v hv=>by
  rw[So (tJ.ok n1.1 ⟨v,hv,rfl⟩).2 al5]
  exact(tl v hv).symm
 have wi:∀ v,Am N v->0<=aR ax v 0/\aR ax v 0<(ax.length:Int):=fun v hv=>mG LO.ok hv #[0] (by have:=LO.pos;omega)
 refine⟨#[45],fun t0 ht0=>?_⟩
 have s2:=s1.trans (aj ht0 (HO.tup [V.int 0]))
 exists 3
 refine⟨_,rfl,a,rfl,⟨_,s2.seq hS⟩,dj (K:=K) (xs:=ns.map V.int) (fun i σ' H'=>∃ (v:LI) (tp:Qo) (v7 v8:OV),σ'=[some #[203],some #[73],some (.ref bl),some (.ref m'),some #[285],some (.ref tp),some (.int (aR ax v 0)),v7,v8]/\ay H H'/\H' L=some #[153]/\H' tp=some (.tup ((Co #[79] [0] v).map V.int))/\Am N v)
  ⟨[],t0,none,none,rfl,s2,(aj ht0 _) _ _ hL,ae,fun f h=>by cases h⟩ (fun i σ' H' _ ⟨_,_,_,_,_,e,_,_,_⟩=>e.seq hS) ?_ ?_⟩
 ·rintro i y σ' H3 hi ⟨v,tp,v7,v8,rfl,s3,pZ,htp,hv⟩
  exists 53
  have M3:=M'.same fun a xs e=>s3 _ _ e
  obtain⟨asM,hr3,hA3⟩:=M3.rows
  have po:=(tJ.ok n1.1 ⟨v,hv,rfl⟩:J7 many (Co #[79] [0] v))
  have wv:=wi v hv
  refine⟨_,rfl,m',_,_,_,rfl,rfl,bV M3.tup,rfl,_,rfl,g',_,_,_,rfl,rfl,bV M3.sgn,cF wv.1 (by rw[LO.sgn];exact wv.2),_,rfl,_,rfl,tp,L,_,al,rfl,htp,pZ,fun q hq=>⟨(po.2 q hq).1,by rw[lal];exact(po.2 q hq).2⟩,rfl,_,rfl,Aq (fun c=>absurd (by rw[at2 v hv]) c) #[191]⟩
  have B3:=B.same s3
  have lb:(oy.map V.ref).length=N:=by rw[aO];exact B.len
  refine⟨_,rfl,_,rfl,bl,_,rfl,.inl (bS B3.at_),_,_,rfl,rfl,by rw[lb];omega,?_⟩
  exists 3
  rw[lb]
  have md:=fM (a:=z) (b:=(N:Int)) #[0]
  obtain⟨fg,efg⟩:=cZ md.1
  rw[efg]at md ⊢
  obtain⟨la2,q1,q2,q3⟩:=B3.get md.1 md.2
  exists 3
  refine⟨_,rfl,_,rfl,_,rfl,_,rfl,bl,_,_,_,rfl,rfl,bS B3.at_,q2,tp,m,la2,r,g,many,wd,_,_,rows,signs,rfl,htp,M.same (fun a xs e=>s3 _ _ e),R,q3,by omega,po.2,HV,fun T H4 s4 hT=>?_⟩
  rw[Hi (M:=(b:Int)^(n-1-at_)) lo0.1 #[0] Z.e2 #[0] #[279]]at hT
  have M4:=M3.same fun a xs e=>s4 _ _ e
  obtain⟨asN,hr4,hA4⟩:=M4.rows
  obtain⟨ra,rr,f1,f2,f3⟩:=oY hA4 LO.ok wv.1 wv.2 md.1 md.2
  exists _,rfl,m',_,_,_,rfl,rfl,bV M4.tup,rfl,_,rfl,r',_,_,_,rfl,rfl,bV hr4,f1,_,rfl,ra,_,_,_,rfl,rfl,bV f2,f3
  have hv':Am N (v++[(fg:Int)]):=fun q hq=>by
   rcases sU.mp hq with y|y
   ·exact hv q y
   ·rw[jG.mp y];exact md
  have ew:aR ax (v++[(fg:Int)]) 0=stepI ax (aR ax v 0) (fg:Int):=by
   unfold aR
   rw[JM]
   rfl
  refine⟨v++[(fg:Int)],T,_,_,by rw[ew];rfl,s3.trans s4,s4 _ _ pZ,?_,hv'⟩
  rw[rU,jB]
  exact hT
 ·rintro σ' H3 ⟨v,tp,v7,v8,rfl,s3,pZ,htp,hv⟩
  have M3:=M'.same fun a xs e=>s3 _ _ e
  have po:=(tJ.ok n1.1 ⟨v,hv,rfl⟩:J7 many (Co #[79] [0] v))
  have wv:=wi v hv
  exists _,rfl,m',_,_,_,rfl,rfl,bV M3.tup,rfl,_,rfl,g',_,_,_,rfl,rfl,bV M3.sgn,cF wv.1 (by rw[LO.sgn];exact wv.2),_,rfl,_,rfl,tp,L,_,al,rfl,htp,pZ,fun q hq=>⟨(po.2 q hq).1,by rw[lal];exact(po.2 q hq).2⟩,rfl
  rw[at2 v hv,decide_eq_true rfl]
  exact k H3 s3
end
def dig(w n:Int)(j:Nat):Int:=n / w^j%w
theorem wX{w n:Int}{k:Nat}(hw:2<=w)(h:n / w^T=0):n / w^(T+k)=0:=by
 rw[QL,<- zM (ZZ (ZQ #[0])),h,Qc]
theorem FJ(h0:0<=a)(h:a<=b):∀ n:Nat,a^n<=b^n
 | 0=>by rw[Zb,Zb];exact ZO _
 | n+1=>by
  rw[zJ,zJ]
  have p:0<=b^n:=Int.pow_nonneg #[0]
  exact QW (FJ h0 h n) h h0 p
theorem IM{w:Int}(h:0<w):∀ {ps:LI},InB w ps->rB w ps<w^ps.length
 | [],_=>by simp[rB]
 | p :: r,tG=>by
  have hp:=tG p jE
  have ih:=IM h tG.tail
  have:w*(rB w r+1)<=w*w^r.length:=JR #[0] #[0]
  rw[ZP,zZ]at this
  rw[jc,zJ,zK (w^r.length) w]
  show p+w*rB w r<_
  omega
theorem ES(w:Int):∀ {zs:LI},(∀ z∈zs,z=0)->rB w zs=0
 | [],_=>rfl
 | z :: r,h=>by
  have h1:=h z jE
  have h2:=ES w (zs:=r) fun y hy=>h y (jJ _ hy)
  show z+w*rB w r=0
  rw[h1,h2,Qj,Int.add_zero]
def jf(b:Int)(ns:LI)(j:Nat):Int:=rB b #[90]
theorem aak(hb:0<b)(ns:LI)(j:Nat):0<=jf b ns j/\jf b ns j<b^ns.length:=by
 have h:InB b #[90]:=fun p hp=>by
  obtain⟨n,_,rfl⟩:=jN.mp hp
  exact fM hb
 refine⟨wM #[0] h,?_⟩
 have:=IM hb h
 rw[aO]at this
 exact this
def iW(b:Int)(ns:LI)(T:Nat):LI:=(jZ T).map (jf b ns)
theorem rR:iW b ns (T+1)=iW b ns T++[jf b ns T]:=by unfold iW;rw[JI,jD];rfl
theorem rQ(hb:0<b):InB (b^ns.length) (iW b ns T):=fun x hx=>by
 obtain⟨j,_,rfl⟩:=jN.mp (show x∈(jZ T).map (jf b ns)from hx)
 exact aak hb ns j
def Ta(os:LI)(a:Nat)(x:Int):LI:=os.take a++x :: os.drop a
theorem ac2{a:Nat}:(Ta os a x).length=os.length+1:=by
 unfold Ta
 rw[jH,jc,jR,zT]
 omega
theorem ace{n:Int}(hb:2<=b)(n0:0<=n):∃ T:Nat,n / b^T=0:=by
 obtain⟨p,rfl⟩:=cZ n0
 refine⟨p,Zh n0 ?_⟩
 have h1:(p:Int)<2^p:=by exact_mod_cast Nat.lt_two_pow_self
 exact Int.lt_of_lt_of_le h1 (FJ #[13] hb p)
theorem Lz(hb:2<=b):∀ {ns:LI},(∀ n∈ns,0<=n)->∃ T:Nat,∀ n∈ns,n / b^T=0
 | [],_=>⟨0,fun n h=>by cases h⟩
 | n :: ns,h=>by
  obtain⟨T1,h1⟩:=ace hb (h n jE)
  obtain⟨T2,h2⟩:=Lz hb fun m hm=>h m (jJ _ hm)
  refine⟨T1+T2,fun m hm=>?_⟩
  rcases jU.mp hm with e|hm
  ·rw[e];exact wX hb h1
  ·rw[Zz];exact wX hb (h2 m hm)
theorem Rq(hb:2<=b)(h:∀ n∈ns,n / b^T=0)(hj:T<=j):jf b ns j=0:=by
 unfold jf
 refine ES b fun z hz=>?_
 obtain⟨n,hn,rfl⟩:=jN.mp hz
 obtain⟨k,rfl⟩:=Nat.le.dest hj
 unfold dig
 rw[wX hb (h n hn),Qb]
inductive aex (K:Yh) (vs:List V) (H:Hp) (Q:VK) (E:XK):Prop
 | mk (m r g oa:Qo) (b many wide:Nat) (rows:LL) (signs ns:LI) (_:vs=[.ref m,.ref oa,.int b]) (_:bG H m r g wide rows signs) (_:aC many wide rows) (_:signs.length=many) (_:1<=many) (_:(2<=b/\b<=10)) (_:ns.length<=100) (_:(wide:Int)=(b:Int)^ns.length) (_:H oa=some (.lst #[37])) (_:(∀ n∈ns,0<=n)) (_:∀ (T:Nat) (H':Hp),ay H H'->(∀ n∈ns,n / (b:Int)^T=0)->Q (.int (signs.getD (aR rows (iW b ns T) 0).toNat 0)) H')
theorem Hq{v:V}{u:TS}(h:u D #[251] H):PJ (EO (tC v) (ba i)) u D σ H:=h
section
theorem cQ:aE ["_law_machine_here","_law_numbers","_law_base","_law_here","_law_figure","_law_number_here"] ["_law_machine_here","_law_numbers","_law_base"] (ar lC):=cV #[3]
theorem pE:aU ["_law_machine_here","_law_numbers","_law_base","_law_here","_law_figure","_law_number_here"] (ar lC) ["_law_number_here","_law_base"] [none,some 2] ⟨.function,[#[48],("_law_number_here",.local),("_law_base",.free)],false,false,[]⟩:=mz #[3]
theorem af8(F:bL K "_law_sign_at" "_law_sign_at" lC dV f fd)(abL:mg "max" = none)(AY:mg "reversed" = none):bw P w K mg base eS 1 f fd ["_law_machine_here","_law_numbers","_law_base"] (aex K):=by
 refine F.ok cQ #[6] #[1]
 ·obtain⟨m,r,g,oa,b,many,wide,rows,signs,ns,rfl,_⟩:=h
  rfl
 obtain⟨m,r,g,oa,b,many,wide,rows,signs,ns,rfl,M,R,lsg,n0,⟨b0,b1⟩,lns,hW,hoa,nn,k⟩:=h
 refine⟨_,(ah (aD (i:=3) cQ.nd aq)
   (ah (rW PassesOwn.never (bK Mq (adn rfl rfl abL #[81] aq) aq (bz _)) (ah (aD (i:=4) cQ.nd aq)
   (ah (bq PassesOwn.never rfl (agj rfl AY #[81]) (aL (i:=5) cQ.nd) (ak (aD (i:=4) cQ.nd (aS dP (aS fb (pv 4) (pv 2)) (aS de (pv 5) (pv 2))))))
   (ah (aD (i:=3) cQ.nd (aF aI (aF aI #[5] (pv 3) #[12]) (pv 4) #[12]))
   (ak (iq (i:=1) rfl cQ.nd rfl #[248] pE (cI (pv 1)) (fun _ _ _ _=>(aL (i:=0) pE.nd)) (fun _ _ _ _=>(aS aaR (pv 0) (pv 1)))))))))
   (ak (aJ (aF aI #[5] (pv 3) #[12]))))),?_⟩
 exists 0
 have bI:(2:Int)<=(b:Int):=by omega
 have h5:H oa=some (.lst ((ns.map fun n=>n / (b:Int)^0).map V.int)):=by
  rw[hoa]
  simp
 obtain⟨T0,hT0⟩:=Lz bI nn
 exists 55
 refine Hq ?_
 exists 55
 refine dh (t:=wJ _ _) (fun σ' H'=>∃ (j:Nat) (nl:Qo) (v7 v8:OV),σ'=[some #[73],some (.ref nl),some (.int b),some #[185],v7,v8]/\ay H H'/\∀ n∈ns,n / (b:Int)^j=0) ?_ #[41]
 rotate_left
 ·refine Ag (fun mm σ' H'=>∃ (j:Nat) (nl:Qo) (v7 v8:OV),mm=T0-j/\σ'=[some #[73],some (.ref nl),some (.int b),some #[185],v7,v8]/\ay H H'/\H' nl=some (.lst ((ns.map fun n=>n / (b:Int)^j).map V.int)))
   ⟨_,0,oa,none,none,rfl,rfl,(fun _ _ e=>e),h5⟩ ?_
  rintro mm σ' H' ⟨j,nl,v7,v8,rfl,rfl,s',hnl⟩
  have alk:∀ n∈ns,0<=n / (b:Int)^j:=fun n hn=>ZJ (nn n hn) (ZZ (ZQ #[0]))
  refine⟨_,rfl,nl,_,_,rfl,rfl,bS hnl,fun e0=>⟨_,_,rfl,rfl,_,rfl,rP (fun c=>absurd c #[13]) #[191]⟩,fun Mx hM hmx=>⟨_,_,rfl,rfl,_,rfl,rP #[53] #[53]⟩⟩
  ·refine iK _ _ ⟨j,nl,v7,v8,rfl,s',fun n hn=>?_⟩
   rw[List.map_eq_nil_iff.mp e0]at hn
   cases hn
  ·have jT:j<T0:=by
    rcases JP j T0 with z|z
    ·exact z
    ·obtain⟨n,hn,en⟩:=jN.mp hM
     obtain⟨d,rfl⟩:=Nat.le.dest z
     rw[wX bI (hT0 n hn)]at en
     have c':(0:Int)<Mx:=c
     omega
   refine⟨_,fun σ' pf h=>h,?_⟩
   refine Hq ?_
   exists 55
   have M' := M.same fun b xs e=>s' _ _ e
   refine dh (t:=rZ _ _ _) (fun σ' pf=>∃ v8:OV,σ'=[some #[73],some (.ref nl),some (.int b),some #[185],some (.int (jf b ns j)),v8]/\pf=H') ?_ (fun D2 af5=>?_)
   rotate_left
   ·refine⟨_,rfl,nl,_,rfl,bS hnl,ack (K:=K) (xs:=(ns.map fun n=>n / (b:Int)^j).map V.int) (fun i σ' pf=>∃ v8:OV,σ'=[some #[73],some (.ref nl),some (.int b),some #[185],some (.int (rB b (#[90].drop (ns.length-i)))),v8]/\pf=H')
     ⟨v8,by rw[Qh,Zi (by rw[aO];exact jF _)];rfl,rfl⟩ (fun i σ' pf _ ⟨_,_,e⟩=>by rw[e];exact bS hnl) ?_ ?_⟩
    ·rintro i y σ' pf Y9 hi ⟨v8,rfl,rfl⟩
     rw[aO,aO]at Y9 hi
     exists 53
     have hz':#[90][ns.length-1-i]?=some (z%(b:Int)):=by
      rw[jO]at hz ⊢
      cases e:ns[ns.length-1-i]? with
      | none=>rw[e]at hz;cases hz
      | some n=>rw[e]at hz;cases hz;rfl
     refine⟨_,rfl,_,rfl,_,_,rfl,rfl,.inr ⟨by omega,by omega⟩,_,rfl,_,rfl,_,_,rfl,rfl,#[0],_,_,rfl,rfl,some (.int z),?_,rfl⟩
     have pl:ns.length-1-i<#[90].length:=by rw[aO];omega
     have e1:#[90].drop (ns.length-(i+1))=(z%(b:Int)) :: #[90].drop (ns.length-i):=by
      rw[show ns.length-(i+1)=ns.length-1-i by omega,jz pl,(fK hz').2,show ns.length-1-i+1=ns.length-i by omega]
     rw[e1]
     show _=[some (V.ref m),some (V.ref nl),some (V.int b),some (V.int (aR rows (iW b ns j) 0)),some (V.int (z%(b:Int)+(b:Int)*rB b (#[90].drop (ns.length-i)))),some (V.int z)]
     rw[Int.add_comm (z%(b:Int)),zK (b:Int)]
     rfl
    ·rintro σ' pf ⟨v8,rfl,rfl⟩
     rw[aO,aO,Jv,QX]
     exact af5 _ _ ⟨v8,rfl,rfl⟩
   rintro σ' pf ⟨v8,rfl,rfl⟩
   have jin:=aak (b:=(b:Int)) #[0] ns j
   rw[<- hW]at jin
   have tG:0<=aR rows (iW b ns j) 0/\aR rows (iW b ns j) 0<(many:Int):=mG R (fun f hf=>by
    have:=rQ (b:=(b:Int)) #[0] (ns:=ns) (T:=j) f hf
    rw[<- hW]at this
    exact this) #[0] #[0]
   obtain⟨rs',amG,alK⟩:=M'.rows
   obtain⟨ra,rr,e1,e2,e3⟩:=oY alK R tG.1 tG.2 jin.1 jin.2
   exists _,rfl,m,_,_,_,rfl,rfl,bV M'.tup,rfl,_,rfl,r,_,_,_,rfl,rfl,bV amG,e1,_,rfl,ra,_,_,_,rfl,rfl,bV e2,e3
   exists 55
   refine⟨_,rfl,nl,rfl,⟨_,bS hnl⟩,iE (K:=K) (xs:=(ns.map fun n=>n / (b:Int)^j).map V.int) (fun D i ys H'3=>ay pf H'3/\ys=((ns.take i).map fun n=>n / (b:Int)^(j+1)).map V.int) #[21] (fun D i ys H'3 _ p=>bS (p.1 _ _ hnl)) ?_ ?_⟩
   ·rintro D i y ys H3 Q' hD hi hy ⟨s6,rfl⟩ k'
    exists 53
    rw[jO]at hz
    cases en:ns[i]? with
    | none=>rw[en]at hz;cases hz
    | some n =>
     rw[en]at hz
     cases hz
     refine⟨_,rfl,_,rfl,_,_,rfl,rfl,⟨by omega,Int.lt_of_le_of_lt (show(b:Int)<=10 by omega) #[3]⟩,k' _ _ hy #[57] ⟨au s6 hD,?_⟩⟩
     have ed:n / (b:Int)^(j+1)=n / (b:Int)^j / (b:Int):=by rw[zJ,<- zM (ZZ (ZQ #[0]))]
     rw[jY,en,jD,jD]
     show _++[V.int (n / (b:Int)^j / (b:Int))]=_++[V.int (n / (b:Int)^(j+1))]
     rw[ed]
   ·rintro D ys H3 hD hy ⟨s6,rfl⟩
    rw[aO,aO,jV]at hy
    refine⟨T0-(j+1),by omega,j+1,D,some (.int (jf b ns j)),v8,rfl,?_,s'.trans s6,hy⟩
    rw[rR,eB]
    rfl
  ·refine iK _ _ ⟨j,nl,v7,v8,rfl,s',fun n hn=>?_⟩
   have h1:=alk n hn
   have h2:=hmx _ (jN.mpr ⟨n,hn,rfl⟩)
   have c':¬ (0:Int)<Mx:=c
   omega
 rintro σ' H' ⟨j,nl,v7,v8,rfl,s',hd⟩
 have M' := M.same fun b xs e=>s' _ _ e
 have tG:0<=aR rows (iW b ns j) 0/\aR rows (iW b ns j) 0<(many:Int):=mG R (fun f hf=>by
  have:=rQ (b:=(b:Int)) #[0] (ns:=ns) (T:=j) f hf
  rw[<- hW]at this
  exact this) #[0] #[0]
 exact⟨_,rfl,m,_,_,_,rfl,rfl,bV M'.tup,rfl,_,rfl,g,_,_,_,rfl,rfl,bV M'.sgn,cF tG.1 #[0],k j H' s' hd⟩
end
theorem acQ{b:Nat}{a:Nat}(hb:2<=b)(ha:a<=os.length)(x:Int)(j:Nat):jf b (Ta os a x) j=pd (jf b os j) b ((b:Int)^a) (dig b x j):=by
 obtain⟨u,eu⟩:∃ u,(os.take a).map (fun n=>dig (b:Int) n j)=u:=⟨_,rfl⟩
 obtain⟨t,et⟩:∃ t,(os.drop a).map (fun n=>dig (b:Int) n j)=t:=⟨_,rfl⟩
 have lu:u.length=a:=by rw[<- eu,aO,jR];omega
 have iu:InB (b:Int) u:=fun p hp=>by
  rw[<- eu]at hp
  obtain⟨n,_,rfl⟩:=jN.mp hp
  exact fM #[0]
 have e1:jf b (Ta os a x) j=rB b u+(b:Int)^a*(dig b x j+b*rB b t):=by
  unfold jf Ta
  rw[jD,JN,wL,eu,et,lu]
  rfl
 have e2:jf b os j=rB b u+(b:Int)^a*rB b t:=by
  have:os=os.take a++os.drop a:=(zS a os).symm
  unfold jf
  rw[this,jD,wL,eu,et,lu]
 have v0:=wM (b:=(b:Int)) #[0] iu
 have v1:=IM (w:=(b:Int)) #[0] iu
 rw[lu]at v1
 have p:(0:Int)<(b:Int)^a:=ZQ #[0]
 obtain⟨m1,m2⟩:=Ij (x:=rB (b:Int) t) p v0 v1
 unfold pd
 rw[e2,m1,m2,e1,ZP,Jy]
 omega
section
variable{b at_:Nat}
theorem X5(Z:Sf b n wd N at_)(R:aC many wd rows)(m0:1<=many)(lo:os.length+1=n)(ha:at_<=os.length):∀ W:Nat,aR rows (iW b (Ta os at_ x) W) 0∈Co #[79] [0] (iW b os W)
 | 0=>jE
 | W+1=>by
  have ih:=X5 Z R m0 lo ha W
  have hb:=Z.hb
  have o:=(tJ.ok (N:=N) m0 (⟨iW b os W,fun g hg=>by
   have:=rQ (b:=(b:Int)) #[0] (ns:=os) (T:=W) g hg
   exists 17
   exact this,rfl⟩:tJ rows b many #[14] N _)).2 _ ih
  have ji:=aak (b:=(b:Int)) #[0] os W
  rw[show os.length=n-1 by omega,show(b:Int)^(n-1)=(N:Int) by rw[Z.en];push_cast;rfl]at ji
  have dg:0<=dig b x W/\dig b x W<(b:Int):=fM #[0]
  obtain⟨p,hp⟩:=cZ dg.1
  have hm:jf b (Ta os at_ x) W∈eD (jf b os W) b #[14]:=by
   rw[acQ #[0] ha,hp]
   exact jN.mpr ⟨p,je.mpr #[0],rfl⟩
  have tG:=BR (M:=(b:Int)^(n-1-at_)) Z.l2.1 #[0] Z.e2 ji.1 (by rw[<- Z.f2];exact ji.2) _ hm
  rw[rR,rR,eB,rU]
  show stepI rows _ _∈iX rows _ (eD ((jf b os W).toNat:Int) b #[14]) many
  rw[jn ji.1]
  exact fx.mpr ⟨fU R o.1 o.2 tG.1 tG.2,_,ih,_,hm,rfl⟩
theorem LC{ns:LI}{T:Nat}(hb:2<=b)(R:aC many wd rows)(SS:lX many rows signs)(w0:1<=wd)(m0:1<=many)(ew:(wd:Int)=(b:Int)^ns.length)(h:∀ n∈ns,n / (b:Int)^T=0):∀ d:Nat,signs.getD (aR rows (iW b ns (T+d)) 0).toNat 0=signs.getD (aR rows (iW b ns T) 0).toNat 0
 | 0=>rfl
 | d+1=>by
  have wi:=mG R (ns:=iW b ns (T+d)) (h:=0) (fun f hf=>by
   have:=rQ (b:=(b:Int)) #[0] (ns:=ns) (T:=T+d) f hf
   rw[<- ew]at this
   exact this) #[0] #[0]
  rw[<- LC hb R SS w0 m0 ew h d,show T+(d+1)=T+d+1 by omega,rR,eB,Rq (b:=(b:Int)) #[0] h #[0]]
  exact SS _ wi.1 wi.2
theorem FW{T:Nat}(Z:Sf b n wd N at_)(R:aC many wd rows)(SS:lX many rows signs)(Wn:K8 rows signs #[14] b many ks)(m0:1<=many)(lo:os.length+1=n)(h:∀ n∈os,n / (b:Int)^T=0):∀ d:Nat,EW ks (Co #[79] [0] (iW b os (T+d)))=EW ks (Co #[79] [0] (iW b os T))
 | 0=>rfl
 | d+1=>by
  have hb:=Z.hb
  rw[<- FW Z R SS Wn m0 lo h d,show T+(d+1)=T+d+1 by omega,rR,rU,Rq (b:=(b:Int)) #[0] h #[0]]
  refine DY Z R SS Wn (tJ.ok (b:=b) (rows:=rows) (lo:=(b:Int)^at_) (N:=N) m0 ⟨iW b os (T+d),fun g hg=>?_,rfl⟩)
  have:=rQ (b:=(b:Int)) #[0] (ns:=os) (T:=T+d) g hg
  exists 17
  exact this
theorem acj{k T':Nat}(SO:rF b N many #[14] rows signs ax signs' k)(Z:Sf b n wd N at_)(R:aC many wd rows)(SS:lX many rows signs)(m0:1<=many)(lo:os.length+1=n)(h:∀ n∈Ta os at_ x,n / (b:Int)^T=0)(h':∀ n∈os,n / (b:Int)^T'=0)(h1:signs.getD (aR rows (iW b (Ta os at_ x) T) 0).toNat 0=1):
  signs'.getD (aR ax (iW b os T') 0).toNat 0=1:=by
 obtain⟨ks,Wn,tl⟩:=SO.told m0
 have hb:=Z.hb
 have n2:=Z.n2
 have ew:(wd:Int)=(b:Int)^(Ta os at_ x).length:=by rw[ac2,lo,Z.ew];push_cast;rfl
 have inF:∀ W,Am N (iW b os W):=fun W g hg=>by
  have:=rQ (b:=(b:Int)) #[0] (ns:=os) (T:=W) g hg
  exists 17
  exact this
 have e1:=LC #[0] R SS Z.wl.1 m0 ew h T'
 have e2:=FW Z R SS Wn m0 lo h' T
 rw[h1]at e1
 have tG:=X5 (x:=x) Z R m0 lo #[0] (T+T')
 have o:=(tJ.ok (N:=N) m0 (⟨iW b os (T+T'),inF _,rfl⟩:tJ rows b many #[14] N _)).2 _ tG
 have wk:aR rows (iW b (Ta os at_ x) (T+T')) 0∈ks:=Wn.2.2 _ o.1 o.2 (bR.goal (dR.mpr ⟨o.1,o.2,e1⟩))
 have e3:EW ks (Co #[79] [0] (iW b os (T+T')))=1:=wV.mpr ⟨_,tG,wk⟩
 rw[Zz T T',e2,<- tl _ (inF T')]at e3
 exact e3
end
theorem W4(h:c<=ns.length):HQ #[37] none (some (c:Int))=(ns.take c).map V.int:=by
 unfold HQ
 rw[HT.MM,HT.RM,aO]
 simp[ZI h]
theorem W3(h:c<=ns.length):HQ #[37] (some (c:Int)) none=(ns.drop c).map V.int:=by
 unfold HQ
 rw[HT.MM,HT.RM,aO,ZI h,List.map_drop]
 exact Jr #[10]
inductive abp (K:Yh) (vs:List V) (H:Hp) (Q:VK) (E:XK):Prop
 | mk (a m m' r g r' g':Qo) (ns:LI) (many wd N b n at_ k:Nat) (rows ax:LL) (signs signs':LI) (_:vs=[.ref a,.ref m,.int b,.int n,.int at_,.ref m']) (_:pk K H a #[37]) (_:ns.length<=63) (_:bG H m r g wd rows signs) (_:aC many wd rows) (_:signs.length=many) (_:(1<=many/\many<=5)) (_:Sf b n wd N at_) (_:b<=10) (_:lX many rows signs) (_:bG H m' r' g' N ax signs') (_:rF b N many #[14] rows signs ax signs' k) (_:∀ H':Hp,ay H H'->Q #[284] H')
section
theorem ou:aE ["_law_script","_law_machine_here","_law_base","_law_many","_law_at","_law_found","_law_turn","_law_numbers","_law_others"] ["_law_script","_law_machine_here","_law_base","_law_many","_law_at","_law_found"] (ar pO):=cV #[3]
theorem tZ:aU ["_law_script","_law_machine_here","_law_base","_law_many","_law_at","_law_found","_law_turn","_law_numbers","_law_others"] (ar pO) ["_law_k","_law_many","_law_script","_law_turn"] [none,some 3,some 0,some 6] ⟨.function,[#[48],("_law_k",.local),("_law_great",.globalImplicit),("_law_many",.free),("_law_script",.free),("_law_turn",.free)],false,false,[]⟩:=mz #[3]
theorem ac8(F:bL K "_law_fits" "_law_fits" pO dV f fd)(sk:bQ P w K mg base "_law_great" 2 ["_law_script","_law_k"] [] (RT K))(iQ:bQ P w K mg base "_law_sign_at" 1 ["_law_machine_here","_law_numbers","_law_base"] [] (aex K))(aB:mg "range" = none):bw P w K mg base eS 3 f fd ["_law_script","_law_machine_here","_law_base","_law_many","_law_at","_law_found"] (abp K):=by
 refine F.ok ou #[6] #[1]
 ·obtain⟨a,m,m',r,g,r',g',ns,many,wd,N,b,n,at_,kk,rows,ax,signs,signs',rfl,_⟩:=h
  rfl
 obtain⟨a,m,m',r,g,r',g',ns,many,wd,N,b,n,at_,kk,rows,ax,signs,signs',rfl,hS,Fp,M,R,ls,n1,Z,b10,SS,M',SO,k⟩:=h
 obtain⟨_,_,_,_,_,_,LO,_⟩:=SO.ex
 have hn:=Z.hn
 have hb:=Z.hb
 have n2:=Z.n2
 refine⟨_,(ah (bq PassesOwn.never rfl (br rfl aB (aa aq af)) (aL (i:=6) ou.nd) (ah (iq (i:=7) rfl ou.nd rfl #[248] tZ (br rfl aB #[107]) (fun _ _ _ _=>(aL (i:=0) tZ.nd)) (fun _ _ _ _=>(bE sk hr (aa (pv 2) (aa (aS dP (aS dP aq (aS fb (pv 3) (pv 1))) (pv 0)) af)))))
   (ah (aD (i:=8) ou.nd (aS agb (Mz RN (pv 7) RE (RF (pv 4))) (Mz RN (pv 7) (RF (aS dP (pv 4) aq)) RE)))
   (ak (cK (PW.pt (Iu (bK lJ (bE iQ hr (aa (pv 1) (aa (pv 7) #[63]))) aq (bz _)) (Du (bK Ep (bE iQ hr (aa (pv 5) (aa (pv 8) #[63]))) aq (bz _))))) #[126] bB)))))
   #[126]),?_⟩
 exists 0
 refine⟨4,rfl,by decide,by decide,cb (fun i σ' H'=>∃ v6 v7 v8:OV,σ'=[some #[203],some #[73],some (.int b),some (.int n),some (.int at_),some (.ref m'),v6,v7,v8]/\ay H H') ⟨none,none,none,rfl,fun _ _ e=>e⟩ ?_ ?_⟩
 ·rintro i σ' H1 hi ⟨v6,v7,v8,rfl,s1⟩
  have i4:i<4:=hi
  exists 73
  rw[z0]
  have pr:(i:Int)*(n:Int)<=60/\0<=(i:Int)*(n:Int):=by
   have:=aax (a:=(i:Int)) (b:=(n:Int)) (m:=3) (n:=20) #[0] #[0] #[0] #[0]
   omega
  refine⟨_,rfl,(n:Int),rfl,by omega,by omega,?_⟩
  refine ig (fun D j ys H'=>ay H1 H'/\∃ xs:LI,ys=xs.map V.int/\xs.length=j/\∀ v∈xs,0<=v) (fun D hD=>⟨aj hD _,[],rfl,rfl,fun v h=>by cases h⟩) ?_ ?_
  ·rintro D j ys H2 Q' hD hj hy ⟨s2,xs,rfl,hl,hv⟩ k'
   refine⟨_,rfl,_,rfl,_,rfl,_,_,rfl,rfl,.inl ⟨by omega,by omega⟩,_,_,rfl,rfl,_,rfl,_,_,rfl,rfl,a,_,ns,rfl,(s1.trans s2).seq hS,Fp,⟨by omega,by omega⟩,fun v v0 v1=>?_⟩
   refine k' _ _ hy (aw #[30]) ⟨au s2 hD,xs++[v],by rw[jD];rfl,by simp[hl],fun u hu=>?_⟩
   rcases sU.mp hu with y|y
   ·exact hv u y
   ·rw[jG.mp y];exact v0
  rintro L ys H2 hL Rg ⟨s2,xs,rfl,hl,hv⟩
  rw[jB]at hl
  exists 3
  refine⟨_,rfl,_,rfl,_,rfl,L,_,rfl,bS Rg,fun p1 hp1=>?_⟩
  rw[W4 #[0]]
  have s3:=aj hp1 (HO.lst ((xs.take at_).map V.int))
  have ea:(at_:Int)+1=((at_+1:Nat):Int):=by omega
  refine⟨_,rfl,_,rfl,_,_,rfl,rfl,_,rfl,L,_,rfl,bS (s3 _ _ Rg),fun p2 hp2=>?_⟩
  rw[show HQ (xs.map V.int) (some ((at_:Int)+1)) none=(xs.drop (at_+1)).map V.int by rw[ea];exact W3 #[0]]
  have s4:=aj hp2 (HO.lst ((xs.drop (at_+1)).map V.int))
  refine⟨p1,p2,_,_,rfl,rfl,s4 _ _ ae,ae,Jl (aw (by simp only[jH,aO,jR,zT];omega)),fun p3 hp3=>?_⟩
  obtain⟨os,eos⟩:∃ os,xs.take at_++xs.drop (at_+1)=os:=⟨_,rfl⟩
  rw[<- jD,eos]
  have s5:=aj hp3 (HO.lst (os.map V.int))
  have lt:=jR (l:=xs) (i:=at_)
  have los:os.length+1=n:=by rw[<- eos,jH,jR,zT];omega
  have at':at_<xs.length:=by omega
  have ex:Ta os at_ xs[at_]=xs:=by
   unfold Ta
   rw[<- eos,List.take_append_of_le_length #[302],Jr #[302],ZK #[302],Zi #[302],ZG,<- jz at',zS]
  have hos:∀ v∈os,0<=v:=fun v h=>by
   rw[<- eos]at h
   rcases sU.mp h with y|y
   ·exact hv v (zF y)
   ·exact hv v (List.mem_of_mem_drop y)
  have ew:(wd:Int)=(b:Int)^xs.length:=by rw[hl,Z.ew];push_cast;rfl
  have eN:(N:Int)=(b:Int)^os.length:=by rw[show os.length=n-1 by omega,Z.en];push_cast;rfl
  have S:=s1.trans (s2.trans (s3.trans (s4.trans s5)))
  exists 3
  refine⟨_,rfl,_,rfl,_,rfl,m,r,g,L,b,many,wd,rows,signs,xs,rfl,M.same (fun a xs e=>S _ _ e),R,ls,n1.1,⟨hb.1,b10⟩,by omega,ew,(s3.trans (s4.trans s5)) _ _ Rg,hv,fun T H3 s6 hT=>⟨rfl,_,rfl,LY #[53] (fun c=>⟨_,_,_,rfl,S.trans s6⟩)⟩⟩
  refine⟨_,rfl,_,rfl,_,rfl,m',r',g',p3,b,ax.length,N,ax,signs',os,rfl,M'.same (fun a xs e=>(S.trans s6) _ _ e),LO.ok,LO.sgn,LO.pos,⟨hb.1,b10⟩,by omega,eN,s6 _ _ ae,hos,fun T' H4 s7 hT'=>⟨rfl,_,rfl,Aq (fun c'=>absurd ?_ c') (fun _=>⟨_,_,_,rfl,(S.trans s6).trans s7⟩)⟩⟩
  rw[<- ex]at hT c
  rw[acj SO Z R SS n1.1 los hT hT' c]
 ·rintro σ' H' ⟨v6,v7,v8,rfl,s1⟩
  exact k H' s1
end
def mV(many q:Nat):LI:=if q=0 then [0,0,0,1]else [(((q+1)%many:Nat):Int),(((q+1)%many:Nat):Int),(((q+1)%many:Nat):Int),(((q+1)%many:Nat):Int)]
def bu(many:Nat):LL:=(jZ many).map (mV many)
theorem acb(h:2<=many):aC many 4 (bu many):=by
 refine⟨by unfold bu;rw[aO,jq],fun r hr=>?_,fun r hr v hv=>?_⟩
 ·obtain⟨q,_,rfl⟩:=jN.mp (show r∈(jZ many).map (mV many)from hr)
  unfold mV
  split<;>rfl
 ·obtain⟨q,_,rfl⟩:=jN.mp (show r∈(jZ many).map (mV many)from hr)
  unfold mV at hv
  have:=QR (q+1) (show many > 0 by omega)
  split at hv<;>simp only[jU,Jp,or_false]at hv<;>omega
inductive abn (vs:List V) (H:Hp) (Q:VK) (E:XK):Prop
 | mk (many:Nat) (sg:Int) (_:vs=[.int many,.int sg]) (_:(2<=many/\many<=20)) (_:∀ (m r g:Qo) (H':Hp),ay H H'->bG H' m r g 4 (bu many) (JV many sg)->Q #[73] H')
section
theorem oq:aE ["_law_many","_law_sign","_law_rows","_law_q","_law_there"] ["_law_many","_law_sign"] (ar pN):=cV #[3]
theorem tY:aU ["_law_many","_law_sign","_law_rows","_law_q","_law_there"] (ar pN) ["_law_q","_law_sign"] [none,some 1] ⟨.function,[#[48],("_law_q",.local),("_law_sign",.free)],false,false,[]⟩:=mz #[3]
theorem ac6(F:bL K "_law_comb" "_law_comb" pN dV f fd)(aB:mg "range" = none)(aQ:mg "tuple" = none):bw P w K mg base eS 1 f fd ["_law_many","_law_sign"] abn:=by
 refine F.ok oq #[6] #[1]
 ·obtain⟨many,sg,rfl,_⟩:=h
  rfl
 obtain⟨many,sg,rfl,⟨m0,m1⟩,k⟩:=h
 refine⟨_,(ah (aD (i:=2) oq.nd (cX (aa (cE (aa aq (aa aq (aa aq (aa aq af))))) af)))
   (ah (bq PassesOwn.never rfl (TB rfl aB (aa aq #[163])) (aL (i:=3) oq.nd) (ah (aD (i:=4) oq.nd (aS de (aS dP (pv 3) aq) (pv 0)))
   (ak (bJ (fc Yj Yk Yl bD (pv 2) (aa (cE (aa (pv 4) (aa (pv 4) (aa (pv 4) #[106])))) af))))))
   (ak (aJ (cE (aa aq (aa (aM aW #[38] aQ bW #[63]) (aa (aM aW #[38] aQ bW (aa (cT rfl tY (br rfl aB #[163]) (fun _ _ _ _=>(aL (i:=0) tY.nd)) (fun _ _ _ _=>(pv 1))) af)) af)))))))),?_⟩
 exists 0
 refine⟨(by show 4<=sizeLine;decide),fun T0 hT0=>⟨#[45],fun R hR=>?_⟩⟩
 have s0:=(aj hT0 (HO.tup [V.int 0,V.int 0,V.int 0,V.int 1])).trans (aj hR (HO.lst [V.ref T0]))
 have hT:(upd (upd H T0 (HO.tup [V.int 0,V.int 0,V.int 0,V.int 1])) R (HO.lst [V.ref T0])) T0=some (.tup ((mV many 0).map V.int)):=by rw[ag (ao ae hR),ae];rfl
 have fR:H R=none:=(aj hT0 _).free hR
 exists 3
 refine dh (t:=rZ _ _ _) (fun σ' H'=>∃ (as:List Qo) (v3 v4:OV),σ'=[some (.int many),some (.int sg),some (.ref R),v3,v4]/\ay H H'/\H' R=some #[231]/\aH H' as (bu many)) ?_ #[41]
 rotate_left
 ·refine⟨_,rfl,1,(many:Int),rfl,⟨by omega,by omega,by omega,by omega⟩,?_⟩
  refine cb (fun i σ' H'=>∃ (as:List Qo) (v3 v4:OV),σ'=[some (.int many),some (.int sg),some (.ref R),v3,v4]/\ay H H'/\H' R=some #[231]/\aH H' as ((jZ (i+1)).map (mV many))) ⟨[T0],none,none,rfl,s0,ae,.cons hT .nil⟩ ?_ ?_
  ·rintro i σ' H1 hi ⟨as,v3,v4,rfl,s1,hR1,A1⟩
   have hi':i+1<many:=by omega
   have la:as.length=i+1:=by rw[A1.length,aO,jq]
   have et:(1+(i:Int)+1)%(many:Int)=(((i+1+1)%many:Nat):Int):=by
    rw[show 1+(i:Int)+1=((i+1+1:Nat):Int) by omega]
    rfl
   refine⟨_,rfl,_,_,rfl,rfl,_,rfl,_,_,rfl,rfl,by omega,?_⟩
   exists 3
   rw[et]
   refine⟨_,rfl,.inl ⟨rfl,_,bS hR1⟩,_,rfl,_,rfl,_,rfl,_,rfl,(by show 4<=sizeLine;decide),fun T hT=>?_⟩
   have nR:R≠T:=ao hR1 hT
   have sT:=aj hT (HO.tup ((mV many (i+1)).map V.int))
   refine⟨R,_,_,rfl,rfl,sT _ _ hR1,aw #[30],?_⟩
   have up:∀ b xs,H1 b=some #[36]->(upd (upd H1 T (.tup ((mV many (i+1)).map V.int))) R (.lst (as.map V.ref++[V.ref T]))) b=some #[36]:=fun b xs e=>by
    rw[ag (aG e hR1 #[2])];exact sT _ _ e
   refine⟨as++[T],_,_,rfl,au (s1.trans sT) fR,by rw[ae,jD];rfl,?_⟩
   rw[JI,jD]
   refine aH.snoc (A1.same up) ?_
   rw[ag (Ne.symm nR)]
   exact ae
  ·rintro σ' H1 ⟨as,v3,v4,rfl,s1,hR1,A1⟩
   rw[show((many:Int)-1).toNat+1=many by omega]at A1
   exact iK _ _ ⟨as,v3,v4,rfl,s1,hR1,A1⟩
 rintro σ' H1 ⟨as,v3,v4,rfl,s1,hR1,A1⟩
 refine⟨_,rfl,R,_,rfl,.inl ⟨bS hR1,fun rt hrt=>?_⟩⟩
 have s2:=aj hrt (HO.tup #[62])
 exists 58
 refine ig (fun D i ys H'=>ay (upd H1 rt (HO.tup #[62])) H'/\ys=(JV i sg).map V.int) #[21] ?_ ?_
 ·rintro D i ys H7 Q' hD hi hy ⟨s7,rfl⟩ k'
  refine⟨_,rfl,k' _ _ hy (aw (by rw[aO,zx];omega)) ⟨au s7 hD,?_⟩⟩
  rw[List.replicate_succ',jD]
  rfl
 rintro D ys H3 hD hy ⟨s3,rfl⟩
 rw[jB]at hy
 refine⟨D,_,rfl,.inl ⟨bS hy,fun gt hgt=>?_⟩⟩
 have s4:=aj hgt (HO.tup ((JV many sg).map V.int))
 refine⟨#[117],fun m hm=>?_⟩
 have s5:=aj hm (HO.tup [V.int 4,V.ref rt,V.ref gt])
 have s35:=s3.trans (s4.trans s5)
 exact k m rt gt _ (s1.trans (s2.trans s35)) ⟨ae,⟨as,s35 _ _ ae,A1.same fun b xs e=>s35 _ _ (s2 _ _ e)⟩,s5 _ _ ae⟩
end
def S8(rows:LL)(b many:Nat)(lo:Int):Nat->LL
 | 0=>[[0]]
 | k+1=>(S8 rows b many lo k).flatMap fun u=>[oO rows b many lo u 0,oO rows b many lo u 1]
theorem Rv{b:Nat}:∀ {k:Nat} {p:LI},p∈S8 rows b many lo k->tJ rows b many lo 2 p
 | 0,p,h=>by rw[jG.mp h];exact tJ.start
 | k+1,p,h=>by
  obtain⟨u,hu,hp⟩:=zw.mp (show p∈(S8 rows b many lo k).flatMap _ from h)
  have r:=Rv hu
  rcases jU.mp hp with e|e
  ·rw[e];exact r.step #[13]
  ·rw[jG.mp e];exact r.step #[13]
theorem afb:(S8 (bu 9) 2 9 1 8).Nodup/\(S8 (bu 9) 2 9 1 8).length=256:=by decide +kernel
theorem afc:(S8 (bu 9) 2 9 2 8).Nodup/\(S8 (bu 9) 2 9 2 8).length=256:=by decide +kernel
def clo(lo:Int)(L:LL):Prop:=[0]∈L/\L.length=128/\∀ p∈L,p≠[]/\oO (bu 8) 2 8 lo p 0∈L/\oO (bu 8) 2 8 lo p 1∈L
instance (lo:Int) (L:LL):Decidable (clo lo L):=by unfold clo;infer_instance
theorem ae9:clo 1 (S8 (bu 8) 2 8 1 7):=by decide +kernel
theorem afa:clo 2 (S8 (bu 8) 2 8 2 7):=by decide +kernel
theorem OA{at_:Nat}(ha:at_<=1){k:Nat}(h:rF 2 2 9 #[58] (bu 9) signs ax signs' k):256<=k:=by
 exists 70
 have e:(S8 (bu 9) 2 9 #[58] 8).Nodup/\(S8 (bu 9) 2 9 #[58] 8).length=256:=by
  rcases(show at_=0\/at_=1 by omega)with z|z
  ·rw[z];exact afb
  ·rw[z];exact afc
 have:=eA e.1 fun p hp=>(G.rch el).mpr (Rv hp)
 omega
theorem B9{at_:Nat}(ha:at_<=1):clo #[58] (S8 (bu 8) 2 8 #[58] 7):=by
 rcases(show at_=0\/at_=1 by omega)with z|z
 ·rw[z];exact ae9
 ·rw[z];exact afa
theorem Ln{at_:Nat}(ha:at_<=1)(h:tJ (bu 8) 2 8 #[58] 2 p):p∈S8 (bu 8) 2 8 #[58] 7:=by
 obtain⟨h0,_,hc⟩:=B9 ha
 refine tJ.all h0 (fun q hq f hf=>?_) h
 rcases(show f=0\/f=1 by omega)with z|z
 ·rw[z];exact(hc q hq).2.1
 ·rw[z];exact(hc q hq).2.2
theorem Ss{at_:Nat}(ha:at_<=1){ps:LL}(nd:ps.Nodup)(h:∀ p∈ps,tJ (bu 8) 2 8 #[58] 2 p):ps.length<=128:=by
 have:=eA nd fun p hp=>Ln ha (h p hp)
 have:=(B9 ha).2.1
 omega
theorem Sr{at_:Nat}(ha:at_<=1){sg:Int}{k:Nat}(h:rF 2 2 8 #[58] (bu 8) (JV 8 sg) ax signs' k):ax=[[0,0]]/\signs'=[if sg=1 then 1 else 0]:=by
 exists 70
 have ajC:∀ q:Int,0<=q->q<8->(JV 8 sg).getD q.toNat 0=sg:=fun q q0 q1=>by
  rw[jI,Zc,if_pos #[0]]
  rfl
 have val:∀ v,Am 2 v->EW ks (Co #[289] [0] v)=if sg=1 then 1 else 0:=fun v hv=>by
  have r:tJ (bu 8) 2 8 #[58] 2 (Co #[289] [0] v):=⟨v,hv,rfl⟩
  have o:=r.ok #[13]
  have ne:=((B9 ha).2.2 _ (Ln ha r)).1
  by_cases c:sg=1
  ·rw[if_pos c]
   obtain⟨q,t,e⟩:=zY ne
   have hq:q∈Co #[289] [0] v:=by rw[e];exact jE
   have q0:=o.2 q hq
   exact wV.mpr ⟨q,hq,W.2.2 q q0.1 q0.2 (bR.goal (dR.mpr ⟨q0.1,q0.2,by rw[ajC q q0.1 #[0]];exact c⟩))⟩
  ·rw[if_neg c]
   rcases Ox ks (Co #[289] [0] v)with z|z
   ·exact z
   ·obtain⟨q,hq,hk⟩:=wV.mp z
    obtain⟨row,_,hg⟩:=(W.2.1 q hk).2
    have g:=dR.mp hg
    rw[ajC _ g.1 #[0]]at g
    exact absurd g.2.2 c
 have LD:dJ 2 mD [[0,0]] (ps.map (EW ks)) [if sg=1 then 1 else 0]:=by
  have ok:aC ([[0,0]]:LL).length 2 [[0,0]]:=⟨rfl,fun r hr=>by rw[jG.mp hr];rfl,fun r hr v hv=>by
   rw[jG.mp hr]at hv
   simp only[jU,Jp,or_false]at hv
   show 0<=v/\v<1
   omega⟩
  refine⟨ok,by decide,rfl,rfl,fun a b h1 h2 _=>?_,fun v hv=>?_⟩
  ·have a1:=h1.1
   have a2:a<1:=h1.2
   have b1:=h2.1
   have b2:b<1:=h2.2
   omega
  ·obtain⟨j,h1,h2⟩:=G.told el hv
   have w:=mG ok (ns:=v) (h:=0) hv #[0] #[13]
   have w1:aR [[0,0]] v 0<1:=w.2
   have w0:aR [[0,0]] v 0=0:=by omega
   rw[h1,w0]
   unfold sgn
   rw[jB,jI,jO,h2]
   exact val v hv
 exact dJ.one LO LD fun v _=>rfl
theorem Fi:qS "ValueError" = some #[241]:=by decide +kernel
inductive abr (vs:List V) (H:Hp) (Q:VK) (E:XK):Prop
 | mk (m r g:Qo) (many wd N most b n at_:Nat) (rows ms:LL) (signs:LI) (_:vs=[.ref m,.int b,.int n,.int at_,.int most]) (_:bG H m r g wd rows signs) (_:aC many wd rows) (_:signs.length=many) (_:(1<=many/\many<=20)) (_:Sf b n wd N at_) (_:(1<=most/\most<=900)) (_:ms.Nodup) (_:(∀ p∈ms,tJ rows b many #[14] N p)) (_:most<ms.length) (_:∀ H':Hp,ay H H'->Q #[284] H')
section
variable{D8:Qo}
theorem eC:aE ["_law_machine_here","_law_base","_law_many","_law_at","_law_most","_law_refused_here","error"] ["_law_machine_here","_law_base","_law_many","_law_at","_law_most"] (ar oZ):=cV #[3]
theorem ck:aE ["_law_machine_here","_law_at","_law_kept","_law_found","error","_law_due"] ["_law_machine_here","_law_at"] (ar iZ):=cV #[3]
theorem Tt(F:bL K "_law_whole" "_law_whole" oh dV f fd)(aZ:mg "isinstance" = none)(BS:mg "int" = none)(Cy:mg "bool" = none):J2 P w K mg base eS 1 f fd ["_law_found"] wH:=by
 refine F.okH Au #[6] #[1]
 ·obtain⟨z,rfl,_⟩:=h
  rfl
 obtain⟨z,rfl,q⟩:=h
 refine⟨_,(ak (aJ (sY (az mw #[38] aZ cf (aa (pv 0) (aa (mZ (v:=.ty "int") rfl BS Ot rfl) af))) (Cm (Pg (az mw #[38] aZ cf (aa (pv 0) (aa (mZ (v:=.ty "bool") rfl Cy Q4 rfl) af)))))))),?_⟩
 exists 0
 refine⟨_,rfl,_,_,_,_,rfl,pX.int z,CI K,_,rfl,oU ?_⟩
 exact⟨_,rfl,_,_,_,_,rfl,pX.int z,BC K,_,rfl,q⟩
theorem adb(F:bL K "_law_refused" "_law_refused" oZ dV f fd)(c:Fh K C)(xi:Bl K C f0)(na:Ym K #[31] "most" = some none)(eG:mg "FigureError" = some (.ref F0))(ij:mg "TooGreat" = some #[31])(xm:yY K #[31] #[31]=some true)(kf:Ys K #[31] (.ref F0)=some true)(kv:Ys K #[31] #[241]=some true)(Ce:mg "TooWide" = some (.ref D8))(k8:Ys K #[31] (.ref D8)=some false)(Di:tQ P w K mg base "some" 6 ["machine","base","many","at","most"] [] (EK C))(pS:aeN P w K mg base "_law_whole" 1 ["_law_found"] [] wH)(aZ:mg "isinstance" = none)(tD:mg "ValueError" = none):bw P w K mg base eS 7 f fd ["_law_machine_here","_law_base","_law_many","_law_at","_law_most"] abr:=by
 refine F.ok eC #[6] #[1]
 ·obtain⟨m,r,g,many,wd,N,most,b,n,at_,rows,ms,signs,rfl,_⟩:=h
  rfl
 obtain⟨m,r,g,many,wd,N,most,b,n,at_,rows,ms,signs,rfl,M,R,ls,n1,Z,m1,nd,re,big,k⟩:=h
 refine⟨_,(ah (aD (i:=5) eC.nd cM)
   (ah (RH (i:=6) eC.nd rfl rfl ij xm (RI (abd (Hl Di hr (aa (pv 0) (aa (pv 1) (aa (pv 2) (aa (pv 3) #[106]))))))) (fun _=>(ah (aD (i:=5) eC.nd (sY (ajp pS hr.held (aa (Ip K (pv 6)) af)) (sY (hJ lJ (Ip K (pv 6)) (pv 4) (bz _)) (Cm (Pg (az (DS K) #[38] aZ cf (aa (pv 6) (aa (RA (v:=.ref _) rfl Ce rfl) af))))))))
   (ak (aD (i:=5) eC.nd (sY (pv 5) (sY (az (DS K) #[38] aZ cf (aa (pv 6) (aa (RA (v:=.ref _) rfl eG rfl) af))) (Cm (az (DS K) #[38] aZ cf (aa (pv 6) (aa (mZ (v:=.ty "ValueError") rfl tD Fi rfl) af)))))))))))
   (ak (aJ (pv 5))))),?_⟩
 exists 0
 refine⟨_,rfl,_,rfl,_,rfl,_,rfl,_,rfl,m,r,g,many,wd,N,most,b,n,at_,rows,signs,rfl,M,R,ls,n1,Z,m1,fun m' r' g' ax signs' kk H' s' M' SO le=>?_,fun d H' ps s' hd Ik re' lt=>⟨rfl,d,rfl,fun ea hea=>?_⟩⟩
 ·exfalso
  obtain⟨ks,ps,mD,W,G,el,LO,en⟩:=SO.ex
  have:=eA nd fun p hp=>(G.rch el).mpr (re p hp)
  omega
 have s1:=s'.trans (aj hea (HO.ext (Av ea C d)))
 have HZ:(upd H' ea (HO.ext (Av ea C d))) d=some (.xd [("most",.int most)]):=by rw[ag (ao hd hea)];exact hd
 refine⟨_,rfl,ea,C,d,f0,_,_,rfl,ae,HZ,xi,na,rfl,_,rfl,_,rfl,oU ?_⟩
 exists _,rfl,ea,C,d,f0,_,_,rfl,ae,HZ,xi,na,rfl,_,rfl,rfl,_,rfl
 rw[decide_eq_true rfl]
 refine oU ⟨_,rfl,ea,C,d,_,_,_,rfl,ae,c,rfl,k8,_,rfl,?_⟩
 refine⟨_,rfl,_,rfl,oU ⟨_,rfl,ea,C,d,_,_,_,rfl,ae,c,rfl,kf,?_⟩⟩
 refine⟨_,rfl,oU ⟨_,rfl,ea,C,d,_,_,_,rfl,ae,c,rfl,kv,?_⟩⟩
 exact⟨_,rfl,k _ s1⟩
end
inductive abo (vs:List V) (H:Hp) (Q:VK) (E:XK):Prop
 | mk (m r g:Qo) (many at_:Nat) (sg:Int) (_:vs=[.ref m,.int at_]) (_:bG H m r g 4 (bu many) (JV many sg)) (_:(many=8\/many=9)) (_:at_<=1) (_:∀ H':Hp,ay H H'->Q #[284] H')
inductive RU (K:Yh) (vs:List V) (H:Hp) (Q:VK) (E:XK):Prop
 | mk (a:Qo) (ns:LI) (_:vs=[.ref a]) (_:pk K H a #[37]) (_:ns.length<=63) (_:∀ H',Q #[284] H')
theorem Bq(many:Nat):(bu many).length=many:=by unfold bu;rw[aO,jq]
section
theorem rA:aE ["_law_script","_law_base","_law_many","_law_wide_here","_law_at","_law_comb_here","_law_machine_here","_law_by_left_here","_law_count","_law_found"] ["_law_script"] (ar abk):=cV #[3]
theorem ac7(F:bL K "_law_by_default" "_law_by_default" iZ dV f fd)(xi:Bl K C f0)(na:Ym K #[31] "most" = some none)(ij:mg "TooGreat" = some #[31])(xm:yY K #[31] #[31]=some true)(wN:tQ P w K mg base "some" 6 ["machine","base","many","at","most"] [.int 200] (EK C))(df:bQ P w K mg base "_law_whole" 1 ["_law_found"] [] wH)(cL:bQ P w K mg base "_law_is_machine" 2 ["_law_found","_law_wide_here"] [] Ct)(aN:mg "len" = none)(BS:mg "int" = none):bw P w K mg base eS 7 f fd ["_law_machine_here","_law_at"] abo:=by
 refine F.ok ck #[6] #[1]
 ·obtain⟨m,r,g,many,at_,sg,rfl,_⟩:=h
  rfl
 obtain⟨m,r,g,many,at_,sg,rfl,M,hm,ha,k⟩:=h
 have hu3:=aaf hr
 have m8:8<=many/\many<=9:=by omega
 have Z:Sf 2 2 4 2 at_:=aby (b:=2) (n:=2) (at_:=at_) ⟨by decide,by decide⟩ ⟨by decide,by decide⟩ #[13] #[0]
 have R:=acb (many:=many) #[0]
 refine⟨_,(ah (aD (i:=2) ck.nd aq)
   (ah (aD (i:=3) ck.nd aa2)
   (ah (RH (i:=4) ck.nd rfl rfl ij xm (RI (adx (i:=3) ck.nd rfl #[248] (Hl wN hr (aa (pv 0) (aa aq (aa aq #[81])))))) (fun _=>(ak (aD (i:=2) ck.nd (Ip K (pv 4))))))
   (ah (cK (bK lJ #[93] aq (bz _)) (ak (aJ (sY (bE df hr #[63]) (Cm (hJ lJ (pv 2) aq (bz _)))))) bB)
   (ah (aD (i:=5) ck.nd (cE (aa aq (aa (cE (aa (cE (aa aq (aa aq af))) af)) (aa (cE (aa (aM Sk #[38] BS Ot (aa (hJ lJ (aF aI #[5] aq #[12]) aq (bz _)) af)) af)) af)))))
   (ak (aJ (sY (hJ lJ (pv 2) aq (bz _)) (sY (bE cL hr (aa (pv 3) (aa aq af))) (Cm (hJ ((aaP 2 hu3)) (pv 3) (pv 5) (bz _)))))))))))),?_⟩
 exists 0
 refine⟨_,rfl,_,rfl,m,r,g,many,4,2,200,2,2,at_,bu many,JV many sg,rfl,M,R,zx,⟨by omega,by omega⟩,Z,⟨by decide,by decide⟩,fun m' r' g' ax signs' kk H' s' M' SO le=>?_,fun d H' ps s' hd nd re lt=>⟨rfl,d,rfl,fun ea hea=>?_⟩⟩
 ·have M1:=M.same fun b xs e=>s' _ _ e
  obtain⟨cN,hr1,hA1⟩:=M1.rows
  have lra:=hA1.length
  rw[Bq]at lra
  rcases hm with h8|h9
  rotate_left
  ·exfalso
   subst h9
   have:=OA ha SO
   omega
  subst h8
  obtain⟨e1,e2⟩:=Sr ha SO
  subst e1 e2
  obtain⟨_,_,_,_,_,_,LO,_⟩:=SO.ex
  refine⟨_,rfl,m,_,_,_,rfl,rfl,bV M1.tup,rfl,r,_,rfl,.inr (bV hr1),rfl,_,rfl,rP #[53] #[191]⟩
  ·exfalso
   rw[aO,lra]at c
   cases c
  refine⟨(by show 2<=sizeLine;decide),fun t0 ht0=>⟨#[45],fun t1 ht1=>?_⟩⟩
  have s0:=aj ht0 (HO.tup [V.int 0,V.int 0])
  have s1:=aj ht1 (HO.tup [V.ref t0])
  have M2:=M1.same fun b xs e=>s1 _ _ (s0 _ _ e)
  refine⟨_,rfl,m,_,_,_,rfl,rfl,bV M2.tup,rfl,g,_,_,_,rfl,rfl,bV M2.sgn,rfl,rfl,.inr ⟨_,rfl,?_⟩⟩
  refine⟨#[45],fun t2 ht2=>⟨#[117],fun t3 ht3=>?_⟩⟩
  have s2:=aj ht2 (HO.tup [V.int (if decide (V.int sg=V.int 1)=true then 1 else 0)])
  have s3:=aj ht3 (HO.tup [V.int 2,V.ref t1,V.ref t2])
  have S:=s0.trans (s1.trans (s2.trans s3))
  exists 3
  have e1:(if decide (V.int sg=V.int 1)=true then(1:Int)else 0)=if sg=1 then 1 else 0:=by by_cases c:sg=1<;>simp[c]
  have ML:bG _ t3 t1 t2 2 [[0,0]] [if sg=1 then 1 else 0]:=⟨ae,⟨[t0],s3 _ _ (s2 _ _ ae),.cons (s3 _ _ (s2 _ _ (s1 _ _ ae))) .nil⟩,by
   show _=some (HO.tup [V.int (if sg=1 then 1 else 0)])
   rw[<- e1]
   exact s3 _ _ ae⟩
  have M4:=M'.same fun b xs e=>S _ _ e
  exists _,rfl,rfl,_,rfl
  rw[decide_eq_true rfl]
  refine oU ⟨_,rfl,m',r',g',2,_,_,rfl,M4,LO.ok,LO.pos,LO.sgn,_,rfl,oU ⟨_,rfl,_,rfl,m',t3,_,_,rfl,rfl,bV M4.tup,bV ML.tup,bG.eqD M4 ML,k _ (s'.trans S)⟩⟩
 ·have s1:=s'.trans (aj hea (HO.ext (Av ea C d)))
  have HZ:(upd H' ea (HO.ext (Av ea C d))) d=some (.xd [("most",.int (200:Nat))]):=by rw[ag (ao hd hea)];exact hd
  exists _,rfl,ea,C,d,f0,_,_,rfl,ae,HZ,xi,na,rfl
  exists 3
  have M1:=M.same fun b xs e=>s1 _ _ e
  obtain⟨cN,hr1,hA1⟩:=M1.rows
  have lra:=hA1.length
  rw[Bq]at lra
  rcases hm with h8|h9
  ·exfalso
   subst h8
   have:=Ss ha nd re
   omega
  subst h9
  refine⟨_,rfl,m,_,_,_,rfl,rfl,bV M1.tup,rfl,r,_,rfl,.inr (bV hr1),rfl,_,rfl,rP #[191] #[53]⟩
  ·refine⟨_,rfl,_,rfl,_,rfl,oU ⟨_,rfl,rfl,?_⟩⟩
   exact k _ s1
  ·exfalso
   refine c ?_
   rw[aO,lra]
   rfl
end
section
theorem af6(F:bL K "law" "law" abk dV f fd)(aV:bQ P w K mg base "_law_number" 1 ["_law_script","_law_k"] [] (RZ K))(sq:bQ P w K mg base "_law_sides" 1 ["_law_number_here"] [] R3)(iB:bQ P w K mg base "_law_wide" 1 ["_law_base","_law_many"] [] IG)(tS:bQ P w K mg base "_law_comb" 1 ["_law_many","_law_sign"] [] abn)(iP:bQ P w K mg base "_law_by_default" 7 ["_law_machine_here","_law_at"] [] abo)(oC:bQ P w K mg base "_law_machine" 2 ["_law_script","_law_start","_law_wide_here","_law_many","_law_lost"] [] (RX K))(oB:bQ P w K mg base "_law_by_left" 2 ["_law_base","_law_wide_here","_law_at"] [] (MT K))(tV:bQ P w K mg base "_law_sets" 2 ["_law_machine_here","_law_by_left_here"] [] (abu K))(Oh:bQ P w K mg base "some" 6 ["machine","base","many","at","most"] [] (fun vs H Q _=>EK C vs H Q fun _ _ _=>False))(Dy:bQ P w K mg base "some" 6 ["machine","base","many","at","most"] [.int 200] (fun vs H Q _=>EK C vs H Q fun _ _ _=>False))(dI:bQ P w K mg base "_law_is_steady_least" 3 ["_law_found","_law_wide_here"] [] aey)(si:bQ P w K mg base "_law_agree" 2 ["_law_script","_law_machine_here","_law_by_left_here","_law_found"] [] (RP K))(tT:bQ P w K mg base "_law_fits" 3 ["_law_script","_law_machine_here","_law_base","_law_many","_law_at","_law_found"] [] (abp K))(oG:bQ P w K mg base "_law_refused" 7 ["_law_machine_here","_law_base","_law_many","_law_at","_law_most"] [] abr):bw P w K mg base eS 8 f fd ["_law_script"] (RU K):=by
 refine F.ok rA #[6] #[1]
 ·obtain⟨a,ns,rfl,_⟩:=h
  rfl
 obtain⟨a,ns,rfl,hS,Fp,k⟩:=h
 have hu3:=aaf hr
 refine wc (bc (mT.mk (Ph (bE sq hr (aa #[49] af)) (AO rfl (cR (aL (i:=1) rA.nd) (cR (aL (i:=2) rA.nd) pK)))))
   (bc (mT.mk (aD (i:=3) rA.nd (bE iB hr (aa (pv 1) #[63]))))
   (bc (mT.mk (aD (i:=4) rA.nd (aS de #[49] (pv 2))))
   (bc (mT.mk (cK (bK lJ #[266] aq (bz _)) (ah (aD (i:=5) rA.nd (bE tS hr (aa (aS dP aq #[266]) (aa #[266] af))))
   (ak (aJ (bE iP hr (aa (pv 5) (aa #[266] af)))))) bB))
   (bc (mT.mk (aD (i:=6) rA.nd (bE oC hr (aa (pv 0) (aa aq (aa (pv 3) (aa (aS dP aq #[266]) (aa (hJ lJ #[266] aq (bz _)) af))))))))
   (bc (mT.mk (aD (i:=7) rA.nd (bE oB hr (aa (pv 1) (aa (pv 3) #[106])))))
   (bc (mT.mk (aD (i:=8) rA.nd (bE tV hr (aa (pv 6) (aa (pv 7) af)))))
   (bc (mT.mk (aD (i:=9) rA.nd (bE Oh hr (aa (pv 6) (aa (pv 1) (aa (pv 2) (aa (pv 4) (aa (pv 8) af))))))))
   (bc (mT.mk (cK (ir (eJ (bE dI hr (aa (pv 9) (aa (aS BG (pv 3) (pv 1)) af))))) #[126] bB))
   (bc (mT.mk (cK (ir (eJ (bE si hr (aa (pv 0) (aa (pv 6) (aa (pv 7) (aa (pv 9) af))))))) #[126] bB))
   (bc (an9 (PTW.mk (ir (eJ (bE tT hr (aa (pv 0) (aa (pv 6) (aa (pv 1) (aa (pv 2) (aa (pv 4) (aa (pv 9) af)))))))))) (rC (mT.mk (aJ cM))) agQ)
   (bc (mT.mk (cK (PW.pt (Iu (bK Mq (pv 8) aq (bz _)) (Du (ir (eJ (bE oG hr (aa (pv 6) (aa (pv 1) (aa (pv 2) (aa (pv 4) (aa (aS Il (pv 8) aq) af))))))))))) #[126] bB))
   (rC (mT.mk (aJ (hJ ((aaP 2 hu3)) (bE Dy hr (aa (pv 6) (aa (pv 1) (aa (pv 2) #[106])))) (pv 9) (bz _))))))))))))))))) ?_
 exists 0
 refine⟨_,rfl,a,0,ns,rfl,hS,Fp,by decide,by decide,fun v0 z0 z1=>⟨v0,rfl,fun t H1 b n s1 ht ok=>?_⟩⟩
 obtain⟨b2,n3,b9⟩:=ok
 exists t,_,rfl,bV ht,rfl,_,_,rfl,_,_,rfl,rfl
 have hS1:=s1.seq hS
 have pe:∀ t:Nat,((b:Nat):Int)^t=((b^t:Nat):Int):=fun t=>by push_cast;rfl
 refine⟨_,rfl,_,rfl,(b:Int),n,rfl,⟨by omega,by omega⟩,by omega,?_⟩
 exists 3
 rw[pe n]
 refine⟨_,rfl,a,1,ns,rfl,hS1,Fp,by decide,by decide,fun v1 u0 u1=>⟨_,rfl,_,_,rfl,rfl,by omega,?_⟩⟩
 have am:=fM (a:=v1) (b:=(n:Int)) #[0]
 obtain⟨at_,ea⟩:=cZ am.1
 have an:at_<n:=by omega
 exists 3
 rw[ea]
 have Z:=aby (b:=b) (n:=n) (at_:=at_) ⟨by omega,by omega⟩ ⟨by omega,by omega⟩ #[0] an
 obtain⟨wd,ew⟩:∃ wd,b^n=wd:=⟨_,rfl⟩
 obtain⟨N,eN⟩:∃ N,b^(n-1)=N:=⟨_,rfl⟩
 rw[ew,eN]at Z
 rw[ew]at b9 ⊢
 have hN:=Z.nl
 refine⟨_,rfl,a,4,ns,rfl,hS1,Fp,by decide,by decide,fun v4 _ _=>⟨_,_,rfl,rfl,(by show(0:Int)<16;decide),rfl,_,rfl,LY #[53] #[53]⟩⟩
 ·refine⟨_,rfl,a,2,ns,rfl,hS1,Fp,by decide,by decide,fun v2 _ _=>⟨_,_,rfl,rfl,#[233],_,_,rfl,rfl,?_⟩⟩
  refine⟨_,rfl,a,3,ns,rfl,hS1,Fp,by decide,by decide,fun v3 _ _=>⟨_,_,rfl,rfl,(by show(0:Int)<3;decide),?_⟩⟩
  have d2:=fM (a:=v2) (b:=2) #[13]
  obtain⟨many,em⟩:=cZ (x:=8+v2%2) #[0]
  refine⟨many,_,by show [V.int (8+v2%2),_]=_;rw[em],⟨by omega,by omega⟩,fun m r g H2 s2 M2=>?_⟩
  exists 3
  refine⟨_,rfl,_,rfl,a,1,ns,rfl,s2.seq hS1,Fp,by decide,by decide,fun v1' _ _=>⟨_,_,rfl,rfl,#[233],?_⟩⟩
  have d1:=fM (a:=v1') (b:=2) #[13]
  obtain⟨at1,ea1⟩:=cZ d1.1
  exact⟨m,r,g,many,at1,_,by show [V.ref m,V.int (v1'%2)]=_;rw[ea1],M2,by omega,by omega,fun H' _=>k H'⟩
 exists 3
 refine⟨_,rfl,_,rfl,_,rfl,a,2,ns,rfl,hS1,Fp,by decide,by decide,fun v2 _ _=>⟨_,_,rfl,rfl,(by show(0:Int)<5;decide),_,_,rfl,rfl,?_⟩⟩
 refine⟨_,rfl,a,3,ns,rfl,hS1,Fp,by decide,by decide,fun v3 _ _=>⟨_,_,rfl,rfl,#[233],rfl,?_⟩⟩
 have d2:=fM (a:=v2) (b:=5) #[13]
 obtain⟨many,em⟩:=cZ (x:=1+v2%5) #[0]
 have n1:1<=many/\many<=5:=by omega
 have wd2:2<=wd:=by
  rw[<- ew]
  exact jk b2.1 (by have:=zE (n:=b) #[0] n3.1;rw[Nat.pow_one]at this;exact this)
 refine⟨a,5,_,many,wd,ns,by show [V.ref a,V.int 5,V.int (wd:Int),V.int (1+v2%5),_]=_;rw[em],hS1,Fp,⟨by decide,by decide⟩,⟨by omega,by omega⟩,⟨wd2,by omega⟩,fun m r g H2 rows signs s2 M R ls SS=>?_⟩
 exists 3
 refine⟨_,rfl,_,rfl,_,rfl,b,wd,at_,N,(b:Int)^(n-1-at_),rfl,⟨by omega,by omega⟩,by omega,by omega,Z.e2,Z.f2,fun T H3 oy s3 B=>?_⟩
 exists 3
 have M3:=M.same fun b xs e=>s3 _ _ e
 refine⟨_,rfl,_,rfl,m,T,r,g,oy,H2,many,wd,N,b,n,at_,rows,signs,rfl,M3,R,n1,Z,B,fun ms H4 s4 nd hms=>?_⟩
 exists 3
 have M4:=M3.same fun b xs e=>s4 _ _ e
 have Fm:ms.length<=32:=jk (AQ nd fun p hp=>tJ.ok n1.1 ((hms p).mp hp)) (jk (zE #[13] n1.2) #[13])
 have ms1:1<=ms.length:=Ja ((hms [0]).mpr tJ.start)
 refine⟨_,rfl,_,rfl,_,rfl,_,rfl,_,rfl,m,r,g,many,wd,N,ms.length,b,n,at_,rows,signs,rfl,M4,R,ls,⟨n1.1,by omega⟩,Z,⟨ms1,by omega⟩,fun m1 r1 g1 mD Pu kk H5 s5 M5 SO le=>?_,fun d H5 ps s5 hd nd5 re lt=>?_⟩
 rotate_left
 ·have:=eA nd5 fun p hp=>(hms p).mpr (re p hp)
  omega
 exists 3
 have M5' := M4.same fun b xs e=>s5 _ _ e
 have S:=s1.trans (s2.trans (s3.trans (s4.trans s5)))
 have ekk:kk=ms.length:=by
  obtain⟨ks,ps,eP,W,G,el,LO,en⟩:=SO.ex
  rw[en]
  exact RK G.nd nd (fun p=>G.rch el) hms
 obtain⟨_,ps,_,_,G,el,LO,en⟩:=SO.ex
 have ed:(wd:Int) / (b:Int)=(N:Int):=by
  rw[Z.e2,Z.f2,Jy,zK (b:Int),<- Jy]
  exact Zv _ #[0]
 have aqx:mD.length<=32:=by
  have h1:=LO.Fm (G.ok el) (by have:=(fK G.hd).1;omega)
  omega
 refine⟨_,rfl,_,rfl,_,rfl,_,_,rfl,rfl,⟨by omega,by omega⟩,m1,r1,g1,N,mD,Pu,by show [V.ref m1,V.int ((wd:Int) / (b:Int))]=_;rw[ed],M5,LO.ok,⟨LO.pos,by omega⟩,⟨hN.1,by omega⟩,LO.sgn,LO.ord,LO.apart,SO.agv Z R SS n1.1,fun H6 s6=>⟨_,rfl,lQ ?_⟩⟩
 have s56:=s5.trans s6
 have M6:=M5.same fun b xs e=>s6 _ _ e
 refine⟨_,rfl,_,rfl,_,rfl,_,rfl,a,m,T,m1,r,g,r1,g1,oy,H2,ns,many,wd,N,b,n,at_,kk,rows,mD,signs,Pu,rfl,(S.trans s6).seq hS,Fp,M4.same (fun b xs e=>s56 _ _ e),R,ls,n1,Z,B.same #[271],M6,SO,fun H7 s7=>⟨_,rfl,lQ ?_⟩⟩
 have s57:=s56.trans s7
 have M7:=M6.same fun b xs e=>s7 _ _ e
 have MM7:=M4.same fun b xs e=>s57 _ _ e
 refine⟨_,rfl,_,rfl,_,rfl,_,rfl,_,rfl,_,rfl,a,m,m1,r,g,r1,g1,ns,many,wd,N,b,n,at_,kk,rows,mD,signs,Pu,rfl,((S.trans s6).trans s7).seq hS,Fp,MM7,R,ls,n1,Z,by omega,SS,M7,SO,fun H8 s8=>⟨_,rfl,lQ ?_⟩⟩
 have M8:=M7.same fun b xs e=>s8 _ _ e
 have MM8:=MM7.same fun b xs e=>s8 _ _ e
 exists 3
 refine dh (t:=adO _ _ _) (fun σ' H'=>σ'=[some #[203],some (.int b),some (.int n),some (.int wd),some (.int at_),none,some #[73],some #[249],some (.int (ms.length:Nat)),some (.ref m1)]/\ay H8 H') ?_ #[41]
 rotate_left
 ·refine⟨_,rfl,_,_,rfl,rfl,_,rfl,rP #[53] (fun c=>iK _ _ ⟨rfl,fun _ _ e=>e⟩)⟩
  have e1:((ms.length:Nat):Int)-1=((ms.length-1:Nat):Int):=by omega
  refine⟨_,rfl,_,rfl,_,rfl,_,rfl,_,rfl,_,_,rfl,rfl,m,r,g,many,wd,N,ms.length-1,b,n,at_,rows,ms,signs,by show [V.ref m,V.int (b:Int),V.int (n:Int),V.int (at_:Int),V.int (((ms.length:Nat):Int)-1)]=_;rw[e1],MM8,R,ls,⟨n1.1,by omega⟩,Z,⟨by omega,by omega⟩,nd,fun p hp=>(hms p).mp hp,by omega,fun H9 s9=>⟨_,rfl,lQ (iK _ _ ⟨rfl,s9⟩)⟩⟩
 rintro σ' H9 ⟨rfl,s9⟩
 refine⟨_,rfl,_,rfl,_,rfl,_,rfl,m,r,g,many,wd,N,200,b,n,at_,rows,signs,rfl,MM8.same (fun b xs e=>s9 _ _ e),R,ls,⟨n1.1,by omega⟩,Z,⟨by decide,by decide⟩,fun m2 r2 g2 eP Pw k2 Ha sa Ma SO2 _=>?_,fun d H5 ps s5 hd nd5 re lt=>?_⟩
 rotate_left
 ·have:=eA nd5 fun p hp=>(hms p).mpr (re p hp)
  omega
 obtain⟨⟨e1,e2⟩,_⟩:=SO.one SO2 n1.1
 subst e1 e2
 have Mb:=M8.same fun b xs e=>sa _ _ (s9 _ _ e)
 exact⟨_,rfl,m2,m1,_,_,rfl,rfl,bV Ma.tup,bV Mb.tup,bG.eqD Ma Mb,k _⟩
end
structure Here(P:qJ)(w:World)(K:Yh)(mg:qN->Option Value)(base:Heap):Prop
structure dD(K:Yh)(mg:qN->Option Value)(x:qN)(st:Stmt):Prop where
 ex:∃ (f:Qo) (fd:Qz),mg x=some #[94]/\bL K x x st .none f fd
structure TopD(K:Yh)(mg:qN->Option Value)(x:qN)(st:Stmt)(d:V):Prop where
 ex:∃ (f T:Qo) (fd:Qz) (o:Obj) (n:Nat) (u:Value),mg x=some #[94]/\bL K x x st #[249] f fd/\K.lookup T=some o/\o.data=.seq #[u] n/\RelV d u
structure Dz(K:Yh)(C:Qo)(m q:qN)(st:Stmt):Prop where
 ex:∃ (f:Qo) (fd:Qz),Meth K C m f/\bL K m q st .none f fd
structure U5(K:Yh)(C:Qo)(q:qN)(st:Stmt):Prop where
 ex:∃ (f:Qo) (fd:Qz),Mk K C f/\bL K "__init__" q st .none f fd
section
variable{h:Heap}{x q m:qN}{T:Qo}{oc kV pm ct u:Value}{ps:List qN}{k:Nat}
theorem an5(X:K.In h)(G:h.Ns WA mg)(a:GS K WA x=some #[247])(l:K.lookup f=some ⟨oc,od,.func (Yr x x (eM st) (di st) (ar st) .none kV doc pm an cC ct),Hj⟩)(c:yE K cC x=true)(k:Yp K #[94]=true):dD K mg x st:=
 ⟨_,_,xk X G a,Bt l c k⟩
theorem an4(X:K.In h)(G:h.Ns WA mg)(a:GS K WA x=some #[247])(l:K.lookup f=some ⟨oc,od,.func (Yr x x (eM st) (di st) (ar st) #[249] kV doc pm an cC ct),Hj⟩)(c:yE K cC x=true)(k:Yp K #[94]=true)(t:K.lookup T=some ⟨tc,td,.seq #[u] n,tsl⟩)(r:RelV d u):TopD K mg x st d:=
 ⟨_,_,_,_,_,_,xk X G a,Bt l c k,t,rfl,r⟩
theorem anc(a:Ym K #[31] m=some #[247])(l:K.lookup f=some ⟨oc,od,.func (Yr m q (eM st) (di st) (ar st) .none kV doc pm an cC ct),Hj⟩)(c:yE K cC q=true)(k:Yp K #[94]=true)(n:yW K #[94]=true):Dz K C m q st:=
 ⟨_,_,⟨a,n,k⟩,Bt l c k⟩
theorem amY(a:Ym K #[31] "__init__" = some #[247])(l:K.lookup f=some ⟨oc,od,.func (Yr "__init__" q (eM st) (di st) (ar st) .none kV doc pm an cC ct),Hj⟩)(c:yE K cC q=true)(k:Yp K #[94]=true)(n:yW K #[94]=true)(mk:XZ K C=true)(kc:Yp K #[31]=true):U5 K C q st:=
 ⟨_,_,⟨mk,a,n,kc⟩,Bt l c k⟩
def BdN(p:List Value->Prop):Nat->List Value->Prop
 | 0,us=>p us
 | n+1,us=>∀ a,BdN p n (us++[a])
theorem BdN.all{p:List Value->Prop}:∀ {n:Nat} {vs:List Value} (us:List Value),BdN p n vs->us.length=n->p (vs++us)
 | 0,vs,[],h,_=>by rw[jx];exact h
 | n+1,vs,u :: us,h,e=>by
  have:=BdN.all us (h u) (Nat.succ.inj e)
  rw[JC]at this
  exact this
abbrev Bd(x q:qN)(st:Stmt)(ps:List qN):Prop := ∀ (kV doc pm:Value) (an:Option Qo) (cC ct:Value),BdN (fun us=>bindArgs (Yr x q (eM st) (di st) (ar st) .none kV doc pm an cC ct) ⟨us,[]⟩=pure (ps.zip us)) ps.length []
abbrev BdD(x:qN)(st:Stmt)(ps:List qN)(m:Nat)(g:Value->List Value):Prop := ∀ (T:Qo) (u kV doc pm:Value) (an:Option Qo) (cC ct:Value),BdN (fun us=>∃ k:Option (Array Value)->qK (List #[205]),
 bindArgs (Yr x x (eM st) (di st) (ar st) #[249] kV doc pm an cC ct) ⟨us,[]⟩=seqItems? #[249]>>=k/\k (some #[u])=pure (ps.zip (us++g u))) m []
theorem dD.g(_:Here P w K mg base)(t:dD K mg x st)(ok:∀ f fd,bL K x x st .none f fd->bw P w K mg base eS k f fd ps sp)(b:Bd x x st ps:=by (repeat intro _);rfl):bQ P w K mg base x k ps [] sp:=by
 obtain⟨f,fd,m,F⟩:=t.ex
 exact⟨f,fd,[],m,F.kp,.nil,F.binds fun k d p a c e us=>(b k d p a c e).all us,ok f fd F⟩
theorem TopD.gd(_:Here P w K mg base)(t:TopD K mg x st d)(ok:∀ T f fd,bL K x x st #[249] f fd->bw P w K mg base eS k f fd ps sp)(b:BdD x st ps (ps.length-1) fun u=>[u]:=by (repeat intro _);exact⟨_,rfl,rfl⟩)(e:ps.length-1+1=ps.length:=by rfl):bQ P w K mg base x k ps [d] sp:=by
 obtain⟨f,T,fd,o,n,u,m,F,ho,hs,r⟩:=t.ex
 exact⟨f,fd,[u],m,F.kp,.cons r .nil,F.Oq ho hs _ e fun k d p a c e us=>(b T u k d p a c e).all us,ok T f fd F⟩
theorem Dz.g(_:Here P w K mg base)(t:Dz K C m q st)(cl:IV K C)(ok:∀ f fd,bL K m q st .none f fd->bw P w K mg base eS k f fd ps sp)(b:Bd m q st ps:=by (repeat intro _);rfl):tP P w K mg base C m k ps sp:=by
 obtain⟨f,fd,M,F⟩:=t.ex
 exact⟨cl,f,fd,M,F.binds fun k d p a c e us=>(b k d p a c e).all us,ok f fd F⟩
theorem U5.g(_:Here P w K mg base)(t:U5 K C q st)(g:mg x=some #[31])(cl:IV K C)(ok:∀ f fd,bL K "__init__" q st .none f fd->bw P w K mg base eS k f fd ps sp)(b:Bd "__init__" q st ps:=by (repeat intro _);rfl):P5 P w K mg base x C k ps sp:=by
 obtain⟨f,fd,M,F⟩:=t.ex
 exact⟨g,cl,f,fd,M,F.binds fun k d p a c e us=>(b k d p a c e).all us,ok f fd F⟩
theorem dD.law{l:yp}(t:dD K mg "law" st)(hfa:mg "law" = some (.ref fa))(b:∀ (kV doc pm:Value) (an:Option Qo) (cC ct v:Value),bindArgs (Yr "law" "law" (eM st) (di st) (ar st) .none kV doc pm an cC ct) ⟨[v],[]⟩=pure [(("_law_script" : qN),v)])(ok:∀ base f fd,bL K "law" "law" st .none f fd->bw l.prog w K mg base eS k f fd ["_law_script"] sp):∃ fd:Qz,(∀ (s:qM) (v:Value),Qr s fd ⟨[v],[]⟩ [("_law_script",v)])/\∀ base:Heap,K.In base->base.Ns WA mg->bw l.prog w K mg base eS k fa fd ["_law_script"] sp:=by
 obtain⟨f,fd,m,F⟩:=t.ex
 cases m.symm.trans hfa
 exists 10
 exact⟨_,fun s v=>.of_eq (b kV doc pm an cC ct v),fun base _ _=>ok base _ _ F⟩
end
section
variable{x q m:qN}{F1 T:Qo}{oc kV pm ct u:Value}{ps:List qN}{k:Nat}
theorem dD.gH(_:Here P w K mg base)(t:dD K mg x st)(ok:∀ f fd,bL K x x st .none f fd->J2 P w K mg base eS k f fd ps sp)(b:Bd x x st ps:=by (repeat intro _);rfl):aeN P w K mg base x k ps [] sp:=by
 obtain⟨f,fd,m,F⟩:=t.ex
 exact⟨f,fd,[],m,F.kp,.nil,F.binds fun k d p a c e us=>(b k d p a c e).all us,ok f fd F⟩
theorem TopD.gX2(_:Here P w K mg base)(t:TopD K mg x st d)(ok:∀ T f fd,bL K x x st #[249] f fd->bw P w K mg base (P4 P w) k f fd ps sp)(b:BdD x st ps ps.length fun _=>[]:=by (repeat intro _);exact⟨_,rfl,rfl⟩):tQ P w K mg base x k ps [] sp:=by
 obtain⟨f,T,fd,o,n,u,m,F,ho,hs,r⟩:=t.ex
 exact⟨f,fd,[],m,F.kp,.nil,F.Oq ho hs ps.length rfl fun k d p a c e us=>(b T u k d p a c e).all us,ok T f fd F⟩
theorem TopD.alF(_:Here P w K mg base)(t:TopD K mg x st d)(ok:∀ T f fd,bL K x x st #[249] f fd->bw P w K mg base (P4 P w) k f fd ps sp)(b:BdD x st ps (ps.length-1) fun u=>[u]:=by (repeat intro _);exact⟨_,rfl,rfl⟩)(e:ps.length-1+1=ps.length:=by rfl):tQ P w K mg base x k ps [d] sp:=by
 obtain⟨f,T,fd,o,n,u,m,F,ho,hs,r⟩:=t.ex
 exact⟨f,fd,[u],m,F.kp,.cons r .nil,F.Oq ho hs _ e fun k d p a c e us=>(b T u k d p a c e).all us,ok T f fd F⟩
structure abZ(K:Yh)(C F1 f:Qo)(q:qN)(st:Stmt):Prop where
 ex:∃ fd:Qz,Bl K C f/\bL K "__init__" q st .none f fd
theorem abZ.g(_:Here P w K mg base)(t:abZ K C F1 f q st)(g:mg x=some #[31])(ok:∀ fd,Bl K C f->bL K "__init__" q st .none f fd->bw P w K mg base eS k f fd ps sp)(b:Bd "__init__" q st ps:=by (repeat intro _);rfl):aeO P w K mg base x C f k ps sp:=by
 obtain⟨fd,M,F⟩:=t.ex
 exact⟨g,M,fd,F.binds fun k d p a c e us=>(b k d p a c e).all us,ok fd M F⟩
theorem amZ(a:Ym K #[31] "__init__" = some #[247])(l:K.lookup f=some ⟨oc,od,.func (Yr "__init__" q (eM st) (di st) (ar st) .none kV doc pm an cC ct),Hj⟩)(c:yE K cC q=true)(k:Yp K #[94]=true)(n:yW K #[94]=true)(ex:AF K C f=true)(kc:Yp K #[31]=true)(sa:Ym K #[31] "__setattr__" = some #[96])(hd:yU K C=true)(mr:mroIs K C [C,F1]=true)(xc:Fh K C):abZ K C F1 f q st:=
 ⟨_,⟨ex,n,kc,sa,hd,⟨_,mr⟩,xc⟩,Bt l c k⟩
theorem aka(ga:Ym K #[31] "__getattribute__" = some (some (.builtin "BaseException.__getattribute__")))(gt:Ym K #[31] "__getattr__" = some none)(cl:Ym K #[31] "__class__" = some (some #[32]))(gg:yV K #[32] "__get__" = some (some #[40]))(tk:xO K #[32]=some true)(ob:Yw K C #[89]=some true)(be:Yw K C #[87]=some true):Fh K C:=
 ⟨ga,gt,cl,gg,tk,ob,be,by
  obtain⟨cd,e,_⟩:=zo.mp (show(Yw K C #[89])=some true from ob)
  rw[e]
  rfl⟩
end
theorem Oz{v:Value}{b:Bool}(h:Yw K C v=some b):(PySem.W.clsIn K C).isSome=true:=by
 unfold Yw at h
 obtain⟨cd,e,_⟩:=zo.mp h
 rw[e]
 rfl
theorem aiW{t:Value}{D:Qo}{b:Bool}(h1:Yw K D #[89]=some true)(h2:yR K #[86]=some #[145])(h3:yD K t #[86]=some b):Xj K t #[86]=some b:=by
 unfold Xj
 dsimp only
 rw[if_pos (by rw[Oz h1,h2];decide)]
 exact h3
theorem aiX{D:Qo}{b:Bool}(h1:Yw K D #[89]=some true)(h2:yR K #[86]=some #[145])(h3:yD K #[31] #[86]=some b)(ne:(Yi C==Yi D)=false):
  Ys K #[31] #[86]=some b:=by
 unfold Ys
 rw[if_neg (by rw[ne];decide)]
 exact aiW h1 h2 h3
theorem afX(h:yD K #[31] #[241]=some true):Ys K #[31] #[241]=some true:=by
 unfold Ys
 rw[if_neg (by intro z;cases beq_iff_eq.mp z)]
 unfold Xj
 dsimp only
 rw[if_pos #[3]]
 exact h
theorem afj{F:Qo}(h0:yD K (.ref F) #[87]=some true)(h1:Yw K F #[89]=some true)(h2:yR K (.ref F)=some #[145])(h3:yD K #[31] (.ref F)=some true):
  yY K #[31] (.ref F)=some true:=by
 unfold yY
 rw[if_pos (by rw[h0];decide)]
 exact aiW h1 h2 h3
structure Oth(K:Yh)(C D:Qo):Prop where
 o:Yw K D #[89]=some true
 t:yR K #[86]=some #[145]
 u:yD K #[31] #[86]=some false
 e:(Yi C==Yi D)=false
structure Und(K:Yh)(C D:Qo):Prop where
 o:Yw K D #[89]=some true
 t:yR K #[86]=some #[145]
 u:yD K #[31] #[86]=some true
 e:(Yi C==Yi D)=false
structure Exm(K:Yh)(C:Qo):Prop where
 b:yD K #[31] #[87]=some true
 o:Yw K C #[89]=some true
 t:yR K #[31]=some #[145]
 u:yD K #[31] #[31]=some true
theorem Oth.k{D:Qo}(h:Oth K C D):Ys K #[31] #[86]=some false:=aiX h.o h.t h.u h.e
theorem Und.k{D:Qo}(h:Und K C D):Ys K #[31] #[86]=some true:=aiX h.o h.t h.u h.e
theorem Exm.k(h:Exm K C):yY K #[31] #[31]=some true:=afj h.b h.o h.t h.u
theorem all_mk{l:yp}(hfa:mg "law" = some (.ref fa))(X6:mg "Parted" = some (.ref dC))(OI:mg "Choosing" = some (.ref cW))(ij:mg "TooGreat" = some (.ref eU))(eG:mg "FigureError" = some (.ref eF))(Ce:mg "TooWide" = some (.ref FE))(aN:mg "len" = none)(aB:mg "range" = none)(eK:mg "list" = none)(aQ:mg "tuple" = none)(iy:mg "dict" = none)(bN:mg "enumerate" = none)(BS:mg "int" = none)(aZ:mg "isinstance" = none)(Cy:mg "bool" = none)(AY:mg "reversed" = none)(abM:mg "min" = none)(abL:mg "max" = none)(EV:mg "sorted" = none)(BU:mg "set" = none)(abK:mg "any" = none)(tD:mg "ValueError" = none)(Ai:abZ K eU eF Ak "TooGreat.__init__" fQ)(Ol:dD K mg "power_of" AW)(C0:TopD K mg "reached_rooms" mM (.int 0))(HI:dD K mg "rooms_with" oo)(AA:dD K mg "rooms_leading_to" dX)(HJ:dD K mg "with_rooms" dY)(HH:dD K mg "columns_of" oj)(Sg:dD K mg "back_of" Cq)(Bf:U5 K dC "Parted.__init__" cO)(B5:Dz K dC "is_done" "Parted.is_done" lU)(Bg:Dz K dC "wait_for" "Parted.wait_for" iY)(sA:Dz K dC "next_splitter" "Parted.next_splitter" dS)(Az:Dz K dC "split_off" "Parted.split_off" dU)(B6:Dz K dC "part_by" "Parted.part_by" lV)(Bk:dD K mg "unparted_groups" dq)(ab3:dD K mg "least" BN)(K7:dD K mg "with_part" wC)(Fg:dD K mg "parts_alone" lZ)(Ah:U5 K cW "Choosing.__init__" fP)(B4:Dz K cW "begin" "Choosing.begin" lS)(CY:Dz K cW "step" "Choosing.step" hV)(CW:Dz K cW "sign" "Choosing.sign" hU)(ab2:TopD K mg "grown" Dv (.int 200))(U8:TopD K mg "some" Pq (.int 200))(Fe:dD K mg "_law_number" rn)(HF:dD K mg "_law_great" tj)(Bj:dD K mg "_law_whole" oh)(K4:dD K mg "_law_rest" wz)(DF:dD K mg "_law_machine" fh)(K1:dD K mg "_law_comb" pN)(HG:dD K mg "_law_sides" tu)(K6:dD K mg "_law_wide" wB)(DE:dD K mg "_law_by_left" lh)(K3:dD K mg "_law_next" pP)(HE:dD K mg "_law_alive" og)(B7:dD K mg "_law_one_alive" lW)(Bi:dD K mg "_law_is_machine" lA)(CZ:dD K mg "_law_in_order" mL)(Fd:dD K mg "_law_marked" lY)(Ff:dD K mg "_law_parted" rq)(sC:dD K mg "_law_is_steady_least" dW)(K5:dD K mg "_law_sets" wA)(DH:dD K mg "_law_sign_at" lC)(K2:dD K mg "_law_fits" pO)(DG:dD K mg "_law_refused" oZ)(Bh:dD K mg "_law_by_default" iZ)(HD:dD K mg "_law_agree" tf)(ie:IV K dC)(alf:Ym K (.ref dC) "group_of" = some none)(alg:Ym K (.ref dC) "members" = some none)(alh:Ym K (.ref dC) "waiting" = some none)(ali:Ym K (.ref dC) "is_waiting" = some none)(iV:IV K cW)(anZ:Ym K (.ref cW) "rows" = some none)(an0:Ym K (.ref cW) "base" = some none)(an1:Ym K (.ref cW) "below" = some none)(an2:Ym K (.ref cW) "winning" = some none)(xc:Fh K eU)(xm:Exm K eU)(xf:Und K eU eF)(afQ:Ym K (.ref eU) "most" = some none)(alw:yV K (.ref eF) "__getattribute__" = some #[188])(alx:Xa K eF #[145]=true)(alv:Xb K (.ref eF) #[145] "__init__" = some (.val #[166]))(kve:yD K (.ref eU) #[241]=some true)(Tb:Oth K eU FE)(ahF:dD K mg "law" abk):
  ∃ fd:Qz,(∀ (s:qM) (v:Value),Qr s fd ⟨[v],[]⟩ [("_law_script",v)])/\∀ base:Heap,K.In base->base.Ns WA mg->bw l.prog w K mg base eS 8 fa fd ["_law_script"] (RU K):=by
 refine ahF.law hfa (fun _ _ _ _ _ _ _=>rfl) fun base f fd ahs=>?_
 have I:Here l.prog w K mg base:=⟨⟩
 have pc:=(show J5 K dC from⟨ie,alf,alg,alh,ali⟩)
 have cc:=(show abX K cW from⟨iV,anZ,an0,an1,an2⟩)
 have me:=Ai.g I ij fun _ xi F=>ac9 F xi afQ eG alw alx alv
 have hZ:=Ol.g I fun _ _ F=>aaI F aB
 have iR:=C0.gd I fun _ _ _ F=>Pb F eK
 have su:=HI.g I fun _ _ F=>Ts F bN
 have ic:=AA.g I fun _ _ F=>aaD F bN eK iy
 have mR:=HJ.g I fun _ _ F=>aaM F aQ
 have sr:=HH.g I fun _ _ F=>ac5 F aB aQ
 have BZ:=Sg.g I fun _ _ F=>aaB F bN
 have BX:=Bf.g I X6 ie fun _ _ F=>Pa F pc aN eK aB iy bN
 have Aw:=B5.g I ie fun _ _ F=>Tj F pc aN
 have pq:=Bg.g I ie fun _ _ F=>Pc F pc
 have lK:=sA.g I ie fun _ _ F=>aaG F pc eK
 have sh:=Az.g I ie fun _ _ F=>aaK F pc pq aN iy
 have Ax:=B6.g I ie fun _ _ F=>Tr F pc sh aN
 have iT:=Bk.g I fun _ _ F=>aga F pc sr BZ BX Aw lK Ax eK iy
 have Dj:=ab3.g I fun _ _ F=>aaE F iR mR iT bN iy aN
 have tW:=K7.g I fun _ _ F=>aaN F
 have pV:=Fg.g I fun _ _ F=>aaH F aB
 have pz:=Ah.g I OI iV fun _ _ F=>Te F cc hZ su pV ic
 have Dx:=B4.g I iV fun _ _ F=>O7 F
 have HA:=CY.g I iV fun _ _ F=>Tg F cc tW aB aQ EV BU
 have Hz:=CW.g I iV fun _ _ F=>Tf F cc abK
 have A2:=ab2.gX2 I fun _ _ _ F=>Ti F Dx HA Hz me aB aN aQ
 have Di:=U8.gX2 I fun _ _ _ F=>Rx F pz hZ A2 Dj
 have wN:=U8.alF I fun _ _ _ F=>Rx F pz hZ A2 Dj
 have Oh:=(tQ.calm Di)
 have Dy:=(tQ.calm wN)
 have aV:=Fe.g I fun _ _ F=>af7 F aN
 have sk:=HF.g I fun _ _ F=>aaC F aV aN
 have df:=Bj.g I fun _ _ F=>Tn F aZ BS Cy
 have pS:=Bj.gH I fun _ _ F=>Tt F aZ BS Cy
 have tU:=K4.g I fun _ _ F=>ade F aN aB abM
 have oC:=DF.g I fun _ _ F=>aaF F aV tU aB aQ
 have tS:=K1.g I fun _ _ F=>ac6 F aB aQ
 have sq:=HG.g I fun _ _ F=>aaJ F
 have iB:=K6.g I fun _ _ F=>aaL F aB
 have oB:=DE.g I fun _ _ F=>Td F iB aB
 have iA:=K3.g I fun _ _ F=>ada F aB aN aQ
 have sj:=HE.g I fun _ _ F=>aaA F aB aN
 have fu:=B7.g I fun _ _ F=>Mo F
 have cL:=Bi.g I fun _ _ F=>O8 F df aZ aQ aN
 have mI:=CZ.g I fun _ _ F=>Tq F aN aB
 have pT:=Fd.g I fun _ _ F=>Tp F aN aB aQ
 have pU:=Ff.g I fun _ _ F=>O9 F pT eK BU aN aB
 have dI:=sC.g I fun _ _ F=>af9 F cL mI pU aN aB
 have tV:=K5.g I fun _ _ F=>adf F iA aN
 have iQ:=DH.g I fun _ _ F=>af8 F abL AY
 have tT:=K2.g I fun _ _ F=>ac8 F sk iQ aB
 have oG:=DG.g I fun _ _ F=>adb F xc me.M afQ eG ij xm.k xf.k (afX kve) Ce Tb.k Di pS aZ tD
 have iP:=Bh.g I fun _ _ F=>ac7 F me.M afQ ij xm.k wN df cL aN BS
 have si:=HD.g I fun _ _ F=>aaz F sj fu iA aN
 exact af6 ahs aV sq iB tS iP oC oB tV Oh Dy dI si tT oG
theorem walk{l:yp}{q:qJ}{XP:(qN->Option Value)->Heap->Prop}{YP:World->Heap->Prop}{d:DefRec}{K:Params->Yh}(hn:l.most=some 63)(hdf:d.params.defaults=[])(hY:∀ (w:World) (h:Heap),YP w h->#[227].In h)(F:∀ (w:World) (mg:qN->Option Value) (fa:Qo) (h:Heap),#[227].In h->h.Ns WA mg->mg d.name=some (.ref fa) ->
   ∃ fd:Qz,(∀ (s:qM) (u:Value),Qr s fd ⟨[u],[]⟩ [("_law_script",u)])/\∀ base:Heap,#[227].In base->base.Ns WA mg->bw l.prog w #[227] mg base eS 8 fa fd ["_law_script"] (RU #[227])):
  xb q loose XP YP l.row.toRowW d [] (fun f vs=>xP f vs):=
 L2.adY (n:=63) (k:=8) (x := "_law_script") (CX:=fun _=>eS) (sp:=fun w=>RU #[227]) hn #[13] hdf ⟨rfl,by decide,by decide⟩ hY F (fun _ _ a ns hl _ hS=>⟨a,ns,rfl,hS,hl,fun _=>rfl⟩) fun _ _ _ _ _ z=>z
end My
def PySem.W.Fast.tw6713742999877148835:=0
def PySem.W.Fast.tw11628086575207387743:=0
def PySem.W.Fast.tw915066525009993924:=0
def PySem.W.Fast.tw9727445422650379587:=0
def PySem.W.Fast.tw11679895986936862182:=0
def PySem.W.Fast.tw8578127275293744250:=0
def PySem.W.Fast.tw10382144217682778703:=0
def PySem.W.Fast.tw15542209768103060544:=0
def PySem.W.Fast.tw14864324403789289979:=0
def PySem.W.Fast.tw5226788626968856845:=0
def PySem.W.Fast.tw14962373539347401497:=0
def PySem.W.Fast.tw1170967421818608885:=0
def PySem.W.Fast.tw1799712786957281386:=0
def PySem.W.Fast.tw13166880345171423408:=0
def PySem.W.Fast.tw12439495334581532668:=0
def PySem.W.Fast.tw8200090878987249756:=0
def PySem.W.Fast.tw1524753114764108710:=0
def PySem.W.Fast.tw18231633101916731382:=0
def PySem.W.Fast.tw355153380546899083:=0
def PySem.W.Fast.tw14484795602946429792:=0
def PySem.W.Fast.tw539748185772786833:=0
def PySem.W.Fast.tw14140951698634924129:=0
def PySem.W.Fast.tw13383338999538700269:=0
def PySem.W.Fast.tw16098619137258552849:=0
def PySem.W.Fast.tw1898329311606374477:=0
def PySem.W.Fast.tw8485637609751488091:=0
def PySem.W.Fast.tw9204436917661708239:=0
def PySem.W.Fast.tw4706720628947864857:=0
def PySem.W.Fast.tw470451194389657143:=0
def PySem.W.Fast.tw12405855230209818511:=0
def PySem.W.Fast.tw14726807791449851055:=0
def PySem.W.Fast.tw16701565166140980023:=0
def PySem.W.Fast.tw12030817713778661654:=0
def PySem.W.Fast.tw13613551360256432618:=0
def PySem.W.Fast.tw2760043493493765012:=0
def PySem.W.Fast.tw575857500822583098:=0
def PySem.W.Fast.tw11151184674195096070:=0
def PySem.W.Fast.tw11419077993793833151:=0
def PySem.W.Fast.tw2061822055679103064:=0
def PySem.W.Fast.tw13419444096121268938:=0
def PySem.W.Fast.tw11041513541971902430:=0
def PySem.W.Fast.tw16959468116182593915:=0
def PySem.W.Fast.tw17025276810222032237:=0
def PySem.W.Fast.tw9358769065941118793:=0
def PySem.W.Fast.tw3294076200836319163:=0
def PySem.W.Fast.tw656473039709177717:=0
def PySem.W.Fast.tw12508012550966373797:=0
def PySem.W.Fast.tw9756346056050270945:=0
def PySem.W.Fast.tw9880924963382431993:=0
def PySem.W.Fast.tw2382093803143283197:=0
def PySem.W.Fast.tw6866682508880044287:=0
def PySem.W.Fast.tw1336585957666136707:=0
def PySem.W.Fast.tw270411703909199561:=0
def PySem.W.Fast.tw4221245884668465882:=0
def PySem.W.Fast.tw5422752866669400841:=0
def PySem.W.Fast.tw16542612088098369588:=0
def PySem.W.Fast.tw14397647681274360847:=0
def PySem.W.Fast.tw2873848757593765917:=0
def PySem.W.Fast.tw6492694985788805346:=0
def PySem.W.Fast.tw15241337914959460308:=0
def PySem.W.Fast.tw10779588800548617860:=0
def PySem.W.Fast.tw2563314214890842923:=0
def PySem.W.Fast.tw10993982103286180839:=0
def PySem.W.Fast.tw4896269409840381747:=0
def PySem.W.Fast.tw15419061928947960770:=0
def PySem.W.Fast.tw8005502734918751255:=0
def PySem.W.Fast.tw286328047997054595:=0
def PySem.W.Fast.tw15318411168273522014:=0
def PySem.W.Fast.tw6501251366061078490:=0
def PySem.W.Fast.tw4033451344398318520:=0
def PySem.W.Fast.tw12340308642017065867:=0
def PySem.W.Fast.tw8157913506347452065:=0
def PySem.W.Fast.tw15488906566472585103:=0
def PySem.W.Fast.tw8328420052558054177:=0
def PySem.W.Fast.tw1790224266293280472:=0
def PySem.W.Fast.tw11346935357404979530:=0
def PySem.W.Fast.tw15090585305841928784:=0
def PySem.W.Fast.tw10261630330285679283:=0
def PySem.W.Fast.tw6933294454846157001:=0
def PySem.W.Fast.tw3961721412134903815:=0
def PySem.W.Fast.tw8691650262297359931:=0
def PySem.W.Fast.tw1867955370953947268:=0
def PySem.W.Fast.tw16779952895992515884:=0
def PySem.W.Fast.tw16634539055025713298:=0
def PySem.W.Fast.tw10901763199729409818:=0
def PySem.W.Fast.tw15645109434990762763:=0
def PySem.W.Fast.tw7841899723890782922:=0
def PySem.W.Fast.tw2097524321226814909:=0
def PySem.W.Fast.tw17031970892544822878:=0
def PySem.W.Fast.tw10716289328435470495:=0
def PySem.W.Fast.tw16935390396440698084:=0
def PySem.W.Fast.tw13630887598255079707:=0
def PySem.W.Fast.tw4401224230602490399:=0
def PySem.W.Fast.tw5269544187631955485:=0
def PySem.W.Fast.tw9987034916756180077:=0
def PySem.W.Fast.tw16039474630230867359:=0
def PySem.W.Fast.tw9251836020565248419:=0
def PySem.W.Fast.tw14689978050669764394:=0
def PySem.W.Fast.tw108093144957700100:=0
def PySem.W.Fast.tw2701973640952592192:=0
def PySem.W.Fast.tw4252719064646145351:=0
def PySem.W.Fast.tw6469584673230050583:=0
def PySem.W.Fast.tw11245889179267185741:=0
def PySem.W.Fast.tw4109958557811516291:=0
def PySem.W.Fast.tw15970733927439140044:=0
def PySem.W.Fast.tw4787437955461602018:=0
def PySem.W.Fast.tw4594391809094790951:=0
def PySem.W.Fast.tw3437269634780857668:=0
def PySem.W.Fast.tw5047914388669535684:=0
def PySem.W.Fast.tw4477612666594819211:=0
def PySem.W.Fast.tw9265629304638914774:=0
def PySem.W.Fast.tw3764925827867939522:=0
def PySem.W.Fast.tw60543754684073098:=0
def PySem.W.Fast.tw8918069854891001194:=0
def PySem.W.Fast.tw14614991023017894611:=0
def PySem.W.Fast.tw15779029907488332644:=0
def PySem.W.Fast.tw1550866144882996621:=0
def PySem.W.Fast.tw3839807137993075027:=0
def PySem.W.Fast.tw7294920305427430027:=0
def PySem.W.Fast.tw17453714305260093228:=0
def PySem.W.Fast.tw15119745442750381812:=0
def PySem.W.Fast.tw10323793733697898151:=0
def PySem.W.Fast.tw12039696338369406148:=0
def PySem.W.Fast.tw12801833815233205119:=0
def PySem.W.Fast.tw4368351531153277487:=0
def PySem.W.Fast.tw843251607478851241:=0
def PySem.W.Fast.tw822979233111028904:=0
def PySem.W.Fast.tw7874193019787311515:=0
def PySem.W.Fast.tw18446485411054401004:=0
def PySem.W.Fast.tw8374041230972339552:=0
def PySem.W.Fast.tw6145935410765877598:=0
def PySem.W.Fast.tw17861917954085228382:=0
def PySem.W.Fast.tw15707152777427002153:=0
def PySem.W.Fast.tw4251009389476118983:=0
def PySem.W.Fast.tw12621570270333469070:=0
def PySem.W.Fast.tw12218920365419140938:=0
def PySem.W.Fast.tw13595444648914016818:=0
def PySem.W.Fast.tw13254006234415261810:=0
def PySem.W.Fast.tw14512588666907600947:=0
def PySem.W.Fast.tw15130459815819111898:=0
def PySem.W.Fast.tw8847918604253256194:=0
def PySem.W.Fast.tw1561931697762932673:=0
def PySem.W.Fast.tw14888329893874223977:=0
def PySem.W.Fast.tw17516274499529790968:=0
def PySem.W.Fast.tw13992593396407638767:=0
def PySem.W.Fast.tw2457449413288671595:=0
open PySem PySem.W PyProof.Rows
set_option maxRecDepth 100000 in
set_option maxHeartbeats 0 in
theorem PySem.Challenge.cw_figuretell_k26_some_number_holds : PySem.Challenge.rw_figuretell_k26_some_number.Holds := by
 w_on; o_law; k_head; (case hw=>w_witness2)
 k_fill
 refine My.walk (l:=PySem.Challenge.rw_figuretell_k26_some_number) rfl rfl (fun w h Y=>PySem.W.kIn_of Y) ?F
 case F =>
  intro w mg fa h KX G hmg
  apply My.all_mk hmg
  all_goals first
   | exact PySem.W.mg_none_of KX G (by k_is)
   | (refine' PySem.W.mg_of KX G ?qa; (case qa=>k_is))
   | (refine' My.an5 KX G ?qa ?ql ?qc ?qk; (case qa=>k_is); (case ql=>k_is); (case qc=>k_is); (case qk=>k_is))
   | (refine' My.an4 KX G ?qa ?ql ?qc ?qk ?qt ?qr; (case qa=>k_is); (case ql=>k_is); (case qc=>k_is); (case qk=>k_is); (case qt=>k_is); (case qr=>first | rfl | exact ⟨_,rfl⟩))
   | (refine' My.anc ?qa ?ql ?qc ?qk ?qn; (case qa=>k_is); (case ql=>k_is); (case qc=>k_is); (case qk=>k_is); (case qn=>k_is))
   | (refine' My.amY ?qa ?ql ?qc ?qk ?_ ?_ ?_; (case qa=>k_is); (case ql=>k_is); (case qc=>k_is); (case qk=>k_is); all_goals first | k_is | k_exc | decide | kernel_rfl)
   | (refine' My.amZ ?qa ?ql ?qc ?qk ?qn ?_ ?_ ?_ ?_ ?_ ?qxc; (case qa=>k_is); (case ql=>k_is); (case qc=>k_is); (case qk=>k_is); (case qn=>k_is); (case qxc=>refine' My.aka ?_ ?_ ?_ ?_ ?_ ?_ ?_ <;> k_is); all_goals first | k_is | k_exc | decide | kernel_rfl)
   | (refine' My.aka ?_ ?_ ?_ ?_ ?_ ?_ ?_ <;> k_is)
   | k_is
   | k_exc
   | (refine ⟨?_,?_,?_,?_⟩ <;> first | k_is | k_exc | decide | kernel_rfl)
   | decide
   | kernel_rfl
