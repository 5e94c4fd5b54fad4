import PyProof.Rows.All
import Wide.All
import OpenK.AllK
import Wide.FinOn
import Lean
import PyProof.EqAt
import PyProof.EqKinds
import PyProof.TupleCall
import PyProof.NeKinds
import PyProof.ExcBaseAll.ValueError
import PyProof.ExcClass3
import OpenK.KOwn
import PyProof.Rows.FStr
import KE.KTryMore
import PyProof.ExcAttrAll.ValueError
import KE.KDictList
import PyProof.CompMap
import PyProof.ExcInit
import PyProof.InstStoreFacts
import PyProof.Draws
import PyProof.ListRange
import PyProof.ZipIter
import PyProof.EnumMake
import PyProof.CollectIter
import PyProof.SetRoads
import PyProof.Rows.SortShell
import PyProof.Rows.SortWalk
import PySem.Challenge.RW_figuretell_k34_whole_lowered
open PySem.W renaming Frag→Wl,kitOne→Wo,findIn→Ws,keepIn→Wu,fnOf→Ww,kia_one→Wx,mroIn→Wy,emptyDict→YA,subIn→YC,hideAll_get→YE,callWith_K→YG,codeIn→YH,instObj→YL,exmOne→YR,typeIn→YZ,hasDictIn→Yd,specialIn→Ye,isFn→Yg,cellsFrom_some→Yp,excIn→Yq,plainGet→Yr,methodCall_KW→Yt,hideAll_none→Yu,OpenLaw→Yx,plainGet_of→yA,lookIn→yB,of_hideAll→yF,methodObj→yK,hideAll→yV,takerIn→yW,makesIn→yX,readsIn→yY,findCls→yZ,funFrames_hide→yb,kitCls→yl,codeRec_of→XB,plainOver→XF,kitx_list→XH,kitx_dict→XI,handedIn→XO,kdl_call→XR,takesIn→XU,exm_one→XZ,WalkO→Xd,Looks→Xg,mg_of→Xh,nsIn→xJ
open PySem.Value renaming ref→Wm,none→Wt,builtin→Wz,type→YK,int→YT,bool→Yi,str→Ys,float→XN,isStrOf→Xc,isInt→xM,bytes→xN
open PySem.F renaming plainAttrs_list→Wn,slot_list_append→Wq,type_list_append→Wr,slot_dict_keyiterator_iter→YD,slot_dict_get→YI,plainAttrs_dict→YO,slot_dict_keyiterator_next→YS,excBase_ValueError→YU,slot_tuple_iterator_next→YV,entry_dict_get→Yc,slot_enumerate_next→Yh,args_dict_keyiterator_iter_1→Yl,entry_dict_keyiterator_iter→Ym,slot_dict_itemiterator_iter→Yn,args_dict_keyiterator_next_1→Yy,entry_dict_keyiterator_next→Yz,args_tuple_iterator_next_1→yC,slot_dict_setdefault→yD,entry_tuple_iterator_next→yG,slot_list_extend→yO,type_list_extend→yP,args_dict_get_2→yQ,args_dict_get_3→yR,args_enumerate_next_1→yT,slot_dict_items→yU,entry_enumerate_next→yc,slot_dict_pop→ye,type_dict_get→yg,entry_bexc_ga→yh,slot_list_pop→yj,type_list_pop→yk,args_list_extend_2→ym,args_bexc_ga→yo,kt_typeCall_dict_1→yp,entry_list_extend→yr,slot_list_extend→XD,args_dict_init_2→XE,entry_dict_init→XM,kt_called_dict→XS,slot_dict_iter→XT,slot_dict_len→Xa
open PyProof.Rows renaming callWith_type1→Wv,slot_tuple_getitem→YJ,step_dedup→Yo,callWith_builtin1→Yv,assign_Tuple→Xt,mul_int→xT
open PySem.Calls renaming spliced_cons→YB,callWith_builtin→YF,evalArgs_plain→YM,spliced_nil→YW,Name_function_global→yH,Constant_str→yz
open PySem.Builtin.List renaming listTooLong→YN
open PySem renaming mem_of_lookup→YQ,Within→yx,call→XX
open PySem.Builtin.Slice renaming slicePlaces→YX,sliceAdjust→Yk,sliceApplied→yI,slicePartIndex→Xb,sliceFields→Xs
open PySem.Builtin.SmallTypes renaming nextOf→YY
open PySem.Builtin.Tuple renaming tupleExact→Ya,tupleItemsOf→yJ,tupleIsExact→Xe
open PySem.Builtin.Dict renaming updateFrom→Yb,addKeywords→yM,selfAndRest→yN,pairItems→yd,showsAll→yi,dictSlotNone→Xu,pendingCount→Xv
open PySem.Heap renaming SameBut→Yf,ExtBut→ya,IsRevIter→yn,IsList→xO
open PySem.Heap.SameBut renaming update→Yj,refl→xr
open PySem.SeqAt renaming EqAt→Yw
open PySem.Builtin.Dict_items renaming ownsTuple→yE
open PyProof renaming noPylong_of_log2→yL
open PySem.Builtin.ObjectAttr renaming find→yS,dataDescriptor?→XJ,getOf→xI
open PySem.Value.ref renaming inj→yq
open PySem.Builtin.Int renaming intBits→yt
open PySem.SeqAt.EqAt renaming int_str→yu,str_int→yw,int_int→XC,same→XW,none_bool→xQ,bool_none→xR,bool_bool→xS,none_int→xU,none_str→xV,bool_int→xW,bool_str→xX,int_none→xY,int_bool→xZ,str_none→xb,str_bool→xg,str_str→xk,of_refs→xp
open PySem.W.Looks renaming here→XA,ld→XQ
open PySem.Heap.Ns1 renaming of_empty→XG
open PySem.Heap.DictOf renaming new→XY
open PySem.SeqAt.RcNeAt renaming lists_lengths→Xf,tuples→xh,lists→xo
open PySem.EqNone renaming eq_none_none→Xi,eq_none_bool→Xj,eq_bool_none→Xk,ne_none_none→Xn,ne_none_bool→Xo,ne_bool_none→Xp,eq_none_int→Xw,eq_none_str→Xx,eq_int_none→Xy,eq_str_none→xA,ne_none_int→xC,ne_none_str→xD,ne_int_none→xE,ne_str_none→xG
open PySem.EqMixed renaming eq_bool_str→Xl,eq_str_bool→Xm,ne_bool_str→Xq,ne_str_bool→Xr,eq_int_str→Xz,eq_str_int→xB,ne_int_str→xF,ne_str_int→xH
open PySem.Builtin.Range renaming rangeSize→xK
open PySem.Heap.Ns renaming of_isNs→xP
open PySem.Heap.IsSliceOf renaming new→xj
open PySem.Within renaming cons→xq
open PySem.SeqAt.RcAt renaming tuples→xt
open PySem.IsL renaming update→xu
open PySem.Heap.DictOfH renaming new→xw
open PySem.Value.type renaming inj→xx
open PySem renaming Addr→QQ,Arguments→QS,BindsTo→QT,CmpOp→QV,DictEntry→QW,Env→QX,FuncData→QY,GenState→QZ,IsPart→Qb,IsTupleKey→Qe,Keyword→Qf,NameKind→Qg,Paired→Qh,PassesOwn→Qi,Program→Qj,Sem→Qk,Shared→Ql,Str→Qm,assignEach→Qp,behindInMarks→Qq,bootBuiltins→Qr,call_meets→Qt,call_meetsIn→Qu,codeAny_builtin→Qv,codeAny_call_builtin→Qw,codeAny_call_function→Qx,codeAny_handlers_suite_as→Qy,codeAny_handlers_test→Qz,codeAny_mono→qA,compareOp→qB,isSubtype_stop→qD,kt_code_dict_new→qE,mainGlobals→qG,pastItsLine_dict→qH,plainId_quiet→qI,plainObj_wpAny_Assign_Attribute→qJ,seqIndex_of→qK,sizeLine_eq→qL,starEach→qM,swapsWith→qO,sysModules→qP,tupleKind→qQ,tupleKind_room_in1→qR,wpAny_Call_Name_kw→qS,wpAny_Call_method→qU,wpAny_Expr_any→qV,wpAny_Name→qW,wpAny_Try_except→qX,wpAny_assign_Name→qY,wpAny_attempt→qZ,wpAny_bind→qd,wpAny_call→qf,wpAny_callSpecial?_slot→qg,wpAny_call_entry→qh,wpAny_comprehension_free→qj,wpAny_dictEntries→qp,wpAny_dictEpoch→qq,wpAny_dictSet_heap→qu,wpAny_entryPlaceOf→qv,wpAny_execs_cons→qw,wpAny_execs_nil→qx,wpAny_field→qy,wpAny_frameOf_fun→qz,wpAny_handleBy_cons→WA,wpAny_holding→WB,wpAny_isInstance→WC,wpAny_isOneOf_keyiter→WD,wpAny_isSubtype_exc→WE,wpAny_isTrue_Compare1→WG,wpAny_letOwnedTupleGo_enum→WH,wpAny_loadPart→WI,wpAny_loadPart_at→WJ,wpAny_lookBehind→WK,wpAny_mono→WL,wpAny_newFunctionEnv_cells→WM,wpAny_newObj_type→WN,wpAny_notOrdered_dict→WO,wpAny_of_eq→WQ,wpAny_passesOwn→WR,wpAny_pure→WS,wpAny_pyIter_enum→WT,wpAny_pyIter_list→WU,wpAny_pyIter_revIter→WV,wpAny_pyIter_slot→WW,wpAny_pyIter_tuple→WX,wpAny_pyNext_enum_itemD→WY,wpAny_pyNext_list_end→WZ,wpAny_pyNext_list_item→Wa,wpAny_rule→Wb,wpAny_seqItems→Wc,wpAny_sequenceKey→Wd,wpAny_setField→We,wpAny_specialOf→Wf,wpAny_standAt→Wg,wpAny_truthy_bool→Wh,wpAny_typeNameOfWhole_keyiter→Wi,wpAny_typeNameOf_keyiter→Wj,wpAny_typeOf→Wk
open PyProof.Rows renaming AllBare→QR,Call_→QU,IntsAre→Qa,IsTup→Qc,Subscript_→Qn,args_tuple_getitem→Qo,boot_range→Qs,subscriptTail_builtinR→qN
open PySem.W renaming looks_mroIn→qF
open Int renaming toNat_natCast→jA,toNat_of_nonneg→jb,zero_add→JO,mul_le_mul→Jl,le_of_lt→Jm,fdiv_eq_ediv_of_nonneg→zE,le_refl→zH,mul_comm→zP,lt_of_le_of_lt→zQ,le_trans→zu,mul_le_mul_of_nonneg_left→zy,mul_nonneg→ZE,emod_lt_of_pos→ZG,fmod_eq_emod_of_nonneg→ZI,add_mul_emod_self_left→ZK,emod_nonneg→ZU,emod_eq_of_lt→Zq,mul_one→Zr,mul_add→Zt,add_assoc→QE,mul_assoc→QF,pow_succ→QJ,zero_mul→QK,add_zero→QL,lt_trans→QN
open List renaming getElem?_eq_getElem→jB,mem_cons_self→jD,map_append→jF,length_append→jG,getElem_mem→jH,mem_cons_of_mem→jI,mem_singleton→jK,getD_eq_getElem?_getD→jM,getElem?_map→jN,mem_map→jO,size_toArray→jP,length_take→jQ,take_add_one→jS,length_cons→jT,take_length→jU,length_map→jX,mem_cons→jY,mem_append_right→jZ,getElem?_eq_some_iff→jc,range→jd,length_range→jg,length_singleton→jh,getElem_of_mem→ji,append_assoc→jk,mem_range→jm,mem_append_left→jn,append_nil→jo,idxOf_lt_length_of_mem→jq,getElem?_append_left→jr,range_succ→js,drop_eq_getElem_cons→jv,nodup_cons→jx,mem_filter→jy,lookup_cons→jz,mem_iff_getElem?→JB,foldl_append→JC,filter_cons_of_neg→JE,map_cons→JF,replicate→JG,getElem?_append_right→JH,map_map→JI,getElem_inj→JK,flatMap_append→JL,filter_cons_of_pos→JM,nodup_append→JQ,length_nil→JR,foldl_cons→JS,lookup→JT,flatMap_singleton→JV,getElem_map→JW,filter_append→JY,getElem?_set_self→Jf,getElem?_eq_none→Jg,getElem?_set_ne→Jh,drop_eq_nil_iff→Ji,nodup_nil→Jk,mem_flatMap→Jn,find?_cons→Jo,getElem_idxOf→Jp,length_pos_of_mem→Jq,pairwise_map→Js,set_set→Ju,length_filter_le→Jv,mem_of_getElem?→Jy,length_drop→Jz,drop_length→zA,any_eq_true→zB,mem_of_mem_take→zC,length→zG,filterMap_cons→zI,mem_append→zJ,mem_filterMap→zL,getElem_range→zO,getLast?_cons_cons→zT,getElem_take→zU,idxOf_append→zV,flatMap_cons→zW,any_cons→zY,cons_append→zZ,take_succ_eq_append_getElem→ze,take_append_drop→zg,of_mem_zip→zo,length_set→zp,eq_nil_of_length_eq_zero→zx,map_congr_left→zz,getElem?_range→ZA,dropLast_concat_getLast→ZD,take_zero→ZF,zipIdx_append→ZH,exists_cons_of_ne_nil→ZJ,filter_congr→ZM,length_erase_of_mem→ZP,flatMap_nil→ZQ,pairwise_singleton→ZS,nil_append→ZV,take_of_length_le→ZX,drop_eq_nil_of_le→ZY,length_dropLast→Za,dropLast_concat→Zc,mem_erase_of_ne→Zd,all_cons→Ze,filter_eq_self→Zg,replicate_succ→Zh,map_nil→Zj,length_zipIdx→Zn,take_sublist→Zo,map_id→Zs,all_eq_true→Zw,filter_cons→Zx,forIn_cons→Zz,filter_nil→QA,idxOf_cons→QB,map_set→QI
open PySem.Heap renaming get?_push_of_some→jC,lt_size→jJ,get?_push_size→jL,get?_update_other→jt,get?_update_self→JD,size_push→Jj,get?_none_of_le→zj,get?_push_cases→zq,get?_update_ne→Zf
open Nat renaming le_refl→jE,ne_of_lt→jR,lt_of_lt_of_le→jW,zero_le→je,le_trans→jf,pow_le_pow_right→ju,pow_succ→JJ,lt_irrefl→JP,le_succ→JU,lt_or_ge→Jb,zero_add→Jc,pow_one→Jr,ne_of_gt→Jt,sub_self→Jw,lt_succ_self→Jx,pow_lt_pow_right→zD,le_of_lt→zK,lt_of_le_of_lt→zM,lt_trans→zN,mul_comm→zR,pow_zero→zS,mod_eq_of_lt→zb,not_lt_zero→zt,mul_le_mul_right→zv,lt_pow_self→zw,mul_le_mul_left→ZC,lt_trichotomy→ZN,succ_mul→ZR,eq_zero_or_pos→Zk,add_zero→Zl,add_sub_cancel→Zm,pow_pos→Zu,succ_le_succ→Zy,le_antisymm→QC,le_of_eq→QH,mul_zero→QM,log2_lt→QO,mod_lt→QP
open Bool renaming false_ne_true→jV,false_eq_true→JA,and_eq_true→Je,eq_iff_iff→zk,false_and→ZZ,not_eq_true'→Zp,and_false→QD
open Array renaming getElem?_eq_some_iff→JN,getElem?_toList→JX,getElem?_eq_getElem→JZ,length_toList→Jd,getElem?_setIfInBounds_self_of_lt→zF,getElem?_setIfInBounds_ne→zh,toArray_toList→Zb,find?_toList→Zi,toList→QG
open Option renaming isSome_iff_exists→Ja,map_eq_some_iff→zX,isSome_map→ZL,getD_some→ZO,bind_eq_some_iff→ZT,none→ZW,getD_none→Zv
local macro_rules|`(tactic|exists $es,*)=>`(tactic|refine ⟨$es,*, ?_⟩)
set_option Elab.async false
set_option linter.all false
namespace L2
variable{t0 t1 t2 t3 t4 t5 t6 t7 t8 t9:Type}
inductive E2 (p:t0->t1->Prop):Prop
 | mk (x0:t0) (x1:t1) (h:p x0 x1):E2 p
inductive E3 (p:t0->t1->t2->Prop):Prop
 | mk (x0:t0) (x1:t1) (x2:t2) (h:p x0 x1 x2):E3 p
inductive E4 (p:t0->t1->t2->t3->Prop):Prop
 | mk (x0:t0) (x1:t1) (x2:t2) (x3:t3) (h:p x0 x1 x2 x3):E4 p
inductive E5 (p:t0->t1->t2->t3->t4->Prop):Prop
 | mk (x0:t0) (x1:t1) (x2:t2) (x3:t3) (x4:t4) (h:p x0 x1 x2 x3 x4):E5 p
inductive E6 (p:t0->t1->t2->t3->t4->t5->Prop):Prop
 | mk (x0:t0) (x1:t1) (x2:t2) (x3:t3) (x4:t4) (x5:t5) (h:p x0 x1 x2 x3 x4 x5):E6 p
inductive E7 (p:t0->t1->t2->t3->t4->t5->t6->Prop):Prop
 | mk (x0:t0) (x1:t1) (x2:t2) (x3:t3) (x4:t4) (x5:t5) (x6:t6) (h:p x0 x1 x2 x3 x4 x5 x6):E7 p
inductive E9 (p:t0->t1->t2->t3->t4->t5->t6->t7->t8->Prop):Prop
 | mk (x0:t0) (x1:t1) (x2:t2) (x3:t3) (x4:t4) (x5:t5) (x6:t6) (x7:t7) (x8:t8) (h:p x0 x1 x2 x3 x4 x5 x6 x7 x8):E9 p
inductive E10 (p:t0->t1->t2->t3->t4->t5->t6->t7->t8->t9->Prop):Prop
 | mk (x0:t0) (x1:t1) (x2:t2) (x3:t3) (x4:t4) (x5:t5) (x6:t6) (x7:t7) (x8:t8) (x9:t9) (h:p x0 x1 x2 x3 x4 x5 x6 x7 x8 x9):E10 p
inductive E12 {t10 t11:Type} (p:t0->t1->t2->t3->t4->t5->t6->t7->t8->t9->t10->t11->Prop):Prop
 | mk (x0:t0) (x1:t1) (x2:t2) (x3:t3) (x4:t4) (x5:t5) (x6:t6) (x7:t7) (x8:t8) (x9:t9) (Py:t10) (x11:t11) (h:p x0 x1 x2 x3 x4 x5 x6 x7 x8 x9 Py x11):E12 p
inductive E17 {t10 t11 t12 t13 t14 t15 t16:Type} (p:t0->t1->t2->t3->t4->t5->t6->t7->t8->t9->t10->t11->t12->t13->t14->t15->t16->Prop):Prop
 | mk (x0:t0) (x1:t1) (x2:t2) (x3:t3) (x4:t4) (x5:t5) (x6:t6) (x7:t7) (x8:t8) (x9:t9) (Py:t10) (x11:t11) (x12:t12) (x13:t13) (x14:t14) (x15:t15) (x16:t16) (h:p x0 x1 x2 x3 x4 x5 x6 x7 x8 x9 Py x11 x12 x13 x14 x15 x16):E17 p
inductive A3 (p0 p1 p2:Prop):Prop
 | mk (_:p0) (_:p1) (_:p2):A3 p0 p1 p2
inductive A4 (p0 p1 p2 p3:Prop):Prop
 | mk (_:p0) (_:p1) (_:p2) (_:p3):A4 p0 p1 p2 p3
inductive A5 (p0 p1 p2 p3 p4:Prop):Prop
 | mk (_:p0) (_:p1) (_:p2) (_:p3) (_:p4):A5 p0 p1 p2 p3 p4
inductive A6 (p0 p1 p2 p3 p4 p5:Prop):Prop
 | mk (_:p0) (_:p1) (_:p2) (_:p3) (_:p4) (_:p5):A6 p0 p1 p2 p3 p4 p5
inductive A7 (p0 p1 p2 p3 p4 p5 p6:Prop):Prop
 | mk (_:p0) (_:p1) (_:p2) (_:p3) (_:p4) (_:p5) (_:p6):A7 p0 p1 p2 p3 p4 p5 p6
inductive A8 (p0 p1 p2 p3 p4 p5 p6 p7:Prop):Prop
 | mk (_:p0) (_:p1) (_:p2) (_:p3) (_:p4) (_:p5) (_:p6) (_:p7):A8 p0 p1 p2 p3 p4 p5 p6 p7
inductive A9 (p0 p1 p2 p3 p4 p5 p6 p7 p8:Prop):Prop
 | mk (_:p0) (_:p1) (_:p2) (_:p3) (_:p4) (_:p5) (_:p6) (_:p7) (_:p8):A9 p0 p1 p2 p3 p4 p5 p6 p7 p8
inductive A10 (p0 p1 p2 p3 p4 p5 p6 p7 p8 p9:Prop):Prop
 | mk (_:p0) (_:p1) (_:p2) (_:p3) (_:p4) (_:p5) (_:p6) (_:p7) (_:p8) (_:p9):A10 p0 p1 p2 p3 p4 p5 p6 p7 p8 p9
inductive A11 (p0 p1 p2 p3 p4 p5 p6 p7 p8 p9 Ra:Prop):Prop
 | mk (_:p0) (_:p1) (_:p2) (_:p3) (_:p4) (_:p5) (_:p6) (_:p7) (_:p8) (_:p9) (_:Ra):A11 p0 p1 p2 p3 p4 p5 p6 p7 p8 p9 Ra
inductive A12 (p0 p1 p2 p3 p4 p5 p6 p7 p8 p9 Ra p11:Prop):Prop
 | mk (_:p0) (_:p1) (_:p2) (_:p3) (_:p4) (_:p5) (_:p6) (_:p7) (_:p8) (_:p9) (_:Ra) (_:p11):A12 p0 p1 p2 p3 p4 p5 p6 p7 p8 p9 Ra p11
inductive A13 (p0 p1 p2 p3 p4 p5 p6 p7 p8 p9 Ra p11 p12:Prop):Prop
 | mk (_:p0) (_:p1) (_:p2) (_:p3) (_:p4) (_:p5) (_:p6) (_:p7) (_:p8) (_:p9) (_:Ra) (_:p11) (_:p12):A13 p0 p1 p2 p3 p4 p5 p6 p7 p8 p9 Ra p11 p12
inductive A15 (p0 p1 p2 p3 p4 p5 p6 p7 p8 p9 Ra p11 p12 p13 p14:Prop):Prop
 | mk (_:p0) (_:p1) (_:p2) (_:p3) (_:p4) (_:p5) (_:p6) (_:p7) (_:p8) (_:p9) (_:Ra) (_:p11) (_:p12) (_:p13) (_:p14):A15 p0 p1 p2 p3 p4 p5 p6 p7 p8 p9 Ra p11 p12 p13 p14
end L2
def adh:Nat->Lean.Syntax->List Lean.Syntax
 | 0,b=>[b]
 | n+1,b=>if b.getKind==.mkSimple "term_\u2227_" || b.getKind==.mkSimple "term_/\\_" then b[0] :: adh n b[2]else [b]
def agH(k:Lean.Syntax):List (Lean.Syntax×Lean.Syntax):=
 if k.getKind==`Lean.unbracketedExplicitBinders then k[0].getArgs.toList.map fun i=>(i,k[1][1])
 else k.getArgs.toList.flatMap fun b=>b[1].getArgs.toList.map fun i=>(i,b[3])
open Lean in
local macro_rules
 | `(∃ $xs:explicitBinders,$b) => do
  let bs:=agH xs.raw[0]
  let cs:=adh 99 b
  if bs.length<=1&&cs.length<=2 then Macro.throwUnsupported
  let mut r <- if cs.length<=2 then pure b else do
   let as:Array Term:=cs.toArray.map fun c=>⟨c⟩
   `($(mkIdent (`L2 ++ Name.mkSimple s!"A{cs.length}")) $as*)
  for (i,t) in bs.reverse do
   let i:Term:=⟨i[0]⟩
   let t:Term:=⟨t⟩
   r <- if t.raw.isMissing then `(fun $i => $r)else `(fun($i : $t) => $r)
  if bs.length == 1 then `(Exists $r)else `($(mkIdent (`L2 ++ Name.mkSimple s!"E{bs.length}")) $r)
local macro_rules|`(tactic| omega)=>`(tactic| first|lia|omega (splitNatSub:=true))
set_option maxRecDepth 100000
set_option hygiene false in
local macro_rules
|`(tactic|exists 0)=>`(tactic|try dsimp only[bP,Cx.iu,Cx.bX])
|`(tactic|exists 1)=>`(tactic|try dsimp only[aX,bU,List.set])
|`(tactic|exists 2)=>`(tactic|intro X hP hw hK hc i pins s σ H E I hf st hg)
|`(tactic|exists 3)=>`(tactic|obtain⟨f0,f1,f2,f3,f4,f5⟩:=hf it (by simp))
|`(tactic|exists 4)=>`(tactic|intro pins s σ H Q I h)
|`(tactic|exists 5)=>`(tactic|intro pins s σ H xs us Q I r h)
|`(tactic|exists 6)=>`(tactic|obtain⟨oc,od,kV,doc,pm,an,cw,ct,Fz,rfl,lk,Fm⟩:=F.ex)
|`(tactic|exists 7)=>`(tactic|intro pins s σ H x y v u Q I rx ry h)
|`(tactic|exists 8)=>`(tactic|(exact⟨o,e,fun v z=>by rw[d]at z;cases z⟩))
|`(tactic|exists 9)=>`(tactic|intro pins s σ H D I h)
|`(tactic|exists 10)=>`(tactic|have e:b=it:=by simpa using hb)
|`(tactic|exists 11)=>`(tactic|rintro σ' H' ⟨v,rfl,rfl⟩)
|`(tactic|exists 12)=>`(tactic|obtain⟨t,rfl⟩:=rx)
|`(tactic|exists 13)=>`(tactic|try dsimp only[aX])
|`(tactic|exists 14)=>`(tactic|intro pins s σ H R I h)
|`(tactic|exists 15)=>`(tactic|obtain rfl:u=Wm a:=rx)
|`(tactic|exists 16)=>`(tactic|rotate_left)
|`(tactic|exists 17)=>`(tactic|subst hP hw hK)
set_option hygiene false in
local macro_rules
|`(#[0])=>`(by omega)
|`(#[1])=>`(fun cw A outer s H vs Q E hr h=>?_)
|`(#[2])=>`(by intro z;cases z)
|`(#[3])=>`(by decide +kernel)
|`(#[4])=>`(fun _ _=>rfl)
|`(#[5])=>`(model X.prog X.w)
|`(#[6])=>`(fun vs H Q E h=>?_)
|`(#[7])=>`(by decide)
|`(#[8])=>`((∀ y H4,H4 D=some (.lst ys)->ys.length<sizeLine->Pv D (i+1) (ys++[y]) (upd H4 D (.lst (ys++[y])))->Q' y H4))
|`(#[9])=>`(model prog w)
|`(#[10])=>`(k==NameKind.free&&env.scope.kind==.function&&env.kindOf n==some .cell)
|`(#[11])=>`(qs.map fun q=>(rows.getD q.toNat []).map (oY qs))
|`(#[12])=>`(aF aG (pv 0) ah #[4])
|`(#[13])=>`(by show 0<=sizeLine;decide)
|`(#[14])=>`(envOfC qual scope s.heap.objs.size f cd)
|`(#[15])=>`(x==("__debug__" : Qm))
|`(#[16])=>`((false,eval e X.env))
|`(#[17])=>`(by show 3<=sizeLine;decide)
|`(#[18])=>`(.Call (.Name x p) (e :: es) [] pos)
|`(#[19])=>`((∀ σ' H',N σ' H'->∃ m',m'<m/\W (i+1) m' σ' H'))
|`(#[20])=>`(.ref C)
|`(#[21])=>`(by simp)
|`(#[22])=>`(backTo pos (qM es X.env))
|`(#[23])=>`(s.heap.objs.size+1)
|`(#[24])=>`((·.setIfInBounds 1 (Wm g1.objs.size)))
|`(#[25])=>`(s.heap.push { cls:=.type "dict",data:=.dict #[] })
|`(#[26])=>`(by rfl)
|`(#[27])=>`(.builtin "object.__class__")
|`(#[28])=>`(fZ items.size items.size hi-fZ items.size 0 lo)
|`(#[29])=>`(fun c=>?_)
|`(#[30])=>`(fun D' dq=>?_)
|`(#[31])=>`(by rw[bq];omega)
|`(#[32])=>`(.builtin "getset_descriptor.__get__")
|`(#[33])=>`(by show 2<=sizeLine;decide)
|`(#[34])=>`(ns.map V.int)
|`(#[35])=>`(.lst (as.map V.ref))
|`(#[36])=>`(ay aN #[26] aZ ck (aa (pv 0) af))
|`(#[37])=>`(dC.map V.ref)
|`(#[38])=>`(.ListComp elt [⟨tg,iter,[],0⟩] scope pos)
|`(#[39])=>`(aF aG (pv 1) ah #[4])
set_option hygiene false in
local macro_rules
|`(#[40])=>`(.tup xs)
|`(#[41])=>`(QQ×Obj)
|`(#[42])=>`(ha pos pins s σ H _ I h)
|`(#[43])=>`(cn I q #[21])
|`(#[44])=>`(aa (pv 1) af)
|`(#[45])=>`(by show 1<=sizeLine;decide)
|`(#[46])=>`(fun z=>nomatch z)
|`(#[47])=>`(dN (pv 0) rfl)
|`(#[48])=>`(fun D hD=>⟨ak hD _,rfl⟩)
|`(#[49])=>`(eA w p rows)
|`(#[50])=>`(.ref a)
|`(#[51])=>`(.ref s.heap.objs.size)
|`(#[52])=>`(List Key×QQ×Value)
|`(#[53])=>`(.dK kvs)
|`(#[54])=>`(EP X pins σ Q)
|`(#[55])=>`(rows.getD q.toNat [])
|`(#[56])=>`(he pins s σ H _ I h)
|`(#[57])=>`(aa (pv 2) af)
|`(#[58])=>`(.ref m)
|`(#[59])=>`(List Key×V)
|`(#[60])=>`(.type "BaseException")
|`(#[61])=>`(.tup [.int i,x])
|`(#[62])=>`((".0",.local))
|`(#[63])=>`(.type "object")
|`(#[64])=>`(.ref f)
|`(#[65])=>`(by show 4<=sizeLine;decide)
|`(#[66])=>`(.ref D)
|`(#[67])=>`(ha pins s σ H _ I h)
|`(#[68])=>`(I.hok.fresh (jE _))
|`(#[69])=>`(ao (aH cq))
|`(#[70])=>`(fun b o hb e=>eb b o hb e)
|`(#[71])=>`(by with_unfolding_all rfl)
|`(#[72])=>`(aa (pv 0) af)
|`(#[73])=>`(bB ix σ)
|`(#[74])=>`(.int wide)
|`(#[75])=>`(rows.getD z.toNat [])
|`(#[76])=>`(keywordEach [] X.env)
|`(#[77])=>`(ho pins s σ H _ I h)
|`(#[78])=>`(.int (ms.length:Nat))
|`(#[79])=>`(aa (pv 3) af)
set_option hygiene false in
local macro_rules
|`(#[80])=>`(aa ah af)
|`(#[81])=>`(.inl rfl)
|`(#[82])=>`(HO.lst [])
|`(#[83])=>`(upd H D (.lst []))
|`(#[84])=>`(fun b z=>by cases z)
|`(#[85])=>`(I.ok.hd hc)
|`(#[86])=>`(.Attribute o m apos)
|`(#[87])=>`(fun _=>?_)
|`(#[88])=>`(aa (pv 4) af)
|`(#[89])=>`(.ref x)
|`(#[90])=>`(fU signs)
|`(#[91])=>`(ts.map Wm)
|`(#[92])=>`(pv 1)
|`(#[93])=>`(.lst ys)
|`(#[94])=>`(outF mem ins)
|`(#[95])=>`(.type "type")
|`(#[96])=>`(fun dq=>?_)
|`(#[97])=>`(List K×QQ×Value)
|`(#[98])=>`(pv 0)
|`(#[99])=>`(.int (wn^p:Nat))
|`(#[100])=>`(.ref it)
|`(#[101])=>`(eA wn p rows)
|`(#[102])=>`(aa (pv 5) af)
|`(#[103])=>`(aC bu #[92] ah)
|`(#[104])=>`(.rB o #[53])
|`(#[105])=>`(.dT kvs)
|`(#[106])=>`(.ref r)
|`(#[107])=>`(.ins C dx fs)
|`(#[108])=>`(.ref ea)
|`(#[109])=>`(.lst xs)
set_option maxRecDepth 100000
namespace L2
open PySem PySem.Spec PyProof.Rows
variable{us bz ds:List Value}{x f name m qual:Qm}{u cd:Value}{κ α:Type}{a b it dx C:QQ}{P prog:Qj}{w:World}{h h' base:Heap}{e c tg l iter:Expr}{ob:Obj}{pins adx pl:List (QQ×Obj)}{s s':Ql}{t' i j n tk:Nat}{ch fp:List QQ}{N ns ps:List Qm}{A:Around}{E Q:Value→Ql→Prop}{pos pos' p apos:Pos}{K:Wl}{st body:List Stmt}{es:List Expr}{lo:Int}{mA mg:Qm→Option Value}{expr:Bool}{R:Result→Ql→Prop}{env:QX}{outer:List QX}{fd:QY}{sc scope:Scope}{params:QS}{an od:Option QQ}{Fz:Array (Option Value)}
abbrev Key:=Sum Int Qm
def CD:Key->Value->Bool
 | .inl k,v=>xM k v
 | .inr x,v=>Xc x v
def alw(w:World):Key->Int
 | .inl k=>hashInt k
 | .inr x=>hashStr w x
theorem cR:∀ {k:Key} {v:Value},CD k v=true->(∃ i t,k=Sum.inl i/\v=YT i t)\/(∃ x t,k=Sum.inr x/\v=Ys x t)
 | .inl i,v,h=>by
  obtain⟨t,e⟩:=Value.isInt_shape (k:=i) (v:=v) h
  exact .inl ⟨i,t,rfl,e⟩
 | .inr x,v,h=>by
  obtain⟨t,e⟩:=Value.isStrOf_shape (x:=x) (v:=v) h
  exact .inr ⟨x,t,rfl,e⟩
theorem Sl(i:Int)(t:Tok):CD (.inl i) (.int i t)=true:=by simp[CD,xM]
theorem Sm(x:Qm)(t:Tok):CD (.inr x) (.str x t)=true:=by simp[CD,Xc]
theorem aeM(a b:Int):decide ((Sum.inl a:Key)=Sum.inl b)=(a==b):=by
 by_cases e:a=b
 ·subst e;simp
 ·have h:¬ (Sum.inl a:Key)=Sum.inl b:=fun q=>e (Sum.inl.inj q)
  rw[decide_eq_false h]
  exact(beq_eq_false_iff_ne.mpr e).symm
theorem aeP(a b:Qm):decide ((Sum.inr a:Key)=Sum.inr b)=decide (a=b):=by
 by_cases e:a=b
 ·subst e;simp
 ·have h:¬ (Sum.inr a:Key)=Sum.inr b:=fun q=>e (Sum.inr.inj q)
  rw[decide_eq_false h,decide_eq_false e]
theorem aeN(a:Int)(b:Qm):decide ((Sum.inl a:Key)=Sum.inr b)=false:=decide_eq_false (fun q=>nomatch q)
theorem aeO(a:Qm)(b:Int):decide ((Sum.inr a:Key)=Sum.inl b)=false:=decide_eq_false (fun q=>nomatch q)
def bC(prog:Qj)(w:World):PySem.KeyKind prog w Key where
 is:=CD
 hash:=alw w
 inj:=fun v a b ha hb=>by
  rcases cR ha with⟨i,t,rfl,rfl⟩|⟨x,t,rfl,rfl⟩
  ·rcases cR hb with⟨j,u,rfl,e⟩|⟨y,u,rfl,e⟩
   ·injection e with e1 _;rw[e1]
   ·exact nomatch e
  ·rcases cR hb with⟨j,u,rfl,e⟩|⟨y,u,rfl,e⟩
   ·exact nomatch e
   ·injection e with e1 _;rw[e1]
 byValue:=fun k v h=>by
  rcases cR h with⟨i,t,rfl,rfl⟩|⟨x,t,rfl,rfl⟩<;>rfl
 pyHash:=fun hv h=>by
  rcases cR hv with⟨i,t,rfl,rfl⟩|⟨x,t,rfl,rfl⟩
  ·exact wpAny_pyHash_int h
  ·exact wpAny_pyHash_str h
 eqBool:=fun hu hv h=>by
  rcases cR hu with⟨i,t,rfl,rfl⟩|⟨x,t,rfl,rfl⟩
  ·rcases cR hv with⟨j,u,rfl,rfl⟩|⟨y,u,rfl,rfl⟩
   ·rw[aeM]at h;exact wpAny_eqBool_int h
   ·rw[aeN]at h;exact yu i t y u _ _ _ _ h
  ·rcases cR hv with⟨j,u,rfl,rfl⟩|⟨y,u,rfl,rfl⟩
   ·rw[aeO]at h;exact yw x t j u _ _ _ _ h
   ·rw[aeP]at h;exact wpAny_eqBool_str h
 «strs» := fun k x t v h=>by
  rcases cR h with⟨i,u,rfl,e⟩|⟨y,u,rfl,e⟩
  ·exact nomatch e
  ·injection e with e1 _
   subst e1
   cases v<;>rfl
theorem LV(prog:Qj)(w:World)(i:Int)(t:Tok):(bC prog w).is (.inl i) (.int i t)=true:=Sl i t
theorem LW(prog:Qj)(w:World)(x:Qm)(t:Tok):(bC prog w).is (.inr x) (.str x t)=true:=Sm x t
inductive V where
 | non|bl (b:Bool)|int (i:Int)|str (x:Qm)|PN (b:Array UInt8)|flt (b:UInt64)|ref (a:QQ)|ty (n:String)
 deriving DecidableEq
def RelV:V->Value->Prop
 | .non,u=>u=Wt
 | .bl b,u=>u=Yi b
 | .int i,u=>∃ t,u=YT i t
 | .str x,u=>∃ t,u=Ys x t
 | .PN b,u=>∃ t,u=xN b t
 | .flt b,u=>∃ t,u=XN b t
 | .ref a,u=>u=Wm a
 | .ty n,u=>u=YK n
abbrev Vals:List V->List Value->Prop:=Qh RelV
theorem Vals.length{xs:List V}(r:Vals xs us):xs.length=us.length:=Paired.length r
theorem Vals.get:∀ {xs:List V} {us:List Value} {i:Nat} {x:V},Vals xs us->xs[i]?=some x->∃ u,us[i]?=some u/\RelV x u
 | _,_,_,_,.nil,e=>by simp at e
 | _,_,0,_,.cons r _,e=>by simp at e;subst e;exact⟨_,rfl,r⟩
 | _,_,i+1,x,.cons _ t,e=>by
  obtain⟨u,h1,h2⟩:=Vals.get (i:=i) (x:=x) t (by simpa using e)
  exact⟨u,by simpa using h1,h2⟩
theorem Vals.set{x:V}(r:RelV x u):∀ {xs:List V} {us:List Value} (i:Nat),Vals xs us->Vals (xs.set i x) (us.set i u)
 | _,_,_,.nil=>.nil
 | _,_,0,.cons _ t=>.cons r t
 | _,_,i+1,.cons q t=>.cons q (Vals.set r i t)
theorem Vals.append:∀ {xs ys:List V} {us ws:List Value},Vals xs us->Vals ys ws->Vals (xs++ys) (us++ws)
 | _,_,_,_,.nil,s=>s
 | _,_,_,_,.cons r t,s=>.cons r (Vals.append t s)
theorem Vals.take:∀ {xs:List V} {us:List Value} (n:Nat),Vals xs us->Vals (xs.take n) (us.take n)
 | _,_,0,_=>.nil
 | _,_,_+1,.nil=>.nil
 | _,_,n+1,.cons r t=>.cons r (Vals.take n t)
theorem Vals.drop:∀ {xs:List V} {us:List Value} (n:Nat),Vals xs us->Vals (xs.drop n) (us.drop n)
 | _,_,0,r=>r
 | _,_,_+1,.nil=>.nil
 | _,_,n+1,.cons _ t=>Vals.drop n t
def pD:Option V->Option Value->Prop
 | some v,some u=>RelV v u
 | none,none=>True
 | _,_=>False
def KV:List (κ×V)->List (κ×Value)->Prop:=Qh fun(p:κ×V) (q:κ×Value)=>p.1=q.1/\RelV p.2 q.2
def kV:Key->V
 | .inl i=>.int i
 | .inr x=>.str x
inductive HO where
  | lst (xs:List V)
  | tup (xs:List V)
  | dK (kvs:List (Key×V))|dT (kvs:List #[59])
  | set (S:Int->Bool) (n:Nat)
  | ins (C dx:QQ) (fs:List (Qm×V))
  | own (x:QQ)
  | xd (fs:List (Qm×V))
  | met (f x:QQ)
  | rng (lo hi:Int)
  | rB (o:Obj) (u:HO)
  | tbl (ps:Array Value)
  | ext (φ:Heap->Prop)
abbrev Hp:=QQ->Option HO
def upd(H:Hp)(a:QQ)(o:HO):Hp:=fun b=>if b=a then some o else H b
theorem ae{H:Hp}{o:HO}:upd H a o a=some o:=by unfold upd;rw[if_pos rfl]
theorem aj{H:Hp}{o:HO}(h:b≠a):upd H a o b=H b:=by unfold upd;rw[if_neg h]
theorem RI{H:Hp}{o u:HO}:upd (upd H a o) a u=upd H a u:=by
 funext b;unfold upd;split<;>rfl
theorem aQ{H:Hp}{o u:HO}(h:H a=some o)(h':H b=some u)(d:o≠u):a≠b:=by
 intro e;subst e;rw[h]at h';exact d (Option.some.inj h')
theorem aq{H:Hp}{o:HO}(h:H a=some o)(h':H b=none):a≠b:=by
 intro e;subst e;rw[h]at h';cases h'
section
variable(P:Qj)(w:World)
def bN(H:Hp)(h:Heap)(a:QQ):HO->Prop
 | .lst xs=>xs.length<=sizeLine/\∃ (bz:List Value) (n:Nat),Vals xs bz/\h.get? a=some { cls:=.type "list",data:=.seq bz.toArray n }
 | .tup xs=>xs.length<=sizeLine/\∃ bz:List Value,Vals xs bz/\Qc h a bz.toArray
 | .dK kvs=>kvs.length<=sizeLine/\(a==qP)=false/\∃ vs,KV kvs vs/\h.DictOf (bC P w) a vs
 | .dT kvs=>kvs.length<=sizeLine/\(a==qP)=false/\∃ xs:List #[52],
   Qh (fun(p:List Key×V) (q:List Key×QQ×Value)=>p.1=q.1/\H q.2.1=some (.tup (p.1.map kV))/\RelV p.2 q.2.2) kvs xs /\
   ∃ o es ep,h.get? a=some o/\o.ExactDict/\o.data=.dict es ep/\es.toList=xs.map (entryOfKey (qQ (bC P w)))/\(xs.map (·.1)).Nodup
 | .set S n=>h.SetOf (intKind P w) a S n
 | .ins C dx fs=>H dx=some (.own a)/\fs.length<=1000/\dx≠a/\h.get? a=some (YL C dx) /\
   ∃ mA,h.Ns1 dx mA/\(∀ f,pD (fs.lookup f) (mA f))/\yx mA (fs.map (·.1))
 | .own _=>∃ o,h.get? a=some o
 | .xd fs=>∃ mA,h.Ns1 a mA/\∀ f,pD (fs.lookup f) (mA f)
 | .rng lo hi=>∃ t u v,h.get? a=some { cls:=.type "range",data:=.fields #[.int lo t,.int hi u,.int 1 v] }
 | .rB o u=>h.get? a=some o/\bN H h a u
 | .tbl ps=>h.get? a=some { cls:=.none,data:=.fields ps }
 | .met f x=>h.get? a=some (yK #[64] #[89])
 | .ext φ=>φ h/\(∃ o,h.get? a=some o)/\∀ h1 h2:Heap,φ h1->(∀ o,h1.get? a=some o->h2.get? a=some o)->φ h2
def iP(H:Hp)(h:Heap):Prop := ∀ a o,H a=some o->bN P w H h a o
end
section
variable{H H':Hp}{o:HO}
theorem bN.lt(x:bN P w H h a o):a<h.objs.size:=by
 cases o with
 | lst xs=>obtain⟨_,_,_,_,e⟩:=x;exact jJ e
 | tup xs=>obtain⟨_,_,_,p⟩:=x;exact p.lt
 | dK kvs=>obtain⟨_,_,_,_,o,_,_,e,_⟩:=x;exact jJ e
 | dT kvs=>obtain⟨_,_,_,_,o,_,_,e,_⟩:=x;exact jJ e
 | set S n=>obtain⟨o,_,_,_,e,_⟩:=x;exact jJ e
 | ins C dx fs=>obtain⟨_,_,_,e,_⟩:=x;exact jJ e
 | own y=>obtain⟨_,e⟩:=x;exact jJ e
 | xd fs=>obtain⟨_,⟨_,_,_,e,_⟩,_⟩:=x;exact jJ e
 | rng lo hi=>obtain⟨_,_,_,e⟩:=x;exact jJ e
 | rB ob u=>obtain⟨e,_⟩:=x;exact jJ e
 | tbl ps=>exact jJ (show h.get? a=some _ from x)
 | met f y=>exact jJ (show h.get? a=some _ from x)
 | ext φ=>obtain⟨_,⟨_,e⟩,_⟩:=x;exact jJ e
theorem Paired.LP{β:Type}{F G:α->β->Prop}:∀ {l₁:List α} {l₂:List β},Qh F l₁ l₂->(∀ a b,F a b->G a b)->Qh G l₁ l₂
 | _,_,.nil,_=>.nil
 | _,_,.cons r t,f=>.cons (f _ _ r) (Paired.LP t f)
theorem bN.Az(x:bN P w H h a o)(k:∀ b u,(b=a\/H b=some (.own a))->h.get? b=some u->h'.get? b=some u)(ho:∀ b,H b=some (.own a)->H' b=some (.own a))(ht:∀ b xs,H b=some #[40]->H' b=some #[40]):bN P w H' h' a o:=by
 induction o with
 | lst xs=>obtain⟨z,bz,n,r,e⟩:=x;exact⟨z,bz,n,r,k _ _ #[81] e⟩
 | tup xs=>obtain⟨z,bz,r,ob,e,c⟩:=x;exact⟨z,bz,r,ob,k _ _ #[81] e,c⟩
 | dK kvs=>obtain⟨z,y,vs,r,ob,es,ep,e,c⟩:=x;exact⟨z,y,vs,r,ob,es,ep,k _ _ #[81] e,c⟩
 | dT kvs =>
  obtain⟨z,y,xs,r,ob,es,ep,e,c,c1,c2,c3⟩:=x
  exact⟨z,y,xs,Paired.LP r fun p q z=>⟨z.1,ht _ _ z.2.1,z.2.2⟩,ob,es,ep,k _ _ #[81] e,c,c1,c2,c3⟩
 | set S n=>obtain⟨ob,es,ep,t,e,c⟩:=x;exact⟨ob,es,ep,t,k _ _ #[81] e,c⟩
 | ins C dx fs =>
  obtain⟨d,z,ne,e,mA,⟨od,es,ep,e2,c⟩,r,r1⟩:=x
  exact⟨ho _ d,z,ne,k _ _ #[81] e,mA,⟨od,es,ep,k _ _ (.inr d) e2,c⟩,r,r1⟩
 | own y=>obtain⟨ob,e⟩:=x;exact⟨ob,k _ _ #[81] e⟩
 | xd fs=>obtain⟨mA,⟨od,es,ep,e,c⟩,r⟩:=x;exact⟨mA,⟨od,es,ep,k _ _ #[81] e,c⟩,r⟩
 | rng lo hi=>obtain⟨t,u,v,e⟩:=x;exact⟨t,u,v,k _ _ #[81] e⟩
 | rB ob u ih=>obtain⟨e,q⟩:=x;exact⟨k _ _ #[81] e,ih q⟩
 | tbl ps =>
  have e:h.get? a=some { cls:=.none,data:=.fields ps }:=x
  show h'.get? a=some { cls:=.none,data:=.fields ps }
  exact k a _ #[81] e
 | met f y =>
  have e:h.get? a=some (yK #[64] (.ref y)):=x
  show h'.get? a=some (yK #[64] (.ref y))
  exact k a _ #[81] e
 | ext φ=>obtain⟨p,⟨o,e⟩,st⟩:=x;exact⟨st _ _ p fun o q=>k _ _ #[81] q,⟨o,k _ _ #[81] e⟩,st⟩
theorem iP.lt(x:iP P w H h)(e:H a=some o):a<h.objs.size:=(x a o e).lt
theorem iP.fresh(x:iP P w H h)(e:h.objs.size<=a):H a=none:=by
 cases q:H a with
 | none=>rfl
 | some u=>exact absurd (jW (x.lt q) e) (JP _)
theorem iP.kept(x:iP P w H h)(k:∀ b u,h.get? b=some u->h'.get? b=some u):iP P w H h' := fun a o e =>
 (x a o e).Az (fun b u _ q=>k b u q) (fun _ q=>q) fun _ _ q=>q
theorem iP.laid(x:iP P w H h)(k:∀ b u,h.get? b=some u->h'.get? b=some u)(hp:h.objs.size<=a)(new:bN P w (upd H a o) h' a o):iP P w (upd H a o) h' := fun b u e=>by
 have hn:=x.fresh hp
 by_cases hb:b=a
 ·subst hb;rw[ae]at e;cases e;exact new
 ·rw[aj hb]at e
  exact(x b u e).Az (fun c v _ q=>k c v q) (fun c q=>by rw[aj (aq q hn)];exact q) fun c xs q=>by rw[aj (aq q hn)];exact q
end
def Rd(H:Hp)(a:QQ)(u:HO):Prop:=H a=some u\/∃ o,H a=some (.rB o u)
theorem Rd.ok{H:Hp}{u:HO}(r:Rd H a u)(x:iP P w H h):bN P w H h a u:=by
 rcases r with r|⟨o,r⟩
 ·exact x a u r
 ·obtain⟨_,q⟩:=x a _ r
  exact q
def Mut:Option HO->Prop
 | some (.lst _)=>True
 | some (.dK _)=>True
 | some (.dT _)=>True
 | some (.set _ _)=>True
 | some (.ins _ _ _)=>True
 | some (.ext _)=>True
 | _=>False
section
variable{H:Hp}{x e:QQ}{o':HO}
theorem iP.write(ok:iP P w H h)(mu:Mut (H x))(he:e=x\/H e=some (.own x))(k:∀ b u,b≠e->h.get? b=some u->h'.get? b=some u)(heo:∃ u,h'.get? e=some u)(new:bN P w (upd H x o') h' x o'):iP P w (upd H x o') h' := fun b u q=>by
 have ah7:∀ c y,H c=some (.own y)->c≠x:=fun c y r z=>by subst z;rw[r]at mu;exact mu
 have alW:∀ c xs,H c=some #[40]->c≠x:=fun c xs r z=>by subst z;rw[r]at mu;exact mu
 by_cases hb:b=x
 ·subst hb;rw[ae]at q;cases q;exact new
 ·rw[aj hb]at q
  by_cases hbe:b=e
  ·have q':H b=some (.own x):=by
    rcases he with z|z
    ·exact absurd (hbe.trans z) hb
    ·rw[hbe];exact z
   rw[q]at q';cases q'
   obtain⟨v,hv⟩:=heo
   exact⟨v,by rw[hbe];exact hv⟩
  ·refine(ok b u q).Az (fun c v hc r=>k c v ?_ r) (fun c r=>by rw[aj (ah7 c b r)];exact r) fun c xs r=>by rw[aj (alW c xs r)];exact r
   rcases hc with rfl|hc
   ·exact hbe
   ·rintro rfl
    rcases he with z|z
    ·exact ah7 c b hc z
    ·rw[hc]at z;cases z;exact hb rfl
end
structure Un(fs ex:List QQ)(H H':Hp)(h h':Heap):Prop where
 keep:∀ b o,h.get? b=some o->H b=none->b∉fs->b∉ex->h'.get? b=some o
 slot:∀ b o,h.get? b=some o->H b=none->b∈fs->b∉ex->∃ sl,h'.get? b=some { o with slots:=sl }
 free:∀ b o,h.get? b=some o->H b=none->b∉ex->H' b=none
 there:∀ b o,h.get? b=some o->b∉ex->∃ o',h'.get? b=some o'
 tups:∀ b xs,H b=some #[40]->H' b=some #[40]
 frzs:∀ b o u,H b=some (.rB o u)->H' b=some (.rB o u)
 tbls:∀ b ps,H b=some (.tbl ps)->∃ more,H' b=some (.tbl (ps++more))
section
variable{fs ex:List QQ}{H H1:Hp}{h1:Heap}{x e:QQ}{o:HO}
theorem Un.any(u:Un fs ex H H1 h h1)(q:h.get? b=some ob)(n:H b=none)(hx:b∉ex):∃ sl,h1.get? b=some { ob with slots:=sl }:=by
 by_cases hb:b∈fs
 ·exact u.slot b ob q n hb hx
 ·exact⟨ob.slots,u.keep b ob q n hb hx⟩
theorem Un.kept(k:∀ b u,h.get? b=some u->h'.get? b=some u):Un fs ex H H h h' :=
 ⟨fun b ob q _ _ _=>k b ob q,fun b ob q _ _ _=>⟨ob.slots,k b ob q⟩,fun _ _ _ n _=>n,fun b ob q _=>⟨ob,k b ob q⟩,fun _ _ q=>q,fun _ _ _ q=>q,fun _ ps q=>⟨#[],by rw[q];simp⟩⟩
theorem Un.refl:Un fs ex H H h h:=Un.kept fun _ _ q=>q
theorem Un.laid(k:∀ b u,h.get? b=some u->h'.get? b=some u)(hp:h.objs.size<=a)(hn:H a=none):Un fs ex H (upd H a o) h h' where
 keep:=fun b u q _ _ _=>k b u q
 slot:=fun b u q _ _ _=>⟨u.slots,k b u q⟩
 free:=fun b u q n _=>by rw[aj (jR (jW (jJ q) hp))];exact n
 there:=fun b u q _=>⟨u,k b u q⟩
 tups:=fun b xs q=>by rw[aj (aq q hn)];exact q
 frzs:=fun b u xs q=>by rw[aj (aq q hn)];exact q
 tbls:=fun b ps q=>⟨#[],by rw[aj (aq q hn),q];simp⟩
theorem Un.write(mu:Mut (H x))(he:e=x\/H e=some (.own x))(k:∀ b u,b≠e->h.get? b=some u->h'.get? b=some u)(heo:∃ u,h'.get? e=some u):Un fs ex H (upd H x o) h h' := by
 have hx:∀ b,H b=none->b≠x:=fun b n z=>by subst z;rw[n]at mu;exact mu
 have hb:∀ b,H b=none->b≠e:=fun b n z=>by
  subst z
  rcases he with r|r
  ·exact hx b n r
  ·rw[n]at r;cases r
 have hm:∀ b u,H b=some u->¬ Mut (some u)->b≠x:=fun b u q nm z=>by subst z;rw[q]at mu;exact nm mu
 refine⟨fun b u q n _ _=>k b u (hb b n) q,fun b u q n _ _=>⟨u.slots,k b u (hb b n) q⟩,fun b u q n _=>by rw[aj (hx b n)];exact n,fun b u q _=>?_,
  fun b xs q=>by rw[aj (hm b _ q fun z=>z)];exact q,fun b u xs q=>by rw[aj (hm b _ q fun z=>z)];exact q,fun b ps q=>⟨#[],by rw[aj (hm b _ q fun z=>z),q];simp⟩⟩
 by_cases hbe:b=e
 ·subst hbe;exact heo
 ·exact⟨u,k b u hbe q⟩
end
def trk(h:Heap)(H:Hp):List QQ:=(jd h.objs.size).filter fun a=>(H a).isSome
def Ib(h:Heap)(H:Hp):Heap:=yV h (trk h H)
theorem Se(h:Heap)(H:Hp):(Ib h H).objs.size=h.objs.size:=PySem.W.hideAll_size _ _
theorem V0{H:Hp}{o:Obj}(e:h.get? b=some o)(n:H b=none):(Ib h H).get? b=some o:=
 YE _ e fun hm=>by
  have q:(H b).isSome=true:=(jy.mp hm).2
  rw[n]at q;simp at q
theorem acf{H:Hp}{o:Obj}(e:(Ib h H).get? b=some o):h.get? b=some o/\H b=none:=by
 have e':h.get? b=some o:=yF (trk h H) e
 exists e'
 cases q:H b with
 | none=>rfl
 | some x =>
  have hm:b∈trk h H:=jy.mpr ⟨jm.mpr (jJ e'),by simp[q]⟩
  have z:(Ib h H).get? b=none:=Yu (trk h H) hm
  rw[z]at e;cases e
def abw(g h:Heap)(L:QQ):List #[41]:=(jd h.objs.size).filterMap fun a=>if a=L\/(g.get? a).isSome=true then none else(h.get? a).map fun o=>(a,o)
def rest(g h:Heap)(L d:QQ):List #[41]:=(abw g h L).filter fun p=>decide (p.1≠d)
variable{xs vs fz:List V}{H H':Hp}{o o':HO}{v y:V}
structure Mod(K:Wl)(mg:Qm->Option Value)(base:Heap):Prop where
 kin:K.In base
 glob:base.Ns qG mg
 blt:∃ mb,base.Ns builtinsNs mb/\∀ x:Qm,x ≠ "__name__" -> mb x=Qr x
 nolimit:base.NoLimit
structure Cx where
 prog:Qj
 w:World
 K:Wl
 mg:Qm->Option Value
 base:Heap
 A:Around
 N:List Qm
 s₀:Ql
 H₀:Hp
 env:QX
 outer:List QX
 stack:List QX
 ex:List QQ
 fn:Qm->Bool
 calm:Bool
 pn:List #[41]
 xe:Value->Ql->Prop
def Ao(l:List QX):List QQ:=l.filterMap (·.frame)
abbrev Cx.fs(X:Cx):List QQ:=Ao X.outer
def Vis(sc:Scope)(x:Qm):Prop:=sc.names.lookup x=some .local\/sc.names.lookup x=some .cell\/sc.names.lookup x=some .free
def Loc(sc:Scope)(x:Qm):Prop:=sc.names.lookup x=some .local\/sc.names.lookup x=some .cell
def Look(env:QX)(h:Heap)(m:Qm->Option Value)(x:Qm)(u:Value):Prop:=
 (env.kindOf x=some .local/\m x=some u)\/((env.kindOf x=some .cell\/env.kindOf x=some .free)/\∃ c,env.cells.lookup x=some c/\h.IsCell c (some u))
structure Cx.Ok(X:Cx):Prop where
 mod:Mod X.K X.mg X.base
 kind:X.env.scope.kind=.function
 glob:X.env.globals=qG
 blt:X.env.builtins=builtinsNs
 above:X.s₀.heap.objs.size<=X.env.locals
 inj:∀ x y c,X.env.cells.lookup x=some c->X.env.cells.lookup y=some c->x=y
 has:∀ x,(X.env.kindOf x=some .cell\/X.env.kindOf x=some .free)->∃ c,X.env.cells.lookup x=some c
 cab:∀ x c,X.fn x=true->X.env.cells.lookup x=some c->X.s₀.heap.objs.size<=c
 hd:X.calm=true->X.A.handled=none
 frames:X.A.frames=some X.stack
 stk:X.stack=X.outer\/(X.stack=X.env :: X.outer/\X.env.frame=some X.env.locals)
 exf:∀ b∈X.ex,b≠X.env.locals/\∀ x c,X.env.cells.lookup x=some c->c≠b
 bs:∀ b o,X.base.get? b=some o->X.s₀.heap.get? b=some o/\X.H₀ b=none
 bsz:X.base.objs.size<=X.s₀.heap.objs.size
 noex:∀ b o,X.base.get? b=some o->b∉X.ex
 exfs:∀ b∈X.ex,b∉X.fs
 Ap:X.s₀.heap.FunFrames X.base X.outer
 frf:∀ b∈X.fs,X.H₀ b=none
structure Inv(X:Cx)(pins:List (QQ×Obj))(σ:List (Option V))(H:Hp)(s:Ql):Prop where
 ok:X.Ok
 os:s.os=X.s₀.os
 bare:QR s.gens
 base:Un X.fs X.ex X.H₀ H X.s₀.heap s.heap
 loc:∃ m,s.heap.Ns X.env.locals m/\∀ (i:Nat) (x:Qm) (v:V),X.N[i]?=some x->σ[i]?=some (some v)->Vis X.env.scope x->∃ u,RelV v u/\Look X.env s.heap m x u
 cell:∀ x c,X.env.cells.lookup x=some c->∃ v,s.heap.IsCell c v
 free:H X.env.locals=none
 freeC:∀ x c,X.env.cells.lookup x=some c->H c=none
 pin:∀ p∈X.pn++pins,s.heap.get? p.1=some p.2/\H p.1=none/\p.1≠X.env.locals/\p.1∉X.fs/\∀ v,p.2.data≠.cell v
 hok:iP X.prog X.w H s.heap
 len:σ.length=X.N.length
section
variable{X:Cx}{σ:List (Option V)}
theorem Cx.Ok.alU(ok:X.Ok){o:Obj}(e:X.base.get? b=some o):b∉X.fs:=fun hb=>by
 have:=(ok.Ap.mem hb).1
 rw[e]at this;cases this
theorem Inv.bs(I:Inv X pins σ H s):∀ b o,X.base.get? b=some o->s.heap.get? b=some o/\H b=none:=fun b o e =>
 ⟨I.base.keep b o (I.ok.bs b o e).1 (I.ok.bs b o e).2 (I.ok.alU e) (I.ok.noex b o e),I.base.free b o (I.ok.bs b o e).1 (I.ok.bs b o e).2 (I.ok.noex b o e)⟩
theorem Inv.bk(I:Inv X pins σ H s):∀ b o,X.base.get? b=some o->s.heap.get? b=some o:=fun b o e=>(I.bs b o e).1
theorem Inv.mod(I:Inv X pins σ H s):Mod X.K X.mg X.base:=I.ok.mod
theorem Inv.pF(I:Inv X pins σ H s):X.K.In s.heap:=I.ok.mod.kin.keeps I.bk
theorem Inv.lt(I:Inv X pins σ H s):X.env.locals<s.heap.objs.size:=let ⟨_,hn,_⟩:=I.loc;hn.lt
theorem Inv.sz(I:Inv X pins σ H s):X.s₀.heap.objs.size<=s.heap.objs.size:=jf I.ok.above (zK I.lt)
theorem Inv.alV(I:Inv X pins σ H s)(h:s.heap.objs.size<=a):a∉X.fs:=fun hb=>by
 obtain⟨_,o,ho,_⟩:=I.ok.Ap.mem hb
 exact absurd (jW (jJ ho) (jf I.sz h)) (JP _)
theorem Inv.TM(I:Inv X pins σ H s):∀ x c,X.env.cells.lookup x=some c->c≠X.env.locals:=fun x c e z=>by
 obtain⟨v,o,ho,hd⟩:=I.cell x c e
 obtain⟨m,⟨o',es,ep,Tt,hd',_⟩,_⟩:=I.loc
 rw[z,Tt]at ho;cases ho;rw[hd']at hd;cases hd
theorem Inv.Ap(I:Inv X pins σ H s):s.heap.FunFrames X.base X.outer:=by
 have all:∀ (l:List QX),(∀ b∈Ao l,b∈X.fs)->X.s₀.heap.FunFrames X.base l->s.heap.FunFrames X.base l:=by
  intro l
  induction l with
  | nil=>intro _ _;trivial
  | cons env r ih =>
   intro hs hl
   obtain⟨hk,⟨L,o,hf,hn,ho,hd⟩,hr⟩:=hl
   have hL:L∈X.fs:=hs L (by unfold Ao;rw[zI,hf];exact jD)
   obtain⟨sl,e⟩:=I.base.slot L o ho (I.ok.frf L hL) hL fun z=>I.ok.exfs L z hL
   exact⟨hk,⟨L,_,hf,hn,e,hd⟩,ih (fun b hb=>hs b (by unfold Ao;rw[zI,hf];exact jI _ hb)) hr⟩
 exact all X.outer (fun _ hb=>hb) I.ok.Ap
theorem Inv.stack(I:Inv X pins σ H s):s.heap.FunFrames X.base X.stack:=by
 rcases I.ok.stk with e|⟨e,hf⟩
 ·rw[e];exact I.Ap
 ·rw[e]
  obtain⟨m,hn,_⟩:=I.loc
  refine .cons (by rw[I.ok.kind];decide) hf hn ?_ I.Ap
  exact zj (jf I.ok.bsz I.ok.above)
theorem Inv.IP(I:Inv X pins σ H s):∀ b∈Ao X.stack,b∈X.env.locals :: X.fs:=fun b hb=>by
 rcases I.ok.stk with e|⟨e,hf⟩
 ·rw[e]at hb;exact jI _ hb
 ·rw[e]at hb
  unfold Ao at hb
  rw[zI,hf]at hb
  exact hb
theorem Inv.Dz(I:Inv X pins σ H s):∀ b∈Ao X.stack,H b=none:=fun b hb=>by
 rcases jY.mp (I.IP b hb)with e|hb
 ·rw[e];exact I.free
 ·obtain⟨_,o,ho,_⟩:=I.ok.Ap.mem hb
  exact I.base.free b o ho (I.ok.frf b hb) fun z=>I.ok.exfs b z hb
theorem Inv.step{g':Array QZ}{t':Nat}{d':Drawn}{ch:List QQ}(I:Inv X pins σ H s)(hch:∀ b∈ch,(b∈X.ex\/X.s₀.heap.objs.size<=b)/\b≠X.env.locals/\(∀ x c,X.env.cells.lookup x=some c->c≠b)/\∀ p∈X.pn++pins,p.1≠b)(keep:∀ b o,b≠X.env.locals->b∉X.fs->b∉ch->s.heap.get? b=some o->H b=none->h'.get? b=some o)(slot:∀ b o,b≠X.env.locals->b∈X.fs->b∉ch->s.heap.get? b=some o->H b=none->∃ sl,h'.get? b=some { o with slots:=sl })(free:∀ b o,b∉ch->s.heap.get? b=some o->H b=none->H' b=none)(there:∀ b o,b∉ch->s.heap.get? b=some o->∃ o',h'.get? b=some o')(tups:∀ b xs,H b=some #[40]->H' b=some #[40])(frzs:∀ b o u,H b=some (.rB o u)->H' b=some (.rB o u))(tbls:∀ b ps,H b=some (.tbl ps)->∃ more,H' b=some (.tbl (ps++more)))(ns:∀ m,s.heap.Ns X.env.locals m->h'.Ns X.env.locals m)(hok:iP X.prog X.w H' h')(hg:QR g'):
  Inv X pins σ H' { s with heap:=h',gens:=g',drawn:=d',toks:=t' }:=by
 have neL:∀ b o,X.s₀.heap.get? b=some o->b≠X.env.locals:=fun b o e=>jR (jW (jJ e) I.ok.above)
 have neC:∀ b o,X.s₀.heap.get? b=some o->b∉X.ex->b∉ch:=fun b o e hx hb=>by
  rcases(hch b hb).1 with z|z
  ·exact hx z
  ·exact absurd (jW (jJ e) z) (JP _)
 have cellK:∀ x c,X.env.cells.lookup x=some c->∀ v,s.heap.IsCell c v->h'.IsCell c v:=fun x c e v ⟨o,ho,hd⟩=>by
  have nch:c∉ch:=fun z=>(hch c z).2.2.1 x c e rfl
  by_cases hc:c∈X.fs
  ·obtain⟨sl,q⟩:=slot c o (I.TM x c e) hc nch ho (I.freeC x c e)
   exact⟨_,q,hd⟩
  ·exact⟨o,keep c o (I.TM x c e) hc nch ho (I.freeC x c e),hd⟩
 refine⟨I.ok,I.os,hg,⟨fun b o e n hb hx=>?_,fun b o e n hb hx=>?_,fun b o e n hx=>?_,fun b o e hx=>?_,fun b xs e=>tups b xs (I.base.tups b xs e),fun b o xs e=>frzs b o xs (I.base.frzs b o xs e),fun b ps e=>?_⟩,?_,fun x c e=>?_,?_,fun x c e=>?_,fun p hp=>?_,hok,I.len⟩
 ·exact keep b o (neL b o e) hb (neC b o e hx) (I.base.keep b o e n hb hx) (I.base.free b o e n hx)
 ·obtain⟨sl,e1⟩:=I.base.slot b o e n hb hx
  obtain⟨sl',e2⟩:=slot b _ (neL b o e) hb (neC b o e hx) e1 (I.base.free b o e n hx)
  exact⟨sl',e2⟩
 ·obtain⟨o',e1⟩:=I.base.there b o e hx
  exact free b o' (neC b o e hx) e1 (I.base.free b o e n hx)
 ·obtain⟨o',e1⟩:=I.base.there b o e hx
  exact there b o' (neC b o e hx) e1
 ·obtain⟨m1,e1⟩:=I.base.tbls b ps e
  obtain⟨m2,e2⟩:=tbls b _ e1
  exact⟨m1++m2,by rw[e2,Array.append_assoc]⟩
 ·obtain⟨m,hn,hl⟩:=I.loc
  refine⟨m,ns m hn,fun i x v e1 e2 e3=>?_⟩
  obtain⟨u,r,l⟩:=hl i x v e1 e2 e3
  exists u,r
  rcases l with l|⟨k,c,e,z⟩
  ·exact .inl l
  ·exact .inr ⟨k,c,e,cellK x c e _ z⟩
 ·obtain⟨v,z⟩:=I.cell x c e
  exact⟨v,cellK x c e v z⟩
 ·obtain⟨m,⟨o,_,_,ho,_⟩,_⟩:=I.loc
  exact free _ o (fun z=>(hch _ z).2.1 rfl) ho I.free
 ·obtain⟨v,o,ho,hd⟩:=I.cell x c e
  exact free c o (fun z=>(hch c z).2.2.1 x c e rfl) ho (I.freeC x c e)
 ·obtain⟨e,n,ne,nf,d⟩:=I.pin p hp
  have nch:p.1∉ch:=fun z=>(hch p.1 z).2.2.2 p hp rfl
  exact⟨keep p.1 p.2 ne nf nch e n,free p.1 p.2 nch e n,ne,nf,d⟩
theorem Inv.un{t':Nat}(I:Inv X pins σ H s)(u:Un X.fs [] H H' s.heap h')(hok:iP X.prog X.w H' h'):Inv X pins σ H' { s with heap:=h',toks:=t' }:=by
 obtain⟨m,⟨o,es,ep,ho,r⟩,_⟩:=id I.loc
 obtain⟨sl,hL⟩:=u.any ho I.free #[21]
 exact I.step (g' := s.gens) (d' := s.drawn) (ch:=[]) (fun _ z=>nomatch z) (fun b o _ hb _ e n=>u.keep b o e n hb #[21]) (fun b o _ hb _ e n=>u.slot b o e n hb #[21]) (fun b o _ e n=>u.free b o e n #[21]) (fun b o _ e=>u.there b o e #[21]) u.tups u.frzs u.tbls (fun m' hm=>by
  obtain⟨o',MS,ep',Tt,r'⟩:=hm
  rw[ho]at Tt;cases Tt
  exact⟨_,MS,ep',hL,r'⟩) hok I.bare
theorem Inv.call{g':Array QZ}{t':Nat}{d':Drawn}(I:Inv X pins σ H s)(u:Un (Ao X.stack) ch H H' s.heap h')(hok:iP X.prog X.w H' h')(hg:QR g')(hch:∀ b∈ch,(b∈X.ex\/X.s₀.heap.objs.size<=b)/\b≠X.env.locals/\(∀ x c,X.env.cells.lookup x=some c->c≠b)/\∀ p∈X.pn++pins,p.1≠b):
  Inv X pins σ H' { s with heap:=h',gens:=g',drawn:=d',toks:=t' }:=by
 obtain⟨m,⟨o,es,ep,ho,r⟩,_⟩:=id I.loc
 obtain⟨sl,hL⟩:=u.any ho I.free fun z=>(hch _ z).2.1 rfl
 exact I.step (ch:=ch) hch (fun b o hL hb hc e n=>u.keep b o e n (fun z=>(jY.mp (I.IP b z)).elim hL hb) hc) (fun b o _ _ hc e n=>u.any e n hc) (fun b o hc e n=>u.free b o e n hc) (fun b o hc e=>u.there b o e hc) u.tups u.frzs u.tbls (fun m' hm=>by
  obtain⟨o',MS,ep',Tt,r'⟩:=hm
  rw[ho]at Tt;cases Tt
  exact⟨_,MS,ep',hL,r'⟩) hok hg
theorem Inv.turned{t':Nat}(I:Inv X pins σ H s)(k:∀ b o,b≠it->s.heap.get? b=some o->h'.get? b=some o)(hn:H it=none)(hL:it≠X.env.locals)(h1:it∈X.ex\/X.s₀.heap.objs.size<=it)(h2:∀ x c,X.env.cells.lookup x=some c->c≠it)(h3:∀ p∈X.pn++pins,p.1≠it):Inv X pins σ H { s with heap:=h',toks:=t' }:=by
 have nit:∀ b u,H b=some u->b≠it:=fun b u e z=>by rw[z,hn]at e;cases e
 refine I.step (g' := s.gens) (d' := s.drawn) (ch:=[it]) (fun b hb=>?_) (fun b o _ _ hc e _=>k b o (fun z=>hc (by simp[z])) e) (fun b o _ _ hc e _=>⟨o.slots,k b o (fun z=>hc (by simp[z])) e⟩) (fun _ _ _ _ n=>n)
  (fun b o hc e=>⟨o,k b o (fun z=>hc (by simp[z])) e⟩) (fun _ _ e=>e) (fun _ _ _ e=>e) (fun b ps e=>⟨#[],by rw[e];simp⟩) (fun m hm=>?_) (fun b u e=>?_) I.bare
 ·exists 10
  subst e
  exact⟨h1,hL,h2,h3⟩
 ·obtain⟨o,es,ep,ho,r⟩:=hm
  exact⟨o,es,ep,k _ o (Ne.symm hL) ho,r⟩
 ·refine(I.hok b u e).Az (fun c v hc q=>k c v ?_ q) (fun _ q=>q) fun _ _ q=>q
  rcases hc with z|z
  ·rw[z];exact nit b u e
  ·exact nit c _ z
theorem Inv.tok(I:Inv X pins σ H s)(t:Nat):Inv X pins σ H { s with toks:=t }:=I.un (h' := s.heap) (t' := t) Un.refl I.hok
theorem Inv.kept{t':Nat}(I:Inv X pins σ H s)(k:∀ b u,s.heap.get? b=some u->h'.get? b=some u):Inv X pins σ H { s with heap:=h',toks:=t' }:=I.un (Un.kept k) (I.hok.kept k)
theorem Inv.laid{t':Nat}(I:Inv X pins σ H s)(k:∀ b u,s.heap.get? b=some u->h'.get? b=some u)(hp:s.heap.objs.size<=a)(new:bN X.prog X.w (upd H a o) h' a o):
  Inv X pins σ (upd H a o) { s with heap:=h',toks:=t' }:=I.un (Un.laid k hp (I.hok.fresh hp)) (I.hok.laid k hp new)
theorem Inv.write{x e:QQ}{t':Nat}(I:Inv X pins σ H s)(mu:Mut (H x))(he:e=x\/H e=some (.own x))(k:∀ b u,b≠e->s.heap.get? b=some u->h'.get? b=some u)(heo:∃ u,h'.get? e=some u)(new:bN X.prog X.w (upd H x o) h' x o):Inv X pins σ (upd H x o) { s with heap:=h',toks:=t' }:=I.un (Un.write mu he k heo) (I.hok.write mu he k heo new)
theorem Inv.Rb(I:Inv X pins σ H s)(h:∀ p∈adx,s.heap.get? p.1=some p.2/\H p.1=none/\p.1≠X.env.locals/\p.1∉X.fs/\∀ v,p.2.data≠.cell v):Inv X adx σ H s:=
 ⟨I.ok,I.os,I.bare,I.base,I.loc,I.cell,I.free,I.freeC,fun p hp=>(zJ.mp hp).elim (fun z=>I.pin p (jn _ z)) (h p),I.hok,I.len⟩
theorem EB(hN:N.Nodup)(a:N[i]?=some x)(b:N[j]?=some x):i=j:=by
 obtain⟨h1,e1⟩:=jc.mp a
 obtain⟨h2,e2⟩:=jc.mp b
 exact(JK hN).mp (e1.trans e2.symm)
theorem Ht{M:Model}{Q:Unit->Ql->Prop}(I:Inv X pins σ H s)(hN:X.N.Nodup)(hi:X.N[i]?=some x)(hx:Loc X.env.scope x)(r:RelV v u)(h:∀ s',Inv X pins (σ.set i (some v)) H s'->(∃ a,Yf a s.heap s'.heap/\(a=X.env.locals\/X.env.cells.lookup x=some a))->Q () s')(hf:X.fn x=true\/X.env.scope.names.lookup x=some .local:=by first|exact .inl rfl|exact .inr rfl|assumption):wpAny M A (storeName X.env x u) Q E s:=by
 obtain⟨m,hn,hl⟩:=id I.loc
 have aep:(X.env.scope.kind==.class||(X.env.scope.kind==.module&&X.env.locals != X.env.globals))=false:=by rw[I.ok.kind];rfl
 have V1:i<σ.length:=by rw[I.len];exact(jc.mp hi).1
 have TM:=I.TM
 have tracked:∀ {a:QQ} {h':Heap},(∃ o,s.heap.get? a=some o/\H a=none)->Yf a s.heap h'->iP X.prog X.w H h' := fun {a h'} ha hs b ob e=>by
  obtain⟨_,_,adm⟩:=ha
  refine(I.hok b ob e).Az (fun c w' hc q=>(hs.2 c ?_).trans q) (fun _ q=>q) fun _ _ q=>q
  rintro rfl
  rcases hc with rfl|hc
  ·rw[adm]at e;cases e
  ·rw[adm]at hc;cases hc
 rcases hx with hk|hk
 ·refine wpAny_storeName_local hk hn (fun h' hn' hs=>?_) aep
  obtain⟨oL,_,_,hoL,_⟩:=id hn
  refine h _ ⟨I.ok,I.os,I.bare,⟨fun b o e n hb hx=>?_,fun b o e n hb hx=>?_,I.base.free,fun b o e hx=>?_,I.base.tups,I.base.frzs,I.base.tbls⟩,⟨_,hn',fun j y v' e1 e2 e3=>?_⟩,fun y c e=>?_,I.free,I.freeC,fun p hp=>?_,tracked ⟨oL,hoL,I.free⟩ hs,by simpa using I.len⟩ ⟨_,hs,.inl rfl⟩
  ·exact(hs.2 b (jR (jW (jJ e) I.ok.above))).trans (I.base.keep b o e n hb hx)
  ·obtain⟨sl,e1⟩:=I.base.slot b o e n hb hx
   exact⟨sl,(hs.2 b (jR (jW (jJ e) I.ok.above))).trans e1⟩
  ·obtain⟨o',e1⟩:=I.base.there b o e hx
   exact⟨o',(hs.2 b (jR (jW (jJ e) I.ok.above))).trans e1⟩
  ·by_cases hj:j=i
   ·subst hj
    rw[hi]at e1;cases e1
    rw[Jf V1]at e2
    cases e2
    exact⟨u,r,.inl ⟨hk,by simp⟩⟩
   ·rw[Jh (Ne.symm hj)]at e2
    obtain⟨u',r',q⟩:=hl j y v' e1 e2 e3
    exists u',r'
    rcases q with⟨k,e⟩|⟨k,c,e,z⟩
    ·refine .inl ⟨k,?_⟩
     have:y≠x:=fun e=>hj (EB hN e1 (e ▸ hi))
     simp[this,e]
    ·exact .inr ⟨k,c,e,z.sameBut hs (TM y c e)⟩
  ·obtain⟨w',z⟩:=I.cell y c e
   exact⟨w',z.sameBut hs (TM y c e)⟩
  ·obtain⟨e,n,ne,nf,d⟩:=I.pin p hp
   exact⟨(hs.2 p.1 ne).trans e,n,ne,nf,d⟩
 ·have hfn:X.fn x=true:=by
   rcases hf with z|z
   ·exact z
   ·rw[z]at hk;cases hk
  obtain⟨c,hc⟩:=I.ok.has x (.inl hk)
  obtain⟨w',z⟩:=I.cell x c hc
  refine wpAny_storeName_cell I.ok.kind hk hc z (fun h' U6 hs=>?_)
  obtain⟨oc,hoc,aew⟩:=id z
  refine h { s with heap:=h' } ⟨I.ok,I.os,I.bare,⟨fun b o e n hb hx=>?_,fun b o e n hb hx=>?_,I.base.free,fun b o e hx=>?_,I.base.tups,I.base.frzs,I.base.tbls⟩,⟨m,hn.sameBut hs (Ne.symm (TM x c hc)),fun j y v' e1 e2 e3=>?_⟩,fun y c' e=>?_,I.free,I.freeC,fun p hp=>?_,tracked ⟨oc,hoc,I.freeC x c hc⟩ hs,by simpa using I.len⟩ ⟨c,hs,.inr hc⟩
  ·exact(hs.2 b (jR (jW (jJ e) (I.ok.cab x c hfn hc)))).trans (I.base.keep b o e n hb hx)
  ·obtain⟨sl,e1⟩:=I.base.slot b o e n hb hx
   exact⟨sl,(hs.2 b (jR (jW (jJ e) (I.ok.cab x c hfn hc)))).trans e1⟩
  ·obtain⟨o',e1⟩:=I.base.there b o e hx
   exact⟨o',(hs.2 b (jR (jW (jJ e) (I.ok.cab x c hfn hc)))).trans e1⟩
  ·by_cases hj:j=i
   ·subst hj
    rw[hi]at e1;cases e1
    rw[Jf V1]at e2
    cases e2
    exact⟨u,r,.inr ⟨.inl hk,c,hc,U6⟩⟩
   ·rw[Jh (Ne.symm hj)]at e2
    obtain⟨u',r',q⟩:=hl j y v' e1 e2 e3
    exists u',r'
    rcases q with q|⟨k,c',e,z'⟩
    ·exact .inl q
    ·refine .inr ⟨k,c',e,z'.sameBut hs ?_⟩
     rintro rfl
     exact hj (EB hN e1 (I.ok.inj _ _ _ e hc ▸ hi))
  ·by_cases hcc:c'=c
   ·subst hcc;exact⟨_,U6⟩
   ·obtain⟨w2,z2⟩:=I.cell y c' e
    exact⟨w2,z2.sameBut hs hcc⟩
  ·obtain⟨e,n,ne,nf,d⟩:=I.pin p hp
   refine⟨(hs.2 p.1 ?_).trans e,n,ne,nf,d⟩
   intro q
   rw[q,hoc]at e
   have q':oc=p.2:=Option.some.inj e
   exact d w' (by rw[<- q'];exact aew)
theorem wa{M:Model}{Q:Unit->Ql->Prop}(I:Inv X pins σ H s)(hN:X.N.Nodup)(hi:X.N[i]?=some x)(hx:Loc X.env.scope x)(r:RelV v u)(h:∀ s',Inv X pins (σ.set i (some v)) H s'->Q () s')(hf:X.fn x=true\/X.env.scope.names.lookup x=some .local:=by first|exact .inl rfl|exact .inr rfl|assumption):wpAny M A (storeName X.env x u) Q E s:=
 Ht I hN hi hx r (fun s' I' _=>h s' I') hf
theorem Inv.AQ(I:Inv X pins σ H s)(ho:s'.os=s.os)(u:Un (Ao X.stack) ch H H' s.heap s'.heap)(hok:iP X.prog X.w H' s'.heap)(hg:QR s'.gens)(hch:∀ b∈ch,(b∈X.ex\/X.s₀.heap.objs.size<=b)/\b≠X.env.locals/\(∀ x c,X.env.cells.lookup x=some c->c≠b)/\∀ p∈X.pn++pins,p.1≠b):Inv X pins σ H' s' := by
 obtain⟨h',g',d',t',o'⟩:=s'
 have e:o'=s.os:=ho
 subst e
 exact I.call (g' := g') (t' := t') (d' := d') u hok hg hch
end
abbrev XK:=Value->Option QQ->Hp->Prop
abbrev St:=List (Option V)
abbrev VK:=V->Hp->Prop
abbrev TE:=St->Hp->VK->Prop
abbrev TT:=St->Hp->(Bool->Hp->Prop)->Prop
abbrev TA:=St->Hp->(List V->Hp->Prop)->Prop
structure Ends where
 nx:St->Hp->Prop
 rt:VK
 bk:St->Hp->Prop:=fun _ _=>False
 ct:St->Hp->Prop:=fun _ _=>False
abbrev TS:=Ends->St->Hp->Prop
def EP(X:Cx)(pins:List #[41])(σ:St)(Q:VK)(u:Value)(s':Ql):Prop := ∃ v H',Inv X pins σ H' s'/\RelV v u/\Q v H'
def TP(X:Cx)(pins:List #[41])(σ:St)(Q:Bool->Hp->Prop)(b:Bool)(s':Ql):Prop := ∃ H',Inv X pins σ H' s'/\Q b H'
def AP(X:Cx)(pins:List #[41])(σ:St)(Q:List V->Hp->Prop)(us:List Value)(s':Ql):Prop := ∃ vs H',Inv X pins σ H' s'/\Vals vs us/\Q vs H'
def SP(X:Cx)(pins:List #[41])(D:Ends)(f:Flow)(s':Ql):Prop:=
 match f with
 | .next=>∃ σ' H',Inv X pins σ' H' s'/\D.nx σ' H'
 | .brk=>∃ σ' H',Inv X pins σ' H' s'/\D.bk σ' H'
 | .cont=>∃ σ' H',Inv X pins σ' H' s'/\D.ct σ' H'
 | .ret u=>∃ v σ' H',Inv X pins σ' H' s'/\RelV v u/\D.rt v H'
def PE(X:Cx)(e:Expr)(t:TE):Prop:=
 ∀ (pins:List #[41]) (s:Ql) (σ:St) (H:Hp) (Q:VK),Inv X pins σ H s->t σ H Q->wpAny #[5] X.A (eval e X.env) #[54] X.xe s
def PT(X:Cx)(e:Expr)(t:TT):Prop:=
 ∀ (pins:List #[41]) (s:Ql) (σ:St) (H:Hp) (Q:Bool->Hp->Prop),Inv X pins σ H s->t σ H Q->wpAny #[5] X.A (isTrue e X.env (eval e X.env)) (TP X pins σ Q) X.xe s
def PW(X:Cx)(e:Expr)(t:TT):Prop:=
 ∀ (whole:Qk Value) (pins:List #[41]) (s:Ql) (σ:St) (H:Hp) (Q:Bool->Hp->Prop),Inv X pins σ H s->t σ H Q->wpAny #[5] X.A (isTrue e X.env whole) (TP X pins σ Q) X.xe s
theorem PW.pt{X:Cx}{t:TT}(h:PW X e t):PT X e t:=h _
def PA(X:Cx)(es:List Expr)(t:TA):Prop:=
 ∀ (pos:Pos) (pins:List #[41]) (s:Ql) (σ:St) (H:Hp) (Q:List V->Hp->Prop),Inv X pins σ H s->t σ H Q->wpAny #[5] X.A (spliced #[22]) (AP X pins σ Q) X.xe s
def PS(X:Cx)(st:Stmt)(t:TS):Prop:=
 ∀ (pins:List #[41]) (s:Ql) (σ:St) (H:Hp) (D:Ends),Inv X pins σ H s->t D σ H->wpAny #[5] X.A (exec st X.env) (SP X pins D) X.xe s
def Fe(X:Cx)(st:List Stmt)(t:TS):Prop:=
 ∀ (pins:List #[41]) (s:Ql) (σ:St) (H:Hp) (D:Ends),Inv X pins σ H s->t D σ H->wpAny #[5] X.A (execs st X.env) (SP X pins D) X.xe s
theorem cD{t:Qk α}{Q Q':α->Ql->Prop}{M:Model}(h:wpAny M A t Q E s)(hQ:∀ a s,Q a s->Q' a s):wpAny M A t Q' E s:=WL h hQ fun _ _ x=>x
variable{X:Cx}{σ:St}{ta te tl:TE}{tb:TS}{D:Ends}{tc:TT}
section
inductive aiK (i:Nat) (σ:St) (H:Hp) (Q:VK):Prop
 | mk (v:_) (_:σ[i]?=some (some v)) (_:Q v H)
def tC(v:V):TE:=fun _ H Q=>Q v H
theorem ae0(hN:X.N[i]?=some x)(hv:Vis X.env.scope x)(hd:#[15]=false:=by decide)(Fm:(x==("__classdict__" : Qm))=false:=by decide):PE X (.Name x pos) (aiK i):=by
 exists 4
 obtain⟨v,e,h⟩:=h
 obtain⟨m,hn,hl⟩:=I.loc
 obtain⟨u,r,l⟩:=hl i x v hN e hv
 have fin:EP X pins σ Q u s:=⟨v,H,I,r,h⟩
 rcases l with⟨hk,hm⟩|⟨hk,c,hc,adl⟩
 ·exact qW (wpAny_loadName_local I.ok.kind hk hn hm fin) hd
 ·rcases hk with hk|hk
  ·exact qW (wpAny_loadName_cell I.ok.kind hk hc adl fin) hd
  ·exact qW (wpAny_loadName_free I.ok.kind hk hc adl fin Fm) hd
theorem ah{i j pos}:PE X (.Constant (.int i) j pos) (tC (.int i)):=fun _ _ _ H _ I h=>wpAny_Constant_int ⟨.int i,H,I.tok _,⟨_,rfl⟩,h⟩
theorem cq{b j pos}:PE X (.Constant (.bool b) j pos) (tC (.bl b)):=fun _ _ _ H _ I h=>Constant_bool ⟨.bl b,H,I,rfl,h⟩
theorem tR{j pos}:PE X (.Constant .none j pos) (tC .non):=fun _ _ _ H _ I h=>Constant_none ⟨.non,H,I,rfl,h⟩
theorem O6{x j pos}:PE X (.Constant (.str x) j pos) (tC (.str x)):=fun _ _ _ H _ I h=>yz ⟨.str x,H,I.tok _,⟨_,rfl⟩,h⟩
def Gl(X:Cx)(x:Qm):Prop:=X.env.kindOf x=some .globalImplicit
theorem iV(I:Inv X pins σ H s)(hg:Gl X x)(hm:X.mg x=some u)(h:Q u s)(hd:#[15]=false:=by decide):wpAny #[5] X.A (eval (.Name x pos) X.env) Q E s:=
 yH I.ok.kind hg (Calls.loadGlobal_global (by rw[I.ok.glob];exact I.mod.glob.keeps I.bk) hm h) hd
theorem pH(I:Inv X pins σ H s)(hg:Gl X x)(hm:X.mg x=none)(hv:Qr x=some u)(h:Q u s)(hn:x ≠ "__name__" := by decide)(hd:#[15]=false:=by decide):wpAny #[5] X.A (eval (.Name x pos) X.env) Q E s:=by
 obtain⟨mb,h1,h2⟩:=I.mod.blt
 exact yH I.ok.kind hg (Calls.loadGlobal_builtin (by rw[I.ok.glob];exact I.mod.glob.keeps I.bk) hm (by rw[I.ok.blt];exact h1.keeps I.bk) ((h2 x hn).trans hv) h) hd
theorem de(hg:Gl X x)(hm:X.mg x=some u)(r:RelV v u)(hd:#[15]=false:=by decide):PE X (.Name x pos) (tC v):=
 fun _ _ _ H _ I h=>iV I hg hm ⟨v,H,I,r,h⟩ hd
theorem iW(hg:Gl X x)(hm:X.mg x=none)(hv:Qr x=some u)(r:RelV v u)(hn:x ≠ "__name__" := by decide)(hd:#[15]=false:=by decide):PE X (.Name x pos) (tC v):=
 fun _ _ _ H _ I h=>pH I hg hm hv ⟨v,H,I,r,h⟩ hn hd
variable{a b:Expr}{tb:TE}
def PC(X:Cx)(op:QV)(a b:Expr)(t:TE):Prop:=
 ∀ (pins:List #[41]) (s:Ql) (σ:St) (H:Hp) (Q:VK),Inv X pins σ H s->t σ H Q ->
  wpAny #[5] X.A (eval a X.env) (fun v s₁=>wpAny #[5] X.A (eval b X.env) (fun u s₂=>wpAny #[5] X.A (qB op v u) #[54] X.xe s₂) X.xe s₁) X.xe s
theorem X9(b:Expr){op:QV}(h:op≠.In)(h2:op≠.NotIn):Qq op b=false:=by
 have e1:(op==CmpOp.In)=false:=by cases op<;>first|rfl|exact absurd rfl h
 have e2:(op==CmpOp.NotIn)=false:=by cases op<;>first|rfl|exact absurd rfl h2
 cases b<;>simp[Qq,e1,e2]
inductive ams (Q:Bool->Hp->Prop) (x:V) (H1:Hp):Prop
 | mk (c:_) (_:x=.bl c) (_:Q c H1)
def tB(t:TE):TT:=fun σ H Q=>t σ H (ams Q)
theorem Iz{op:QV}{t:TE}(h:PC X op a b t)(h1:Qq op b=false:=by first|exact X9 _ #[7] #[7]|rfl):PT X (.Compare a [op] [b] pos) (tB t):=by
 intro pins s σ H Q I hw
 refine WG (cD (h pins s σ H _ I hw) fun v s1 h1=>cD h1 fun u s2 h2=>cD h2 fun c s3 ⟨x,H1,I1,r1,q1⟩=>?_) h1
 obtain⟨d,rfl,q⟩:=q1
 cases r1
 exact Wh ⟨H1,I1,q⟩
theorem iZ{t:TE}(h:PE X e t)(he:∀ whole,isTrue e X.env whole=(do let v <- whole;standAt e.pos;holding [v] (truthy v)):=by intro _;rfl):PT X e (tB t):=by
 intro pins s σ H Q I hw
 refine isTrue_plain (cD (h pins s σ H _ I hw) fun v s1 ⟨x,H1,I1,r1,q1⟩=>?_) (he _)
 obtain⟨d,rfl,q⟩:=q1
 cases r1
 exact Wh ⟨H1,I1,q⟩
variable{tA tB':TT}{rest:List Expr}
def amq(t u:TT):TT:=fun σ H Q=>t σ H fun c H1=>if c=true then u σ H1 Q else Q false H1
def tOr(t u:TT):TT:=fun σ H Q=>t σ H fun c H1=>if c=true then Q true H1 else u σ H1 Q
def amw(t:TT):TT:=fun σ H Q=>t σ H fun c H1=>Q (!c) H1
theorem ow(ha:PT X a tA):PW X (.BoolOp .And [a] pos) tA:=by
 intro wh pins s σ H Q I h
 refine isTrue_and (cD (ha pins s σ H Q I h) fun c s1 e=>?_)
 cases c with
 | true=>exact isTrue_and_nil e
 | false=>exact e
theorem tT(ha:PT X a tA):PW X (.BoolOp .Or [a] pos) tA:=by
 intro wh pins s σ H Q I h
 refine isTrue_or (cD (ha pins s σ H Q I h) fun c s1 e=>?_)
 cases c with
 | false=>exact isTrue_or_nil e
 | true=>exact e
theorem rX(ha:PT X a tA)(hb:PW X (.BoolOp .And (b :: rest) pos) tB'):PW X (.BoolOp .And (a :: b :: rest) pos) (amq tA tB'):=by
 intro wh pins s σ H Q I h
 refine isTrue_and (cD #[67] fun c s1 ⟨H1,I1,q1⟩=>?_)
 cases c with
 | true=>exact hb wh pins s1 σ H1 Q I1 q1
 | false=>exact⟨H1,I1,q1⟩
theorem pA(ha:PT X a tA)(hb:PW X (.BoolOp .Or (b :: rest) pos) tB'):PW X (.BoolOp .Or (a :: b :: rest) pos) (tOr tA tB'):=by
 intro wh pins s σ H Q I h
 refine isTrue_or (cD #[67] fun c s1 ⟨H1,I1,q1⟩=>?_)
 cases c with
 | true=>exact⟨H1,I1,q1⟩
 | false=>exact hb wh pins s1 σ H1 Q I1 q1
theorem lV(ha:PT X a tA):PT X (.UnaryOp .Not a pos) (amw tA):=by
 exists 4
 exact isTrue_not (ha pins s σ H (fun c H1=>Q (!c) H1) I h)
inductive acV (tb:TE) (σ:St) (Q:VK) (x:V) (H1:Hp):Prop
 | mk (c:_) (_:x=.bl c) (_:if c=true then tb σ H1 Q else Q (.bl false) H1)
def ait(ta tb:TE):TE:=fun σ H Q=>ta σ H (acV tb σ Q)
inductive ac3 (Q:VK) (x:V) (H1:Hp):Prop
 | mk (c:_) (_:x=.bl c) (_:Q (.bl (!c)) H1)
def aiD(ta:TE):TE:=fun σ H Q=>ta σ H (ac3 Q)
theorem EG{op}{t:TE}(h:PE X a t):PE X (.BoolOp op [a] pos) t:=fun pins s σ H Q I hw=>BoolOp_one (h pins s σ H Q I hw)
theorem EF(ha:PE X a ta)(hb:PE X (.BoolOp .And (b :: rest) pos) tb):PE X (.BoolOp .And (a :: b :: rest) pos) (ait ta tb):=by
 exists 4
 refine BoolOp_and (cD #[67] fun v s1 ⟨x,H1,I1,r1,q1⟩=>?_)
 obtain⟨c,rfl,q1⟩:=q1
 cases r1
 refine Wh ?_
 cases c with
 | true=>exact hb pins s1 σ H1 Q I1 q1
 | false=>exact⟨.bl false,H1,I1,rfl,q1⟩
theorem aaj(ha:PE X a ta):PE X (.UnaryOp .Not a pos) (aiD ta):=by
 exists 4
 refine UnaryOp_ (cD #[67] fun v s1 ⟨x,H1,I1,r1,q1⟩=>?_)
 obtain⟨c,rfl,q1⟩:=q1
 cases r1
 exact not_of (Wh ⟨.bl (!c),H1,I1,rfl,q1⟩)
def tIf(t:TT)(ta tb:TE):TE:=fun σ H Q=>t σ H fun c H1=>if c=true then ta σ H1 Q else tb σ H1 Q
theorem aag(hc:PT X c tA)(ha:PE X a ta)(hb:PE X b tb):PE X (.IfExp c a b pos) (tIf tA ta tb):=by
 exists 4
 refine wpAny_IfExp (cD (hc pins s σ H _ I h) fun d s1 ⟨H1,I1,q1⟩=>?_)
 cases d with
 | true=>exact ha pins s1 σ H1 Q I1 q1
 | false=>exact hb pins s1 σ H1 Q I1 q1
end
def oM(K:Wl)(H:Hp)(a:QQ)(xs:List V):Prop:=
 Rd H a #[109] \/
  ∃ (o:Obj) (bz:Array Value) (n:Nat),K.lookup a=some o/\o.cls=.type "list" /\ o.dict=none/\o.data=.seq bz n/\bz.size<=sizeLine/\Vals xs bz.toList
def sQ(K:Wl)(H:Hp)(a:QQ)(xs:List V):Prop:=
 Rd H a #[40] \/
  ∃ (o:Obj) (bz:Array Value) (n:Nat),K.lookup a=some o/\o.cls=.type "tuple" /\ o.data=.seq bz n/\bz.size<=sizeLine/\Vals xs bz.toList
def aj3:Value->Option V
 | .none=>some .non
 | .bool b=>some (.bl b)
 | .int i _=>some (.int i)
 | .str x _=>some (.str x)
 | .bytes b _=>some (.PN b)
 | .float b _=>some (.flt b)
 | .ref a=>some #[50]
 | .type n=>some (.ty n)
 | _=>none
theorem RelV.abs{x:V}(r:RelV x u):aj3 u=some x:=by
 cases x with
 | non=>cases r;rfl
 | bl _=>cases r;rfl
 | int _=>obtain⟨t,rfl⟩:=r;rfl
 | str _=>obtain⟨t,rfl⟩:=r;rfl
 | PN _=>obtain⟨t,rfl⟩:=r;rfl
 | flt _=>obtain⟨t,rfl⟩:=r;rfl
 | ref _=>cases r;rfl
 | ty _=>cases r;rfl
theorem RelV.inj{x:V}(r:RelV x u)(q:RelV y u):x=y:=Option.some.inj (r.abs.symm.trans q.abs)
theorem Vals.inj:∀ {xs ys:List V} {us:List Value},Vals xs us->Vals ys us->xs=ys
 | _,_,_,.nil,.nil=>rfl
 | _,_,_,.cons r t,.cons r' t'=>by rw[r.inj r',Vals.inj t t']
section
variable{ys:List V}
theorem oM.of(h:H a=some #[109]):oM K H a xs:=.inl (.inl h)
theorem sQ.of(h:H a=some #[40]):sQ K H a xs:=.inl (.inl h)
theorem Inv.list(I:Inv X pins σ H s)(h:oM X.K H a xs):∃ bz:List Value,Vals xs bz/\PlainL s.heap a bz.toArray/\xs.length<=sizeLine:=by
 rcases h with h|⟨o,bz,n,hk,hc,hd,hs,hz,r⟩
 ·obtain⟨z,bz,n,r,e⟩:=h.ok I.hok
  exact⟨bz,r,⟨_,n,e,rfl,rfl,rfl⟩,z⟩
 ·refine⟨bz.toList,r,⟨o,n,I.pF a o hk,hc,hd,by simpa using hs⟩,?_⟩
  have e:=r.length
  simp only[Jd]at e
  omega
theorem Inv.tuple(I:Inv X pins σ H s)(h:sQ X.K H a xs):∃ bz:List Value,Vals xs bz/\Qc s.heap a bz.toArray/\xs.length<=sizeLine:=by
 rcases h with h|⟨o,bz,n,hk,hc,hs,hz,r⟩
 ·obtain⟨z,bz,r,p⟩:=h.ok I.hok
  exact⟨bz,r,p,z⟩
 ·refine⟨bz.toList,r,⟨o,I.pF a o hk,hc,n,by simpa using hs⟩,?_⟩
  have e:=r.length
  simp only[Jd]at e
  omega
theorem Inv.Et(I:Inv X pins σ H s)(h:oM X.K H a xs)(h':oM X.K H a ys):xs=ys:=by
 obtain⟨bz,r,⟨o,n,e,_,_,d⟩,_⟩:=I.list h
 obtain⟨its',r',⟨o',n',e',_,_,d'⟩,_⟩:=I.list h'
 rw[e]at e';cases e'
 rw[d]at d'
 injection d' with d1 _
 have:bz=its' := by simpa using congrArg QG d1
 subst this
 exact r.inj r'
theorem Inv.Hv(I:Inv X pins σ H s)(h:sQ X.K H a xs)(h':sQ X.K H a ys):xs=ys:=by
 obtain⟨bz,r,⟨o,e,_,n,d⟩,_⟩:=I.tuple h
 obtain⟨its',r',⟨o',e',_,n',d'⟩,_⟩:=I.tuple h'
 rw[e]at e';cases e'
 rw[d]at d'
 injection d' with d1 _
 have:bz=its' := by simpa using congrArg QG d1
 subst this
 exact r.inj r'
end
abbrev Cx.bX(X:Cx)(E:Value->Ql->Prop):Cx:={ X with xe:=E }
abbrev Cx.iu(X:Cx):Cx:=X.bX fun _ _=>False
theorem Cx.Ok.bX(ok:X.Ok)(E:Value->Ql->Prop):(X.bX E).Ok:=
 ⟨ok.mod,ok.kind,ok.glob,ok.blt,ok.above,ok.inj,ok.has,ok.cab,ok.hd,ok.frames,ok.stk,ok.exf,ok.bs,ok.bsz,ok.noex,ok.exfs,ok.Ap,ok.frf⟩
theorem Cx.Ok.wb(ok:(X.bX E).Ok):X.Ok:=
 ⟨ok.mod,ok.kind,ok.glob,ok.blt,ok.above,ok.inj,ok.has,ok.cab,ok.hd,ok.frames,ok.stk,ok.exf,ok.bs,ok.bsz,ok.noex,ok.exfs,ok.Ap,ok.frf⟩
section
theorem Inv.bX(I:Inv X pins σ H s)(E:Value->Ql->Prop):Inv (X.bX E) pins σ H s:=⟨I.ok.bX E,I.os,I.bare,I.base,I.loc,I.cell,I.free,I.freeC,I.pin,I.hok,I.len⟩
theorem Inv.wb(I:Inv (X.bX E) pins σ H s):Inv X pins σ H s:=⟨I.ok.wb,I.os,I.bare,I.base,I.loc,I.cell,I.free,I.freeC,I.pin,I.hok,I.len⟩
theorem SP.wb{f:Flow}(h:SP (X.bX E) pins D f s'):SP X pins D f s' := by
 cases f with
 | next=>obtain⟨σ',H',I,q⟩:=h;exact⟨σ',H',I.wb,q⟩
 | brk=>obtain⟨σ',H',I,q⟩:=h;exact⟨σ',H',I.wb,q⟩
 | cont=>obtain⟨σ',H',I,q⟩:=h;exact⟨σ',H',I.wb,q⟩
 | ret u=>obtain⟨v,σ',H',I,r,q⟩:=h;exact⟨v,σ',H',I.wb,r,q⟩
theorem Fe.iu{t:TS}(h:Fe X.iu st t):Fe X st t:=fun pins s σ H D I hw =>
 WL (h pins s σ H D (I.bX _) hw) (fun _ _ q=>q.wb) fun _ _ z=>False.elim z
end
section
variable{st:Stmt}{rest:List Stmt}{t u:TS}
def bU:TS:=fun D σ H=>D.nx σ H
def Te(t u:TS):TS:=fun D σ H=>t { D with nx:=u D } σ H
theorem aR:Fe X [] bU:=fun _ _ σ H _ I h=>qx ⟨σ,H,I,h⟩
theorem ag(h1:PS X st t)(h2:Fe X rest u):Fe X (st :: rest) (Te t u):=by
 exists 9
 refine qw (cD (h1 pins s σ H { D with nx:=u D } I h) fun f s1 q=>?_)
 cases f with
 | next =>
  obtain⟨σ',H',I',q⟩:=q
  exact h2 pins s1 σ' H' D I' q
 | ret v=>exact q
 | brk=>exact q
 | cont=>exact q
theorem ao(h1:PS X st t):Fe X [st] t:=by
 exists 9
 refine qw (cD (h1 pins s σ H D I h) fun f s1 q=>?_)
 cases f with
 | next=>exact qx q
 | ret v=>exact q
 | brk=>exact q
 | cont=>exact q
theorem Inv.quiet(I:Inv X pins σ H s):interactive X.env=false:=by simp[interactive,I.ok.kind]
def aiy(te:TE):TS:=fun D σ H=>te σ H fun _ H1=>D.nx σ H1
theorem bD(he:PE X e te)(hs:qO e none pos.line X.env=pure false:=by rfl):PS X (.Expr e pos) (aiy te):=by
 exists 9
 exact qV (cD #[56] fun v s1 ⟨x,H1,I1,r1,q1⟩=>⟨σ,H1,I1,q1⟩) I.quiet hs
def aiF(te:TE):TS:=fun D σ H=>te σ H D.rt
theorem aH(he:PE X e te):PS X (.Return (some e) pos) (aiF te):=by
 exists 9
 exact wpAny_Return_some (cD #[56] fun v s1 ⟨x,H1,I1,r1,q1⟩=>⟨x,σ,H1,I1,r1,q1⟩)
def BG(c:TT)(t u:TS):TS:=fun D σ H=>c σ H fun b H1=>if b=true then t D σ H1 else u D σ H1
theorem bK{a b:List Stmt}(hc:PT X c tc)(ha:Fe X a t)(hb:Fe X b u):PS X (.If c a b pos) (BG tc t u):=by
 exists 9
 refine wpAny_If (cD (hc pins s σ H _ I h) fun d s1 ⟨H1,I1,q1⟩=>?_)
 cases d with
 | true=>exact ha pins s1 σ H1 D I1 q1
 | false=>exact hb pins s1 σ H1 D I1 q1
def afA:TS:=fun _ _ _=>False
theorem EL:PS X st afA:=fun _ _ _ _ _ _ h=>h.elim
end
abbrev TG:=V->St->Hp->(St->Hp->Prop)->Prop
abbrev TGs:=List V->St->Hp->(St->Hp->Prop)->Prop
def PG(X:Cx)(target:Expr)(t:TG):Prop:=
 ∀ (pins:List #[41]) (s:Ql) (σ:St) (H:Hp) (v:V) (u:Value) (Q:St->Hp->Prop),Inv X pins σ H s->RelV v u->t v σ H Q ->
  wpAny #[5] X.A (assign target X.env u) (fun _ s'=>∃ σ' H',Inv X pins σ' H' s'/\Q σ' H') X.xe s
def PGs(X:Cx)(ts:List Expr)(t:TGs):Prop:=
 ∀ (pins:List #[41]) (s:Ql) (σ:St) (H:Hp) (vs:List V) (us:List Value) (Q:St->Hp->Prop),Inv X pins σ H s->Vals vs us->t vs σ H Q ->
  wpAny #[5] X.A (assignInOrder ((Qp ts X.env).map (·.2)) us) (fun _ s'=>∃ σ' H',Inv X pins σ' H' s'/\Q σ' H') X.xe s
abbrev adY:=V->V->V->Hp->(Hp->Prop)->Prop
def agA(X:Cx)(t:adY):Prop:=
 ∀ (pins:List #[41]) (s:Ql) (σ:St) (H:Hp) (o i v:V) (ov iv u:Value) (Q:Hp->Prop),Inv X pins σ H s->RelV o ov->RelV i iv->RelV v u->t o i v H Q ->
  wpAny #[5] X.A (setItem ov iv u) (fun _ s'=>∃ H',Inv X pins σ H' s'/\Q H') X.xe s
section
def aX(i:Nat):TG:=fun v σ H Q=>Q (σ.set i (some v)) H
theorem acD(hN:X.N.Nodup)(hi:X.N[i]?=some x)(hx:Loc X.env.scope x)(hf:X.fn x=true\/X.env.scope.names.lookup x=some .local:=by first|exact .inl rfl|exact .inr rfl|assumption):PG X (.Name x pos) (aX i):=by
 intro pins s σ H v u Q I r h
 exact qY (wa I hN hi hx r (fun s' I'=>⟨_,H,I',h⟩) hf)
def akq:TGs:=fun vs σ H Q=>vs=[]/\Q σ H
def agT(t:TG)(u:TGs):TGs:=fun vs σ H Q=>∃ v r,vs=v :: r/\t v σ H fun σ' H'=>u r σ' H' Q
theorem iX:PGs X [] akq:=by
 intro pins s σ H vs us Q I r h
 obtain⟨e,h⟩:=h
 subst e
 cases r
 exact assignInOrder_nil ⟨σ,H,I,h⟩
theorem bx{t:TG}{u:TGs}(h1:PG X e t)(h2:PGs X es u)(hs:(Qp (e :: es) X.env).map (·.2)=assign e X.env :: (Qp es X.env).map (·.2):=by rfl):PGs X (e :: es) (agT t u):=by
 intro pins s σ H vs us Q I r h
 obtain⟨v,vr,e1,h⟩:=h
 subst e1
 cases r with
 | cons r rr =>
  rw[hs]
  refine assignInOrder_cons (cD (h1 pins s σ H _ _ _ I r h) fun _ s1 ⟨σ1,H1,I1,q1⟩=>?_)
  exact h2 pins s1 σ1 H1 _ _ Q I1 rr q1
def agU(K:Wl)(n:Nat)(t:TGs):TG:=fun v σ H Q=>∃ a xs,v=.ref a/\sQ K H a xs/\xs.length=n/\t xs σ H Q
theorem pK{k:Nat}{t:TGs}(hc:X.calm=true)(h:PGs X es t)(hn:(Qp es X.env).length=n:=by rfl)(BK:(Qp es X.env).findIdx? (·.1)=none:=by rfl):PG X (.Tuple es k pos) (agU X.K n t):=by
 intro pins s σ H v u Q I r hw
 obtain⟨a,xs,e1,hq,hl,hw⟩:=hw
 subst e1
 cases r
 obtain⟨bz,rv,ht,hz⟩:=I.tuple hq
 refine assign_Tuple_tuple #[85] ht (by simp[hn,<- hl,rv.length]) BK fun h' hx=>?_
 have I1:Inv X pins σ H { s with heap:=h' }:=I.kept (t' := s.toks) fun b o e=>hx b o (jR (jJ e)) e
 exact h pins _ σ H xs _ Q I1 (by simpa using rv) hw
def akr(to ti:TE)(t:adY):TG:=fun v σ H Q=>to σ H fun o H1=>ti σ H1 fun i H2=>t o i v H2 fun H3=>Q σ H3
theorem aak{o i:Expr}{to ti:TE}{t:adY}(ho:PE X o to)(hi:PE X i ti)(hs:agA X t)(ha:∀ v,assign (.Subscript o i pos) X.env v=(do
   let ov <- holding [v] (eval o X.env)
   let iv <- holding [v,ov] (eval i X.env)
   standAt pos
   holding [v,ov,iv] (setItem ov iv v)
   release [v,ov,iv] []):=by intro _;rfl):PG X (.Subscript o i pos) (akr to ti t):=by
 intro pins s σ H v u Q I r h
 rw[ha]
 refine qd (WB (cD #[77] fun ov s1 ⟨x,H1,I1,r1,q1⟩=>?_))
 refine qd (WB (cD (hi pins s1 σ H1 _ I1 q1) fun iv s2 ⟨y,H2,I2,r2,q2⟩=>?_))
 refine qd (Wg (qd (WB (cD (hs pins s2 σ H2 x y v ov iv u _ I2 r1 r2 r q2) fun _ s3 ⟨H3,I3,q3⟩=>?_))))
 exact wpAny_release ⟨σ,H3,I3,q3⟩
def wV(te:TE)(g:TG):TS:=fun D σ H=>te σ H fun x H1=>g x σ H1 D.nx
theorem As{g:TG}(he:PE X e te)(hg:PG X tg g)(hs:swapsWithSole [tg] e pos.line X.env=pure false:=by rfl)(hw:swappedStores [tg] e X.env=pure none:=by rfl)(h1:(Qp [tg] X.env).map (·.2)=[assign tg X.env]:=by rfl):PS X (.Assign [tg] e pos) (wV te g):=by
 exists 9
 refine wpAny_Assign_stores (cD #[56] fun v s1 ⟨x,H1,I1,r1,q1⟩=>?_) hs hw
 rw[h1]
 exact cD (hg pins s1 σ H1 x v _ I1 r1 q1) fun _ s2 q=>q
theorem aat(hN:X.N.Nodup)(hi:X.N[i]?=some x)(hx:Loc X.env.scope x)(he:PE X e te)(hs:qO e (some (.Name x pos')) pos.line X.env=pure false:=by rfl)(hf:X.fn x=true\/X.env.scope.names.lookup x=some .local:=by first|exact .inl rfl|exact .inr rfl|assumption):
  PS X (.Assign [.Name x pos'] e pos) (wV te (aX i)):=by
 exists 9
 refine wpAny_Assign_Name (cD #[56] fun v s1 ⟨y,H1,I1,r1,q1⟩=>?_) hs
 exact wa I1 hN hi hx r1 (fun s2 I2=>⟨_,H1,I2,q1⟩) hf
end
section
inductive mW (c:TT) (tb:TS) (D:Ends) (σ:St) (H:Hp):Prop
 | mk (W:Nat->St->Hp->Prop) (_:(∃ m,W m σ H)) (_:∀ m σ H,W m σ H->c σ H fun b H1=>if b=true then ∃ N:St->Hp->Prop,(∀ σ' H',N σ' H'->∃ m',m'<m/\W m' σ' H')/\tb { D with nx:=N,ct:=N,bk:=D.nx } σ H1 else D.nx σ H1)
theorem iY(hp:Qi #[5] X.A X.env X.xe)(hc:PT X c tc)(hb:Fe X body tb):PS X (.While c body [] pos) (mW tc tb):=by
 exists 9
 obtain⟨W,⟨m0,w0⟩,turn⟩:=h
 refine wpAny_While (codeAny_whileLoop (fun n s'=>∃ σ' H',Inv X pins σ' H' s'/\W n σ' H') ?_ m0 ⟨σ,H,I,w0⟩)
 rintro n s1 ⟨σ1,H1,I1,w1⟩
 refine WR hp (cD (hc pins s1 σ1 H1 _ I1 (turn n σ1 H1 w1)) fun b s2 ⟨H2,I2,q2⟩=>?_)
 cases b with
 | true =>
  obtain⟨N,hN,q2⟩:=q2
  rw[if_pos rfl]
  refine WR hp (cD (hb pins s2 σ1 H2 _ I2 q2) fun f s3 q3=>?_)
  cases f with
  | next =>
   obtain⟨σ3,H3,I3,n3⟩:=q3
   obtain⟨m',hm,w3⟩:=hN σ3 H3 n3
   exact⟨m',hm,σ3,H3,I3,w3⟩
  | cont =>
   obtain⟨σ3,H3,I3,n3⟩:=q3
   obtain⟨m',hm,w3⟩:=hN σ3 H3 n3
   exact⟨m',hm,σ3,H3,I3,w3⟩
  | brk=>exact q3
  | ret v=>exact q3
 | false =>
  rw[if_neg jV]
  exact qx ⟨σ1,H2,I2,q2⟩
end
structure It where
 go:Nat->Hp->Prop
 yld:Nat->Hp->V->Hp->Prop
 stop:Nat->Hp->Prop
def Af(X:Cx)(pins:List #[41])(H:Hp)(b:QQ):Prop:=
 H b=none/\b≠X.env.locals/\b∉X.fs/\(b∈X.ex\/X.s₀.heap.objs.size<=b)/\(∀ x c,X.env.cells.lookup x=some c->c≠b)/\∀ p∈X.pn++pins,p.1≠b
theorem Inv.C6(I:Inv X pins σ H s)(hb:s.heap.objs.size<=b)(hn:H' b=none):Af X pins H' b:=by
 refine⟨hn,Jt (jW I.lt hb),I.alV hb,.inr (jf I.sz hb),fun x c e z=>?_,fun p hp z=>?_⟩
 ·obtain⟨v,q⟩:=I.cell x c e
  exact absurd (jW q.lt (by rw[z];exact hb)) (JP _)
 ·exact absurd (jW (jJ (I.pin p hp).1) (by rw[z];exact hb)) (JP _)
structure Turn(P:Qj)(w:World)(K:Wl)(tg:Expr)(J:It)(fp:List QQ)(it:QQ)(tn:Nat->Heap->Prop):Prop where
 mem:it∈fp
 obj:∀ i h,tn i h->∀ b∈fp,∃ o,h.get? b=some o/\∀ v,o.data≠.cell v
 keep:∀ i h h',tn i h->(∀ b∈fp,∀ o,h.get? b=some o->h'.get? b=some o)->tn i h'
 item:∀ (X:Cx),X.prog=P->X.w=w->X.K=K->X.calm=true->∀ (i:Nat) (pins:List #[41]) (s:Ql) (σ:St) (H:Hp) (E:Value->Ql->Prop),Inv X pins σ H s->(∀ b∈fp,Af X pins H b)->tn i s.heap->J.go i H ->
  wpAny (model P w) X.A (pyNext #[100]) (fun r s1=>∃ u,r=some u /\
   wpAny (model P w) X.A (letOwnedTupleGo tg #[100] u) (fun _ s2=>∃ x H',Inv X pins σ H' s2/\RelV x u/\J.yld i H x H'/\tn (i+1) s2.heap/\∀ b∈fp,H' b=none) E s1) E s
 done:∀ (X:Cx),X.prog=P->X.w=w->X.K=K->X.calm=true->∀ (i:Nat) (pins:List #[41]) (s:Ql) (σ:St) (H:Hp) (E:Value->Ql->Prop),Inv X pins σ H s->(∀ b∈fp,Af X pins H b)->tn i s.heap->J.stop i H ->
  wpAny (model P w) X.A (pyNext #[100]) (fun r s1=>r=none/\Inv X pins σ H s1) E s
 self:∀ (A:Around) (i:Nat) (s:Ql) (Q:Value->Ql->Prop) (E:Value->Ql->Prop),tn i s.heap->Q #[100] s->wpAny (model P w) A (pyIter #[100]) Q E s
abbrev TI:=St->Hp->(It->Hp->Prop)->Prop
def PIE(X:Cx)(pins:List #[41])(σ:St)(tg:Expr)(R:It->Hp->Prop)(itv:Value)(s2:Ql):Prop:=
 ∃ (it:QQ) (fp:List QQ) (tn:Nat->Heap->Prop) (J:It) (H':Hp),itv=.ref it/\Inv X pins σ H' s2/\Turn X.prog X.w X.K tg J fp it tn/\tn 0 s2.heap/\(∀ b∈fp,Af X pins H' b)/\R J H'
def PI(X:Cx)(tg iter:Expr)(wi:TI):Prop:=
 ∀ (pins:List #[41]) (s:Ql) (σ:St) (H:Hp) (R:It->Hp->Prop),Inv X pins σ H s->wi σ H R ->
  wpAny #[5] X.A (eval iter X.env) (fun v s1=>wpAny #[5] X.A (pyIter v) (PIE X pins σ tg R) X.xe s1) X.xe s
theorem F6{M:Model}{o:Obj}{n:String}{vs:Array Value}{Q:Unit->Ql->Prop}(ho:s.heap.get? it=some o)(hc:o.cls=.type n)(hd:o.data=.fields vs)(hn:["enumerate","zip","dict_itemiterator","dict_reverseitemiterator","odict_iterator","itertools.zip_longest","itertools.pairwise"].contains n=false)(hQ:Q () s):wpAny M A (letOwnedTupleGo tg #[100] u) Q E s:=by
 unfold letOwnedTupleGo
 cases tg<;>first
  | exact WS hQ
  | (cases u<;>first
    | exact WS hQ
    | (refine qd (wpAny_load ho ?_)
       rw[hc,hd]
       show wpAny M A (if (["enumerate","zip","dict_itemiterator","dict_reverseitemiterator","odict_iterator","itertools.zip_longest","itertools.pairwise"].contains n&&vs[0]?==some (rawInt _))=true then _ else _) Q E s
       rw[if_neg (by intro h;rw[hn,ZZ]at h;cases h)]
       exact WS hQ))
def Itl(K:Wl)(a:QQ):It:=
 ⟨fun i H=>∃ xs x,oM K H a xs/\xs[i]?=some x,fun i H x H'=>H'=H/\∀ xs,oM K H a xs->xs[i]?=some x,fun i H=>∃ xs,oM K H a xs/\xs.length<=i⟩
def Itt(K:Wl)(a:QQ):It:=
 ⟨fun i H=>∃ xs x,sQ K H a xs/\xs[i]?=some x,fun i H x H'=>H'=H/\∀ xs,sQ K H a xs->xs[i]?=some x,fun i H=>∃ xs,sQ K H a xs/\xs.length<=i⟩
def Itr(lo:Int)(n:Nat):It:=⟨fun i _=>i<n,fun i H x H'=>H'=H/\x=.int (lo+i),fun i _=>n<=i⟩
theorem Ti(a it:QQ):Turn P w K tg (Itl K a) [it] it (fun i h=>h.IsListIter it a i) where
 mem:=by simp
 obj:=fun i h st b hb=>by
  exists 10
  subst e
  obtain⟨o,e,c,d⟩:=st
  exists 8
 keep:=fun i h h' st k=>st.at fun o e=>k it #[21] o e
 item:=by
  exists 2
  exists 17
  obtain⟨xs,x,hq,hx⟩:=hg
  obtain⟨bz,rv,p,hz⟩:=I.list hq
  obtain⟨u,hu,ru⟩:=rv.get hx
  exists 3
  refine Wa st p.isList (x:=u) (by simpa using hu) fun h' FF sb=>?_
  have I1:Inv X pins σ H { s with heap:=h' }:=I.turned (t' := s.toks) (fun b o hb e=>(sb.2 b hb).trans e) f0 f1 f3 f4 f5
  obtain⟨o,e,c,d⟩:=id FF
  exact⟨u,rfl,F6 (s:={ s with heap:=h' }) e c d #[7] ⟨x,H,I1,ru,⟨rfl,fun ys hy=>by rw[I.Et hy hq];exact hx⟩,FF,fun b hb=>(hf b hb).1⟩⟩
 done:=by
  exists 2
  exists 17
  obtain⟨xs,hq,hx⟩:=hg
  obtain⟨bz,rv,p,hz⟩:=I.list hq
  exists 3
  have hl:=rv.length
  exact WZ #[85] st p.isList (by simp;omega) fun h' eb=>⟨rfl,I.turned (t' := s.toks) #[70] f0 f1 f3 f4 f5⟩
 self:=fun _ _ _ _ _ st h=>wpAny_pyIter_listiter st h
theorem Pu(a it:QQ):Turn P w K tg (Itt K a) [it] it (fun i h=>h.IsTupleIter it a i) where
 mem:=by simp
 obj:=fun i h st b hb=>by
  exists 10
  subst e
  obtain⟨o,e,c,d⟩:=st
  exists 8
 keep:=fun i h h' st k=>st.at fun o e=>k it #[21] o e
 item:=by
  exists 2
  exists 17
  obtain⟨xs,x,hq,hx⟩:=hg
  obtain⟨bz,rv,p,hz⟩:=I.tuple hq
  obtain⟨u,hu,ru⟩:=rv.get hx
  exists 3
  refine wpAny_pyNext_tuple_item st (show s.heap.IsTuple a bz.toArray from p) (x:=u) (by simpa using hu) fun h' FF sb=>?_
  have I1:Inv X pins σ H { s with heap:=h' }:=I.turned (t' := s.toks) (fun b o hb e=>(sb.2 b hb).trans e) f0 f1 f3 f4 f5
  obtain⟨o,e,c,d⟩:=id FF
  exact⟨u,rfl,F6 (s:={ s with heap:=h' }) e c d #[7] ⟨x,H,I1,ru,⟨rfl,fun ys hy=>by rw[I.Hv hy hq];exact hx⟩,FF,fun b hb=>(hf b hb).1⟩⟩
 done:=by
  exists 2
  exists 17
  obtain⟨xs,hq,hx⟩:=hg
  obtain⟨bz,rv,p,hz⟩:=I.tuple hq
  exists 3
  have hl:=rv.length
  exact wpAny_pyNext_tuple_end #[85] st (show s.heap.IsTuple a bz.toArray from p) (by simp;omega) fun h' eb=>⟨rfl,I.turned (t' := s.toks) #[70] f0 f1 f3 f4 f5⟩
 self:=fun _ _ _ _ _ st h=>wpAny_pyIter_tupleiter st h
theorem Pt(it:QQ)(lo:Int)(n:Nat):Turn P w K tg (Itr lo n) [it] it (fun i h=>IsRangeIter h it (lo+(i:Nat)*1) ((n:Int)-(i:Nat)) 1) where
 mem:=by simp
 obj:=fun i h st b hb=>by
  exists 10
  subst e
  exact⟨_,st,fun v z=>by
   have z':Data.fields _=Data.cell v:=z
   cases z'⟩
 keep:=fun i h h' st k=>k it #[21] _ st
 item:=by
  exists 2
  exists 17
  exists 3
  have W:=Walks.range (prog:=X.prog) (w:=X.w) #[85] it lo 1 n
  refine W.item i s _ _ hg st fun v h' tk hv FF kk=>?_
  obtain⟨t,rfl⟩:=hv
  have I1:Inv X pins σ H { s with heap:=h',toks:=tk }:=I.turned (fun b o hb e=>kk b o (by simpa using hb) e) f0 f1 f3 f4 f5
  refine⟨_,rfl,F6 (s:={ s with heap:=h',toks:=tk }) (n := "range_iterator") FF rfl rfl #[7] ⟨.int (lo+i),H,I1,⟨t,?_⟩,⟨rfl,rfl⟩,FF,fun b hb=>(hf b hb).1⟩⟩
  rw[Zr]
 done:=by
  exists 2
  exists 17
  exists 3
  exact wpAny_pyNext_range_end #[85] st (by have:n<=i:=hg;omega) fun h' eb=>⟨rfl,I.turned (t' := s.toks) #[70] f0 f1 f3 f4 f5⟩
 self:=fun _ _ _ _ _ st h=>wpAny_pyIter_rangeiter st h
variable{wi:TI}
section
def ahN(K:Wl)(tl:TE):TI:=fun σ H R=>tl σ H fun x H1=>∃ a,x=.ref a/\(∃ xs,oM K H1 a xs)/\R (Itl K a) H1
def alq(K:Wl)(tl:TE):TI:=fun σ H R=>tl σ H fun x H1=>∃ a,x=.ref a/\(∃ xs,sQ K H1 a xs)/\R (Itt K a) H1
theorem df(hl:PE X l tl):PI X tg l (ahN X.K tl):=by
 exists 14
 refine cD (hl pins s σ H _ I h) fun v s1 ⟨x,H1,I1,r1,q1⟩=>?_
 obtain⟨a,e,⟨xs,hq⟩,q⟩:=q1
 subst e
 cases r1
 obtain⟨bz,rv,p,hz⟩:=I1.list hq
 refine WU p.isList ?_
 refine⟨s1.heap.objs.size,[s1.heap.objs.size],_,_,H1,rfl,I1.kept (t' := s1.toks) fun b o e=>jC _ e,Ti a _,⟨_,jL _ rfl,rfl,rfl⟩,fun b hb=>?_,q⟩
 have e:b=s1.heap.objs.size:=by simpa using hb
 subst e
 exact I1.C6 (jE _) (I1.hok.fresh (jE _))
theorem rW(hl:PE X l tl):PI X tg l (alq X.K tl):=by
 exists 14
 refine cD (hl pins s σ H _ I h) fun v s1 ⟨x,H1,I1,r1,q1⟩=>?_
 obtain⟨a,e,⟨xs,hq⟩,q⟩:=q1
 subst e
 cases r1
 obtain⟨bz,rv,p,hz⟩:=I1.tuple hq
 refine WX (show s1.heap.IsTuple a bz.toArray from p) ?_
 refine⟨s1.heap.objs.size,[s1.heap.objs.size],_,_,H1,rfl,I1.kept (t' := s1.toks) fun b o e=>jC _ e,Pu a _,⟨_,jL _ rfl,rfl,rfl⟩,fun b hb=>?_,q⟩
 have e:b=s1.heap.objs.size:=by simpa using hb
 subst e
 exact I1.C6 (jE _) (I1.hok.fresh (jE _))
theorem Mo{R:It->Hp->Prop}{hi:Int}{t u v:Tok}{tk:Nat}(I:Inv X pins σ H s)(h1 : -(2^62)<=lo)(h2:lo<2^62)(h3 : -(2^62)<=hi)(h4:hi<2^62)(q:R (Itr lo (hi-lo).toNat) H):wpAny #[5] X.A (pyIter #[51]) (PIE X pins σ tg R) E { s with heap:=s.heap.push { cls:=.type "range",data:=.fields #[.int lo t,.int hi u,.int 1 v] },toks:=tk }:=by
 refine wpAny_pyIter_range (IsRange.new ..) (small_one h1 h2 h3 h4) ?_
 have I1:Inv X pins σ H { s with heap:=s.heap.push { cls:=.type "range",data:=.fields #[.int lo t,.int hi u,.int 1 v] },toks:=tk }:=I.kept fun b o e=>jC _ e
 refine⟨(s.heap.push { cls:=.type "range",data:=.fields #[.int lo t,.int hi u,.int 1 v] }).objs.size,[(s.heap.push { cls:=.type "range",data:=.fields #[.int lo t,.int hi u,.int 1 v] }).objs.size],_,_,H,rfl,
  I1.kept (t' := tk) fun b o e=>jC _ e,Pt _ lo (hi-lo).toNat,?_,fun b hb=>?_,q⟩
 ·have e1:lo+((0:Nat):Int)*1=lo:=by simp
  have e2:(((hi-lo).toNat:Nat):Int)-((0:Nat):Int)=xK lo hi 1:=by rw[rangeSize_one];split<;>omega
  show IsRangeIter _ _ (lo+((0:Nat):Int)*1) ((((hi-lo).toNat:Nat):Int)-((0:Nat):Int)) 1
  rw[e1,e2]
  exact jL _ rfl
 ·have e:b=(s.heap.push { cls:=.type "range",data:=.fields #[.int lo t,.int hi u,.int 1 v] }).objs.size:=by simpa using hb
  subst e
  exact I1.C6 (jE _) (I1.hok.fresh (jE _))
def ahO(ta:TA):TI:=fun σ H R=>ta σ H fun vs H1=>∃ j:Int,vs=[.int j]/\-(2^62)<=j/\j<2^62/\R (Itr 0 j.toNat) H1
def ahP(ta:TA):TI:=fun σ H R=>ta σ H fun vs H1=>∃ i j:Int,vs=[.int i,.int j]/\(-(2^62)<=i/\i<2^62/\-(2^62)<=j/\j<2^62)/\R (Itr i (j-i).toNat) H1
theorem bG{a:Expr}{ta:TA}(hg:Gl X "range")(hm:X.mg "range" = none)(ha:PA X [a] ta)(hs:qM [a] X.env=[(false,eval a X.env)]:=by rfl):PI X tg (.Call (.Name "range" p) [a] [] pos) (ahO ta):=by
 exists 14
 refine QU (pH I hg hm Qs (Wv (cD #[42] fun us s1 ⟨vs,H1,I1,r1,q1⟩=>?_) hs rfl))
 obtain⟨j,e,q1,q2,q⟩:=q1
 subst e
 cases r1 with
 | cons r rr =>
  cases rr
  obtain⟨t,rfl⟩:=r
  exact call_range_1 (Mo I1 #[0] #[0] q1 q2 (by simpa using q))
theorem SR{a b:Expr}{ta:TA}(hg:Gl X "range")(hm:X.mg "range" = none)(ha:PA X [a,b] ta)(hs:qM [a,b] X.env=[(false,eval a X.env),(false,eval b X.env)]:=by rfl)(hs2:qM [b] X.env=[(false,eval b X.env)]:=by rfl):
  PI X tg (.Call (.Name "range" p) [a,b] [] pos) (ahP ta):=by
 exists 14
 refine QU (pH I hg hm Qs (Wv (cD #[42] fun us s1 ⟨vs,H1,I1,r1,q1⟩=>?_) (by rw[hs,hs2]) (by rw[hs2];rfl)))
 obtain⟨i,j,e,⟨q1,q2,q3,q4⟩,q⟩:=q1
 subst e
 cases r1 with
 | cons r rr =>
  cases rr with
  | cons r' rr =>
   cases rr
   obtain⟨t,rfl⟩:=r
   obtain⟨t',rfl⟩:=r'
   exact call_range_2 (Mo I1 q1 q2 q3 q4 q)
def sU(wi:TI)(g:TG)(tb:TS):TS:=fun D σ H=>wi σ H fun J H1=>∃ W:Nat->Nat->St->Hp->Prop,(∃ m,W 0 m σ H1)/\∀ i m σ H,W i m σ H ->
 (J.stop i H/\D.nx σ H)\/(J.go i H/\∃ N:St->Hp->Prop,#[19]/\∀ x H',J.yld i H x H'->g x σ H' fun σ2 H2=>tb { D with nx:=N,ct:=N,bk:=D.nx } σ2 H2)
def Iu(fp:List QQ)(h:Heap):List #[41]:=fp.filterMap fun b=>(h.get? b).map fun o=>(b,o)
theorem rT{o:Obj}(hb:b∈fp)(e:h.get? b=some o):(b,o)∈Iu fp h:=zL.mpr ⟨b,hb,by rw[e];rfl⟩
theorem Sr{p:QQ×Obj}(hp:p∈Iu fp h):p.1∈fp/\h.get? p.1=some p.2:=by
 obtain⟨b,hb,e⟩:=zL.mp hp
 cases q:h.get? b with
 | none=>rw[q]at e;cases e
 | some o =>
  rw[q]at e
  have e':(b,o)=p:=Option.some.inj e
  subst e'
  exact⟨hb,q⟩
theorem Inv.pinned(I:Inv X pins σ H s)(hf:∀ b∈fp,Af X pins H b)(ho:∀ b∈fp,∃ o,s.heap.get? b=some o/\∀ v,o.data≠.cell v):Inv X (pins++Iu fp s.heap) σ H s:=
 I.Rb fun p hp=>(zJ.mp hp).elim (fun z=>I.pin p (jZ _ z)) fun z=>by
  obtain⟨hb,e⟩:=Sr z
  obtain⟨f0,f1,f2,_⟩:=hf p.1 hb
  obtain⟨o,e',d⟩:=ho p.1 hb
  rw[e]at e';cases e'
  exact⟨e,f0,f1,f2,d⟩
theorem Inv.BH(I:Inv X (pins++pl) σ H s):Inv X pins σ H s:=I.Rb fun p hp=>I.pin p (jZ _ (jn _ hp))
theorem bI{g:TG}(hp:Qi #[5] X.A X.env X.xe)(hc:X.calm=true)(hi:PI X tg iter wi)(hg:PG X tg g)(hb:Fe X body tb)(hs:∀ x,foldedSetIterable iter X.env x=pure x:=by intro _;rfl):PS X (.For tg iter body [] pos) (sU wi g tb):=by
 exists 9
 refine wpAny_For (cD (hi pins s σ H _ I h) fun v s1 h1=>cD h1 fun itv s2 h2=>?_) hs
 obtain⟨it,fp,tn,J,H2,e,I2,T,S8,f2,W,⟨m0,w0⟩,turn⟩:=h2
 subst e
 have Pk:∀ {H':Hp},(∀ b∈fp,H' b=none)->∀ b∈fp,Af X pins H' b:=fun hn b hb=>⟨hn b hb,(f2 b hb).2⟩
 refine codeAny_forLoop_any (fun n s'=>∃ i σ' H',Inv X pins σ' H' s'/\tn i s'.heap/\(∀ b∈fp,H' b=none)/\W i n σ' H') ?_ m0 ⟨0,σ,H2,I2,S8,fun b hb=>(f2 b hb).1,w0⟩
 rintro n s3 ⟨i,σ3,H3,I3,st3,fr3,w3⟩
 rcases turn i n σ3 H3 w3 with⟨stop,qn⟩|⟨go,N,hN,step⟩
 ·refine WR hp (cD (T.done X rfl rfl rfl hc i pins s3 σ3 H3 X.xe I3 (Pk fr3) st3 stop) fun r s4 ⟨hr,I4⟩=>?_)
  subst hr
  exact qx ⟨σ3,H3,I4,qn⟩
 ·refine WR hp (cD (T.item X rfl rfl rfl hc i pins s3 σ3 H3 X.xe I3 (Pk fr3) st3 go) fun r s4 ⟨u,hr,h4⟩=>?_)
  subst hr
  refine WR hp (cD h4 fun _ s5 ⟨x,H5,I5,r5,y5,st5,fr5⟩=>?_)
  have I5' := I5.pinned (Pk fr5) (T.obj _ _ st5)
  refine WR hp (cD (hg _ s5 σ3 H5 x u _ I5' r5 (step x H5 y5)) fun _ s6 ⟨σ6,H6,I6,q6⟩=>?_)
  refine WR hp (cD (hb _ s6 σ6 H6 _ I6 q6) fun f s7 q7=>?_)
  have again:∀ {σ7:St} {H7:Hp},Inv X (pins++Iu fp s5.heap) σ7 H7 s7->N σ7 H7->∃ m,m<n/\∃ i σ' H',Inv X pins σ' H' s7/\tn i s7.heap/\(∀ b∈fp,H' b=none)/\W i m σ' H' := fun {σ7 H7} I7 n7=>by
   obtain⟨m',hm,w7⟩:=hN σ7 H7 n7
   refine⟨m',hm,i+1,σ7,H7,I7.BH,T.keep _ _ _ st5 fun b hb o e=>(I7.pin (b,o) (jZ _ (jZ _ (rT hb e)))).1,fun b hb=>?_,w7⟩
   obtain⟨o,e,d⟩:=T.obj _ _ st5 b hb
   exact(I7.pin (b,o) (jZ _ (jZ _ (rT hb e)))).2.1
  cases f with
  | next=>obtain⟨σ7,H7,I7,n7⟩:=q7;exact again I7 n7
  | cont=>obtain⟨σ7,H7,I7,n7⟩:=q7;exact again I7 n7
  | brk=>obtain⟨σ7,H7,I7,q7⟩:=q7;exact⟨σ7,H7,I7.BH,q7⟩
  | ret v=>obtain⟨x7,σ7,H7,I7,r7,q7⟩:=q7;exact⟨x7,σ7,H7,I7.BH,r7,q7⟩
end
theorem eS{g:TG}(Pv:Nat->St->Hp->Prop)(h0:Pv 0 σ H)(hl:∀ i σ H,i<=xs.length->Pv i σ H->oM K H a xs)(hs:∀ i x σ H,xs[i]?=some x->Pv i σ H->g x σ H fun σ2 H2=>tb { D with nx:=Pv (i+1),ct:=Pv (i+1),bk:=D.nx } σ2 H2)(hd:∀ σ H,Pv xs.length σ H->D.nx σ H):
  ∃ W:Nat->Nat->St->Hp->Prop,(∃ m,W 0 m σ H)/\∀ i m σ H,W i m σ H ->
   ((Itl K a).stop i H/\D.nx σ H)\/((Itl K a).go i H/\∃ N:St->Hp->Prop,#[19]/\∀ x H',(Itl K a).yld i H x H'->g x σ H' fun σ2 H2=>tb { D with nx:=N,ct:=N,bk:=D.nx } σ2 H2):=by
 refine⟨fun i m σ H=>m=xs.length-i/\i<=xs.length/\Pv i σ H,⟨xs.length,by simp,je _,h0⟩,?_⟩
 rintro i m σ H ⟨rfl,hi,p⟩
 have q:=hl i σ H hi p
 by_cases fM:i<xs.length
 ·refine .inr ⟨⟨xs,xs[i],q,by simp[fM]⟩,Pv (i+1),fun σ' H' p'=>⟨xs.length-(i+1),by omega,rfl,fM,p'⟩,fun x H' y=>?_⟩
  obtain⟨e,y⟩:=y
  subst e
  exact hs i x σ _ (y xs q) p
 ·have e:i=xs.length:=by omega
  subst e
  exact .inl ⟨⟨xs,q,jE _⟩,hd σ H p⟩
theorem AX{g:TG}(Pv:Nat->St->Hp->Prop)(h0:Pv 0 σ H)(hl:∀ i σ H,i<=xs.length->Pv i σ H->sQ K H a xs)(hs:∀ i x σ H,xs[i]?=some x->Pv i σ H->g x σ H fun σ2 H2=>tb { D with nx:=Pv (i+1),ct:=Pv (i+1),bk:=D.nx } σ2 H2)(hd:∀ σ H,Pv xs.length σ H->D.nx σ H):
  ∃ W:Nat->Nat->St->Hp->Prop,(∃ m,W 0 m σ H)/\∀ i m σ H,W i m σ H ->
   ((Itt K a).stop i H/\D.nx σ H)\/((Itt K a).go i H/\∃ N:St->Hp->Prop,#[19]/\∀ x H',(Itt K a).yld i H x H'->g x σ H' fun σ2 H2=>tb { D with nx:=N,ct:=N,bk:=D.nx } σ2 H2):=by
 refine⟨fun i m σ H=>m=xs.length-i/\i<=xs.length/\Pv i σ H,⟨xs.length,by simp,je _,h0⟩,?_⟩
 rintro i m σ H ⟨rfl,hi,p⟩
 have q:=hl i σ H hi p
 by_cases fM:i<xs.length
 ·refine .inr ⟨⟨xs,xs[i],q,by simp[fM]⟩,Pv (i+1),fun σ' H' p'=>⟨xs.length-(i+1),by omega,rfl,fM,p'⟩,fun x H' y=>?_⟩
  obtain⟨e,y⟩:=y
  subst e
  exact hs i x σ _ (y xs q) p
 ·have e:i=xs.length:=by omega
  subst e
  exact .inl ⟨⟨xs,q,jE _⟩,hd σ H p⟩
theorem cH{g:TG}(Pv:Nat->St->Hp->Prop)(h0:Pv 0 σ H)(hs:∀ i σ H,i<n->Pv i σ H->g (.int (lo+i)) σ H fun σ2 H2=>tb { D with nx:=Pv (i+1),ct:=Pv (i+1),bk:=D.nx } σ2 H2)(hd:∀ σ H,Pv n σ H->D.nx σ H):
  ∃ W:Nat->Nat->St->Hp->Prop,(∃ m,W 0 m σ H)/\∀ i m σ H,W i m σ H ->
   ((Itr lo n).stop i H/\D.nx σ H)\/((Itr lo n).go i H/\∃ N:St->Hp->Prop,#[19]/\∀ x H',(Itr lo n).yld i H x H'->g x σ H' fun σ2 H2=>tb { D with nx:=N,ct:=N,bk:=D.nx } σ2 H2):=by
 refine⟨fun i m σ H=>m=n-i/\i<=n/\Pv i σ H,⟨n,by simp,je _,h0⟩,?_⟩
 rintro i m σ H ⟨rfl,hi,p⟩
 by_cases fM:i<n
 ·refine .inr ⟨fM,Pv (i+1),fun σ' H' p'=>⟨n-(i+1),by omega,rfl,fM,p'⟩,fun x H' y=>?_⟩
  obtain⟨e,y⟩:=y
  subst e y
  exact hs i σ _ fM p
 ·have e:i=n:=by omega
  subst e
  exact .inl ⟨jE _,hd σ H p⟩
abbrev R2:=V->V->Hp->VK->Prop
def BS(X:Cx)(f:Value->Value->Qk Value)(r:R2):Prop:=
 ∀ (pins:List #[41]) (s:Ql) (σ:St) (H:Hp) (x y:V) (v u:Value) (Q:VK),Inv X pins σ H s->RelV x v->RelV y u->r x y H Q ->
  wpAny #[5] X.A (f v u) #[54] X.xe s
def UnR(X:Cx)(f:Value->Qk Value)(r:V->Hp->VK->Prop):Prop:=
 ∀ (pins:List #[41]) (s:Ql) (σ:St) (H:Hp) (x:V) (v:Value) (Q:VK),Inv X pins σ H s->RelV x v->r x H Q ->
  wpAny #[5] X.A (f v) #[54] X.xe s
def lH(X:Cx)(f:Value)(r:List V->Hp->VK->Prop):Prop:=
 ∀ (pins:List #[41]) (s:Ql) (σ:St) (H:Hp) (xs:List V) (us:List Value) (Q:VK),Inv X pins σ H s->Vals xs us->r xs H Q ->
  wpAny #[5] X.A (call f us) #[54] X.xe s
def aj0(X:Cx)(r:V->Hp->(Bool->Hp->Prop)->Prop):Prop:=
 ∀ (pins:List #[41]) (s:Ql) (σ:St) (H:Hp) (x:V) (v:Value) (Q:Bool->Hp->Prop),Inv X pins σ H s->RelV x v->r x H Q ->
  wpAny #[5] X.A (truthy v) (TP X pins σ Q) X.xe s
def tOp(r:R2)(ta tb:TE):TE:=fun σ H Q=>ta σ H fun x H1=>tb σ H1 fun y H2=>r x y H2 Q
def tUn(r:V->Hp->VK->Prop)(ta:TE):TE:=fun σ H Q=>ta σ H fun x H1=>r x H1 Q
inductive rI (C:Int->Int->Prop) (g:Int->Int->V) (x:V) (y:V) (H:Hp) (Q:VK):Prop
 | mk (i:_) (j:_) (_:x=.int i) (_:y=.int j) (_:C i j) (_:Q (g i j) H)
inductive rI0 (g:Int->Int->V) (x:V) (y:V) (H:Hp) (Q:VK):Prop
 | mk (i:_) (j:_) (_:x=.int i) (_:y=.int j) (_:Q (g i j) H)
inductive rU (g:Int->V) (x:V) (H:Hp) (Q:VK):Prop
 | mk (i:_) (_:x=.int i) (_:Q (g i) H)
section
variable{a b:Expr}{tb:TE}
theorem ad3(ha:PE X a ta)(hb:PE X b tb){R:V->V->Hp->Prop}(I:Inv X pins σ H s)(h:ta σ H fun x H1=>tb σ H1 fun y H2=>R x y H2){f:Value->Value->Qk Value}(hf:∀ v u s2 x y H2,Inv X pins σ H2 s2->RelV x v->RelV y u->R x y H2->wpAny #[5] X.A (f v u) Q X.xe s2):
  wpAny #[5] X.A (eval a X.env) (fun v s₁=>wpAny #[5] X.A (eval b X.env) (fun u s₂=>wpAny #[5] X.A (f v u) Q X.xe s₂) X.xe s₁) X.xe s:=by
 refine cD #[67] fun v s1 ⟨x,H1,I1,r1,q1⟩=>?_
 refine cD (hb pins s1 σ H1 _ I1 q1) fun u s2 ⟨y,H2,I2,r2,q2⟩=>?_
 exact hf v u s2 x y H2 I2 r1 r2 q2
theorem aC{op:Operator}{r:R2}(ho:BS X (binaryOp op) r)(ha:PE X a ta)(hb:PE X b tb):PE X (.BinOp a op b pos) (tOp r ta tb):=by
 exists 4
 exact wpAny_BinOp (ad3 ha hb I h fun v u s2 x y H2 I2 rx ry q=>ho pins s2 σ H2 x y v u Q I2 rx ry q)
theorem aid{op:UnaryOp}{r:V->Hp->VK->Prop}(ho:UnR X (unaryOp op) r)(ha:PE X a ta):PE X (.UnaryOp op a pos) (tUn r ta):=by
 exists 4
 exact UnaryOp_ (cD #[67] fun v s1 ⟨x,H1,I1,r1,q1⟩=>ho pins s1 σ H1 x v Q I1 r1 q1)
theorem opI{f:Value->Value->Qk Value}{C:Int->Int->Prop}{g:Int->Int->Int}(rule:∀ (i j:Int) (t u:Tok) (s:Ql) (Q:Value->Ql->Prop) (E:Value->Ql->Prop),C i j->Q (.int (g i j) s.toks) { s with toks:=s.toks+1 }->wpAny #[5] X.A (f (.int i t) (.int j u)) Q E s):
  BS X f (rI C fun i j=>.int (g i j)):=by
 exists 7
 obtain⟨i,j,rfl,rfl,hc,q⟩:=h
 exists 12
 obtain⟨t',rfl⟩:=ry
 exact rule i j t t' s _ _ hc ⟨.int (g i j),H,I.tok _,⟨_,rfl⟩,q⟩
theorem aib{f:Value->Value->Qk Value}{g:Int->Int->Int}(rule:∀ (i j:Int) (t u:Tok) (s:Ql) (Q:Value->Ql->Prop) (E:Value->Ql->Prop),Q (.int (g i j) s.toks) { s with toks:=s.toks+1 }->wpAny #[5] X.A (f (.int i t) (.int j u)) Q E s):
  BS X f (rI0 fun i j=>.int (g i j)):=by
 exists 7
 obtain⟨i,j,rfl,rfl,q⟩:=h
 exists 12
 obtain⟨t',rfl⟩:=ry
 exact rule i j t t' s _ _ ⟨.int (g i j),H,I.tok _,⟨_,rfl⟩,q⟩
theorem acu{f:Value->Value->Qk Value}{g:Int->Int->Bool}(rule:∀ (i j:Int) (t u:Tok) (s:Ql) (Q:Value->Ql->Prop) (E:Value->Ql->Prop),Q (.bool (g i j)) s->wpAny #[5] X.A (f (.int i t) (.int j u)) Q E s):
  BS X f (rI0 fun i j=>.bl (g i j)):=by
 exists 7
 obtain⟨i,j,rfl,rfl,q⟩:=h
 exists 12
 obtain⟨t',rfl⟩:=ry
 exact rule i j t t' s _ _ ⟨.bl (g i j),H,I,rfl,q⟩
def ajO(i j:Int):Prop:=0<j/\j<1073741824
def ajP(i j:Int):Prop:=0<=j/\j<=1000000/\i.natAbs<2^64
def adO(i j:Int):Prop:=(-(2^64)<i/\i<2^64)\/(-(2^64)<j/\j<2^64)
theorem adO.ok{i j:Int}(h:adO i j):IntMulOk i j:=by
 rcases h with⟨h1,h2⟩|⟨h1,h2⟩
 ·exact .of_left (intBits_le_64 h1 h2)
 ·exact .of_right (intBits_le_64 h1 h2)
theorem bu:BS X (binaryOp .Add) (rI0 fun i j=>.int (i+j)):=aib fun _ _ _ _ _ _ _ q=>add_int q
theorem EC:BS X (binaryOp .Sub) (rI0 fun i j=>.int (i-j)):=aib fun _ _ _ _ _ _ _ q=>sub_int q
theorem eJ:BS X (binaryOp .Mult) (rI adO fun i j=>.int (i*j)):=opI fun _ _ _ _ _ _ _ hc q=>mul_int q hc.ok
theorem Io:BS X (binaryOp .FloorDiv) (rI ajO fun i j=>.int (i / j)):=opI fun i j _ _ _ _ _ hc q=>by
 have h1:(0:Int)<j:=hc.1
 have h2:j<1073741824:=hc.2
 exact floordiv_int #[0] (by rw[zE i #[0]];exact q) (.inl (PyProof.noPylong_small #[0]))
theorem bR:BS X (binaryOp .Mod) (rI (fun _ j=>0<j) fun i j=>.int (i%j)):=opI fun i j _ _ _ _ _ hc q=>by
 have h1:(0:Int)<j:=hc
 exact mod_int' #[0] (by rw[ZI i #[0]];exact q)
theorem O2:BS X (binaryOp .Pow) (rI ajP fun i j=>.int (i^j.toNat)):=opI fun _ _ _ _ _ _ _ hc q=>pow_int_small hc.1 hc.2.1 hc.2.2 q
theorem unI{f:Value->Qk Value}{g:Int->Int}(rule:∀ (i:Int) (t:Tok) (s:Ql) (Q:Value->Ql->Prop) (E:Value->Ql->Prop),Q (.int (g i) s.toks) { s with toks:=s.toks+1 }->wpAny #[5] X.A (f (.int i t)) Q E s):
  UnR X f (rU fun i=>.int (g i)):=by
 intro pins s σ H x v Q I rx h
 obtain⟨i,rfl,q⟩:=h
 exists 12
 exact rule i t s _ _ ⟨.int (g i),H,I.tok _,⟨_,rfl⟩,q⟩
theorem afF:UnR X (unaryOp .USub) (rU fun i=>.int (-i)):=unI fun _ _ _ _ _ q=>neg_int q
end
def aip:V->V->Bool
 | .non,.non=>true|.non,.int _=>true|.int _,.non=>true|.non,.bl _=>true|.bl _,.non=>true|.non,.str _=>true|.str _,.non=>true
 | .int _,.int _=>true|.bl _,.bl _=>true|.str _,.str _=>true|.PN _,.PN _=>true
 | .int _,.str _=>true|.str _,.int _=>true|.bl _,.str _=>true|.str _,.bl _=>true
 | _,_=>false
structure rEq(x:V)(y:V)(H:Hp)(Q:VK):Prop where
 h0:aip x y=true
 h1:Q (.bl (decide (x=y))) H
structure rNe(x:V)(y:V)(H:Hp)(Q:VK):Prop where
 h0:aip x y=true
 h1:Q (.bl (!decide (x=y))) H
theorem PV{i j:Int}:decide (V.int i=V.int j)=(i==j):=by
 rw[zk]
 simp
theorem TQ{i j:Bool}:decide (V.bl i=V.bl j)=(i==j):=by
 rw[zk]
 simp
theorem PY{i j:Qm}:decide (V.str i=V.str j)=(i==j):=by
 rw[zk]
 simp
theorem PU{i j:Array UInt8}:decide (V.PN i=V.PN j)=(i.toList==j.toList):=by
 rw[zk]
 cases i
 cases j
 simp
section
variable{a b:Expr}{tb:TE}
theorem cn{Q:VK}{k k':Bool}(I:Inv X pins σ H s)(q:Q (.bl k) H)(e:k=k'):EP X pins σ Q (.bool k') s:=by
 subst e
 exact⟨.bl k,H,I,rfl,q⟩
theorem dE:BS X (qB .Eq) rEq:=by
 exists 7
 obtain⟨hs,q⟩:=h
 cases x with
 | non =>
  cases rx
  cases y with
  | non=>cases ry;exact Xi #[43]
  | bl j=>cases ry;exact Xj #[43]
  | int j=>obtain⟨t',rfl⟩:=ry;exact Xw #[43]
  | str j=>obtain⟨t',rfl⟩:=ry;exact Xx #[43]
  | _=>exact absurd (show false=true from hs) jV
 | bl i =>
  cases rx
  cases y with
  | non=>cases ry;exact Xk #[43]
  | bl j=>cases ry;exact eq_bool (cn I q TQ)
  | str j=>obtain⟨t',rfl⟩:=ry;exact Xl #[43]
  | _=>exact absurd (show false=true from hs) jV
 | int i =>
  exists 12
  cases y with
  | non=>cases ry;exact Xy #[43]
  | int j=>obtain⟨t',rfl⟩:=ry;exact eq_int (cn I q PV)
  | str j=>obtain⟨t',rfl⟩:=ry;exact Xz #[43]
  | _=>exact absurd (show false=true from hs) jV
 | str i =>
  exists 12
  cases y with
  | non=>cases ry;exact xA #[43]
  | bl j=>cases ry;exact Xm #[43]
  | int j=>obtain⟨t',rfl⟩:=ry;exact xB #[43]
  | str j=>obtain⟨t',rfl⟩:=ry;exact eq_str (cn I q PY)
  | _=>exact absurd (show false=true from hs) jV
 | PN i =>
  exists 12
  cases y with
  | PN j=>obtain⟨t',rfl⟩:=ry;exact PySem.W.eq_bytes (cn I q PU)
  | _=>exact absurd (show false=true from hs) jV
 | _=>cases y<;>exact absurd (show false=true from hs) jV
theorem CJ:BS X (qB .NotEq) rNe:=by
 exists 7
 obtain⟨hs,q⟩:=h
 cases x with
 | non =>
  cases rx
  cases y with
  | non=>cases ry;exact Xn #[43]
  | bl j=>cases ry;exact Xo #[43]
  | int j=>obtain⟨t',rfl⟩:=ry;exact xC #[43]
  | str j=>obtain⟨t',rfl⟩:=ry;exact xD #[43]
  | _=>exact absurd (show false=true from hs) jV
 | bl i =>
  cases rx
  cases y with
  | non=>cases ry;exact Xp #[43]
  | bl j=>cases ry;exact ne_bool (cn I q (congrArg not TQ))
  | str j=>obtain⟨t',rfl⟩:=ry;exact Xq #[43]
  | _=>exact absurd (show false=true from hs) jV
 | int i =>
  exists 12
  cases y with
  | non=>cases ry;exact xE #[43]
  | int j=>obtain⟨t',rfl⟩:=ry;exact ne_int (cn I q (congrArg not PV))
  | str j=>obtain⟨t',rfl⟩:=ry;exact xF #[43]
  | _=>exact absurd (show false=true from hs) jV
 | str i =>
  exists 12
  cases y with
  | non=>cases ry;exact xG #[43]
  | bl j=>cases ry;exact Xr #[43]
  | int j=>obtain⟨t',rfl⟩:=ry;exact xH #[43]
  | str j=>obtain⟨t',rfl⟩:=ry;exact ne_str (cn I q (congrArg not PY))
  | _=>exact absurd (show false=true from hs) jV
 | PN i =>
  exists 12
  cases y with
  | PN j=>obtain⟨t',rfl⟩:=ry;exact PySem.W.ne_bytes (cn I q (congrArg not PU))
  | _=>exact absurd (show false=true from hs) jV
 | _=>cases y<;>exact absurd (show false=true from hs) jV
theorem Ac:BS X (qB .Lt) (rI0 fun i j=>.bl (decide (i<j))):=acu fun _ _ _ _ _ _ _ q=>lt_int q
theorem aaa:BS X (qB .LtE) (rI0 fun i j=>.bl (decide (i<=j))):=acu fun _ _ _ _ _ _ _ q=>le_int q
theorem Q8:BS X (qB .Gt) (rI0 fun i j=>.bl (decide (j<i))):=acu fun _ _ _ _ _ _ _ q=>gt_int q
theorem L8:BS X (qB .GtE) (rI0 fun i j=>.bl (decide (j<=i))):=acu fun _ _ _ _ _ _ _ q=>ge_int q
structure Z9(x:V)(y:V)(H:Hp)(Q:VK):Prop where
 h0:y=.non
 h1:Q (.bl (decide (x=.non))) H
theorem OZ:BS X (qB .Is) (Z9):=by
 exists 7
 obtain⟨rfl,q⟩:=h
 cases ry
 refine is_none_gen (cn I q ?_)
 cases x<;>first
  | (cases rx;rfl)
  | (obtain⟨t,rfl⟩:=rx;rfl)
structure SM(x:V)(y:V)(H:Hp)(Q:VK):Prop where
 h0:y=.non
 h1:Q (.bl (!decide (x=.non))) H
theorem acv:BS X (qB .IsNot) (SM):=by
 exists 7
 obtain⟨rfl,q⟩:=h
 cases ry
 refine isnot_none_gen (cn I q ?_)
 cases x<;>first
  | (cases rx;rfl)
  | (obtain⟨t,rfl⟩:=rx;rfl)
theorem aM(b:Expr){op:QV}(h:op≠.In:=by decide)(h2:op≠.NotIn:=by decide):Qq op b=false:=by
 have e1:(op==CmpOp.In)=false:=by cases op<;>first|rfl|exact absurd rfl h
 have e2:(op==CmpOp.NotIn)=false:=by cases op<;>first|rfl|exact absurd rfl h2
 cases b<;>simp[Qq,e1,e2]
theorem pz{op:QV}{r:R2}(ho:BS X (qB op) r)(ha:PE X a ta)(hb:PE X b tb)(hm:Qq op b=false):PE X (.Compare a [op] [b] pos) (tOp r ta tb):=by
 exists 4
 exact wpAny_Compare1 (ad3 ha hb I h fun v u s2 x y H2 I2 rx ry q=>ho pins s2 σ H2 x y v u Q I2 rx ry q) hm
inductive ac5 (Q:Bool->Hp->Prop) (x:V) (H':Hp):Prop
 | mk (k:_) (_:x=.bl k) (_:Q k H')
def aiH(t:TE):TT:=fun σ H Q=>t σ H (ac5 Q)
theorem aE{op:QV}{r:R2}(ho:BS X (qB op) r)(ha:PE X a ta)(hb:PE X b tb)(hm:Qq op b=false):PT X (.Compare a [op] [b] pos) (aiH (tOp r ta tb)):=by
 exists 4
 refine WG (cD #[67] fun v s1 ⟨x,H1,I1,r1,q1⟩=>cD (hb pins s1 σ H1 _ I1 q1) fun u s2 ⟨y,H2,I2,r2,q2⟩ =>
  cD (ho pins s2 σ H2 x y v u _ I2 r1 r2 q2) fun c s3 ⟨z,H3,I3,r3,k,e,q3⟩=>?_) hm
 subst e
 cases r3
 exact Wh ⟨H3,I3,q3⟩
def agF(K:Wl)(x:V)(H:Hp)(k:Bool):Prop:=
 match x with
 | .non=>k=false
 | .bl b=>k=b
 | .int i=>k=(i != 0)
 | .str y=>y.length<=sizeLine/\k=((y.length:Int) != 0)
 | .PN y=>y.size<=sizeLine/\k=((y.size:Int) != 0)
 | .ref p=>(∃ xs,oM K H p xs/\k=!xs.isEmpty)\/(∃ xs,sQ K H p xs/\k=!xs.isEmpty)\/∃ kvs,H p=some #[53]/\k=!kvs.isEmpty
 | _=>False
theorem Oz{kvs:List (κ×V)}{vs:List (κ×Value)}(r:KV kvs vs):(!vs.isEmpty)=!kvs.isEmpty:=by
 cases r<;>rfl
theorem Ei(r:Vals xs bz):(!bz.toArray.isEmpty)=!xs.isEmpty:=by
 cases r<;>simp
theorem Es:(sizeLine:Nat)<2^63:=by rw[qL];decide
theorem afE:aj0 X (fun x H Q=>∃ k,agF X.K x H k/\Q k H):=by
 intro pins s σ H x v Q I rx h
 obtain⟨k,e,q⟩:=h
 have hl:=Es
 have hs:sizeLine=16777216:=qL
 cases x with
 | non =>
  cases rx
  have e':k=false:=e
  subst e'
  exact truthy_none ⟨H,I,q⟩
 | bl b =>
  cases rx
  have e':k=b:=e
  subst e'
  exact Wh ⟨H,I,q⟩
 | int i =>
  exists 12
  have e':k=(i != 0):=e
  subst e'
  exact PySem.P.truthy_int ⟨H,I,q⟩
 | str y =>
  exists 12
  obtain⟨hy,e'⟩:y.length<=sizeLine/\k=((y.length:Int) != 0):=e
  subst e'
  exact PySem.P.truthy_str #[0] ⟨H,I.tok _,q⟩
 | PN y =>
  exists 12
  obtain⟨hy,e'⟩:y.size<=sizeLine/\k=((y.size:Int) != 0):=e
  subst e'
  exact PySem.W.truthy_bytes #[0] ⟨H,I.tok _,q⟩
 | ref p =>
  cases rx
  have e':(∃ xs,oM X.K H p xs/\k=!xs.isEmpty)\/(∃ xs,sQ X.K H p xs/\k=!xs.isEmpty)\/∃ kvs,H p=some #[53]/\k=!kvs.isEmpty:=e
  rcases e' with⟨xs,hx,e'⟩|⟨xs,hx,e'⟩|⟨kvs,hx,e'⟩
  ·subst e'
   obtain⟨bz,r,pl,hz⟩:=I.list hx
   have hlen:=r.length
   exact wpAny_truthy_list pl.isList (by simp only[jP];omega) ⟨H,I.tok _,by rw[Ei r];exact q⟩
  ·subst e'
   obtain⟨bz,r,pl,hz⟩:=I.tuple hx
   have hlen:=r.length
   exact truthy_tuple pl (by simp only[jP];omega) ⟨H,I.tok _,by rw[Ei r];exact q⟩
  ·subst e'
   obtain⟨hz,hS,vs,r,m⟩:kvs.length<=sizeLine/\(p==qP)=false/\∃ vs,KV kvs vs/\s.heap.DictOf (bC X.prog X.w) p vs:=I.hok p _ hx
   have hlen:kvs.length=vs.length:=Paired.length r
   exact wpAny_truthy_dict hS m #[0] ⟨H,I.tok _,by rw[Oz r];exact q⟩
 | _=>exact(show False from e).elim
theorem Bw(ha:PE X a ta)(he:∀ whole,isTrue a X.env whole=(do let v <- whole;standAt a.pos;holding [v] (truthy v))):
  PT X a (fun σ H Q=>ta σ H fun x H'=>∃ k,agF X.K x H' k/\Q k H'):=by
 exists 4
 exact isTrue_plain (cD #[67] fun v s1 ⟨x,H1,I1,r1,q1⟩=>afE pins s1 σ H1 x v Q I1 r1 q1) (he _)
theorem vals1{x:V}(r:Vals [x] us):∃ u,us=[u]/\RelV x u:=by
 cases r with
 | cons r1 r2=>cases r2;exact⟨_,rfl,r1⟩
theorem vals2{x:V}(r:Vals [x,y] us):∃ u w',us=[u,w']/\RelV x u/\RelV y w' := by
 cases r with
 | cons r1 r2 =>
  cases r2 with
  | cons r3 r4=>cases r4;exact⟨_,_,rfl,r1,r3⟩
inductive K3 (xs:List V) (H:Hp) (Q:VK):Prop
 | mk (i:_) (j:_) (_:xs=[.int i,.int j]) (_:Q (.int (if j<i then j else i)) H)
theorem FP(hc:X.calm=true):lH X (.builtin "min") (K3):=by
 exists 5
 obtain⟨i,j,rfl,q⟩:=h
 obtain⟨u,w',rfl,⟨t,rfl⟩,⟨t',rfl⟩⟩:=vals2 r
 refine min_two_ints #[85] fun h' tk k=>⟨_,H,I.kept k,?_,q⟩
 by_cases hj:j<i
 ·rw[if_pos hj,if_pos hj];exact⟨_,rfl⟩
 ·rw[if_neg hj,if_neg hj];exact⟨_,rfl⟩
theorem RU:lH X (.type "int") (fun xs H Q=>(∃ i,xs=[.int i]/\Q (.int i) H)\/∃ k,xs=[.bl k]/\Q (.int (if k then 1 else 0)) H):=by
 exists 5
 rcases h with⟨i,rfl,q⟩|⟨k,rfl,q⟩
 ·obtain⟨u,rfl,t,rfl⟩:=vals1 r
  exact call_int_int ⟨.int i,H,I,⟨_,rfl⟩,q⟩
 ·obtain⟨u,rfl,r1⟩:=vals1 r
  cases r1
  exact call_int_bool ⟨.int (if k then 1 else 0),H,I.tok _,⟨_,rfl⟩,q⟩
inductive DW (xs:List V) (H:Hp) (Q:VK):Prop
 | mk (i:_) (_:xs=[.int i]) (_:i.natAbs.log2<1920) (_:Q (.str (toString i)) H)
theorem HU:lH X (.type "str") (DW):=by
 exists 5
 obtain⟨i,rfl,hz,q⟩:=h
 obtain⟨u,rfl,t,rfl⟩:=vals1 r
 exact PySem.P.str_of_int hz ⟨.str _,H,I.tok _,⟨_,rfl⟩,q⟩
end
variable{r:R2}
structure N0(h:Heap)(x dx C:QQ)(mA:Qm->Option Value):Prop where
 obj:h.get? x=some (YL C dx)
 ns:h.Ns1 dx mA
 ne:dx≠x
theorem Hg(n:h.Ns1 dx mA):∃ od,h.get? dx=some od/\∀ name,yB name od=some (mA name):=by
 obtain⟨o,es,ep,ho,hd,hk,_,hm⟩:=n
 refine⟨o,ho,fun name=>?_⟩
 have e:=hm name
 unfold nsFind findBy at e
 rw[<- Zi]at e
 unfold yB
 rw[hd]
 dsimp only
 split
 ·rename_i y q
  rw[q]at e
  exact congrArg some e
 ·rename_i q
  rw[q]at e
  have a:es.toList.any (·.refKey)=false:=by
   rw[List.any_eq_false]
   intro y hy
   obtain⟨z,t,V2⟩:=hk y (Array.mem_toList_iff.mp hy)
   simp[DictEntry.refKey,V2]
  have a':¬ es.toList.any (·.refKey)=true:=by rw[a];exact jV
  rw[if_neg a']
  exact congrArg some e
theorem N0.look{x:QQ}(I:N0 h x dx C mA):∃ od,PySem.W.InstAt h x (YL C dx) C (some od)/\∀ name,yB name od=some (mA name):=
 let ⟨od,ho,hl⟩:=Hg I.ns
 ⟨od,⟨I.obj,rfl,rfl,ho⟩,hl⟩
section
variable{x f:QQ}{v:Value}
theorem get_map(X:K.In s.heap)(I:N0 s.heap x dx C mA)(hg:Yr K C name=true)(hh:Yd K C=true)(ha:Ws K #[20] name=some none)(hv:mA name=some v)(MU:XO v=true)(h:Q v { s with toks:=s.toks+1 }):
  wpAny #[9] A (getAttr #[89] name expr) Q E s:=by
 obtain⟨od,J,hl⟩:=I.look
 exact PySem.W.get_value X J (yA hg).1 (PySem.W.findObj_own hh ha rfl (by rw[hl,hv])) MU h
theorem T7{pl:Qk Bool}{Q:Value×List Value->Ql->Prop}(X:K.In s.heap)(I:N0 s.heap x dx C mA)(hg:Yr K C name=true)(hf:Ws K #[20] name=some (some #[64]))(ht:Yg K #[64]=true)(hv:mA name=none)(h:Q (.ref f,[.ref x]) s):
  wpAny #[9] A (getMethod #[89] name pl) Q E s:=by
 obtain⟨od,J,hl⟩:=I.look
 exact PySem.W.method_fn X J (yA hg).1 (yA hg).2 hf (beq_iff_eq.mp ht) (by show(yB name od).map (·.isSome)=some false;rw[hl,hv];rfl) h
theorem acP{Q:Unit->Ql->Prop}(X:K.In s.heap)(I:N0 s.heap x dx C mA)(hs:Ws K #[20] "__setattr__" = some (some (.builtin "object.__setattr__")))(hp:XF K C=true)(ht:yW K C name=some none)(hh:Yd K C=true)(hw:yx mA ns)(hsz:ns.length<=sizeLine)(h:∀ h',N0 h' x dx C (fun y=>if y=name then some v else mA y)->Yf dx s.heap h'->Q () { s with heap:=h',toks:=s.toks+2 }):
  wpAny #[9] A (setAttr #[89] name v) Q E s:=by
 obtain⟨od,J,hl⟩:=I.look
 refine PySem.W.set_plain X J hs (PySem.W.osa_open (s:={ s with toks:=s.toks+1 }) (r:=none) X J hp ht fun b=>?_)
 obtain⟨cd,hc,hd'⟩:=PySem.W.any_some hh
 have hx:s.heap.get? x=some ⟨.ref C,some dx,.plain,#[]⟩:=I.obj
 refine qd (WS (qd (qd (WI hx (qd (XA (s:={ s with toks:=s.toks+1 }) (PySem.W.looks_clsIn X hc) ?_))))))
 rw[hd']
 refine WS (a:=some dx) (qd (WS (qd ?_)))
 refine wpAny_nsSet1 (s:={ s with toks:=s.toks+1 }) I.ns fun h' hn2 hs2=>?_
 obtain⟨oD,esD,epD,hoD,hdD,hcD⟩:=hn2.count (xq name v hw)
 refine qd (WK hoD (by rw[hdD];exact qH (jf hcD (by rw[jT];omega))) ?_)
 exact WS (h _ ⟨(hs2.2 _ (Ne.symm I.ne)).trans I.obj,hn2,I.ne⟩ hs2)
theorem X6{vs:List Value}{kw:List (Qm×Value)}(X:K.In s.heap)(hm:yX K C=true)(hi:Ws K #[20] "__init__" = some (some #[64]))(hf:YZ K #[64]=some (.type "function"))(h:codeAny #[9] (A.under (.builtin "type.__call__" ⟨.ref C :: vs,kw⟩)) (.call #[64] ⟨.ref #[23] :: vs,kw⟩) (PySem.W.InitBack #[23] R)
   { s with heap:=(s.heap.push YA).push (YL C s.heap.objs.size) }):
  codeAny #[9] A (.call #[20] ⟨vs,kw⟩) R s:=by
 obtain⟨hh,g,d,t,os⟩:=s
 exact PySem.W.make_core (PySem.W.makes_of X hm) (PySem.W.looks_findIn X hi) (fun self=>PySem.W.bind_fn X self hf) #[81] h
end
def mG(f:Qm)(v:V):List (Qm×V)->List (Qm×V)
 | []=>[(f,v)]
 | (g,x) :: r=>if g=f then(g,v) :: r else(g,x) :: mG f v r
theorem CG(f g:Qm)(v:V):∀ fs:List (Qm×V),(mG f v fs).lookup g=if g=f then some v else fs.lookup g
 | []=>by
  show JT g [(f,v)]=_
  by_cases h:g=f
  ·have hb:(g==f)=true:=beq_iff_eq.mpr h
   simp only[JT,hb,if_pos h]
  ·have hb:(g==f)=false:=beq_eq_false_iff_ne.mpr h
   simp only[JT,hb,if_neg h]
 | (k,x) :: r=>by
  have ih:=CG f g v r
  rw[show mG f v ((k,x) :: r)=(if k=f then(k,v) :: r else(k,x) :: mG f v r)from rfl]
  by_cases hk:k=f
  ·rw[if_pos hk]
   by_cases h:g=k
   ·have hb:(g==k)=true:=beq_iff_eq.mpr h
    simp only[JT,hb,if_pos (h.trans hk)]
   ·have hb:(g==k)=false:=beq_eq_false_iff_ne.mpr h
    simp only[JT,hb,if_neg (fun e:g=f=>h (e.trans hk.symm))]
  ·rw[if_neg hk]
   by_cases h:g=k
   ·have hb:(g==k)=true:=beq_iff_eq.mpr h
    simp only[JT,hb,if_neg (fun e:g=f=>hk (h.symm.trans e))]
   ·have hb:(g==k)=false:=beq_eq_false_iff_ne.mpr h
    simp only[JT,hb]
    exact ih
theorem Ce(f:Qm)(v:V):∀ fs:List (Qm×V),f∈(mG f v fs).map (·.1)/\∀ g,g∈fs.map (·.1)->g∈(mG f v fs).map (·.1)
 | []=>⟨by simp[mG],fun g h=>by simp at h⟩
 | (k,x) :: r=>by
  obtain⟨i1,i2⟩:=Ce f v r
  rw[show mG f v ((k,x) :: r)=(if k=f then(k,v) :: r else(k,x) :: mG f v r)from rfl]
  by_cases hk:k=f
  ·rw[if_pos hk]
   subst hk
   exact⟨by simp,fun g h=>by simpa using h⟩
  ·rw[if_neg hk]
   refine⟨?_,fun g h=>?_⟩
   ·rw[JF]
    exact jI _ i1
   ·rw[JF]at h ⊢
    rcases jY.mp h with e|e
    ·exact jY.mpr (.inl e)
    ·exact jI _ (i2 g e)
theorem CF(f:Qm)(v:V):∀ fs:List (Qm×V),(mG f v fs).length<=fs.length+1
 | []=>by simp[mG]
 | (k,x) :: r=>by
  have ih:=CF f v r
  rw[show mG f v ((k,x) :: r)=(if k=f then(k,v) :: r else(k,x) :: mG f v r)from rfl]
  by_cases hk:k=f
  ·rw[if_pos hk,jT,jT];omega
  ·rw[if_neg hk,jT,jT];omega
theorem pD.some_of{o:Option Value}(r:pD (some v) o):∃ u,o=some u/\RelV v u:=by
 cases o with
 | none=>exact(show False from r).elim
 | some u=>exact⟨u,rfl,r⟩
theorem pD.none_of{o:Option Value}(r:pD none o):o=none:=by
 cases o with
 | none=>rfl
 | some u=>exact(show False from r).elim
theorem F9(r:RelV v u):XO u=true:=by
 cases v with
 | non=>cases(show u=Wt from r);rfl
 | bl b=>cases(show u=Yi b from r);rfl
 | int i=>obtain⟨t,e⟩:=(show ∃ t,u=YT i t from r);cases e;rfl
 | str x=>obtain⟨t,e⟩:=(show ∃ t,u=Ys x t from r);cases e;rfl
 | PN b=>obtain⟨t,e⟩:=(show ∃ t,u=xN b t from r);cases e;rfl
 | flt b=>obtain⟨t,e⟩:=(show ∃ t,u=XN b t from r);cases e;rfl
 | ref a=>cases(show u=Wm a from r);rfl
 | ty n=>cases(show u=YK n from r);rfl
section
variable{fs:List (Qm×V)}
theorem Dj(hok:iP P w H h)(e:H a=some #[107]):∃ mA,N0 h a dx C mA/\(∀ f,pD (fs.lookup f) (mA f))/\yx mA (fs.map (·.1))/\fs.length<=1000/\H dx=some (.own a):=by
 obtain⟨d,z,ne,ob,mA,n,r,q⟩:=(show bN P w H h a #[107]from hok a _ e)
 exact⟨mA,⟨ob,n,ne⟩,r,q,z,d⟩
end
structure IX(K:Wl)(C:QQ):Prop where
 pg:Yr K C Str.empty=true
 hd:Yd K C=true
 po:XF K C=true
 sa:Ws K #[20] "__setattr__" = some (some (.builtin "object.__setattr__"))
theorem IX.get(c:IX K C)(f:Qm):Yr K C f=true:=c.pg
def iQ(K:Wl)(C:QQ)(f:Qm):Prop:=Ws K #[20] f=some none
theorem iQ.aiL(n:iQ K C f):yW K C f=some none:=by
 unfold yW
 rw[show Ws K #[20] f=some none from n]
 rfl
structure Meth(K:Wl)(C:QQ)(m:Qm)(f:QQ):Prop where
 at_:Ws K #[20] m=some (some #[64])
 fn:Yg K #[64]=true
 kp:Wu K #[64]=true
section
variable{fs:List (Qm×V)}
theorem Ol{b:Bool}(I:Inv X pins σ H s)(e:H a=some #[107])(c:IX X.K C)(n:iQ X.K C f)(l:fs.lookup f=some v)(h:∀ u s',Inv X pins σ H s'->RelV v u->Q u s'):wpAny #[5] A (getAttr #[50] f b) Q E s:=by
 obtain⟨mA,O,r,_,_,_⟩:=Dj I.hok e
 obtain⟨u,hu,ru⟩:=pD.some_of (v:=v) (o:=mA f) (by rw[<- l];exact r f)
 exact get_map I.pF O (c.get f) c.hd n hu (F9 ru) (h u _ (I.tok _) ru)
theorem Ee{g:QQ}{pl:Qk Bool}{Q:Value×List Value->Ql->Prop}(I:Inv X pins σ H s)(e:H a=some #[107])(c:IX X.K C)(k:Meth X.K C m g)(l:fs.lookup m=none)(h:Q (.ref g,[.ref a]) s):wpAny #[5] A (getMethod #[50] m pl) Q E s:=by
 obtain⟨mA,O,r,_,_,_⟩:=Dj I.hok e
 have hn:mA m=none:=pD.none_of (by rw[<- l];exact r m)
 exact T7 I.pF O (c.get m) k.at_ k.fn hn h
theorem Pg{Q:Unit->Ql->Prop}(I:Inv X pins σ H s)(e:H a=some #[107])(c:IX X.K C)(n:iQ X.K C f)(hl:fs.length<1000)(ry:RelV y u)(h:∀ s',Inv X pins σ (upd H a (.ins C dx (mG f y fs))) s'->Q () s'):wpAny #[5] A (setAttr #[50] f u) Q E s:=by
 obtain⟨mA,O,r,wi,_,ho⟩:=Dj I.hok e
 have hz:(fs.map (·.1)).length<=sizeLine:=by rw[jX,qL];omega
 refine acP I.pF O c.sa c.po n.aiL c.hd wi hz fun h' O' sb=>h _ ?_
 have hd:∃ o,h'.get? dx=some o:=let ⟨o,_,_,e',_⟩:=O'.ns;⟨o,e'⟩
 refine I.write (x:=a) (e:=dx) (by rw[e];exact True.intro) (.inr ho) (fun b q hb z=>(sb.2 b hb).trans z) hd ?_
 refine⟨by rw[aj O.ne];exact ho,?_,O.ne,O'.obj,_,O'.ns,fun g=>?_,fun g hg=>?_⟩
 ·have:=CF f y fs;omega
 ·show pD ((mG f y fs).lookup g) (if g=f then some u else mA g)
  rw[CG]
  by_cases q:g=f
  ·rw[if_pos q,if_pos q];exact ry
  ·rw[if_neg q,if_neg q];exact r g
 ·by_cases q:g=f
  ·rw[q];exact(Ce f y fs).1
  ·refine(Ce f y fs).2 g (wi g fun z=>hg ?_)
   show(if g=f then some u else mA g)=none
   rw[if_neg q];exact z
theorem Inv.made(I:Inv X pins σ H s):Inv X pins σ (upd (upd H s.heap.objs.size (.own #[23])) #[23] (.ins C s.heap.objs.size []))
  { s with heap:=(s.heap.push YA).push (YL C s.heap.objs.size) }:=by
 have e1:(s.heap.push YA).get? s.heap.objs.size=some YA:=jL s.heap rfl
 have e2:((s.heap.push YA).push (YL C s.heap.objs.size)).get? #[23]=some (YL C s.heap.objs.size):=by
  have:=jL (s.heap.push YA) (o:=YL C s.heap.objs.size) rfl
  rwa[Jj]at this
 have e3:(s.heap.push YA).Ns s.heap.objs.size (fun _=>none):=⟨YA,#[],_,e1,rfl,(fun e he=>absurd he #[21]),fun _=>rfl⟩
 have I1:=I.laid (a:=s.heap.objs.size) (o:=.own #[23]) (h' := s.heap.push YA) (t' := s.toks) (fun b u q=>jC _ q) (jE _) ⟨_,e1⟩
 refine I1.laid (a:=s.heap.objs.size+1) (o:=.ins C s.heap.objs.size []) (t' := s.toks) (fun b u q=>jC _ q) (QH (Jj _ _)) ?_
 have ne:s.heap.objs.size≠s.heap.objs.size+1:=jR (Jx _)
 refine⟨by rw[aj ne,ae],je _,ne,e2,fun _=>none,(XG e3).at fun o q=>jC _ q,fun _=>True.intro,fun y hy=>absurd rfl hy⟩
theorem PL(hb:attributeBase e f env (eval e env)=eval e env)(h:wpAny #[9] A (eval e env) (fun o s₁=>wpAny #[9] A (getAttr o f true) Q E s₁) E s):wpAny #[9] A (eval (.Attribute e f pos) env) Q E s:=
 Attribute_any_ h (by rw[arm_eval_Attribute,hb])
end
inductive afy (K:Wl) (f:Qm) (Q:VK) (x:V) (H1:Hp):Prop
 | mk (a:_) (C:_) (dx:_) (fs:_) (v:_) (_:x=.ref a) (_:H1 a=some #[107]) (_:IX K C) (_:iQ K C f) (_:fs.lookup f=some v) (_:Q v H1)
def amu(K:Wl)(ta:TE)(f:Qm):TE:=fun σ H Q=>ta σ H (afy K f Q)
def amk(K:Wl)(ta tv:TE)(f:Qm):TS:=fun D σ H=>tv σ H fun y H1=>ta σ H1 fun x H2=>∃ a C dx fs,x=.ref a/\H2 a=some #[107]/\IX K C/\iQ K C f/\fs.length<1000 /\
 D.nx σ (upd H2 a (.ins C dx (mG f y fs)))
section
variable{o value:Expr}{tv:TE}
theorem dN(he:PE X e ta)(hb:attributeBase e f X.env (eval e X.env)=eval e X.env):PE X (.Attribute e f pos) (amu X.K ta f):=by
 exists 4
 refine PL hb (cD #[56] fun u s1 ⟨x,H1,I1,rx,a,C,dx,fs,v,ex,ea,c,n,l,q⟩=>?_)
 subst ex
 exists 15
 exact Ol I1 ea c n l fun u' s2 I2 ru=>⟨v,H1,I2,ru,q⟩
theorem tS(ha:PE X o ta)(hv:PE X value tv)(hs:qO value (some (.Attribute o f pos')) pos.line X.env=pure false):PS X (.Assign [.Attribute o f pos'] value pos) (amk X.K ta tv f):=by
 exists 9
 refine qJ (cD (hv pins s σ H _ I h) fun u s1 ⟨y,H1,I1,ry,q⟩=>cD (ha pins s1 σ H1 _ I1 q) fun ov s2 ⟨x,H2,I2,rx,a,C,dx,fs,ex,ea,c,n,l,q2⟩=>?_) hs
 subst ex
 obtain rfl:ov=Wm a:=rx
 exact Pg I2 ea c n l ry fun s3 I3=>⟨σ,_,I3,q2⟩
end
section
variable{c:Value}{b:Bool}
inductive pE (K:Wl) (H:Hp):V->Value->Prop where
 | non:pE K H .non (.type "NoneType")
 | bl (x:Bool):pE K H (.bl x) (.type "bool")
 | int (i:Int):pE K H (.int i) (.type "int")
 | str (x:Qm):pE K H (.str x) (.type "str")
 | flt (x:UInt64):pE K H (.flt x) (.type "float")
 | lst {a:QQ} {xs:List V} (e:H a=some #[109]):pE K H #[50] (.type "list")
 | rB {a:QQ} {o:Obj} {xs:List V} (e:H a=some (.rB o #[109])):pE K H #[50] (.type "list")
 | tup {a:QQ} {xs:List V} (e:H a=some #[40]):pE K H #[50] (.type "tuple")
 | dK {a:QQ} {kvs:List (Key×V)} (e:H a=some #[53]):pE K H #[50] (.type "dict")
 | dT {a:QQ} {kvs:List #[59]} (e:H a=some #[105]):pE K H #[50] (.type "dict")
 | ins {a C dx:QQ} {fs:List (Qm×V)} (e:H a=some #[107]) (cl:IX K C) (ha:Ws K #[20] "__class__" = some (some #[27]))
   (hn:Ye K #[27] "__get__" = some (some #[32])) (htk:XU K #[27]=some true)
   (hm:Wy K C #[63]=some true):pE K H #[50] #[20]
theorem Sj{x:V}{t:Value}(I:Inv X pins σ H s)(rx:RelV x u)(ty:pE X.K H x t)(e:Wo X.K t c=some b)(h:∀ tk,Q (.bool b) { s with toks:=tk }):
  wpAny #[5] A (call (.builtin "isinstance") [u,c]) Q E s:=by
 cases ty with
 | non=>cases(show u=Wt from rx);exact Wx PySem.W.kitx_none I.pF True.intro e #[46] h
 | bl y=>cases(show u=Yi y from rx);exact Wx PySem.W.kitx_bool I.pF True.intro e #[46] h
 | int i=>obtain⟨t,q⟩:=(show ∃ t,u=YT i t from rx);cases q;exact Wx PySem.W.kitx_int I.pF True.intro e #[46] h
 | str y=>obtain⟨t,q⟩:=(show ∃ t,u=Ys y t from rx);cases q;exact Wx PySem.W.kitx_str I.pF True.intro e #[46] h
 | flt y=>obtain⟨t,q⟩:=(show ∃ t,u=XN y t from rx);cases q;exact Wx PySem.W.kitx_float I.pF True.intro e #[46] h
 | @lst a xs ea =>
  cases(show u=Wm a from rx)
  obtain⟨_,_,n,_,h1⟩:=(show bN X.prog X.w H s.heap a #[109]from I.hok a _ ea)
  exact Wx XH I.pF ⟨_,h1,rfl⟩ e #[46] h
 | @rB a ob xs ea =>
  cases(show u=Wm a from rx)
  obtain⟨_,_,_,n,_,h1⟩:=(show bN X.prog X.w H s.heap a (.rB ob #[109])from I.hok a _ ea)
  exact Wx XH I.pF ⟨_,h1,rfl⟩ e #[46] h
 | @tup a xs ea =>
  cases(show u=Wm a from rx)
  obtain⟨_,_,_,p⟩:=(show bN X.prog X.w H s.heap a #[40]from I.hok a _ ea)
  obtain⟨o,h1,h2,_⟩:=p
  exact Wx PySem.W.kitx_tuple I.pF ⟨o,h1,h2⟩ e #[46] h
 | @dK a kvs ea =>
  cases(show u=Wm a from rx)
  obtain⟨_,_,vs,_,p⟩:=(show bN X.prog X.w H s.heap a #[53]from I.hok a _ ea)
  obtain⟨o,es,ep,h1,h2,_⟩:=p
  exact Wx XI I.pF ⟨o,h1,h2.1⟩ e #[46] h
 | @dT a kvs ea =>
  cases(show u=Wm a from rx)
  obtain⟨_,_,xs,_,o,es,ep,h1,h2,_⟩:=(show bN X.prog X.w H s.heap a #[105]from I.hok a _ ea)
  exact Wx XI I.pF ⟨o,h1,h2.1⟩ e #[46] h
 | @ins a C dx fs ea cl ha hn htk hm =>
  cases(show u=Wm a from rx)
  obtain⟨mA,O,_⟩:=Dj I.hok ea
  obtain⟨od,J,_⟩:=O.look
  exact Wx (PySem.W.kitx_own (cl.get _) cl.hd ha hn htk hm) I.pF J e #[46] h
end
structure dD(k:Nat)(A:Around):Prop where
 hd:A.handled=none
 dp:A.depth+3*k+5<recursionLimit
 un:A.units+16*k+200<cLine
theorem dD.mono{k:Nat}(r:dD k A)(h:j<=k):dD j A:=⟨r.hd,by have:=r.dp;omega,by have:=r.un;omega⟩
theorem dD.deeper{k:Nat}(r:dD (k+1) A)(env:QX):dD k (A.deeper env):=
 ⟨r.hd,by have:=r.dp;show A.depth+1+3*k+5<_;omega,by have:=r.un;show A.units+3+16*k+200<_;omega⟩
theorem OE{kw:List (Qm×Value)}:(A.under (.builtin "type.__call__" ⟨.ref C :: us,kw⟩)).depth=A.depth+1:=by
 first|rfl|simp[Around.under,Code.weight,Code.isCreation,Code.isGuard,Code.isCaller,Code.frames,Code.isFrame,guardIds]
theorem OG{kw:List (Qm×Value)}:(A.under (.builtin "type.__call__" ⟨.ref C :: us,kw⟩)).units=A.units+1:=by
 first|rfl|simp[Around.under,Code.cUnits,Code.frames,Code.isFrame]
theorem dD.make{k:Nat}(r:dD (k+1) A)(C:QQ)(us:List Value)(kw:List (Qm×Value)):dD k (A.under (.builtin "type.__call__" ⟨.ref C :: us,kw⟩)):=
 ⟨r.hd,by have:=r.dp;rw[OE];omega,by have:=r.un;rw[OG];omega⟩
theorem dD.depth{k:Nat}(r:dD k A):A.depth<recursionLimit:=by have:=r.dp;omega
theorem dD.units{k:Nat}(r:dD k A):A.units+64<cLine:=by have:=r.un;omega
theorem dD.abb{k:Nat}(r:dD k A):A.units<cLine:=by have:=r.un;omega
def ac1:TA:=fun _ H Q=>Q [] H
def adI(ta:TE)(tr:TA):TA:=fun σ H Q=>ta σ H fun x H1=>tr σ H1 fun xs H2=>Q (x :: xs) H2
section
variable{t:TA}
theorem af:PA X [] ac1:=fun _ _ _ _ H Q I h=>YW ⟨[],H,I,.nil,h⟩
theorem aa(ha:PE X e te)(hr:PA X es t)(hs:qM (e :: es) X.env=#[16] :: qM es X.env:=by rfl):PA X (e :: es) (adI te t):=by
 intro pos pins s σ H Q I h
 rw[hs]
 show wpAny _ _ (spliced (#[16] :: backTo pos (qM es X.env))) _ _ s
 refine YB (cD #[67] fun u s1 ⟨x,H1,I1,r1,q1⟩=>?_)
 exact cD (hr pos pins s1 σ H1 _ I1 q1) fun us s2 ⟨xs,H2,I2,r2,q2⟩=>⟨x :: xs,H2,I2,.cons r1 r2,q2⟩
structure afC(Q:VK)(xs:List V)(H1:Hp):Prop where
 h0:xs.length<=sizeLine
 h1:∀ p,H1 p=none->Q (.ref p) (upd H1 p #[40])
def aiJ(t:TA):TE:=fun σ H Q=>t σ H (afC Q)
structure afz(Q:VK)(xs:List V)(H1:Hp):Prop where
 h0:xs.length<=sizeLine
 h1:∀ p,H1 p=none->Q (.ref p) (upd H1 p #[109])
def aiC(t:TA):TE:=fun σ H Q=>t σ H (afz Q)
theorem eL{x1}(h:PA X es t):PE X (.Tuple es x1 pos) (aiJ t):=by
 intro pins s σ H Q I hq
 refine wpAny_Tuple_spliced (cD (h pos pins s σ H _ I hq) fun us s1 ⟨xs,H1,I1,r,z,q⟩=>⟨by rw[<- r.length];exact z,?_⟩)
 have hf:H1 s1.heap.objs.size=none:=I1.hok.fresh (jE _)
 refine⟨.ref s1.heap.objs.size,upd H1 s1.heap.objs.size #[40],I1.laid (t' := s1.toks) (fun b u e=>jC _ e) (jE _) ?_,rfl,q _ hf⟩
 exact⟨z,us,r,⟨_,jL _ rfl,rfl,_,rfl⟩⟩
theorem bw(h:PA X es t):PE X (.List es pos) (aiC t):=by
 intro pins s σ H Q I hq
 refine wpAny_List_spliced (cD (h pos pins s σ H _ I hq) fun us s1 ⟨xs,H1,I1,r,z,q⟩=>⟨by rw[<- r.length];exact z,?_⟩)
 have hf:H1 s1.heap.objs.size=none:=I1.hok.fresh (jE _)
 refine⟨.ref s1.heap.objs.size,upd H1 s1.heap.objs.size #[109],I1.laid (t' := s1.toks) (fun b u e=>jC _ e) (jE _) ?_,rfl,q _ hf⟩
 exact⟨z,us,0,r,jL _ rfl⟩
end
abbrev Sp:=List V->Hp->VK->XK->Prop
abbrev IW:=List QX->Hp->Ql->XK->Value->Ql->Prop
structure Fg(P:Qj)(w:World)(K:Wl)(mg:Qm->Option Value)(base:Heap)(A:Around)(outer:List QX)(s:Ql)(H:Hp):Prop where
 frames:A.frames=some outer
 mod:Mod K mg base
 bs:∀ b o,base.get? b=some o->s.heap.get? b=some o/\H b=none
 bsz:base.objs.size<=s.heap.objs.size
 Ap:s.heap.FunFrames base outer
 frf:∀ b∈Ao outer,H b=none
 hok:iP P w H s.heap
 bare:QR s.gens
def CE(outer:List QX)(P:Qj)(w:World)(H:Hp)(s:Ql)(Q:VK)(u:Value)(s':Ql):Prop:=
 ∃ v H',s'.os=s.os/\QR s'.gens/\Un (Ao outer) [] H H' s.heap s'.heap/\iP P w H' s'.heap/\RelV v u/\Q v H'
def CR(CX:IW)(outer:List QX)(P:Qj)(w:World)(H:Hp)(s:Ql)(Q:VK)(E:XK)(r:Result)(s':Ql):Prop:=
 match r with
 | .ok (.ret u)=>CE outer P w H s Q u s'
 | .ok _=>False
 | .error e=>CX outer H s E e s'
structure bc(P:Qj)(w:World)(K:Wl)(mg:Qm->Option Value)(base:Heap)(CX:IW)(k:Nat)(f:QQ)(fd:QY)(ps:List Qm)(sp:Sp):Prop where
 len:∀ vs H Q E,sp vs H Q E->vs.length=ps.length
 run:∀ (A:Around) (outer:List QX) (s:Ql) (H:Hp) (args:Args) (us:List Value) (vs:List V) (Q:VK) (E:XK),dD k A->Fg P w K mg base A outer s H->QT s fd args (ps.zip us)->Vals vs us->sp vs H Q E ->
  codeAny (model P w) A (.call #[64] args) (CR CX outer P w H s Q E) s
theorem Fg.make(e:Fg P w K mg base A outer s H)(C:QQ)(us:List Value)(kw:List (Qm×Value)):
  Fg P w K mg base (A.under (.builtin "type.__call__" ⟨.ref C :: us,kw⟩)) outer s H:=⟨by first|exact e.frames|(simpa[Around.under,Code.envs,Code.isFrame,pushEnvs]using e.frames),e.mod,e.bs,e.bsz,e.Ap,e.frf,e.hok,e.bare⟩
section
theorem Inv.R3(I:Inv X pins σ H s):Fg X.prog X.w X.K X.mg X.base X.A X.stack s H:=
 ⟨I.ok.frames,I.ok.mod,I.bs,jf I.ok.bsz I.sz,I.stack,I.Dz,I.hok,I.bare⟩
theorem Inv.after{Q:VK}(I:Inv X pins σ H s)(h:CE X.stack X.prog X.w H s Q u s'):EP X pins σ Q u s' := by
 obtain⟨v,H',os,bare,un,hok,r,q⟩:=h
 obtain⟨hh,g,d,t,os'⟩:=s'
 obtain rfl:os'=s.os:=os
 exact⟨v,H',I.call (h' := hh) (g' := g) (d' := d) (t' := t) (ch:=[]) un hok bare (fun b z=>absurd z #[21]),r,q⟩
end
def Hu(sp:Sp)(fz:List V)(E:XK)(t:TA):TE:=fun σ H Q=>t σ H fun vs H1=>sp (vs++fz) H1 Q E
inductive ac0 (C:QQ) (m:Qm) (sp:Sp) (fz:List V) (E:XK) (t:TA) (σ:St) (Q:VK) (x:V) (H1:Hp):Prop
 | mk (a:_) (dx:_) (fs:_) (_:x=.ref a) (_:H1 a=some #[107]) (_:fs.lookup m=none) (_:t σ H1 fun vs H2=>sp (x :: (vs++fz)) H2 Q E)
def RC(C:QQ)(m:Qm)(sp:Sp)(fz:List V)(E:XK)(ta:TE)(t:TA):TE:=fun σ H Q=>ta σ H (ac0 C m sp fz E t σ Q)
def adJ(C:QQ)(sp:Sp)(fz:List V)(E:XK)(t:TA):TE:=fun σ H Q=>t σ H fun vs H1=>∀ x dx,H1 x=none->H1 dx=none->dx≠x ->
 sp (.ref x :: (vs++fz)) (upd (upd H1 dx (.own x)) x (.ins C dx [])) (fun v H2=>v=.non/\Q #[89] H2) E
def Binds(K:Wl)(fd:QY)(ps:List Qm)(ds:List Value):Prop:=
 ∀ (s:Ql) (us:List Value),K.In s.heap->(us++ds).length=ps.length->QT s fd ⟨us,[]⟩ (ps.zip (us++ds))
theorem Binds.all(h:∀ us:List Value,us.length=ps.length->bindArgs fd ⟨us,[]⟩=pure (ps.zip us)):Binds K fd ps []:=fun s us _ hl=>by
 rw[jo]at hl ⊢
 exact .of_eq (h us hl)
def Passes(CX:IW)(X:Cx)(E:XK):Prop := ∀ (pins:List #[41]) (σ:St) (H:Hp) (s:Ql) (e:Value) (s':Ql),Inv X pins σ H s->CX X.stack H s E e s'->X.xe e s'
section
variable{CX:IW}{k:Nat}{f:QQ}{sp:Sp}{E:XK}{o:Expr}{t:TA}
theorem Pc{Q:VK}(F:bc X.prog X.w X.K X.mg X.base CX k f fd ps sp)(hr:dD k X.A)(hb:Binds X.K fd ps ds)(hd:Vals fz ds)(hx:Passes CX X E)(I:Inv X pins σ H s)(r:Vals vs us)(h:sp (vs++fz) H Q E):wpAny #[5] X.A (call #[64] us) #[54] X.xe s:=by
 have r2:Vals (vs++fz) (us++ds):=r.append hd
 have hl:(us++ds).length=ps.length:=by rw[<- r2.length];exact F.len _ _ _ _ h
 refine qf (qA (F.run X.A X.stack s H ⟨us,[]⟩ (us++ds) (vs++fz) Q E hr I.R3 (hb s us I.pF hl) r2 h) fun r s' hq=>?_)
 cases r with
 | error e=>exact hx pins σ H s e s' I hq
 | ok fl =>
  cases fl with
  | ret u=>exact I.after hq
  | next=>exact False.elim hq
  | brk=>exact False.elim hq
  | cont=>exact False.elim hq
theorem Iq(F:bc X.prog X.w X.K X.mg X.base CX k f fd ps sp)(hr:dD k X.A)(hg:Gl X x)(hm:X.mg x=some #[64])(hk:Wu X.K #[64]=true)(hb:Binds X.K fd ps ds)(hd:Vals fz ds)(hx:Passes CX X E)(ha:PA X (e :: es) t)(tI:#[15]=false:=by decide)(he:qM (e :: es) X.env=#[16] :: qM es X.env:=by rfl)(rC:#[22].any (·.1)=false:=by rfl):
  PE X #[18] (Hu sp fz E t):=by
 exists 4
 refine qS (iV I hg hm ?_ tI)
 refine YG (h₀:=X.base) I.ok.mod.kin hk (cD #[42] fun us s1 ⟨vs,H1,I1,r,q⟩=>⟨I1.pF,?_⟩) he rC
 exact Pc F hr hb hd hx I1 r q
theorem acB{pl:Qk Bool}(he:PE X o ta)(c:IX X.K C)(hm:Meth X.K C m f)(F:bc X.prog X.w X.K X.mg X.base CX k f fd ps sp)(hr:dD k X.A)(hb:Binds X.K fd ps ds)(hd:Vals fz ds)(hx:Passes CX X E)(ha:PA X (e :: es) t)(BK:qM (e :: es) X.env=#[16] :: qM es X.env:=by rfl)(rC:#[22].any (·.1)=false:=by rfl)(ht:eval (.Call #[86] (e :: es) [] pos) X.env=(do
   let ov <- eval o X.env
   standAt apos.atName
   let (f,first) <- holding [ov] (getMethod ov m pl)
   callWith pos f first (backTo pos (qM (e :: es) X.env)) (backToKw pos #[76])):=by rfl):
  PE X (.Call #[86] (e :: es) [] pos) (RC C m sp fz E ta t):=by
 exists 4
 refine Yt (pl:=pl) (cD #[56] fun u s1 ⟨x,H1,I1,rx,a,dx,fs,ex,ea,l,q⟩=>?_) ht
 subst ex
 exists 15
 refine Ee I1 ea c hm l ?_
 refine YG (first:=[.ref a]) (h₀:=X.base) I.ok.mod.kin hm.kp (cD (ha pos pins s1 σ H1 _ I1 q) fun us s2 ⟨vs,H2,I2,r,q2⟩=>⟨I2.pF,?_⟩) BK rC
 exact Pc (us:=.ref a :: us) (vs:=.ref a :: vs) F hr hb hd hx I2 (.cons rfl r) q2
theorem aah{pl:Qk Bool}(he:PE X o ta)(c:IX X.K C)(hm:Meth X.K C m f)(F:bc X.prog X.w X.K X.mg X.base CX k f fd ps sp)(hr:dD k X.A)(hb:Binds X.K fd ps ds)(hd:Vals fz ds)(hx:Passes CX X E)(ht:eval (.Call #[86] [] [] pos) X.env=(do
   let ov <- eval o X.env
   standAt apos.atName
   let (f,first) <- holding [ov] (getMethod ov m pl)
   callWith pos f first (backTo pos (qM [] X.env)) (backToKw pos #[76])):=by rfl):
  PE X (.Call #[86] [] [] pos) (RC C m sp fz E ta ac1):=by
 exists 4
 refine Yt (pl:=pl) (cD #[56] fun u s1 ⟨x,H1,I1,rx,a,dx,fs,ex,ea,l,q⟩=>?_) ht
 subst ex
 exists 15
 refine Ee I1 ea c hm l ?_
 exact PySem.W.callWith_K0 (first:=[.ref a]) I1.pF hm.kp (Pc (us:=[.ref a]) (vs:=[.ref a]) F hr hb hd hx I1 (.cons rfl .nil) q)
structure Mk(K:Wl)(C f:QQ):Prop where
 makes:yX K C=true
 init:Ws K #[20] "__init__" = some (some #[64])
 fn:Yg K #[64]=true
 kp:Wu K #[20]=true
theorem aaH{Q:VK}(M:Mk X.K C f)(F:bc X.prog X.w X.K X.mg X.base CX k f fd ps sp)(hr:dD (k+1) X.A)(hb:Binds X.K fd ps ds)(hd:Vals fz ds)(hx:Passes CX X E)(I:Inv X pins σ H s)(r:Vals vs us)(h:∀ x dx,H x=none->H dx=none->dx≠x->sp (.ref x :: (vs++fz)) (upd (upd H dx (.own x)) x (.ins C dx [])) (fun v H2=>v=.non/\Q #[89] H2) E):
  wpAny #[5] X.A (call #[20] us) #[54] X.xe s:=by
 have hq:=h #[23] s.heap.objs.size (I.hok.fresh (JU _)) #[68] (jR (Jx _))
 have I2:=Inv.made (C:=C) I
 have r2:Vals (V.ref #[23] :: (vs++fz)) (Wm #[23] :: (us++ds)):=.cons rfl (r.append hd)
 have hl:(Wm #[23] :: us++ds).length=ps.length:=by
  have e:=r2.length
  rw[F.len _ _ _ _ hq]at e
  exact e.symm
 refine qf (X6 (f:=f) I.pF M.makes M.init (beq_iff_eq.mp M.fn) (qA (F.run _ X.stack _ _ ⟨Wm #[23] :: us,[]⟩ (Wm #[23] :: (us++ds)) _ _ E (hr.make C us [])
  (I2.R3.make C us []) (hb _ (Wm #[23] :: us) I2.pF hl) r2 hq) fun r s' Ow=>?_))
 cases r with
 | error e=>exact hx pins σ _ _ e s' I2 Ow
 | ok fl =>
  cases fl with
  | ret u =>
   obtain⟨v,H',I3,rv,ev,q3⟩:=I2.after Ow
   subst ev
   exact⟨rv,⟨V.ref #[23],H',I3,rfl,q3⟩⟩
  | next=>exact False.elim Ow
  | brk=>exact False.elim Ow
  | cont=>exact False.elim Ow
theorem acA(M:Mk X.K C f)(F:bc X.prog X.w X.K X.mg X.base CX k f fd ps sp)(hr:dD (k+1) X.A)(hg:Gl X x)(hm:X.mg x=some #[20])(hb:Binds X.K fd ps ds)(hd:Vals fz ds)(hx:Passes CX X E)(ha:PA X (e :: es) t)(tI:#[15]=false:=by decide)(he:qM (e :: es) X.env=#[16] :: qM es X.env:=by rfl)(rC:#[22].any (·.1)=false:=by rfl):
  PE X #[18] (adJ C sp fz E t):=by
 exists 4
 refine qS (iV I hg hm ?_ tI)
 refine YG (h₀:=X.base) I.ok.mod.kin M.kp (cD #[42] fun us s1 ⟨vs,H1,I1,r,q⟩=>⟨I1.pF,?_⟩) he rC
 exact aaH M F hr hb hd hx I1 r q
end
structure aJ(N P:List Qm)(sc:Scope):Prop where
 kind:sc.kind=.function
 co:sc.isCoroutine=false
 gen:sc.isGenerator=false
 nd:N.Nodup
 pre:N.take P.length=P
 par:∀ x∈P,sc.names.lookup x=some .local\/sc.names.lookup x=some .cell
 nofree:∀ y∈sc.names,y.2≠.free
theorem FO{kindOf:Qm->Option Qg}:∀ {binds:List (Qm×Value)} {m:Qm->Option Value},(∀ v,(x,v)∉binds)->bindL kindOf binds m x=m x
 | [],_,_=>rfl
 | (n,v) :: r,m,h=>by
  unfold bindL
  rw[FO fun w hw=>h w (jI _ hw)]
  split
  ·have:x≠n:=by rintro rfl;exact h v jD
   simp[this]
  ·rfl
theorem FL{kindOf:Qm->Option Qg}:∀ {binds:List (Qm×Value)} {m:Qm->Option Value},(∀ v,(x,v)∉binds)->bindC kindOf binds m x=m x
 | [],_,_=>rfl
 | (n,v) :: r,m,h=>by
  unfold bindC
  rw[FL fun w hw=>h w (jI _ hw)]
  split
  ·rfl
  ·have:x≠n:=by rintro rfl;exact h v jD
   simp[this]
theorem FN{kindOf:Qm->Option Qg}{v:Value}:∀ {P:List Qm} {vs:List Value} {i:Nat} {m:Qm->Option Value},P.Nodup->P[i]?=some x->vs[i]?=some v->kindOf x=some .local ->
  bindL kindOf (P.zip vs) m x=some v
 | [],_,_,_,_,h,_,_=>by simp at h
 | _ :: _,[],_,_,_,_,h,_=>by simp at h
 | p :: P,w :: vs,0,m,nd,h1,h2,hk=>by
  simp at h1 h2;subst h1;subst h2
  show bindL kindOf ((p,w) :: P.zip vs) m p=_
  unfold bindL
  rw[FO fun v hv=>(jx.mp nd).1 (zo hv).1,if_pos hk]
  simp
 | p :: P,w :: vs,i+1,m,nd,h1,h2,hk=>by
  show bindL kindOf ((p,w) :: P.zip vs) m x=_
  unfold bindL
  exact FN (i:=i) (jx.mp nd).2 (by simpa using h1) (by simpa using h2) hk
theorem FK{kindOf:Qm->Option Qg}{v:Value}:∀ {P:List Qm} {vs:List Value} {i:Nat} {m:Qm->Option Value},P.Nodup->P[i]?=some x->vs[i]?=some v->kindOf x≠some .local ->
  bindC kindOf (P.zip vs) m x=some v
 | [],_,_,_,_,h,_,_=>by simp at h
 | _ :: _,[],_,_,_,_,h,_=>by simp at h
 | p :: P,w :: vs,0,m,nd,h1,h2,hk=>by
  simp at h1 h2;subst h1;subst h2
  show bindC kindOf ((p,w) :: P.zip vs) m p=_
  unfold bindC
  rw[FL fun v hv=>(jx.mp nd).1 (zo hv).1,if_neg hk]
  simp
 | p :: P,w :: vs,i+1,m,nd,h1,h2,hk=>by
  show bindC kindOf ((p,w) :: P.zip vs) m x=_
  unfold bindC
  exact FK (i:=i) (jx.mp nd).2 (by simpa using h1) (by simpa using h2) hk
def start(N:List Qm)(vs:List V):St:=vs.map some++JG (N.length-vs.length) none
def bP(CX:IW)(P:Qj)(w:World)(K:Wl)(mg:Qm->Option Value)(base:Heap)(N:List Qm)(qual:Qm)(scope:Scope)(f:QQ)(cd:Value)(A:Around)(outer:List QX)(s:Ql)(H:Hp)(E:XK):Cx where
 prog:=P
 w:=w
 K:=K
 mg:=mg
 base:=base
 A:=A.deeper #[14]
 N:=N
 s₀:=s
 H₀:=H
 env:=envOfC qual scope s.heap.objs.size f cd
 outer:=outer
 stack:=envOfC qual scope s.heap.objs.size f cd :: outer
 ex:=[]
 calm:=true
 fn:=fun _=>true
 pn:=[]
 xe:=fun e s'=>wpAny (model P w) (A.deeper #[14]) (leaving #[14] e) (fun _ s''=>CX outer H s E e s'') (fun e' s''=>CX outer H s E e' s'') s'
theorem K4(h:sc.names.lookup x=some .cell):∃ c,(cellsFrom n sc.names []).lookup x=some c:=by
 have q:=Yp sc.names n [] (.inl h)
 exact Ja.mp q
theorem G3{CX:IW}{f:QQ}{s1:Ql}{E:XK}(S:aJ N ps scope)(hd:A.handled=none)(e0:Fg P w K mg base A outer s H)(hl:vs.length=ps.length)(r:Vals vs us)(x:InCallC s s.heap.objs.size (bindL #[14].kindOf (ps.zip us) fun _=>none) (cellsFrom #[23] scope.names []) (bindC #[14].kindOf (ps.zip us) fun _=>none) s1):
  Inv (bP CX P w K mg base N qual scope f cd A outer s H E) [] (start N vs) H s1:=by
 have rC:ps.length<=N.length:=by have:=congrArg zG S.pre;rw[jQ]at this;omega
 obtain⟨h1,tk,rfl,hk⟩:=x.done
 have noA:∀ b:QQ,b∉(bP CX P w K mg base N qual scope f cd A outer s H E).ex:=fun b z=>absurd (show b∈([]:List QQ)from z) #[21]
 refine⟨⟨e0.mod,S.kind,rfl,rfl,jE _,fun y z c h1 h2=>?_,fun y hy=>?_,fun y c _ h=>?_,fun _=>hd,Around.frames_deeper e0.frames,.inr ⟨rfl,rfl⟩,fun b z=>absurd z (noA b),e0.bs,e0.bsz,fun b _ _=>noA b,fun b z=>absurd z (noA b),e0.Ap,e0.frf⟩,
  rfl,e0.bare,Un.kept hk,⟨_,x.toInCall.ns,fun i y v h1 h2 h3=>?_⟩,fun y c h=>⟨_,x.cell y c h⟩,e0.hok.fresh (jE _),fun y c h=>?_,fun p hp=>absurd (show p∈([]:List #[41])from hp) #[21],e0.hok.kept hk,?_⟩
 ·exact name_of_addr x.apart (YQ h1) (YQ h2)
 ·have hy:scope.names.lookup y=some .cell\/scope.names.lookup y=some .free:=hy
  rcases hy with hy|hy
  ·exact K4 hy
  ·exact absurd rfl (S.nofree _ (YQ hy))
 ·exact zK (x.above y c (YQ h))
 ·have hi:i<vs.length:=by
   unfold start at h2
   by_cases hi:i<vs.length
   ·exact hi
   ·rw[JH (by simpa using hi)]at h2
    rw[List.getElem?_replicate]at h2
    split at h2<;>cases h2
  have ha:vs[i]?=some v:=by
   unfold start at h2
   rw[jr (by simpa using hi),jN]at h2
   cases e:vs[i]? with
   | none=>rw[e]at h2;cases h2
   | some a=>rw[e]at h2;cases h2;rfl
  obtain⟨u,hu,rv⟩:=r.get ha
  have hp:ps[i]?=some y:=by
   rw[<- S.pre,List.getElem?_take_of_lt #[0]];exact h1
  have ndP:ps.Nodup:=by rw[<- S.pre];exact S.nd.sublist (Zo _ _)
  exists u,rv
  rcases S.par y (Jy hp)with k|k
  ·exact .inl ⟨k,FN ndP hp hu k⟩
  ·obtain⟨c,e⟩:=K4 (n:=s.heap.objs.size+1) k
   refine .inr ⟨.inl k,c,e,?_⟩
   have q:=x.cell y c e
   rw[FK ndP hp hu (by show scope.names.lookup y≠_;rw[k];decide)]at q
   exact q
 ·exact e0.hok.fresh (zK (x.above y c (YQ h)))
 ·unfold start
  show _=N.length
  rw[jG,jX,List.length_replicate]
  omega
theorem T4{CX:IW}{k:Nat}{f:QQ}{dV kV doc pm cw ct oc:Value}{sp:Sp}(lk:K.lookup f=some ⟨oc,od,.func (Ww name qual params body scope dV kV doc pm an cw ct),Fz⟩)(Fm:YH K cw qual=true)(S:aJ N ps scope)(len:∀ vs H Q E,sp vs H Q E->vs.length=ps.length)(tH:∀ (A:Around) (outer:List QX) (s:Ql) (H:Hp) (vs:List V) (Q:VK) (E:XK),dD k (A.deeper (envOfC qual scope s.heap.objs.size f cw))->sp vs H Q E ->
   ∃ t,Fe (bP CX P w K mg base N qual scope f cw A outer s H E) body t/\t { nx:=fun _ H'=>Q .non H',rt:=Q } (start N vs) H):
  bc P w K mg base CX (k+1) f (Ww name qual params body scope dV kV doc pm an cw ct) ps sp:=by
 refine⟨len,fun A outer s H args us vs Q E hr e0 hb r Lu=>?_⟩
 have hl:=len _ _ _ _ Lu
 have KX:K.In s.heap:=e0.mod.kin.keeps fun b o e=>(e0.bs b o e).1
 have lim:s.heap.NoLimit:=e0.mod.nolimit.keeps fun b o e=>(e0.bs b o e).1
 have V3:∀ y∈ps.zip us,scope.names.lookup y.1=some .local\/(scope.names.lookup y.1=some .cell/\((cellsFrom #[23] scope.names []).lookup y.1).isSome=true):=fun⟨n,v⟩ hy=>by
  rcases S.par n (zo hy).1 with q|q
  ·exact .inl q
  ·exact .inr ⟨q,Yp _ _ _ (.inl q)⟩
 refine Qx hr.depth (KX _ _ lk) rfl S.co S.gen rfl (XB KX Fm) (hb _ _ _ _ ?_)
 refine WM S.kind V3 fun env he s1 x=>?_
 subst he
 refine⟨lim.keeps x.toInCall.keep,codeAny_func ?_⟩
 obtain⟨t,ht,hq⟩:=tH A outer s H vs Q E (hr.deeper _) Lu
 have I:Inv (bP CX P w K mg base N qual scope f cw A outer s H E) [] (start N vs) H s1:=G3 S hr.hd e0 hl r x
 refine WL (ht [] s1 (start N vs) H _ I hq) (fun fl s' hs=>?_) fun e s' hs=>hs
 have fin:∀ {σ':St} {H':Hp} {v:V} {u:Value},Inv (bP CX P w K mg base N qual scope f cw A outer s H E) [] σ' H' s'->RelV v u->Q v H'->CE outer P w H s Q u s' :=
  fun {σ' H' v u} J rv q=>⟨v,H',J.os,J.bare,J.base,J.hok,rv,q⟩
 cases fl with
 | ret u =>
  obtain⟨v,σ',H',J,rv,q⟩:=hs
  exact fin J rv q
 | next =>
  obtain⟨σ',H',J,q⟩:=hs
  exact fin (v:=V.non) (u:=Wt) J rfl q
 | brk =>
  obtain⟨_,_,_,q⟩:=hs
  exact False.elim q
 | cont =>
  obtain⟨_,_,_,q⟩:=hs
  exact False.elim q
section
variable{t:TA}{id T:String}{r:List V->Hp->VK->Prop}
def tCB(r:List V->Hp->VK->Prop)(t:TA):TE:=fun σ H Q=>t σ H fun vs H1=>r vs H1 Q
theorem ay(hc:lH X (.builtin id) r)(hg:Gl X x)(hm:X.mg x=none)(hv:Qr x=some (.builtin id))(ha:PA X (e :: es) t)(hn:x ≠ "__name__" := by decide)(tI:#[15]=false:=by decide)(he:qM (e :: es) X.env=#[16] :: qM es X.env:=by rfl)(rC:#[22].any (·.1)=false:=by rfl):PE X #[18] (tCB r t):=by
 exists 4
 refine qS (pH I hg hm hv ?_ hn tI)
 exact Yv (cD #[42] fun us s1 ⟨vs,H1,I1,r1,q1⟩=>hc pins s1 σ H1 vs us Q I1 r1 q1) he rC
theorem bj(hc:lH X (.type T) r)(hg:Gl X x)(hm:X.mg x=none)(hv:Qr x=some (.type T))(ha:PA X (e :: es) t)(hn:x ≠ "__name__" := by decide)(tI:#[15]=false:=by decide)(he:qM (e :: es) X.env=#[16] :: qM es X.env:=by rfl)(rC:#[22].any (·.1)=false:=by rfl):PE X #[18] (tCB r t):=by
 exists 4
 refine qS (pH I hg hm hv ?_ hn tI)
 exact Wv (cD #[42] fun us s1 ⟨vs,H1,I1,r1,q1⟩=>hc pins s1 σ H1 vs us Q I1 r1 q1) he rC
end
end L2
namespace HT
open PySem PyProof.Rows
variable{prog:Qj}{w:World}{A:Around}{E Q:Value→Ql→Prop}{s:Ql}{v vl vu:Value}{sl:QQ}{n:Nat}{items:Array Value}
section
open PySem.SeqAt
open PySem.AutoSeq1 (wpAny_loadPart')
open PySem.MeetsSeq PySem.MeetsSeq2 PySem.MeetsSeq3
end
section
def fZ(n d:Nat):Option Int->Nat
 | none=>d
 | some v=>if v<0 then(v+(n:Int)).toNat else min v.toNat n
theorem afd(n d:Nat)(hd:d<=n)(o:Option Int):fZ n d o<=n:=by
 cases o with
 | none=>exact hd
 | some v =>
  show(if v<0 then(v+(n:Int)).toNat else min v.toNat n)<=n
  by_cases hv:v<0
  ·rw[if_pos hv];omega
  ·rw[if_neg hv];exact Nat.min_le_right _ _
theorem PQ(v:Int)(n d:Nat):(if v<0 then max (v+(n:Int)) 0 else min v (n:Int))=((fZ n d (some v):Nat):Int):=by
 show(if v<0 then max (v+(n:Int)) 0 else min v (n:Int))=(((if v<0 then(v+(n:Int)).toNat else min v.toNat n):Nat):Int)
 by_cases hv:v<0
 ·simp only[if_pos hv];omega
 ·simp only[if_neg hv];omega
theorem N4(lo hi:Option Int)(n:Nat):Yk lo hi 1 (n:Int)=(((fZ n 0 lo:Nat):Int),((fZ n n hi:Nat):Int)):=by
 have h1:¬ ((1:Int)<0):=by omega
 unfold Yk
 simp only[h1,if_false]
 refine Prod.ext ?_ ?_
 ·cases lo with
  | none=>rfl
  | some v=>exact PQ v n 0
 ·cases hi with
  | none=>rfl
  | some v=>exact PQ v n n
theorem O7(i j:Nat):YX (i:Int) (j:Int) 1=j-i:=by
 unfold YX
 have h1:(1:Int) > 0:=by omega
 simp only[h1,if_true,Int.ediv_one]
 split<;>omega
theorem EW{o:Option Int}{Q:Option Int->Ql->Prop}(p:Qb v o)(h:Q o s):wpAny #[9] A (Xb v) Q E s:=by
 cases p with
 | none=>exact slicePart_none h
 | int i t=>exact slicePart_int h
theorem rp{lo hi:Option Int}{Q:Int×Int×Nat->Ql->Prop}(hs:s.heap.IsSliceOf sl vl vu .none)(pl:Qb vl lo)(pu:Qb vu hi)(h:Q (((fZ n 0 lo:Nat):Int),1,fZ n n hi-fZ n 0 lo) s):wpAny #[9] A (yI (.ref sl) (pure (n:Int))) Q E s:=by
 obtain⟨os,hos,hcs,hds⟩:=id hs
 unfold yI Xs
 refine qd (qd (qy hos hds (x:=vl) rfl (qd (qy hos hds (x:=vu) rfl (qd (qy hos hds (x:=.none) rfl (WS ?_)))))))
 refine qd (slicePart_none ?_)
 show wpAny _ _ (if ((1:Int)==0)=true then _ else _) _ _ s
 rw[if_neg #[7]]
 refine qd (EW pl (qd (EW pu (qd (WS ?_)))))
 show wpAny _ _ (match Yk lo hi 1 (n:Int)with|(lo,hi)=>pure (lo,(1:Int),YX lo hi 1)) _ _ s
 rw[N4 lo hi n]
 show wpAny _ _ (pure (((fZ n 0 lo:Nat):Int),(1:Int),YX ((fZ n 0 lo:Nat):Int) ((fZ n n hi:Nat):Int) 1)) _ _ s
 rw[O7]
 exact WS h
theorem aar(xs:Array Value)(i k:Nat):((jd k).filterMap fun(m:Nat)=>xs[((i:Int)+(m:Int)*1).toNat]?).toArray=((xs.toList.drop i).take k).toArray:=by
 have e:(fun(m:Nat)=>xs[((i:Int)+(m:Int)*1).toNat]?)=fun m=>xs[i+m]? := by
  funext m
  have:((i:Int)+(m:Int)*1).toNat=i+m:=by omega
  rw[this]
 rw[e]
 have:=pick_run xs i k
 rw[List.filterMap_map]at this
 have e2:((fun x=>xs[x]?) ∘ fun x=>i+x)=fun m=>xs[i+m]? := rfl
 rw[e2]at this
 rw[this]
theorem AZ{t:QQ}{lo hi:Option Int}(ht:Qc s.heap t items)(hs:s.heap.IsSliceOf sl vl vu .none)(pl:Qb vl lo)(pu:Qb vu hi)(hw:¬ (fZ items.size 0 lo=0/\fZ items.size items.size hi=items.size))(h:Q #[51] { s with heap:=s.heap.push { cls:=.type "tuple",data:=.seq ((items.toList.drop (fZ items.size 0 lo)).take #[28]).toArray } })(hsz:items.size<=sizeLine):wpAny #[9] A (getItem (.ref t) (.ref sl)) Q E s:=by
 have Q1:sizeOk (.seq ((items.toList.drop (fZ items.size 0 lo)).take #[28]).toArray):=by
  show((items.toList.drop (fZ items.size 0 lo)).take #[28]).toArray.size<=sizeLine
  rw[jP,jQ,Jz,Jd]
  omega
 have hj:fZ items.size items.size hi<=items.size:=afd _ _ (jE _) hi
 obtain⟨os,hos,hcs,hds⟩:=id hs
 have hTs:s.TypeIs (.ref sl) "slice" := ⟨os,hos,hcs⟩
 unfold getItem
 try with_reducible refine WB ?_
 first|refine qd (WS ?_)|skip
 refine qd (Wd ht.typeIs #[7] ?_)
 refine qd (qg (name:=Str.ofString "__getitem__") ht.typeIs YJ
  (qh YJ ht.typeIs entry_tuple_getitem ?_ (Qo _ _)))
 show wpAny _ _ (yJ (.ref t)>>=_) _ _ s
 refine qd (tupleItemsOf_ ht ?_)
 refine qd (Wk hTs ?_)
 rw[if_pos #[7]]
 refine qd (rp hs pl pu ?_)
 have hno:¬ ((((fZ items.size 0 lo:Nat):Int)==0&&(1:Int)==1&&#[28]==items.size)=true):=by
  intro q
  rw[Je,Je]at q
  have q1:((fZ items.size 0 lo:Nat):Int)=0:=eq_of_beq q.1.1
  have q2:fZ items.size items.size hi-fZ items.size 0 lo=items.size:=eq_of_beq q.2
  exact hw ⟨by omega,by omega⟩
 show wpAny _ _ (if (((fZ items.size 0 lo:Nat):Int)==0&&(1:Int)==1&&#[28]==items.size)=true then _ else _) _ _ s
 rw[if_neg hno,aar]
 first
  | exact qd (m:=Ya _) (WN (WS ⟨_,rfl,WS h⟩) Q1)
  | exact qd (m:=Ya _) (WN (qd (WS (WS ⟨_,rfl,WS h⟩))) Q1)
  | exact qd (qd (m:=Ya _) (WN (WS (WS ⟨_,rfl,WS h⟩)) Q1))
  | exact qd (qd (m:=Ya _) (WN (WS ⟨_,rfl,WS h⟩) Q1))
end
end HT
namespace L2
open PySem PySem.Spec PyProof.Rows
variable{X:Cx}{e:Expr}{te:TE}{pos:Pos}{α:Type}{n j t':Nat}{i:Int}{r:R2}{pins:List (QQ×Obj)}{σ:St}{H:Hp}{s:Ql}{p:QQ}{xs ys:List V}{bz its' us:List Value}{A:Around}{y x:V}{u v:Value}{es:List Expr}{name:Qm}{prog:Qj}{w:World}
abbrev TO:=St->Hp->(Option Int->Hp->Prop)->Prop
def PO(X:Cx)(e:Option Expr)(t:TO):Prop:=
 ∀ (pins:List #[41]) (s:Ql) (σ:St) (H:Hp) (Q:Option Int->Hp->Prop),Inv X pins σ H s->t σ H Q ->
  wpAny #[5] X.A (evalPart e X.env) (fun u s'=>∃ o H',Inv X pins σ H' s'/\Qb u o/\Q o H') X.xe s
def ac2:TO:=fun _ H Q=>Q none H
inductive ac4 (Q:Option Int->Hp->Prop) (x:V) (H1:Hp):Prop
 | mk (i:_) (_:x=.int i) (_:Q (some i) H1)
def aiE(t:TE):TO:=fun σ H Q=>t σ H (ac4 Q)
section
variable{lo hi:Option Expr}{tl th:TO}{p2:Pos}
theorem Iv:PO X none ac2:=by
 exists 4
 rw[evalPart_none]
 exact WS ⟨none,H,I,.none,h⟩
theorem Iw(h:PE X e te):PO X (some e) (aiE te):=by
 intro pins s σ H Q I hw
 rw[evalPart_some]
 refine cD (h pins s σ H _ I hw) fun u s1 ⟨x,H1,I1,r1,q1⟩=>?_
 obtain⟨i,rfl,q⟩:=q1
 obtain⟨t,rfl⟩:=r1
 exact⟨some i,H1,I1,.int i t,q⟩
def SlR(X:Cx)(r:V->Option Int->Option Int->Hp->VK->Prop):Prop:=
 ∀ (pins:List #[41]) (s:Ql) (σ:St) (H:Hp) (x:V) (v vl vu:Value) (lo hi:Option Int) (sl:QQ) (Q:VK),Inv X pins σ H s->RelV x v->s.heap.IsSliceOf sl vl vu .none->Qb vl lo->Qb vu hi->r x lo hi H Q ->
  ∃ T id,typeLookup (.type T) "__getitem__" = pure (some (.builtin id))/\s.TypeIs v T/\wpAny #[5] X.A (getItem v (.ref sl)) #[54] X.xe s
def tSl(r:V->Option Int->Option Int->Hp->VK->Prop)(te:TE)(tl th:TO):TE:=fun σ H Q=>te σ H fun x H1=>tl σ H1 fun l H2=>th σ H2 fun u H3=>r x l u H3 Q
theorem EH{r:V->Option Int->Option Int->Hp->VK->Prop}(hr:SlR X r)(he:PE X e te)(hl:PO X lo tl)(hu:PO X hi th):PE X (.Subscript e (.Slice lo hi none p2) pos) (tSl r te tl th):=by
 exists 4
 refine Qn (cD #[56] fun v s1 ⟨x,H1,I1,r1,q1⟩=>?_)
 refine wpAny_Slice (cD (hl pins s1 σ H1 _ I1 q1) fun vl s2 ⟨l,H2,I2,pl,q2⟩=>cD (hu pins s2 σ H2 _ I2 q2) fun vu s3 ⟨u,H3,I3,pu,q3⟩=>?_)
 rw[evalPart_none]
 refine WS ?_
 have I4:Inv X pins σ H3 { s3 with heap:=s3.heap.push { cls:=.type "slice",data:=.fields #[vl,vu,.none] } }:=I3.kept (t' := s3.toks) fun b ob q=>jC _ q
 obtain⟨T,id,hT,ht,hg⟩:=hr pins { s3 with heap:=s3.heap.push { cls:=.type "slice",data:=.fields #[vl,vu,.none] } } σ H3 x v vl vu l u s3.heap.objs.size Q I4 r1 (xj ..) pl pu q3
 show wpAny #[5] X.A (subscriptTail e (.Slice lo hi none p2) v (.ref s3.heap.objs.size)) #[54] X.xe { s3 with heap:=s3.heap.push { cls:=.type "slice",data:=.fields #[vl,vu,.none] } }
 exact tail_any (ops:=[.ref s3.heap.objs.size,v]) ht hT hg #[71]
def B4(xs:List V)(lo hi:Option Int):List V:=(xs.drop (HT.fZ xs.length 0 lo)).take (HT.fZ xs.length xs.length hi-HT.fZ xs.length 0 lo)
theorem Cy(xs:List V)(lo hi:Option Int):(B4 xs lo hi).length<=xs.length:=by
 unfold B4
 rw[jQ,Jz]
 omega
inductive amc (K:Wl) (x:V) (lo:Option Int) (hi:Option Int) (H:Hp) (Q:VK):Prop
 | mk (a:_) (xs:_) (_:x=.ref a) (_:sQ K H a xs) (_:¬ (HT.fZ xs.length 0 lo=0/\HT.fZ xs.length xs.length hi=xs.length)) (_:∀ p,H p=none->Q (.ref p) (upd H p (.tup (B4 xs lo hi))))
theorem afj:SlR X (amc X.K):=by
 intro pins s σ H x v vl vu lo hi sl Q I rx hs pl pu h
 obtain⟨a,xs,rfl,hx,hw,q⟩:=h
 cases rx
 obtain⟨bz,r,ht,hz⟩:=I.tuple hx
 have hlen:bz.toArray.size=xs.length:=by rw[jP];exact r.length.symm
 exists "tuple",_,PyProof.Rows.slot_tuple_getitem.lookup,ht.typeIs
 refine HT.AZ ht hs pl pu (by rw[hlen];exact hw) ?_ (by rw[hlen];exact hz)
 rw[hlen]
 refine⟨.ref s.heap.objs.size,_,I.laid (t' := s.toks) (o:=.tup (B4 xs lo hi)) (fun b ob q=>jC _ q) (jE _) ?_,rfl,q _ #[68]⟩
 exact⟨jf (Cy xs lo hi) hz,_,(r.drop (HT.fZ xs.length 0 lo)).take (HT.fZ xs.length xs.length hi-HT.fZ xs.length 0 lo),IsTup.new _ _⟩
end
def Sk(n:Nat)(i:Int):Option Nat:=if 0<=i then(if i<n then some i.toNat else none)else if -(n:Int)<=i then some (i+n).toNat else none
def wO(xs:List α)(i:Int):Option α:=(Sk xs.length i).bind fun j=>xs[j]?
theorem Q3(h:Sk n i=some j):seqIndex? i n=some j/\j<n/\-(n:Int)<=i/\i<n:=by
 unfold Sk at h
 by_cases h0:0<=i
 ·rw[if_pos h0]at h
  by_cases h1:i<n
  ·rw[if_pos h1]at h
   have e:i.toNat=j:=Option.some.inj h
   exact⟨by rw[qK h0 h1,e],by omega,by omega,h1⟩
  ·rw[if_neg h1]at h;cases h
 ·rw[if_neg h0]at h
  by_cases h1 : -(n:Int)<=i
  ·rw[if_pos h1]at h
   have e:(i+n).toNat=j:=Option.some.inj h
   exact⟨by rw[seqIndex_neg #[0] h1,e],by omega,h1,by omega⟩
  ·rw[if_neg h1]at h;cases h
theorem PK{xs:List α}{v:α}(h:wO xs i=some v):∃ j,seqIndex? i xs.length=some j/\xs[j]?=some v/\j<xs.length/\-(xs.length:Int)<=i/\i<xs.length:=by
 unfold wO at h
 cases e:Sk xs.length i with
 | none=>rw[e]at h;cases h
 | some j =>
  rw[e]at h
  obtain⟨h1,h2,h3,h4⟩:=Q3 e
  exact⟨j,h1,h,h2,h3,h4⟩
theorem pf{xs:List α}{v:α}(h:xs[j]?=some v):wO xs (j:Int)=some v:=by
 have hj:j<xs.length:=(jc.mp h).1
 have e:Sk xs.length (j:Int)=some j:=by
  unfold Sk
  rw[if_pos #[0],if_pos #[0]];simp
 unfold wO;rw[e];exact h
theorem TJ(xs:List α)(v:α):wO (xs++[v]) (-1)=some v:=by
 have hl:(xs++[v]).length=xs.length+1:=by simp
 have e:Sk (xs++[v]).length (-1)=some xs.length:=by
  unfold Sk
  rw[hl,if_neg #[7],if_pos #[0]]
  congr 1
  omega
 unfold wO
 rw[e]
 show(xs++[v])[xs.length]?=some v
 simp
def PJ(b:Expr):Prop := ∀ o i,subscripted b false o i=operate [o,i] (getItem o i)
def IxR(X:Cx)(r:R2):Prop:=
 ∀ (value slice:Expr) (pins:List #[41]) (s:Ql) (σ:St) (H:Hp) (x y:V) (v u:Value) (Q:VK),Inv X pins σ H s->RelV x v->RelV y u->r x y H Q ->
  subscripted slice false v u=operate [v,u] (getItem v u)->wpAny #[5] X.A (subscriptTail value slice v u) #[54] X.xe s
def MtR(X:Cx)(id:String)(r:V->List V->Hp->VK->Prop):Prop:=
 ∀ (pins:List #[41]) (s:Ql) (σ:St) (H:Hp) (x:V) (xs:List V) (v:Value) (us:List Value) (Q:VK),Inv X pins σ H s->RelV x v->Vals xs us->r x xs H Q ->
  wpAny #[5] X.A (call (.builtin id) (v :: us)) #[54] X.xe s
section
variable{a b:Expr}{ta tb:TE}
theorem aF(hr:IxR X r)(ha:PE X a ta)(hb:PE X b tb)(hs:PJ b):PE X (.Subscript a b pos) (tOp r ta tb):=by
 exists 4
 exact Qn (ad3 ha hb I h fun v u s2 x y H2 I2 rx ry q=>hr a b pins s2 σ H2 x y v u Q I2 rx ry q (hs _ _))
inductive aih (K:Wl) (x:V) (y:V) (H:Hp) (Q:VK):Prop
 | mk (p:_) (xs:_) (i:_) (v:_) (_:x=.ref p) (_:y=.int i) (_:oM K H p xs) (_:wO xs i=some v) (_:Q v H)
inductive aii (K:Wl) (x:V) (y:V) (H:Hp) (Q:VK):Prop
 | mk (p:_) (xs:_) (i:_) (v:_) (_:x=.ref p) (_:y=.int i) (_:sQ K H p xs) (_:wO xs i=some v) (_:Q v H)
theorem cF:IxR X (aih X.K):=by
 intro value slice pins s σ H x y v u Q I rx ry h hs
 obtain⟨p,xs,i,z,rfl,rfl,hq,he,q⟩:=h
 cases rx
 obtain⟨t,rfl⟩:=ry
 obtain⟨bz,r,pl,hz⟩:=I.list hq
 obtain⟨j,h1,h2,h3,h4,h5⟩:=PK he
 obtain⟨w,ew,Ho⟩:=r.get h2
 have hl:=r.length
 have hn:=Es
 have fin:EP X pins σ Q w s:=⟨z,H,I,Ho,q⟩
 by_cases h0:0<=i
 ·have hj:i.toNat=j:=by
   rw[qK h0 h5]at h1
   exact Option.some.inj h1
  exact item_listR pl.isList h0 #[0] (by rw[hj];simpa using ew) fin hs
 ·have hj:(i+(bz.toArray.size:Int)).toNat=j:=by
   rw[seqIndex_neg #[0] h4]at h1
   rw[jP,<- hl]
   exact Option.some.inj h1
  exact qN (x:=w) pl.isList.typeIs slot_list_getitem.lookup
   (wpAny_getItem_list_neg (Q:=fun r s'=>r=w/\EP X pins σ Q r s') pl.isList #[0] (by rw[jP]<;>omega) #[0] (by rw[hj];simpa using ew) ⟨rfl,fin⟩) hs
theorem aG:IxR X (aii X.K):=by
 intro value slice pins s σ H x y v u Q I rx ry h hs
 obtain⟨p,xs,i,z,rfl,rfl,hq,he,q⟩:=h
 cases rx
 obtain⟨t,rfl⟩:=ry
 obtain⟨bz,r,pl,hz⟩:=I.tuple hq
 obtain⟨j,h1,h2,h3,h4,h5⟩:=PK he
 obtain⟨w,ew,Ho⟩:=r.get h2
 have hl:=r.length
 have hn:=Es
 have fin:EP X pins σ Q w s:=⟨z,H,I,Ho,q⟩
 exact qN (x:=w) pl.typeIs slot_tuple_getitem.lookup
  (getItem_tuple (j:=j) (Q:=fun r s'=>r=w/\EP X pins σ Q r s') pl #[0] #[0] (by rw[jP,<- hl];exact h1) (by simpa using ew) ⟨rfl,fin⟩) hs
theorem OH(bz:List Value)(n j:Nat)(u:Value):Obj.mapSeq (·.setIfInBounds j u) { cls:=.type "list",data:=.seq bz.toArray n }={ cls:=.type "list",data:=.seq (bz.set j u).toArray n }:=by
 simp[Obj.mapSeq]
theorem Inv.lst{pins:List #[41]}{σ:St}{H:Hp}{s:Ql}{p:QQ}{xs:List V}(I:Inv X pins σ H s)(h:H p=some #[109]):
  ∃ (bz:List Value) (n:Nat),Vals xs bz/\s.heap.get? p=some { cls:=.type "list",data:=.seq bz.toArray n }/\xs.length<=sizeLine:=by
 obtain⟨z,bz,n,r,e⟩:=I.hok p _ h
 exact⟨bz,n,r,e,z⟩
theorem Inv.aeT{n':Nat}{f:Obj->Obj}(I:Inv X pins σ H s)(h:H p=some #[109])(ho:s.heap.get? p=some { cls:=.type "list",data:=.seq bz.toArray n })(hf:f { cls:=.type "list",data:=.seq bz.toArray n }={ cls:=.type "list",data:=.seq its'.toArray n' })(r:Vals ys its')(hz:ys.length<=sizeLine)(t:Nat):
  Inv X pins σ (upd H p #[93]) { s with heap:=s.heap.update p f,toks:=t }:=by
 have e:(s.heap.update p f).get? p=some { cls:=.type "list",data:=.seq its'.toArray n' }:=by
  rw[JD f ho (by rw[hf]<;>rfl),hf]
 refine I.write (x:=p) (e:=p) (by rw[h];trivial) #[81] (fun b u hb q=>(jt _ _ (Ne.symm hb)).trans q) ⟨_,e⟩ ?_
 exact⟨hz,its',n',r,e⟩
inductive aij (o:V) (i:V) (v:V) (H:Hp) (Q:Hp->Prop):Prop
 | mk (p:_) (xs:_) (k:_) (j:_) (_:o=.ref p) (_:i=.int k) (_:H p=some #[109]) (_:Sk xs.length k=some j) (_:Q (upd H p (.lst (xs.set j v))))
theorem set_list:agA X aij:=by
 intro pins s σ H o i v ov iv u Q I ro ri rv h
 obtain⟨p,xs,k,j,rfl,rfl,hp,hj,q⟩:=h
 cases ro
 obtain⟨t,rfl⟩:=ri
 obtain⟨bz,n,r,ho,hz⟩:=I.lst hp
 obtain⟨h1,h2,h3,h4⟩:=Q3 hj
 have hl:=r.length
 have hn:=Es
 have I':Inv X pins σ (upd H p (.lst (xs.set j v))) { s with heap:=s.heap.update p (Obj.mapSeq (·.setIfInBounds j u)) }:=
  I.aeT hp ho (OH bz n j u) (r.set rv j) (by rw[zp];exact hz) s.toks
 by_cases h0:0<=k
 ·have hk:k.toNat=j:=by
   rw[qK h0 h4]at h1
   exact Option.some.inj h1
  exact PySem.W.ki_setAt ho h0 #[0] (by rw[jP,<- hl];exact h4) (by rw[hk];exact⟨_,I',q⟩)
 ·have hk:(k+(bz.toArray.size:Int)).toNat=j:=by
   rw[seqIndex_neg #[0] h3]at h1
   rw[jP,<- hl]
   exact Option.some.inj h1
  exact PySem.W.ki_setBack ho #[0] (by rw[jP,<- hl];exact h3) #[0] (by rw[hk];exact⟨_,I',q⟩)
theorem IJ(lo hi:Option Int)(n:Nat):(sliceBounds lo hi none n).1=((HT.fZ n 0 lo:Nat):Int)/\(sliceBounds lo hi none n).2.1=((HT.fZ n n hi:Nat):Int)/\(sliceBounds lo hi none n).2.2=1:=by
 refine⟨?_,?_,rfl⟩
 ·cases lo with
  | none=>simp[sliceBounds,HT.fZ]
  | some i =>
   simp only[sliceBounds,HT.fZ,Zv,show(1:Int) > 0 by decide,if_true]
   by_cases h:i<0
   ·simp only[h,if_true]<;>omega
   ·simp only[h,if_false]<;>omega
 ·cases hi with
  | none=>simp[sliceBounds,HT.fZ]
  | some i =>
   simp only[sliceBounds,HT.fZ,Zv,show(1:Int) > 0 by decide,if_true]
   by_cases h:i<0
   ·simp only[h,if_true]<;>omega
   ·simp only[h,if_false]<;>omega
theorem FE(bz:List Value)(lo hi:Option Int):slicePick bz.toArray lo hi none=((bz.drop (HT.fZ bz.length 0 lo)).take (HT.fZ bz.length bz.length hi-HT.fZ bz.length 0 lo)).toArray:=by
 obtain⟨h1,h2,h3⟩:=IJ lo hi bz.toArray.size
 unfold slicePick
 rw[h1,h2,h3]
 simp only[sliceRange_one,pick_run,jP]<;>rfl
inductive amb (K:Wl) (x:V) (lo:Option Int) (hi:Option Int) (H:Hp) (Q:VK):Prop
 | mk (a:_) (xs:_) (_:x=.ref a) (_:oM K H a xs) (_:∀ p,H p=none->Q (.ref p) (upd H p (.lst (B4 xs lo hi))))
theorem II:SlR X (amb X.K):=by
 intro pins s σ H x v vl vu lo hi sl Q I rx hs pl pu h
 obtain⟨a,xs,rfl,hx,q⟩:=h
 cases rx
 obtain⟨bz,r,ht,hz⟩:=I.list hx
 have hlen:=r.length
 exists "list",_,slot_list_getitem.lookup,ht.isList.typeIs
 refine wpAny_getItem_list_slice ht.isList hs pl pu .none #[21] ?_ (by rw[jP]<;>omega)
 rw[FE,<- hlen]
 refine⟨.ref s.heap.objs.size,_,I.laid (t' := s.toks) (o:=.lst (B4 xs lo hi)) (fun b ob q=>jC _ q) (jE _) ?_,rfl,q _ #[68]⟩
 exact⟨jf (Cy xs lo hi) hz,_,0,(r.drop (HT.fZ xs.length 0 lo)).take (HT.fZ xs.length xs.length hi-HT.fZ xs.length 0 lo),jL _ rfl⟩
def pj:V->Bool
 | .non=>true
 | .bl _=>true
 | .int _=>true
 | .str _=>true
 | _=>false
def P5:V->V->Bool
 | .non,.non=>true
 | .bl a,.bl b=>a==b
 | .bl a,.int b=>(if a then 1 else 0)==b
 | .int a,.bl b=>a==(if b then 1 else 0)
 | .int a,.int b=>a==b
 | .str a,.str b=>a==b
 | _,_=>false
theorem TZ(ry:RelV y u)(rx:RelV x v)(fy:pj y=true)(fx:pj x=true):Yw A s u v (P5 y x):=by
 cases y with
 | non =>
  cases ry
  cases x with
  | non=>cases rx;exact XW _
  | bl b=>cases rx;exact xQ b
  | int b=>obtain⟨t,rfl⟩:=rx;exact xU b t
  | str b=>obtain⟨t,rfl⟩:=rx;exact xV b t
  | _=>exact absurd (show false=true from fx) jV
 | bl a =>
  cases ry
  cases x with
  | non=>cases rx;exact xR a
  | bl b=>cases rx;exact xS a b
  | int b=>obtain⟨t,rfl⟩:=rx;exact xW a b t
  | str b=>obtain⟨t,rfl⟩:=rx;exact xX a b t
  | _=>exact absurd (show false=true from fx) jV
 | int a =>
  obtain⟨t',rfl⟩:=ry
  cases x with
  | non=>cases rx;exact xY a t'
  | bl b=>cases rx;exact xZ a t' b
  | int b=>obtain⟨t,rfl⟩:=rx;exact XC a t' b t
  | str b=>obtain⟨t,rfl⟩:=rx;exact yu a t' b t
  | _=>exact absurd (show false=true from fx) jV
 | str a =>
  obtain⟨t',rfl⟩:=ry
  cases x with
  | non=>cases rx;exact xb a t'
  | bl b=>cases rx;exact xg a t' b
  | int b=>obtain⟨t,rfl⟩:=rx;exact yw a t' b t
  | str b=>obtain⟨t,rfl⟩:=rx;exact xk a t' b t
  | _=>exact absurd (show false=true from fx) jV
 | _=>exact absurd (show false=true from fy) jV
def eqU(x:V)(u:Value):Bool:=match u with
 | .none=>P5 .non x
 | .bool b=>P5 (.bl b) x
 | .int i _=>P5 (.int i) x
 | .str z _=>P5 (.str z) x
 | _=>false
theorem T2(r:RelV y u)(f:pj y=true):eqU x u=P5 y x:=by
 cases y with
 | non=>cases r;rfl
 | bl b=>cases r;rfl
 | int i=>obtain⟨t,rfl⟩:=r;rfl
 | str z=>obtain⟨t,rfl⟩:=r;rfl
 | _=>exact absurd (show false=true from f) jV
theorem HN:∀ {xs:List V} {us:List Value},Vals xs us->xs.all pj=true->us.any (eqU x)=xs.any fun y=>P5 y x
 | _,_,.nil,_=>rfl
 | y :: xs,u :: us,.cons r t,f=>by
  rw[Ze,Je]at f
  rw[zY,zY,T2 r f.1,HN t f.2]
theorem Ey(rx:RelV x v)(fx:pj x=true):∀ {xs:List V} {us:List Value},Vals xs us->xs.all pj=true->∀ u∈us,Yw A s u v (eqU x u)
 | _,_,.nil,_=>fun u hu=>by cases hu
 | y :: xs,u :: us,.cons r t,f=>fun u' hu=>by
  rw[Ze,Je]at f
  rcases jY.mp hu with rfl|hu
  ·rw[T2 r f.1];exact TZ r rx f.1 fx
  ·exact Ey rx fx t f.2 u' hu
def inV(x:V)(xs:List V):Bool:=xs.any fun y=>P5 y x
inductive rIn (K:Wl) (neg:Bool) (x:V) (y:V) (H:Hp) (Q:VK):Prop
 | mk (p:_) (xs:_) (_:y=.ref p) (_:(oM K H p xs\/sQ K H p xs)) (_:pj x=true) (_:xs.all pj=true) (_:Q (.bl (if neg then !inV x xs else inV x xs)) H)
theorem Hk:BS X (qB .In) (rIn X.K false):=by
 exists 7
 obtain⟨p,xs,rfl,hq,fx,fs,q⟩:=h
 cases ry
 rcases hq with hq|hq
 ·obtain⟨bz,r,pl,hz⟩:=I.list hq
  refine SeqAt.in_listAt (eqU x) pl.isList (fun w hw=>Ey rx fx r fs w (by simpa using hw)) ⟨.bl _,H,I,rfl,?_⟩
  rw[show bz.toArray.any (eqU x)=bz.any (eqU x) by simp,HN r fs]
  exact q
 ·obtain⟨bz,r,pl,hz⟩:=I.tuple hq
  refine SeqAt.in_tupleAt (eqU x) pl (fun w hw=>Ey rx fx r fs w (by simpa using hw)) ⟨.bl _,H,I,rfl,?_⟩
  rw[show bz.toArray.any (eqU x)=bz.any (eqU x) by simp,HN r fs]
  exact q
inductive DU (K0:Wl) (xs:List V) (H:Hp) (Q:VK):Prop
 | mk (p:_) (ys:_) (_:xs=[.ref p]) (_:(oM K0 H p ys\/sQ K0 H p ys)) (_:Q (.int ys.length) H)
theorem aN:lH X (.builtin "len") (DU X.K):=by
 exists 5
 obtain⟨p,ys,rfl,hq,q⟩:=h
 obtain⟨u,rfl,rx⟩:=vals1 r
 cases rx
 have hn:=Es
 rcases hq with hq|hq
 ·obtain⟨bz,r',pl,hz⟩:=I.list hq
  have hlen:=r'.length
  exact Calls.call_len_list pl.isList (by simp only[jP]<;>omega) ⟨.int ys.length,H,I.tok _,⟨s.toks+1,by rw[jP,hlen]⟩,q⟩
 ·obtain⟨bz,r',pl,hz⟩:=I.tuple hq
  have hlen:=r'.length
  exact len_tuple pl (by simp only[jP]<;>omega) ⟨.int ys.length,H,I.tok _,⟨s.toks+1,by rw[jP,hlen]⟩,q⟩
inductive C4 (K0:Wl) (xs:List V) (H:Hp) (Q:VK):Prop
 | mk (p:_) (ys:_) (_:xs=[.ref p]) (_:((oM K0 H p ys/\∀ l,H l=none->Q (.ref l) (upd H l (.tup ys)))\/(sQ K0 H p ys/\Q (.ref p) H)))
theorem bg:lH X (.type "tuple") (C4 X.K):=by
 exists 5
 obtain⟨p,ys,rfl,h⟩:=h
 obtain⟨u,rfl,rx⟩:=vals1 r
 cases rx
 rcases h with⟨hq,q⟩|⟨hq,q⟩
 ·obtain⟨bz,r',pl,hz⟩:=I.list hq
  have hlen:=r'.length
  refine call_tuple_list pl.isList (fun h' kp=>?_) (by simp only[jP]<;>omega)
  have I1:Inv X pins σ H { s with heap:=h' }:=I.kept (t' := s.toks) kp
  have I2:Inv X pins σ (upd H h'.objs.size (.tup ys)) { s with heap:=h'.push { cls:=.type "tuple",data:=.seq bz.toArray } }:=
   I1.laid (t' := s.toks) (fun b o e=>jC _ e) (jE _) (show bN X.prog X.w _ _ _ (.tup ys)from⟨hz,bz,r',IsTup.new _ _⟩)
  exact⟨.ref h'.objs.size,_,I2,rfl,q _ (I1.hok.fresh (jE _))⟩
 ·obtain⟨bz,r',pl,hz⟩:=I.tuple hq
  exact call_tuple_same pl ⟨.ref p,H,I,rfl,q⟩
def tyV(K:Wl)(T:String)(x:V)(H:Hp):Prop:=match x with
 | .str _=>T = "str"
 | .int _=>T = "int"
 | .ref p=>(T = "list" /\ ∃ xs,oM K H p xs)\/(T = "tuple" /\ ∃ o,K.lookup p=some o/\o.cls=.type "tuple" /\ o.dict=none) \/
   (T = "dict" /\ ((∃ kvs,H p=some #[53])\/∃ kvs,H p=some #[105]))\/(T = "set" /\ ∃ S n,H p=some (.set S n))
 | _=>False
theorem aa9{T:String}(I:Inv X pins σ H s)(r:RelV x v)(ty:tyV X.K T x H):
  s.TypeIs v T/\∀ a,v=.ref a->∃ ob,s.heap.get? a=some ob/\ob.dict=none:=by
 cases x with
 | str z =>
  obtain⟨t,rfl⟩:=r
  cases(show T = "str" from ty)
  exact⟨typeIs_str s z t,fun _ e=>nomatch e⟩
 | int i =>
  obtain⟨t,rfl⟩:=r
  cases(show T = "int" from ty)
  exact⟨typeIs_int s i t,fun _ e=>nomatch e⟩
 | ref p =>
  cases r
  rcases ty with⟨rfl,xs,hq⟩|⟨rfl,o,hk,hc,hd⟩|⟨rfl,hk⟩|⟨rfl,S,n,hk⟩
  ·obtain⟨bz,_,pl,_⟩:=I.list hq
   refine⟨pl.isList.typeIs,fun a e=>?_⟩
   cases e
   obtain⟨o,n,e,c,hd,_⟩:=pl
   exact⟨o,e,hd⟩
  ·refine⟨⟨o,I.pF p o hk,hc⟩,fun a e=>?_⟩
   cases e
   exact⟨o,I.pF _ o hk,hd⟩
  ·have z:∃ o,s.heap.get? p=some o/\o.ExactDict:=by
    rcases hk with⟨kvs,hk⟩|⟨kvs,hk⟩
    ·obtain⟨_,_,_,_,o,_,_,e,ex,_⟩:=I.hok p _ hk
     exact⟨o,e,ex⟩
    ·obtain⟨_,_,_,_,o,_,_,e,ex,_⟩:=I.hok p _ hk
     exact⟨o,e,ex⟩
   obtain⟨o,e,ex⟩:=z
   refine⟨⟨o,e,ex.1⟩,fun a e2=>?_⟩
   cases e2
   exact⟨o,e,ex.2.1⟩
  ·obtain⟨o,_,_,_,e,ex,_⟩:=I.hok p _ hk
   refine⟨⟨o,e,ex.1⟩,fun a e2=>?_⟩
   cases e2
   exact⟨o,e,ex.2.1⟩
 | _=>exact False.elim ty
structure afq(K:Wl)(T:String)(r:V->List V->Hp->VK->Prop)(Q:VK)(x:V)(H1:Hp):Prop where
 h0:tyV K T x H1
 h1:r x [] H1 Q
def amr(K:Wl)(T:String)(r:V->List V->Hp->VK->Prop)(to:TE):TE:=fun σ H Q=>to σ H (afq K T r Q)
structure aiu(K:Wl)(T:String)(r:V->List V->Hp->VK->Prop)(t:TA)(σ:St)(Q:VK)(x:V)(H1:Hp):Prop where
 h0:tyV K T x H1
 h1:t σ H1 fun xs H2=>r x xs H2 Q
def tBM(K:Wl)(T:String)(r:V->List V->Hp->VK->Prop)(to:TE)(t:TA):TE:=fun σ H Q=>to σ H (aiu K T r t σ Q)
variable{o:Expr}{to:TE}{t:TA}{apos dJ:Pos}{T id:String}{r:V->List V->Hp->VK->Prop}
theorem O3(pa:PlainAttrs T)(slot:Slot T name id)(hty:typeOf (.builtin id)=pure (.type "method_descriptor"))(hm:MtR X id r)(ho:PE X o to)(Lq:attributeBase o name X.env (eval o X.env)=eval o X.env:=by rfl)(V5:(apos.endLine==dJ.line)=true:=by rfl):PE X (.Call (.Attribute o name apos) [] [] dJ) (amr X.K T r to):=by
 exists 4
 refine wpAny_Call_method0_late Lq V5 (cD #[77] fun v s1 ⟨x,H1,I1,r1,ty,q1⟩=>?_)
 obtain⟨h1,h2⟩:=aa9 I1 r1 ty
 exact⟨T,id,pa,slot,hty,h1,h2,YF rfl (PySem.evalArgs_none (hm pins s1 σ H1 x [] v [] Q I1 r1 .nil q1))⟩
theorem fO(pa:PlainAttrs T)(slot:Slot T name id)(hty:typeOf (.builtin id)=pure (.type "method_descriptor"))(hm:MtR X id r)(ho:PE X o to)(ha:PA X (e :: es) t)(Lq:attributeBase o name X.env (eval o X.env)=eval o X.env:=by rfl)(akW:((backTo dJ (qM (e :: es) X.env)).all (fun x=>!x.1)&&(backToKw dJ #[76]).all (fun x=>x.1.isSome)
   && decide ((e :: es).length+([]:List Qf).length+(if ([]:List Qf).isEmpty then 0 else 1)<30))=true:=by rfl)(V5:(apos.endLine==dJ.line)=true:=by rfl)(hs:qM (e :: es) X.env=#[16] :: qM es X.env:=by rfl)(aeA:(backTo dJ (qM es X.env)).any (·.1)=false:=by rfl):
  PE X (.Call (.Attribute o name apos) (e :: es) [] dJ) (tBM X.K T r to t):=by
 exists 4
 refine wpAny_Call_method_late Lq akW V5 rfl (cD #[77] fun v s1 ⟨x,H1,I1,r1,ty,q1⟩=>?_)
 obtain⟨h1,h2⟩:=aa9 I1 r1 ty
 exists T,id,pa,slot,hty,h1,h2
 have hA:=ha dJ pins s1 σ H1 _ I1 q1
 rw[hs]at hA ⊢
 refine YF (by show(false||(backTo dJ (qM es X.env)).any (·.1))=false;rw[aeA]<;>rfl) (YM ?_)
 exact cD hA fun us s2 ⟨vs,H2,I2,r2,q2⟩=>hm pins s2 σ H2 x vs v us Q I2 r1 r2 q2
/- xs.append(e),list.index on a ahZ tuple .. are MtR facts of 06m -/
end
def MtM(X:Cx)(id:String)(r:V->List V->Hp->VK->Prop):Prop:=
 ∀ (pins:List #[41]) (s:Ql) (σ:St) (H:Hp) (x:V) (xs:List V) (v:Value) (us:List Value) (Q:VK),Inv X pins σ H s->RelV x v->Vals xs us->r x xs H Q ->
  wpAny #[5] X.A (call (.builtin id) (v :: us)) #[54] X.xe s
theorem Vals.one:∀ {x:V} {us:List Value},Vals [x] us->∃ u,us=[u]/\RelV x u
 | _,_,.cons r .nil=>⟨_,rfl,r⟩
theorem Vals.two:∀ {x y:V} {us:List Value},Vals [x,y] us->∃ u v,us=[u,v]/\RelV x u/\RelV y v
 | _,_,_,.cons r (.cons q .nil)=>⟨_,_,rfl,r,q⟩
theorem Vals.zero:∀ {us:List Value},Vals [] us->us=[]
 | _,.nil=>rfl
theorem Vals.dropLast(h:Vals xs us):Vals xs.dropLast us.dropLast:=by
 induction h with
 | nil=>exact .nil
 | cons r t ih =>
  cases t with
  | nil=>exact .nil
  | cons q t'=>exact .cons r ih
theorem Og(l:List α):l.eraseIdx (l.length-1)=l.dropLast:=by
 induction l with
 | nil=>rfl
 | cons a r ih =>
  cases r with
  | nil=>rfl
  | cons b r =>
   have e:(a :: b :: r).length-1=((b :: r).length-1)+1:=by
    have h1:(a :: b :: r).length=r.length+2:=rfl
    have h2:(b :: r).length=r.length+1:=rfl
    omega
   rw[e,List.eraseIdx_cons_succ,ih]
   all_goals rfl
section
variable{l:QQ}
theorem Inv.acb{f:Array Value->Array Value}{t':Nat}(I:Inv X pins σ H s)(hH:H l=some #[109])(e:s.heap.get? l=some { cls:=.type "list",data:=.seq bz.toArray n })(hf:f bz.toArray=its'.toArray)(hv:Vals ys its')(hz:ys.length<=sizeLine):
  Inv X pins σ (upd H l #[93]) { s with heap:=s.heap.update l (Obj.mapSeq f),toks:=t' }:=by
 have q:=xu e f
 rw[hf]at q
 refine I.write (x:=l) (e:=l) (by rw[hH];exact trivial) #[81] (fun b' u hb hu=>(jt s.heap (Obj.mapSeq f) (Ne.symm hb)).trans hu) ⟨_,q⟩ ?_
 exact⟨hz,its',_,hv,q⟩
theorem Inv.alD{t':Nat}(I:Inv X pins σ H s)(hv:Vals ys bz)(hz:ys.length<=sizeLine):
  Inv X pins σ (upd H s.heap.objs.size #[93]) { s with heap:=s.heap.push { cls:=.type "list",data:=.seq bz.toArray },toks:=t' }:=
 I.laid (fun _ _ q=>jC _ q) (jE _) ⟨hz,bz,0,hv,jL _ rfl⟩
theorem Inv.fresh(I:Inv X pins σ H s):H s.heap.objs.size=none:=I.hok.fresh (jE _)
theorem Inv.Ik(I:Inv X pins σ H s)(hH:H l=some #[109]):xs.length<=sizeLine/\∃ (bz:List Value) (n:Nat),Vals xs bz/\xs.length=bz.length/\s.heap.get? l=some { cls:=.type "list",data:=.seq bz.toArray n }:=by
 obtain⟨z,bz,n,r,e⟩:=I.hok l _ hH
 exact⟨z,bz,n,r,r.length,e⟩
theorem LZ(h:n<=sizeLine):YN n=false:=by
 unfold YN
 exact decide_eq_false #[0]
end
section
inductive acI (x:V) (vs:List V) (H:Hp) (Q:VK):Prop
 | mk (l:_) (xs:_) (y:_) (_:x=.ref l) (_:vs=[y]) (_:H l=some #[109]) (_:xs.length<sizeLine) (_:Q .non (upd H l (.lst (xs++[y]))))
theorem bJ:MtM X "list.append" acI:=by
 intro pins s σ H x vs v us Q I rx rv h
 obtain⟨l,xs,y,rfl,rfl,hH,hz,q⟩:=h
 cases rx
 obtain⟨u,rfl,ru⟩:=rv.one
 obtain⟨z,bz,n,r,hl,e⟩:=I.Ik hH
 refine Qt F.slot_list_append ⟨_,e,rfl⟩ F.entry_list_append (F.args_list_append_2 _ _) (PySem.list_append l bz.toArray n u (by rw[jP];omega)) ⟨e,?_⟩
 refine⟨.non,_,I.acb (its' := bz++[u]) hH e #[21] (r.append (.cons ru .nil)) ?_,rfl,q⟩
 rw[jG,jh]
 omega
inductive Ri (x:V) (vs:List V) (H:Hp) (Q:VK):Prop
 | mk (l:_) (b:_) (xs:_) (zs:_) (_:x=.ref l) (_:vs=[.ref b]) (_:H l=some #[109]) (_:H b=some (.lst zs)) (_:xs.length+zs.length<=sizeLine) (_:Q .non (upd H l (.lst (xs++zs))))
theorem Hj:MtM X "list.extend" Ri:=by
 intro pins s σ H x vs v us Q I rx rv h
 obtain⟨l,b,xs,zs,rfl,rfl,hH,hB,hz,q⟩:=h
 cases rx
 obtain⟨u,rfl,ru⟩:=rv.one
 cases ru
 obtain⟨z,bz,n,r,hl,e⟩:=I.Ik hH
 obtain⟨z2,Cd,n2,r2,P9,e2⟩:=I.Ik hB
 have hsz:bz.toArray.size+Cd.toArray.size<=sizeLine:=by rw[jP,jP];omega
 have V6:¬ (!bz.toArray.isEmpty&&YN (bz.toArray.size+Cd.toArray.size))=true:=by
  rw[LZ hsz,QD]
  exact jV
 refine Qt XD ⟨_,e,rfl⟩ yr (ym _ _)
  (AutoSeq1.list_extend_list_list_0 l bz.toArray n b Cd.toArray n2 V6 (by rw[jP];omega) #[0]) ⟨e,e2,?_⟩
 refine⟨.non,_,I.acb (its' := bz++Cd) hH e #[21] (r.append r2) ?_,rfl,q⟩
 rw[jG]
 omega
inductive ama (x:V) (vs:List V) (H:Hp) (Q:VK):Prop
 | mk (l:_) (xs:_) (y:_) (_:x=.ref l) (_:vs=[]) (_:H l=some #[109]) (_:xs[xs.length-1]?=some y) (_:Q y (upd H l (.lst xs.dropLast)))
theorem X8:MtM X "list.pop" ama:=by
 intro pins s σ H x vs v us Q I rx rv h
 obtain⟨l,xs,y,rfl,rfl,hH,hy,q⟩:=h
 cases rx
 have hus:=rv.zero
 subst hus
 obtain⟨z,bz,n,r,hl,e⟩:=I.Ik hH
 obtain⟨u,hu,ru⟩:=r.get hy
 have hy':bz.toArray[bz.toArray.size-1]?=some u:=by
  show bz.toArray[bz.length-1]?=some u
  rw[<- JX,<- hl]
  exact hu
 refine Qt F.slot_list_pop ⟨_,e,rfl⟩ F.entry_list_pop (F.args_list_pop_1 _) (MeetsSeq.list_pop_last l bz.toArray n u hy' (by rw[jP];omega)) ⟨e,?_⟩
 refine⟨y,_,I.acb (its' := bz.dropLast) hH e ?_ r.dropLast ?_,ru,q⟩
 ·show bz.toArray.eraseIdxIfInBounds (bz.toArray.size-1)=bz.dropLast.toArray
  rw[jP,List.eraseIdxIfInBounds_toArray,Og]
 ·rw[Za]
  omega
inductive al6 (x:V) (y:V) (H:Hp) (Q:VK):Prop
 | mk (l:_) (b:_) (xs:_) (zs:_) (_:x=.ref l) (_:y=.ref b) (_:H l=some #[109]) (_:H b=some (.lst zs)) (_:xs.length+zs.length<=sizeLine) (_:∀ p,H p=none->Q (.ref p) (upd H p (.lst (xs++zs))))
theorem OY:BS X (binaryOp .Add) al6:=by
 exists 7
 obtain⟨l,b,xs,zs,rfl,rfl,hH,hB,hz,q⟩:=h
 cases rx
 cases ry
 obtain⟨z,bz,n,r,hl,e⟩:=I.Ik hH
 obtain⟨z2,Cd,n2,r2,P9,e2⟩:=I.Ik hB
 refine PySem.P.add_list e e2 ?_ (by rw[jP,jP];omega)
 have ea:bz.toArray++Cd.toArray=(bz++Cd).toArray:=by simp
 rw[ea]
 exact⟨.ref _,_,I.alD (t' := s.toks) (r.append r2) (by rw[jG];omega),rfl,q _ I.fresh⟩
end
end L2
namespace Att
open PySem PySem.W PySem.Calls PyProof.Rows
variable{h:Heap}{n:Nat}{vals:List Value}{q prog:Qj}{loose:List Qm}{w:World}
theorem C8{P:Params}:∀ (ns:List Int) (vs:List Value),WellAll P h vs (ns.map WData.int)->Qa vs ns:=by
 intro ns
 induction ns with
 | nil =>
  intro vs w
  rw[Zj]at w
  cases w
  exact .nil
 | cons n ns ih =>
  intro vs w
  rw[JF]at w
  cases w with
  | cons a b =>
   cases a
   exact .cons _ _ (ih _ b)
theorem S0{l:OpenLaw}(hn:l.most=some n){P:Params}{args:List WData}(abV:l.row.toRowW.claim.pre args=true)(hwl:WellAll P h vals args):
  ∃ a vs ns,vals=[Wm a]/\args=[WData.list (ns.map WData.int)]/\h.get? a=some { cls:=.type "list",data:=.seq vs.toArray }/\Qa vs ns/\ns.length<=n:=by
 have hsh:WShape.hasAll [] args [.list .int]=true:=(pre_splitW abV).1
 have hc:l.pre.holds [] { args:=args }=true:=(pre_splitW abV).2
 obtain⟨d,r,rfl,h1,h2⟩:=hasAllW_cons hsh
 obtain rfl:=hasAllW_nil h2
 obtain⟨xs,rfl,h3⟩:=hasW_list h1
 obtain⟨ns,rfl⟩:=items_int h3
 have hlen:ns.length<=n:=by
  unfold OpenLaw.pre at hc
  have h4:(WTm.not (.lt (.lit (.int (n:Int))) (.len (.arg 0)))).holds [] { args:=[.list (ns.map .int)] }=true:=by
   have h4:=(holds_andW hc).1
   rw[hn]at h4
   exact h4
  have h5:=condW_of h4 (w_not (w_lt w_lit (w_len_list (w_arg rfl))))
  rw[jX]at h5
  refine Nat.le_of_not_lt fun q=>?_
  have q':(n:Int)<((ns.length:Nat):Int):=by omega
  first
   | (rw[decide_eq_true q']at h5;exact absurd h5 #[7])
   | (simp at h5;omega)
 cases hwl with
 | cons w1 w2 =>
  cases w2
  cases w1 with
  | list ho Ia=>exact⟨_,_,ns,rfl,rfl,ho,C8 ns _ Ia,hlen⟩
theorem SV(l:OpenLaw)(args:List WData):l.row.toRowW.claim.post args (.bool true) args=true:=
 postW_of (r:=l.row.toRowW) (X:=(true==true))
  (show WShape.has [] (.bool true) .bool=true by first|rfl|decide|simp[WShape.has,WShape.arms,WShape.armsAll])
  (show(WTm.eq .res (.lit (.bool true))).value [] { args:=args,res:=some (.bool true),after:=args }=some (.bool (true==true))from w_eq_bool (w_res rfl) w_lit) rfl
theorem J7{l:OpenLaw}{XP:(Qm->Option Value)->Heap->Prop}{YP:World->Heap->Prop}{d:DefRec}(hn:l.most=some n)(hdf:d.params.defaults=[])(call:∀ (w:World) (s₀ s₁:Ql) (mg mb:Qm->Option Value) (fa:QQ) (o:Obj) (pm cd doc:Value) (a:QQ) (vs:List Value) (ns:List Int),
   Ground q loose [] XP w s₀ mg mb s₁.heap->YP w s₁.heap ->
   s₁.heap.get? fa=some o->o.data=.func (docDef d.name d.params d.body d.scope pm cd doc)->s₁.heap.CodeRec cd d.name->mg d.name=some (.ref fa) ->
   s₁.heap.get? a=some { cls:=.type "list",data:=.seq vs.toArray }->Qa vs ns->ns.length<=n->s₁.gens=#[] ->
   codeAny (model l.prog w) callerA (.call (.ref fa) ⟨[.ref a],[]⟩) (fun r s'=>r=.ok (.ret (.bool true))/\OldK s₁.heap s'.heap/\s'.os=s₁.os/\QR s'.gens) s₁):
  WalkO q loose XP YP l.row.toRowW d [] (fun f vs=>XX f vs):=by
 intro w s₀ s₁ mg mb G Y fa o pm cd doc dV kV ho hd Fm hD hmg hg args vals as abV apT hrd hwl hlo
 obtain rfl:dV=.none:=Dflts.none hD hdf
 obtain rfl:kV=.none:=Dflts.noKw hD
 obtain⟨a,vs,ns,rfl,rfl,aev,hints,hlen⟩:=S0 hn abV hwl
 refine enter_call (qA (call w s₀ s₁ mg mb fa o pm cd doc a vs ns G Y ho (fd_plain hd) Fm hmg aev hints hlen hg) fun r s' hq=>?_)
 obtain⟨rfl,h2,h3,h4⟩:=hq
 exact⟨.inl ⟨.bool true,.bool true,[],rfl,fun _=>rfl,.bool true,SV l _,fun _=>⟨List.Pairwise.nil,fun _ hm=>(nomatch hm)⟩⟩,h2,h3,h4⟩
section
def ledger(h:Heap)(L d:QQ):List #[41]:=(jd h.objs.size).filterMap fun a=>if a=L\/a=d then none else(h.get? a).map fun o=>(a,o)
end
end Att
namespace L2
open PySem PySem.Spec PyProof.Rows
variable{P q prog:Qj}{w:World}{K:Wl}{mg mb m:Qm→Option Value}{CX:IW}{a l c it:QQ}{fd:QY}{x y:Qm}{sp:Sp}{s₁ s:Ql}{vs:List Value}{ns:List Int}{n tk i:Nat}{loose N:List Qm}{X:Cx}{base h':Heap}{A:Around}{pos py:Pos}{H H':Hp}{xs:List V}{scope:Scope}{env:QX}{pins:List (QQ×Obj)}{σ:St}{ix:List (Option Nat)}{fp:List QQ}{R:Result→Ql→Prop}{elt iter:Expr}{te:TE}{wi:TI}{Qd:QQ→Hp→Prop}{E:Value→Ql→Prop}{lo:Int}{items:Array Value}{elts es:List Expr}{Q:Unit→Ql→Prop}
theorem Hx:∀ {vs:List Value} {ns:List Int},Qa vs ns->Vals #[34] vs
 | _,_,.nil=>.nil
 | _,_,.cons n t h=>.cons ⟨t,rfl⟩ (Hx h)
def adT(H:Hp):Prop := ∀ b,H b=none\/∃ o xs,H b=some (.rB o #[109])
theorem X2{k:Nat}{fa:QQ}(KX:K.In s₁.heap)(hns:s₁.heap.Ns qG mg)(hb:s₁.heap.Ns builtinsNs mb)(hbb:∀ x:Qm,x ≠ "__name__" -> mb x=Qr x)(ak1:s₁.heap.NoLimit)(hg:s₁.gens=#[])(ha:s₁.heap.get? a=some { cls:=.type "list",data:=.seq vs.toArray })(hi:Qa vs ns)(hl:ns.length<=sizeLine)(hr:dD k callerA)(F:∀ base:Heap,K.In base->base.Ns qG mg->bc P w K mg base CX k fa fd [x] sp)(aha:∀ (s:Ql) (u:Value),QT s fd ⟨[u],[]⟩ [(x,u)])(Lu:∀ H:Hp,adT H->oM K H a #[34]->sp [.ref a] H (fun v _=>v=.bl true) fun _ _ _=>False)(hCX:∀ H e s',CX [] H s₁ (fun _ _ _=>False) e s'->False):
  codeAny (model P w) callerA (.call (.ref fa) ⟨[.ref a],[]⟩) (fun r s'=>r=.ok (.ret (.bool true))/\OldK s₁.heap s'.heap/\s'.os=s₁.os/\QR s'.gens) s₁:=by
 have rv:=Hx hi
 have alC:=hi.length
 have core:∀ H:Hp,adT H->oM K H a #[34]->iP P w H s₁.heap->(∀ b,H b≠none->b=a)->(H a≠none->K.lookup a=none) ->
   codeAny (model P w) callerA (.call (.ref fa) ⟨[.ref a],[]⟩) (fun r s'=>r=.ok (.ret (.bool true))/\OldK s₁.heap s'.heap/\s'.os=s₁.os/\QR s'.gens) s₁:=by
  intro H hO hS hok hA hK
  have PM:∀ {b:QQ} {o:Obj},s₁.heap.get? b=some o->H b=none->(Ib s₁.heap H).get? b=some o:=fun e n=>V0 e n
  have noA:∀ {b:QQ} {o:Obj} {es:Array QW} {ep:Nat},s₁.heap.get? b=some o->o.data=.dict es ep->H b=none:=fun {b o es ep} e d=>by
   cases q:H b with
   | none=>rfl
   | some u =>
    have e':b=a:=hA b (by rw[q];simp)
    subst e'
    rw[ha]at e;cases e
    have d':Data.seq vs.toArray _=Data.dict es ep:=d
    cases d'
  have nsK:∀ {b:QQ} {m:Qm->Option Value},s₁.heap.Ns b m->(Ib s₁.heap H).Ns b m:=fun {b m} ⟨o,es,ep,e,d,r⟩=>⟨o,es,ep,PM e (noA e d),d,r⟩
  have hKb:K.In (Ib s₁.heap H):=fun b o e=>PM (KX b o e) (by
   cases q:H b with
   | none=>rfl
   | some u =>
    have e':b=a:=hA b (by rw[q];simp)
    subst e'
    rw[hK (by rw[q];simp)]at e;cases e)
  have hM:Mod K mg (Ib s₁.heap H):=⟨hKb,nsK hns,⟨mb,nsK hb,hbb⟩,let ⟨mc,h1,h2⟩:=ak1;⟨mc,nsK h1,h2⟩⟩
  have e0:Fg P w K mg (Ib s₁.heap H) callerA [] s₁ H:=⟨rfl,hM,fun b o e=>acf e,QH (Se _ _),trivial,fun b hb=>absurd (show b∈([]:List QQ)from hb) #[21],hok,.of_eq hg⟩
  refine qA ((F _ hKb (nsK hns)).run callerA [] s₁ H ⟨[.ref a],[]⟩ [.ref a] [.ref a] _ _ hr e0 (aha s₁ #[50]) (.cons rfl .nil) (Lu H hO hS)) fun r s' h=>?_
  cases r with
  | error e=>exact(hCX H e s' h).elim
  | ok fl =>
   cases fl with
   | next=>exact False.elim h
   | brk=>exact False.elim h
   | cont=>exact False.elim h
   | ret u =>
    obtain⟨v,H',os,bare,un,ak7,r',q⟩:=h
    have q':v=.bl true:=q
    subst q'
    obtain rfl:u=Yi true:=r'
    refine⟨rfl,OldK.of_keep fun b o e=>?_,os,bare⟩
    cases q:H b with
    | none=>exact un.keep b o e q (by intro z;exact absurd (show b∈([]:List QQ)from z) #[21]) #[21]
    | some u =>
     rcases hO b with z|⟨ob,xs,z⟩
     ·rw[q]at z;cases z
     ·have z2:=un.frzs b ob _ z
      obtain⟨e1,_⟩:=hok b _ z
      obtain⟨e2,_⟩:=ak7 b _ z2
      rw[e]at e1;cases e1
      exact e2
 cases hk:K.lookup a with
 | some o =>
  have e:=KX a o hk
  rw[ha]at e
  cases e
  refine core (fun _=>none) (fun _=>.inl rfl) (.inr ⟨_,vs.toArray,_,hk,rfl,rfl,rfl,by rw[jP,alC];exact hl,by simpa using rv⟩) (fun b u z=>by have z':(none:Option HO)=some u:=z;cases z') (fun b z=>absurd rfl z) fun z=>absurd rfl z
 | none =>
  refine core (fun b=>if b=a then some (.rB { cls:=.type "list",data:=.seq vs.toArray } (.lst #[34]))else none) (fun b=>?_) (.inl (.inr ⟨{ cls:=.type "list",data:=.seq vs.toArray },if_pos rfl⟩)) (fun b u z=>?_) (fun b z=>?_) fun _=>hk
  ·by_cases hb:b=a
   ·exact .inr ⟨_,_,if_pos hb⟩
   ·exact .inl (if_neg hb)
  ·by_cases hb:b=a
   ·have z' := (if_pos hb).symm.trans z
    cases z'
    subst hb
    exact⟨ha,by rw[jX];exact hl,vs,_,rv,ha⟩
   ·have z' := (if_neg hb).symm.trans z
    cases z'
  ·by_cases hb:b=a
   ·exact hb
   ·exact absurd (if_neg hb) z
theorem ac9{l:Yx}{k:Nat}{XP:(Qm->Option Value)->Heap->Prop}{YP:World->Heap->Prop}{d:DefRec}{K:Params->Wl}{CX:World->IW}{sp:World->Sp}(hn:l.most=some n)(hn2:n<=sizeLine)(hdf:d.params.defaults=[])(hr:dD k callerA)(hY:∀ (w:World) (h:Heap),YP w h->(K w.params).In h)(F:∀ (w:World) (mg:Qm->Option Value) (fa:QQ) (h:Heap),(K w.params).In h->h.Ns qG mg->mg d.name=some (.ref fa) ->
   ∃ fd:QY,(∀ (s:Ql) (u:Value),QT s fd ⟨[u],[]⟩ [(x,u)]) /\
    ∀ base:Heap,(K w.params).In base->base.Ns qG mg->bc l.prog w (K w.params) mg base (CX w) k fa fd [x] (sp w))(Lu:∀ (w:World) (H:Hp) (a:QQ) (ns:List Int),ns.length<=n->adT H->oM (K w.params) H a #[34]->sp w [.ref a] H (fun v _=>v=.bl true) fun _ _ _=>False)(hCX:∀ (w:World) (H:Hp) (s:Ql) (e:Value) (s':Ql),CX w [] H s (fun _ _ _=>False) e s'->False):
  Xd q loose XP YP l.row.toRowW d [] (fun f vs=>XX f vs):=by
 refine Att.J7 hn hdf fun w s₀ s₁ mg mb fa o pm cd doc a vs ns G Y ho hd Fm hmg aev hints hlen hg=>?_
 have KX:=hY w _ Y
 obtain⟨fd,hb,hF⟩:=F w mg fa _ KX G.T.g hmg
 exact X2 KX G.T.g G.T.b G.T.builtins G.T.nolimit hg aev hints (jf hlen hn2) hr hF hb (fun H hO hS=>Lu w H a ns hlen hO hS) fun H e s'=>hCX w H s₁ e s'
def inClass(s:Stmt)(j:Nat):Stmt:=match s with
 | .ClassDef _ _ _ body _ _ _ _ _ _ _=>body.getD j (.Pass ⟨0,0,0,0⟩)
 | _=>.Pass ⟨0,0,0,0⟩
def eW(s:Stmt):QS:=match s with
 | .FunctionDef _ a _ _ _ _ _ _ _ _=>a
 | _=>{ posonlyargs:=[],args:=[],vararg:=none,kwonlyargs:=[],kw_defaults:=[],kwarg:=none,defaults:=[] }
def dA(s:Stmt):List Stmt:=match s with
 | .FunctionDef _ _ b _ _ _ _ _ _ _=>b
 | _=>[]
def ar(s:Stmt):Scope:=match s with
 | .FunctionDef _ _ _ _ _ _ sc _ _ _=>sc
 | _=>{ kind:=.function,names:=[],isGenerator:=false,isCoroutine:=false }
abbrev eB:IW:=fun _ _ _ _ _ _=>False
abbrev E0:XK:=fun _ _ _=>False
theorem aac:Passes eB X E0:=fun _ _ _ _ _ _ _ h=>h.elim
theorem pX{k:Nat}(hr:dD k A):A.units+1<cLine:=zM (Nat.add_le_add_left (by decide:1<=64) _) hr.units
theorem aA(h:n<=1000):n<sizeLine:=zM h #[7]
section
theorem pv(i:Nat)(hN:X.N[i]?=some x:=by rfl)(hv:Vis X.env.scope x:=by first|exact Or.inl rfl|exact Or.inr (Or.inl rfl)|exact Or.inr (Or.inr rfl))(hd:#[15]=false:=by decide)(Fm:(x==("__classdict__" : Qm))=false:=by decide):PE X (.Name x pos) (aiK i):=ae0 hN hv hd Fm
end
theorem ff{A B:Prop}(h:B):if false=true then A else B:=by
 rw[if_neg jV]
 exact h
theorem Be{A B:Prop}(h:A):if true=true then A else B:=by
 rw[if_pos rfl]
 exact h
theorem aeL{c A B:Prop}[Decidable c](h1:c->A)(h2:¬ c->B):if c then A else B:=by
 by_cases h:c
 ·rw[if_pos h]
  exact h1 h
 ·rw[if_neg h]
  exact h2 h
theorem ahU{c A B:Prop}[Decidable c](hc:c)(h:B):if (!decide c)=true then A else B:=by
 rw[decide_eq_true hc]
 exact ff h
def aB(H H':Hp):Prop := ∀ b o,H b=some o->H' b=some o
theorem aB.refl(H:Hp):aB H H:=fun _ _ h=>h
theorem aB.trans{H1 H2:Hp}(a:aB H H1)(b:aB H1 H2):aB H H2:=fun c o h=>b c o (a c o h)
theorem aB.free(e:aB H H')(h:H' l=ZW):H l=ZW:=by
 cases q:H l with
 | none=>rfl
 | some o =>
  rw[e l o q]at h
  cases h
theorem aB.seq(e:aB H H')(h:oM K H a xs):oM K H' a xs:=by
 rcases h with(h|⟨o,h⟩)|h
 ·exact .inl (.inl (e _ _ h))
 ·exact .inl (.inr ⟨o,e _ _ h⟩)
 ·exact .inr h
def eZ(cells:List (Qm×QQ)):List (Qm×Qg)->List (Qm×QQ)->List (Qm×QQ)
 | [],cs=>cs
 | (n,k) :: r,cs=>eZ cells r (if k==.free then(n,(cells.lookup n).getD 0) :: cs else cs)
theorem Aa(h:∀ y∈scope.names,y.2=.free->∃ c,env.cells.lookup y.1=some c):
  closureFor scope env=pure (eZ env.cells scope.names []):=by
 have all:∀ (ns:List (Qm×Qg)) (cs:List (Qm×QQ)),(∀ y∈ns,y.2=.free->∃ c,env.cells.lookup y.1=some c) ->
   (forIn ns cs (fun(x:Qm×Qg) (r:List (Qm×QQ))=>(match x with
    | (name,kind)=>if (kind==NameKind.free)=true then(do let c <- cellOf env name;pure (ForInStep.yield ((name,c) :: r)))else pure (ForInStep.yield r):Qk (ForInStep (List (Qm×QQ))))):Qk (List (Qm×QQ)))
   = pure (eZ env.cells ns cs):=by
  intro ns
  induction ns with
  | nil=>intro cs _;rfl
  | cons y r ih =>
   intro cs hy
   obtain⟨n,k⟩:=y
   rw[Zz]
   by_cases hk:k=.free
   ·subst hk
    obtain⟨c,e⟩:=hy (n,.free) jD rfl
    have e':env.cells.lookup n=some c:=e
    have e1:cellOf env n=pure c:=by unfold cellOf;rw[e']
    simp only[beq_self_eq_true,if_true,e1,pure_bind]
    rw[ih _ fun z hz=>hy z (jI _ hz)]
    simp only[eZ,beq_self_eq_true,if_true,e',ZO]
   ·have hb:(k==NameKind.free)=false:=by simpa using hk
    simp only[hb,JA,if_false,pure_bind]
    rw[ih _ fun z hz=>hy z (jI _ hz)]
    simp only[eZ,hb,JA,if_false]
 unfold closureFor
 have q:=all scope.names [] h
 simp only[bind_pure]
 exact q
theorem wZ(cells:List (Qm×QQ)):∀ (ns:List (Qm×Qg)) (cs:List (Qm×QQ)),(eZ cells ns cs).lookup x=some c ->
  ((x,NameKind.free)∈ns/\(cells.lookup x).getD 0=c)\/cs.lookup x=some c
 | [],_,h=>.inr h
 | (n,k) :: r,cs,h=>by
  rcases wZ cells r _ h with⟨h1,h2⟩|h1
  ·exact .inl ⟨jI _ h1,h2⟩
  ·by_cases hk:k=.free
   ·subst hk
    simp only[beq_self_eq_true,if_true]at h1
    by_cases hx:x=n
    ·subst hx
     simp only[jz,beq_self_eq_true]at h1
     exact .inl ⟨jD,Option.some.inj h1⟩
    ·have hb:(x==n)=false:=by simpa using hx
     simp only[jz,hb]at h1
     exact .inr h1
   ·have hb:(k==NameKind.free)=false:=by simpa using hk
    simp only[hb,JA,if_false]at h1
    exact .inr h1
theorem rN(cells:List (Qm×QQ))(e:cells.lookup x=some c):∀ (ns:List (Qm×Qg)) (cs:List (Qm×QQ)),((x,NameKind.free)∈ns\/cs.lookup x=some c) ->
  (eZ cells ns cs).lookup x=some c
 | [],_,h=>by
  rcases h with h|h
  ·cases h
  ·exact h
 | (n,k) :: r,cs,h=>by
  refine rN cells e r _ ?_
  rcases h with h|h
  ·rcases jY.mp h with z|z
   ·cases z
    right
    simp only[beq_self_eq_true,if_true,jz,e,ZO]
   ·exact .inl z
  ·right
   by_cases hk:(k==NameKind.free)=true
   ·rw[if_pos hk]
    by_cases hx:x=n
    ·subst hx
     simp only[jz,beq_self_eq_true,e,ZO]
    ·have hb:(x==n)=false:=by simpa using hx
     simp only[jz,hb]
     exact h
   ·rw[if_neg hk]
    exact h
theorem BB{env:QX}:∀ {names:List (Qm×Qg)} {x:Qm},names.lookup x=some .free ->
  (names.map fun(n,k)=>if #[10]then(n,NameKind.cell)else(n,k)).lookup x=some .cell \/
  (names.map fun(n,k)=>if #[10]then(n,NameKind.cell)else(n,k)).lookup x=some .free
 | [],_,h=>by simp at h
 | (n,k) :: r,x,h=>by
  have ih:=@BB env r x
  show JT x ((if #[10]=true then(n,NameKind.cell)else(n,k)) :: _)=_ \/
   JT x ((if #[10]=true then(n,NameKind.cell)else(n,k)) :: _)=_
  cases hx:x==n with
  | true =>
   simp only[jz,hx]at h
   cases h
   by_cases hc:(NameKind.free==NameKind.free&&env.scope.kind==.function&&env.kindOf n==some .cell)=true
   ·rw[if_pos hc];simp only[jz,hx];first|exact .inl trivial|exact .inl rfl
   ·rw[if_neg hc];simp only[jz,hx];first|exact .inr trivial|exact .inr rfl
  | false =>
   simp only[jz,hx]at h
   by_cases hc:#[10]=true
   ·rw[if_pos hc];simp only[jz,hx];exact ih h
   ·rw[if_neg hc];simp only[jz,hx];exact ih h
theorem rZ{env:QX}:∀ {names:List (Qm×Qg)} {x:Qm} {k':Qg},k'=.cell\/k'=.free->(∀ y∈names,y.2≠.cell) ->
  (names.map fun(n,k)=>if #[10]then(n,NameKind.cell)else(n,k)).lookup x=some k'->(x,NameKind.free)∈names
 | [],_,_,_,_,h=>by simp at h
 | (n,k) :: r,x,k',hk',hn,h=>by
  have ih:=@rZ env r x k' hk' (fun y hy=>hn y (jI _ hy))
  have h':JT x ((if #[10]=true then(n,NameKind.cell)else(n,k)) :: (r.map fun(n,k)=>if #[10]then(n,NameKind.cell)else(n,k)))=some k' := h
  have hkc:k≠.cell:=hn (n,k) jD
  cases hx:x==n with
  | true =>
   have hxn:x=n:=by simpa using hx
   subst hxn
   by_cases hc:(k==NameKind.free&&env.scope.kind==.function&&env.kindOf x==some .cell)=true
   ·have hk:k=.free:=by
     simp only[Je,beq_iff_eq]at hc
     exact hc.1.1
    subst hk
    exact jD
   ·rw[if_neg hc]at h'
    simp only[jz,beq_self_eq_true]at h'
    have hk:k=k' := Option.some.inj h'
    rcases hk' with z|z
    ·exact absurd (hk.trans z) hkc
    ·rw[hk,z];exact jD
  | false =>
   refine jI _ (ih ?_)
   by_cases hc:#[10]=true
   ·rw[if_pos hc]at h'
    simpa only[jz,hx]using h'
   ·rw[if_neg hc]at h'
    simpa only[jz,hx]using h'
def bB(ix:List (Option Nat))(σ:St):St:=ix.map fun o=>match o with
 | none=>none
 | some i=>(σ[i]?).join
structure bF(NX:List Qm)(scX:Scope)(N:List Qm)(ix:List (Option Nat))(sc:Scope):Prop where
 kind:sc.kind=.function
 nd:N.Nodup
 nocell:∀ y∈sc.names,y.2≠.cell
 locs:∀ y∈sc.names,y.2=.local->sc.names.lookup y.1=some .local
 free:∀ y∈sc.names,y.2=.free->scX.names.lookup y.1=some .cell\/scX.names.lookup y.1=some .free
 len:ix.length=N.length
 at_:∀ p∈N.zip ix,∀ i,p.2=some i->NX[i]?=some p.1/\sc.names.lookup p.1=some .free
def lP(X:Cx)(N:List Qm)(scope:Scope)(fp:List QQ)(s:Ql)(H:Hp)(C:QQ):Cx:=
 { prog:=X.prog,w:=X.w,K:=X.K,mg:=X.mg,base:=X.base,A:=X.A,N:=N,s₀:=s,H₀:=H,env:=compEnvC scope (eZ X.env.cells scope.names []) C X.env,outer:=X.stack,stack:=X.stack,ex:=fp,fn:=fun _=>false,calm:=X.calm,pn:=X.pn,xe:=fun _ _=>False }
theorem Dc{names:List (Qm×Qg)}(h:names.lookup x=some .free):(x,NameKind.free)∈names:=YQ h
section
theorem bF.aby(S:bF X.N X.env.scope N ix scope)(ok:X.Ok):∀ y∈scope.names,y.2=.free->∃ c,X.env.cells.lookup y.1=some c:=fun y hy hf=>ok.has y.1 (S.free y hy hf)
theorem Si{D C:QQ}{tk:Nat}(I:Inv X pins σ H s)(S:bF X.N X.env.scope N ix scope)(hf:∀ b∈fp,Af X pins H b)(hfo:∀ b∈fp,∃ o,s.heap.get? b=some o/\∀ v,o.data≠.cell v)(hD:s.heap.objs.size<=D)(hC:s.heap.objs.size<=C)(hDC:D≠C)(hk:∀ b o,s.heap.get? b=some o->h'.get? b=some o)(hns:h'.Ns C m)(hl:∃ n,h'.get? D=some { cls:=.type "list",data:=.seq ([]:List Value).toArray n }):
  Inv (lP X N scope fp s H C) pins #[73] #[83] { s with heap:=h',toks:=tk }:=by
 have fresh:∀ {a:QQ},s.heap.objs.size<=a->H a=none:=fun h=>I.hok.fresh h
 have FT:∀ x c,(eZ X.env.cells scope.names []).lookup x=some c->X.env.cells.lookup x=some c:=fun x c e=>by
  rcases wZ _ _ _ e with⟨h1,h2⟩|h1
  ·obtain⟨c',e'⟩:=S.aby I.ok _ h1 rfl
   have e'':X.env.cells.lookup x=some c' := e'
   rw[e'']at h2
   rw[e'']
   exact congrArg some h2
  ·simp at h1
 have ltO:∀ {b:QQ} {o:Obj},s.heap.get? b=some o->b<s.heap.objs.size:=fun e=>jJ e
 have neC:∀ {b:QQ} {o:Obj},s.heap.get? b=some o->b≠C:=fun e=>jR (jW (ltO e) hC)
 have neD:∀ {b:QQ} {o:Obj},s.heap.get? b=some o->b≠D:=fun e=>jR (jW (ltO e) hD)
 have agI:∀ x c,X.env.cells.lookup x=some c->∃ o,s.heap.get? c=some o:=fun x c e=>by
  obtain⟨v,o,ho,_⟩:=I.cell x c e
  exact⟨o,ho⟩
 refine⟨⟨I.ok.mod,?_,I.ok.glob,I.ok.blt,hC,fun x y c e1 e2=>I.ok.inj x y c (FT x c e1) (FT y c e2),fun x hx=>?_,fun x c h _=>?_,I.ok.hd,I.ok.frames,.inl rfl,fun b hb=>?_,I.bs,jf I.ok.bsz I.sz,fun b o e hb=>?_,fun b hb hb2=>?_,I.stack,I.Dz⟩,
  rfl,I.bare,Un.laid hk hD (fresh hD),⟨m,hns,fun j x v e1 e2 e3=>?_⟩,fun x c e=>?_,?_,fun x c e=>?_,fun p hp=>?_,I.hok.laid hk hD ?_,?_⟩
 ·exact S.kind
 ·have Ft:(x,NameKind.free)∈scope.names:=by
   rcases hx with hx|hx
   ·exact rZ #[81] S.nocell hx
   ·exact rZ (.inr rfl) S.nocell hx
  obtain⟨c,e⟩:=S.aby I.ok _ Ft rfl
  exact⟨c,rN _ e _ _ (.inl Ft)⟩
 ·exact absurd (show false=true from h) jV
 ·obtain⟨f0,f1,f2,f3,f4,f5⟩:=hf b hb
  obtain⟨o,e,_⟩:=hfo b hb
  exact⟨neC e,fun x c ec=>f4 x c (FT x c ec)⟩
 ·obtain⟨f0,f1,f2,f3,f4,f5⟩:=hf b hb
  rcases f3 with z|z
  ·exact I.ok.noex b o e z
  ·exact absurd (jW (jJ (I.ok.bs b o e).1) z) (JP _)
 ·obtain⟨f0,f1,f2,f3,f4,f5⟩:=hf b hb
  rcases jY.mp (I.IP b hb2)with z|z
  ·exact f1 z
  ·exact f2 z
 ·-- a alR value
  obtain⟨mX,hnX,hlX⟩:=id I.loc
  have hj:#[73][j]?=some (some v):=e2
  unfold bB at hj
  rw[jN]at hj
  cases ej:ix[j]? with
  | none=>rw[ej]at hj;cases hj
  | some o =>
   rw[ej]at hj
   cases o with
   | none=>cases hj
   | some i =>
    have hj':(σ[i]?).join=some v:=Option.some.inj hj
    have hz:(x,some i)∈N.zip ix:=JB.mpr ⟨j,by rw[List.getElem?_zip_eq_some];exact⟨e1,ej⟩⟩
    obtain⟨hNi,MT⟩:=S.at_ _ hz i rfl
    have ahw:=Dc MT
    have hσ:σ[i]?=some (some v):=by
     cases q:σ[i]? with
     | none=>rw[q]at hj';cases hj'
     | some w' =>
      rw[q]at hj'
      have q':w'=some v:=hj'
      rw[q']
    have hvx:X.env.scope.names.lookup x=some .cell\/X.env.scope.names.lookup x=some .free:=S.free _ ahw rfl
    obtain⟨u,r,lk⟩:=hlX i x v hNi hσ (.inr hvx)
    refine⟨u,r,.inr ⟨?_,?_⟩⟩
    ·exact BB MT
    ·rcases lk with⟨k,_⟩|⟨k,c,ec,ci⟩
     ·have k':X.env.scope.names.lookup x=some .local:=k
      rcases hvx with z|z
      ·rw[z]at k';cases k'
      ·rw[z]at k';cases k'
     ·obtain⟨oc,hoc,aew⟩:=ci
      exact⟨c,rN _ ec _ _ (.inl ahw),oc,hk c oc hoc,aew⟩
 ·obtain⟨v,o,ho,hd⟩:=I.cell x c (FT x c e)
  exact⟨v,o,hk c o ho,hd⟩
 ·show upd H D (.lst []) C=none
  rw[aj (Ne.symm hDC)]
  exact fresh hC
 ·obtain⟨o,ho⟩:=agI x c (FT x c e)
  rw[aj (neD ho)]
  exact I.freeC x c (FT x c e)
 ·obtain⟨e,n,ne,nf,d⟩:=I.pin p hp
  refine⟨hk _ _ e,by rw[aj (neD e)];exact n,neC e,fun z=>?_,d⟩
  rcases jY.mp (I.IP p.1 z)with q|q
  ·exact ne q
  ·exact nf q
 ·obtain⟨n,hl⟩:=hl
  exact⟨je _,[],n,.nil,hl⟩
 ·show#[73].length=N.length
  unfold bB
  rw[jX]
  exact S.len
end
theorem K6{target:Expr}{it acc:Value}(I:Nat->Ql->Prop)(turn:∀ n s,I n s->wpAny #[9] A (pyNext it) (fun r s₁=>match r with
   | none=>R (.ok .next) s₁
   | some v=>wpAny #[9] A (letOwnedTupleGo target it v) (fun _ adG=>wpAny #[9] A (assign target env v) (fun _ s₂=>wpAny #[9] A (eval elt env) (fun x s₃ =>
     wpAny #[9] A (call (.builtin "list.append") [acc,x]) (fun _ s₄=>∃ m,m<n/\I m s₄) (fun _ _=>False) s₃)
     (fun _ _=>False) s₂) (fun _ _=>False) adG) (fun _ _=>False) s₁) (fun _ _=>False) s)(n:Nat)(h:I n s):
  codeAny #[9] A (.compLoop (.ListComp elt [⟨target,iter,[],0⟩] scope pos) 0 it acc env) R s:=by
 refine codeAny_loop rfl I (fun n s hI=>?_) n h
 show wpAny _ _ ((compTurn (.ListComp elt [⟨target,iter,[],0⟩] scope pos) 0 it acc env).onRaise (fun x=>do noteFrame x env;theTreesLotGoes x)) _ _ s
 refine wpAny_noted ?_
 rw[compTurn_list1]
 refine qd (Wg (qd (WL (turn n s hI) (fun r s₁ h₁=>?_) fun _ _ h'=>h'.elim)))
 cases r with
 | none=>exact WS h₁
 | some v =>
  refine qd (WL h₁ (fun _ adG ahL=>?_) fun _ _ h'=>h'.elim)
  exact qd (WL ahL (fun _ s₂ h₂=>qd (qd (WL h₂ (fun x s₃ h₃=>qd (WL h₃
   (fun _ s₄ h₄=>WS (WS ⟨rfl,h₄⟩)) fun _ _ h'=>h'.elim)) fun _ _ h'=>h'.elim))) fun _ _ h'=>h'.elim)
def AD(J:It)(ix:List (Option Nat))(g:TG)(te:TE)(σ:St)(H:Hp)(Qd:QQ->Hp->Prop):Prop:=
 ∀ D,H D=none->∃ W:Nat->Nat->St->Hp->Prop,(∃ m,W 0 m #[73] #[83])/\∀ i m σ' H',W i m σ' H' ->
  (J.stop i H'/\Qd D H')\/(J.go i H'/\∀ x H2,J.yld i H' x H2->g x σ' H2 fun σ3 H3=>te σ3 H3 fun y H4=>∃ ys,H4 D=some #[93]/\ys.length<sizeLine/\∃ m',m'<m/\W (i+1) m' σ3 (upd H4 D (.lst (ys++[y]))))
section
variable{tg:Expr}{acT:Pos}{J:It}{tn:Nat->Heap->Prop}{g:TG}
theorem K7{RR:Value->QQ->Result->Ql->Prop}{E:Value->Ql->Prop}(I:Inv X pins σ H s)(hc:X.calm=true)(S:bF X.N X.env.scope N ix scope)(T:Turn X.prog X.w X.K tg J fp it tn)(st:tn 0 s.heap)(f2:∀ b∈fp,Af X pins H b)(hg:∀ C,PG (lP X N scope fp s H C) tg g)(he:∀ C,PE (lP X N scope fp s H C) elt te)(hW:AD J ix g te σ H Qd)(hR:∀ D C s' H' m,Inv X pins σ H' s'->s'.heap.Ns C m->Af X pins H' C->Qd D H'->RR #[66] C (.ok .next) s'):
  wpAny #[5] X.A (newList []) (fun acc s₃=>wpAny #[5] X.A (newFunctionEnv scope X.env.globals (eZ X.env.cells scope.names []) [] X.env.qual none .none (some X.env)) (fun agJ s₄ =>
   codeAny #[5] X.A (.compStart #[38] 0 #[100] acc { agJ with scope:=relabel scope X.env }) (RR acc agJ.locals) s₄) E s₃) E s:=by
 refine WN (wpAny_newFunctionEnv S.nocell (by intro y hy;simp at hy) (fun h₁ Ou Ie=>?_) S.kind)
 dsimp only at Ou Ie ⊢
 generalize hH2:s.heap.push { cls:=.type "list",dict:=none,data:=.seq ([]:List Value).toArray }=H2 at Ou Ie ⊢
 have hC:H2.objs.size=s.heap.objs.size+1:=by rw[<- hH2,Jj]
 have hDC:s.heap.objs.size≠H2.objs.size:=by rw[hC];exact jR (Jx _)
 have agV:s.heap.objs.size<=H2.objs.size:=by rw[hC];exact JU _
 have below:∀ b,b<s.heap.objs.size->b≠H2.objs.size:=fun b hb=>by rw[hC];exact jR (Nat.lt_succ_of_lt hb)
 have old:∀ b o,s.heap.get? b=some o->h₁.get? b=some o:=fun b o e=>Ie.extBut b o (below b (jJ e)) (jC _ (hH2 ▸ jC _ e))
 have Ba:∃ n,h₁.get? s.heap.objs.size=some { cls:=.type "list",data:=.seq ([]:List Value).toArray n }:=⟨_,Ie.extBut _ _ hDC (jC _ (hH2 ▸ jL _ rfl))⟩
 have Tv:tn 0 h₁:=T.keep _ _ _ st fun b _ o e=>old b o e
 have fo:∀ b∈fp,∃ o,s.heap.get? b=some o/\∀ v,o.data≠.cell v:=T.obj _ _ st
 have I0:Inv (lP X N scope fp s H H2.objs.size) pins #[73] (upd H s.heap.objs.size (.lst [])) { s with heap:=h₁,toks:=s.toks+([]:List (Qm×Value)).length }:=
  Si I S f2 fo (jE _) agV hDC old Ou Ba
 have freshD:H s.heap.objs.size=none:=I.hok.fresh (jE _)
 obtain⟨W,⟨m0,w0⟩,turn⟩:=hW s.heap.objs.size freshD
 have agK:∀ b∈fp,b≠H2.objs.size:=fun b hb=>by
  obtain⟨o,e,_⟩:=fo b hb
  exact below b (jJ e)
 have Pk:∀ {H':Hp},(∀ b∈fp,H' b=none)->∀ b∈fp,Af (lP X N scope fp s H H2.objs.size) pins H' b:=fun hn b hb=>by
  obtain⟨f0,f1,f3,f4,f5,f6⟩:=f2 b hb
  exact⟨hn b hb,agK b hb,I0.ok.exfs b hb,.inl hb,(I0.ok.exf b hb).2,f6⟩
 have fr0:∀ b∈fp,(upd H s.heap.objs.size (.lst [])) b=none:=fun b hb=>by
  obtain⟨o,e,_⟩:=fo b hb
  rw[aj (jR (jJ e))]
  exact(f2 b hb).1
 have loop:codeAny #[5] X.A (.compLoop #[38] 0 #[100] #[51] (compEnvC scope (eZ X.env.cells scope.names []) H2.objs.size X.env))
   (RR #[51] H2.objs.size) { s with heap:=h₁,toks:=s.toks+([]:List (Qm×Value)).length }:=by
  refine K6 (fun n s'=>∃ i σ' H',Inv (lP X N scope fp s H H2.objs.size) pins σ' H' s'/\tn i s'.heap/\(∀ b∈fp,H' b=none)/\W i n σ' H') ?_ m0 ⟨0,_,_,I0,Tv,fr0,w0⟩
  rintro n s3 ⟨i,σ3,H3,I3,st3,fr3,w3⟩
  rcases turn i n σ3 H3 w3 with⟨stop,qn⟩|⟨go,step⟩
  ·refine cD (T.done (lP X N scope fp s H H2.objs.size) rfl rfl rfl hc i pins s3 σ3 H3 _ I3 (Pk fr3) st3 stop) fun r s4 ⟨hr,I4⟩=>?_
   subst hr
   obtain⟨m4,hn4,_⟩:=id I4.loc
   refine hR _ _ s4 H3 m4 ?_ hn4 (I.C6 agV I4.free) qn
   exact I.AQ (ch:=fp) I4.os I4.base I4.hok I4.bare fun b hb=>by
    obtain⟨f0,f1,f3,f4,f5,f6⟩:=f2 b hb
    exact⟨f4,f1,f5,f6⟩
  ·refine cD (T.item (lP X N scope fp s H H2.objs.size) rfl rfl rfl hc i pins s3 σ3 H3 _ I3 (Pk fr3) st3 go) fun r s4 ⟨u,hr,h4⟩=>?_
   subst hr
   refine cD h4 fun _ s5 ⟨x,H5,I5,r5,y5,st5,fr5⟩=>?_
   have I5' := I5.pinned (Pk fr5) (T.obj _ _ st5)
   refine cD (hg _ _ s5 σ3 H5 x u _ I5' r5 (step x H5 y5)) fun _ s6 ⟨σ6,H6,I6,q6⟩=>?_
   refine cD (he _ _ s6 σ6 H6 _ I6 q6) fun yv s7 ⟨y,H7,I7,r7,ys,hD7,hz7,m',hm,w7⟩=>?_
   refine cD (bJ (X:=lP X N scope fp s H H2.objs.size) _ s7 σ6 H7 #[51] [y] #[51] [yv] (fun _ H8=>W (i+1) m' σ6 H8) I7 rfl (.cons r7 .nil) ⟨_,ys,y,rfl,rfl,hD7,hz7,w7⟩) fun _ s8 ⟨_,H8,I8,_,w8⟩=>?_
   refine⟨m',hm,i+1,σ6,H8,I8.BH,T.keep _ _ _ st5 fun b hb o e=>(I8.pin (b,o) (jZ _ (jZ _ (rT hb e)))).1,fun b hb=>?_,w8⟩
   obtain⟨o,e,d⟩:=T.obj _ _ st5 b hb
   exact(I8.pin (b,o) (jZ _ (jZ _ (rT hb e)))).2.1
 exact codeAny_compStart_list loop (T.self _ _ _ _ _ Tv loop)
def adH(ix:List (Option Nat))(wi:TI)(g:TG)(te:TE):TE:=fun σ H Q=>wi σ H fun J H1=>AD J ix g te σ H1 fun D H'=>Q #[66] H'
theorem eK(hc:X.calm=true)(S:bF X.N X.env.scope N ix scope)(hi:PI X tg iter wi)(hg:∀ fp s H C,PG (lP X N scope fp s H C) tg g)(he:∀ fp s H C,PE (lP X N scope fp s H C) elt te)(hs:∀ x,foldedSetIterable iter X.env x=pure x:=by intro _;rfl):PE X #[38] (adH ix wi g te):=by
 exists 4
 rw[eval_ListComp]
 refine qj (use:=none) rfl hs (Aa (S.aby I.ok)) S.kind S.locs (cD (hi pins s σ H _ I h) fun v s1 h1=>cD h1 fun itv s2 h2=>?_)
 obtain⟨it,fp,tn,J,H2,e,I2,T,S8,f2,hW⟩:=h2
 subst e
 refine K7 (RR:=fun acc C=>compPost #[5] X.A X.xe none #[54] acc C) I2 hc S T S8 f2 (hg _ _ _) (he _ _ _) hW ?_
 intro D C s' H' m I' hn fC q
 exact⟨m,hn,fun h' sb=>⟨.ref D,H',I'.turned (t' := s'.toks) (fun b o hb e=>(sb.2 b hb).trans e) fC.1 fC.2.1 fC.2.2.2.1 fC.2.2.2.2.1 fC.2.2.2.2.2,rfl,q⟩⟩
theorem lU(hc:X.calm=true)(hN:X.N.Nodup)(hyi:X.N[i]?=some y)(hy:Loc X.env.scope y)(S:bF X.N X.env.scope N ix scope)(hi:PI X tg iter wi)(hg:∀ fp s H C,PG (lP X N scope fp s H C) tg g)(he:∀ fp s H C,PE (lP X N scope fp s H C) elt te)(hsw:qO #[38] (some (.Name y py)) acT.line X.env=pure true:=by rfl)(hf:X.fn y=true\/X.env.scope.names.lookup y=some .local:=by first|exact .inl rfl|exact .inr rfl|assumption)(hs:∀ x,foldedSetIterable iter X.env x=pure x:=by intro _;rfl):PS X (.Assign [.Name y py] #[38] acT) (wV (adH ix wi g te) (aX i)):=by
 exists 9
 rw[exec_Assign_Name_used _ _ _ _ hsw]
 refine qd (Wg (qd ?_))
 show wpAny _ X.A (do let _ <- comprehension #[38] scope X.env _ (newList []) false (eval iter X.env) (some (assign (.Name y py) X.env))) _ _ s
 refine qd (WL (qj (use:=some (assign (.Name y py) X.env)) (Q:=fun _ s'=>SP X pins D .next s') rfl hs (Aa (S.aby I.ok)) S.kind S.locs
  (cD (hi pins s σ H _ I h) fun v s1 h1=>cD h1 fun itv s2 h2=>?_)) (fun _ s' hq=>WS (WS hq)) fun _ _ e=>e)
 obtain⟨it,fp,tn,J,H2,e,I2,T,S8,f2,hW⟩:=h2
 subst e
 refine K7 (RR:=fun acc C=>compPost #[5] X.A X.xe (some (assign (.Name y py) X.env)) (fun _ s'=>SP X pins D .next s') acc C) I2 hc S T S8 f2 (hg _ _ _) (he _ _ _) hW ?_
 intro Dl C s' H' m I' hn fC q
 show wpAny _ X.A (assign (.Name y py) X.env (.ref Dl)) _ _ s'
 refine qY (Ht I' hN hyi hy (v:=.ref Dl) rfl (fun s2 I2' hsb=>?_) hf)
 obtain⟨a,sb,ha⟩:=hsb
 refine⟨m,hn.sameBut sb ?_,fun h3 sb3=>⟨_,H',I2'.turned (t' := s2.toks) (fun b o hb e=>(sb3.2 b hb).trans e) fC.1 fC.2.1 fC.2.2.2.1 fC.2.2.2.2.1 fC.2.2.2.2.2,q⟩⟩
 rcases ha with z|z
 ·rw[z];exact fC.2.1
 ·exact Ne.symm (fC.2.2.2.2.1 _ _ z)
end
theorem fc(Pv:QQ->Nat->List V->Hp->Prop)(h0:∀ D,H D=none->Pv D 0 [] #[83])(hs:∀ D i ys H' (Q':VK),H D=none->i<n->H' D=some #[93]->Pv D i ys H'->#[8] ->
   te (#[73].set 0 (some (.int (lo+i)))) H' Q')(hd:∀ D ys H',H D=none->H' D=some #[93]->Pv D n ys H'->Qd D H'):AD (Itr lo n) ix (aX 0) te σ H Qd:=by
 intro D hD
 refine⟨fun i m σ' H'=>m=n-i/\i<=n/\(σ'=bB ix σ\/∃ t,σ'=#[73].set 0 t)/\∃ ys,H' D=some #[93]/\Pv D i ys H',⟨n,by simp,je _,.inl rfl,[],ae,h0 D hD⟩,?_⟩
 rintro i m σ' H' ⟨rfl,hi,hσ,ys,hy,p⟩
 by_cases fM:i<n
 ·refine .inr ⟨fM,fun x H2 y=>?_⟩
  obtain⟨e1,e2⟩:=y
  subst e1
  subst e2
  have es:σ'.set 0 (some (V.int (lo+i)))=#[73].set 0 (some (V.int (lo+i))):=by
   rcases hσ with z|⟨t,z⟩
   ·rw[z]
   ·rw[z,Ju]
  show te (σ'.set 0 (some (V.int (lo+i)))) _ _
  rw[es]
  refine hs D i ys _ _ hD fM hy p fun y H4 h4 hz p4=>⟨ys,h4,hz,n-(i+1),by omega,rfl,fM,.inr ⟨_,rfl⟩,ys++[y],ae,p4⟩
 ·have e:i=n:=by omega
  subst e
  exact .inl ⟨jE _,hd D ys H' hD hy p⟩
theorem lN(Pv:QQ->Nat->List V->Hp->Prop)(h0:∀ D,H D=none->Pv D 0 [] #[83])(hl:∀ D i ys H',i<=xs.length->Pv D i ys H'->oM K H' a xs)(hs:∀ D i x ys H' (Q':VK),H D=none->xs[i]?=some x->H' D=some #[93]->Pv D i ys H'->#[8] ->
   te (#[73].set 0 (some x)) H' Q')(hd:∀ D ys H',H D=none->H' D=some #[93]->Pv D xs.length ys H'->Qd D H'):AD (Itl K a) ix (aX 0) te σ H Qd:=by
 intro D hD
 refine⟨fun i m σ' H'=>m=xs.length-i/\i<=xs.length/\(σ'=bB ix σ\/∃ t,σ'=#[73].set 0 t)/\∃ ys,H' D=some #[93]/\Pv D i ys H',⟨xs.length,by simp,je _,.inl rfl,[],ae,h0 D hD⟩,?_⟩
 rintro i m σ' H' ⟨rfl,hi,hσ,ys,hy,p⟩
 have q:=hl D i ys H' hi p
 by_cases fM:i<xs.length
 ·refine .inr ⟨⟨xs,xs[i],q,by simp[fM]⟩,fun x H2 y=>?_⟩
  obtain⟨e1,e2⟩:=y
  subst e1
  have ex:=e2 xs q
  have es:σ'.set 0 (some x)=#[73].set 0 (some x):=by
   rcases hσ with z|⟨t,z⟩
   ·rw[z]
   ·rw[z,Ju]
  show te (σ'.set 0 (some x)) _ _
  rw[es]
  refine hs D i x ys _ _ hD ex hy p fun y H4 h4 hz p4=>⟨ys,h4,hz,xs.length-(i+1),by omega,rfl,fM,.inr ⟨_,rfl⟩,ys++[y],ae,p4⟩
 ·have e:i=xs.length:=by omega
  subst e
  exact .inl ⟨⟨xs,q,jE _⟩,hd D ys H' hD hy p⟩
section
inductive al8 (K:Wl) (xs:List V) (H:Hp) (Q:VK):Prop
 | mk (x:_) (n:_) (t:_) (b:_) (_:xs=[x,.ty n]) (_:pE K H x t) (_:Wo K t (.type n)=some b) (_:Q (.bl b) H)
theorem iT:lH X (.builtin "isinstance") (al8 X.K):=by
 exists 5
 obtain⟨x,n,t,b,rfl,ty,e,q⟩:=h
 obtain⟨u,v,rfl,ru,rv⟩:=r.two
 cases(show v=YK n from rv)
 exact Sj I ru ty e fun tk=>⟨.bl b,H,I.tok tk,rfl,q⟩
end
section
theorem FX{t:QQ}(hne:t≠it):∀ (n i:Nat) (s:Ql) (Q:List Value->Ql->Prop),s.heap.IsListIter it t i->s.heap.IsList t items->i+n<=items.size ->
  (∀ h',h'.IsListIter it t (i+n)->Yf it s.heap h'->Q ((items.toList.drop i).take n) { s with heap:=h' })->wpAny #[9] A (draw #[100] n) Q E s
 | 0,i,s,Q,hit,_,_,hQ=>by
  show wpAny _ _ (pure []) Q E s
  exact WS (by simpa using hQ s.heap hit (xr ..))
 | n+1,i,s,Q,hit,ht,hle,hQ=>by
  have fM:i<items.size:=by omega
  show wpAny _ _ (pyNext #[100]>>=_) Q E s
  refine qd (Wa hit ht (x:=items[i]) (by simp[fM]) fun h₁ Oq Lv=>?_)
  refine qd (WB (FX hne n (i+1) _ _ Oq (ht.extBut Lv.extBut hne) #[0] fun h₂ aes ahG=>WS ?_))
  have hd:items.toList.drop i=items[i] :: items.toList.drop (i+1):=by simp[jv,fM]
  have:=hQ h₂ (by rw[show i+(n+1)=i+1+n by omega];exact aes) (Lv.trans ahG)
  rw[hd,List.take_succ_cons]at this
  exact this
theorem Ct{t:QQ}{Q:List Value->Ql->Prop}(hh:A.handled=none)(ht:s.heap.IsList t items)(hQ:∀ h',ya s.heap.objs.size s.heap h'->Q items.toList { s with heap:=h' }):wpAny #[9] A (unpackItems (.ref t) items.size none) Q E s:=by
 have fM:t≠s.heap.objs.size:=by obtain⟨o,ho,_⟩:=ht;exact jR (jJ ho)
 unfold unpackItems
 refine qd ?_
 ·unfold notIterableAtAll
  refine qd (Wf ht.typeIs slot_list_iter.lookup ?_)
  refine WS ?_
  simp only[JA,if_false]
  refine qd (WB (WU ht ?_))
  refine qd (WB (FX fM items.size 0 _ _ ⟨_,jL _ rfl,rfl,rfl⟩ (ht.push _) #[0] fun h₁ Oq Lv=>?_))
  have Ia:List.take items.size (List.drop 0 items.toList)=items.toList:=by
   rw[List.drop_zero];exact ZX #[21]
  rw[Ia]
  rw[if_neg #[21]]
  have ahI:h₁.IsList t items:=(ht.push _).extBut Lv.extBut fM
  refine qd (WB (WZ hh Oq ahI #[21] fun h₂ ahm=>?_))
  simp only[Option.isSome_none,JA,if_false]
  refine WS (hQ h₂ fun b o hb e=>ahm b o hb (Lv.extBut b o hb (jC _ e)))
theorem AM{x1}{t:QQ}(hh:A.handled=none)(ht:s.heap.IsList t items)(hn:(Qp elts env).length=items.size)(ahF:(Qp elts env).findIdx? (·.1)=none)(h:∀ h',ya s.heap.objs.size s.heap h'->wpAny #[9] A (assignInOrder ((Qp elts env).map (·.2)) items.toList) Q E { s with heap:=h' }):
  wpAny #[9] A (assign (.Tuple elts x1 pos) env (.ref t)) Q E s:=by
 rw[Xt]
 refine qd (Wg ?_)
 unfold unpack
 rw[hn,ahF]
 exact qd (WB (Ct hh ht h))
end
section
def akp(K:Wl)(n:Nat)(t:TGs):TG:=fun v σ H Q=>∃ a xs,v=.ref a/\oM K H a xs/\xs.length=n/\t xs σ H Q
theorem ae3{k:Nat}{t:TGs}(hc:X.calm=true)(h:PGs X es t)(hn:(Qp es X.env).length=n:=by rfl)(BK:(Qp es X.env).findIdx? (·.1)=none:=by rfl):PG X (.Tuple es k pos) (akp X.K n t):=by
 intro pins s σ H v u Q I r hw
 obtain⟨a,xs,e1,hq,hl,hw⟩:=hw
 subst e1
 cases r
 obtain⟨bz,rv,ht,hz⟩:=I.list hq
 refine AM #[85] ht.isList (by simp[hn,<- hl,rv.length]) BK fun h' hx=>?_
 have I1:Inv X pins σ H { s with heap:=h' }:=I.kept (t' := s.toks) fun b o e=>hx b o (jR (jJ e)) e
 exact h pins _ σ H xs _ Q I1 (by simpa using rv) hw
def Li:List V->List V->Bool
 | [],[]=>true
 | x :: xs,y :: ys=>P5 x y&&Li xs ys
 | _,_=>false
theorem Lk:∀ {xs ys:List V},xs.length≠ys.length->Li xs ys=false
 | [],[],h=>absurd rfl h
 | [],_ :: _,_=>rfl
 | _ :: _,[],_=>rfl
 | x :: xs,y :: ys,h=>by
  have:=@Lk xs ys (by simpa using h)
  simp[Li,this]
theorem Lj:∀ {xs ys:List V},xs.length=ys.length->Li xs ys=(jd xs.length).all fun j=>P5 (xs.getD j .non) (ys.getD j .non)
 | [],[],_=>rfl
 | [],_ :: _,h=>by simp at h
 | _ :: _,[],h=>by simp at h
 | x :: xs,y :: ys,h=>by
  have ih:=@Lj xs ys (by simpa using h)
  rw[jT,List.range_succ_eq_map,Ze,List.all_map]
  show(P5 x y&&Li xs ys)=(P5 x y&&_)
  rw[ih]
  rfl
end
end L2
namespace HT
open PySem PySem.Spec PyProof.Rows
variable{prog:Qj}{w:World}{A:Around}{E Q:Value→Ql→Prop}{s:Ql}{items:Array Value}
section
theorem wR{t sl:QQ}{vl vu:Value}{lo hi:Option Int}(ht:Qc s.heap t items)(hs:s.heap.IsSliceOf sl vl vu .none)(pl:Qb vl lo)(pu:Qb vu hi)(hw:fZ items.size 0 lo=0/\fZ items.size items.size hi=items.size)(h:Q (.ref t) s):wpAny #[9] A (getItem (.ref t) (.ref sl)) Q E s:=by
 obtain⟨os,hos,hcs,hds⟩:=id hs
 have hTs:s.TypeIs (.ref sl) "slice" := ⟨os,hos,hcs⟩
 unfold getItem
 try with_reducible refine WB ?_
 first|refine qd (WS ?_)|skip
 refine qd (Wd ht.typeIs #[7] ?_)
 refine qd (qg (name:=Str.ofString "__getitem__") ht.typeIs YJ
  (qh YJ ht.typeIs entry_tuple_getitem ?_ (Qo _ _)))
 show wpAny _ _ (yJ (.ref t)>>=_) _ _ s
 refine qd (tupleItemsOf_ ht ?_)
 refine qd (Wk hTs ?_)
 rw[if_pos #[7]]
 refine qd (rp hs pl pu ?_)
 have alo:((((fZ items.size 0 lo:Nat):Int)==0&&(1:Int)==1&&#[28]==items.size)=true):=by
  rw[hw.1,hw.2];simp
 show wpAny _ _ (if (((fZ items.size 0 lo:Nat):Int)==0&&(1:Int)==1&&#[28]==items.size)=true then _ else _) _ _ s
 rw[if_pos alo]
 unfold Xe
 refine qd (qd (Wk ht.typeIs (WS ?_)))
 rw[if_pos #[7]]
 first
  | exact qd (Wb (WS ⟨_,rfl,WS h⟩))
  | exact qd (Wb (qd (WS (WS ⟨_,rfl,WS h⟩))))
  | exact qd (qd (Wb (WS ⟨_,rfl,WS h⟩)))
end
end HT
namespace L2
open PySem PySem.Spec PyProof.Rows
variable{X:Cx}{xs fz:List V}{P:Qj}{w:World}{K:Wl}{mg:Qm→Option Value}{base:Heap}{x qual:Qm}{st:Stmt}{dV oc:Value}{f:QQ}{fd:QY}{ps:List Qm}{sp:Sp}{ds:List Value}{o:Obj}{items:Array Value}{n:Nat}{od an:Option QQ}{Fz:Array (Option Value)}{p pos:Pos}{e tg a:Expr}{es:List Expr}{H:Hp}{ta:TA}{tb:TS}{D:Ends}{σ:St}{c:TT}{pins:List (QQ×Obj)}{s:Ql}{A:Around}
section
inductive aik (K:Wl) (x:V) (lo:Option Int) (hi:Option Int) (H:Hp) (Q:VK):Prop
 | mk (a:_) (xs:_) (_:x=.ref a) (_:sQ K H a xs) (_:(HT.fZ xs.length 0 lo=0/\HT.fZ xs.length xs.length hi=xs.length)) (_:Q #[50] H)
theorem acR:SlR X (aik X.K):=by
 intro pins s σ H x v vl vu lo hi sl Q I rx hs pl pu h
 obtain⟨a,xs,rfl,hx,hw,q⟩:=h
 cases rx
 obtain⟨bz,r,ht,hz⟩:=I.tuple hx
 have hlen:bz.toArray.size=xs.length:=by rw[jP];exact r.length.symm
 exists "tuple",_,PyProof.Rows.slot_tuple_getitem.lookup,ht.typeIs
 exact HT.wR ht hs pl pu (by rw[hlen];exact hw) ⟨.ref a,H,I,rfl,q⟩
inductive rSl (K:Wl) (x:V) (lo:Option Int) (hi:Option Int) (H:Hp) (Q:VK):Prop
 | mk (a:_) (xs:_) (_:x=.ref a) (_:((oM K H a xs/\∀ p,H p=none->Q (.ref p) (upd H p (.lst (B4 xs lo hi))))\/(sQ K H a xs/\(B4 xs lo hi=xs->Q #[50] H)/\∀ p,H p=none->Q (.ref p) (upd H p (.tup (B4 xs lo hi))))))
theorem Oc{lo hi:Option Int}(h:HT.fZ xs.length 0 lo=0/\HT.fZ xs.length xs.length hi=xs.length):B4 xs lo hi=xs:=by
 unfold B4
 rw[h.1,h.2]
 simp
theorem afi:SlR X (rSl X.K):=by
 intro pins s σ H x v vl vu lo hi sl Q I rx hs pl pu h
 obtain⟨a,xs,rfl,h⟩:=h
 rcases h with⟨hx,q⟩|⟨hx,q1,q2⟩
 ·exact II pins s σ H _ v vl vu lo hi sl Q I rx hs pl pu ⟨a,xs,rfl,hx,q⟩
 ·by_cases hw:HT.fZ xs.length 0 lo=0/\HT.fZ xs.length xs.length hi=xs.length
  ·exact acR pins s σ H _ v vl vu lo hi sl Q I rx hs pl pu ⟨a,xs,rfl,hx,hw,q1 (Oc hw)⟩
  ·exact afj pins s σ H _ v vl vu lo hi sl Q I rx hs pl pu ⟨a,xs,rfl,hx,hw,q2⟩
end
structure br(K:Wl)(x qual:Qm)(st:Stmt)(dV:Value)(f:QQ)(fd:QY):Prop where
 ex:∃ (oc:Value) (od:Option QQ) (kV doc pm:Value) (an:Option QQ) (cw ct:Value) (Fz:Array (Option Value)),
  fd=Ww x qual (eW st) (dA st) (ar st) dV kV doc pm an cw ct/\K.lookup f=some ⟨oc,od,.func fd,Fz⟩/\YH K cw qual=true
 kp:Wu K #[64]=true
section
theorem br.ok{N:List Qm}{k:Nat}(F:br K x qual st dV f fd)(S:aJ N ps (ar st))(len:∀ vs H Q E,sp vs H Q E->vs.length=ps.length)(tH:∀ (cw:Value) (A:Around) (outer:List QX) (s:Ql) (H:Hp) (vs:List V) (Q:VK) (E:XK),dD k (A.deeper (envOfC qual (ar st) s.heap.objs.size f cw))->sp vs H Q E ->
   ∃ t,Fe (bP eB P w K mg base N qual (ar st) f cw A outer s H E).iu (dA st) t/\t { nx:=fun _ H'=>Q .non H',rt:=Q } (start N vs) H):bc P w K mg base eB (k+1) f fd ps sp:=by
 exists 6
 refine T4 lk Fm S len fun A outer s H vs Q E hr Lu=>?_
 obtain⟨t,h,q⟩:=tH cw A outer s H vs Q E hr Lu
 exact⟨t,h.iu,q⟩
theorem br.binds(F:br K x qual st .none f fd)(h:∀ (kV doc pm:Value) (an:Option QQ) (cw ct:Value) (us:List Value),us.length=ps.length->bindArgs (Ww x qual (eW st) (dA st) (ar st) .none kV doc pm an cw ct) ⟨us,[]⟩=pure (ps.zip us)):Binds K fd ps []:=by
 exists 6
 exact .all (h kV doc pm an cw ct)
theorem br.B0{T:QQ}(F:br K x qual st (.ref T) f fd)(ho:K.lookup T=some o)(hs:o.data=.seq items n)(m:Nat)(hm:m+ds.length=ps.length)(h:∀ (kV doc pm:Value) (an:Option QQ) (cw ct:Value) (us:List Value),us.length=m->∃ k:Option (Array Value)->Qk (List (Qm×Value)),
   bindArgs (Ww x qual (eW st) (dA st) (ar st) (.ref T) kV doc pm an cw ct) ⟨us,[]⟩=seqItems? (.ref T)>>=k/\k (some items)=pure (ps.zip (us++ds))):Binds K fd ps ds:=by
 exists 6
 intro s us X hl
 obtain⟨k,h1,h2⟩:=h kV doc pm an cw ct us (by rw[jG]at hl;omega)
 exact BindsTo.of_defaults (fd:=Ww x qual (eW st) (dA st) (ar st) (.ref T) kV doc pm an cw ct) rfl (X _ _ ho) hs h1 h2
theorem AY{kV doc pm cw ct:Value}(l:K.lookup f=some ⟨oc,od,.func (Ww x qual (eW st) (dA st) (ar st) dV kV doc pm an cw ct),Fz⟩)(c:YH K cw qual=true)(k:Wu K #[64]=true):br K x qual st dV f (Ww x qual (eW st) (dA st) (ar st) dV kV doc pm an cw ct):=⟨⟨oc,od,kV,doc,pm,an,cw,ct,Fz,rfl,l,c⟩,k⟩
structure bp(P:Qj)(w:World)(K:Wl)(mg:Qm->Option Value)(base:Heap)(x:Qm)(k:Nat)(ps:List Qm)(fz:List V)(sp:Sp):Prop where
 ex:∃ (f:QQ) (fd:QY) (ds:List Value),mg x=some #[64]/\Wu K #[64]=true/\Vals fz ds/\Binds K fd ps ds/\bc P w K mg base eB k f fd ps sp
end
section
variable{j k:Nat}{t:TA}
theorem aW(G:bp X.prog X.w X.K X.mg X.base x k ps fz sp)(hr:dD j X.A)(ha:PA X (e :: es) t)(hx:∀ e s,X.xe e s=False:=by intro _ _;rfl)(Fq:k<=j:=by decide)(hg:Gl X x:=by rfl)(tI:#[15]=false:=by decide)(he:qM (e :: es) X.env=#[16] :: qM es X.env:=by rfl)(rC:#[22].any (·.1)=false:=by rfl):
  PE X #[18] (Hu sp fz E0 t):=by
 obtain⟨f,fd,ds,hm,hk,hd,hb,F⟩:=G.ex
 exact Iq F (hr.mono Fq) hg hm hk hb hd (fun _ _ _ _ _ _ _ h=>h.elim) ha tI he rC
end
theorem tL(K:Wl):Wo K (.type "int") (.type "int")=some true:=by with_unfolding_all rfl
theorem rR(K:Wl):Wo K (.type "int") (.type "bool")=some false:=by with_unfolding_all rfl
theorem ak{p:QQ}(h:H p=none)(o:HO):aB H (upd H p o):=fun b u q=>by rw[aj (aq q h)];exact q
theorem small(h:n<=1000):n<=sizeLine:=zK (aA h)
theorem ck:Qr "len" = some (.builtin "len"):=by decide +kernel
theorem TK:Qr "min" = some (.builtin "min"):=by decide +kernel
theorem aD:Qr "isinstance" = some (.builtin "isinstance"):=by decide +kernel
theorem HQ:Qr "int" = some (.type "int"):=by decide +kernel
theorem HP:Qr "bool" = some (.type "bool"):=by decide +kernel
theorem cy:Qr "tuple" = some (.type "tuple"):=by decide +kernel
theorem Df:Qr "list" = some (.type "list"):=by decide +kernel
theorem ad4:Qr "str" = some (.type "str"):=by decide +kernel
theorem De:Qr "dict" = some (.type "dict"):=by decide +kernel
theorem J8:Qr "reversed" = some (.type "reversed"):=by decide +kernel
def RL:Int:=2^4000
theorem DP{k:Int}(h0:0<=k)(h:k<RL):k.natAbs.log2<4000:=by
 rcases Zk k.natAbs with z|hp
 ·rw[z];decide +kernel
 ·refine(QO #[0]).mpr ?_
  have e:RL=((2^4000:Nat):Int):=by unfold RL;norm_cast
  rw[e]at h
  omega
def Tw(i j:Int):Prop:=(0<=i/\i<RL)/\(0<=j/\j<RL)
theorem Tw.ok{i j:Int}(h:Tw i j):IntMulOk i j:=by
 have one:∀ {k:Int},0<=k->k<RL->yt k<=2^20:=fun {k} h0 h1=>by
  unfold yt
  have:=DP h0 h1
  split<;>omega
 exact .of_bits (one h.1.1 h.1.2) (one h.2.1 h.2.2)
def ada(i j:Int):Prop:=0<j/\j<RL
section
theorem Q9:BS X (binaryOp .Mult) (rI Tw fun i j=>.int (i*j)):=opI fun _ _ _ _ _ _ _ hc q=>xT q hc.ok
theorem Z8:BS X (binaryOp .FloorDiv) (rI ada fun i j=>.int (i / j)):=opI fun i j _ _ _ _ _ hc q=>by
 have h1:(0:Int)<j:=hc.1
 have h2:j<RL:=hc.2
 have h3:=DP (Jm h1) h2
 exact floordiv_int #[0] (by rw[zE i #[0]];exact q) (.inl (yL #[0]))
end
def Itv(K:Wl)(a:QQ)(n:Nat):It:=
 ⟨fun i H=>i<n/\∃ xs,oM K H a xs/\xs.length=n,fun i H x H'=>H'=H/\∀ xs,oM K H a xs->xs[n-1-i]?=some x,fun i H=>i=n⟩
theorem aa7(a it:QQ)(n:Nat):Turn P w K tg (Itv K a n) [it] it (fun i h=>i<=n/\yn h it a ((n:Int)-1-(i:Int))) where
 mem:=by simp
 obj:=fun i h st b hb=>by
  exists 10
  subst e
  obtain⟨_,o,e,c,d⟩:=st
  exists 8
 keep:=fun i h h' st k=>⟨st.1,st.2.at fun o e=>k it #[21] o e⟩
 item:=by
  exists 2
  exists 17
  obtain⟨hi,xs,hq,hn⟩:=hg
  obtain⟨bz,rv,p,hz⟩:=I.list hq
  have hj:n-1-i<xs.length:=by omega
  obtain⟨u,hu,ru⟩:=rv.get (i:=n-1-i) (x:=xs[n-1-i]) (by simp[hj])
  exists 3
  have e:(n:Int)-1-(i:Int)=((n-1-i:Nat):Int):=by omega
  have S8:=st.2
  rw[e]at S8
  refine wpAny_pyNext_rev_item S8 p.isList (x:=u) (by simpa using hu) fun h' FF sb=>?_
  have I1:Inv X pins σ H { s with heap:=h' }:=I.turned (t' := s.toks) (fun b o hb e=>(sb.2 b hb).trans e) f0 f1 f3 f4 f5
  obtain⟨o,eo,c,d⟩:=id FF
  refine⟨u,rfl,F6 (s:={ s with heap:=h' }) eo c d #[7] ⟨xs[n-1-i],H,I1,ru,⟨rfl,fun ys hy=>by rw[I.Et hy hq];simp[hj]⟩,⟨by omega,?_⟩,fun b hb=>(hf b hb).1⟩⟩
  have e2:(n:Int)-1-((i+1:Nat):Int)=((n-1-i:Nat):Int)-1:=by omega
  rw[e2]
  exact FF
 done:=by
  exists 2
  exists 17
  have hg':i=n:=hg
  exists 3
  have e:(n:Int)-1-(i:Int) = -1:=by omega
  have S8:=st.2
  rw[e]at S8
  exact wpAny_pyNext_rev_end #[85] S8 fun h' eb=>⟨rfl,I.turned (t' := s.toks) #[70] f0 f1 f3 f4 f5⟩
 self:=fun _ _ _ _ _ st h=>WV st.2 h
section
def alp(K:Wl)(ta:TA):TI:=fun σ H R=>ta σ H fun vs H1=>∃ a xs,vs=[.ref a]/\oM K H1 a xs/\R (Itv K a xs.length) H1
theorem ae4(hg:Gl X "reversed")(hm:X.mg "reversed" = none)(ha:PA X [a] ta)(hs:qM [a] X.env=[(false,eval a X.env)]:=by rfl):PI X tg (.Call (.Name "reversed" p) [a] [] pos) (alp X.K ta):=by
 exists 14
 refine QU (pH I hg hm J8 (Wv (cD #[42] fun us s1 ⟨vs,H1,I1,r1,q1⟩=>?_) hs rfl))
 obtain⟨l,xs,e,hq,q⟩:=q1
 subst e
 cases r1 with
 | cons r rr =>
  cases rr
  cases r
  obtain⟨bz,rv,pl,hz⟩:=I1.list hq
  have hlen:=rv.length
  refine call_reversed_list pl.isList ?_
  have I2:Inv X pins σ H1 { s1 with heap:=s1.heap.push (revObj l ((bz.toArray.size:Int)-1)) }:=I1.kept (t' := s1.toks) fun b o e=>jC _ e
  have hit:yn (s1.heap.push (revObj l ((bz.toArray.size:Int)-1))) s1.heap.objs.size l ((xs.length:Int)-1-((0:Nat):Int)):=by
   refine⟨_,jL _ rfl,rfl,?_⟩
   have e:((bz.toArray.size:Int)-1)=(xs.length:Int)-1-((0:Nat):Int):=by rw[jP];omega
   rw[<- e]
   rfl
  refine WV hit ?_
  refine⟨s1.heap.objs.size,[s1.heap.objs.size],_,_,H1,rfl,I2,aa7 l _ xs.length,⟨je _,hit⟩,fun b hb=>?_,q⟩
  have e:b=s1.heap.objs.size:=by simpa using hb
  subst e
  exact I1.C6 (jE _) (I1.hok.fresh (jE _))
end
theorem abH{a:QQ}{g:TG}(Pv:Nat->St->Hp->Prop)(h0:Pv 0 σ H)(hl:∀ i σ H,i<=xs.length->Pv i σ H->oM K H a xs)(hs:∀ i x σ H,i<xs.length->xs[xs.length-1-i]?=some x->Pv i σ H->g x σ H fun σ2 H2=>tb { D with nx:=Pv (i+1),ct:=Pv (i+1),bk:=D.nx } σ2 H2)(hd:∀ σ H,Pv xs.length σ H->D.nx σ H):
  ∃ W:Nat->Nat->St->Hp->Prop,(∃ m,W 0 m σ H)/\∀ i m σ H,W i m σ H ->
   ((Itv K a xs.length).stop i H/\D.nx σ H)\/((Itv K a xs.length).go i H/\∃ N:St->Hp->Prop,#[19]/\∀ x H',(Itv K a xs.length).yld i H x H'->g x σ H' fun σ2 H2=>tb { D with nx:=N,ct:=N,bk:=D.nx } σ2 H2):=by
 refine⟨fun i m σ H=>m=xs.length-i/\i<=xs.length/\Pv i σ H,⟨xs.length,by simp,je _,h0⟩,?_⟩
 rintro i m σ H ⟨rfl,hi,p⟩
 have q:=hl i σ H hi p
 by_cases fM:i<xs.length
 ·refine .inr ⟨⟨fM,xs,q,rfl⟩,Pv (i+1),fun σ' H' p'=>⟨xs.length-(i+1),by omega,rfl,fM,p'⟩,fun x H' y=>?_⟩
  obtain⟨e,y⟩:=y
  subst e
  exact hs i x σ _ fM (y xs q) p
 ·have e:i=xs.length:=by omega
  subst e
  exact .inl ⟨rfl,hd σ H p⟩
theorem oB(Pv:Nat->St->Hp->Prop)(h0:∃ m,Pv m σ H)(hs:∀ m σ H,Pv m σ H->c σ H fun b H1=>if b=true then ∃ N:St->Hp->Prop,(∀ σ' H',N σ' H'->∃ m',m'<m/\Pv m' σ' H')/\tb { D with nx:=N,ct:=N,bk:=D.nx } σ H1 else D.nx σ H1):mW c tb D σ H:=⟨Pv,h0,hs⟩
section
theorem R7{ys:List V}{us ws:List Value}(rv:Vals xs us)(Ho:Vals ys ws)(fa:xs.all pj=true)(fb:ys.all pj=true)(j:Nat)(h1:j<us.toArray.size)(h2:j<ws.toArray.size):
  Yw A s us.toArray[j] ws.toArray[j] (P5 (xs.getD j .non) (ys.getD j .non)):=by
 have l1:=rv.length
 have l2:=Ho.length
 have j1:j<xs.length:=by simp at h1;omega
 have j2:j<ys.length:=by simp at h2;omega
 obtain⟨u1,e1,q1⟩:=rv.get (i:=j) (x:=xs[j]) (by simp[j1])
 obtain⟨u2,e2,q2⟩:=Ho.get (i:=j) (x:=ys[j]) (by simp[j2])
 have f1:pj xs[j]=true:=Zw.mp fa _ (jH j1)
 have f2:pj ys[j]=true:=Zw.mp fb _ (jH j2)
 have g1:us.toArray[j]=u1:=by
  have:=(jc.mp e1).2
  simpa using this
 have g2:ws.toArray[j]=u2:=by
  have:=(jc.mp e2).2
  simpa using this
 rw[g1,g2]
 have d1:xs.getD j V.non=xs[j]:=by simp[j1]
 have d2:ys.getD j V.non=ys[j]:=by simp[j2]
 rw[d1,d2]
 exact TZ q1 q2 f1 f2
inductive al9 (K:Wl) (x:V) (y:V) (H:Hp) (Q:VK):Prop
 | mk (a:_) (b:_) (xs:_) (ys:_) (_:x=.ref a) (_:y=.ref b) (_:oM K H a xs) (_:oM K H b ys) (_:xs.all pj=true) (_:ys.all pj=true) (_:Q (.bl (!Li xs ys)) H)
theorem O0(hu:X.A.units<cLine):BS X (qB .NotEq) (al9 X.K):=by
 intro pins s σ H x y v u Q I r1 r2 h
 obtain⟨a,b,xs,ys,rfl,rfl,ha,hb,fa,fb,q⟩:=h
 cases r1
 cases r2
 obtain⟨bz,rv,ht,hz⟩:=I.list ha
 obtain⟨Cd,rv2,ht2,hz2⟩:=I.list hb
 have l1:=rv.length
 have l2:=rv2.length
 by_cases hl:xs.length=ys.length
 ·refine xo (e:=fun j=>P5 (xs.getD j .non) (ys.getD j .non)) ht.isList ht2.isList (by simp;omega) hu (fun j h1 h2=>R7 rv rv2 fa fb j h1 h2) X.prog X.w X.xe _ ⟨.bl (!Li xs ys),H,I,?_,q⟩
  show Yi _=Yi _
  rw[Lj hl]
  simp[l1]
 ·refine Xf ht.isList ht2.isList (by simp;omega) hu X.prog X.w X.xe _ ⟨.bl (!Li xs ys),H,I,?_,q⟩
  rw[Lk hl]
  rfl
end
end L2
namespace PySem
end PySem
namespace L2
open PySem PySem.Spec PyProof.Rows
variable{X:Cx}{pos:Pos}{e value:Expr}{d y v:V}{td te tv:TE}{prog P:Qj}{w:World}{A:Around}{E Q:Value→Ql→Prop}{s:Ql}{K:Wl}{a b:QQ}{xs:List V}{ix:List (Option Nat)}{σ:St}{H H':Hp}{Qd:QQ→Hp→Prop}{κ:Type}{o:Option V}{d' u r:Value}{kvs:List (List Key×V)}{h h':Heap}{ks:List Key}{pins:List (QQ×Obj)}{t':Nat}{ob:HO}{env:QX}{vs values:List Expr}
theorem AS(Pv:QQ->Nat->List V->Hp->Prop)(h0:∀ D,H D=none->Pv D 0 [] #[83])(hl:∀ D i ys H',i<=xs.length->Pv D i ys H'->sQ K H' a xs)(hs:∀ D i x ys H' (Q':VK),H D=none->xs[i]?=some x->H' D=some #[93]->Pv D i ys H'->#[8] ->
   te (#[73].set 0 (some x)) H' Q')(hd:∀ D ys H',H D=none->H' D=some #[93]->Pv D xs.length ys H'->Qd D H'):AD (Itt K a) ix (aX 0) te σ H Qd:=by
 intro D hD
 refine⟨fun i m σ' H'=>m=xs.length-i/\i<=xs.length/\(σ'=bB ix σ\/∃ t,σ'=#[73].set 0 t)/\∃ ys,H' D=some #[93]/\Pv D i ys H',⟨xs.length,by simp,je _,.inl rfl,[],ae,h0 D hD⟩,?_⟩
 rintro i m σ' H' ⟨rfl,hi,hσ,ys,hy,p⟩
 have q:=hl D i ys H' hi p
 by_cases fM:i<xs.length
 ·refine .inr ⟨⟨xs,xs[i],q,by simp[fM]⟩,fun x H2 y=>?_⟩
  obtain⟨e1,e2⟩:=y
  subst e1
  have ex:=e2 xs q
  have es:σ'.set 0 (some x)=#[73].set 0 (some x):=by
   rcases hσ with z|⟨t,z⟩
   ·rw[z]
   ·rw[z,Ju]
  show te (σ'.set 0 (some x)) _ _
  rw[es]
  refine hs D i x ys _ _ hD ex hy p fun y H4 h4 hz p4=>⟨ys,h4,hz,xs.length-(i+1),by omega,rfl,fM,.inr ⟨_,rfl⟩,ys++[y],ae,p4⟩
 ·have e:i=xs.length:=by omega
  subst e
  exact .inl ⟨⟨xs,q,jE _⟩,hd D ys H' hD hy p⟩
section
theorem Lz(K:Wl)(h:X.K=K:=by rfl):IxR X (aih K):=by subst h;exact cF
theorem Bh(K:Wl)(h:X.K=K:=by rfl):IxR X (aii K):=by subst h;exact aG
end
section
variable[DecidableEq κ]
def fq(kvs:List (κ×V))(k:κ):Option V:=(kvs.find? fun kv=>decide (kv.1=k)).map (·.2)
def putK(kvs:List (κ×V))(k:κ)(v:V):List (κ×V):=
 if (kvs.any fun kv=>decide (kv.1=k))=true then kvs.map (fun kv=>if kv.1=k then(kv.1,v)else kv)else kvs++[(k,v)]
def Ea(kvs:List (κ×V))(k:κ):List (κ×V):=kvs.filter fun kv=>decide (kv.1≠k)
theorem mJ{p:κ×V}{r:List (κ×V)}{k:κ}(e:p.1=k):fq (p :: r) k=some p.2:=by simp[fq,Jo,e]
theorem ft{p:κ×V}{r:List (κ×V)}{k:κ}(e:¬ p.1=k):fq (p :: r) k=fq r k:=by simp[fq,Jo,e]
theorem Fc(k:κ):∀ kvs:List (κ×V),(kvs.any fun kv=>decide (kv.1=k))=(fq kvs k).isSome
 | []=>rfl
 | p :: r=>by
  rw[zY]
  by_cases e:p.1=k
  ·simp only[mJ e,decide_eq_true e,Bool.true_or,Option.isSome_some]
  ·rw[ft e,decide_eq_false e,Bool.false_or];exact Fc k r
theorem mD(kvs:List (κ×V))(k:κ)(v:V):(putK kvs k v).length<=kvs.length+1:=by
 unfold putK
 split
 ·rw[jX];omega
 ·rw[jG,jT,JR];omega
theorem Mg{kvs:List (κ×V)}{k:κ}(v:V)(h:fq kvs k=none):putK kvs k v=kvs++[(k,v)]:=by
 unfold putK
 rw[Fc,h]
 exact if_neg #[7]
theorem pD.pY{u:Option Value}(r:pD o u):o.isSome=u.isSome:=by
 cases o with
 | none=>cases u with
  | none=>rfl
  | some _=>exact(show False from r).elim
 | some _=>cases u with
  | none=>exact(show False from r).elim
  | some _=>rfl
theorem pD.getD{u:Option Value}(r:pD o u)(rd:RelV d d'):RelV (o.getD d) (u.getD d'):=by
 cases o with
 | none=>cases u with
  | none=>exact rd
  | some _=>exact(show False from r).elim
 | some _=>cases u with
  | none=>exact(show False from r).elim
  | some _=>exact r
theorem KV.val{kvs:List (κ×V)}{vs:List (κ×Value)}(r:KV kvs vs)(k:κ):pD (fq kvs k) (valueAt vs k):=by
 unfold KV at r
 induction r with
 | nil=>exact True.intro
 | @cons p q ps qs h t ih =>
  obtain⟨h1,h2⟩:=h
  by_cases e:p.1=k
  ·have e':q.1=k:=h1.symm.trans e
   have b:valueAt (q :: qs) k=some q.2:=by simp[valueAt,Jo,e']
   rw[mJ e,b];exact h2
  ·have e':¬ q.1=k:=fun z=>e (h1.trans z)
   have b:valueAt (q :: qs) k=valueAt qs k:=by simp[valueAt,Jo,e']
   rw[ft e,b];exact ih
theorem KV.any{kvs:List (κ×V)}{vs:List (κ×Value)}(r:KV kvs vs)(k:κ):(kvs.any fun kv=>decide (kv.1=k))=vs.any fun kv=>decide (kv.1=k):=by
 unfold KV at r
 induction r with
 | nil=>rfl
 | cons h t ih=>rw[zY,zY,ih,h.1]
theorem KV.ae9{kvs:List (κ×V)}{vs:List (κ×Value)}(r:KV kvs vs)(k:κ)(ry:RelV y u):
  KV (kvs.map fun kv=>if kv.1=k then(kv.1,y)else kv) (vs.map fun kv=>if kv.1=k then(kv.1,u)else kv):=by
 unfold KV at r ⊢
 induction r with
 | nil=>exact .nil
 | @cons p q ps qs h t ih =>
  rw[JF,JF]
  refine .cons ?_ ih
  obtain⟨h1,h2⟩:=h
  by_cases e:p.1=k
  ·rw[if_pos e,if_pos (h1.symm.trans e)];exact⟨h1,ry⟩
  ·rw[if_neg e,if_neg (fun z=>e (h1.trans z))];exact⟨h1,h2⟩
theorem KV.put{kvs:List (κ×V)}{vs:List (κ×Value)}(r:KV kvs vs)(k:κ)(ry:RelV y u):KV (putK kvs k y) (stored vs k u):=by
 unfold putK stored
 rw[r.any k]
 by_cases e:(vs.any fun kv=>decide (kv.1=k))=true
 ·rw[if_pos e,if_pos e];exact r.ae9 k ry
 ·rw[if_neg e,if_neg e];exact Paired.snoc r ⟨rfl,ry⟩
theorem KV.drop{kvs:List (κ×V)}{vs:List (κ×Value)}(r:KV kvs vs)(k:κ):KV (Ea kvs k) (without vs k):=by
 unfold KV at r ⊢
 unfold Ea without
 induction r with
 | nil=>exact .nil
 | @cons p q ps qs h t ih =>
  obtain⟨h1,h2⟩:=h
  rw[Zx,Zx]
  by_cases e:p.1=k
  ·have a:¬ decide (p.1≠k)=true:=by simp[e]
   have b:¬ decide (q.1≠k)=true:=by simp[h1.symm.trans e]
   rw[if_neg a,if_neg b];exact ih
  ·have e':¬ q.1=k:=fun z=>e (h1.trans z)
   have a:decide (p.1≠k)=true:=by simp[e]
   have b:decide (q.1≠k)=true:=by simp[e']
   rw[if_pos a,if_pos b];exact .cons ⟨h1,h2⟩ ih
theorem KV.length{kvs:List (κ×V)}{vs:List (κ×Value)}(r:KV kvs vs):kvs.length=vs.length:=Paired.length r
theorem TR(kvs:List (κ×V))(k:κ):(Ea kvs k).length<=kvs.length:=Jv _ _
end
theorem tJ{k:Key}(r:RelV (kV k) u):(bC P w).is k u=true:=by
 cases k with
 | inl i=>obtain⟨t,e⟩:=(show ∃ t,u=YT i t from r);subst e;exact LV P w i t
 | inr x=>obtain⟨t,e⟩:=(show ∃ t,u=Ys x t from r);subst e;exact LW P w x t
theorem G6:∀ {ks:List Key} {us:List Value},Vals (ks.map kV) us->ItemsAre (bC P w) ks us
 | [],_,r=>by rw[Zj]at r;cases r;exact .nil
 | k :: ks,_,r=>by
  rw[JF]at r
  cases r with
  | cons h t=>exact .cons (tJ h) (G6 t)
abbrev KT(H:Hp):List #[59]->List #[52]->Prop:=Qh fun p q=>p.1=q.1/\H q.2.1=some (.tup (p.1.map kV))/\RelV p.2 q.2.2
theorem KT.val{xs:List #[52]}(r:KT H kvs xs)(k:List Key):pD (fq kvs k) ((atKey xs k).map (·.2)):=by
 induction r with
 | nil=>exact True.intro
 | @cons p q ps qs h t ih =>
  obtain⟨h1,_,h2⟩:=h
  by_cases e:p.1=k
  ·have e':q.1=k:=h1.symm.trans e
   have b:atKey (q :: qs) k=some q.2:=by simp[atKey,Jo,e']
   rw[mJ e,b];exact h2
  ·have e':¬ q.1=k:=fun z=>e (h1.trans z)
   have b:atKey (q :: qs) k=atKey qs k:=by simp[atKey,Jo,e']
   rw[ft e,b];exact ih
theorem KT.ae9{xs:List #[52]}(r:KT H kvs xs)(k:List Key)(ry:RelV y u):
  KT H (kvs.map fun kv=>if kv.1=k then(kv.1,y)else kv) (xs.map (putAt k u)):=by
 induction r with
 | nil=>exact .nil
 | @cons p q ps qs h t ih =>
  rw[JF,JF]
  refine .cons ?_ ih
  obtain⟨h1,h2,h3⟩:=h
  unfold putAt
  by_cases e:p.1=k
  ·rw[if_pos e,if_pos (h1.symm.trans e)];exact⟨h1,h2,ry⟩
  ·rw[if_neg e,if_neg (fun z=>e (h1.trans z))];exact⟨h1,h2,h3⟩
theorem KT.put{xs:List #[52]}(r:KT H kvs xs)(k:List Key)(hb:H b=some (.tup (k.map kV)))(ry:RelV y u):
  KT H (putK kvs k y) (storedH xs k b u):=by
 have e:(kvs.any fun kv=>decide (kv.1=k))=(atKey xs k).isSome:=by
  rw[Fc,(r.val k).pY,ZL]
 unfold putK storedH
 rw[e]
 by_cases q:(atKey xs k).isSome=true
 ·rw[if_pos q,if_pos q];exact r.ae9 k ry
 ·rw[if_neg q,if_neg q];exact Paired.snoc r ⟨rfl,hb,ry⟩
theorem KT.keeps{xs:List #[52]}(r:KT H kvs xs)(ht:∀ b ys,H b=some (.tup ys)->H' b=some (.tup ys)):KT H' kvs xs:=
 Paired.LP r fun _ _ z=>⟨z.1,ht _ _ z.2.1,z.2.2⟩
section
theorem adB{u:HO}(ok:iP P w H h)(e:Rd H a u):bN P w H h a u:=e.ok ok
theorem AV{kvs:List (Key×V)}(ok:iP P w H h)(e:Rd H a #[53]):kvs.length<=sizeLine/\(a==qP)=false/\∃ vs,KV kvs vs/\h.DictOf (bC P w) a vs:=
 show bN P w H h a #[53]from adB ok e
theorem PZ{kvs:List (Key×V)}(ok:iP P w H h)(e:H a=some #[53]):kvs.length<=sizeLine/\(a==qP)=false/\∃ vs,KV kvs vs/\h.DictOf (bC P w) a vs:=AV ok (.inl e)
theorem rQ(ok:iP P w H h)(e:H a=some (.tup (ks.map kV))):(qQ (bC P w)).is h ks a:=by
 obtain⟨_,bz,r,o,h1,h2,n,h3⟩:=(show bN P w H h a (.tup (ks.map kV))from ok a _ e)
 exact⟨o,bz.toArray,n,h1,h2,h3,by simpa using G6 r⟩
theorem Cz(ok:iP P w H h)(e:Rd H a #[105]):kvs.length<=sizeLine/\(a==qP)=false /\
  ∃ xs,KT H kvs xs/\h.DictOfH (qQ (bC P w)) a xs:=by
 obtain⟨z,y,xs,r,o,es,ep,h1,h2,h3,h4,h5⟩:=(show bN P w H h a #[105]from adB ok e)
 refine⟨z,y,xs,r,o,es,ep,h1,h2,h3,h4,fun x hx=>?_,h5⟩
 have all:∀ {l:List #[59]} {m:List #[52]},KT H l m->∀ x∈m,(qQ (bC P w)).is h x.1 x.2.1:=by
  intro l m q
  induction q with
  | nil=>intro x hx;exact nomatch hx
  | @cons p q ps qs hq t ih =>
   intro x hx
   rcases jY.mp hx with e|hx
   ·subst e
    exact rQ ok (by rw[<- hq.1];exact hq.2.1)
   ·exact ih x hx
 exact all r x hx
theorem TV(ok:iP P w H h)(e:H a=some #[105]):kvs.length<=sizeLine/\(a==qP)=false /\
  ∃ xs,KT H kvs xs/\h.DictOfH (qQ (bC P w)) a xs:=Cz ok (.inl e)
end
def ik(H:Hp)(a:QQ)(y:V)(r:Option V):Prop:=
 (∃ kvs k,Rd H a #[53]/\y=kV k/\r=fq kvs k)\/∃ kvs k b,Rd H a #[105]/\y=.ref b/\H b=some (.tup (k.map kV))/\r=fq kvs k
def CQ(H:Hp)(a:QQ)(y v:V)(H':Hp):Prop:=
 (∃ kvs k,H a=some #[53]/\y=kV k/\kvs.length<sizeLine/\H'=upd H a (.dK (putK kvs k v))) \/
 ∃ kvs k b,H a=some #[105]/\y=.ref b/\H b=some (.tup (k.map kV))/\kvs.length<sizeLine/\H'=upd H a (.dT (putK kvs k v))
theorem ik.k{kvs:List (Key×V)}{k:Key}(e:H a=some #[53]):ik H a (kV k) (fq kvs k):=.inl ⟨kvs,k,.inl e,rfl,rfl⟩
theorem ik.t{k:List Key}(e:H a=some #[105])(eb:H b=some (.tup (k.map kV))):ik H a (.ref b) (fq kvs k):=.inr ⟨kvs,k,b,.inl e,rfl,eb,rfl⟩
theorem CQ.k{kvs:List (Key×V)}{k:Key}(e:H a=some #[53])(hl:kvs.length<sizeLine):CQ H a (kV k) v (upd H a (.dK (putK kvs k v))):=.inl ⟨kvs,k,e,rfl,hl,rfl⟩
theorem CQ.t{k:List Key}(e:H a=some #[105])(eb:H b=some (.tup (k.map kV)))(hl:kvs.length<sizeLine):
  CQ H a (.ref b) v (upd H a (.dT (putK kvs k v))):=.inr ⟨kvs,k,b,e,rfl,eb,hl,rfl⟩
section
theorem Inv.big(I:Inv X pins σ H s):qP<s.heap.objs.size:=by
 have h:qG<s.heap.objs.size:=(I.mod.glob.keeps I.bk).lt
 exact zN #[7] h
theorem RX(hu:A.units+1<cLine)(I:Inv X pins σ H s)(g:ik H a y (some v))(ry:RelV y u)(h:∀ w' s',Inv X pins σ H s'->RelV v w'->Q w' s'):
  wpAny #[5] A (getItem #[50] u) Q E s:=by
 rcases g with⟨kvs,k,e,ey,l⟩|⟨kvs,k,b,e,ey,eb,l⟩
 ·subst ey
  obtain⟨z,hd,vs,rel,dd⟩:=AV I.hok e
  obtain⟨w',hw,Ho⟩:=pD.some_of (v:=v) (o:=valueAt vs k) (by rw[l];exact rel.val k)
  exact wpAny_getItem_of (tJ ry) dd.mapOf hw (h w' _ (I.tok _) Ho)
 ·subst ey
  cases(show u=Wm b from ry)
  obtain⟨z,hd,xs,rel,dd⟩:=Cz I.hok e
  obtain⟨w',hw,Ho⟩:=pD.some_of (v:=v) (o:=(atKey xs k).map (·.2)) (by rw[l];exact rel.val k)
  obtain⟨p,hp,hp2⟩:=zX.mp hw
  refine wpAny_getItem_heap (qR hu) (rQ I.hok eb) dd hp ?_
  rw[hp2]
  exact h w' _ (I.tok _) Ho
theorem aj6(hu:A.units+1<cLine)(I:Inv X pins σ H s)(g:ik H a y o)(ry:RelV y u)(h:∀ s',Inv X pins σ H s'->Q (.bool o.isSome) s'):
  wpAny #[5] A (qB .In u #[50]) Q E s:=by
 rcases g with⟨kvs,k,e,ey,l⟩|⟨kvs,k,b,e,ey,eb,l⟩
 ·subst ey
  obtain⟨z,hd,vs,rel,dd⟩:=AV I.hok e
  refine wpAny_in_of (tJ ry) hd dd.mapOf ?_
  rw[<- (rel.val k).pY,<- l]
  exact h _ (I.tok _)
 ·subst ey
  cases(show u=Wm b from ry)
  obtain⟨z,hd,xs,rel,dd⟩:=Cz I.hok e
  refine wpAny_in_heap (qR hu) (rQ I.hok eb) hd dd ?_
  have q:=(rel.val k).pY
  rw[ZL]at q
  rw[<- q,<- l]
  exact h _ (I.tok _)
theorem abA(hu:A.units+1<cLine)(I:Inv X pins σ H s)(g:ik H a y o)(ry:RelV y u)(h:∀ s',Inv X pins σ H s'->Q (.bool (!o.isSome)) s'):
  wpAny #[5] A (qB .NotIn u #[50]) Q E s:=by
 rcases g with⟨kvs,k,e,ey,l⟩|⟨kvs,k,b,e,ey,eb,l⟩
 ·subst ey
  obtain⟨z,hd,vs,rel,dd⟩:=AV I.hok e
  refine wpAny_notIn_of (tJ ry) hd dd.mapOf ?_
  rw[<- (rel.val k).pY,<- l]
  exact h _ (I.tok _)
 ·subst ey
  cases(show u=Wm b from ry)
  obtain⟨z,hd,xs,rel,dd⟩:=Cz I.hok e
  refine wpAny_notIn_heap (qR hu) (rQ I.hok eb) hd dd ?_
  have q:=(rel.val k).pY
  rw[ZL]at q
  rw[<- q,<- l]
  exact h _ (I.tok _)
theorem wo{t':Nat}(I:Inv X pins σ H s)(mu:Mut (H a))(hs:Yf a s.heap h')(he:∃ q,h'.get? a=some q)(new:bN X.prog X.w (upd H a ob) h' a ob):
  Inv X pins σ (upd H a ob) { s with heap:=h',toks:=t' }:=
 I.write (x:=a) (e:=a) mu #[81] (fun b q hb z=>(hs.2 b hb).trans z) he new
theorem D9{kvs:List (Key×V)}{vs:List (Key×Value)}(z:kvs.length<=sizeLine)(hd:(a==qP)=false)(rel:KV kvs vs)(dd:h'.DictOf (bC P w) a vs):
  bN P w H' h' a #[53]:=⟨z,hd,vs,rel,dd⟩
theorem RY{Q:Unit->Ql->Prop}(hu:A.units+1<cLine)(I:Inv X pins σ H s)(g:CQ H a y v H')(ry:RelV y u)(rv:RelV v r)(h:∀ s',Inv X pins σ H' s'->Q () s'):
  wpAny #[5] A (setItem #[50] u r) Q E s:=by
 rcases g with⟨kvs,k,e,ey,l,eH⟩|⟨kvs,k,b,e,ey,eb,l,eH⟩
 ·subst ey eH
  obtain⟨z,hd,vs,rel,dd⟩:=PZ I.hok e
  have hz:vs.length<=sizeLine:=by rw[<- rel.length];exact z
  have hl:(putK kvs k v).length<=sizeLine:=by have:=mD kvs k v;omega
  refine wpAny_setItem_pairs (hsz:=hz) (tJ ry) dd fun h' Od hs=>h _ ?_
  have he:∃ q,h'.get? a=some q:=let ⟨q,_,_,hq,_⟩:=Od;⟨q,hq⟩
  exact wo I (by rw[e];exact True.intro) hs he (D9 hl hd (rel.put k rv) Od)
 ·subst ey eH
  cases(show u=Wm b from ry)
  obtain⟨z,hd,xs,rel,dd⟩:=TV I.hok e
  have hz:xs.length<=sizeLine:=by rw[<- Paired.length rel];exact z
  have hl:(putK kvs k v).length<=sizeLine:=by have:=mD kvs k v;omega
  refine wpAny_setItem_heap (hsz:=hz) (qR hu) (rQ I.hok eb) dd fun h' Od hs=>h _ ?_
  obtain⟨q,es,ep,hq,h2,h3,h4,_,h5⟩:=Od
  refine wo I (by rw[e];exact True.intro) hs ⟨q,hq⟩ ⟨hl,hd,_,(rel.put k eb rv).keeps fun c ys ec=>?_,q,es,ep,hq,h2,h3,h4,h5⟩
  rw[aj (aQ ec e #[46])]
  exact ec
end
section
variable{kvs:List (Key×V)}{k:Key}
theorem agM{more:List Value}(I:Inv X pins σ H s)(e:H a=some #[53])(ry:RelV (kV k) u)(l:fq kvs k=some v)(hm:more=[]\/∃ x,more=[x])(h:∀ w' s',Inv X pins σ (upd H a (.dK (Ea kvs k))) s'->RelV v w'->Q w' s'):wpAny #[5] A (call (.builtin "dict.pop") (.ref a :: u :: more)) Q E s:=by
 obtain⟨z,hd,vs,rel,dd⟩:=PZ I.hok e
 obtain⟨w',hw,Ho⟩:=pD.some_of (v:=v) (o:=valueAt vs k) (by rw[<- l];exact rel.val k)
 have hp:(keyPart u).isSome=true:=by
  cases k with
  | inl i=>obtain⟨t,q⟩:=(show ∃ t,u=YT i t from ry);subst q;rfl
  | inr x=>obtain⟨t,q⟩:=(show ∃ t,u=Ys x t from ry);subst q;rfl
 have ha:argsOk "dict.pop" ⟨.ref a :: u :: more,[]⟩:=by
  rcases hm with q|⟨x,q⟩
  ·subst q;exact PySem.F.args_dict_pop_2 _ _
  ·subst q;exact PySem.F.args_dict_pop_3 _ _ _
 refine Qu ye dd.typeIs PySem.F.entry_dict_pop ha (meets_dict_pop_there (bC X.prog X.w) a (tJ ry) more hm hp)
  ⟨vs,w',dd,by rw[<- rel.length];exact z,hw,fun h' Od hs=>h w' _ ?_ Ho⟩
 have he:∃ q,h'.get? a=some q:=let ⟨q,_,_,hq,_⟩:=Od;⟨q,hq⟩
 exact wo I (by rw[e];exact True.intro) hs he (D9 (jf (TR kvs k) z) hd (rel.drop k) Od)
theorem agL(I:Inv X pins σ H s)(e:Rd H a #[53])(h:∀ t s',Inv X pins σ H s'->Q (.int kvs.length t) s'):wpAny #[5] A (call (.builtin "len") [.ref a]) Q E s:=by
 obtain⟨z,hd,vs,rel,dd⟩:=AV I.hok e
 refine call_len_dict hd dd (by rw[<- rel.length];rw[qL]at z;omega) ?_
 rw[<- rel.length]
 exact h _ _ (I.tok _)
end
def agw(i:Expr):Prop := ∀ ov iv,subscripted i false ov iv=operate [ov,iv] (getItem ov iv)
theorem acU{slice:Expr}{T id:String}(hl:typeLookup (.type T) "__getitem__" = pure (some (.builtin id)))(hs:agw slice)(h:wpAny #[9] A (eval value env) (fun o s₁=>wpAny #[9] A (eval slice env) (fun i s₂=>s₂.TypeIs o T/\wpAny #[9] A (getItem o i) Q E s₂) E s₁) E s):
  wpAny #[9] A (eval (.Subscript value slice pos) env) Q E s:=by
 refine Qn (WL h (fun o s₁ h₁=>WL h₁ (fun i s₂ h₂=>?_) fun _ _ x=>x) fun _ _ x=>x)
 obtain⟨hT,h₂⟩:=h₂
 unfold subscriptTail
 refine qd ?_
 rw[getitemInPython_of_ne hT.not_modules]
 refine qd (Wf hT hl ?_)
 have fin:wpAny #[9] A (subscripted slice false o i) (fun r s₃=>wpAny #[9] A (letTemporaryGo value o r>>=fun _=>pure r) Q E s₃) E s₂:=by
  rw[hs o i]
  exact wpAny_operating (WL h₂ (fun r s₃ h₃=>qd (wpAny_letTemporaryGo (WS h₃))) fun _ _ x=>x)
 first
  | exact WS (qd fin)
  | exact qd (WS (qd fin))
  | exact qd fin
theorem Ld(I:Inv X pins σ H s)(g:ik H a y o):s.TypeIs #[50] "dict" := by
 rcases g with⟨kvs,k,e,_,_⟩|⟨kvs,k,b,e,_,_,_⟩
 ·obtain⟨_,_,vs,_,dd⟩:=AV I.hok e
  exact dd.typeIs
 ·obtain⟨_,_,xs,_,dd⟩:=Cz I.hok e
  exact dd.typeIs
inductive acW (Q:VK) (x:V) (y:V) (H2:Hp):Prop
 | mk (a:_) (v:_) (_:x=.ref a) (_:ik H2 a y (some v)) (_:Q v H2)
def aiv(td ty:TE):TE:=fun σ H Q=>td σ H fun x H1=>ty σ H1 (acW Q x)
inductive aft (Q:VK) (y:V) (x:V) (H2:Hp):Prop
 | mk (a:_) (o:_) (_:x=.ref a) (_:ik H2 a y o) (_:Q (.bl o.isSome) H2)
def amt(ty td:TE):TE:=fun σ H Q=>ty σ H fun y H1=>td σ H1 (aft Q y)
inductive Tc (Q:VK) (y:V) (x:V) (H2:Hp):Prop
 | mk (a:_) (o:_) (_:x=.ref a) (_:ik H2 a y o) (_:Q (.bl (!o.isSome)) H2)
def acX(ty td:TE):TE:=fun σ H Q=>ty σ H fun y H1=>td σ H1 (Tc Q y)
def ain(td ty tv:TE):TS:=fun D σ H=>tv σ H fun v H1=>td σ H1 fun x H2=>ty σ H2 fun y H3=>∃ a H4,x=.ref a/\CQ H3 a y v H4/\D.nx σ H4
section
variable{o i:Expr}{pos':Pos}{ty:TE}
theorem Dq(hu:X.A.units+1<cLine)(ho:PE X o td)(hi:PE X i ty)(hs:agw i):PE X (.Subscript o i pos) (aiv td ty):=by
 exists 4
 refine acU PySem.F.slot_dict_getitem.lookup hs (cD #[77] fun u s1 ⟨x,H1,I1,rx,q1⟩=>cD (hi pins s1 σ H1 _ I1 q1) fun iv s2 ⟨y,H2,I2,ry,a,v,ex,g,q2⟩=>?_)
 subst ex
 exists 15
 exact⟨Ld I2 g,RX hu I2 g ry fun w' s3 I3 Ho=>⟨v,H2,I3,Ho,q2⟩⟩
theorem aeY(hu:X.A.units+1<cLine)(hi:PE X i ty)(ho:PE X o td):PC X .In i o (amt ty td):=by
 exists 4
 refine cD (hi pins s σ H _ I h) fun iv s1 ⟨y,H1,I1,ry,q1⟩=>cD (ho pins s1 σ H1 _ I1 q1) fun u s2 ⟨x,H2,I2,rx,a,ov,ex,g,q2⟩=>?_
 subst ex
 exists 15
 exact aj6 hu I2 g ry fun s3 I3=>⟨.bl ov.isSome,H2,I3,rfl,q2⟩
theorem Ci(hu:X.A.units+1<cLine)(hi:PE X i ty)(ho:PE X o td):PC X .NotIn i o (acX ty td):=by
 exists 4
 refine cD (hi pins s σ H _ I h) fun iv s1 ⟨y,H1,I1,ry,q1⟩=>cD (ho pins s1 σ H1 _ I1 q1) fun u s2 ⟨x,H2,I2,rx,a,ov,ex,g,q2⟩=>?_
 subst ex
 exists 15
 exact abA hu I2 g ry fun s3 I3=>⟨.bl (!ov.isSome),H2,I3,rfl,q2⟩
theorem wC(hu:X.A.units+1<cLine)(ho:PE X o td)(hi:PE X i ty)(hv:PE X value tv)(hs:qO value (some (.Subscript o i pos')) pos.line X.env=pure false):
  PS X (.Assign [.Subscript o i pos'] value pos) (ain td ty tv):=by
 exists 9
 refine wpAny_Assign_Subscript (cD (hv pins s σ H _ I h) fun r s1 ⟨v,H1,I1,rv,q1⟩=>cD (ho pins s1 σ H1 _ I1 q1) fun u s2 ⟨x,H2,I2,rx,q2⟩=>cD (hi pins s2 σ H2 _ I2 q2) fun iv s3 ⟨y,H3,I3,ry,a,H4,ex,g,q3⟩=>?_) hs
 subst ex
 exists 15
 exact RY hu I3 g ry rv fun s4 I4=>⟨σ,H4,I4,q3⟩
end
theorem Lg(h:Heap)(hb:qP<h.objs.size):bN P w H (h.push { cls:=.type "dict",data:=.dict #[] }) h.objs.size (.dK []):=
 ⟨je _,beq_eq_false_iff_ne.mpr (Ne.symm (jR hb)),[],.nil,XY h⟩
theorem TU(h:Heap)(hb:qP<h.objs.size):bN P w H (h.push { cls:=.type "dict",data:=.dict #[] }) h.objs.size (.dT []):=
 ⟨je _,beq_eq_false_iff_ne.mpr (Ne.symm (jR hb)),[],.nil,_,#[],0,jL _ rfl,⟨rfl,rfl,rfl⟩,rfl,rfl,Jk⟩
def afu:TE:=fun _ H Q=>∀ p,H p=none->Q (.ref p) (upd H p (.dK []))
section
theorem tQ:PE X (.Dict [] [] pos) afu:=fun pins s σ H Q I h =>
 wpAny_Dict_empty ⟨.ref s.heap.objs.size,_,I.laid (a:=s.heap.objs.size) (o:=.dK []) (t' := s.toks) (fun _ _ q=>jC _ q) (jE _) (Lg s.heap I.big),rfl,h _ #[68]⟩
end
def IQ:List (TE×TE)->St->Hp->(List (V×V)->Hp->Prop)->Prop
 | [],_,H,Q=>Q [] H
 | (tk,tv) :: r,σ,H,Q=>tk σ H fun x H1=>tv σ H1 fun y H2=>IQ r σ H2 fun ps H3=>Q ((x,y) :: ps) H3
abbrev VV:List (V×V)->List (Value×Value)->Prop:=Qh fun p q=>RelV p.1 q.1/\RelV p.2 q.2
def PPs(X:Cx)(pos:Pos)(keys:List (Option Expr))(values:List Expr)(RE:List (TE×TE)):Prop:=
 ∀ (pins:List #[41]) (s:Ql) (σ:St) (H:Hp) (Q:List (V×V)->Hp->Prop),Inv X pins σ H s->IQ RE σ H Q ->
  wpAny #[5] X.A (evalPairs (pairTrees keys values X.env pos)) (fun vs s'=>∃ ps H',Inv X pins σ H' s'/\VV ps vs/\Q ps H') X.xe s
theorem Iy:PPs X pos [] [] []:=fun pins s σ H Q I h=>pairTrees_nil_walk ⟨[],H,I,.nil,h⟩
theorem EK{k v:Expr}{ks:List (Option Expr)}{tk:TE}{RE:List (TE×TE)}(hk:PE X k tk)(hv:PE X v tv)(hr:PPs X pos ks vs RE):
  PPs X pos (some k :: ks) (v :: vs) ((tk,tv) :: RE):=fun pins s σ H Q I h =>
 pairTrees_cons_walk (cD (hk pins s σ H _ I h) fun u s1 ⟨x,H1,I1,rx,q1⟩=>cD (hv pins s1 σ H1 _ I1 q1) fun w2 s2 ⟨y,H2,I2,ry,q2⟩ =>
  cD (hr pins s2 σ H2 _ I2 q2) fun ws s3 ⟨ps,H3,I3,rel,q3⟩=>⟨(x,y) :: ps,H3,I3,.cons ⟨rx,ry⟩ rel,q3⟩)
def fh(kvs more:List (Key×V)):List (Key×V):=more.foldl (fun acc kv=>putK acc kv.1 kv.2) kvs
theorem KV.merge:∀ {more:List (Key×V)} {rs:List (Key×Value)} {kvs:List (Key×V)} {vs:List (Key×Value)},KV more rs->KV kvs vs->KV (fh kvs more) (merged vs rs):=by
 intro more rs kvs vs r
 unfold KV at r
 induction r generalizing kvs vs with
 | nil=>intro q;exact q
 | @cons p q ps qs h t ih =>
  intro r0
  have e:KV (putK kvs p.1 p.2) (stored vs q.1 q.2):=by
   have:=r0.put p.1 h.2
   rw[<- h.1];exact this
  exact ih e
theorem pI:∀ (more kvs:List (Key×V)),(fh kvs more).length<=kvs.length+more.length
 | [],kvs=>by show kvs.length<=kvs.length+0;omega
 | p :: r,kvs=>by
  have h1:=pI r (putK kvs p.1 p.2)
  have h2:=mD kvs p.1 p.2
  show(fh (putK kvs p.1 p.2) r).length<=_
  rw[jT];omega
theorem DX{P:Qj}{w:World}:∀ {kvs:List (Key×V)} {ws:List (Value×Value)},VV (kvs.map fun kv=>(kV kv.1,kv.2)) ws->∃ rs,Carries (bC P w) ws rs/\KV kvs rs
 | [],_,r=>by rw[Zj]at r;cases r;exact⟨[],True.intro,.nil⟩
 | p :: kvs,_,r=>by
  rw[JF]at r
  cases r with
  | @cons a b as bs h t =>
   obtain⟨rs,c,q⟩:=DX (P:=P) (w:=w) t
   obtain⟨b1,b2⟩:=b
   exact⟨(p.1,b2) :: rs,⟨tJ h.1,rfl,c⟩,.cons ⟨rfl,h.2⟩ q⟩
def aix(RE:List (TE×TE)):TE:=fun σ H Q=>∀ p,H p=none->IQ RE σ (upd H p (.dK [])) fun ps H2=>H2 p=some (.dK [])/\∃ kvs:List (Key×V),ps=kvs.map (fun kv=>(kV kv.1,kv.2))/\kvs.length<=15/\Q (.ref p) (upd H2 p (.dK (fh [] kvs)))
theorem acx{keys:List (Option Expr)}{RE:List (TE×TE)}(h:PPs X pos keys values RE)(Ia:keys.all (·.isSome)=true)(hl:keys.length=values.length)(h0:keys≠[])(h15:keys.length<=15):PE X (.Dict keys values pos) (aix RE):=by
 intro pins s σ H Q I q
 have hn:=I.hok.fresh (jE s.heap.objs.size)
 have I1:=I.laid (a:=s.heap.objs.size) (o:=.dK []) (h' := s.heap.push { cls:=.type "dict",data:=.dict #[] }) (t' := s.toks) (fun _ _ q=>jC _ q) (jE _) (Lg s.heap I.big)
 refine wpAny_Dict_walk (knd:=bC X.prog X.w) Ia hl h0 h15 (cD (h pins _ σ _ _ I1 (q _ hn)) fun ws s2 ⟨ps,H2,I2,rel,e,kvs,ep,lk,q2⟩=>?_)
 subst ep
 obtain⟨rs,c,rk⟩:=DX (P:=X.prog) (w:=X.w) rel
 obtain⟨z,hd,vs0,r0,dd⟩:=PZ I2.hok e
 cases r0
 refine⟨rs,c,dd,fun h' Od hs=>⟨.ref s.heap.objs.size,_,?_,rfl,q2⟩⟩
 have hz:(fh [] kvs).length<=sizeLine:=by
  have h1:=pI kvs []
  rw[JR]at h1
  rw[qL];omega
 have he:∃ q,h'.get? s.heap.objs.size=some q:=let ⟨q,_,_,hq,_⟩:=Od;⟨q,hq⟩
 exact wo I2 (by rw[e];exact True.intro) hs he (D9 hz hd (rk.merge .nil) Od)
structure M1(X:Cx)(o:Expr)(m:Qm)(apos:Pos)(e:Expr)(dJ:Pos):Prop where
 base:attributeBase o m X.env (eval o X.env)=eval o X.env
 AW:((backTo dJ (qM [e] X.env)).all (fun x=>!x.1)&&(backToKw dJ #[76]).all (fun x=>x.1.isSome)
  && decide (([e]:List Expr).length+([]:List Qf).length+(if ([]:List Qf).isEmpty then 0 else 1)<30))=true
 line:(apos.endLine==dJ.line)=true
 trees:backTo dJ (qM [e] X.env)=[#[16]]
structure M2(X:Cx)(o:Expr)(m:Qm)(apos:Pos)(e f:Expr)(dJ:Pos):Prop where
 base:attributeBase o m X.env (eval o X.env)=eval o X.env
 AW:((backTo dJ (qM [e,f] X.env)).all (fun x=>!x.1)&&(backToKw dJ #[76]).all (fun x=>x.1.isSome)
  && decide (([e,f]:List Expr).length+([]:List Qf).length+(if ([]:List Qf).isEmpty then 0 else 1)<30))=true
 line:(apos.endLine==dJ.line)=true
 trees:backTo dJ (qM [e,f] X.env)=[#[16],(false,eval f X.env)]
def IsD(H:Hp)(a:QQ):Prop:=(∃ kvs,Rd H a #[53])\/∃ kvs,Rd H a #[105]
theorem Ig(I:Inv X pins σ H s)(d:IsD H a):
  s.TypeIs #[50] "dict" /\ (∀ b,Wm a=.ref b->∃ ob,s.heap.get? b=some ob/\ob.dict=none)/\(a==qP)=false:=by
 rcases d with⟨kvs,e⟩|⟨kvs,e⟩
 ·obtain⟨_,hd,vs,_,dd⟩:=AV I.hok e
  refine⟨dd.typeIs,fun b q=>?_,hd⟩
  cases q
  obtain⟨ob,_,_,h1,h2,_⟩:=dd
  exact⟨ob,h1,h2.2.1⟩
 ·obtain⟨_,hd,xs,_,dd⟩:=Cz I.hok e
  refine⟨dd.typeIs,fun b q=>?_,hd⟩
  cases q
  obtain⟨ob,_,_,h1,h2,_⟩:=dd
  exact⟨ob,h1,h2.2.1⟩
section
theorem ad6(hu:A.units+1<cLine)(I:Inv X pins σ H s)(g:ik H a y o)(ry:RelV y u)(h:∀ w' s',Inv X pins σ H s'->RelV (o.getD .non) w'->Q w' s'):
  wpAny #[5] A (call (.builtin "dict.get") [.ref a,u]) Q E s:=by
 rcases g with⟨kvs,k,e,ey,l⟩|⟨kvs,k,b,e,ey,eb,l⟩
 ·subst ey
  obtain⟨z,hd,vs,rel,dd⟩:=AV I.hok e
  refine Qu YI dd.typeIs Yc (yQ _ _) (meets_dict_get (bC X.prog X.w) a (tJ ry) hd) ⟨_,dd.mapOf,h _ _ (I.tok _) ?_⟩
  rw[l]
  exact(rel.val k).getD rfl
 ·subst ey
  cases(show u=Wm b from ry)
  obtain⟨z,hd,xs,rel,dd⟩:=Cz I.hok e
  refine Qu YI dd.typeIs Yc (yQ _ _) (meetsH_dict_get (qQ (bC X.prog X.w)) a b hd) ⟨qR hu,k,xs,rQ I.hok eb,dd,h _ _ (I.tok _) ?_⟩
  rw[l]
  exact(rel.val k).getD rfl
theorem ad7(hu:A.units+1<cLine)(I:Inv X pins σ H s)(g:ik H a y o)(ry:RelV y u)(rd:RelV d r)(h:∀ w' s',Inv X pins σ H s'->RelV (o.getD d) w'->Q w' s'):
  wpAny #[5] A (call (.builtin "dict.get") [.ref a,u,r]) Q E s:=by
 rcases g with⟨kvs,k,e,ey,l⟩|⟨kvs,k,b,e,ey,eb,l⟩
 ·subst ey
  obtain⟨z,hd,vs,rel,dd⟩:=AV I.hok e
  refine Qu YI dd.typeIs Yc (yR _ _ _) (meets_dict_get_default (bC X.prog X.w) a (tJ ry) hd r) ⟨_,dd.mapOf,h _ _ (I.tok _) ?_⟩
  rw[l]
  exact(rel.val k).getD rd
 ·subst ey
  cases(show u=Wm b from ry)
  obtain⟨z,hd,xs,rel,dd⟩:=Cz I.hok e
  refine Qu YI dd.typeIs Yc (yR _ _ _) (meetsH_dict_get_default (qQ (bC X.prog X.w)) a b hd r) ⟨qR hu,k,xs,rQ I.hok eb,dd,h _ _ (I.tok _) ?_⟩
  rw[l]
  exact(rel.val k).getD rd
end
inductive aaZ (ty:TE) (σ:St) (Q:VK) (x:V) (H1:Hp):Prop
 | mk (a:_) (_:x=.ref a) (_:IsD H1 a) (_:ty σ H1 fun y H2=>∃ o,ik H2 a y o/\Q (o.getD .non) H2)
def afr(td ty:TE):TE:=fun σ H Q=>td σ H (aaZ ty σ Q)
inductive aa0 (ty:TE) (tx:TE) (σ:St) (Q:VK) (x:V) (H1:Hp):Prop
 | mk (a:_) (_:x=.ref a) (_:IsD H1 a) (_:ty σ H1 fun y H2=>tx σ H2 fun z H3=>∃ o,ik H3 a y o/\Q (o.getD z) H3)
def afs(td ty tx:TE):TE:=fun σ H Q=>td σ H (aa0 ty tx σ Q)
inductive aa1 (ty:TE) (σ:St) (Q:VK) (x:V) (H1:Hp):Prop
 | mk (a:_) (_:x=.ref a) (_:IsD H1 a) (_:ty σ H1 fun y H2=>∃ kvs k v,H2 a=some #[53]/\y=kV k/\fq kvs k=some v/\Q v (upd H2 a (.dK (Ea kvs k))))
def afv(td ty:TE):TE:=fun σ H Q=>td σ H (aa1 ty σ Q)
section
variable{o f:Expr}{apos dJ:Pos}{ty tx:TE}
theorem aae(hu:X.A.units+1<cLine)(ho:PE X o td)(he:PE X e ty)(m:M1 X o "get" apos e dJ):PE X (.Call (.Attribute o "get" apos) [e] [] dJ) (afr td ty):=by
 exists 4
 refine qU m.base m.AW m.line YO YI yg (cD #[77] fun u s1 ⟨x,H1,I1,rx,a,ex,d,q1⟩=>?_)
 subst ex
 exists 15
 obtain⟨t1,t2,_⟩:=Ig I1 d
 exists t1,t2
 rw[m.trees]
 refine YF rfl (YM (YB (cD (he pins s1 σ H1 _ I1 q1) fun iv s2 ⟨y,H2,I2,ry,ov,g,q2⟩=>YW ?_)))
 exact ad6 hu I2 g ry fun w' s3 I3 Ho=>⟨_,H2,I3,Ho,q2⟩
theorem aaf(hu:X.A.units+1<cLine)(ho:PE X o td)(he:PE X e ty)(hf:PE X f tx)(m:M2 X o "get" apos e f dJ):PE X (.Call (.Attribute o "get" apos) [e,f] [] dJ) (afs td ty tx):=by
 exists 4
 refine qU m.base m.AW m.line YO YI yg (cD #[77] fun u s1 ⟨x,H1,I1,rx,a,ex,d,q1⟩=>?_)
 subst ex
 exists 15
 obtain⟨t1,t2,_⟩:=Ig I1 d
 exists t1,t2
 rw[m.trees]
 refine YF rfl (YM (YB (cD (he pins s1 σ H1 _ I1 q1) fun iv s2 ⟨y,H2,I2,ry,q2⟩ =>
  YB (cD (hf pins s2 σ H2 _ I2 q2) fun fv s3 ⟨z,H3,I3,rz,ov,g,q3⟩=>YW ?_))))
 exact ad7 hu I3 g ry rz fun w' s4 I4 Ho=>⟨_,H3,I4,Ho,q3⟩
theorem Mc(ho:PE X o td)(he:PE X e ty)(m:M1 X o "pop" apos e dJ):PE X (.Call (.Attribute o "pop" apos) [e] [] dJ) (afv td ty):=by
 exists 4
 refine qU m.base m.AW m.line YO ye PySem.F.type_dict_pop (cD #[77] fun u s1 ⟨x,H1,I1,rx,a,ex,d,q1⟩=>?_)
 subst ex
 exists 15
 obtain⟨t1,t2,_⟩:=Ig I1 d
 exists t1,t2
 rw[m.trees]
 refine YF rfl (YM (YB (cD (he pins s1 σ H1 _ I1 q1) fun iv s2 ⟨y,H2,I2,ry,kvs,k,v,ea,ey,l,q2⟩=>YW ?_)))
 subst ey
 exact agM I2 ea ry l #[81] fun w' s3 I3 Ho=>⟨v,_,I3,Ho,q2⟩
end
section
variable[DecidableEq κ]
theorem Bo:∀ {l:List κ} {k:κ},l.Nodup->¬ k∈l->(l++[k]).Nodup
 | [],k,_,_=>by simp
 | a :: r,k,h,hk=>by
  obtain⟨h1,h2⟩:=jx.mp h
  show(a :: (r++[k])).Nodup
  refine jx.mpr ⟨fun m=>?_,Bo h2 fun m=>hk (jY.mpr (Or.inr m))⟩
  rcases zJ.mp m with q|q
  ·exact h1 q
  ·exact hk (jY.mpr (Or.inl (jK.mp q).symm))
end
end L2
namespace PySem
open Sem (wp)
open Builtin
end PySem
namespace L2
open PySem PySem.Spec PyProof.Rows
variable{X:Cx}{H:Hp}{y:V}{K:Wl}{a f C:QQ}{b body:List Stmt}{e c:Expr}{es:List Expr}{tb u:TS}{te:TE}{pos p pos':Pos}{r:R2}{x qual:Qm}{j i n:Nat}{ps N:List Qm}{fz:List V}{sp:Sp}{st:Stmt}{tc:TT}{wi:TI}{P:Qj}{w:World}{h B base:Heap}{mg:Qm→Option Value}{scope:Scope}{cd dV:Value}{A:Around}{outer:List QX}{s:Ql}{E:XK}{bmB:List Value}{fd:QY}
inductive Pl (H:Hp):V->Prop where
 | non:Pl H .non
 | bl (b:Bool):Pl H (.bl b)
 | int (i:Int):Pl H (.int i)
 | str (x:Qm):Pl H (.str x)
 | lst {a:QQ} {xs:List V} (e:H a=some #[109]):Pl H #[50]
 | tup {a:QQ} {xs:List V} (e:H a=some #[40]):Pl H #[50]
 | dK {a:QQ} {kvs:List (Key×V)} (e:H a=some #[53]):Pl H #[50]
theorem Pl.same{H':Hp}(h:Pl H y)(s:aB H H'):Pl H' y:=by
 cases h with
 | non=>exact .non
 | bl b=>exact .bl b
 | int i=>exact .int i
 | str x=>exact .str x
 | lst e=>exact .lst (s _ _ e)
 | tup e=>exact .tup (s _ _ e)
 | dK e=>exact .dK (s _ _ e)
def W7:V->Bool
 | .int _=>true
 | _=>false
theorem Pl.isi(h:Pl H y):∃ t bi bb bt,pE K H y t/\Wo K t (.type "int")=some bi/\Wo K t (.type "bool")=some bb/\Wo K t (.type "tuple")=some bt /\
  (bi&&!bb)=W7 y/\(bt=true↔∃ a xs,y=.ref a/\H a=some #[40]):=by
 cases h with
 | non=>exact⟨_,false,false,false,.non,by with_unfolding_all rfl,by with_unfolding_all rfl,by with_unfolding_all rfl,rfl,nofun,fun⟨_,_,z,_⟩=>nomatch z⟩
 | bl b=>exact⟨_,true,true,false,.bl b,by with_unfolding_all rfl,by with_unfolding_all rfl,by with_unfolding_all rfl,rfl,nofun,fun⟨_,_,z,_⟩=>nomatch z⟩
 | int i=>exact⟨_,true,false,false,.int i,by with_unfolding_all rfl,by with_unfolding_all rfl,by with_unfolding_all rfl,rfl,nofun,fun⟨_,_,z,_⟩=>nomatch z⟩
 | str x=>exact⟨_,false,false,false,.str x,by with_unfolding_all rfl,by with_unfolding_all rfl,by with_unfolding_all rfl,rfl,nofun,fun⟨_,_,z,_⟩=>nomatch z⟩
 | @lst a xs e=>exact⟨_,false,false,false,.lst e,by with_unfolding_all rfl,by with_unfolding_all rfl,by with_unfolding_all rfl,rfl,by
   refine⟨fun z=>(by cases z),fun⟨a',xs',z,e'⟩=>?_⟩
   cases z
   rw[e]at e'
   cases e'⟩
 | @tup a xs e=>exact⟨_,false,false,true,.tup e,by with_unfolding_all rfl,by with_unfolding_all rfl,by with_unfolding_all rfl,rfl,⟨fun _=>⟨a,xs,rfl,e⟩,fun _=>rfl⟩⟩
 | @dK a kvs e=>exact⟨_,false,false,false,.dK e,by with_unfolding_all rfl,by with_unfolding_all rfl,by with_unfolding_all rfl,rfl,by
   refine⟨fun z=>(by cases z),fun⟨a',xs',z,e'⟩=>?_⟩
   cases z
   rw[e]at e'
   cases e'⟩
structure oX(X:Cx)(e:Expr)(t:TE):Prop where
 out:PE X e t
structure PAW(X:Cx)(es:List Expr)(t:TA):Prop where
 out:PA X es t
structure PTW(X:Cx)(e:Expr)(t:TT):Prop where
 out:PT X e t
structure mK(X:Cx)(s:Stmt)(t:TS):Prop where
 out:PS X s t
structure HD(X:Cx)(s:List Stmt)(t:TS):Prop where
 out:Fe X s t
section
variable{a b:Expr}{ta tb:TE}{t:TA}
theorem AA:PAW X [] ac1:=⟨af⟩
theorem bH(ha:oX X e te)(hr:PAW X es t)(hs:qM (e :: es) X.env=#[16] :: qM es X.env:=by rfl):PAW X (e :: es) (adI te t):=⟨aa ha.out hr.out hs⟩
theorem adM(h:PAW X es t):oX X (.List es pos) (aiC t):=⟨bw h.out⟩
theorem RK{x1}(h:PAW X es t):oX X (.Tuple es x1 pos) (aiJ t):=⟨eL h.out⟩
theorem amN(hr:IxR X r)(ha:oX X a ta)(hb:oX X b tb)(hs:PJ b):oX X (.Subscript a b pos) (tOp r ta tb):=⟨aF hr ha.out hb.out hs⟩
theorem aiR{op:Operator}(ho:BS X (binaryOp op) r)(ha:oX X a ta)(hb:oX X b tb):oX X (.BinOp a op b pos) (tOp r ta tb):=⟨aC ho ha.out hb.out⟩
theorem amL{k:Nat}(G:bp X.prog X.w X.K X.mg X.base x k ps fz sp)(hr:dD j X.A)(ha:PAW X (e :: es) t)(hx:∀ e s,X.xe e s=False:=by intro _ _;rfl)(Fq:k<=j:=by decide)(hg:Gl X x:=by rfl)(tI:#[15]=false:=by decide)(he:qM (e :: es) X.env=#[16] :: qM es X.env:=by rfl)(rC:#[22].any (·.1)=false:=by rfl):
  oX X #[18] (Hu sp fz E0 t):=⟨aW G hr ha.out hx Fq hg tI he rC⟩
variable{rest:List Stmt}{ts us:TS}
theorem afH:HD X [] bU:=⟨aR⟩
theorem aU(h1:mK X st ts)(h2:HD X rest us):HD X (st :: rest) (Te ts us):=⟨ag h1.out h2.out⟩
theorem sx(h1:mK X st ts):HD X [st] ts:=⟨ao h1.out⟩
theorem adN(he:oX X e te):mK X (.Return (some e) pos) (aiF te):=⟨aH he.out⟩
theorem RJ(hN:X.N.Nodup)(hi:X.N[i]?=some x)(hx:Loc X.env.scope x)(he:oX X e te)(hs:qO e (some (.Name x pos')) pos.line X.env=pure false:=by rfl)(hf:X.fn x=true\/X.env.scope.names.lookup x=some .local:=by first|exact .inl rfl|exact .inr rfl|assumption):
  mK X (.Assign [.Name x pos'] e pos) (wV te (aX i)):=⟨aat hN hi hx he.out hs hf⟩
theorem amM{a b:List Stmt}(hc:PTW X c tc)(ha:HD X a ts)(hb:HD X b u):mK X (.If c a b pos) (BG tc ts u):=⟨bK hc.out ha.out hb.out⟩
theorem ac8{tb:TS}(hp:Qi #[5] X.A X.env X.xe)(hc:PTW X c tc)(hb:HD X body tb):mK X (.While c body [] pos) (mW tc tb):=⟨iY hp hc.out hb.out⟩
theorem aiQ{tg iter:Expr}{g:TG}{tb:TS}(hp:Qi #[5] X.A X.env X.xe)(hc:X.calm=true)(hi:PI X tg iter wi)(hg:PG X tg g)(hb:HD X body tb)(hs:∀ x,foldedSetIterable iter X.env x=pure x:=by intro _;rfl):mK X (.For tg iter body [] pos) (sU wi g tb):=⟨bI hp hc hi hg hb.out hs⟩
theorem B1{b:List Stmt}{R:TS->Prop}(h:HD X b ts)(r:R ts):∃ t,Fe X b t/\R t:=⟨ts,h.out,r⟩
end
def CX1(P:Qj)(w:World):IW:=fun outer H s E e s'=>∃ (ea t C:QQ) (B:Heap) (H':Hp),e=.ref ea/\s'.os=s.os/\QR s'.gens/\Un (Ao outer) [] H H' s.heap s'.heap/\iP P w H' B /\
 Heap.FlyingW B outer ea #[20] (.ref t) s'.heap/\(∀ b o,s.heap.get? b=some o->b∉Ao outer->∃ o',B.get? b=some o')/\H' ea=none/\E #[20] none H'
theorem bN.ex:∀ {o:HO},bN P w H h a o->∃ ob,h.get? a=some ob
 | .lst _,⟨_,_,_,_,e⟩=>⟨_,e⟩
 | .tup _,⟨_,_,_,o,e,_⟩=>⟨o,e⟩
 | .dK _,⟨_,_,_,_,o,_,_,e,_⟩=>⟨o,e⟩
 | .dT _,⟨_,_,_,_,o,_,_,e,_,_,_,_⟩=>⟨o,e⟩
 | .set _ _,⟨o,_,_,_,e,_⟩=>⟨o,e⟩
 | .ins _ _ _,⟨_,_,_,e,_⟩=>⟨_,e⟩
 | .own _,⟨o,e⟩=>⟨o,e⟩
 | .xd _,⟨_,⟨o,_,_,e,_⟩,_⟩=>⟨o,e⟩
 | .rng _ _,⟨_,_,_,e⟩=>⟨_,e⟩
 | .rB _ _,⟨e,_⟩=>⟨_,e⟩
 | .tbl _,e=>⟨_,e⟩
 | .met _ _,e=>⟨_,e⟩
 | .ext _,⟨_,⟨o,e⟩,_⟩=>⟨o,e⟩
theorem iP.none(x:iP P w H h)(e:h.get? a=none):H a=none:=by
 cases q:H a with
 | none=>rfl
 | some o =>
  obtain⟨ob,e'⟩:=(x a o q).ex
  rw[e]at e'
  cases e'
theorem iP.less(x:iP P w H h)(k:∀ b u,(∃ o,H b=some o)->h.get? b=some u->B.get? b=some u):iP P w H B:=fun a o e =>
 (x a o e).Az (fun b u hb q=>k b u (by
  rcases hb with z|z
  ·rw[z];exact⟨o,e⟩
  ·exact⟨_,z⟩) q) (fun _ z=>z) fun _ _ z=>z
theorem Un.fly{fs:List QQ}{H1:Hp}{h1 h2:Heap}(u:Un fs [] H H1 h h1)(stays:B.StaysIn h2)(inB:∀ b o o1,h.get? b=some o->h1.get? b=some o1->b∉fs->B.get? b=some o1)(frame:∀ b o,b∈fs->h1.get? b=some o->∃ sl,h2.get? b=some { o with slots:=sl }):Un fs [] H H1 h h2 where
 keep:=fun b o q n hb hx=>stays b o (inB b o o q (u.keep b o q n hb hx) hb)
 slot:=fun b o q n hb hx=>by
  obtain⟨sl,e⟩:=u.slot b o q n hb hx
  obtain⟨sl',e'⟩:=frame b _ hb e
  exact⟨sl',e'⟩
 free:=u.free
 there:=fun b o q hx=>by
  obtain⟨o',e⟩:=u.there b o q hx
  by_cases hb:b∈fs
  ·obtain⟨sl,e'⟩:=frame b _ hb e
   exact⟨_,e'⟩
  ·exact⟨o',stays b o' (inB b o o' q e hb)⟩
 tups:=u.tups
 frzs:=u.frzs
 tbls:=u.tbls
section
def Thr(X:Cx)(E:XK):Prop := ∀ (pins:List #[41]) (σ:St) (H:Hp) (s:Ql) (h':Heap) (ea C:QQ) (vs:List Value),Inv X pins σ H s->Heap.MadeExcOf s.heap h' ea #[20] vs->E #[20] none H->X.xe #[108] { s with heap:=h' }
theorem mE(b:QQ):b∈Ao (envOfC qual scope s.heap.objs.size f cd :: outer)↔b=s.heap.objs.size\/b∈Ao outer:=by
 unfold Ao
 rw[zI]
 show b∈(s.heap.objs.size :: _)↔_
 rw[jY]
theorem ac7:Thr (bP (CX1 P w) P w K mg base N qual scope f cd A outer s H E) E:=by
 intro pins σ H1 s1 h' ea C vs I hx hE
 show wpAny (model P w) (A.deeper #[14]) (leaving #[14] #[108]) _ _ _
 have rO:∀ env∈(envOfC qual scope s.heap.objs.size f cd :: outer),∀ b,env.frame=some b->b∈Ao (envOfC qual scope s.heap.objs.size f cd :: outer):=fun env he b hb=>zL.mpr ⟨env,he,hb⟩
 have fst:=I.stack
 have mem:∀ {b},b∈Ao (envOfC qual scope s.heap.objs.size f cd :: outer)->∃ o,s1.heap.get? b=some o/\∀ vs,o.data≠.fields vs:=fun {b} hb=>(fst.mem hb).2
 refine wpAny_leaves_madeW (base:=yV s1.heap (Ao (envOfC qual scope s.heap.objs.size f cd :: outer))) I.ok.frames rfl (fun b o q=>yF _ q) (yb fst rO) hx fun h'' t x1 x2 x3 x4=>?_
 refine⟨ea,t,C,_,H1,rfl,I.os,I.bare,?_,?_,x1,fun b o q hb=>?_,I.hok.none hx.new,hE⟩
 ·refine Un.fly (h1:=s1.heap) I.base x1.1 (fun b o o1 q q1 hb=>YE _ q1 fun z=>?_) fun b o hb q=>?_
  ·rcases(mE b).mp z with e|e
   ·exact JP _ (e ▸ jJ q)
   ·exact hb e
  ·obtain⟨o',e',hd⟩:=mem ((mE (qual:=qual) (scope:=scope) (s:=s) (f:=f) (cd:=cd) b).mpr (.inr hb))
   rw[q]at e'
   cases e'
   exact x4 b o (hx.keeps b o q) hd
 ·exact I.hok.less fun b u ⟨o,e⟩ q=>YE _ q fun z=>by
   have:=I.Dz b z
   rw[e]at this
   cases this
 ·obtain⟨o',e'⟩:=I.base.there b o q #[2]
  exact⟨o',YE _ e' fun z=>by
   rcases(mE b).mp z with e|e
   ·exact JP _ (e ▸ jJ q)
   ·exact hb e⟩
end
abbrev VEm:List Value:=[.type "ValueError",.type "Exception",.type "BaseException",.type "object"]
theorem aeb{newId:String}(X:K.In h)(q:Yq K C bmB newId=true):
  ∃ tl N nm qn bs hd sn sub ab col dd k0 k1 k2 k3 k5 mN,h.get? C=some (excClassObj nm qn C N bs tl hd sn sub ab col dd k0 k1 k2 k3 k5 newId)/\h.Ns N mN/\mN "__init__" = none/\OwnTail h bmB tl:=by
 unfold Yq at q
 cases e:K.lookup C with
 | none=>rw[e]at q;cases q
 | some ob =>
  rw[e]at q
  obtain⟨oc,od,dt,sl⟩:=ob
  split at q
  ·rename_i dd cd sl' he
   cases he
   split at q
   ·rename_i C' tl k0 k1 k2 k3 n k5 m1 m2
    simp only[Je,beq_iff_eq,Zp]at q
    obtain⟨⟨⟨⟨⟨rfl,rfl⟩,d1⟩,t1⟩,o1⟩,i1⟩:=q
    obtain⟨nm,bs,mro,ns,qn,hd,sn,sub,ab,col,del⟩:=cd
    dsimp only at m1 d1 o1 i1
    subst m1 d1
    have es:sl=#[k0,k1,k2,k3,some (.builtin n),k5]:=by
     cases sl with
     | mk l=>exact congrArg Array.mk m2
    subst es
    exact⟨tl,ns,nm,qn,bs,hd,sn,sub,ab,col,_,k0,k1,k2,k3,k5,_,X _ _ e,.of_isNs (PySem.W.isNs_of_in X o1),PySem.W.nsMap_none_of_in X o1 i1,PySem.W.tail_of_in X t1⟩
   ·cases q
  ·cases q
section
variable{k:Nat}{dJ:Pos}{t:TA}
structure aa3(C:QQ)(E:XK)(vs:List V)(H1:Hp):Prop where
 h0:vs.length<=8
 h1:E #[20] none H1
def afB(C:QQ)(E:XK)(t:TA):TS:=fun _ σ H=>t σ H (aa3 C E)
theorem aas(hq:Yq X.K C VEm "ValueError.__new__" = true)(hc:X.calm=true)(hm:X.mg x=some #[20])(ht:Thr X E)(ha:PA X (e :: es) t)(hg:Gl X x:=by rfl)(tI:#[15]=false:=by decide)(he:qM (e :: es) X.env=#[16] :: qM es X.env:=by rfl)(rC:(backTo dJ (qM es X.env)).any (·.1)=false:=by rfl):
  PS X (.Raise (some (.Call (.Name x p) (e :: es) [] dJ)) none pos) (afB C E t):=by
 exists 9
 obtain⟨tl,N,nm,qn,bs,hd,sn,sub,ab,col,dd,k0,k1,k2,k3,k5,mN,hC,hN,hni,T⟩:=aeb I.ok.mod.kin hq
 refine wpAny_Raise_call_subU (C:=C) (nm:=nm) (q:=qn) (N:=N) (bs:=bs) (bm:=tl) (hdct:=hd) (sn:=sn) (sub:=sub) (ab:=ab) (col:=col) (dd:=dd) (k0:=k0) (k1:=k1) (k2:=k2) (k3:=k3) (k5:=k5)
  YU (bmB:=VEm) #[7] YU (mN:=mN) (T.hasType #[7]) #[85] (by rw[he];show(false||(backTo dJ (qM es X.env)).any (·.1))=false;rw[rC];rfl) hni (iV I hg hm ⟨rfl,?_⟩ tI)
 have hw:=ha dJ pins s σ H _ I h
 rw[he]at hw ⊢
 refine YM (cD hw fun us s1 ⟨vs,H1,I1,r,l8,q⟩=>⟨rfl,?_,I1.bk _ _ hC,hN.keeps I1.bk,T.keeps I1.bk,fun h' ea hx=>ht pins σ H1 s1 h' ea C us I1 hx q⟩)
 show us.length<=sizeLine
 rw[<- r.length]
 exact jf l8 #[7]
theorem aad(G:bp X.prog X.w X.K X.mg X.base x k ps fz sp)(hr:dD j X.A)(ha:PA X (e :: es) t)(Fq:k<=j:=by decide)(hg:Gl X x:=by rfl)(tI:#[15]=false:=by decide)(he:qM (e :: es) X.env=#[16] :: qM es X.env:=by rfl)(rC:#[22].any (·.1)=false:=by rfl):
  PE X #[18] (Hu sp fz E0 t):=by
 obtain⟨f,fd,ds,hm,hk,hd,hb,F⟩:=G.ex
 exact Iq F (hr.mono Fq) hg hm hk hb hd (fun _ _ _ _ _ _ _ h=>h.elim) ha tI he rC
end
structure Tx(P:Qj)(w:World)(K:Wl)(mg:Qm->Option Value)(base:Heap)(x:Qm)(k:Nat)(ps:List Qm)(fz:List V)(sp:Sp):Prop where
 ex:∃ (f:QQ) (fd:QY) (ds:List Value),mg x=some #[64]/\Wu K #[64]=true/\Vals fz ds/\Binds K fd ps ds/\bc P w K mg base (CX1 P w) k f fd ps sp
section
variable{t:TA}
def aiG(t:TS):TS:=fun _ σ H=>t { nx:=fun _ _=>False,rt:=fun _ _=>False } σ H
theorem aau{rest:List Stmt}{t:TS}(h:PS X st t):Fe X (st :: rest) (aiG t):=by
 intro pins s σ H D I q
 refine qw (cD (h pins s σ H _ I q) fun f s' hs=>?_)
 cases f with
 | next=>obtain⟨_,_,_,z⟩:=hs;exact z.elim
 | brk=>obtain⟨_,_,_,z⟩:=hs;exact z.elim
 | cont=>obtain⟨_,_,_,z⟩:=hs;exact z.elim
 | ret u=>obtain⟨_,_,_,_,_,z⟩:=hs;exact z.elim
end
section
theorem br.okX{k:Nat}(F:br K x qual st dV f fd)(S:aJ N ps (ar st))(len:∀ vs H Q E,sp vs H Q E->vs.length=ps.length)(tH:∀ (cw:Value) (A:Around) (outer:List QX) (s:Ql) (H:Hp) (vs:List V) (Q:VK) (E:XK),dD k (A.deeper (envOfC qual (ar st) s.heap.objs.size f cw))->sp vs H Q E ->
   ∃ t,Fe (bP (CX1 P w) P w K mg base N qual (ar st) f cw A outer s H E) (dA st) t/\t { nx:=fun _ H'=>Q .non H',rt:=Q } (start N vs) H):bc P w K mg base (CX1 P w) (k+1) f fd ps sp:=by
 exists 6
 exact T4 lk Fm S len fun A outer s H vs Q E hr Lu=>tH cw A outer s H vs Q E hr Lu
end
section
variable{v1 v2:Expr}{rest:List Expr}
abbrev TF:=St->Hp->(Qm->Hp->Prop)->Prop
def PF(X:Cx)(e:Expr)(t:TF):Prop := ∀ (pins:List #[41]) (s:Ql) (σ:St) (H:Hp) (Q:Qm->Hp->Prop),Inv X pins σ H s->t σ H Q ->
 wpAny #[5] X.A (eval e X.env) (fun u s'=>∃ x tk H',u=.str x tk/\Inv X pins σ H' s'/\x.length<=1000/\Q x H') X.xe s
theorem ae2{k:Nat}(hx:x.length<=1000:=by decide):PF X (.Constant (.str x) k pos) (fun _ H Q=>Q x H):=fun pins s σ H Q I q =>
 yz (show _ from⟨x,_,H,rfl,I.tok _,hx,q⟩)
def amv(te:TE):TF:=fun σ H Q=>te σ H fun v H1=>(∃ x,v=.str x/\x.length<=1000/\Q x H1)\/∃ i:Int,v=.int i/\i.natAbs.log2<1920/\(Str.ofString (toString i)).length<=1000/\Q (Str.ofString (toString i)) H1
theorem ae1(he:PE X e te):PF X (.FormattedValue e (-1) none pos) (amv te):=by
 exists 4
 refine FormattedValue_plain (cD #[56] fun u s1 ⟨v,H1,I1,r,q⟩=>?_)
 rcases q with⟨x,rfl,hx,q⟩|⟨i,rfl,hd,hx,q⟩
 ·obtain⟨tk,rfl⟩:=(show ∃ t,u=Ys x t from r)
  exact formatField_str (fun t' tk'=>⟨x,t',H1,rfl,I1.tok _,hx,q⟩) (jf hx #[7])
 ·obtain⟨tk,rfl⟩:=(show ∃ t,u=YT i t from r)
  exact formatField_int_small hd ⟨_,_,H1,rfl,I1.tok _,hx,q⟩
def PFs(X:Cx)(n:Nat)(es:List Expr)(t:TF):Prop := ∀ (pins:List #[41]) (s:Ql) (σ:St) (H:Hp) (Q:Qm->Hp->Prop) (out:Qm),out.length<=n->Inv X pins σ H s->t σ H Q ->
 wpAny #[5] X.A (joinParts out (evalEach es X.env)) (fun u s'=>∃ x tk H',u=.str x tk/\Inv X pins σ H' s'/\Q x H') X.xe s
def aiA:TF:=fun _ H Q=>∀ x,Q x H
def afx(t1 t2:TF):TF:=fun σ H Q=>t1 σ H fun _ H1=>t2 σ H1 Q
theorem acC(hn:n<=sizeLine:=by decide):PFs X n [] aiA:=fun pins s σ H Q out ho I h=>joinParts_nil ⟨out,_,H,rfl,I.tok _,h out⟩ (jf ho hn)
theorem Md{t1 t2:TF}(h1:PF X e t1)(h2:PFs X (n+1000) es t2)(hn:n+1000<=sizeLine:=by decide):PFs X n (e :: es) (afx t1 t2):=by
 intro pins s σ H Q out ho I h
 refine joinParts_cons (cD (h1 pins s σ H _ I h) fun u s1 ⟨x,tk,H1,hu,I1,hx,q⟩=>?_)
 subst hu
 have hl:(out++x).length<=n+1000:=by rw[strLen_append];omega
 exact⟨jf hl hn,h2 pins s1 σ H1 Q (out++x) hl I1 q⟩
def aiB(t:TF):TE:=fun σ H Q=>t σ H fun x H1=>Q (.str x) H1
theorem acz{t:TF}(h:PFs X 0 (v1 :: v2 :: rest) t):PE X (.JoinedStr (v1 :: v2 :: rest) pos) (aiB t):=by
 intro pins s σ H Q I q
 exact JoinedStr_many (cD (h pins s σ H _ Str.empty #[7] I q) fun u s1 ⟨x,tk,H1,hu,I1,q1⟩=>⟨.str x,H1,I1,⟨tk,hu⟩,q1⟩)
end
end L2
namespace L2
open PySem PySem.Spec PySem.W PySem.Builtin PySem.Builtin.Getset_descriptor
variable{prog:Qj}{w:World}{A:Around}{E:Value→Ql→Prop}{s:Ql}{K:Wl}{ob:Obj}{h hh:Heap}{tp adt:Value}{R:Result→Ql→Prop}{Q:Option Value→Ql→Prop}
structure Al(K:Wl)(C:QQ):Prop where
 ga:findIn K #[20] "__getattribute__" = some (some (.builtin "BaseException.__getattribute__"))
 gt:findIn K #[20] "__getattr__" = some none
 cl:findIn K #[20] "__class__" = some (some #[27])
 gg:specialIn K #[27] "__get__" = some (some #[32])
 tk:takesIn K #[27]=some true
 ob:mroIn K C #[63]=some true
 be:mroIn K C #[60]=some true
 ci:(clsIn K C).isSome=true
section
variable{ea C:QQ}
theorem T3{M:Model}(c:Al K C)(X:K.In h):Looks M h (yS #[108] #[20] "__class__") (.bind #[32] #[27]):=by
 have l1:=looks_findIn (M:=M) X c.cl
 have l2:Looks M h (xI (some #[27])) (some #[32]):=looks_specialIn (M:=M) X c.gg
 have l3:=looks_takesIn (M:=M) X c.tk
 have l4:Looks M h (XJ (some #[27]) (some #[32])) (some (.builtin "getset_descriptor.__get__",.builtin "object.__class__")):=l3.andThen .now
 unfold yS
 exact l1.andThen (l2.andThen (l4.andThen (Looks.tag .now)))
theorem abF(X:K.In s.heap)(LT:Looks #[9] s.heap (typeOf #[108]) #[20])(hm:mroIn K C #[63]=some true)(q:R (.ok (.ret #[20])) s):
  codeAny #[9] A (.call #[32] ⟨[.builtin "object.__class__",.ref ea,tp],[]⟩) R s:=by
 have LM:=qF (M:=model prog w) X hm
 obtain⟨hp,gs,dr,tk,os⟩:=s
 dsimp only at LT LM
 refine Qw KF.slot_gs.plain KF.entry_gs (KF.slot_gs.check _ _ _ _ _ _ _ _ KF.type_class (KF.args_gs _ _ _) ?_)
 unfold Builtin.«getset_descriptor.__get__» descrGet;rw[dga_obj]
 refine qd (WS ?_);unfold descrGetter descrCheckInstance descrNameAndClass isInstance
 simp only[KF.owner_class];repeat lk
 refine⟨Code.quiet_builtin _ #[3],Qv KF.entry_class ?_⟩;unfold Builtin.«object.__class__» shownTypeOf
 repeat lk
 exact q
theorem FY{M:Model}{g:Array QZ}{d:Drawn}{t:Nat}{os:OsState}{Q:Unit->Ql->Prop}(LB:Looks M hh (isInstance #[108] #[60]) true)(hq:Q () ⟨hh,g,d,t,os⟩):
  wpAny M A (checkBuiltinCall "BaseException.__getattribute__" ⟨[.ref ea,adt],[]⟩) Q E ⟨hh,g,d,t,os⟩:=by
 have hk:builtinKind "BaseException.__getattribute__" = some .slot:=by decide +kernel
 have W4:splitId "BaseException.__getattribute__" = some ("BaseException","__getattribute__"):=by decide +kernel
 have ha:=yo #[108] adt
 simp only[checkBuiltinCall,hk,W4]
 refine qd (LB.at ?_)
 simp only[Bool.not_true,JA,if_false]
 repeat (any_goals (first|assumption|wp_step))
theorem R4(c:Al K C)(X:K.In s.heap)(LT:∀ M:Model,Looks M s.heap (typeOf #[108]) #[20])(h:Q (some #[20]) { s with toks:=s.toks+1 }):
  wpAny #[9] A (getAttr? #[108] "__class__") Q E s:=by
 obtain⟨hh,g,d,t,os⟩:=s
 have L0:=LT #[9]
 have L1:=looks_findIn (M:=model prog w) X c.ga
 have L2:=looks_findIn (M:=model prog w) X c.gt
 have LF:=T3 (M:=model prog w) (ea:=ea) c X
 have LB:Looks #[9] hh (isInstance #[108] #[60]) true:=L0.andThen (qF (M:=model prog w) X c.be)
 unfold getAttr? getAttrBy? getAttrBy
 refine qd (wpAny_mkText (qd (qZ (WB (qd (L0.at (qd (L1.at ?_))))))))
 have ne:(onTheHeap (Wm C)&&Wz "BaseException.__getattribute__" == Wz "object.__getattribute__")=false:=by
  have:(Wz "BaseException.__getattribute__" == Wz "object.__getattribute__")=false:=by decide +kernel
  rw[this];rfl
 dsimp only
 rw[ne]
 simp only[JA,if_false]
 unfold getAttrByItsOwn hookBefore
 rw[if_pos (show onTheHeap (Wm C)=true from rfl)]
 refine qd (L2.at ?_)
 refine qd (qZ (WB ?_))
 unfold callGetattribute
 simp only[ZZ,JA,if_false]
 unfold boundAndCalled
 rw[PySem.F.attrBase_ValueError.ga.bind #[108]]
 refine qd (WS ?_)
 have hk:builtinKind "BaseException.__getattribute__" = some .slot:=by decide +kernel
 have W4:splitId "BaseException.__getattribute__" = some ("BaseException","__getattribute__"):=by decide +kernel
 have ha:=yo #[108] (.str "__class__" t)
 refine qf (Qw PySem.F.attrBase_ValueError.ga.plain yh ?_)
 refine FY LB ?_
 unfold Builtin.«object.__getattribute__»
 refine qd (WS ?_)
 dsimp only
 refine qd ?_
 refine(show wpAny _ _ (pure _) _ _ _ from WS ?_)
 refine qd (L0.at ?_)
 refine qd (LF.at ?_)
 dsimp only
 show wpAny _ _ (holding [Wz "object.__class__"] (call #[32] [.builtin "object.__class__",.ref ea,.ref C])>>=ret) _ _ _
 refine qd (WB (qf (abF (s:=⟨hh,g,d,t+1,os⟩) X L0 c.ob ?_)))
 refine WS ?_
 exact handed_on rfl (WS h)
def BN(ea C:QQ)(h:Heap):Prop := ∃ ob vs,h.get? ea=some ob/\ob.cls=.ref C/\ob.data=.fields vs
theorem BN.ty{M:Model}(p:BN ea C h):Looks M h (typeOf #[108]) #[20]:=by
 obtain⟨ob,vs,e,c,_⟩:=p
 exact c ▸ (Looks.ld e).andThen .now
theorem LD(c:Al K C):KitX K #[108] #[20] (BN ea C) where
 ty:=fun M h _ p=>p.ty
 it:=fun M h X _=>by
  obtain⟨cd,e⟩:=Ja.mp c.ci
  unfold clsIn at e
  split at e
  ·rename_i ho
   intro A' Q' E' s' k q
   unfold isType loadHead;exact qd (WI (k _ _ (X _ _ ho)) (WS q))
  ·cases e
 ne:=fun h tp dd bz n sl X htp=>by
  obtain⟨cd,e⟩:=Ja.mp c.ci
  refine Bool.eq_false_iff.mpr fun q=>?_
  cases(show C=tp from yq (beq_iff_eq.mp q))
  unfold clsIn at e
  split at e
  ·rename_i ho;cases(X _ _ ho).symm.trans htp
  ·cases e
 ca:=fun X p k=>R4 c X (fun M=>p.ty) k
end
end L2
namespace L2
open PySem PySem.Spec PyProof.Rows
variable{X:Cx}{pins:List (QQ×Obj)}{σ:St}{H H':Hp}{s:Ql}{E:XK}{ea C f:QQ}{A:Around}{x qual:Qm}{j i:Nat}{ps N:List Qm}{fz vs:List V}{sp:Sp}{p pos:Pos}{e c a:Expr}{es:List Expr}{st b₀:Stmt}{tc:TT}{P prog:Qj}{w:World}{o:HO}{EE:Value→Ql→Prop}{v:V}{Q:Unit→Ql→Prop}{body MM:List Stmt}{ts:TS}{h5 B base:Heap}{CX:IW}{K:Wl}{mg:Qm→Option Value}{scope:Scope}{cd dV:Value}{outer:List QX}{us:List Value}{params:QS}{an od:Option QQ}{Fz:Array (Option Value)}{fd:QY}{te:TE}
abbrev Cx.held(X:Cx)(ea:QQ):Cx:={ X with A:=X.A.mark (some #[108]),calm:=false,xe:=fun _ _=>False }
section
theorem LQ{v:Option Value}:(A.mark v).frames=A.frames:=by first|rfl|simp[Around.mark]
theorem Cx.Ok.held(ok:X.Ok):(X.held ea).Ok:=
 ⟨ok.mod,ok.kind,ok.glob,ok.blt,ok.above,ok.inj,ok.has,ok.cab,(fun z=>by cases z),LQ.trans ok.frames,ok.stk,ok.exf,ok.bs,ok.bsz,ok.noex,ok.exfs,ok.Ap,ok.frf⟩
theorem Inv.held(I:Inv X pins σ H s):Inv (X.held ea) pins σ H s:=⟨I.ok.held,I.os,I.bare,I.base,I.loc,I.cell,I.free,I.freeC,I.pin,I.hok,I.len⟩
theorem Inv.aba(ok:X.Ok)(I:Inv (X.held ea) pins σ H s):Inv X pins σ H s:=⟨ok,I.os,I.bare,I.base,I.loc,I.cell,I.free,I.freeC,I.pin,I.hok,I.len⟩
def CXI(X:Cx)(pins:List #[41])(σ:St)(E:XK)(e:Value)(s':Ql):Prop := ∃ s H,Inv X pins σ H s/\CX1 X.prog X.w X.stack H s E e s'
abbrev TXE:=St->Hp->VK->XK->Prop
abbrev TX:=Ends->XK->St->Hp->Prop
def PXE(X:Cx)(e:Expr)(t:TXE):Prop := ∀ (pins:List #[41]) (s:Ql) (σ:St) (H:Hp) (Q:VK) (E:XK),Inv X pins σ H s->t σ H Q E->wpAny #[5] X.A (eval e X.env) #[54] (CXI X pins σ E) s
def PX1(X:Cx)(st:Stmt)(t:TX):Prop := ∀ (pins:List #[41]) (s:Ql) (σ:St) (H:Hp) (D:Ends) (E:XK),Inv X pins σ H s->t D E σ H->wpAny #[5] X.A (exec st X.env) (SP X pins D) (CXI X pins σ E) s
def PX(X:Cx)(st:List Stmt)(t:TX):Prop := ∀ (pins:List #[41]) (s:Ql) (σ:St) (H:Hp) (D:Ends) (E:XK),Inv X pins σ H s->t D E σ H->wpAny #[5] X.A (execs st X.env) (SP X pins D) (CXI X pins σ E) s
end
section
variable{k:Nat}{t:TA}
def aa4(sp:Sp)(fz:List V)(t:TA):TXE:=fun σ H Q E=>t σ H fun vs H1=>sp (vs++fz) H1 Q E
theorem Mh(G:Tx X.prog X.w X.K X.mg X.base x k ps fz sp)(hr:dD j X.A)(ha:PA X (e :: es) t)(hx:∀ e s,X.xe e s=False:=by intro _ _;rfl)(Fq:k<=j:=by decide)(hg:Gl X x:=by rfl)(tI:#[15]=false:=by decide)(he:qM (e :: es) X.env=#[16] :: qM es X.env:=by rfl)(rC:#[22].any (·.1)=false:=by rfl):
  PXE X #[18] (aa4 sp fz t):=by
 obtain⟨f,fd,ds,hm,hk,hd,hb,F⟩:=G.ex
 intro pins s σ H Q E I h
 refine qS (iV I hg hm ?_ tI)
 refine YG (h₀:=X.base) I.ok.mod.kin hk (WL #[42] (fun us s1 ⟨vs,H1,I1,r,q⟩=>⟨I1.pF,?_⟩) fun e' s' z=>((hx e' s').mp z).elim) he rC
 have r2:Vals (vs++fz) (us++ds):=r.append hd
 have hl:(us++ds).length=ps.length:=by rw[<- r2.length];exact F.len _ _ _ _ q
 refine qf (qA (F.run X.A X.stack s1 H1 ⟨us,[]⟩ (us++ds) (vs++fz) Q E (hr.mono Fq) I1.R3 (hb s1 us I1.pF hl) r2 q) fun r' s' hq=>?_)
 cases r' with
 | error e'=>exact⟨s1,H1,I1,hq⟩
 | ok fl =>
  cases fl with
  | ret u=>exact I1.after hq
  | next=>exact False.elim hq
  | brk=>exact False.elim hq
  | cont=>exact False.elim hq
def aa8(t:TXE):TX:=fun D E σ H=>t σ H (fun _ H1=>D.nx σ H1) E
theorem Rh{t:TXE}(he:PXE X e t)(hs:qO e none pos.line X.env=pure false:=by rfl):PX1 X (.Expr e pos) (aa8 t):=by
 intro pins s σ H D E I h
 exact qV (cD (he pins s σ H _ E I h) fun v s1 ⟨y,H1,I1,r1,q1⟩=>⟨σ,H1,I1,q1⟩) I.quiet hs
theorem O8{t:TX}(h:PX1 X st t):PX X [st] t:=by
 intro pins s σ H D E I q
 refine qw (cD (h pins s σ H D E I q) fun f s' hs=>?_)
 cases f with
 | next=>exact qx hs
 | brk=>exact hs
 | cont=>exact hs
 | ret u=>exact hs
def aiP(c:TT)(t u:TX):TX:=fun D E σ H=>c σ H fun b H1=>if b=true then t D E σ H1 else u D E σ H1
theorem aie{a b:List Stmt}{t u:TX}(hc:PT X c tc)(ha:PX X a t)(hb:PX X b u)(hx:∀ e s,X.xe e s=False:=by intro _ _;rfl):PX1 X (.If c a b pos) (aiP tc t u):=by
 intro pins s σ H D E I h
 refine wpAny_If (WL (hc pins s σ H _ I h) (fun d s1 ⟨H1,I1,q1⟩=>?_) fun e' s' z=>((hx e' s').mp z).elim)
 cases d with
 | true=>exact ha pins s1 σ H1 D E I1 q1
 | false=>exact hb pins s1 σ H1 D E I1 q1
end
section
variable{fs:List QQ}{H1:Hp}{h h1:Heap}
theorem Un.more(u:Un fs [] H H1 h h1)(n:h.get? ea=none)(z:H ea=none):Un fs [] H (upd H1 ea o) h h1 where
 keep:=u.keep
 slot:=u.slot
 free:=fun b ob q e hx=>by
  rw[aj (fun c=>by rw[c,n]at q;cases q)]
  exact u.free b ob q e hx
 there:=u.there
 tups:=fun b xs q=>by rw[aj (aq q z)];exact u.tups b xs q
 frzs:=fun b ob v q=>by rw[aj (aq q z)];exact u.frzs b ob v q
 tbls:=fun b ps q=>by rw[aj (aq q z)];exact u.tbls b ps q
theorem iP.ext(x:iP P w H h)(z:H ea=ZW)(p:BN ea C h):iP P w (upd H ea (.ext (BN ea C))) h:=by
 intro a u e
 by_cases q:a=ea
 ·subst q
  rw[ae]at e
  cases e
  obtain⟨ob,vs,e1,e2,e3⟩:=p
  exists ⟨ob,vs,e1,e2,e3⟩,⟨ob,e1⟩
  rintro h1 h2 ⟨ob',vs',f1,f2,f3⟩ k
  exact⟨ob',vs',k _ f1,f2,f3⟩
 ·rw[aj q]at e
  exact(x a u e).Az (fun b v _ f=>f) (fun b f=>by rw[aj (aq f z)];exact f) fun b xs f=>by rw[aj (aq f z)];exact f
end
section
theorem Hw{M:Model}{v:V}(I:Inv X pins σ H s)(hN:X.N.Nodup)(hi:X.N[i]?=some x)(hx:X.env.scope.names.lookup x=some .local)(h:∀ s',Inv X pins (σ.set i none) H s'->Q () s'):wpAny M A (do bindName X.env x .none;unbindBehindTheSuite X.env x pos) Q EE s:=by
 have aep:(X.env.scope.kind==.class||(X.env.scope.kind==.module&&X.env.locals != X.env.globals))=false:=by rw[I.ok.kind];rfl
 have V1:i<σ.length:=by rw[I.len];exact(jc.mp hi).1
 refine qd (wpAny_bindName (wa I hN hi (.inl hx) (v:=.non) rfl (fun s1 I1=>?_) (.inr hx)))
 unfold unbindBehindTheSuite
 refine wpAny_onRaise ?_
 obtain⟨m,hn,hl⟩:=id I1.loc
 have hv:m x=some .none:=by
  obtain⟨u,ru,lk⟩:=hl i x .non hi (Jf V1) (.inl hx)
  cases(show u=Wt from ru)
  rcases lk with⟨_,e⟩|⟨k,_⟩
  ·exact e
  ·have k0:X.env.kindOf x=some .local:=hx
   rw[k0]at k
   rcases k with k|k<;>cases k
 refine wpAny_unbindName_local hx hn hv aep fun h' u hn' hs=>h _ ?_
 have TM:=I1.TM
 obtain⟨oL,_,_,hoL,_⟩:=id hn
 refine⟨I1.ok,I1.os,I1.bare,⟨fun b o e n hb hz=>?_,fun b o e n hb hz=>?_,I1.base.free,fun b o e hz=>?_,I1.base.tups,I1.base.frzs,I1.base.tbls⟩,⟨_,hn',fun j y v' e1 e2 e3=>?_⟩,fun y c e=>?_,I1.free,I1.freeC,fun p hp=>?_,fun b ob e=>?_,?_⟩
 ·exact(hs.2 b (jR (jW (jJ e) I1.ok.above))).trans (I1.base.keep b o e n hb hz)
 ·obtain⟨sl,f⟩:=I1.base.slot b o e n hb hz
  exact⟨sl,(hs.2 b (jR (jW (jJ e) I1.ok.above))).trans f⟩
 ·obtain⟨o',f⟩:=I1.base.there b o e hz
  exact⟨o',(hs.2 b (jR (jW (jJ e) I1.ok.above))).trans f⟩
 ·by_cases hj:j=i
  ·subst hj
   rw[Jf V1]at e2
   cases e2
  ·rw[Jh (Ne.symm hj)]at e2
   obtain⟨u',r',q⟩:=hl j y v' e1 (by rw[Jh (Ne.symm hj)];exact e2) e3
   exists u',r'
   rcases q with⟨k,e⟩|⟨k,c,e,z⟩
   ·refine .inl ⟨k,?_⟩
    have:y≠x:=fun e=>hj (EB hN e1 (e ▸ hi))
    simp[this,e]
   ·exact .inr ⟨k,c,e,z.sameBut hs (TM y c e)⟩
 ·obtain⟨w',z⟩:=I1.cell y c e
  exact⟨w',z.sameBut hs (TM y c e)⟩
 ·obtain⟨e,n,ne,nf,d⟩:=I1.pin p hp
  exact⟨(hs.2 p.1 ne).trans e,n,ne,nf,d⟩
 ·refine(I1.hok b ob e).Az (fun c w' hc q=>(hs.2 c ?_).trans q) (fun _ q=>q) fun _ _ q=>q
  rintro rfl
  rcases hc with rfl|hc
  ·rw[I1.free]at e;cases e
  ·rw[I1.free]at hc;cases hc
 ·rw[zp];exact I.len
end
section
variable{s':Ql}{F:QQ}{n:Qm}{np W0:Pos}{tb:TX}
theorem land(I:Inv X pins σ H s)(os:s'.os=s.os)(bare:QR s'.gens)(un:Un (Ao X.stack) [] H H' s.heap s'.heap)(hok:iP X.prog X.w H' B)(there:∀ b o,s.heap.get? b=some o->b∉Ao X.stack->∃ o',B.get? b=some o')(f0:B.StaysIn s'.heap)(f5:B.StaysIn h5)(sm:s'.heap.UpToSlots h5):Un (Ao X.stack) [] H H' s.heap h5/\iP X.prog X.w H' h5:=by
 have Ov:iP X.prog X.w H' s'.heap:=hok.kept fun b u q=>f0 b u q
 have J:Inv X pins σ H' s' := I.AQ (ch:=[]) os un Ov bare #[84]
 refine⟨Un.fly un f5 (fun b o o1 q q1 hb=>?_) fun b o hb q=>?_,hok.kept fun b u q=>f5 b u q⟩
 ·obtain⟨o',e'⟩:=there b o q hb
  have:=f0 b o' e'
  rw[q1]at this
  cases this
  exact e'
 ·obtain⟨_,o',e',hd⟩:=J.stack.mem hb
  rw[q]at e'
  cases e'
  exact sm b o q hd
def amx(C:QQ)(i:Nat)(tb:TX)(ts:TS):TS:=fun D σ H=>tb D (fun c _ H1=>c=.ref C/\∀ ea,H1 ea=none ->
 ts { nx:=fun σ' H'=>D.nx (σ'.set i none) H',rt:=D.rt,bk:=fun σ' H'=>D.bk (σ'.set i none) H',ct:=fun σ' H'=>D.ct (σ'.set i none) H' } (σ.set i (some #[108])) (upd H1 ea (.ext (BN ea C)))) σ H
theorem ae5(hN:X.N.Nodup)(hi:X.N[i]?=some n)(hx:X.env.scope.names.lookup n=some .local)(hm:X.mg x=some (.ref F))(hq:YR X.K #[20] (.ref F)=some true)(hb:PX X body tb)(hs:∀ ea,Fe (X.held ea) (b₀ :: MM) ts)(BK:X.stack=X.env :: X.outer:=by rfl)(MT:X.env.frame=some X.env.locals:=by rfl)(hg:Gl X x:=by rfl)(tI:#[15]=false:=by decide):
  PS X (.Try body [.ExceptHandler (some (.Name x np)) (some n) (b₀ :: MM) W0] [] [] pos) (amx C i tb ts):=by
 exists 9
 refine qX (WL (hb pins s σ H D _ I h) (fun f s1 q=>?_) fun e s1 q=>?_)
 ·cases f with
  | next=>exact qx q
  | brk=>exact q
  | cont=>exact q
  | ret u=>exact q
 obtain⟨s0,H0,I0,ea,t,C',B,H',rfl,os,bare,un,hok,fl,there,hn,hc,k⟩:=q
 obtain rfl:C'=C:=yq hc
 have flt:=fl
 rw[BK]at flt
 have ean:s0.heap.get? ea=none:=by
  cases q:s0.heap.get? ea with
  | none=>rfl
  | some o =>
   by_cases hb:ea∈Ao X.stack
   ·exfalso
    obtain⟨_,_,_,oe,vs,_,_,_,he,_,hd,_⟩:=id fl
    have Ov:iP X.prog X.w H' s1.heap:=hok.kept fun b u q=>fl.1 b u q
    have J:Inv X pins σ H' s1:=I0.AQ (ch:=[]) os un Ov bare #[84]
    obtain⟨_,o',e',hnd⟩:=J.stack.mem hb
    rw[he]at e'
    cases e'
    exact hnd _ hd
   ·obtain⟨o',e'⟩:=there ea o q hb
    rw[fl.2.1]at e'
    cases e'
 have h0n:H0 ea=none:=I0.hok.none ean
 refine wpAny_looks_onW (I0.ok.frames.trans (by rw[BK])) MT flt fun h4 ahl sm4=>?_
 refine wpAny_landsW ahl fun h5 fl5 sm5=>?_
 have sm:=sm4.trans sm5
 obtain⟨un5,aex⟩:=land I0 os bare un hok there fl.1 fl5.1 sm
 have I5:Inv X pins σ H' { s1 with heap:=h5 }:=I0.AQ (ch:=[]) os un5 aex bare #[84]
 refine WA (Qz ?_) (by intro q;cases q)
 refine iV (X:=X.held ea) I5.held hg hm ?_ tI
 have ty5:Xg #[5] h5 (typeOf #[108]) (.ref C'):=by
  obtain⟨ob,e1,e2⟩:=fl5.there
  exact e2 ▸ (XQ e1).andThen .now
 refine(XZ (M:=model X.prog X.w) I5.pF ty5 hq).here ?_
 refine Qy (lands_againW fl5 fun h6 fl6 sm6=>?_)
 obtain⟨un6,aey⟩:=land I0 os bare un hok there fl.1 fl6.1 (sm.trans sm6)
 have ex6:BN ea C' h6:=by
  obtain⟨_,_,_,oe,vs,_,_,_,he,hcl,hd,_⟩:=fl6
  exact⟨oe,vs,he,hcl.1,hd⟩
 have I6:Inv X pins σ (upd H' ea (.ext (BN ea C'))) { s1 with heap:=h6 }:=I0.AQ (ch:=[]) os (un6.more ean h0n) (aey.ext hn ex6) bare #[84]
 refine wa (X:=X.held ea) I6.held hN hi (.inl hx) (v:=.ref ea) rfl (fun s7 I7=>?_) (.inr hx)
 refine WL (hs ea pins s7 _ _ _ I7 (k ea hn)) (fun f s8 q8=>?_) fun _ _ z=>z.elim
 have fin:∀ {σ8:St} {H8:Hp} {Q:Unit->Ql->Prop},Inv (X.held ea) pins σ8 H8 s8->(∀ s9,Inv X pins (σ8.set i none) H8 s9->Q () s9)->wpAny #[5] X.A (do bindName X.env n .none;unbindBehindTheSuite X.env n W0) Q X.xe s8:=
  fun {σ8 H8 Q} J g=>Hw (v:=.non) (J.aba I.ok) hN hi hx g
 cases f with
 | next=>obtain⟨σ8,H8,J,q⟩:=q8;exact fin J fun s9 J9=>⟨_,H8,J9,q⟩
 | brk=>obtain⟨σ8,H8,J,q⟩:=q8;exact fin J fun s9 J9=>⟨_,H8,J9,q⟩
 | cont=>obtain⟨σ8,H8,J,q⟩:=q8;exact fin J fun s9 J9=>⟨_,H8,J9,q⟩
 | ret u=>obtain⟨v,σ8,H8,J,r,q⟩:=q8;exact fin J fun s9 J9=>⟨v,_,H8,J9,r,q⟩
end
structure pP(k:Nat)(A:Around):Prop where
 dp:A.depth+3*k+5<recursionLimit
 un:A.units+16*k+200<cLine
theorem pP.mono{k:Nat}(r:pP k A)(h:j<=k):pP j A:=⟨by have:=r.dp;omega,by have:=r.un;omega⟩
theorem pP.deeper{k:Nat}(r:pP (k+1) A)(env:QX):pP k (A.deeper env):=
 ⟨by have:=r.dp;show A.depth+1+3*k+5<_;omega,by have:=r.un;show A.units+3+16*k+200<_;omega⟩
theorem pP.depth{k:Nat}(r:pP k A):A.depth<recursionLimit:=by have:=r.dp;omega
theorem dD.held{k:Nat}{v:Option Value}(r:dD k A):pP k (A.mark v):=
 ⟨by have:=r.dp;first|exact this|(simp only[Around.mark];exact this),by have:=r.un;first|exact this|(simp only[Around.mark];exact this)⟩
structure FI(P:Qj)(w:World)(K:Wl)(mg:Qm->Option Value)(base:Heap)(CX:IW)(k:Nat)(f:QQ)(fd:QY)(ps:List Qm)(sp:Sp):Prop where
 len:∀ vs H Q E,sp vs H Q E->vs.length=ps.length
 run:∀ (A:Around) (outer:List QX) (s:Ql) (H:Hp) (args:Args) (us:List Value) (vs:List V) (Q:VK) (E:XK),pP k A->Fg P w K mg base A outer s H->QT s fd args (ps.zip us)->Vals vs us->sp vs H Q E ->
  codeAny (model P w) A (.call #[64] args) (CR CX outer P w H s Q E) s
abbrev K9(CX:IW)(P:Qj)(w:World)(K:Wl)(mg:Qm->Option Value)(base:Heap)(N:List Qm)(qual:Qm)(scope:Scope)(f:QQ)(cd:Value)(A:Around)(outer:List QX)(s:Ql)(H:Hp)(E:XK):Cx:=
 { bP CX P w K mg base N qual scope f cd A outer s H E with calm:=false }
theorem Oy{s1:Ql}(S:aJ N ps scope)(e0:Fg P w K mg base A outer s H)(hl:vs.length=ps.length)(r:Vals vs us)(x:InCallC s s.heap.objs.size (bindL #[14].kindOf (ps.zip us) fun _=>none) (cellsFrom #[23] scope.names []) (bindC #[14].kindOf (ps.zip us) fun _=>none) s1):
  Inv (K9 CX P w K mg base N qual scope f cd A outer s H E) [] (start N vs) H s1:=by
 have e1:Fg P w K mg base { A with handled:=none } outer s H:=⟨e0.frames,e0.mod,e0.bs,e0.bsz,e0.Ap,e0.frf,e0.hok,e0.bare⟩
 have I:=G3 (CX:=CX) (E:=E) (qual:=qual) (f:=f) (cd:=cd) S rfl e1 hl r x
 have ok:=I.ok
 exact⟨⟨ok.mod,ok.kind,ok.glob,ok.blt,ok.above,ok.inj,ok.has,ok.cab,(fun z=>by cases z),Around.frames_deeper e0.frames,ok.stk,ok.exf,ok.bs,ok.bsz,ok.noex,ok.exfs,ok.Ap,ok.frf⟩,I.os,I.bare,I.base,I.loc,I.cell,I.free,I.freeC,I.pin,I.hok,I.len⟩
theorem aec{k:Nat}{name:Qm}{kV doc pm cw ct oc:Value}(lk:K.lookup f=some ⟨oc,od,.func (Ww name qual params body scope dV kV doc pm an cw ct),Fz⟩)(Fm:YH K cw qual=true)(S:aJ N ps scope)(len:∀ vs H Q E,sp vs H Q E->vs.length=ps.length)(tH:∀ (A:Around) (outer:List QX) (s:Ql) (H:Hp) (vs:List V) (Q:VK) (E:XK),pP k (A.deeper (envOfC qual scope s.heap.objs.size f cw))->sp vs H Q E ->
   ∃ t,Fe (K9 CX P w K mg base N qual scope f cw A outer s H E) body t/\t { nx:=fun _ H'=>Q .non H',rt:=Q } (start N vs) H):
  FI P w K mg base CX (k+1) f (Ww name qual params body scope dV kV doc pm an cw ct) ps sp:=by
 refine⟨len,fun A outer s H args us vs Q E hr e0 hb r Lu=>?_⟩
 have hl:=len _ _ _ _ Lu
 have KX:K.In s.heap:=e0.mod.kin.keeps fun b o e=>(e0.bs b o e).1
 have lim:s.heap.NoLimit:=e0.mod.nolimit.keeps fun b o e=>(e0.bs b o e).1
 have V3:∀ y∈ps.zip us,scope.names.lookup y.1=some .local\/(scope.names.lookup y.1=some .cell/\((cellsFrom #[23] scope.names []).lookup y.1).isSome=true):=fun⟨n,v⟩ hy=>by
  rcases S.par n (zo hy).1 with q|q
  ·exact .inl q
  ·exact .inr ⟨q,Yp _ _ _ (.inl q)⟩
 refine Qx hr.depth (KX _ _ lk) rfl S.co S.gen rfl (XB KX Fm) (hb _ _ _ _ ?_)
 refine WM S.kind V3 fun env he s1 x=>?_
 subst he
 refine⟨lim.keeps x.toInCall.keep,codeAny_func ?_⟩
 obtain⟨t,ht,hq⟩:=tH A outer s H vs Q E (hr.deeper _) Lu
 have I:Inv (K9 CX P w K mg base N qual scope f cw A outer s H E) [] (start N vs) H s1:=Oy S e0 hl r x
 refine WL (ht [] s1 (start N vs) H _ I hq) (fun fl s' hs=>?_) fun e s' hs=>hs
 have fin:∀ {σ':St} {H':Hp} {v:V} {u:Value},Inv (K9 CX P w K mg base N qual scope f cw A outer s H E) [] σ' H' s'->RelV v u->Q v H'->CE outer P w H s Q u s' :=
  fun {σ' H' v u} J rv q=>⟨v,H',J.os,J.bare,J.base,J.hok,rv,q⟩
 cases fl with
 | ret u =>
  obtain⟨v,σ',H',J,rv,q⟩:=hs
  exact fin J rv q
 | next =>
  obtain⟨σ',H',J,q⟩:=hs
  exact fin (v:=V.non) (u:=Wt) J rfl q
 | brk =>
  obtain⟨_,_,_,q⟩:=hs
  exact False.elim q
 | cont =>
  obtain⟨_,_,_,q⟩:=hs
  exact False.elim q
structure abp(P:Qj)(w:World)(K:Wl)(mg:Qm->Option Value)(base:Heap)(x:Qm)(k:Nat)(ps:List Qm)(fz:List V)(sp:Sp):Prop where
 ex:∃ (f:QQ) (fd:QY) (ds:List Value),mg x=some #[64]/\Wu K #[64]=true/\Vals fz ds/\Binds K fd ps ds/\FI P w K mg base eB k f fd ps sp
section
theorem br.okH{k:Nat}(F:br K x qual st dV f fd)(S:aJ N ps (ar st))(len:∀ vs H Q E,sp vs H Q E->vs.length=ps.length)(tH:∀ (cw:Value) (A:Around) (outer:List QX) (s:Ql) (H:Hp) (vs:List V) (Q:VK) (E:XK),pP k (A.deeper (envOfC qual (ar st) s.heap.objs.size f cw))->sp vs H Q E ->
   ∃ t,Fe (K9 eB P w K mg base N qual (ar st) f cw A outer s H E).iu (dA st) t/\t { nx:=fun _ H'=>Q .non H',rt:=Q } (start N vs) H):FI P w K mg base eB (k+1) f fd ps sp:=by
 exists 6
 refine aec lk Fm S len fun A outer s H vs Q E hr Lu=>?_
 obtain⟨t,h,q⟩:=tH cw A outer s H vs Q E hr Lu
 exact⟨t,h.iu,q⟩
end
section
variable{k:Nat}{t:TA}
theorem adw(G:abp X.prog X.w X.K X.mg X.base x k ps fz sp)(hr:pP j X.A)(ha:PA X (e :: es) t)(Fq:k<=j:=by decide)(hg:Gl X x:=by rfl)(tI:#[15]=false:=by decide)(he:qM (e :: es) X.env=#[16] :: qM es X.env:=by rfl)(rC:#[22].any (·.1)=false:=by rfl):
  PE X #[18] (Hu sp fz E0 t):=by
 obtain⟨f,fd,ds,hm,hk,hd,hb,F⟩:=G.ex
 exists 4
 refine qS (iV I hg hm ?_ tI)
 refine YG (h₀:=X.base) I.ok.mod.kin hk (cD #[42] fun us s1 ⟨vs,H1,I1,r,q⟩=>⟨I1.pF,?_⟩) he rC
 have r2:Vals (vs++fz) (us++ds):=r.append hd
 have hl:(us++ds).length=ps.length:=by rw[<- r2.length];exact F.len _ _ _ _ q
 refine qf (qA (F.run X.A X.stack s1 H1 ⟨us,[]⟩ (us++ds) (vs++fz) Q E0 (hr.mono Fq) I1.R3 (hb s1 us I1.pF hl) r2 q) fun r' s' hq=>?_)
 cases r' with
 | error e'=>exact False.elim hq
 | ok fl =>
  cases fl with
  | ret u=>exact I1.after hq
  | next=>exact False.elim hq
  | brk=>exact False.elim hq
  | cont=>exact False.elim hq
end
section
def ad5:V->Option Value
 | .ref a=>some #[50]
 | .ty n=>some (.type n)
 | _=>none
theorem K5{c:V}{cv u:Value}(e:ad5 c=some cv)(r:RelV c u):u=cv:=by
 cases c<;>first|cases e
 ·exact r
 ·exact r
inductive aif (K:Wl) (xs:List V) (H:Hp) (Q:VK):Prop
 | mk (a C:QQ) (c:V) (cv:Value) (b:Bool) (_:xs=[.ref a,c]) (_:H a=some (.ext (BN a C))) (_:Al K C) (_:ad5 c=some cv) (_:Wo K #[20] cv=some b) (_:Q (.bl b) H)
theorem mB:lH X (.builtin "isinstance") (aif X.K):=by
 exists 5
 obtain⟨a,C,c,cv,b,rfl,ha,cl,hc,e,q⟩:=h
 obtain⟨u,v,rfl,ru,rv⟩:=r.two
 cases(show u=Wm a from ru)
 cases K5 hc rv
 obtain⟨p,_⟩:=(show bN X.prog X.w H s.heap a (.ext (BN a C))from I.hok a _ ha)
 exact Wx (LD cl) I.pF p e #[46] fun tk=>⟨.bl b,H,I.tok tk,rfl,q⟩
end
theorem mF{α β:Type}{F:α->β->Prop}:∀ {l₁:List α} {l₂:List β} {j:Nat} {q:β},Qh F l₁ l₂->l₂[j]?=some q->∃ p,l₁[j]?=some p/\F p q
 | _,_,_,_,.nil,e=>by simp at e
 | _,_,0,_,.cons r _,e=>by simp at e;subst e;exact⟨_,rfl,r⟩
 | _,_,j+1,_,.cons _ t,e=>by
  obtain⟨p,h1,h2⟩:=mF (j:=j) t (by simpa using e)
  exact⟨p,by simpa using h1,h2⟩
section
theorem Hd:∀ {ks:List Key} {us:List Value},us.length=ks.length->(∀ (j:Nat) (v:Value),us[j]?=some v->∃ k,ks[j]?=some k/\CD k v=true)->Vals (ks.map kV) us
 | [],[],_,_=>.nil
 | [],_ :: _,h,_=>by simp at h
 | _ :: _,[],h,_=>by simp at h
 | k :: ks,u :: us,h,q=>by
  obtain⟨k',e,i⟩:=q 0 u rfl
  cases(show k=k' from by simpa using e)
  refine .cons ?_ (Hd (by simpa using h) fun j v e=>by simpa using q (j+1) v (by simpa using e))
  rcases cR i with⟨n,t,rfl,rfl⟩|⟨x,t,rfl,rfl⟩
  ·exact⟨t,rfl⟩
  ·exact⟨t,rfl⟩
inductive ae7 (xs:List V) (H:Hp) (Q:VK):Prop
 | mk (p:_) (kvs:_) (_:xs=[.ref p]) (_:H p=some #[53]) (_:∀ l,H l=none->Q (.ref l) (upd H l (.lst (kvs.map fun q=>kV q.1))))
theorem DV(hc:X.calm=true):lH X (.type "list") ae7:=by
 exists 5
 obtain⟨p,kvs,rfl,hp,q⟩:=h
 obtain⟨u,rfl,rx⟩:=vals1 r
 cases rx
 obtain⟨hz,lo,vs,kv,dof⟩:=(show bN X.prog X.w H s.heap p #[53]from I.hok p _ hp)
 obtain⟨ep,hat⟩:=dof.dictAt
 have hlen:kvs.length=vs.length:=Paired.length kv
 refine XR (PySem.W.kdl_dict (knd:=bC X.prog X.w) (kvs:=vs) (ep:=ep) lo) #[85] hat (by rw[<- hlen];exact hz) fun h' tk acc c' kp e Ba=>?_
 have rv:Vals ((kvs.map (·.1)).map kV) acc.toList:=Hd (by rw[Jd,Ba.1,jX,hlen]) fun j v ej=>by
  obtain⟨k,x,e1,e2⟩:=Ba.2 j v (by rw[<- JX];exact ej)
  refine⟨k,?_,e2⟩
  obtain⟨pv,f1,f2⟩:=mF kv e1
  rw[jN,f1]
  exact congrArg some f2.1
 rw[JI]at rv
 have ob:bN X.prog X.w (upd H s.heap.objs.size (.lst (kvs.map fun q=>kV q.1))) h' s.heap.objs.size (.lst (kvs.map fun q=>kV q.1)):=by
  exists by rw[jX];exact hz,acc.toList,c',rv
  rw[Zb]
  exact e
 exact⟨.ref _,_,I.laid (t' := tk) kp (jE _) ob,rfl,q _ #[68]⟩
end
end L2
namespace L2
open PySem PySem.Spec PySem.W PySem.Builtin PySem.Builtin.ObjectAttr PyProof.Rows
variable{prog:Qj}{w:World}{A:Around}{E Q:Value→Ql→Prop}{s:Ql}{K:Wl}{x C N f fI tp:QQ}{vs:Array Value}{name:Qm}{v u:Value}{as:List QQ}{h:Heap}{tk:Tok}{R:Result→Ql→Prop}{hdct ab:Bool}{sn:List Qm}{sub:List Value}{mN:Qm→Option Value}{oI:Obj}
abbrev fP(C:QQ)(dx:Option QQ)(vs:Array Value):Obj:={ cls:=.ref C,dict:=dx,data:=.fields vs }
def mroIs(K:Wl)(C:QQ)(as:List QQ):Bool:=(clsIn K C).any fun cd=>cd.mro==as.map Wm++VEm
theorem CL(self:Value):∀ as:List QQ,refuseLoop self "__setattr__" (as.map Wm++VEm)=pure ()
 | []=>PySem.F.store_ValueError.passes self
 | a :: r=>by
  rw[JF,zZ,refuseLoop_ref]
  exact CL self r
section
theorem Lw(hx:h.get? x=some (fP C none vs)):InstAt h x (fP C none vs) C none:=⟨hx,rfl,rfl,trivial⟩
theorem acw(X:K.In s.heap)(hx:s.heap.get? x=some (fP C none vs))(hm:mroIs K C as=true)(ob:mroIn K C #[63]=some true)(na:findIn K #[20] name=some none)(h:wpAny #[9] A.in1 (storeInOwnDict #[89] #[20] (.str name tk) name v false)
   (fun fin s'=>match fin with|.done f=>R (.ok f) s'|.again c'=>c'.quiet=true/\codeAny #[9] A c' R s') (fun e s'=>R (.error e) s') s):
  codeAny #[9] A (.call (.builtin "object.__setattr__") ⟨[.ref x,.str name tk,v],[]⟩) R s:=by
 have SF:=PySem.F.store_object
 have I:=Lw hx
 obtain⟨cd,hc,ho⟩:=any_some hm
 have em:cd.mro=as.map Wm++VEm:=by simpa using ho
 have sub:Looks #[9] s.heap (isInstance #[89] #[63]) true:=I.type.andThen (qF X ob)
 refine Qw SF.slot.plain SF.entry (@check_slot #[9] _ _ s "object.__setattr__" "object" "__setattr__" #[89] [.str name tk,v] [] _ SF.kind SF.split sub (SF.args #[89] (.str name tk) v) ?_)
 have lm:Looks #[9] s.heap (mroOf #[20]) cd.mro:=(looks_clsIn X hc).andThen .now
 rw[osa_eq,refuse_eq]
 refine qd (qd (I.type.here (qd (lm.here ?_))))
 rw[em,CL]
 refine WS (qd (I.type.here (qd ((looks_findIn X na).here (qd (WS ?_))))))
 exact h
theorem acO{Q:Unit->Ql->Prop}(X:K.In s.heap)(hx:s.heap.get? x=some (fP C none vs))(hs:findIn K #[20] "__setattr__" = some (some (.builtin "object.__setattr__")))(hm:mroIs K C as=true)(ob:mroIn K C #[63]=some true)(na:findIn K #[20] name=some none)(hh:hasDictIn K C=true)(h:∀ h' d,h'.get? x=some (fP C (some d) vs)->h'.Ns1 d (fun y=>if y=name then some v else none)->s.heap.objs.size<=d->(∀ b o,b≠x->s.heap.get? b=some o->h'.get? b=some o)->Q () { s with heap:=h',toks:=s.toks+2 }):
  wpAny #[9] A (setAttr #[89] name v) Q E s:=by
 have J:=Lw hx
 refine set_plain X J hs (acw (s:={ s with toks:=s.toks+1 }) X hx hm ob na ?_)
 obtain⟨cd,hc,hd'⟩:=any_some hh
 refine qd (WS (qd (qd (WI hx (qd (XA (s:={ s with toks:=s.toks+1 }) (looks_clsIn X hc) ?_))))))
 rw[hd']
 rw[if_neg #[7],if_neg (by simp[typeHasDict])]
 have Ox:#[25].get? x=some (fP C none vs):=jC _ hx
 have hxs:x≠s.heap.objs.size:=jR (jJ hx)
 refine qd (wpAny_alloc' (qd (wpAny_update' Ox (WS ?_))))
 have hgd:(#[25].update x fun o=>{ cls:=o.cls,dict:=some s.heap.objs.size,data:=o.data,slots:=o.slots }).get? s.heap.objs.size=some { cls:=.type "dict",data:=.dict #[] }:=
  (Zf _ _ _ _ hxs.symm).trans (Heap.get?_push_at rfl rfl)
 have hnd:(#[25].update x fun o=>{ cls:=o.cls,dict:=some s.heap.objs.size,data:=o.data,slots:=o.slots }).Ns s.heap.objs.size (fun _=>none):=
  ⟨_,#[],_,hgd,rfl,fun e he=>absurd he #[21],fun _=>rfl⟩
 dsimp only
 unfold storeInDict newKeyGuard
 refine qd (WS (qd (wpAny_nsSet1 (XG hnd) fun h' hn' hs'=>?_)))
 obtain⟨oD,esD,epD,hoD,hdD,hcD⟩:=hn'.count (Within.cons name v Within.nil)
 refine qd (WK hoD (by rw[hdD];exact qH (jf hcD (by rw[jT,JR,qL];omega))) ?_)
 refine WS (h h' s.heap.objs.size ?_ ?_ (jE _) fun b o hb q=>?_)
 ·exact(hs'.2 x hxs).trans (JD _ Ox rfl)
 ·obtain⟨o',es,ep,e1,e2,e3,eu,e4⟩:=hn'
  exact⟨o',es,ep,e1,e2,e3,eu,fun y=>by rw[e4 y]⟩
 ·exact(hs'.2 b (jR (jJ q))).trans ((Zf _ _ _ _ hb).trans (jC _ q))
end
def An(K:Wl)(C:QQ)(f:QQ):Bool:=match K.lookup C with
 | some ⟨.type "type",_,.cls cd,sl⟩=>(match cd.mro,sl.toList with
  | .ref C' :: tl,[_,_,_,_,some (.builtin n),_]=>C'==C&&n == "ValueError.__new__" && !cd.hasDel&&tailIn K VEm tl&&nsOkIn K cd.ns&&nsIn K cd.ns "__init__" == some (some #[64])
  | _,_=>false)
 | _=>false
theorem L4{x:Qm}(X:K.In h)(e:nsOkIn K N=true)(q:nsIn K N x=some (some v)):h.nsMap N x=some v:=by
 have G:=xP (isNs_of_in X e)
 obtain⟨o,es,ep,ho,hd,_,hf⟩:=id G
 unfold nsIn at q
 split at q
 ·rename_i c d MS n' sl z
  have y:=X _ _ z
  rw[ho]at y
  cases y
  cases hd
  split at q
  ·rename_i en he
   cases q
   rw[<- hf]
   unfold nsFind findBy
   rw[<- Zi,he]
   rfl
  ·split at q<;>cases q
 ·cases q
theorem HY(X:K.In h)(q:An K C f=true):
  ∃ tl N nm qn bs hd sn sub ab col dd k0 k1 k2 k3 k5 mN,h.get? C=some (excClassObj nm qn C N bs tl hd sn sub ab col dd k0 k1 k2 k3 k5 "ValueError.__new__")/\h.Ns N mN/\mN "__init__" = some #[64]/\OwnTail h VEm tl:=by
 unfold An at q
 cases e:K.lookup C with
 | none=>rw[e]at q;cases q
 | some ob =>
  rw[e]at q
  obtain⟨oc,od,dt,sl⟩:=ob
  split at q
  ·rename_i dd cd sl' he
   cases he
   split at q
   ·rename_i C' tl k0 k1 k2 k3 n k5 m1 m2
    simp only[Je,beq_iff_eq,Zp]at q
    obtain⟨⟨⟨⟨⟨rfl,rfl⟩,d1⟩,t1⟩,o1⟩,i1⟩:=q
    obtain⟨nm,bs,mro,ns,qn,hd,sn,sub,ab,col,del⟩:=cd
    dsimp only at m1 d1 o1 i1
    subst m1 d1
    have es:sl=#[k0,k1,k2,k3,some (.builtin "ValueError.__new__"),k5]:=by
     cases sl with
     | mk l=>exact congrArg Array.mk m2
    subst es
    exact⟨tl,ns,nm,qn,bs,hd,sn,sub,ab,col,_,k0,k1,k2,k3,k5,_,X _ _ e,.of_isNs (isNs_of_in X o1),L4 X o1 i1,tail_of_in X t1⟩
   ·cases q
  ·cases q
section
variable{g:Array QZ}{d:Drawn}{t:Nat}{os:OsState}
variable{nm q:Qm}{bs bm:List Value}{col:Option Bool}{dd:Option QQ}{k0 k1 k2 k3 k5:Option Value}
theorem Dd(T:OwnTail h VEm bm){rest:List Value}{Q:Fin->Ql->Prop}(hC:h.get? C=some (excClassObj nm q C N bs bm hdct sn sub ab col dd k0 k1 k2 k3 k5 "ValueError.__new__"))(hn:h.Ns N mN)(hi:mN "__init__" = some (.ref fI))(hfI:h.get? fI=some oI)(hfc:oI.cls=.type "function")(hq:∀ h' e tp,h'.get? e=some (fP C none #[.ref tp,.none,.none,.none,.bool false,.none])->h.get? e=none->h.objs.size<=e->(∀ b o,h.get? b=some o->h'.get? b=some o) ->
   wpAny #[9] A (call (.ref fI) (.ref e :: rest)) (fun r s'=>r=.none/\Q (.done (.ret (.ref e))) s') E ⟨h',g,d,t,os⟩)(W2:rest.length<=sizeLine):
  wpAny #[9] A (Builtin.«type.__call__» ⟨.ref C :: rest,[]⟩) Q E ⟨h,g,d,t,os⟩:=by
 have Fn:=YU
 repeat (first|with_reducible refine WJ hC ?_|with_reducible refine wpAny_madeBy_exc hC ?_|wp_step)
 refine codeAny_call_builtin_code (Code.quiet_builtin _ Fn.quiet) (wpAny_check_new_subU Fn #[7] T hC ?_)
 refine codeAny_exc_new_subU Fn #[7] Fn T hC ?_ W2
 show wpAny _ _ _ _ _ _
 generalize hE:({ cls:=.ref C,data:=.fields #[.ref h.objs.size,.none,.none,.none,.bool false,.none] }:Obj)=oE
 generalize hT:({ cls:=.type "tuple",data:=.seq rest.toArray }:Obj)=oT
 have keep:∀ b o,h.get? b=some o->((h.push oT).push oE).get? b=some o:=fun b o e=>jC _ (jC _ e)
 have hC1:=keep _ _ hC
 have hn1:((h.push oT).push oE).Ns N mN:=let ⟨o,es,ep,e,r⟩:=hn;⟨o,es,ep,keep _ _ e,r⟩
 have aho:((h.push oT).push oE).get? (h.objs.size+1)=some (fP C none #[.ref h.objs.size,.none,.none,.none,.bool false,.none]):=by
  have q:=jL (h.push oT) (o:=oE) (by rw[<- hE];rfl)
  rw[Jj]at q
  rw[q,<- hE]
 have hcC:(Wm C :: bm).contains #[20]=true:=by simp
 have T1:=T.keeps (h' := (h.push oT).push oE) keep
 unfold isInstance
 repeat (first|with_reducible refine WJ aho ?_|(with_reducible refine WE hC1 ?_;rw[hcC])|wp_step)
 show wpAny _ _ (typeLookup #[20] _) _ _ _
 refine wpAny_typeLookup_tail hC1 hn1 T1 Fn.mroIs Fn.init.lookup ?_
 rw[hi]
 refine WB (qd ?_)
 unfold bindSpecial
 refine qd (Wk (T := "function") ⟨_,keep _ _ hfI,hfc⟩ ?_)
 rw[if_pos #[7]]
 refine WS (qd (WL (hq _ (h.objs.size+1) h.objs.size aho (zj (JU _)) (JU _) keep) (fun r s' hr=>?_) fun _ _ x=>x))
 obtain⟨rfl,hQ⟩:=hr
 wp_walk
 exact hQ
end
section
theorem N5{rest:List Value}(X:K.In s.heap)(hx:An K C f=true)(hf:isFn K #[64]=true)(hq:∀ h' e tp,h'.get? e=some (fP C none #[.ref tp,.none,.none,.none,.bool false,.none])->s.heap.get? e=none->s.heap.objs.size<=e->(∀ b o,s.heap.get? b=some o->h'.get? b=some o) ->
   wpAny #[9] (A.under (.builtin "type.__call__" ⟨.ref C :: rest,[]⟩)) (call #[64] (.ref e :: rest)) (fun r s'=>r=.none/\Q (.ref e) s') E { s with heap:=h' })(W2:rest.length<=sizeLine):
  wpAny #[9] A (call #[20] rest) Q E s:=by
 obtain⟨tl,N,nm,qn,bs,hd,sn,sub,ab,col,dd,k0,k1,k2,k3,k5,mN,hC,hN,hi,T⟩:=HY X hx
 obtain⟨oI,hfI,hfc⟩:∃ oI,s.heap.get? f=some oI/\oI.cls=.type "function" := by
  have q:(K.lookup f).map (·.cls)=some (.type "function"):=beq_iff_eq.mp hf
  obtain⟨o,ho,e⟩:=zX.mp q
  exact⟨o,X _ _ ho,e⟩
 obtain⟨hp,g,d,t,os⟩:=s
 have f1:=tc_lookup
 have f2:=tc_bind #[20]
 have hT:(⟨hp,g,d,t,os⟩:Ql).TypeIs #[20] "type" := ⟨_,hC,rfl⟩
 refine qf (codeAny_of_tree ?_)
 show wpAny _ _ (callAny #[20] _) _ _ _
 repeat (any_goals (first|assumption|with_reducible refine WJ hC ?_|wp_step))
 exists rfl
 refine codeAny_call_builtin_at (Code.quiet_builtin _ #[3]) entry_typeCall (wpAny_check_type_call_sub hC (Dd T hC hN hi hfI hfc (fun h' e tp a1 a2 a3 a4=>?_) W2))
 exact hq h' e tp a1 a2 a3 a4
abbrev Pa(tp:QQ):Array Value := #[.ref tp,.none,.none,.none,.bool false,.none]
theorem Fj(X:K.In s.heap)(hxc:An K C f=true)(hx:s.heap.get? x=some (fP C none (Pa tp)))(h:∀ h' tp',h'.get? x=some (fP C none (Pa tp'))->(∀ b o,b≠x->s.heap.get? b=some o->h'.get? b=some o)->Q .none { s with heap:=h' }):
  wpAny #[9] A (call (.builtin "ValueError.__init__") [.ref x,u]) Q E s:=by
 obtain⟨tl,N,nm,qn,bs,hd,sn,sub,ab,col,dd,k0,k1,k2,k3,k5,mN,hC,hN,hi,T⟩:=HY X hxc
 have Fn:=YU
 obtain⟨hp,g,d,t,os⟩:=s
 refine qf (Qw Fn.init.plain Fn.initEntry (wpAny_check_init_subU Fn T hC hx rfl ?_))
 unfold Builtin.«BaseException.__init__»
 dsimp only
 rw[if_neg #[7]]
 refine qd (wpAny_newTuple ?_)
 have Ox:(hp.push (seqObj "tuple" [u].toArray 0)).get? x=some (fP C none (Pa tp)):=jC _ hx
 refine qd (m:=BaseException.bexcPut #[89] 0 _) ?_
 unfold BaseException.bexcPut
 refine qd (qy Ox rfl (x:=.ref tp) rfl ?_)
 refine qd (We Ox rfl #[21] ?_)
 refine wpAny_letGo (WS ?_)
 have hd1:=Obj.data_mapFields (o:=fP C none (Pa tp)) rfl (·.setIfInBounds 0 (Wm hp.objs.size))
 refine h _ hp.objs.size (JD _ Ox (Obj.isFreed_of_fields hd1)) fun b o hb q=>?_
 exact(jt _ _ (Ne.symm hb)).trans (jC _ q)
end
end L2
namespace L2
open PySem PySem.Spec PyProof.Rows
variable{X:Cx}{fd:QY}{ps:List Qm}{sp:Sp}{es:List Expr}{pos':Pos}
def oa(x C:QQ)(h:Heap):Prop := ∃ tp,h.get? x=some (fP C none (Pa tp))
def iJ(x C d:QQ)(h:Heap):Prop := ∃ tp,h.get? x=some (fP C (some d) (Pa tp))
structure Cw(K:Wl)(C f:QQ):Prop where
 ex:An K C f=true
 fn:Yg K #[64]=true
 kp:Wu K #[20]=true
 sa:Ws K #[20] "__setattr__" = some (some (.builtin "object.__setattr__"))
 hd:Yd K C=true
 mr:∃ as,mroIs K C as=true
 xc:Al K C
section
variable{f C B:QQ}{x y fl:Qm}{p pos apos:Pos}{e o value:Expr}{t:TA}{ta tv:TE}
inductive MP (K:Wl) (Q:VK) (vs:List V) (H1:Hp):Prop
 | mk (x C f:QQ) (v:V) (_:vs=[.ref x,v]) (_:H1 x=some (.ext (oa x C))) (_:An K C f=true) (_:Q .non H1)
def Tb(K:Wl)(t:TA):TE:=fun σ H Q=>t σ H (MP K Q)
theorem L9(hg:Gl X y)(hm:X.mg y=some (.ref B))(hga:Ye X.K (.ref B) "__getattribute__" = some (some (.builtin "type.__getattribute__")))(hrd:yY X.K B #[95]=true)(hfc:yZ X.K (.ref B) #[95] "__init__" = some (.val (.builtin "ValueError.__init__")))(ha:PA X (e :: es) t){pl:Qk Bool}(ht:eval (.Call (.Attribute (.Name y p) "__init__" apos) (e :: es) [] pos) X.env=(do
   let ov <- eval (.Name y p) X.env
   standAt apos.atName
   let (f,first) <- holding [ov] (getMethod ov "__init__" pl)
   callWith pos f first (backTo pos (qM (e :: es) X.env)) (backToKw pos #[76])):=by rfl)(tI:(y==("__debug__" : Qm))=false:=by decide)(he:qM (e :: es) X.env=#[16] :: qM es X.env:=by rfl)(rC:#[22].any (·.1)=false:=by rfl):
  PE X (.Call (.Attribute (.Name y p) "__init__" apos) (e :: es) [] pos) (Tb X.K t):=by
 exists 4
 refine Yt (pl:=pl) (iV I hg hm ?_ tI) ht
 refine PySem.W.method_cls I.pF hga (PySem.W.cls_value I.pF hrd hfc rfl ?_)
 refine Yv (cD (ha pos pins _ σ H _ (I.tok _) h) fun us s1 ⟨vs,H1,I1,r,ea,C,f,v,ev,hx,hxc,q⟩=>?_) he rC
 subst ev
 obtain⟨u1,u2,rfl,r1,r2⟩:=vals2 r
 cases r1
 obtain⟨⟨tp,z⟩,_,_⟩:=(show bN X.prog X.w H1 s1.heap ea (.ext (oa ea C))from I1.hok ea _ hx)
 refine Fj I1.pF hxc z fun h' tp' z' keep=>?_
 have I2:Inv X pins σ (upd H1 ea (.ext (oa ea C))) { s1 with heap:=h' }:=I1.write (x:=ea) (e:=ea) (t' := s1.toks) (by rw[hx];exact trivial) #[81] keep ⟨_,z'⟩
  (show oa ea C h'/\(∃ o,h'.get? ea=some o)/\∀ h1 h2:Heap,oa ea C h1->(∀ o,h1.get? ea=some o->h2.get? ea=some o)->oa ea C h2 from⟨⟨tp',z'⟩,⟨_,z'⟩,fun h1 h2 ⟨tp,z⟩ kk=>⟨tp,kk _ z⟩⟩)
 have eH:upd H1 ea (.ext (oa ea C))=H1:=by
  funext b
  by_cases c:b=ea
  ·rw[c,ae,hx]
  ·rw[aj c]
 rw[eH]at I2
 exact⟨.non,H1,I2,rfl,q⟩
def aio(K:Wl)(ta tv:TE)(fl:Qm):TS:=fun D σ H=>tv σ H fun y H1=>ta σ H1 fun v H2=>∃ x C f:QQ,v=.ref x/\H2 x=some (.ext (oa x C))/\Cw K C f/\Ws K #[20] fl=some none /\
 ∀ d,H2 d=none->d≠x->D.nx σ (upd (upd H2 x (.ext (iJ x C d))) d (.xd [(fl,y)]))
theorem acG(ha:PE X o ta)(hv:PE X value tv)(hs:qO value (some (.Attribute o fl pos')) pos.line X.env=pure false:=by rfl):PS X (.Assign [.Attribute o fl pos'] value pos) (aio X.K ta tv fl):=by
 exists 9
 refine qJ (cD (hv pins s σ H _ I h) fun u s1 ⟨yv,H1,I1,ry,q⟩=>cD (ha pins s1 σ H1 _ I1 q) fun ov s2 ⟨xv,H2,I2,rx,ea,C,f,ex,hx,M,na,q2⟩=>?_) hs
 subst ex
 obtain rfl:ov=Wm ea:=rx
 obtain⟨⟨tp,z⟩,_,_⟩:=(show bN X.prog X.w H2 s2.heap ea (.ext (oa ea C))from I2.hok ea _ hx)
 obtain⟨as,mr⟩:=M.mr
 refine acO I2.pF z M.sa mr M.xc.ob na M.hd fun h' d Ft hn hle keep=>?_
 have hd0:H2 d=none:=I2.hok.fresh hle
 have hdx:d≠ea:=fun c=>by rw[c,hx]at hd0;cases hd0
 have ak8:iP X.prog X.w (upd H2 ea (.ext (iJ ea C d))) h' := I2.hok.write (x:=ea) (e:=ea) (by rw[hx];exact trivial) #[81] keep ⟨_,Ft⟩
  (show iJ ea C d h'/\(∃ o,h'.get? ea=some o)/\∀ h1 h2:Heap,iJ ea C d h1->(∀ o,h1.get? ea=some o->h2.get? ea=some o)->iJ ea C d h2 from⟨⟨tp,Ft⟩,⟨_,Ft⟩,fun h1 h2 ⟨tp,z⟩ kk=>⟨tp,kk _ z⟩⟩)
 have z1:(upd H2 ea (.ext (iJ ea C d))) d=none:=by rw[aj hdx];exact hd0
 have ak9:iP X.prog X.w (upd (upd H2 ea (.ext (iJ ea C d))) d (.xd [(fl,yv)])) h' := by
  intro a uo qa
  by_cases c:a=d
  ·subst c
   rw[ae]at qa
   cases qa
   refine⟨_,hn,fun g=>?_⟩
   show pD ([(fl,yv)].lookup g) (if g=fl then some u else none)
   by_cases cg:g=fl
   ·subst cg
    rw[if_pos rfl]
    simp[JT]
    exact ry
   ·rw[if_neg cg]
    have:(g==fl)=false:=beq_eq_false_iff_ne.mpr cg
    simp[JT,this]
    exact trivial
  ·rw[aj c]at qa
   exact(ak8 a uo qa).Az (fun b v _ f=>f) (fun b f=>by rw[aj (aq f z1)];exact f) fun b xs f=>by rw[aj (aq f z1)];exact f
 have u1:Un X.fs [] H2 (upd H2 ea (.ext (iJ ea C d))) s2.heap h' := Un.write (by rw[hx];exact trivial) #[81] keep ⟨_,Ft⟩
 have u2:Un X.fs [] H2 (upd (upd H2 ea (.ext (iJ ea C d))) d (.xd [(fl,yv)])) s2.heap h' := u1.more (zj hle) hd0
 exact⟨σ,_,I2.un (t' := s2.toks+2) u2 ak9,q2 d hd0 hdx⟩
end
structure adQ(P:Qj)(w:World)(K:Wl)(mg:Qm->Option Value)(base:Heap)(x:Qm)(C f:QQ)(k:Nat)(ps:List Qm)(sp:Sp):Prop where
 m:mg x=some #[20]
 M:Cw K C f
 F:∃ fd,Binds K fd ps []/\bc P w K mg base eB k f fd ps sp
end L2
set_option maxHeartbeats 4000000
namespace L2
open PySem PySem.Spec PyProof.Rows
variable{A:Around}{E:Value→Ql→Prop}{s:Ql}{base h:Heap}{env:QX}{outer l:List QX}{L a C f:QQ}{e:Expr}{a0 head cls cd:Value}{Q:Unit→Ql→Prop}{oe:Obj}{vs:Array Value}{hn hdct ab:Bool}{d:Option QQ}{H:Hp}{N sn ps:List Qm}{sub ds:List Value}{P:Qj}{w:World}{K:Wl}{mg:Qm→Option Value}{qual x:Qm}{scope:Scope}{X:Cx}{fd:QY}{sp:Sp}{fz:List V}{p pos:Pos}{es:List Expr}
structure wW(h base:Heap)(e:QQ)(cls a0 fl:Value)(d:Option QQ):Prop where
 ex:∃ (oe:Obj) (vs:Array Value) (T:QQ) (oT:Obj) (ts:Array Value),h.get? e=some oe/\oe.cls=cls/\oe.dict=d/\oe.data=.fields vs/\vs[0]?=some a0/\vs[1]?=some (.ref T)/\base.get? T=none/\T≠e/\h.get? T=some oT/\oT.data=.fields ts/\ts[3]?=some fl
theorem Lc(g:Array Value->Array Value)(o:Obj):(Obj.mapFields g o).dict=o.dict:=by
 unfold Obj.mapFields
 split<;>rfl
section
variable{M:Model}{e:QQ}
theorem TY(MT:A.frames=some (env :: outer))(fr:s.heap.FunFrames base (env :: outer))(hf:env.frame=some L)(xe:s.heap.get? e=some oe)(st:base.StaysIn s.heap)(ne:base.get? e=none)(xd:oe.data=.fields vs)(two:1<vs.size)(x0:vs[0]?=some a0)(hQ:∀ h',base.StaysIn h'->h'.FunFrames base (env :: outer)->wW h' base e oe.cls a0 .none oe.dict->s.heap.UpToSlots h'->Q () { s with heap:=h' }):
  wpAny M A (do let fv <- frameOf env;let place <- entryPlaceOf L hn;let tb <- EntryCells.newEntry head fv .none (rawInt L) .none place;setField (.ref e) 1 tb) (fun _ s'=>wpAny M A (setFlight (.ref e) none) Q E s') E s:=by
 have eNo:e∉(env :: outer).filterMap (·.frame):=fun z=>by
  obtain⟨_,o,q,nf⟩:=fr.mem z
  rw[xe]at q
  cases q
  exact nf vs xd
 refine qd (qz MT fr hf fun g1 only=>?_)
 refine qd (qv fun place okp=>?_)
 unfold EntryCells.newEntry newFields
 refine qd (WN ?_ (okp.sizeOk5 _ _ _ _ _))
 generalize etb:({ cls:=.type "traceback",dict:=none,data:=.fields ([head,.ref L,.none,rawInt L,.none]++(if place.isEmpty then JG 6 Wt else place)).toArray }:Obj)=tb
 have tbd:tb.data=.fields ([head,.ref L,.none,rawInt L,.none]++(if place.isEmpty then JG 6 Wt else place)).toArray:=by rw[<- etb]
 have tbf:tb.isFreed=false:=by rw[<- etb];rfl
 have q1:g1.get? e=some oe:=(only.2.1 e eNo).trans xe
 have Tv:base.StaysIn g1:=fun b o z=>(only.2.1 b fun y=>by rw[(fr.mem y).1]at z;cases z).trans (st b o z)
 have q2:(g1.push tb).get? e=some oe:=jC tb q1
 refine We q2 xd two ?_
 have apart:g1.objs.size≠e:=Jt (jJ q1)
 have d3:=Obj.data_mapFields xd #[24]
 have q3:=JD (Obj.mapFields #[24]) q2 (Obj.isFreed_of_fields d3)
 have qT:((g1.push tb).update e (Obj.mapFields #[24])).get? g1.objs.size=some tb:=by
  rw[jt _ _ (Ne.symm apart)]
  exact jL g1 tbf
 unfold setFlight
 refine qd (qy q3 d3 (x:=.ref g1.objs.size) (by simp[two]) ?_)
 rw[if_pos (show(Wm g1.objs.size != Wt)=true by simp)]
 have three:3<([head,.ref L,.none,rawInt L,.none]++(if place.isEmpty then JG 6 Wt else place)).toArray.size:=by simp only[jP,jG,jT,JR];omega
 obtain⟨g3,eg3⟩:∃ g3,((g1.push tb).update e (Obj.mapFields #[24])).update g1.objs.size (Obj.mapFields (·.setIfInBounds 3 ((none:Option QQ).elim Wt fun f=>rawInt f)))=g3:=⟨_,rfl⟩
 have rest:∀ b o,b≠e->g1.get? b=some o->g3.get? b=some o:=fun b o be z=>by
  have bT:g1.objs.size≠b:=Jt (jJ z)
  rw[<- eg3,jt _ _ bT,jt _ _ (Ne.symm be)]
  exact jC _ z
 have plain:∀ b o,s.heap.get? b=some o->(∀ ws,o.data≠.fields ws)->b≠e:=fun b o z nf y=>by
  rw[y,xe]at z
  cases z
  exact nf vs xd
 refine We qT tbd three ?_
 dsimp only
 rw[eg3]
 refine hQ g3 ?_ ?_ ?_ ?_
 ·exact fun b o z=>rest b o (fun y=>by rw[y,ne]at z;cases z) (Tv b o z)
 ·refine fr.of_keeps fun b o z nf=>?_
  obtain⟨sl,y⟩:=only.2.2 b o z
  exact⟨_,rest b _ (plain b o z nf) y,rfl⟩
 ·have fe:g3.get? e=some (Obj.mapFields #[24] oe):=by
   rw[<- eg3,jt _ _ apart]
   exact q3
  have dT:=Obj.data_mapFields tbd (·.setIfInBounds 3 ((none:Option QQ).elim Wt fun f=>rawInt f))
  have fT:g3.get? g1.objs.size=some (Obj.mapFields (·.setIfInBounds 3 ((none:Option QQ).elim Wt fun f=>rawInt f)) tb):=by
   rw[<- eg3]
   exact JD _ qT (Obj.isFreed_of_fields dT)
  refine⟨_,_,g1.objs.size,_,_,fe,Obj.cls_mapFields _ _,Lc _ _,d3,by rw[zh #[7]];exact x0,by simp[two],Tv.fresh,apart,fT,dT,?_⟩
  rw[zF three]
  rfl
 ·intro b o z nf
  obtain⟨sl,y⟩:=only.2.2 b o z
  exact⟨sl,rest b _ (plain b o z nf) y⟩
theorem Fv(MT:A.frames=some (env :: outer))(fr:s.heap.FunFrames base (env :: outer))(hf:env.frame=some L)(xe:s.heap.get? e=some oe)(st:base.StaysIn s.heap)(ne:base.get? e=none)(xd:oe.data=.fields vs)(x1:vs[1]?=some .none)(x0:vs[0]?=some a0)(hQ:∀ h',base.StaysIn h'->h'.FunFrames base outer->wW h' base e oe.cls a0 .none oe.dict->s.heap.UpToSlots h'->Q () { s with heap:=h' }):wpAny M A (leaving env (.ref e)) Q E s:=by
 unfold leaving noteFrame
 simp only[hf]
 refine qd (qd (qy xe xd x1 ?_))
 rw[if_neg #[7]]
 exact TY MT fr hf xe st ne xd (JN.mp x1).1 x0 fun h' k1 ⟨_,_,k2⟩ k3 k4=>hQ h' k1 k2 k3 k4
theorem Ii(MT:A.frames=some (env :: outer))(fr:s.heap.FunFrames base (env :: outer))(hf:env.frame=some L)(w:wW s.heap base e cls a0 .none d)(st:base.StaysIn s.heap)(ne:base.get? e=none)(hQ:∀ h',base.StaysIn h'->h'.FunFrames base outer->wW h' base e cls a0 .none d->s.heap.UpToSlots h'->Q () { s with heap:=h' }):wpAny M A (leaving env (.ref e)) Q E s:=by
 obtain⟨oe,vs,T,oT,ts,x1,rfl,rfl,x4,x5,x6,x7,x8,x9,Py,x11⟩:=w.ex
 unfold leaving noteFrame
 simp only[hf]
 refine qd (qd (qy x1 x4 x6 ?_))
 rw[if_pos (show(Wm T != Wt)=true by simp)]
 refine qd (qy x9 Py x11 ?_)
 rw[if_neg (show ¬ ((Wt==rawInt L)=true) by simp[rawInt])]
 refine qd (We x9 Py (JN.mp x11).1 ?_)
 have oth:∀ b,b≠T->(s.heap.update T (Obj.mapFields (·.setIfInBounds 3 Wt))).get? b=s.heap.get? b:=fun b y=>jt _ _ (Ne.symm y)
 have pl:∀ b o,s.heap.get? b=some o->(∀ ws,o.data≠.fields ws)->b≠T:=fun b o z nf y=>by
  rw[y,x9]at z
  cases z
  exact nf ts Py
 refine TY MT (fr.of_keeps fun b o z nf=>⟨o,(oth b (pl b o z nf)).trans z,rfl⟩) hf ((oth e (Ne.symm x8)).trans x1) (fun b o z=>(oth b fun y=>by rw[y,x7]at z;cases z).trans (st b o z)) ne x4 (JN.mp x6).1 x5
  fun h' k1 ⟨_,_,k2⟩ k3 k4=>hQ h' k1 k2 k3 fun b o z nf=>k4 b o ((oth b (pl b o z nf)).trans z) nf
end
def but(H:Hp)(a:QQ):Hp:=fun b=>if b=a then none else H b
theorem DS:but H a a=none:=if_pos rfl
theorem oo{b:QQ}(h:b≠a):but H a b=H b:=if_neg h
def PB(P:Qj)(w:World):IW:=fun outer H s E e s'=>∃ (ea t C d:QQ) (B:Heap) (H':Hp),e=.ref ea/\s'.os=s.os/\QR s'.gens/\Un (Ao outer) [] H H' s.heap s'.heap/\iP P w H' B /\
 (B.StaysIn s'.heap/\B.get? ea=none/\s'.heap.FunFrames B outer/\wW s'.heap B ea #[20] (.ref t) .none (some d))/\(∀ b o,s.heap.get? b=some o->b∉Ao outer->∃ o',B.get? b=some o')/\H' ea=none/\E #[20] (some d) H'
theorem acK{M:Model}{nm q:Qm}{N:QQ}{bs bm:List Value}{col:Option Bool}{dd:Option QQ}{k0 k1 k2 k3 k5:Option Value}{newId:String}{x:Qk Value}{Q:Flow->Ql->Prop}(Lq:bm.contains #[60]=true)(hh:A.handled=none)(h:wpAny M A x (fun v s₁=>∃ e t d,v=.ref e/\s₁.heap.get? C=some (excClassObj nm q C N bs bm hdct sn sub ab col dd k0 k1 k2 k3 k5 newId)/\s₁.heap.get? e=some (fP C d (Pa t))/\E (.ref e) s₁) E s):
  wpAny M A (raiseStmt env (some x) none) Q E s:=by
 have inB:(Wm C :: bm).contains #[60]=true:=by rw[List.contains_cons,Lq,Bool.or_true]
 unfold raiseStmt
 refine qd (WL h (fun v s₁ h₁=>?_) fun _ _ y=>y)
 obtain⟨e,t,d,rfl,qC,qe,hE⟩:=h₁
 obtain⟨hp,g,dr,tk,os⟩:=s₁
 repeat (first|with_reducible refine WJ qe ?_|with_reducible refine WJ qC ?_|(with_reducible refine WE qC ?_;rw[inB])|wp_step)
 exact wpAny_raiseNew_none hh hE
def ad2(X:Cx)(E:XK):Prop := ∀ (pins:List #[41]) (σ:St) (H:Hp) (s:Ql) (ea C d:QQ),Inv X pins σ H s->H ea=some (.ext (iJ ea C d))->X.s₀.heap.get? ea=none->E #[20] (some d) (but H ea)->X.xe #[108] s
theorem iP.but{T:Heap->Prop}(x:iP P w H h)(e:H a=some (.ext T)):iP P w (L2.but H a) h:=fun b u q=>by
 have hb:b≠a:=fun z=>by rw[z,DS]at q;cases q
 rw[oo hb]at q
 refine(x b u q).Az (fun _ _ _ y=>y) (fun c y=>?_) fun c xs y=>?_<;>rw[oo]<;>first|exact y|(intro z;rw[z,e]at y;cases y)
theorem Un.but{fs:List QQ}{H1:Hp}{h1:Heap}{T:Heap->Prop}(u:Un fs [] H H1 h h1)(e:H1 a=some (.ext T)):Un fs [] H (L2.but H1 a) h h1 where
 keep:=u.keep
 slot:=u.slot
 free:=fun b o q n hx=>by
  by_cases z:b=a
  ·rw[z];exact DS
  ·rw[oo z];exact u.free b o q n hx
 there:=u.there
 tups:=fun b xs q=>by
  have y:=u.tups b xs q
  rw[oo fun z=>by rw[z,e]at y;cases y]
  exact y
 frzs:=fun b o v q=>by
  have y:=u.frzs b o v q
  rw[oo fun z=>by rw[z,e]at y;cases y]
  exact y
 tbls:=fun b ps q=>by
  obtain⟨more,y⟩:=u.tbls b ps q
  exact⟨more,by rw[oo fun z=>by rw[z,e]at y;cases y];exact y⟩
section
variable{E:XK}
theorem aa6:ad2 (bP (PB P w) P w K mg base N qual scope f cd A outer s H E) E:=by
 intro pins σ H1 s1 ea C d I Sb hold hE
 have hold:s.heap.get? ea=none:=hold
 obtain⟨⟨tp,z⟩,_,_⟩:=(show bN P w H1 s1.heap ea (.ext (iJ ea C d))from I.hok ea _ Sb)
 show wpAny (model P w) (A.deeper #[14]) (leaving #[14] #[108]) _ _ _
 have rO:∀ env∈(envOfC qual scope s.heap.objs.size f cd :: outer),∀ b,env.frame=some b->b∈ea :: Ao (envOfC qual scope s.heap.objs.size f cd :: outer):=fun env he b hb=>jI _ (zL.mpr ⟨env,he,hb⟩)
 have fst:=I.stack
 have mem:∀ {b},b∈Ao (envOfC qual scope s.heap.objs.size f cd :: outer)->∃ o,s1.heap.get? b=some o/\∀ vs,o.data≠.fields vs:=fun {b} hb=>(fst.mem hb).2
 have old:∀ b o,s.heap.get? b=some o->b≠ea:=fun b o q y=>by rw[y,hold]at q;cases q
 refine Fv (base:=yV s1.heap (ea :: Ao (envOfC qual scope s.heap.objs.size f cd :: outer))) I.ok.frames (yb fst rO) rfl z (fun b o q=>yF _ q) (Yu _ jD) rfl rfl rfl fun h'' k1 k2 k3 k4=>?_
 refine⟨ea,tp,C,d,_,L2.but H1 ea,rfl,I.os,I.bare,?_,?_,⟨k1,Yu _ jD,k2,k3⟩,fun b o q hb=>?_,DS,hE⟩
 ·refine Un.fly (h1:=s1.heap) (I.base.but Sb) k1 (fun b o o1 q q1 hb=>YE _ q1 fun y=>?_) fun b o hb q=>?_
  ·rcases jY.mp y with y|y
   ·exact old b o q y
   ·rcases(mE b).mp y with e|e
    ·exact JP _ (e ▸ jJ q)
    ·exact hb e
  ·obtain⟨o',e',hd⟩:=mem ((mE (qual:=qual) (scope:=scope) (s:=s) (f:=f) (cd:=cd) b).mpr (.inr hb))
   rw[q]at e'
   cases e'
   exact k4 b o q hd
 ·exact(iP.but I.hok Sb).less fun b u ⟨o,e⟩ q=>YE _ q fun y=>by
   rcases jY.mp y with y|y
   ·rw[y,DS]at e;cases e
   ·have n:=I.Dz b y
    have n':L2.but H1 ea b=none:=by
     by_cases yy:b=ea
     ·rw[yy];exact DS
     ·rw[oo yy];exact n
    rw[e]at n'
    cases n'
 ·obtain⟨o',e'⟩:=I.base.there b o q #[2]
  exact⟨o',YE _ e' fun y=>by
   rcases jY.mp y with y|y
   ·exact old b o q y
   ·rcases(mE b).mp y with e|e
    ·exact JP _ (e ▸ jJ q)
    ·exact hb e⟩
theorem SQ:Passes (PB P w) (bP (PB P w) P w K mg base N qual scope f cd A outer s H E) E:=by
 intro pins σ H1 s1 e s' I hc
 obtain⟨ea,t,C,d,B,H',rfl,os,bare,un,hok,⟨f1,f2,f3,f4⟩,there,hn,hE⟩:=hc
 have Ov:iP P w H' s'.heap:=hok.kept fun b u q=>f1 b u q
 have J:Inv (bP (PB P w) P w K mg base N qual scope f cd A outer s H E) pins σ H' s' := I.AQ (ch:=[]) os un Ov bare #[84]
 have fst:=J.stack
 have mem:∀ {b},b∈Ao (envOfC qual scope s.heap.objs.size f cd :: outer)->∃ o,s'.heap.get? b=some o/\∀ vs,o.data≠.fields vs:=fun {b} hb=>(fst.mem hb).2
 show wpAny (model P w) (A.deeper #[14]) (leaving #[14] #[108]) _ _ _
 have aa5:∀ b o,s.heap.get? b=some o->b∉Ao outer->∃ o',B.get? b=some o' := fun b o q hb=>by
  obtain⟨o1,e1⟩:=I.base.there b o q #[2]
  exact there b o1 e1 fun z=>by
   rcases(mE b).mp z with e|e
   ·exact JP _ (e ▸ jJ q)
   ·exact hb e
 refine Ii I.ok.frames f3 rfl f4 f1 f2 fun h'' k1 k2 k3 k4=>?_
 refine⟨ea,t,C,d,B,H',rfl,J.os,J.bare,?_,hok,⟨k1,f2,k2,k3⟩,aa5,hn,hE⟩
 refine Un.fly (h1:=s'.heap) J.base k1 (fun b o o1 q q1 hb=>?_) fun b o hb q=>?_
 ·obtain⟨o',e'⟩:=aa5 b o q hb
  have y:=f1 b o' e'
  rw[q1]at y
  cases y
  exact e'
 ·obtain⟨o',e',hd⟩:=mem ((mE (qual:=qual) (scope:=scope) (s:=s) (f:=f) (cd:=cd) b).mpr (.inr hb))
  rw[q]at e'
  cases e'
  exact k4 b o q hd
end
section
variable{k:Nat}{y fl:Qm}{dJ:Pos}{t:TA}{E:XK}
structure Td(C:QQ)(sp:Sp)(fz:List V)(E:XK)(vs:List V)(H1:Hp):Prop where
 h0:vs.length<=8
 h1:∀ x,H1 x=none->sp (.ref x :: (vs++fz)) (upd H1 x (.ext (oa x C))) (fun v H2=>v=.non/\∃ d,H2 x=some (.ext (iJ x C d))/\E #[20] (some d) (L2.but H2 x)) E0
def RD(C:QQ)(sp:Sp)(fz:List V)(E:XK)(t:TA):TS:=fun _ σ H=>t σ H (Td C sp fz E)
theorem SX(M:Cw X.K C f)(F:bc X.prog X.w X.K X.mg X.base eB k f fd ps sp)(hr:dD (k+1) X.A)(hc:X.calm=true)(hm:X.mg x=some #[20])(hb:Binds X.K fd ps ds)(hd:Vals fz ds)(ht:ad2 X E)(ha:PA X (e :: es) t)(hex:X.ex=[]:=by rfl)(hg:Gl X x:=by rfl)(tI:#[15]=false:=by decide)(he:qM (e :: es) X.env=#[16] :: qM es X.env:=by rfl)(rC:(backTo dJ (qM es X.env)).any (·.1)=false:=by rfl):
  PS X (.Raise (some (.Call (.Name x p) (e :: es) [] dJ)) none pos) (RD C sp fz E t):=by
 exists 9
 obtain⟨tl,N,nm,qn,bs,hdd,sn,sub,ab,col,dd,k0,k1,k2,k3,k5,mN,hC,hN,hni,T⟩:=HY I.ok.mod.kin M.ex
 show wpAny _ X.A (do standAt pos;raiseStmt X.env (some (do let v <- eval (.Call (.Name x p) (e :: es) [] dJ) X.env;standAt pos;pure v)) none) _ _ s
 refine qd (Wg (acK (C:=C) (nm:=nm) (q:=qn) (N:=N) (bs:=bs) (bm:=tl) (hdct:=hdd) (sn:=sn) (sub:=sub) (ab:=ab) (col:=col) (dd:=dd) (k0:=k0) (k1:=k1) (k2:=k2) (k3:=k3) (k5:=k5) (newId := "ValueError.__new__") (T.hasType #[7]) #[85] (qd ?_)))
 refine qS (iV I hg hm ?_ tI)
 refine YG (h₀:=X.base) I.ok.mod.kin M.kp (cD (ha dJ pins s σ H _ I h) fun us s1 ⟨vs,H1,I1,r,l8,q⟩=>⟨I1.pF,?_⟩) he rC
 refine N5 I1.pF M.ex M.fn (fun h' ea tp a1 a2 a3 a4=>?_) (by show us.length<=sizeLine;rw[<- r.length];exact jf l8 #[7])
 have hq:=q ea (I1.hok.fresh a3)
 have I2:Inv X pins σ (upd H1 ea (.ext (oa ea C))) { s1 with heap:=h' }:=I1.laid (o:=.ext (oa ea C)) (t' := s1.toks) a4 a3
  (show oa ea C h'/\(∃ o,h'.get? ea=some o)/\∀ h1 h2:Heap,oa ea C h1->(∀ o,h1.get? ea=some o->h2.get? ea=some o)->oa ea C h2 from⟨⟨tp,a1⟩,⟨_,a1⟩,fun h1 h2 ⟨tp,z⟩ kk=>⟨tp,kk _ z⟩⟩)
 have r2:Vals (V.ref ea :: (vs++fz)) (Wm ea :: (us++ds)):=.cons rfl (r.append hd)
 have hl:(Wm ea :: us++ds).length=ps.length:=by
  have z:=r2.length
  rw[F.len _ _ _ _ hq]at z
  exact z.symm
 have aed:X.s₀.heap.get? ea=none:=by
  cases z:X.s₀.heap.get? ea with
  | none=>rfl
  | some o =>
   obtain⟨o',z'⟩:=I1.base.there ea o z (by rw[hex];intro y;cases y)
   rw[a2]at z'
   cases z'
 refine qf (qA (F.run _ X.stack _ _ ⟨Wm ea :: us,[]⟩ (Wm ea :: (us++ds)) _ _ E0 (hr.make C us []) (I2.R3.make C us []) (hb _ (Wm ea :: us) I2.pF hl) r2 hq) fun r s' Ow=>?_)
 cases r with
 | error e=>exact Ow.elim
 | ok fl =>
  cases fl with
  | ret u =>
   obtain⟨v,H',I3,rv,ev,d,hx,hE⟩:=I2.after Ow
   subst ev
   refine⟨rv,qd (Wg (WS ?_))⟩
   obtain⟨⟨tp',z⟩,_,_⟩:=(show bN X.prog X.w H' s'.heap ea (.ext (iJ ea C d))from I3.hok ea _ hx)
   exact⟨ea,tp',some d,rfl,I3.bk _ _ hC,z,ht pins σ H' s' ea C d I3 hx aed hE⟩
  | next=>exact False.elim Ow
  | brk=>exact False.elim Ow
  | cont=>exact False.elim Ow
end
structure pO(P:Qj)(w:World)(K:Wl)(mg:Qm->Option Value)(base:Heap)(x:Qm)(k:Nat)(ps:List Qm)(fz:List V)(sp:Sp):Prop where
 ex:∃ (f:QQ) (fd:QY) (ds:List Value),mg x=some #[64]/\Wu K #[64]=true/\Vals fz ds/\Binds K fd ps ds/\bc P w K mg base (PB P w) k f fd ps sp
section
variable{j k:Nat}{t:TA}{E:XK}
theorem aeZ(G:pO X.prog X.w X.K X.mg X.base x k ps fz sp)(hr:dD j X.A)(hx:Passes (PB X.prog X.w) X E)(ha:PA X (e :: es) t)(Fq:k<=j:=by decide)(hg:Gl X x:=by rfl)(tI:#[15]=false:=by decide)(he:qM (e :: es) X.env=#[16] :: qM es X.env:=by rfl)(rC:#[22].any (·.1)=false:=by rfl):
  PE X #[18] (Hu sp fz E t):=by
 obtain⟨f,fd,ds,hm,hk,hd,hb,F⟩:=G.ex
 exact Iq F (hr.mono Fq) hg hm hk hb hd hx ha tI he rC
end
section
variable{M:Model}{e:QQ}
theorem aea(MT:A.frames=some (env :: outer))(fr:s.heap.FunFrames base (env :: outer))(hf:env.frame=some L)(xe:s.heap.get? e=some oe)(st:base.StaysIn s.heap)(ne:base.get? e=none)(xd:oe.data=.fields vs)(two:1<vs.size)(x0:vs[0]?=some a0)(hQ:∀ h',base.StaysIn h'->h'.FunFrames base (env :: outer)->wW h' base e oe.cls a0 (rawInt L) oe.dict->s.heap.UpToSlots h'->Q () { s with heap:=h' }):
  wpAny M A (do let fv <- frameOf env;let place <- entryPlaceOf L hn;let tb <- EntryCells.newEntry head fv .none (rawInt L) .none place;setField (.ref e) 1 tb) Q E s:=by
 have eNo:e∉(env :: outer).filterMap (·.frame):=fun z=>by
  obtain⟨_,o,q,nf⟩:=fr.mem z
  rw[xe]at q
  cases q
  exact nf vs xd
 refine qd (qz MT fr hf fun g1 only=>?_)
 refine qd (qv fun place okp=>?_)
 unfold EntryCells.newEntry newFields
 refine qd (WN ?_ (okp.sizeOk5 _ _ _ _ _))
 generalize etb:({ cls:=.type "traceback",dict:=none,data:=.fields ([head,.ref L,.none,rawInt L,.none]++(if place.isEmpty then JG 6 Wt else place)).toArray }:Obj)=tb
 have tbd:tb.data=.fields ([head,.ref L,.none,rawInt L,.none]++(if place.isEmpty then JG 6 Wt else place)).toArray:=by rw[<- etb]
 have tbf:tb.isFreed=false:=by rw[<- etb];rfl
 have q1:g1.get? e=some oe:=(only.2.1 e eNo).trans xe
 have Tv:base.StaysIn g1:=fun b o z=>(only.2.1 b fun y=>by rw[(fr.mem y).1]at z;cases z).trans (st b o z)
 have q2:(g1.push tb).get? e=some oe:=jC tb q1
 have apart:g1.objs.size≠e:=Jt (jJ q1)
 have d3:=Obj.data_mapFields xd #[24]
 have q3:=JD (Obj.mapFields #[24]) q2 (Obj.isFreed_of_fields d3)
 have qT:((g1.push tb).update e (Obj.mapFields #[24])).get? g1.objs.size=some tb:=by
  rw[jt _ _ (Ne.symm apart)]
  exact jL g1 tbf
 obtain⟨g3,eg3⟩:∃ g3,(g1.push tb).update e (Obj.mapFields #[24])=g3:=⟨_,rfl⟩
 have rest:∀ b o,b≠e->g1.get? b=some o->g3.get? b=some o:=fun b o be z=>by
  rw[<- eg3,jt _ _ (Ne.symm be)]
  exact jC _ z
 have plain:∀ b o,s.heap.get? b=some o->(∀ ws,o.data≠.fields ws)->b≠e:=fun b o z nf y=>by
  rw[y,xe]at z
  cases z
  exact nf vs xd
 refine We q2 xd two ?_
 dsimp only
 rw[eg3]
 refine hQ g3 ?_ ?_ ?_ ?_
 ·exact fun b o z=>rest b o (fun y=>by rw[y,ne]at z;cases z) (Tv b o z)
 ·refine fr.of_keeps fun b o z nf=>?_
  obtain⟨sl,y⟩:=only.2.2 b o z
  exact⟨_,rest b _ (plain b o z nf) y,rfl⟩
 ·have fe:g3.get? e=some (Obj.mapFields #[24] oe):=by
   rw[<- eg3]
   exact q3
  have fT:g3.get? g1.objs.size=some tb:=by
   rw[<- eg3]
   exact qT
  refine⟨_,_,g1.objs.size,_,_,fe,Obj.cls_mapFields _ _,Lc _ _,d3,by rw[zh #[7]];exact x0,by simp[two],Tv.fresh,apart,fT,tbd,?_⟩
  simp
 ·intro b o z nf
  obtain⟨sl,y⟩:=only.2.2 b o z
  exact⟨sl,rest b _ (plain b o z nf) y⟩
theorem aeS(MT:A.frames=some (env :: outer))(fr:s.heap.FunFrames base (env :: outer))(hf:env.frame=some L)(w:wW s.heap base e cls a0 .none d)(st:base.StaysIn s.heap)(ne:base.get? e=none)(hQ:∀ h',base.StaysIn h'->h'.FunFrames base (env :: outer)->wW h' base e cls a0 (rawInt L) d->s.heap.UpToSlots h'->Q () { s with heap:=h' }):wpAny M A (noteFrame (.ref e) env) Q E s:=by
 obtain⟨oe,vs,T,oT,ts,x1,rfl,rfl,x4,x5,x6,x7,x8,x9,Py,x11⟩:=w.ex
 unfold noteFrame
 simp only[hf]
 refine qd (qy x1 x4 x6 ?_)
 rw[if_pos (show(Wm T != Wt)=true by simp)]
 refine qd (qy x9 Py x11 ?_)
 rw[if_neg (show ¬ ((Wt==rawInt L)=true) by simp[rawInt])]
 refine qd (We x9 Py (JN.mp x11).1 ?_)
 have oth:∀ b,b≠T->(s.heap.update T (Obj.mapFields (·.setIfInBounds 3 Wt))).get? b=s.heap.get? b:=fun b y=>jt _ _ (Ne.symm y)
 have pl:∀ b o,s.heap.get? b=some o->(∀ ws,o.data≠.fields ws)->b≠T:=fun b o z nf y=>by
  rw[y,x9]at z
  cases z
  exact nf ts Py
 refine aea MT (fr.of_keeps fun b o z nf=>⟨o,(oth b (pl b o z nf)).trans z,rfl⟩) hf ((oth e (Ne.symm x8)).trans x1) (fun b o z=>(oth b fun y=>by rw[y,x7]at z;cases z).trans (st b o z)) ne x4 (JN.mp x6).1 x5
  fun h' k1 k2 k3 k4=>hQ h' k1 k2 k3 fun b o z nf=>k4 b o ((oth b (pl b o z nf)).trans z) nf
theorem X1{fl:Value}(st:base.StaysIn s.heap)(fr:s.heap.FunFrames base l)(w:wW s.heap base e cls a0 fl d)(hQ:∀ h',base.StaysIn h'->h'.FunFrames base l->wW h' base e cls a0 .none d->s.heap.UpToSlots h'->Q () { s with heap:=h' }):wpAny M A (setFlight (.ref e) none) Q E s:=by
 obtain⟨oe,vs,T,oT,ts,x1,x2,x3,x4,x5,x6,x7,x8,x9,Py,x11⟩:=w.ex
 have three:3<ts.size:=(JN.mp x11).1
 have oth:∀ b,b≠T->(s.heap.update T (Obj.mapFields (·.setIfInBounds 3 ((none:Option QQ).elim Wt fun f=>rawInt f)))).get? b=s.heap.get? b:=fun b y=>jt _ _ (Ne.symm y)
 have pl:∀ b o,s.heap.get? b=some o->(∀ ws,o.data≠.fields ws)->b≠T:=fun b o z nf y=>by
  rw[y,x9]at z
  cases z
  exact nf ts Py
 unfold setFlight
 refine qd (qy x1 x4 x6 ?_)
 rw[if_pos (show(Wm T != Wt)=true by simp)]
 have dT:=Obj.data_mapFields Py (·.setIfInBounds 3 ((none:Option QQ).elim Wt fun f=>rawInt f))
 refine We x9 Py three (hQ _ (fun b o z=>(oth b fun y=>by rw[y,x7]at z;cases z).trans (st b o z)) (fr.of_keeps fun b o z nf=>⟨o,(oth b (pl b o z nf)).trans z,rfl⟩) ?_ fun b o z nf=>⟨o.slots,(oth b (pl b o z nf)).trans z⟩)
 refine⟨oe,vs,T,_,_,(oth e (Ne.symm x8)).trans x1,x2,x3,x4,x5,x6,x7,x8,JD _ x9 (Obj.isFreed_of_fields dT),dT,?_⟩
 rw[zF three]
 rfl
end
open AutoSeq1 (wpAny_loadPart')
variable{prog:Qj}{w:World}{A:Around}{E Q:Value→Ql→Prop}{s:Ql}{it l:QQ}{i:Nat}{items:Array Value}{x:Value}
section
theorem Bp{t:QQ}(hit:s.heap.IsTupleIter it t i)(ht:s.heap.IsTuple t items)(hx:items[i]?=some x)(hQ:∀ h',h'.IsTupleIter it t (i+1)->Yf it s.heap h'->Q x { s with heap:=h' }):wpAny #[9] A (YY #[100]) Q E s:=by
 obtain⟨o,ho,hc,hd⟩:=id hit
 obtain⟨ol,hol,_,nl,hdl⟩:=ht
 unfold YY
 refine qd (qg (name:=Str.ofString "__next__") hit.typeIs YV
  (qh YV hit.typeIs yG ?_ (yC _)))
 show wpAny _ _ (field #[100] 0>>=_) _ _ s
 refine qd (qy ho hd (x:=.ref t) rfl ?_)
 show wpAny _ _ (if (Wm t==Wt)=true then _ else _) _ _ s
 rw[if_neg (show ¬ ((Wm t==Wt)=true)from jV)]
 show wpAny _ _ (field #[100] 1>>=_) _ _ s
 refine qd (qy ho hd (x:=.int i 0) rfl ?_)
 show wpAny _ _ (seqItems? (.ref t)>>=_) _ _ s
 refine qd (Wc hol hdl ?_)
 simp only[jA,hx]
 refine qd (We ho hd #[21] (WS ⟨x,rfl,WS (hQ _ ?_ (Yj ..))⟩))
 exact⟨_,JD _ ho (Obj.isFreed_of_fields (Obj.data_mapFields hd _)),(Obj.cls_mapFields ..).trans hc,by
  rw[Obj.data_mapFields hd];simp[rawInt]⟩
theorem rf{t:QQ}(hh:A.handled=none)(hit:s.heap.IsTupleIter it t i)(ht:s.heap.IsTuple t items)(hx:items[i]?=none)(hE:∀ h' e,ya it s.heap h'->(∃ o,h'.get? e=some o/\o.cls=.type "StopIteration")->E (.ref e) { s with heap:=h' }):wpAny #[9] A (YY #[100]) Q E s:=by
 obtain⟨o,ho,hc,hd⟩:=id hit
 obtain⟨ol,hol,_,nl,hdl⟩:=ht
 unfold YY
 refine qd (qg (name:=Str.ofString "__next__") hit.typeIs YV
  (qh YV hit.typeIs yG ?_ (yC _)))
 show wpAny _ _ (field #[100] 0>>=_) _ _ s
 refine qd (qy ho hd (x:=.ref t) rfl ?_)
 show wpAny _ _ (if (Wm t==Wt)=true then _ else _) _ _ s
 rw[if_neg (show ¬ ((Wm t==Wt)=true)from jV)]
 show wpAny _ _ (field #[100] 1>>=_) _ _ s
 refine qd (qy ho hd (x:=.int i 0) rfl ?_)
 show wpAny _ _ (seqItems? (.ref t)>>=_) _ _ s
 refine qd (Wc hol hdl ?_)
 simp only[jA,hx]
 refine qd (Wb (qd (We ho hd #[21] ?_)))
 show wpAny _ _ (newExc (.type "StopIteration") []>>=_) _ _ _
 refine qd ?_
 simp only[newExc,newTuple]
 refine qd (WN ?_ (by size_fits))
 refine qd (m:=firstArgMember _ _) (WQ (a:=Wt) (by first|rfl|(simp only[firstArgMember];rfl)) ?_)
 refine WN ?_ (by size_fits)
 simp only[raiseNew]
 refine qd (wpAny_handled ?_)
 first|rw[show A.in1.handled=none from hh]|rw[hh]
 refine qd (WS (wpAny_throw ?_))
 exact hE _ _ (((Yj ..).extBut.push _).push _) ⟨_,jL _ rfl,rfl⟩
end
theorem Oe(hh:A.handled=none)(it t:QQ)(hne:t≠it)(items:Array Value):
  Draws prog w A it [it,t] items.size (fun i v=>items[i]?=some v) (fun i h=>h.IsTupleIter it t i/\h.IsTuple t items) where
 live:=fun _ _ st=>let ⟨o,ho,_⟩:=st.1;⟨o,ho⟩
 frame:=fun _ _ _ st hk=>⟨st.1.at fun o e=>hk it #[21] o e,st.2.at fun o e=>hk t #[21] o e⟩
 item:=fun i s Q E hi st hQ=>by
  refine Bp st.1 st.2 (x:=items[i]) (by simp[hi]) fun h' akZ hs'=>?_
  exact hQ _ h' s.toks (by simp[hi]) ⟨akZ,st.2.at fun o e=>(hs'.2 t hne).trans e⟩ hs'
 done:=fun s Q E st hE=>rf hh st.1 st.2 #[21] hE
theorem tP(l:QQ)(items:Array Value)(n:Nat)(dct:Option QQ)(sl:Array (Option Value)):
  Meets (Builtin.«enumerate.__new__» ⟨[.type "enumerate",.ref l],[]⟩) (fun _ R s=>s.heap.get? l=some { cls:=.type "tuple",dict:=dct,data:=.seq items n,slots:=sl } /\
   R (.ok (.ret (.ref (s.heap.push { cls:=.type "tuple_iterator",data:=.fields #[.ref l,.int 0 0] }).objs.size)))
    { s with heap:=(s.heap.push { cls:=.type "tuple_iterator",data:=.fields #[.ref l,.int 0 0] }).push { cls:=.type "enumerate",data:=.fields #[.none,.bool false,.ref s.heap.objs.size,rawInt 0,.none,.none] } }):=
 .of_wp fun prog w A R s h=>by
  obtain⟨hp,g,d,tk,os⟩:=s;obtain⟨hl,h⟩:=h
  have ap8:=sub_enumerate
  have hL:Heap.IsTuple (Shared.heap ⟨hp,g,d,tk,os⟩) l items:=⟨_,hl,rfl,n,rfl⟩
  wp_walk using wpAny_loadPart' hl
  refine wpAny_stack_any fun st=>WS ?_
  split
  ·rename_i c _ _ _ _ _
   cases(c==YK "enumerate")
   ·wp_walk using wpAny_loadPart' hl,WX hL
    exact⟨_,rfl,h⟩
   ·wp_walk using wpAny_loadPart' hl,WX hL
    exact⟨_,rfl,h⟩
  ·wp_walk using wpAny_loadPart' hl,WX hL
   exact⟨_,rfl,h⟩
theorem tD(hL:s.heap.IsTuple l items)(h:∀ h',IsEnum h' #[23] s.heap.objs.size 0 .none->h'.IsTupleIter s.heap.objs.size l 0->h'.objs.size=s.heap.objs.size+2 ->
   (∀ b o,s.heap.get? b=some o->h'.get? b=some o)->Q (.ref #[23]) { s with heap:=h' }):
  wpAny #[9] A (call (.type "enumerate") [.ref l]) Q E s:=by
 obtain⟨⟨c,dct,dt,sl⟩,hl,hc,n,hd⟩:=hL
 replace hc:c=.type "tuple" := hc
 replace hd:dt=.seq items n:=hd
 subst hc hd
 refine callType_new F.called_enumerate #[7] (F.typeCall_enumerate_1 _) (F.newCall_enumerate_1 _) (fun obj=>F.args_object_init_2 obj _) F.entry_enumerate_new
  (tP l items n dct sl) ⟨hl,?_⟩
 have hz:(s.heap.push { cls:=.type "tuple_iterator",data:=.fields #[.ref l,.int 0 0] }).objs.size=s.heap.objs.size+1:=Jj ..
 show _/\_
 rw[hz]
 have he:IsEnum ((s.heap.push { cls:=.type "tuple_iterator",data:=.fields #[.ref l,.int 0 0] }).push
   { cls:=.type "enumerate",data:=.fields #[.none,.bool false,.ref s.heap.objs.size,rawInt 0,.none,.none] }) #[23] s.heap.objs.size 0 .none:=by
  have:=jL (s.heap.push { cls:=.type "tuple_iterator",data:=.fields #[.ref l,.int 0 0] })
   (o:={ cls:=.type "enumerate",data:=.fields #[.none,.bool false,.ref s.heap.objs.size,rawInt 0,.none,.none] }) rfl
  rw[hz]at this;exact this
 refine⟨⟨_,he,rfl⟩,h _ he ⟨_,jC _ (jL _ rfl),rfl,rfl⟩ (by rw[Jj,hz]) fun b o x=>jC _ (jC _ x)⟩
variable{X:Cx}{pins:List (QQ×Obj)}{σ B:St}{H:Hp}{s:Ql}{h':Heap}{t' n j:Nat}{e l:Expr}{P prog:Qj}{w:World}{K:Wl}{elts es:List Expr}{pos Tf p:Pos}{tl ta:TA}{a C:QQ}{xs:List V}{tb:TS}{D:Ends}{acc:Array Value}{x m:Qm}{ps:List Qm}{sp:Sp}{A:Around}{E:Value→Ql→Prop}{ix:List (Option Nat)}{te:TE}{Qd:QQ→Hp→Prop}{v:Value}
section
theorem Inv.RF{t':Nat}{e it:QQ}(I:Inv X pins σ H s)(k:∀ b o,b≠e->b≠it->s.heap.get? b=some o->h'.get? b=some o)(fe:Af X pins H e)(fi:Af X pins H it):Inv X pins σ H { s with heap:=h',toks:=t' }:=by
 have nn:∀ b u,H b=some u->b≠e/\b≠it:=fun b u q=>⟨fun z=>(by rw[z,fe.1]at q;cases q),fun z=>(by rw[z,fi.1]at q;cases q)⟩
 have kk:∀ b o,b∉[e,it]->s.heap.get? b=some o->h'.get? b=some o:=fun b o hc q=>k b o (fun z=>hc (by simp[z])) (fun z=>hc (by simp[z])) q
 refine I.step (g' := s.gens) (d' := s.drawn) (ch:=[e,it]) (fun b hb=>?_) (fun b o _ _ hc q _=>kk b o hc q) (fun b o _ _ hc q _=>⟨o.slots,kk b o hc q⟩) (fun _ _ _ _ n=>n)
  (fun b o hc q=>⟨o,kk b o hc q⟩) (fun _ _ q=>q) (fun _ _ _ q=>q) (fun b ps q=>⟨#[],by rw[q];simp⟩) (fun m hm=>?_) (fun b u q=>?_) I.bare
 ·have q:b=e\/b=it:=by simpa using hb
  rcases q with rfl|rfl
  ·exact⟨fe.2.2.2.1,fe.2.1,fe.2.2.2.2.1,fe.2.2.2.2.2⟩
  ·exact⟨fi.2.2.2.1,fi.2.1,fi.2.2.2.2.1,fi.2.2.2.2.2⟩
 ·obtain⟨o,es,ep,ho,r⟩:=hm
  exact⟨o,es,ep,k _ o (Ne.symm fe.2.1) (Ne.symm fi.2.1) ho,r⟩
 ·refine(I.hok b u q).Az (fun c v hc z=>k c v ?_ ?_ z) (fun _ z=>z) fun _ _ z=>z
  ·rcases hc with z|z
   ·rw[z];exact(nn b u q).1
   ·exact(nn c _ z).1
  ·rcases hc with z|z
   ·rw[z];exact(nn b u q).2
   ·exact(nn c _ z).2
end
def Ite(K:Wl)(a:QQ):It:=
 ⟨fun i H=>∃ xs x,sQ K H a xs/\xs[i]?=some x,fun i H v H'=>∃ T x,v=.ref T/\H T=none/\H'=upd H T #[61]/\∀ xs,sQ K H a xs->xs[i]?=some x,fun i H=>∃ xs,sQ K H a xs/\xs.length<=i⟩
theorem Pq{x1:_}(a e it:QQ):Turn P w K (.Tuple elts x1 pos) (Ite K a) [e,it] e (fun i h=>(∃ old,IsEnum h e it i old)/\h.IsTupleIter it a i) where
 mem:=by simp
 obj:=fun i h st b hb=>by
  have q:b=e\/b=it:=by simpa using hb
  rcases q with rfl|rfl
  ·obtain⟨⟨old,st⟩,_⟩:=st
   exact⟨_,st,fun v z=>by
    have z':Data.fields _=Data.cell v:=z
    cases z'⟩
  ·obtain⟨_,o,e,c,d⟩:=st
   exists 8
 keep:=fun i h h' st k=>⟨let ⟨old,z⟩:=st.1;⟨old,k e #[21] _ z⟩,st.2.at fun o z=>k it #[21] o z⟩
 item:=by
  exists 2
  exists 17
  obtain⟨xs,x,hq,hx⟩:=hg
  obtain⟨bz,rv,p,hz⟩:=I.tuple hq
  obtain⟨u,hu,ru⟩:=rv.get hx
  obtain⟨⟨old,he⟩,hit⟩:=st
  have p':s.heap.IsTuple a bz.toArray:=p
  have fe:=hf e #[21]
  have fi:=hf it #[21]
  have ne:e≠it:=fun z=>by
   subst z
   obtain⟨o,e1,c,d⟩:=hit
   rw[he]at e1
   cases e1
   have c':YK "enumerate" = YK "tuple_iterator" := c
   injection c' with c'
   exact absurd c' #[7]
  have nae:a≠e:=fun z=>by
   subst z
   obtain⟨o,e1,c,d⟩:=p'
   rw[he]at e1
   cases e1
   have c':YK "enumerate" = YK "tuple" := c
   injection c' with c'
   exact absurd c' #[7]
  have nai:a≠it:=fun z=>by
   subst z
   obtain⟨o,e1,c,d⟩:=p'
   obtain⟨o2,e2,c2,d2⟩:=hit
   rw[e1]at e2
   cases e2
   rw[c]at c2
   injection c2 with c'
   exact absurd c' #[7]
  have hi:i<bz.toArray.size:=by
   have:i<bz.length:=(jc.mp hu).1
   simpa using this
  have D:=Oe (prog:=X.prog) (w:=X.w) (A:=X.A.in1) (show X.A.in1.handled=none from I.ok.hd hc) it a nai bz.toArray
  refine WY D he ⟨hit,p'⟩ hi ne (by simp[ne,Ne.symm nae]) fun y h1 tk hy ho Tv hT hsz hk=>?_
  have ey:y=u:=by
   have:bz.toArray[i]?=some u:=by simpa using hu
   rw[this]at hy
   exact(Option.some.inj hy).symm
  subst ey
  refine⟨_,rfl,WH ho fun h2 he2 hs2=>?_⟩
  have fr:H s.heap.objs.size=none:=I.hok.fresh (jE _)
  have I1:Inv X pins σ (upd H s.heap.objs.size #[61]) { s with heap:=s.heap.push { cls:=.type "tuple",data:=.seq #[.int i tk,y] },toks:=tk+1 }:=
   I.laid (o:=.tup [.int i,x]) (fun b ob q=>jC _ q) (jE _) ⟨by show 2<=sizeLine;decide,[.int i tk,y],.cons ⟨tk,rfl⟩ (.cons ru .nil),⟨_,jL _ rfl,rfl,_,rfl⟩⟩
  have lt:∀ b∈[e,it],b<s.heap.objs.size:=fun b hb=>by
   have q:b=e\/b=it:=by simpa using hb
   rcases q with rfl|rfl
   ·exact jJ he
   ·obtain⟨o,e1,_⟩:=hit
    exact jJ e1
  have f2:∀ b∈[e,it],Af X pins (upd H s.heap.objs.size #[61]) b:=fun b hb=>by
   refine⟨?_,(hf b hb).2⟩
   rw[aj (jR (lt b hb))]
   exact(hf b hb).1
  have I2:Inv X pins σ (upd H s.heap.objs.size #[61]) { s with heap:=h2,toks:=tk+1 }:=by
   refine I1.RF (t' := tk+1) (h' := h2) (fun b o b1 b2 q=>?_) (f2 e #[21]) (f2 it #[21])
   refine(hs2.2 b b1).trans ?_
   rcases zq (show(s.heap.push { cls:=.type "tuple",data:=.seq #[.int i tk,y] }).get? b=some o from q)with⟨rfl,rfl⟩|z
   ·exact hT
   ·exact hk b o b1 b2 z
  refine⟨.ref s.heap.objs.size,_,I2,rfl,⟨s.heap.objs.size,x,rfl,fr,rfl,fun ys hy=>by rw[I.Hv hy hq];exact hx⟩,⟨⟨y,?_⟩,?_⟩,fun b hb=>(f2 b hb).1⟩
  ·have:((i+1:Nat):Int)=(i:Int)+1:=by push_cast;rfl
   rw[this]
   exact he2
  ·exact Tv.1.at fun o z=>(hs2.2 it (Ne.symm ne)).trans z
 done:=by
  exists 2
  exists 17
  obtain⟨xs,hq,hx⟩:=hg
  obtain⟨bz,rv,p,hz⟩:=I.tuple hq
  obtain⟨⟨old,he⟩,hit⟩:=st
  exists 3
  have p':s.heap.IsTuple a bz.toArray:=p
  have hl:=rv.length
  have hT:s.TypeIs (.ref e) "enumerate" := ⟨_,he,rfl⟩
  unfold pyNext
  refine qd (qZ (qg (name:=Str.ofString "__next__") hT Yh
   (qh Yh hT yc ?_ (yT _))))
  show wpAny _ _ (field (.ref e) 2>>=_) _ _ _
  refine qd (qy he rfl (x:=.ref it) rfl ?_)
  refine qd (rf (show X.A.in1.handled=none from I.ok.hd hc) hit p' (by simp;omega) fun h' x he' Ft=>?_)
  obtain⟨o,ho,hcl⟩:=Ft
  refine qd (WC (T := "StopIteration") (b:=true) ⟨o,ho,hcl⟩ qD ?_)
  exact WS ⟨rfl,I.turned (t' := s.toks) (fun b o hb z=>he' b o hb z) f0 f1 f3 f4 f5⟩
 self:=fun _ _ _ _ _ st h=>let ⟨_,z⟩:=st.1;WT z h
section
def aeI(K:Wl)(tl:TA):TI:=fun σ H R=>tl σ H fun vs H1=>∃ a,vs=[.ref a]/\(∃ xs,sQ K H1 a xs)/\R (Ite K a) H1
theorem AO:Qr "enumerate" = some (.type "enumerate"):=by decide +kernel
theorem aap{x1:_}(hg:Gl X "enumerate")(hm:X.mg "enumerate" = none)(hl:PA X [l] tl)(hs:qM [l] X.env=[(false,eval l X.env)]:=by rfl):
  PI X (.Tuple elts x1 Tf) (.Call (.Name "enumerate" p) [l] [] pos) (aeI X.K tl):=by
 exists 14
 refine QU (pH I hg hm AO (Wv (cD (hl pos pins s σ H _ I h) fun us s1 ⟨vs,H1,I1,r1,q1⟩=>?_) hs rfl))
 obtain⟨a,e,⟨xs,hq⟩,q⟩:=q1
 subst e
 cases r1 with
 | cons r rr =>
  cases rr
  cases r
  obtain⟨bz,rv,p,hz⟩:=I1.tuple hq
  refine tD (show s1.heap.IsTuple a bz.toArray from p) fun h' he hit hsz hk=>?_
  refine WT he ?_
  refine⟨s1.heap.objs.size+1,[s1.heap.objs.size+1,s1.heap.objs.size],_,_,H1,rfl,I1.kept (t' := s1.toks) hk,Pq a _ s1.heap.objs.size,⟨⟨_,he⟩,hit⟩,fun b hb=>?_,q⟩
  have e:b=s1.heap.objs.size+1\/b=s1.heap.objs.size:=by simpa using hb
  rcases e with rfl|rfl
  ·exact I1.C6 (JU _) (I1.hok.fresh (JU _))
  ·exact I1.C6 (jE _) (I1.hok.fresh (jE _))
end
theorem R8{g:TG}(Pv:Nat->St->Hp->Prop)(h0:Pv 0 σ H)(hl:∀ i σ H,i<=xs.length->Pv i σ H->sQ K H a xs)(hs:∀ i x σ H T,xs[i]?=some x->Pv i σ H->H T=none->g (.ref T) σ (upd H T #[61]) fun σ2 H2=>tb { D with nx:=Pv (i+1),ct:=Pv (i+1),bk:=D.nx } σ2 H2)(hd:∀ σ H,Pv xs.length σ H->D.nx σ H):
  ∃ W:Nat->Nat->St->Hp->Prop,(∃ m,W 0 m σ H)/\∀ i m σ H,W i m σ H ->
   ((Ite K a).stop i H/\D.nx σ H)\/((Ite K a).go i H/\∃ N:St->Hp->Prop,#[19]/\∀ x H',(Ite K a).yld i H x H'->g x σ H' fun σ2 H2=>tb { D with nx:=N,ct:=N,bk:=D.nx } σ2 H2):=by
 refine⟨fun i m σ H=>m=xs.length-i/\i<=xs.length/\Pv i σ H,⟨xs.length,by simp,je _,h0⟩,?_⟩
 rintro i m σ H ⟨rfl,hi,p⟩
 have q:=hl i σ H hi p
 by_cases fM:i<xs.length
 ·refine .inr ⟨⟨xs,xs[i],q,by simp[fM]⟩,Pv (i+1),fun σ' H' p'=>⟨xs.length-(i+1),by omega,rfl,fM,p'⟩,fun x H' y=>?_⟩
  obtain⟨T,x0,rfl,hT,rfl,y⟩:=y
  exact hs i x0 σ _ T (y xs q) p hT
 ·have e:i=xs.length:=by omega
  subst e
  exact .inl ⟨⟨xs,q,jE _⟩,hd σ H p⟩
theorem OB(h:ItemsOf (fun i v=>∃ t,v=.int (0+(i:Int)*1) t) acc n):Vals ((jd n).map fun i:Nat=>V.int i) acc.toList:=by
 have go:∀ (n:Nat) (us:List Value),us.length=n->(∀ (j:Nat) (v:Value),us[j]?=some v->∃ t,v=YT (0+(j:Int)*1) t)->Vals ((jd n).map fun i:Nat=>V.int i) us:=by
  intro n
  induction n with
  | zero =>
   intro us hl _
   cases us with
   | nil=>exact .nil
   | cons a r=>cases hl
  | succ n ih =>
   intro us hl hv
   have ne:us≠[]:=fun z=>by rw[z]at hl;cases hl
   have e:=ZD ne
   rw[<- e,js,jF]
   have hd:us.dropLast.length=n:=by rw[Za,hl];rfl
   refine(ih us.dropLast hd fun j v hj=>?_).append (.cons ?_ .nil)
   ·refine hv j v ?_
    have lt:=(jc.mp hj).1
    rw[<- e,jr lt]
    exact hj
   ·obtain⟨t,ht⟩:=hv n (us.getLast ne) (by rw[List.getLast_eq_getElem,jB #[0]];simp[hl])
    rw[ht]
    exact⟨t,by rw[JO,Zr]⟩
 exact go n acc.toList (by rw[Jd,h.1]) fun j v hj=>h.2 j v (by rw[<- JX];exact hj)
section
variable{a:Expr}{p2 SU:Pos}
inductive Pm (Q:VK) (vs:List V) (H1:Hp):Prop
 | mk (n:Nat) (_:vs=[.int n]) (_:n<=sizeLine) (_:∀ l,H1 l=none->Q (.ref l) (upd H1 l (.lst ((jd n).map fun i:Nat=>V.int i))))
def aa2(ta:TA):TE:=fun σ H Q=>ta σ H (Pm Q)
theorem O4(hc:X.calm=true)(hgl:Gl X "list")(hml:X.mg "list" = none)(hg:Gl X "range")(hm:X.mg "range" = none)(ha:PA X [a] ta)(hs:qM [a] X.env=[(false,eval a X.env)]:=by rfl)(hs2:qM [.Call (.Name "range" p2) [a] [] SU] X.env=[(false,eval (.Call (.Name "range" p2) [a] [] SU) X.env)]:=by rfl):
  PE X (.Call (.Name "list" p) [.Call (.Name "range" p2) [a] [] SU] [] pos) (aa2 ta):=by
 exists 4
 refine qS (pH I hgl hml Df ?_)
 refine Wv ?_ hs2 rfl
 rw[hs2]
 refine YB ?_
 refine QU (pH I hg hm Qs (Wv (cD (ha SU pins s σ H _ I h) fun us s1 ⟨vs,H1,I1,r1,q1⟩=>?_) hs rfl))
 obtain⟨n,e,hn,q⟩:=q1
 subst e
 cases r1 with
 | cons r rr =>
  cases rr
  obtain⟨t,rfl⟩:=r
  have big:sizeLine<=2^24:=by decide
  have aoM:((sizeLine:Nat):Int)<2^62:=by decide
  have ak5:(n:Int)<2^62:=by omega
  refine call_range_1 ?_
  refine YW ?_
  have sz:(s1.heap.push { cls:=.type "range",data:=.fields #[.int 0 s1.toks,.int n t,.int 1 (s1.toks+1)] }).objs.size=s1.heap.objs.size+1:=Jj _ _
  refine PySem.call_list_range (s:={ s1 with heap:=s1.heap.push { cls:=.type "range",data:=.fields #[.int 0 s1.toks,.int n t,.int 1 (s1.toks+1)] },toks:=s1.toks+1+1 }) (n:=n) (I1.ok.hd hc) (IsRange.new ..) (small_one #[0] #[0] #[0] ak5)
   (by rw[rangeSize_one];split<;>omega) #[0] fun h' tk aj4 c' kp e Ba=>?_
  have Fu:∀ b o,s1.heap.get? b=some o->h'.get? b=some o:=fun b o f=>kp b o (jC _ f)
  have ob:bN X.prog X.w (upd H1 (s1.heap.push { cls:=.type "range",data:=.fields #[.int 0 s1.toks,.int n t,.int 1 (s1.toks+1)] }).objs.size (.lst ((jd n).map fun i:Nat=>V.int i))) h' (s1.heap.push { cls:=.type "range",data:=.fields #[.int 0 s1.toks,.int n t,.int 1 (s1.toks+1)] }).objs.size (.lst ((jd n).map fun i:Nat=>V.int i)):=by
   exists by rw[jX,jg];exact hn,aj4.toList,c',OB Ba
   exact e
  exact⟨.ref _,_,I1.laid (t' := tk) Fu (by rw[sz];exact JU _) ob,rfl,q _ (I1.hok.fresh (by rw[sz];exact JU _))⟩
end
structure PD(P:Qj)(w:World)(K:Wl)(mg:Qm->Option Value)(base:Heap)(x:Qm)(C:QQ)(k:Nat)(ps:List Qm)(sp:Sp):Prop where
 m:mg x=some #[20]
 cl:IX K C
 ex:∃ (f:QQ) (fd:QY),Mk K C f/\Binds K fd ps []/\bc P w K mg base eB k f fd ps sp
theorem aai{k:Nat}{t:TA}(G:PD X.prog X.w X.K X.mg X.base x C k ps sp)(hr:dD j X.A)(ha:PA X (e :: es) t)(Fq:k+1<=j:=by decide)(hg:Gl X x:=by rfl)(tI:#[15]=false:=by decide)(he:qM (e :: es) X.env=#[16] :: qM es X.env:=by rfl)(rC:#[22].any (·.1)=false:=by rfl):PE X #[18] (adJ C sp [] E0 t):=by
 obtain⟨f,fd,M,hb,F⟩:=G.ex
 exact acA M F (hr.mono Fq) hg G.m hb .nil aac ha tI he rC
structure sX(P:Qj)(w:World)(K:Wl)(mg:Qm->Option Value)(base:Heap)(C:QQ)(m:Qm)(k:Nat)(ps:List Qm)(sp:Sp):Prop where
 cl:IX K C
 ex:∃ (f:QQ) (fd:QY),Meth K C m f/\Binds K fd ps []/\bc P w K mg base eB k f fd ps sp
theorem Hl{k:Nat}{apos:Pos}{o:Expr}{ta:TE}{t:TA}{pl:Qk Bool}(G:sX X.prog X.w X.K X.mg X.base C m k ps sp)(hr:dD j X.A)(ho:PE X o ta)(ha:PA X (e :: es) t)(Fq:k<=j:=by decide)(BK:qM (e :: es) X.env=#[16] :: qM es X.env:=by rfl)(rC:#[22].any (·.1)=false:=by rfl)(ht:eval (.Call #[86] (e :: es) [] pos) X.env=(do
   let ov <- eval o X.env
   standAt apos.atName
   let (f,first) <- holding [ov] (getMethod ov m pl)
   callWith pos f first (backTo pos (qM (e :: es) X.env)) (backToKw pos #[76])):=by rfl):
  PE X (.Call #[86] (e :: es) [] pos) (RC C m sp [] E0 ta t):=by
 obtain⟨f,fd,hm,hb,F⟩:=G.ex
 exact acB ho G.cl hm F (hr.mono Fq) hb .nil aac ha BK rC ht
def RM(K:Wl)(a:QQ):It:=
 ⟨fun i H=>∃ xs x,oM K H a xs/\xs[i]?=some x,fun i H v H'=>∃ T x,v=.ref T/\H T=none/\H'=upd H T #[61]/\∀ xs,oM K H a xs->xs[i]?=some x,fun i H=>∃ xs,oM K H a xs/\xs.length<=i⟩
theorem Pp{x1:_}(a e it:QQ):Turn P w K (.Tuple elts x1 pos) (RM K a) [e,it] e (fun i h=>(∃ old,IsEnum h e it i old)/\h.IsListIter it a i) where
 mem:=by simp
 obj:=fun i h st b hb=>by
  have q:b=e\/b=it:=by simpa using hb
  rcases q with rfl|rfl
  ·obtain⟨⟨old,st⟩,_⟩:=st
   exact⟨_,st,fun v z=>by
    have z':Data.fields _=Data.cell v:=z
    cases z'⟩
  ·obtain⟨_,o,e,c,d⟩:=st
   exists 8
 keep:=fun i h h' st k=>⟨let ⟨old,z⟩:=st.1;⟨old,k e #[21] _ z⟩,st.2.at fun o z=>k it #[21] o z⟩
 item:=by
  exists 2
  exists 17
  obtain⟨xs,x,hq,hx⟩:=hg
  obtain⟨bz,rv,p,hz⟩:=I.list hq
  obtain⟨u,hu,ru⟩:=rv.get hx
  obtain⟨⟨old,he⟩,hit⟩:=st
  have p':s.heap.IsList a bz.toArray:=p.isList
  have fe:=hf e #[21]
  have fi:=hf it #[21]
  have ne:e≠it:=fun z=>by
   subst z
   obtain⟨o,e1,c,d⟩:=hit
   rw[he]at e1
   cases e1
   have c':YK "enumerate" = YK "list_iterator" := c
   injection c' with c'
   exact absurd c' #[7]
  have nae:a≠e:=fun z=>by
   subst z
   obtain⟨o,e1,c,d⟩:=p'
   rw[he]at e1
   cases e1
   have c':YK "enumerate" = YK "list" := c
   injection c' with c'
   exact absurd c' #[7]
  have nai:a≠it:=fun z=>by
   subst z
   obtain⟨o,e1,c,d⟩:=p'
   obtain⟨o2,e2,c2,d2⟩:=hit
   rw[e1]at e2
   cases e2
   rw[c]at c2
   injection c2 with c'
   exact absurd c' #[7]
  have hi:i<bz.toArray.size:=by
   have:i<bz.length:=(jc.mp hu).1
   simpa using this
  have D:=Draws.list (prog:=X.prog) (w:=X.w) (A:=X.A.in1) (show X.A.in1.handled=none from I.ok.hd hc) it a nai bz.toArray
  refine WY D he ⟨hit,p'⟩ hi ne (by simp[ne,Ne.symm nae]) fun y h1 tk hy ho Tv hT hsz hk=>?_
  have ey:y=u:=by
   have:bz.toArray[i]?=some u:=by simpa using hu
   rw[this]at hy
   exact(Option.some.inj hy).symm
  subst ey
  refine⟨_,rfl,WH ho fun h2 he2 hs2=>?_⟩
  have fr:H s.heap.objs.size=none:=I.hok.fresh (jE _)
  have I1:Inv X pins σ (upd H s.heap.objs.size #[61]) { s with heap:=s.heap.push { cls:=.type "tuple",data:=.seq #[.int i tk,y] },toks:=tk+1 }:=
   I.laid (o:=.tup [.int i,x]) (fun b ob q=>jC _ q) (jE _) ⟨by show 2<=sizeLine;decide,[.int i tk,y],.cons ⟨tk,rfl⟩ (.cons ru .nil),⟨_,jL _ rfl,rfl,_,rfl⟩⟩
  have lt:∀ b∈[e,it],b<s.heap.objs.size:=fun b hb=>by
   have q:b=e\/b=it:=by simpa using hb
   rcases q with rfl|rfl
   ·exact jJ he
   ·obtain⟨o,e1,_⟩:=hit
    exact jJ e1
  have f2:∀ b∈[e,it],Af X pins (upd H s.heap.objs.size #[61]) b:=fun b hb=>by
   refine⟨?_,(hf b hb).2⟩
   rw[aj (jR (lt b hb))]
   exact(hf b hb).1
  have I2:Inv X pins σ (upd H s.heap.objs.size #[61]) { s with heap:=h2,toks:=tk+1 }:=by
   refine I1.RF (t' := tk+1) (h' := h2) (fun b o b1 b2 q=>?_) (f2 e #[21]) (f2 it #[21])
   refine(hs2.2 b b1).trans ?_
   rcases zq (show(s.heap.push { cls:=.type "tuple",data:=.seq #[.int i tk,y] }).get? b=some o from q)with⟨rfl,rfl⟩|z
   ·exact hT
   ·exact hk b o b1 b2 z
  refine⟨.ref s.heap.objs.size,_,I2,rfl,⟨s.heap.objs.size,x,rfl,fr,rfl,fun ys hy=>by rw[I.Et hy hq];exact hx⟩,⟨⟨y,?_⟩,?_⟩,fun b hb=>(f2 b hb).1⟩
  ·have:((i+1:Nat):Int)=(i:Int)+1:=by push_cast;rfl
   rw[this]
   exact he2
  ·exact Tv.1.at fun o z=>(hs2.2 it (Ne.symm ne)).trans z
 done:=by
  exists 2
  exists 17
  obtain⟨xs,hq,hx⟩:=hg
  obtain⟨bz,rv,p,hz⟩:=I.list hq
  obtain⟨⟨old,he⟩,hit⟩:=st
  exists 3
  have p':s.heap.IsList a bz.toArray:=p.isList
  have hl:=rv.length
  have hT:s.TypeIs (.ref e) "enumerate" := ⟨_,he,rfl⟩
  unfold pyNext
  refine qd (qZ (qg (name:=Str.ofString "__next__") hT Yh
   (qh Yh hT yc ?_ (yT _))))
  show wpAny _ _ (field (.ref e) 2>>=_) _ _ _
  refine qd (qy he rfl (x:=.ref it) rfl ?_)
  refine qd (wpAny_nextOf_list_end (show X.A.in1.handled=none from I.ok.hd hc) hit p' (by simp;omega) fun h' x he' Ft=>?_)
  obtain⟨o,ho,hcl⟩:=Ft
  refine qd (WC (T := "StopIteration") (b:=true) ⟨o,ho,hcl⟩ qD ?_)
  exact WS ⟨rfl,I.turned (t' := s.toks) (fun b o hb z=>he' b o hb z) f0 f1 f3 f4 f5⟩
 self:=fun _ _ _ _ _ st h=>let ⟨_,z⟩:=st.1;WT z h
section
def aeH(K:Wl)(tl:TA):TI:=fun σ H R=>tl σ H fun vs H1=>∃ a,vs=[.ref a]/\(∃ xs,oM K H1 a xs)/\R (RM K a) H1
theorem EI{x1:_}(hg:Gl X "enumerate")(hm:X.mg "enumerate" = none)(hl:PA X [l] tl)(hs:qM [l] X.env=[(false,eval l X.env)]:=by rfl):
  PI X (.Tuple elts x1 Tf) (.Call (.Name "enumerate" p) [l] [] pos) (aeH X.K tl):=by
 exists 14
 refine QU (pH I hg hm AO (Wv (cD (hl pos pins s σ H _ I h) fun us s1 ⟨vs,H1,I1,r1,q1⟩=>?_) hs rfl))
 obtain⟨a,e,⟨xs,hq⟩,q⟩:=q1
 subst e
 cases r1 with
 | cons r rr =>
  cases rr
  cases r
  obtain⟨bz,rv,p,hz⟩:=I1.list hq
  refine call_enumerate_list (show s1.heap.IsList a bz.toArray from p.isList) fun h' he hit hsz hk=>?_
  refine WT he ?_
  refine⟨s1.heap.objs.size+1,[s1.heap.objs.size+1,s1.heap.objs.size],_,_,H1,rfl,I1.kept (t' := s1.toks) hk,Pp a _ s1.heap.objs.size,⟨⟨_,he⟩,hit⟩,fun b hb=>?_,q⟩
  have e:b=s1.heap.objs.size+1\/b=s1.heap.objs.size:=by simpa using hb
  rcases e with rfl|rfl
  ·exact I1.C6 (JU _) (I1.hok.fresh (JU _))
  ·exact I1.C6 (jE _) (I1.hok.fresh (jE _))
end
theorem F5{g:TG}(Pv:Nat->St->Hp->Prop)(h0:Pv 0 σ H)(hl:∀ i σ H,i<=xs.length->Pv i σ H->oM K H a xs)(hs:∀ i x σ H T,xs[i]?=some x->Pv i σ H->H T=none->g (.ref T) σ (upd H T #[61]) fun σ2 H2=>tb { D with nx:=Pv (i+1),ct:=Pv (i+1),bk:=D.nx } σ2 H2)(hd:∀ σ H,Pv xs.length σ H->D.nx σ H):
  ∃ W:Nat->Nat->St->Hp->Prop,(∃ m,W 0 m σ H)/\∀ i m σ H,W i m σ H ->
   ((RM K a).stop i H/\D.nx σ H)\/((RM K a).go i H/\∃ N:St->Hp->Prop,#[19]/\∀ x H',(RM K a).yld i H x H'->g x σ H' fun σ2 H2=>tb { D with nx:=N,ct:=N,bk:=D.nx } σ2 H2):=by
 refine⟨fun i m σ H=>m=xs.length-i/\i<=xs.length/\Pv i σ H,⟨xs.length,by simp,je _,h0⟩,?_⟩
 rintro i m σ H ⟨rfl,hi,p⟩
 have q:=hl i σ H hi p
 by_cases fM:i<xs.length
 ·refine .inr ⟨⟨xs,xs[i],q,by simp[fM]⟩,Pv (i+1),fun σ' H' p'=>⟨xs.length-(i+1),by omega,rfl,fM,p'⟩,fun x H' y=>?_⟩
  obtain⟨T,x0,rfl,hT,rfl,y⟩:=y
  exact hs i x0 σ _ T (y xs q) p hT
 ·have e:i=xs.length:=by omega
  subst e
  exact .inl ⟨⟨xs,q,jE _⟩,hd σ H p⟩
theorem aaJ{t u a b:Option V}:((((B.set 0 t).set 1 u).set 0 a).set 1 b)=(B.set 0 a).set 1 b:=by
 rw[List.set_comm u a (l:=B.set 0 t) (by decide:(1:Nat)≠0),Ju,Ju]
theorem Oa{J:It}{item:Nat->V}{g:TG}(Pv:QQ->Nat->List V->Hp->Prop)(hg:∀ (T:QQ) (σ:St) (H:Hp) (Q:St->Hp->Prop) (i:Int) (x:V),H T=some #[61]->Q ((σ.set 0 (some (.int i))).set 1 (some x)) H->g (.ref T) σ H Q)(h0:∀ D,H D=none->Pv D 0 [] #[83])(Lr:∀ D i ys H',i<n->Pv D i ys H'->J.go i H'/\∀ x H2,J.yld i H' x H2->∃ T,x=.ref T/\H' T=none/\H2=upd H' T (.tup [.int i,item i]))(BK:∀ D ys H',Pv D n ys H'->J.stop n H')(hs:∀ D i ys H' T (Q':VK),H D=none->i<n->H' D=some #[93]->Pv D i ys H'->H' T=none->#[8] ->
   te ((#[73].set 0 (some (.int i))).set 1 (some (item i))) (upd H' T (.tup [.int i,item i])) Q')(hd:∀ D ys H',H D=none->H' D=some #[93]->Pv D n ys H'->Qd D H'):AD J ix g te σ H Qd:=by
 intro D hD
 refine⟨fun i m σ' H'=>m=n-i/\i<=n/\(σ'=bB ix σ\/∃ t u,σ'=(#[73].set 0 t).set 1 u)/\∃ ys,H' D=some #[93]/\Pv D i ys H',⟨n,by simp,je _,.inl rfl,[],ae,h0 D hD⟩,?_⟩
 rintro i m σ' H' ⟨rfl,hi,hσ,ys,hy,p⟩
 by_cases fM:i<n
 ·obtain⟨g1,g2⟩:=Lr D i ys H' fM p
  refine .inr ⟨g1,fun x H2 y=>?_⟩
  obtain⟨T,rfl,hT,rfl⟩:=g2 x H2 y
  refine hg T σ' _ _ i (item i) ae ?_
  have es:((σ'.set 0 (some (V.int i))).set 1 (some (item i)))=(#[73].set 0 (some (V.int i))).set 1 (some (item i)):=by
   rcases hσ with z|⟨t,u,z⟩
   ·rw[z]
   ·rw[z,aaJ]
  show te ((σ'.set 0 (some (V.int i))).set 1 (some (item i))) _ _
  rw[es]
  refine hs D i ys _ T _ hD fM hy p hT fun y H4 h4 hz p4=>⟨ys,h4,hz,n-(i+1),by omega,rfl,fM,.inr ⟨_,_,rfl⟩,ys++[y],ae,p4⟩
 ·have e:i=n:=by omega
  subst e
  exact .inl ⟨BK D ys H' p,hd D ys H' hD hy p⟩
theorem Q4{k:Key}(h:CD k v=true):RelV (kV k) v:=by
 rcases cR h with⟨n,t,rfl,rfl⟩|⟨x,t,rfl,rfl⟩
 ·exact⟨t,rfl⟩
 ·exact⟨t,rfl⟩
section
abbrev AF(v d:QQ):HO:=.ext fun h=>h.IsItemsView v d
inductive ae6 (x:V) (vs:List V) (H:Hp) (Q:VK):Prop
 | mk (d:_) (kvs:_) (_:x=.ref d) (_:vs=[]) (_:H d=some #[53]) (_:∀ v,H v=none->Q (.ref v) (upd H v (AF v d)))
theorem X7:MtM X "dict.items" ae6:=by
 intro pins s σ H x vs v us Q I rx rv h
 obtain⟨d,kvs,rfl,rfl,hd,q⟩:=h
 cases rx
 have hus:=rv.zero
 subst hus
 obtain⟨z,lo,vs,kv,dof⟩:=(show bN X.prog X.w H s.heap d #[53]from I.hok d _ hd)
 refine Qu yU dof.typeIs PySem.F.entry_dict_items (PySem.F.args_dict_items_1 _) (meets_dict_items (bC X.prog X.w) d lo) ⟨⟨vs,dof⟩,?_⟩
 refine⟨.ref _,_,I.laid (o:=AF s.heap.objs.size d) (t' := s.toks) (fun b o e=>jC _ e) (jE _) ?_,rfl,q _ #[68]⟩
 exact⟨⟨_,jL _ rfl,rfl,rfl⟩,⟨_,jL _ rfl⟩,fun h1 h2 ⟨o,ho,x⟩ kp=>⟨o,kp o ho,x⟩⟩
end
section
inductive DT (xs:List V) (H:Hp) (Q:VK):Prop
 | mk (i:_) (j:_) (_:xs=[.int i,.int j]) (_:ada i j) (_:∀ p,H p=none->Q (.ref p) (upd H p (.tup [.int (i / j),.int (i%j)])))
theorem HS:lH X (.builtin "divmod") (DT):=by
 exists 5
 obtain⟨i,j,rfl,⟨h1,h2⟩,q⟩:=h
 obtain⟨u,w',rfl,⟨t,rfl⟩,⟨t',rfl⟩⟩:=vals2 r
 have h3:=DP (Jm h1) h2
 refine divmod_int #[0] ?_ (.inl (yL #[0]))
 rw[zE i #[0],ZI i #[0]]
 have hn:H s.heap.objs.size=none:=I.hok.fresh (jE _)
 refine⟨.ref s.heap.objs.size,_,?_,rfl,q _ hn⟩
 refine I.laid (fun b o e=>jC _ e) (jE _) ⟨by simp only[jT,JR];rw[qL];decide,[.int (i / j) s.toks,.int (i%j) (s.toks+1)],.cons ⟨_,rfl⟩ (.cons ⟨_,rfl⟩ .nil),?_⟩
 exact⟨_,jL s.heap rfl,rfl,0,rfl⟩
end
theorem RT:Qr "divmod" = some (.builtin "divmod"):=by decide +kernel
end L2
namespace PySem
open PyProof.Rows
namespace F
end F
end PySem
namespace L2
open PySem PySem.Spec PyProof.Rows
variable{X:Cx}{o:Expr}{es:List Expr}{pos:Pos}{n:Nat}{m:Qm}{C:QQ}{ps:List Qm}{sp:Sp}{ta:TE}{prog:Qj}{w:World}{A:Around}{s:Ql}{D:Ends}{σ:St}{H:Hp}
section
theorem acE(K:Wl){k:Nat}{t:TGs}(hc:X.calm=true)(h:PGs X es t)(hK:X.K=K:=by rfl)(hn:(Qp es X.env).length=n:=by rfl)(BK:(Qp es X.env).findIdx? (·.1)=none:=by rfl):PG X (.Tuple es k pos) (agU K n t):=by
 subst hK
 exact pK hc h hn BK
theorem O5{j k:Nat}{apos:Pos}{pl:Qk Bool}(G:sX X.prog X.w X.K X.mg X.base C m k ps sp)(hr:dD j X.A)(ho:PE X o ta)(Fq:k<=j:=by decide)(ht:eval (.Call #[86] [] [] pos) X.env=(do
   let ov <- eval o X.env
   standAt apos.atName
   let (f,first) <- holding [ov] (getMethod ov m pl)
   callWith pos f first (backTo pos (qM [] X.env)) (backToKw pos #[76])):=by rfl):
  PE X (.Call #[86] [] [] pos) (RC C m sp [] E0 ta ac1):=by
 obtain⟨f,fd,hm,hb,F⟩:=G.ex
 exact aah ho G.cl hm F (hr.mono Fq) hb .nil aac ht
end
theorem cU{t u:TS}(R:St->Hp->Prop)(h1:∀ σ' H',R σ' H'->u D σ' H')(h2:∀ D':Ends,(∀ σ' H',R σ' H'->D'.nx σ' H')->t D' σ H):Te t u D σ H:=
 h2 { D with nx:=u D } h1
inductive K1 (xs:List V) (H:Hp) (Q:VK):Prop
 | mk (a:_) (kvs:_) (_:xs=[.ref a]) (_:H a=some #[53]) (_:Q (.int kvs.length) H)
theorem wm:lH X (.builtin "len") (K1):=by
 exists 5
 obtain⟨a,kvs,rfl,ha,q⟩:=h
 obtain⟨u,rfl,rx⟩:=vals1 r
 cases rx
 exact agL I (.inl ha) fun t s' I'=>⟨.int kvs.length,H,I',⟨t,rfl⟩,q⟩
theorem Fw(l b:QQ)(items Ek:Array Value)(n n2:Nat)(dc:Option QQ)(sl:Array (Option Value))(h0:¬(!items.isEmpty&&YN (items.size+Ek.size))=true)(h1:items.size<=sizeLine)(h2:items.size+Ek.size<=sizeLine+1):
  Meets (Builtin.«list.extend» ⟨[.ref l,.ref b],[]⟩) (fun _ R s=>s.heap.get? l=some { cls:=.type "list",dict:=none,data:=.seq items n,slots := #[] }/\s.heap.get? b=some { cls:=.type "tuple",dict:=dc,data:=.seq Ek n2,slots:=sl }/\R (.ok (.ret Wt)) { s with heap:=s.heap.update l (Obj.mapSeq (·++Ek)) }):=
 .of_wp fun prog w A R s h=>by
  obtain⟨hp,g,d,tk,os⟩:=s
  obtain⟨hl,hb,h⟩:=h
  have f1:=AutoSeq1.idx_int
  have f2:=AutoSeq1.sub_tuple_tuple
  have f3:=AutoSeq1.sub_list_list
  have f4:=AutoSeq1.sub_tuple_list
  have f5:=AutoSeq1.sub_list_tuple
  have hz':(items++Ek).size<=sizeLine+1:=by rw[Array.size_append];exact h2
  wp_walk using (wpAny_updateSeq hl rfl (hz:=h1) (_hz' := hz')),wpAny_loadPart' hl,wpAny_loadPart' hb
  exact⟨_,rfl,h⟩
section
inductive Mj (x:V) (vs:List V) (H:Hp) (Q:VK):Prop
 | mk (l:_) (b:_) (xs:_) (zs:_) (_:x=.ref l) (_:vs=[.ref b]) (_:H l=some #[109]) (_:H b=some (.tup zs)) (_:xs.length+zs.length<=sizeLine) (_:Q .non (upd H l (.lst (xs++zs))))
theorem OK:MtM X "list.extend" Mj:=by
 intro pins s σ H x vs v us Q I rx rv h
 obtain⟨l,b,xs,zs,rfl,rfl,hH,hB,hz,q⟩:=h
 cases rx
 obtain⟨u,rfl,ru⟩:=rv.one
 cases ru
 obtain⟨z,bz,n,r,hl,e⟩:=I.Ik hH
 obtain⟨Cd,r2,ht,hz2⟩:=I.tuple (sQ.of (K:=X.K) hB)
 have P9:=r2.length
 obtain⟨⟨c,dc,da,sl⟩,e2,c2,n2,d2⟩:=ht
 cases c2
 cases d2
 have hsz:bz.toArray.size+Cd.toArray.size<=sizeLine:=by rw[jP,jP];omega
 have V6:¬ (!bz.toArray.isEmpty&&YN (bz.toArray.size+Cd.toArray.size))=true:=by
  rw[LZ hsz,QD]
  exact jV
 refine Qt XD ⟨_,e,rfl⟩ yr (ym _ _)
  (Fw l b bz.toArray Cd.toArray n n2 dc sl V6 (by rw[jP];omega) #[0]) ⟨e,e2,?_⟩
 refine⟨.non,_,I.acb (its' := bz++Cd) hH e #[21] (r.append r2) ?_,rfl,q⟩
 rw[jG]
 omega
def aaE:V->List V->Hp->VK->Prop:=fun x vs H Q=>Ri x vs H Q\/Mj x vs H Q
theorem OJ:MtM X "list.extend" aaE:=by
 intro pins s σ H x vs v us Q I rx rv h
 rcases h with h|h
 ·exact Hj pins s σ H x vs v us Q I rx rv h
 ·exact OK pins s σ H x vs v us Q I rx rv h
end
end L2
namespace PySem
open PyProof.Rows
variable{prog:Qj}{w:World}{A:Around}{E:Value→Ql→Prop}{s:Ql}{a l:QQ}{xs:Array Value}{sl:Array (Option Value)}{Q:Option Value→Ql→Prop}{K:Type}{R:Result→Ql→Prop}{ts:List QQ}{c:Nat}
theorem El:typeLookup (.type "list") "keys" = pure none:=by rw[typeLookup_type,builtinLookup_eq_fast];kernel_rfl
theorem tK{k:Nat}(hx:s.heap.get? a=some { cls:=.type "list",dict:=none,data:=.seq xs k,slots:=sl })(hA:A.handled=none)(h:∀ h' tk,(∀ b o,s.heap.get? b=some o->h'.get? b=some o)->Q none { s with heap:=h',toks:=tk }):wpAny #[9] A (getAttr? #[50] "keys") Q E s:=by
 obtain⟨hp,g,d,tk,os⟩:=s
 have hT:∀ tk',(⟨hp,g,d,tk',os⟩:Ql).TypeIs #[50] "list" := fun _=>⟨_,hx,rfl⟩
 have f1:=sub_AttributeError
 have f3:=F.slot_list_getattribute.lookup
 have f4:=F.slot_list_getattribute.bind #[50]
 have f5:=am_list_getattr_none
 have ahz:=El
 have ahB:(["__module__","__name__","__qualname__","__doc__","__annotations__"]:List Qm).contains (Str.ofString "keys")=false:=by decide +kernel
 unfold getAttr? getAttrBy? getAttrBy
 repeat (any_goals (first|assumption|exact hT _|((with_reducible show wpAny _ _ (call (Wz "list.__getattribute__") _ _) _ _ _);refine Qt F.slot_list_getattribute (hT _) am_entry_list_getattribute (F.args_list_getattribute_2 _ _) (meets_getattribute_miss_list a xs k sl (Str.ofString "keys") _ ahz ahB #[7]) ⟨hx,hA,fun h' tk' e Ft=>?_⟩)|wp_step))
 obtain⟨t',u',he⟩:=Ft.there
 show wpAny _ _ (getattributeRaised _ _ _ _ _ _ _) _ _ _
 unfold getattributeRaised
 repeat (any_goals (first|assumption|wp_step))
 exact h h' tk' Ft.keeps
section
variable[DecidableEq K]{knd:KeyKind prog w K}
theorem eX:entryFor table "dict.update.loop" = some Builtin.«dict.update.loop» := entryFor_of_tree (by kernel_rfl)
theorem cb:plainId "dict.update.loop" = true:=by decide +kernel
def DJ(knd:KeyKind prog w K)(h:Heap)(ts:List QQ)(ps:List (K×Value)):Prop := ∀ (j:Nat) (t:QQ) (p:K×Value),ts[j]?=some t->ps[j]?=some p->∃ key,knd.is p.1 key=true/\Qc h t #[key,p.2]
theorem MQ{D I:QQ}{ps:List (K×Value)}(W:Walks prog w A.in1 I [I,l] [I] ts.length (fun i v=>#[91].toArray[i]?=some v) (fun i h=>h.IsListIter I l i/\h.IsList l #[91].toArray))(hl:ts.length=ps.length)(hDI:D≠I)(hDl:D≠l)(hDt:∀ t∈ts,t≠D/\t≠I)(hz:ps.length<=sizeLine):
  ∀ (k i:Nat) (s:Ql) (acc:List (K×Value)),ts.length-i=k->i<=ts.length->(s.heap.IsListIter I l i/\s.heap.IsList l #[91].toArray)->s.heap.DictOf knd D acc->acc.length<=i->DJ knd s.heap ts ps ->
  (∀ h' tk,(∀ b o,b≠D->b≠I->s.heap.get? b=some o->h'.get? b=some o)->h'.DictOf knd D (merged acc (ps.drop i))->R (.ok (.ret .none)) { s with heap:=h',toks:=tk }) ->
  codeAny #[9] A (.builtin "dict.update.loop" ⟨[.ref D,.ref I,rawInt (i:Int),.none],[]⟩) R s:=by
 intro k
 induction k with
 | zero =>
  intro i s acc hk hi BK hD Ba hP hR
  have rO:i=ts.length:=by omega
  subst rO
  refine Qv eX ?_
  rw[Around.under_plainId cb _]
  show wpAny _ A.in1 (pyNext (.ref I)>>=_) _ _ s
  refine qd (W.done s _ _ BK fun h' tk hm=>?_)
  show wpAny _ _ (yM D []>>=_) _ _ _
  refine qd (WQ (a:=()) rfl ?_)
  have e:ps.drop ts.length=[]:=by rw[hl,zA]
  refine WS (hR h' tk (fun b o _ hb q=>hm b o (by simpa using hb) q) ?_)
  rw[e]
  exact hD.extBut (b:=I) (fun b o hb q=>hm b o (by simpa using hb) q) hDI
 | succ k ih =>
  intro i s acc hk hi BK hD Ba hP hR
  have fM:i<ts.length:=by omega
  have V7:i<ps.length:=by omega
  refine Qv eX ?_
  rw[Around.under_plainId cb _]
  show wpAny _ A.in1 (pyNext (.ref I)>>=_) _ _ s
  refine qd (W.item i s _ _ fM BK fun v h' tk hv W5 hm=>?_)
  have ev:v=.ref ts[i]:=by
   have:#[91].toArray[i]?=some (.ref ts[i]):=by simp[fM]
   rw[this]at hv
   exact(Option.some.inj hv).symm
  subst ev
  have keep:∀ b o,b≠I->s.heap.get? b=some o->h'.get? b=some o:=fun b o hb q=>hm b o (by simpa using hb) q
  obtain⟨key,V2,ht⟩:=hP i ts[i] ps[i] (jB fM) (jB V7)
  have tn:=hDt ts[i] (jH fM)
  have Tu:Qc h' ts[i] #[key,(ps[i]).2]:=ht.extBut (b:=I) keep tn.2
  have hD':h'.DictOf knd D acc:=hD.extBut (b:=I) keep hDI
  obtain⟨ot,hot,hct,nt,hdt⟩:=id Tu
  try dsimp only
  refine qd (WB ?_)
  refine qd (wpAny_tryCatch ?_)
  unfold yd
  refine qd (Wk (s:={ s with heap:=h',toks:=tk }) Tu.typeIs ?_)
  rw[if_pos #[7]]
  refine qd (Wc (s:={ s with heap:=h',toks:=tk }) hot hdt ?_)
  refine WS ?_
  show wpAny _ _ (holding [key,(ps[i]).2] (dictSet D key (ps[i]).2)) _ _ _
  refine WB (wpAny_dictSet_pairs (knd:=knd) (s:={ s with heap:=h',toks:=tk }) V2 hD' (fun h2 T8 sb2=>?_) #[0])
  have Ab:∀ b o,b≠D->h'.get? b=some o->h2.get? b=some o:=fun b o hb q=>sb2.extBut b o hb q
  refine WS ⟨qI cb _,?_⟩
  have ri:rawInt ((i:Int)+1)=rawInt (((i+1:Nat)):Int):=by push_cast;rfl
  rw[ri]
  refine ih (i+1) { s with heap:=h2,toks:=tk+1 } (stored acc (ps[i]).1 (ps[i]).2) #[0] fM ⟨W5.1.at fun o q=>Ab I o (Ne.symm hDI) q,W5.2.at fun o q=>Ab l o (Ne.symm hDl) q⟩ T8 (by
   have:=stored_length_le acc (ps[i]).1 (ps[i]).2
   omega) (fun j t p h1 Dh=>?_) (fun h3 tk3 IZ C7=>?_)
  ·obtain⟨alu,hk',aeC⟩:=hP j t p h1 Dh
   have tn' := hDt t (Jy h1)
   exact⟨alu,hk',(aeC.extBut (b:=I) keep tn'.2).extBut (b:=D) Ab tn'.1⟩
  ·refine hR h3 tk3 (fun b o hb hb2 q=>IZ b o hb hb2 (Ab b o hb (keep b o hb2 q))) ?_
   rw[jv V7]
   exact C7
theorem C3{ps:List (K×Value)}{Q:Value->Ql->Prop}(hh:A.handled=none)(hL:s.heap.get? l=some { cls:=.type "list",dict:=none,data:=.seq #[91].toArray c,slots := #[] })(hl:ts.length=ps.length)(hP:DJ knd s.heap ts ps)(hz:ps.length<=sizeLine)(hQ:∀ h' tk,(∀ b o,s.heap.get? b=some o->h'.get? b=some o)->h'.DictOf knd s.heap.objs.size (merged [] ps)->Q #[51] { s with heap:=h',toks:=tk }):
  wpAny #[9] A (call (.type "dict") [.ref l]) Q E s:=by
 refine callType_codes (Q₁:=fun obj s₁=>obj=.ref s.heap.objs.size/\s₁={ s with heap:=s.heap.push { cls:=.type "dict",data:=.dict #[] } }) XS (yp _) XM (qE _ ⟨rfl,rfl⟩) ?_
 rintro obj s₁ ⟨rfl,rfl⟩
 have V8:#[25].DictOf knd s.heap.objs.size []:=XY s.heap
 have fM:l<s.heap.objs.size:=jJ hL
 have hL':#[25].get? l=some { cls:=.type "list",dict:=none,data:=.seq #[91].toArray c,slots := #[] }:=jC _ hL
 exists V8.typeIs,XE _ _
 unfold Builtin.«dict.__init__»
 refine qd ?_
 unfold yN
 refine qd (WO V8.typeIs ?_)
 show wpAny _ _ (pure (s.heap.objs.size,[Wm l])) _ _ _
 refine WS ?_
 show wpAny _ _ (Yb "dict.__init__" s.heap.objs.size (.ref l) [] .none) _ _ _
 unfold Yb
 refine qd (Wk (T := "list") ⟨_,hL',rfl⟩ ?_)
 rw[if_pos #[7]]
 refine qd (tK hL' hh fun h1 tk1 Fu=>?_)
 rw[if_pos #[26]]
 refine qd (Wb ?_)
 have U0:=Fu _ _ hL'
 have il1:xO h1 l #[91].toArray:=⟨_,U0,rfl,c,rfl⟩
 refine qd (WU (s:={ s with heap:=h1,toks:=tk1 }) il1 ?_)
 refine WS ⟨qI cb _,?_⟩
 have oI:(h1.push { cls:=.type "list_iterator",data:=.fields #[.ref l,.int 0 0] }).get? h1.objs.size=some { cls:=.type "list_iterator",data:=.fields #[.ref l,.int 0 0] }:=jL _ rfl
 have l1:l<h1.objs.size:=jJ U0
 have d1:s.heap.objs.size<h1.objs.size:=jJ (Fu _ _ (jL s.heap rfl))
 have W:=Walks.list (prog:=prog) (w:=w) (A:=A.in1.in1) hh h1.objs.size l (jR l1) #[91].toArray
 have sz:#[91].toArray.size=ts.length:=by simp
 rw[sz]at W
 have kp2:∀ b o,s.heap.get? b=some o->(h1.push { cls:=.type "list_iterator",data:=.fields #[.ref l,.int 0 0] }).get? b=some o:=fun b o q=>jC _ (Fu _ _ (jC _ q))
 refine MQ (A:=A.in1) (knd:=knd) (D:=s.heap.objs.size) (ps:=ps) W hl (jR d1) (Jt fM) (fun t ht=>?_) hz ts.length 0 { s with heap:=h1.push { cls:=.type "list_iterator",data:=.fields #[.ref l,.int 0 0] },toks:=tk1 } [] rfl (je _) ⟨⟨_,oI,rfl,rfl⟩,il1.at fun o q=>jC _ q⟩ ?_ (je _) (fun j t p a1 a2=>?_) (fun h3 tk3 IZ C7=>?_)
 ·obtain⟨j,hj⟩:=JB.mp ht
  have jl:j<ps.length:=by
   rw[<- hl]
   exact(jc.mp hj).1
  obtain⟨key,_,o,ho,_⟩:=hP j t ps[j] hj (jB jl)
  have tl:=jJ ho
  exact⟨jR tl,jR (zN tl d1)⟩
 ·exact V8.extBut (b:=h1.objs.size) (fun b o _ q=>jC _ (Fu _ _ q)) (jR d1)
 ·obtain⟨key,hk,ht⟩:=hP j t p a1 a2
  exact⟨key,hk,ht.keeps kp2⟩
 ·exact⟨rfl,hQ h3 tk3 (fun b o q=>IZ b o (jR (jJ q)) (jR (zN (jJ q) d1)) (kp2 b o q)) C7⟩
end
end PySem
namespace L2
open PySem PySem.Spec PyProof.Rows
variable{X:Cx}{P:Qj}{w:World}{pins:List (QQ×Obj)}{σ:St}{H:Hp}{s:Ql}{a I:QQ}{z:V}{A:Around}{E Q:Value→Ql→Prop}{kvs:List (Key×V)}{o:Obj}{h:Heap}{K:Wl}{tg l:Expr}{tl:TE}{elts:List Expr}{pos Tf:Pos}{tb:TS}{D:Ends}{R:Result→Ql→Prop}{n:Nat}
section
def lM(H:Hp):List QQ->List (Key×V)->Prop:=Qh fun a p=>H a=some (.tup [kV p.1,p.2])
theorem EA:∀ {kvs:List (Key×V)} {ts:List QQ} {H:Hp} {h:Heap},lM H ts kvs->iP P w H h->∃ ps:List (Key×Value),KV kvs ps/\ps.length=ts.length/\DJ (bC P w) h ts ps
 | [],[],_,_,.nil,_=>⟨[],.nil,rfl,fun j t p h=>by simp at h⟩
 | _,_,_,_,.cons (a:=a) (b:=p) (l₁:=ts) (l₂:=kvs) q t,ok=>by
  obtain⟨ps,r1,r2,r3⟩:=EA t ok
  obtain⟨z,bz,rv,ht⟩:=ok a _ q
  obtain⟨u,v,rfl,ru,rv'⟩:=Vals.two rv
  refine⟨(p.1,v) :: ps,.cons ⟨rfl,rv'⟩ r1,by simp[r2],fun j t' p' h1 h2=>?_⟩
  cases j with
  | zero =>
   simp at h1 h2
   subst h1 h2
   exact⟨u,tJ ru,by simpa using ht⟩
  | succ j=>exact r3 j t' p' (by simpa using h1) (by simpa using h2)
inductive acJ (xs:List V) (H:Hp) (Q:VK):Prop
 | mk (l:_) (ts:_) (kvs:_) (_:xs=[.ref l]) (_:H l=some (.lst (ts.map V.ref))) (_:lM H ts kvs) (_:∀ D,H D=none->Q #[66] (upd H D (.dK (fh [] kvs))))
theorem Cu:∀ {ts:List QQ} {us:List Value},Vals (ts.map V.ref) us->us=ts.map Wm
 | [],_,.nil=>rfl
 | t :: ts,_,.cons r q=>by
  cases r
  rw[JF,Cu q]
theorem tw(hc:X.calm=true):lH X (.type "dict") acJ:=by
 exists 5
 obtain⟨l,ts,kvs,rfl,hl,hp,q⟩:=h
 obtain⟨u,rfl,rx⟩:=vals1 r
 cases rx
 obtain⟨z,bz,n,rv,hln,e⟩:=I.Ik hl
 have ei:=Cu rv
 subst ei
 obtain⟨ps,r1,r2,r3⟩:=EA hp I.hok
 have hlen:kvs.length=ps.length:=Paired.length r1
 have zl:ps.length<=sizeLine:=by
  rw[r2]
  rw[jX]at z
  exact z
 refine C3 (knd:=bC X.prog X.w) #[85] e r2.symm r3 zl fun h' tk kp dd=>?_
 have ob:bN X.prog X.w (upd H s.heap.objs.size (.dK (fh [] kvs))) h' s.heap.objs.size (.dK (fh [] kvs)):=by
  refine D9 ?_ (beq_eq_false_iff_ne.mpr (Ne.symm (jR I.big))) (KV.merge r1 .nil) dd
  have:=pI kvs []
  simp only[JR]at this
  omega
 exact⟨.ref _,_,I.laid (t' := tk) kp (jE _) ob,rfl,q _ #[68]⟩
end
section
variable{u r:Value}{k:Key}
theorem HW(I:Inv X pins σ H s)(e:H a=some #[53])(hz:kvs.length<sizeLine)(ry:RelV (kV k) u)(rz:RelV z r)(h1:∀ v w' s',fq kvs k=some v->Inv X pins σ H s'->RelV v w'->Q w' s')(h2:∀ s',fq kvs k=none->Inv X pins σ (upd H a (.dK (putK kvs k z))) s'->Q r s'):
  wpAny #[5] A (call (.builtin "dict.setdefault") [.ref a,u,r]) Q E s:=by
 obtain⟨zl,hd,vs,rel,dd⟩:=PZ I.hok e
 have rv:=rel.val k
 refine Qu yD dd.typeIs PySem.F.entry_dict_setdefault (PySem.F.args_dict_setdefault_3 _ _ _) (kt_meets_setdefault (bC X.prog X.w) a (tJ ry) hd r) ⟨vs,dd,by rw[<- rel.length];exact zl,fun v hv=>?_,fun hn h' Od sb=>?_⟩
 ·cases hk:fq kvs k with
  | none=>rw[hk,hv]at rv;exact rv.elim
  | some x =>
   rw[hk,hv]at rv
   exact h1 x v _ hk (I.tok _) rv
 ·have hk:fq kvs k=none:=by
   cases hk:fq kvs k with
   | none=>rfl
   | some x=>rw[hk,hn]at rv;exact rv.elim
  refine h2 _ hk (wo (t' := s.toks+1) I (by rw[e];trivial) sb ?_ (D9 (kvs:=putK kvs k z) (by have:=mD kvs k z;omega) hd (rel.put k rz) Od))
  obtain⟨ob,_,_,g,_⟩:=Od
  exact⟨ob,g⟩
end
inductive acY (ty:TE) (tx:TE) (σ:St) (Q:VK) (x:V) (H1:Hp):Prop
 | mk (a:_) (_:x=.ref a) (_:IsD H1 a) (_:ty σ H1 fun y H2=>tx σ H2 fun z H3=>∃ kvs k,H3 a=some #[53]/\y=kV k/\kvs.length<sizeLine/\(∀ v,fq kvs k=some v->Q v H3)/\(fq kvs k=none->Q z (upd H3 a (.dK (putK kvs k z)))))
def aiw(td ty tx:TE):TE:=fun σ H Q=>td σ H (acY ty tx σ Q)
section
variable{o e f:Expr}{apos dJ:Pos}{td ty tx:TE}
theorem Ir(ho:PE X o td)(he:PE X e ty)(hf:PE X f tx)(m:M2 X o "setdefault" apos e f dJ):PE X (.Call (.Attribute o "setdefault" apos) [e,f] [] dJ) (aiw td ty tx):=by
 exists 4
 refine qU m.base m.AW m.line YO yD PySem.F.type_dict_setdefault (cD #[77] fun u s1 ⟨x,H1,I1,rx,a,ex,d,q1⟩=>?_)
 subst ex
 exists 15
 obtain⟨t1,t2,_⟩:=Ig I1 d
 exists t1,t2
 rw[m.trees]
 refine YF rfl (YM (YB (cD (he pins s1 σ H1 _ I1 q1) fun iv s2 ⟨y,H2,I2,ry,q2⟩ =>
  YB (cD (hf pins s2 σ H2 _ I2 q2) fun fv s3 ⟨z,H3,I3,rz,kvs,k,ea,ey,hz,q3,q4⟩=>YW ?_))))
 subst ey
 exact HW I3 ea hz ry rz (fun v w' s' hv I4 rv=>⟨v,H3,I4,rv,q3 v hv⟩) fun s' hn I4=>⟨z,_,I4,rz,q4 hn⟩
end
section
theorem Inv.freeze(I:Inv X pins σ H s)(e:H a=some #[53])(ho:s.heap.get? a=some o):Inv X pins σ (upd H a #[104]) s:=by
 have nt:∀ b u,H b=some u->(u=.dK kvs->False)->b≠a:=fun b u q d=>aQ q e d
 refine I.un (t' := s.toks) ⟨fun b u q _ _ _=>q,fun b u q _ _ _=>⟨u.slots,q⟩,fun b u q n _=>?_,fun b u q _=>⟨u,q⟩,fun b xs q=>?_,fun b u xs q=>?_,fun b ps q=>⟨#[],?_⟩⟩ (fun b u q=>?_)
 ·rw[aj (fun z=>by rw[z,e]at n;cases n)];exact n
 ·rw[aj (nt b _ q #[2])];exact q
 ·rw[aj (nt b _ q #[2])];exact q
 ·rw[aj (nt b _ q #[2]),q];simp
 ·by_cases hb:b=a
  ·subst hb
   rw[ae]at q
   cases q
   exact⟨ho,(I.hok b _ e)⟩
  ·rw[aj hb]at q
   exact(I.hok b u q).Az (fun c v _ z=>z) (fun c z=>by rw[aj (nt c _ z (by intro y;cases y))];exact z) fun c xs z=>by rw[aj (nt c _ z (by intro y;cases y))];exact z
end
def oq(o:Obj):Nat:=match o.data with
 | .dict _ ep=>ep
 | _=>0
def Itd(a:QQ)(o:Obj)(kvs:List (Key×V)):It:=
 ⟨fun i H=>i<kvs.length/\H a=some #[104],fun i H x H'=>H'=H/\∀ p,kvs[i]?=some p->x=kV p.1,fun i H=>kvs.length<=i/\H a=some #[104]⟩
def Iti(a:QQ)(o:Obj)(kvs:List (Key×V)):It:=
 ⟨fun i H=>i<kvs.length/\H a=some #[104],fun i H x H'=>∃ T p,x=.ref T/\H T=none/\H'=upd H T (.tup [kV p.1,p.2])/\kvs[i]?=some p,fun i H=>kvs.length<=i/\H a=some #[104]⟩
theorem rq(ok:iP P w H h)(e:H a=some #[104]):∃ vs,KV kvs vs/\h.DictAt (bC P w) a vs (oq o)/\(a==qP)=false/\h.get? a=some o:=by
 obtain⟨ho,z,lo,vs,rel,ob,es,ep,hg,hx,hd,rest⟩:=ok a _ e
 rw[ho]at hg
 cases hg
 have ee:oq o=ep:=by unfold oq;rw[hd]
 exact⟨vs,rel,⟨o,es,ho,hx,by rw[ee];exact hd,rest⟩,lo,ho⟩
theorem Tg(a it:QQ)(o:Obj)(kvs:List (Key×V)):Turn P w K tg (Itd a o kvs) [it] it (fun i h=>h.IsKeyIter it a i kvs.length (oq o)) where
 mem:=by simp
 obj:=fun i h st b hb=>by
  exists 10
  subst e
  obtain⟨o,e,c,d⟩:=st
  exists 8
 keep:=fun i h h' st k=>by
  obtain⟨ob,e,r⟩:=st
  exact⟨ob,k it #[21] ob e,r⟩
 item:=by
  exists 2
  exists 17
  obtain⟨hi,U7⟩:=hg
  obtain⟨vs,rel,dat,lo,ho⟩:=rq I.hok U7
  have hlen:kvs.length=vs.length:=Paired.length rel
  have hv:i<vs.length:=by omega
  exists 3
  rw[hlen]at st
  refine wpAny_pyNext_dict_item (knd:=bC X.prog X.w) st dat (k:=(vs[i]).1) (v:=(vs[i]).2) (jB hv) fun key h' hk FF sb=>?_
  have I1:Inv X pins σ H { s with heap:=h' }:=I.turned (t' := s.toks) (fun b o hb e=>(sb.2 b hb).trans e) f0 f1 f3 f4 f5
  obtain⟨p,e1,e2⟩:=mF rel (jB hv)
  rw[<- hlen]at FF
  obtain⟨ob,e,c,d⟩:=id FF
  refine⟨key,rfl,F6 (s:={ s with heap:=h' }) e c d #[7] ⟨kV p.1,H,I1,?_,⟨rfl,fun p' Sg=>by rw[e1]at Sg;cases Sg;rfl⟩,FF,fun b hb=>(hf b hb).1⟩⟩
  rw[e2.1]
  exact Q4 hk
 done:=by
  exists 2
  exists 17
  obtain⟨hi,U7⟩:=hg
  obtain⟨vs,rel,dat,lo,ho⟩:=rq I.hok U7
  have hlen:kvs.length=vs.length:=Paired.length rel
  exists 3
  rw[hlen]at st
  exact wpAny_pyNext_dict_end #[85] st dat (Jg #[0]) fun h' eb=>⟨rfl,I.turned (t' := s.toks) #[70] f0 f1 f3 f4 f5⟩
 self:=fun A i s Q E st h=>by
  refine WW st.typeIs YD (qh YD st.typeIs Ym ?_ (Yl _))
  show wpAny _ _ (ret #[100]) _ _ s
  exact WS ⟨_,rfl,"dict_keyiterator",_,st.typeIs,PySem.F.slot_dict_keyiterator_next.lookup,h⟩
section
def ahM(tl:TE):TI:=fun σ H R=>tl σ H fun x H1=>∃ a kvs,x=.ref a/\((H1 a=some #[53]/\∀ o,R (Itd a o kvs) (upd H1 a #[104]))\/∃ o,H1 a=some #[104]/\R (Itd a o kvs) H1)
theorem acF(hl:PE X l tl):PI X tg l (ahM tl):=by
 exists 14
 refine cD (hl pins s σ H _ I h) fun v s1 ⟨x,H1,I1,r1,q1⟩=>?_
 obtain⟨a,kvs,e,q⟩:=q1
 subst e
 cases r1
 have main:∀ (o:Obj) (H2:Hp),Inv X pins σ H2 s1->H2 a=some #[104]->R (Itd a o kvs) H2->wpAny #[5] X.A (pyIter #[50]) (PIE X pins σ tg R) X.xe s1:=fun o H2 I2 e2 q2=>by
  obtain⟨vs,rel,dat,lo,ho⟩:=rq I2.hok e2
  have hlen:kvs.length=vs.length:=Paired.length rel
  refine wpAny_pyIter_dict lo dat ?_
  refine⟨s1.heap.objs.size,[s1.heap.objs.size],_,_,H2,rfl,I2.kept (t' := s1.toks) fun b o e=>jC _ e,Tg a _ o kvs,⟨_,jL _ rfl,rfl,by rw[hlen];rfl⟩,fun b hb=>?_,q2⟩
  have e:b=s1.heap.objs.size:=by simpa using hb
  subst e
  exact I2.C6 (jE _) (I2.hok.fresh (jE _))
 rcases q with⟨hd,q⟩|⟨o,hd,q⟩
 ·obtain⟨z,lo,vs,rel,ob,es,ep,hg,rest⟩:=I1.hok a _ hd
  exact main ob _ (I1.freeze hd hg) ae (q ob)
 ·exact main o H1 I1 hd q
end
theorem C5:entryFor table "dict_itemiterator.__iter__" = some Builtin.«dict_keyiterator.__iter__» :=
 entryFor_alias (id' := "dict_keyiterator.__iter__") (by kernel_rfl) (by first|rfl|decide +kernel|(unfold String.splitOn;simp +decide [String.splitOnAux])) #[3] (by kernel_rfl)
theorem Pr{x1:_}(a it:QQ)(o:Obj)(kvs:List (Key×V)):Turn P w K (.Tuple elts x1 pos) (Iti a o kvs) [it] it (fun i h=>∃ ok ov,IsItemIter h it a i kvs.length (oq o) ok ov) where
 mem:=by simp
 obj:=fun i h st b hb=>by
  exists 10
  subst e
  obtain⟨ok,ov,st⟩:=st
  exact⟨_,st,fun v z=>by
   have z':Data.fields _=Data.cell v:=z
   cases z'⟩
 keep:=fun i h h' st k=>by
  obtain⟨ok,ov,st⟩:=st
  exact⟨ok,ov,k it #[21] _ st⟩
 item:=by
  exists 2
  exists 17
  obtain⟨hi,U7⟩:=hg
  obtain⟨ok,ov,st⟩:=st
  obtain⟨vs,rel,dat,lo,ho⟩:=rq I.hok U7
  have hlen:kvs.length=vs.length:=Paired.length rel
  have hv:i<vs.length:=by omega
  exists 3
  rw[hlen]at st
  have itl:it<s.heap.objs.size:=jJ st
  refine wpAny_pyNext_items_item (knd:=bC X.prog X.w) st dat (k:=(vs[i]).1) (v:=(vs[i]).2) (jB hv) fun key h' hk FF ht hsz kp=>?_
  obtain⟨p,e1,e2⟩:=mF rel (jB hv)
  refine⟨.ref s.heap.objs.size,rfl,wpAny_letOwnedTupleGo_items (s:={ s with heap:=h' }) FF fun h2 S8 sb2=>?_⟩
  have kp2:∀ b u,s.heap.get? b=some u->b≠it->h2.get? b=some u:=fun b u e hb=>(sb2.2 b hb).trans (kp b u hb e)
  have nT:s.heap.objs.size≠it:=Jt itl
  have ht2:h2.get? s.heap.objs.size=some { cls:=.type "tuple",data:=.seq #[key,(vs[i]).2] }:=(sb2.2 _ nT).trans ht
  have fr:H s.heap.objs.size=none:=I.hok.fresh (jE _)
  have fit:Af X pins (upd H s.heap.objs.size (.tup [kV p.1,p.2])) it:=⟨by rw[aj (Ne.symm nT)];exact f0,f1,f2,f3,f4,f5⟩
  have I0:Inv X pins σ (upd H s.heap.objs.size (.tup [kV p.1,p.2])) { s with heap:=s.heap.push { cls:=.type "tuple",data:=.seq #[key,(vs[i]).2] } }:=
   I.laid (t' := s.toks) (o:=.tup [kV p.1,p.2]) (fun b ob q=>jC _ q) (jE _) ⟨by show 2<=sizeLine;decide,[key,(vs[i]).2],.cons (by rw[e2.1];exact Q4 hk) (.cons e2.2 .nil),⟨_,jL _ rfl,rfl,_,rfl⟩⟩
  have I2:Inv X pins σ (upd H s.heap.objs.size (.tup [kV p.1,p.2])) { s with heap:=h2 }:=by
   refine I0.turned (t' := s.toks) (h' := h2) (fun b ob hb q=>?_) fit.1 fit.2.1 fit.2.2.2.1 fit.2.2.2.2.1 fit.2.2.2.2.2
   rcases zq (show(s.heap.push { cls:=.type "tuple",data:=.seq #[key,(vs[i]).2] }).get? b=some ob from q)with⟨rfl,rfl⟩|z
   ·exact ht2
   ·exact kp2 b ob z hb
  refine⟨.ref s.heap.objs.size,_,I2,rfl,⟨s.heap.objs.size,p,rfl,fr,rfl,e1⟩,⟨_,_,by rw[hlen];exact S8⟩,fun b hb=>?_⟩
  exists 10
  subst e
  exact fit.1
 done:=by
  exists 2
  exists 17
  obtain⟨hi,U7⟩:=hg
  obtain⟨ok,ov,st⟩:=st
  obtain⟨vs,rel,dat,lo,ho⟩:=rq I.hok U7
  have hlen:kvs.length=vs.length:=Paired.length rel
  exists 3
  rw[hlen]at st
  exact wpAny_pyNext_items_end #[85] st dat (Jg #[0]) fun h' eb=>⟨rfl,I.turned (t' := s.toks) #[70] f0 f1 f3 f4 f5⟩
 self:=fun A i s Q E st h=>by
  obtain⟨ok,ov,st⟩:=st
  have hT:s.TypeIs #[100] "dict_itemiterator" := ⟨_,st,rfl⟩
  refine WW hT Yn (qh Yn hT C5 ?_ (PySem.F.args_dict_itemiterator_iter_1 _))
  show wpAny _ _ (ret #[100]) _ _ s
  exact WS ⟨_,rfl,"dict_itemiterator",_,hT,PySem.F.slot_dict_itemiterator_next.lookup,h⟩
section
def aeJ(tl:TE):TI:=fun σ H R=>tl σ H fun x H1=>∃ v d kvs,x=.ref v/\H1 v=some (AF v d)/\H1 d=some #[53]/\∀ o,R (Iti d o kvs) (upd H1 d #[104])
theorem aaq{x1:_}(hl:PE X l tl):PI X (.Tuple elts x1 Tf) l (aeJ tl):=by
 exists 14
 refine cD (hl pins s σ H _ I h) fun v s1 ⟨x,H1,I1,r1,q1⟩=>?_
 obtain⟨v,a,kvs,e,hv,hd,q⟩:=q1
 subst e
 cases r1
 obtain⟨ahJ,_,_⟩:=(show bN X.prog X.w H1 s1.heap v (AF v a)from I1.hok v _ hv)
 obtain⟨z,lo,vs0,ard,ob,es,ep,hg,rest⟩:=I1.hok a _ hd
 have I2:=I1.freeze hd hg
 obtain⟨vs,rel,dat,lo2,ho⟩:=rq I2.hok ae
 have hlen:kvs.length=vs.length:=Paired.length rel
 refine wpAny_pyIter_items ahJ dat ?_
 refine⟨s1.heap.objs.size,[s1.heap.objs.size],_,_,_,rfl,I2.kept (t' := s1.toks) fun b o e=>jC _ e,Pr a _ ob kvs,⟨_,_,by rw[hlen];exact jL _ rfl⟩,fun b hb=>?_,q ob⟩
 have e:b=s1.heap.objs.size:=by simpa using hb
 subst e
 exact I2.C6 (jE _) (I2.hok.fresh (jE _))
end
theorem R9{g:TG}(Pv:Nat->St->Hp->Prop)(h0:Pv 0 σ H)(hl:∀ i σ H,i<=kvs.length->Pv i σ H->H a=some #[104])(hs:∀ i p σ H T,kvs[i]?=some p->Pv i σ H->H T=none->g (.ref T) σ (upd H T (.tup [kV p.1,p.2])) fun σ2 H2=>tb { D with nx:=Pv (i+1),ct:=Pv (i+1),bk:=D.nx } σ2 H2)(hd:∀ σ H,Pv kvs.length σ H->D.nx σ H):
  ∃ W:Nat->Nat->St->Hp->Prop,(∃ m,W 0 m σ H)/\∀ i m σ H,W i m σ H ->
   ((Iti a o kvs).stop i H/\D.nx σ H)\/((Iti a o kvs).go i H/\∃ N:St->Hp->Prop,#[19]/\∀ x H',(Iti a o kvs).yld i H x H'->g x σ H' fun σ2 H2=>tb { D with nx:=N,ct:=N,bk:=D.nx } σ2 H2):=by
 refine⟨fun i m σ H=>m=kvs.length-i/\i<=kvs.length/\Pv i σ H,⟨kvs.length,by simp,je _,h0⟩,?_⟩
 rintro i m σ H ⟨rfl,hi,p⟩
 have q:=hl i σ H hi p
 by_cases fM:i<kvs.length
 ·refine .inr ⟨⟨fM,q⟩,Pv (i+1),fun σ' H' p'=>⟨kvs.length-(i+1),by omega,rfl,fM,p'⟩,fun x H' y=>?_⟩
  obtain⟨T,pr,rfl,hT,rfl,y⟩:=y
  exact hs i pr σ _ T y p hT
 ·have e:i=kvs.length:=by omega
  subst e
  exact .inl ⟨⟨jE _,q⟩,hd σ H p⟩
namespace SF
end SF
end L2
namespace L2
open PySem PySem.Spec PyProof.Rows
namespace SF
end SF
end L2
namespace L2
open PySem PySem.Spec PyProof.Rows
variable{s:Ql}{ns:List Int}
def bQ(ns:List Int):List Int:=ns.foldl step_dedup []
theorem RZ{s:List Int}{v k:Int}:k∈step_dedup s v↔k∈s\/k=v:=by
 unfold step_dedup
 split
 ·rename_i h
  have hv:v∈s:=by simpa using h
  exact⟨.inl,fun z=>z.elim id fun e=>e ▸ hv⟩
 ·simp
theorem CI:∀ (ns s:List Int) (k:Int),k∈ns.foldl step_dedup s↔k∈s\/k∈ns
 | [],s,k=>by simp
 | n :: r,s,k=>by
  rw[JS,CI r,RZ,jY]
  constructor
  ·rintro((h|h)|h)
   ·exact .inl h
   ·exact .inr (.inl h)
   ·exact .inr (.inr h)
  ·rintro(h|h|h)
   ·exact .inl (.inl h)
   ·exact .inl (.inr h)
   ·exact .inr h
theorem Br{k:Int}:k∈bQ ns↔k∈ns:=by
 unfold bQ
 rw[CI]
 simp
theorem iC:∀ (ns s:List Int),(ns.foldl step_dedup s).length<=s.length+ns.length
 | [],s=>jE _
 | n :: r,s=>by
  refine jf (iC r _) ?_
  have:(step_dedup s n).length<=s.length+1:=by
   unfold step_dedup
   split
   ·exact JU _
   ·rw[jG];exact jE _
  rw[jT]
  omega
theorem Bq(ns:List Int):(bQ ns).length<=ns.length:=by
 have q:=iC ns []
 unfold bQ
 simpa using q
end L2
namespace PySem
open PyProof.Rows
end PySem
namespace L2
open PySem PySem.Spec PyProof.Rows
variable{a:Expr}{p:Pos}{ix:List (Option Nat)}{te:TE}{σ:St}{H:Hp}{x:Qm}{o:Obj}{kvs:List (Key×V)}{Qd:QQ→Hp→Prop}
theorem RW{a:QQ}(Pv:QQ->Nat->List V->Hp->Prop)(h0:∀ D,H D=none->Pv D 0 [] #[83])(hl:∀ D i ys H',i<=kvs.length->Pv D i ys H'->H' a=some #[104])(hs:∀ D i p ys H' (Q':VK),H D=none->kvs[i]?=some p->H' D=some #[93]->Pv D i ys H'->#[8] ->
   te (#[73].set 0 (some (kV p.1))) H' Q')(hd:∀ D ys H',H D=none->H' D=some #[93]->Pv D kvs.length ys H'->Qd D H'):AD (Itd a o kvs) ix (aX 0) te σ H Qd:=by
 intro D hD
 refine⟨fun i m σ' H'=>m=kvs.length-i/\i<=kvs.length/\(σ'=bB ix σ\/∃ t,σ'=#[73].set 0 t)/\∃ ys,H' D=some #[93]/\Pv D i ys H',⟨kvs.length,by simp,je _,.inl rfl,[],ae,h0 D hD⟩,?_⟩
 rintro i m σ' H' ⟨rfl,hi,hσ,ys,hy,p⟩
 have q:=hl D i ys H' hi p
 by_cases fM:i<kvs.length
 ·refine .inr ⟨⟨fM,q⟩,fun x H2 y=>?_⟩
  obtain⟨e1,e2⟩:=y
  subst e1
  have ex:=e2 kvs[i] (jB fM)
  subst ex
  have es:σ'.set 0 (some (kV (kvs[i]).1))=#[73].set 0 (some (kV (kvs[i]).1)):=by
   rcases hσ with z|⟨t,z⟩
   ·rw[z]
   ·rw[z,Ju]
  show te (σ'.set 0 (some (kV (kvs[i]).1))) _ _
  rw[es]
  refine hs D i kvs[i] ys _ _ hD (jB fM) hy p fun y H4 h4 hz p4=>⟨ys,h4,hz,kvs.length-(i+1),by omega,rfl,fM,.inr ⟨_,rfl⟩,ys++[y],ae,p4⟩
 ·have e:i=kvs.length:=by omega
  subst e
  exact .inl ⟨⟨jE _,q⟩,hd D ys H' hD hy p⟩
end L2
namespace PySem
open PyProof.Rows
variable{prog:Qj}{w:World}{K:Type}{A:Around}{E Q:Value→Ql→Prop}{s:Ql}{R:Result→Ql→Prop}{h h':Heap}{a D I l:QQ}{i c:Nat}{ts:List QQ}
section
variable[DecidableEq K]{knd:KeyKind prog w K}
theorem IsTupleKey.there{ks:List K}(x:Qe knd h ks a)(k:∀ o,h.get? a=some o->h'.get? a=some o):Qe knd h' ks a:=let ⟨o,it,n,ho,r⟩:=x;⟨o,it,n,k _ ho,r⟩
def BU(knd:KeyKind prog w K)(h:Heap)(ts:List QQ)(ps:List #[97]):Prop := ∀ (j:Nat) (t:QQ) (p:List K×QQ×Value),ts[j]?=some t->ps[j]?=some p->Qe knd h p.1 p.2.1/\Qc h t #[.ref p.2.1,p.2.2]
def Dp(xs ps:List #[97]):List #[97]:=ps.foldl (fun acc p=>storedH acc p.1 p.2.1 p.2.2) xs
theorem DY{xs:List #[97]}(x:h.DictOfH (qQ knd) D xs)(hD:∀ o,h.get? D=some o->h'.get? D=some o)(hk:∀ p∈xs,∀ o,h.get? p.2.1=some o->h'.get? p.2.1=some o):h'.DictOfH (qQ knd) D xs:=by
 obtain⟨o,es,ep,ho,hc,hd,he,his,hn⟩:=x
 exact⟨o,es,ep,hD _ ho,hc,hd,he,fun p hp=>IsTupleKey.there (his p hp) (hk p hp),hn⟩
theorem ML(xs:List #[97])(k:List K)(a:QQ)(v:Value):(storedH xs k a v).length<=xs.length+1:=by
 unfold storedH
 split
 ·rw[jX];omega
 ·rw[jG];exact jE _
theorem rP{ks:List K}(x:Qe knd h ks a)(y:h.IsListIter I l i):a≠I:=by
 rintro rfl
 obtain⟨o,_,_,ho,hc,_⟩:=x
 obtain⟨o',Tt,U6,_⟩:=y
 rw[ho]at Tt
 cases Tt
 rw[hc]at U6
 exact absurd (xx U6) #[7]
theorem IT{ps:List #[97]}(hu:A.units+1<cLine)(W:Walks prog w A.in1 I [I,l] [I] ts.length (fun i v=>#[91].toArray[i]?=some v) (fun i h=>h.IsListIter I l i/\h.IsList l #[91].toArray))(hl:ts.length=ps.length)(hDI:D≠I)(hDl:D≠l)(hDt:∀ t∈ts,t≠D/\t≠I)(hz:ps.length<=sizeLine):
  ∀ (k i:Nat) (s:Ql) (acc:List #[97]),ts.length-i=k->i<=ts.length->(s.heap.IsListIter I l i/\s.heap.IsList l #[91].toArray)->s.heap.DictOfH (qQ knd) D acc->acc.length<=i->BU knd s.heap ts ps ->
  (∀ h' tk,(∀ b o,b≠D->b≠I->s.heap.get? b=some o->h'.get? b=some o)->h'.DictOfH (qQ knd) D (Dp acc (ps.drop i))->R (.ok (.ret .none)) { s with heap:=h',toks:=tk }) ->
  codeAny #[9] A (.builtin "dict.update.loop" ⟨[.ref D,.ref I,rawInt (i:Int),.none],[]⟩) R s:=by
 intro k
 induction k with
 | zero =>
  intro i s acc hk hi BK hD Ba hP hR
  have rO:i=ts.length:=by omega
  subst rO
  refine Qv eX ?_
  rw[Around.under_plainId cb _]
  show wpAny _ A.in1 (pyNext (.ref I)>>=_) _ _ s
  refine qd (W.done s _ _ BK fun h' tk hm=>?_)
  show wpAny _ _ (yM D []>>=_) _ _ _
  refine qd (WQ (a:=()) rfl ?_)
  have e:ps.drop ts.length=[]:=by rw[hl,zA]
  refine WS (hR h' tk (fun b o _ hb q=>hm b o (by simpa using hb) q) ?_)
  rw[e]
  obtain⟨_,_,_,_,_,_,_,his,_⟩:=id hD
  exact DY hD (fun o q=>hm D o (by simpa using hDI) q) fun p hp o q=>hm _ o (by simpa using rP (his p hp) BK.1) q
 | succ k ih =>
  intro i s acc hk hi BK hD Ba hP hR
  have fM:i<ts.length:=by omega
  have V7:i<ps.length:=by omega
  refine Qv eX ?_
  rw[Around.under_plainId cb _]
  show wpAny _ A.in1 (pyNext (.ref I)>>=_) _ _ s
  refine qd (W.item i s _ _ fM BK fun v h' tk hv W5 hm=>?_)
  have ev:v=.ref ts[i]:=by
   have:#[91].toArray[i]?=some (.ref ts[i]):=by simp[fM]
   rw[this]at hv
   exact(Option.some.inj hv).symm
  subst ev
  have keep:∀ b o,b≠I->s.heap.get? b=some o->h'.get? b=some o:=fun b o hb q=>hm b o (by simpa using hb) q
  have ahW:∀ {ks:List K} {a:QQ},Qe knd s.heap ks a->Qe knd h' ks a:=fun x=>x.there fun o q=>keep _ o (rP x BK.1) q
  obtain⟨V2,ht⟩:=hP i ts[i] ps[i] (jB fM) (jB V7)
  have tn:=hDt ts[i] (jH fM)
  have Tu:Qc h' ts[i] #[.ref (ps[i]).2.1,(ps[i]).2.2]:=ht.extBut (b:=I) keep tn.2
  have hD':h'.DictOfH (qQ knd) D acc:=by
   obtain⟨_,_,_,_,_,_,_,his,_⟩:=id hD
   exact DY hD (fun o q=>keep D o hDI q) fun p hp o q=>keep _ o (rP (his p hp) BK.1) q
  obtain⟨ot,hot,hct,nt,hdt⟩:=id Tu
  try dsimp only
  refine qd (WB ?_)
  refine qd (wpAny_tryCatch ?_)
  unfold yd
  refine qd (Wk (s:={ s with heap:=h',toks:=tk }) Tu.typeIs ?_)
  rw[if_pos #[7]]
  refine qd (Wc (s:={ s with heap:=h',toks:=tk }) hot hdt ?_)
  refine WS ?_
  show wpAny _ _ (holding [.ref (ps[i]).2.1,(ps[i]).2.2] (dictSet D (.ref (ps[i]).2.1) (ps[i]).2.2)) _ _ _
  refine WB (qu (knd:=qQ knd) (k:=(ps[i]).1) (s:={ s with heap:=h',toks:=tk }) hu (ahW V2) hD' (fun h2 T8 sb2=>?_) #[0])
  have Ab:∀ b o,b≠D->h'.get? b=some o->h2.get? b=some o:=fun b o hb q=>sb2.extBut b o hb q
  refine WS ⟨qI cb _,?_⟩
  have ri:rawInt ((i:Int)+1)=rawInt (((i+1:Nat)):Int):=by push_cast;rfl
  rw[ri]
  have alv:∀ {ks:List K} {a:QQ},Qe knd s.heap ks a->a≠D:=fun x z=>by
   obtain⟨o,_,_,ho,_,hd,_⟩:=x
   obtain⟨o',_,_,Tt,_,hd',_⟩:=hD
   rw[z,Tt]at ho
   cases ho
   rw[hd']at hd
   cases hd
  refine ih (i+1) { s with heap:=h2,toks:=_ } (storedH acc (ps[i]).1 (ps[i]).2.1 (ps[i]).2.2) #[0] fM ⟨W5.1.at fun o q=>Ab I o (Ne.symm hDI) q,W5.2.at fun o q=>Ab l o (Ne.symm hDl) q⟩ T8 (by
   have:=ML acc (ps[i]).1 (ps[i]).2.1 (ps[i]).2.2
   omega) (fun j t p h1 Dh=>?_) (fun h3 tk3 IZ C7=>?_)
  ·obtain⟨hk',aeC⟩:=hP j t p h1 Dh
   have tn' := hDt t (Jy h1)
   exact⟨(ahW hk').there fun o q=>Ab _ o (alv hk') q,(aeC.extBut (b:=I) keep tn'.2).extBut (b:=D) Ab tn'.1⟩
  ·refine hR h3 tk3 (fun b o hb hb2 q=>IZ b o hb hb2 (Ab b o hb (keep b o hb2 q))) ?_
   rw[jv V7]
   exact C7
theorem B2{ps:List #[97]}(hu:A.units+2<cLine)(hh:A.handled=none)(hL:s.heap.get? l=some { cls:=.type "list",dict:=none,data:=.seq #[91].toArray c,slots := #[] })(hl:ts.length=ps.length)(hP:BU knd s.heap ts ps)(hz:ps.length<=sizeLine)(hQ:∀ h' tk,(∀ b o,s.heap.get? b=some o->h'.get? b=some o)->h'.DictOfH (qQ knd) s.heap.objs.size (Dp [] ps)->Q #[51] { s with heap:=h',toks:=tk }):
  wpAny #[9] A (call (.type "dict") [.ref l]) Q E s:=by
 refine callType_codes (Q₁:=fun obj s₁=>obj=.ref s.heap.objs.size/\s₁={ s with heap:=s.heap.push { cls:=.type "dict",data:=.dict #[] } }) XS (yp _) XM (qE _ ⟨rfl,rfl⟩) ?_
 rintro obj s₁ ⟨rfl,rfl⟩
 have V8:#[25].DictOfH (qQ knd) s.heap.objs.size []:=xw s.heap
 have ado:({ s with heap:=s.heap.push { cls:=.type "dict",data:=.dict #[] } }:Ql).TypeIs #[51] "dict" := ⟨_,jL s.heap rfl,rfl⟩
 have fM:l<s.heap.objs.size:=jJ hL
 have hL':#[25].get? l=some { cls:=.type "list",dict:=none,data:=.seq #[91].toArray c,slots := #[] }:=jC _ hL
 exists ado,XE _ _
 unfold Builtin.«dict.__init__»
 refine qd ?_
 unfold yN
 refine qd (WO ado ?_)
 show wpAny _ _ (pure (s.heap.objs.size,[Wm l])) _ _ _
 refine WS ?_
 show wpAny _ _ (Yb "dict.__init__" s.heap.objs.size (.ref l) [] .none) _ _ _
 unfold Yb
 refine qd (Wk (T := "list") ⟨_,hL',rfl⟩ ?_)
 rw[if_pos #[7]]
 refine qd (tK hL' hh fun h1 tk1 Fu=>?_)
 rw[if_pos #[26]]
 refine qd (Wb ?_)
 have U0:=Fu _ _ hL'
 have il1:xO h1 l #[91].toArray:=⟨_,U0,rfl,c,rfl⟩
 refine qd (WU (s:={ s with heap:=h1,toks:=tk1 }) il1 ?_)
 refine WS ⟨qI cb _,?_⟩
 have oI:(h1.push { cls:=.type "list_iterator",data:=.fields #[.ref l,.int 0 0] }).get? h1.objs.size=some { cls:=.type "list_iterator",data:=.fields #[.ref l,.int 0 0] }:=jL _ rfl
 have l1:l<h1.objs.size:=jJ U0
 have d1:s.heap.objs.size<h1.objs.size:=jJ (Fu _ _ (jL s.heap rfl))
 have W:=Walks.list (prog:=prog) (w:=w) (A:=A.in1.in1) hh h1.objs.size l (jR l1) #[91].toArray
 have sz:#[91].toArray.size=ts.length:=by simp
 rw[sz]at W
 have kp2:∀ b o,s.heap.get? b=some o->(h1.push { cls:=.type "list_iterator",data:=.fields #[.ref l,.int 0 0] }).get? b=some o:=fun b o q=>jC _ (Fu _ _ (jC _ q))
 refine IT (A:=A.in1) (knd:=knd) (D:=s.heap.objs.size) (ps:=ps) (by show A.units+1+1<cLine;exact hu) W hl (jR d1) (Jt fM) (fun t ht=>?_) hz ts.length 0 { s with heap:=h1.push { cls:=.type "list_iterator",data:=.fields #[.ref l,.int 0 0] },toks:=tk1 } [] rfl (je _) ⟨⟨_,oI,rfl,rfl⟩,il1.at fun o q=>jC _ q⟩ ?_ (je _) (fun j t p a1 a2=>?_) fun h3 tk3 IZ C7=>?_
 ·obtain⟨j,hj⟩:=JB.mp ht
  have jl:j<ps.length:=by
   rw[<- hl]
   exact(jc.mp hj).1
  obtain⟨_,o,ho,_⟩:=hP j t ps[j] hj (jB jl)
  have tl:=jJ ho
  exact⟨jR tl,jR (zN tl d1)⟩
 ·exact DY V8 (fun o q=>jC _ (Fu _ _ q)) fun p hp=>by cases hp
 ·obtain⟨hk,ht⟩:=hP j t p a1 a2
  exact⟨hk.there fun o q=>kp2 _ o q,ht.keeps kp2⟩
 ·exact⟨rfl,hQ h3 tk3 (fun b o q=>IZ b o (jR (jJ q)) (jR (zN (jJ q) d1)) (kp2 b o q)) C7⟩
end
end PySem
namespace L2
open PySem PySem.Spec PyProof.Rows
variable{X:Cx}{P:Qj}{w:World}{H:Hp}{A:Around}
section
def N1(H:Hp):List QQ->List #[59]->Prop:=Qh fun t p=>∃ b,H t=some (.tup [.ref b,p.2])/\H b=some (.tup (p.1.map kV))
theorem CH:∀ {kvs:List #[59]} {ts:List QQ} {H:Hp} {h:Heap},N1 H ts kvs->iP P w H h->∃ ps:List #[52],KT H kvs ps/\ps.length=ts.length/\BU (bC P w) h ts ps
 | [],[],_,_,.nil,_=>⟨[],.nil,rfl,fun j t p h=>by simp at h⟩
 | _,_,_,_,.cons (a:=a) (b:=p) (l₁:=ts) (l₂:=kvs) q t,ok=>by
  obtain⟨ps,r1,r2,r3⟩:=CH t ok
  obtain⟨b,qa,qb⟩:=q
  obtain⟨z,bz,rv,ht⟩:=ok a _ qa
  obtain⟨u,v,rfl,ru,rv'⟩:=Vals.two rv
  cases(show u=Wm b from ru)
  refine⟨(p.1,b,v) :: ps,.cons ⟨rfl,qb,rv'⟩ r1,by simp[r2],fun j t' p' h1 h2=>?_⟩
  cases j with
  | zero =>
   simp at h1 h2
   subst h1 h2
   exact⟨rQ ok qb,by simpa using ht⟩
  | succ j=>exact r3 j t' p' (by simpa using h1) (by simpa using h2)
def mO(acc kvs:List #[59]):List #[59]:=kvs.foldl (fun a p=>putK a p.1 p.2) acc
theorem pJ:∀ (kvs acc:List #[59]),(mO acc kvs).length<=acc.length+kvs.length
 | [],acc=>jE _
 | p :: kvs,acc=>by
  have h1:=pJ kvs (putK acc p.1 p.2)
  have h2:=mD acc p.1 p.2
  show(mO (putK acc p.1 p.2) kvs).length<=_
  rw[jT]
  omega
theorem KT.merge:∀ {kvs:List #[59]} {ps:List #[52]} {acc:List #[59]} {xs:List #[52]},KT H kvs ps->KT H acc xs->KT H (mO acc kvs) (Dp xs ps)
 | [],[],_,_,.nil,r=>r
 | p :: kvs,q :: ps,acc,xs,.cons h t,r=>by
  obtain⟨e,hb,rv⟩:=h
  have s:=r.put p.1 hb rv
  rw[e]at s
  have i:=KT.merge t s
  show KT H (mO (putK acc p.1 p.2) kvs) (Dp (storedH xs q.1 q.2.1 q.2.2) ps)
  rw[e]
  exact i
inductive aaD (xs:List V) (H:Hp) (Q:VK):Prop
 | mk (l:_) (ts:_) (kvs:_) (_:xs=[.ref l]) (_:H l=some (.lst (ts.map V.ref))) (_:N1 H ts kvs) (_:∀ D,H D=none->Q #[66] (upd H D (.dT (mO [] kvs))))
theorem HR(hc:X.calm=true)(hu:X.A.units+2<cLine):lH X (.type "dict") aaD:=by
 exists 5
 obtain⟨l,ts,kvs,rfl,hl,hp,q⟩:=h
 obtain⟨u,rfl,rx⟩:=vals1 r
 cases rx
 obtain⟨z,bz,n,rv,hln,e⟩:=I.Ik hl
 have ei:=Cu rv
 subst ei
 obtain⟨ps,r1,r2,r3⟩:=CH hp I.hok
 have hlen:kvs.length=ps.length:=Paired.length r1
 have zl:ps.length<=sizeLine:=by
  rw[r2]
  rw[jX]at z
  exact z
 refine B2 (knd:=bC X.prog X.w) hu #[85] e r2.symm r3 zl fun h' tk kp dd=>?_
 have ob:bN X.prog X.w (upd H s.heap.objs.size (.dT (mO [] kvs))) h' s.heap.objs.size (.dT (mO [] kvs)):=by
  obtain⟨o,es,ep,h1,h2,h3,h4,_,h5⟩:=dd
  refine⟨?_,beq_eq_false_iff_ne.mpr (Ne.symm (jR I.big)),_,(KT.merge r1 .nil).keeps fun c ys ec=>?_,o,es,ep,h1,h2,h3,h4,h5⟩
  ·have:=pJ kvs []
   simp only[JR]at this
   omega
  ·rw[aj (aq ec #[68])]
   exact ec
 exact⟨.ref _,_,I.laid (t' := tk) kp (jE _) ob,rfl,q _ #[68]⟩
end
theorem aeE{k:Nat}(hr:dD k A):A.units+2<cLine:=by
 have:=hr.un
 omega
end L2
namespace PySem
variable{prog:Qj}{w:World}{A:Around}{E:Value→Ql→Prop}{s:Ql}{d it:QQ}{es:Array QW}{ep:Nat}{Q:Option Value→Ql→Prop}
section
def DK(h:Heap)(d:QQ)(es:Array QW)(ep:Nat):Prop := ∃ o,h.get? d=some o/\o.ExactDict/\o.data=.dict es ep
theorem DK.ty(x:DK s.heap d es ep):s.TypeIs (.ref d) "dict" := let ⟨o,h1,h2,_⟩:=x;⟨o,h1,h2.1⟩
theorem DK.to{h h':Heap}(x:DK h d es ep)(k:∀ o,h.get? d=some o->h'.get? d=some o):DK h' d es ep:=let ⟨o,h1,r,r1⟩:=x;⟨o,k _ h1,r,r1⟩
theorem Ly{Q:Value->Ql->Prop}(lo:(d==qP)=false)(x:DK s.heap d es ep)(q:Q #[51] { s with heap:=s.heap.push { cls:=.type "dict_keyiterator",data:=.fields #[.ref d,.int 0 0,.int es.size 0,.int ep 0] } }):wpAny #[9] A (pyIter (.ref d)) Q E s:=by
 have ty:=x.ty
 obtain⟨ob,g1,g2,g3⟩:=x
 refine WW ty XT (qh XT ty F.entry_dict_iter ?_ (F.args_dict_iter_1 _))
 unfold Builtin.«dict.__iter__» Xu
 refine qd (qd (WO ty ?_))
 show wpAny _ _ (pure (Wm d)) _ _ s
 refine WS ?_
 show wpAny _ _ (yi d>>=_) _ _ s
 unfold yi
 rw[if_neg (fun z=>by rw[lo]at z;cases z)]
 refine qd (WS (qd (qp g1 g3 (qd (qq g1 g3 ?_)))))
 refine qd (WN (WS ⟨_,rfl,"dict_keyiterator",_,⟨_,jL _ rfl,rfl⟩,F.slot_dict_keyiterator_next.lookup,?_⟩))
 simpa[rawInt]using q
theorem LY{i:Nat}(y:s.heap.IsKeyIter it d i es.size ep)(x:DK s.heap d es ep)(hi:i<es.size)(q:∀ h',h'.IsKeyIter it d (i+1) es.size ep->Yf it s.heap h'->Q (some es[i].key) { s with heap:=h' }):wpAny #[9] A (pyNext #[100]) Q E s:=by
 have ty:=y.typeIs
 obtain⟨oi,i1,i2,i3⟩:=id y
 obtain⟨ob,g1,g2,g3⟩:=x
 unfold pyNext
 refine qd (qZ (qg (name:=Str.ofString "__next__") ty YS (qh YS ty Yz ?_ (Yy _))))
 refine qd (WS (qd (qd ?_)))
 first|refine qd (Wi ty (WS ?_))|refine qd (Wj ty (WS ?_))
 refine qd (wpAny_fieldsOf i1 i3 ?_)
 have own:yE "dict_keyiterator" = false:=by decide
 simp only[own,JA,if_false]
 show wpAny _ _ (if (Wm d==Wt)=true then _ else _) _ _ s
 rw[if_neg #[2]]
 refine qd (WS (qd (qp g1 g3 ?_)))
 rw[if_neg #[21]]
 refine qd (WS (qd (qq g1 g3 ?_)))
 rw[if_neg #[21]]
 refine WS ?_
 simp only[show ¬ ((i:Int)<0)from by omega,if_false,jA,JZ hi]
 refine qd ?_
 first|refine qd (Wi ty (WS ?_))|refine qd (Wj ty (WS ?_))
 refine qd (WD ty ?_)
 show wpAny _ _ (setField #[100] 1 (rawInt ((i:Int)+1))>>=_) _ _ s
 refine qd (We i1 i3 #[21] ?_)
 have y2:(s.heap.update it (Obj.mapFields (·.setIfInBounds 1 (rawInt ((i:Int)+1))))).IsKeyIter it d (i+1) es.size ep:=⟨_,JD _ i1 (Obj.isFreed_of_fields (Obj.data_mapFields i3 _)),(Obj.cls_mapFields ..).trans i2,by rw[Obj.data_mapFields i3];simp[rawInt]⟩
 refine qd (WB (qd (WD (s:={ s with heap:=s.heap.update it (Obj.mapFields (·.setIfInBounds 1 (rawInt ((i:Int)+1)))) }) y2.typeIs ?_)))
 show wpAny _ _ (pure es[i].key) _ _ _
 exact WS (WS ⟨_,rfl,WS (q _ y2 (Yj ..))⟩)
theorem P0(hh:A.handled=none)(y:s.heap.IsKeyIter it d es.size es.size ep)(x:DK s.heap d es ep)(q:∀ h',ya it s.heap h'->Q none { s with heap:=h' }):wpAny #[9] A (pyNext #[100]) Q E s:=by
 have ty:=y.typeIs
 obtain⟨oi,i1,i2,i3⟩:=id y
 obtain⟨ob,g1,g2,g3⟩:=x
 unfold pyNext
 refine qd (qZ (qg (name:=Str.ofString "__next__") ty YS (qh YS ty Yz ?_ (Yy _))))
 refine qd (WS (qd (qd ?_)))
 first|refine qd (Wi ty (WS ?_))|refine qd (Wj ty (WS ?_))
 refine qd (wpAny_fieldsOf i1 i3 ?_)
 have own:yE "dict_keyiterator" = false:=by decide
 simp only[own,JA,if_false]
 show wpAny _ _ (if (Wm d==Wt)=true then _ else _) _ _ s
 rw[if_neg #[2]]
 refine qd (WS (qd (qp g1 g3 ?_)))
 rw[if_neg #[21]]
 refine qd (WS (qd (qq g1 g3 ?_)))
 rw[if_neg #[21]]
 refine WS ?_
 simp only[show ¬ ((es.size:Int)<0)from by omega,if_false,jA,Array.getElem?_eq_none (jE es.size)]
 refine qd ?_
 first|refine qd (Wi ty (WS ?_))|refine qd (Wj ty (WS ?_))
 show wpAny _ _ (setField #[100] 0 .none>>=_) _ _ s
 refine qd (We i1 i3 #[21] ?_)
 show wpAny _ _ (newExc (.type "StopIteration") []>>=_) _ _ _
 refine qd ?_
 simp only[newExc,newTuple]
 refine qd (WN (qd (m:=firstArgMember _ _) (WQ (a:=Wt) (by first|rfl|(simp only[firstArgMember];rfl)) (WN ?_ (by size_fits)))) (by size_fits))
 simp only[raiseNew]
 refine qd (wpAny_handled ?_)
 rw[show A.in1.handled=none from hh]
 refine(qd (WS (wpAny_throw ?fin)))
 refine(qd (WC (T := "StopIteration") (b:=true) ⟨_,(jL _ rfl),rfl⟩ qD ?_))
 exact WS (q _ (((Yj ..).extBut.push _).push _))
theorem Tj(hh:A.handled=none)(I d:QQ)(ne:d≠I)(es:Array QW)(ep:Nat):
  Walks prog w A I [I,d] [I] es.size (fun i v=>∃ hi:i<es.size,v=es[i].key) (fun i h=>h.IsKeyIter I d i es.size ep/\DK h d es ep) where
 sub:=fun b hb=>by simp at hb;simp[hb]
 frame:=fun _ _ _ st hk=>⟨st.1.at fun o e=>hk I #[21] o e,st.2.to fun o e=>hk d #[21] o e⟩
 item:=fun i s Q E hi st hQ=>LY st.1 st.2 hi fun h' y2 sb=>hQ _ h' s.toks ⟨hi,rfl⟩ ⟨y2,st.2.to fun o e=>sb.extBut d o ne e⟩ fun b o hb e=>sb.extBut b o (fun h=>hb (by simp[h])) e
 done:=fun s Q E st hQ=>P0 hh st.1 st.2 fun h' he=>hQ h' s.toks fun b o hb e=>he b o (fun h=>hb (by simp[h])) e
 self:=fun _ _ _ _ st hQ=>wpAny_pyIter_keyiter st.1 hQ
end
theorem PySem.W.ab1(lo:(d==qP)=false):PySem.W.KdlSrc prog w "dict" d d es.size (fun i v=>∃ hi:i<es.size,v=es[i].key) (fun h=>DK h d es ep) where
 type:=fun _ x=>x.ty
 there:=fun _ x=>let ⟨_,h1,_,_⟩:=x;⟨jJ h1,jJ h1⟩
 keep:=fun _ _ x hk=>x.to fun o e=>hk d #[81] o e
 notList:=by decide
 notTuple:=by decide
 hint:=fun _ _ _ _ x hq=>PySem.W.kdl_hint_dict x.ty hq
 iter:=fun _ s hh x=>⟨_,_,(fun _ _ q=>Ly lo x q),Tj hh _ d (let ⟨_,h1,_,_⟩:=x;jR (jJ h1)) es ep,⟨⟨_,jL _ rfl,rfl,rfl⟩,x.to fun o e=>jC _ e⟩⟩
end PySem
namespace L2
open PySem PySem.Spec PyProof.Rows
variable{X:Cx}{H:Hp}{K:Wl}{a f d:QQ}{xs:List V}{ix:List (Option Nat)}{te tl:TE}{σ:St}{Qd:QQ→Hp→Prop}{P prog:Qj}{w:World}{mg:Qm→Option Value}{base h:Heap}{CX:IW}{fd:QY}{ps:List Qm}{pins:List (QQ×Obj)}{s:Ql}{A:Around}{i:Int}{u:Value}{n:Nat}{o:Obj}{kvs:List (List Key×V)}{tg l:Expr}{E:Value→Ql→Prop}{pos:Pos}
section
def J1(H:Hp):List QQ->List #[59]->Prop:=Qh fun b p=>H b=some (.tup (p.1.map kV))
theorem KT.keys:∀ {kvs:List #[59]} {xs:List #[52]},KT H kvs xs->J1 H (xs.map fun q=>q.2.1) kvs
 | [],[],.nil=>.nil
 | _ :: _,_ :: _,.cons h t=>.cons h.2.1 (KT.keys t)
inductive ae8 (xs:List V) (H:Hp) (Q:VK):Prop
 | mk (p:_) (kvs:_) (_:xs=[.ref p]) (_:H p=some #[105]) (_:∀ l bs,H l=none->J1 H bs kvs->Q (.ref l) (upd H l (.lst (bs.map V.ref))))
theorem N6(hc:X.calm=true):lH X (.type "list") ae8:=by
 exists 5
 obtain⟨p,kvs,rfl,hp,q⟩:=h
 obtain⟨u,rfl,rx⟩:=vals1 r
 cases rx
 obtain⟨hz,lo,xs,kt,o,es,ep,h1,h2,h3,h4,h5⟩:=(show bN X.prog X.w H s.heap p #[105]from I.hok p _ hp)
 have hlen:kvs.length=xs.length:=Paired.length kt
 have sz:es.size=xs.length:=by
  have:=congrArg zG h4
  rw[jX]at this
  simpa using this
 refine XR (PySem.W.ab1 (es:=es) (ep:=ep) lo) #[85] ⟨o,h1,h2,h3⟩ (by rw[sz,<- hlen];exact hz) fun h' tk acc c' kp e Ba=>?_
 have ea:acc.toList=(xs.map fun q=>q.2.1).map Wm:=by
  refine List.ext_getElem? fun j=>?_
  rcases Jb j es.size with hj|hj
  ·have hja:j<acc.size:=by rw[Ba.1];exact hj
   obtain⟨hi,ev⟩:=Ba.2 j acc[j] (JZ hja)
   have ek:es[j]=entryOfKey (qQ (bC X.prog X.w)) (xs[j]'(by rw[<- sz];exact hj)):=by
    have:=congrArg (fun l=>l[j]?) h4
    simp only[JX,jN]at this
    rw[JZ hj,jB (by rw[<- sz];exact hj)]at this
    exact Option.some.inj this
   rw[JX,JZ hja,ev,ek,jN,jN,jB (by rw[<- sz];exact hj)]
   rfl
  ·rw[Jg (by rw[Jd,Ba.1];exact hj),Jg (by rw[jX,jX,<- sz];exact hj)]
 have rv:∀ bs:List QQ,Vals (bs.map V.ref) (bs.map Wm):=fun bs=>by
  induction bs with
  | nil=>exact .nil
  | cons b bs ih=>exact .cons rfl ih
 have ob:bN X.prog X.w (upd H s.heap.objs.size (.lst ((xs.map fun q=>q.2.1).map V.ref))) h' s.heap.objs.size (.lst ((xs.map fun q=>q.2.1).map V.ref)):=by
  refine⟨by rw[jX,jX,<- hlen];exact hz,acc.toList,c',by rw[ea];exact rv _,?_⟩
  rw[Zb]
  exact e
 exact⟨.ref _,_,I.laid (t' := tk) kp (jE _) ob,rfl,q _ _ #[68] (KT.keys kt)⟩
end
theorem Ob{g:TG}(Pv:QQ->Nat->List V->Hp->Prop)(hg:∀ (T:QQ) (σ:St) (H:Hp) (Q:St->Hp->Prop) (i:Int) (x:V),H T=some #[61]->Q ((σ.set 0 (some (.int i))).set 1 (some x)) H->g (.ref T) σ H Q)(h0:∀ D,H D=none->Pv D 0 [] #[83])(hl:∀ D i ys H',i<=xs.length->Pv D i ys H'->oM K H' a xs)(hs:∀ D i x ys H' T (Q':VK),H D=none->xs[i]?=some x->H' D=some #[93]->Pv D i ys H'->H' T=none->#[8] ->
   te ((#[73].set 0 (some (.int i))).set 1 (some x)) (upd H' T #[61]) Q')(hd:∀ D ys H',H D=none->H' D=some #[93]->Pv D xs.length ys H'->Qd D H'):AD (RM K a) ix g te σ H Qd:=by
 refine Oa (n:=xs.length) (item:=fun i=>xs.getD i .non) Pv hg h0 (fun D i ys H' hi p=>?_) (fun D ys H' p=>⟨xs,hl D _ ys H' (jE _) p,jE _⟩) (fun D i ys H' T Q' hD hi hy p hT k=>?_) hd
 ·have q:=hl D i ys H' (zK hi) p
  refine⟨⟨xs,xs[i],q,jB hi⟩,fun x H2 y=>?_⟩
  obtain⟨T,x0,rfl,hT,rfl,y⟩:=y
  have e:=y xs q
  exists T,rfl,hT
  show _=upd H' T (.tup [.int i,xs.getD i .non])
  rw[jM,e]
  rfl
 ·have e:xs.getD i .non=xs[i]:=by rw[jM,jB hi];rfl
  show te ((#[73].set 0 (some (.int i))).set 1 (some (xs.getD i .non))) (upd H' T (.tup [.int i,xs.getD i .non])) Q'
  rw[e]
  exact hs D i xs[i] ys H' T Q' hD (jB hi) hy p hT k
theorem bc.or{k:Nat}{sp sp':Sp}(F:bc P w K mg base CX k f fd ps sp)(F':bc P w K mg base CX k f fd ps sp'):
  bc P w K mg base CX k f fd ps (fun vs H Q E=>sp vs H Q E\/sp' vs H Q E):=
 ⟨fun vs H Q E q=>q.elim (F.len vs H Q E) (F'.len vs H Q E),fun A outer s H args us vs Q E hr he hb hv hs=>hs.elim (F.run A outer s H args us vs Q E hr he hb hv) (F'.run A outer s H args us vs Q E hr he hb hv)⟩
def Tn(K:Wl)(H:Hp):Nat->V->V->Prop
 | 0,x,y=>∃ i:Int,x=.int i/\y=.int i
 | n+1,x,y=>(∃ i:Int,x=.int i/\y=.int i)\/∃ a b xs ys,x=.ref a/\y=.ref b/\sQ K H a xs/\sQ K H b ys/\Qh (Tn K H n) xs ys
theorem wB{α β:Type}{F:α->β->Prop}:∀ {xs:List α} {ys:List β} {j:Nat} (h1:j<xs.length) (h2:j<ys.length),Qh F xs ys->F xs[j] ys[j]
 | _,_,j,h1,_,.nil=>absurd h1 (zt _)
 | _,_,0,_,_,.cons a _=>a
 | _,_,j+1,h1,h2,.cons _ t=>wB (j:=j) (by simpa using h1) (by simpa using h2) t
section
theorem P4{v:Value}(ru:RelV (.int i) u)(rv:RelV (.int i) v):Yw A s u v true:=by
 obtain⟨t,rfl⟩:=(show ∃ t,u=YT i t from ru)
 obtain⟨t',rfl⟩:=(show ∃ t,v=YT i t from rv)
 have z:=XC (A:=A) (s:=s) i t i t'
 rw[beq_self_eq_true]at z
 exact z
theorem abD(ih:∀ {A:Around} {x y:V} {u v:Value},A.units+n<cLine->Tn X.K H n x y->RelV x u->RelV y v->Yw A s u v true){b:QQ}{ys:List V}(I:Inv X pins σ H s)(hu:A.units+(n+1)<cLine)(ha:sQ X.K H a xs)(hb:sQ X.K H b ys)(p:Qh (Tn X.K H n) xs ys):SeqAt.RcAt A s #[50] (.ref b) true:=by
 obtain⟨bz,r1,p1,_⟩:=I.tuple ha
 obtain⟨jts,r2,p2,_⟩:=I.tuple hb
 have l1:=r1.length
 have l2:=r2.length
 have l3:=p.length
 have q:=xt (A:=A) (e:=fun _=>true) p1 p2 #[0] fun j h1 h2=>by
  have j1:j<xs.length:=by simp at h1;omega
  have j2:j<ys.length:=by omega
  obtain⟨u1,e1,q1⟩:=r1.get (i:=j) (x:=xs[j]) (by simp[j1])
  obtain⟨u2,e2,q2⟩:=r2.get (i:=j) (x:=ys[j]) (by simp[j2])
  have g1:bz.toArray[j]=u1:=by
   have:=(jc.mp e1).2
   simpa using this
  have g2:jts.toArray[j]=u2:=by
   have:=(jc.mp e2).2
   simpa using this
  rw[g1,g2]
  exact ih (show A.units+1+n<cLine by omega) (wB j1 j2 p) q1 q2
 have e:((jd (min bz.toArray.size jts.toArray.size)).all (fun _=>true)&&bz.toArray.size==jts.toArray.size)=true:=by
  simp
  omega
 rw[e]at q
 exact q
theorem Tn.at(I:Inv X pins σ H s):∀ (n:Nat) {A:Around} {x y:V} {u v:Value},A.units+n<cLine->Tn X.K H n x y->RelV x u->RelV y v->Yw A s u v true
 | 0,A,x,y,u,v,_,h,ru,rv=>by
  obtain⟨i,rfl,rfl⟩:=h
  exact P4 ru rv
 | n+1,A,x,y,u,v,hu,h,ru,rv=>by
  rcases h with⟨i,rfl,rfl⟩|⟨a,b,xs,ys,rfl,rfl,ha,hb,p⟩
  ·exact P4 ru rv
  ·cases ru
   cases rv
   by_cases e:a=b
   ·subst e;exact XW _
   ·exact xp e (abD (fun {A x y u v} h1 h2 h3 h4=>Tn.at I n h1 h2 h3 h4) I hu ha hb p)
end
theorem aeF{k:Nat}(hr:dD k A):A.units+3<cLine:=by
 have:=hr.un
 omega
section
open Classical in
noncomputable def isR(H:Hp)(ns:List Int)(u:Value):Bool:=decide (∃ b,u=Wm b/\H b=some (.tup #[34]))
end
section
inductive aab (K0:Wl) (n:Nat) (x:V) (y:V) (H:Hp) (Q:VK):Prop
 | mk (a:_) (b:_) (xs:_) (ys:_) (_:x=.ref a) (_:y=.ref b) (_:sQ K0 H a xs) (_:sQ K0 H b ys) (_:Qh (Tn K0 H n) xs ys) (_:Q (.bl false) H)
theorem Ip(n:Nat)(hu:X.A.units+(n+1)<cLine):BS X (qB .NotEq) (aab X.K n):=by
 intro pins s σ H x y v u Q I r1 r2 h
 obtain⟨a,b,xs,ys,rfl,rfl,ha,hb,p,q⟩:=h
 cases r1
 cases r2
 obtain⟨bz,r1,p1,_⟩:=I.tuple ha
 obtain⟨jts,r2,p2,_⟩:=I.tuple hb
 have l1:=r1.length
 have l2:=r2.length
 have l3:=p.length
 refine xh (e:=fun _=>true) p1 p2 #[0] (fun j h1 h2=>?_) X.prog X.w X.xe _ ⟨.bl false,H,I,?_,q⟩
 ·have j1:j<xs.length:=by simp at h1;omega
  have j2:j<ys.length:=by omega
  obtain⟨u1,e1,q1⟩:=r1.get (i:=j) (x:=xs[j]) (by simp[j1])
  obtain⟨u2,e2,q2⟩:=r2.get (i:=j) (x:=ys[j]) (by simp[j2])
  have g1:bz.toArray[j]=u1:=by
   have:=(jc.mp e1).2
   simpa using this
  have g2:jts.toArray[j]=u2:=by
   have:=(jc.mp e2).2
   simpa using this
  rw[g1,g2]
  exact Tn.at I n (by show X.A.units+1+n<cLine;omega) (wB j1 j2 p) q1 q2
 ·show Yi _=Yi _
  simp
  omega
end
section
theorem Inv.abI(I:Inv X pins σ H s)(e:H a=some #[105])(ho:s.heap.get? a=some o):Inv X pins σ (upd H a (.rB o #[105])) s:=by
 have nt:∀ b u,H b=some u->(u=.dT kvs->False)->b≠a:=fun b u q d=>aQ q e d
 refine I.un (t' := s.toks) ⟨fun b u q _ _ _=>q,fun b u q _ _ _=>⟨u.slots,q⟩,fun b u q n _=>?_,fun b u q _=>⟨u,q⟩,fun b xs q=>?_,fun b u xs q=>?_,fun b ps q=>⟨#[],?_⟩⟩ (fun b u q=>?_)
 ·rw[aj (fun z=>by rw[z,e]at n;cases n)];exact n
 ·rw[aj (nt b _ q #[2])];exact q
 ·rw[aj (nt b _ q #[2])];exact q
 ·rw[aj (nt b _ q #[2]),q];simp
 ·by_cases hb:b=a
  ·subst hb
   rw[ae]at q
   cases q
   exists ho
   exact(I.hok b _ e).Az (fun c v _ z=>z) (fun c z=>by rw[aj (nt c _ z (by intro y;cases y))];exact z) fun c xs z=>by rw[aj (nt c _ z (by intro y;cases y))];exact z
  ·rw[aj hb]at q
   exact(I.hok b u q).Az (fun c v _ z=>z) (fun c z=>by rw[aj (nt c _ z (by intro y;cases y))];exact z) fun c xs z=>by rw[aj (nt c _ z (by intro y;cases y))];exact z
end
def adR(a:QQ)(o:Obj)(kvs:List #[59]):It:=
 ⟨fun i H=>i<kvs.length/\H a=some (.rB o #[105]),fun i H x H'=>H'=H/\∃ b,x=.ref b/\∀ p,kvs[i]?=some p->H b=some (.tup (p.1.map kV)),fun i H=>i=kvs.length/\H a=some (.rB o #[105])⟩
theorem Cs(ok:iP P w H h)(e:H a=some (.rB o #[105])):∃ (bs:List QQ) (es:Array QW),DK h a es (oq o)/\(a==qP)=false/\h.get? a=some o/\es.size=kvs.length/\bs.length=kvs.length/\J1 H bs kvs/\∀ (j:Nat) (hj:j<es.size) (hb:j<bs.length),es[j].key=.ref bs[j]:=by
 obtain⟨ho,z,lo,xs,kt,ob,es,ep,h1,h2,h3,h4,h5⟩:=ok a _ e
 rw[ho]at h1
 cases h1
 have ee:oq o=ep:=by unfold oq;rw[h3]
 have hlen:kvs.length=xs.length:=Paired.length kt
 have sz:es.size=xs.length:=by
  have:=congrArg zG h4
  rw[jX]at this
  simpa using this
 refine⟨xs.map fun q=>q.2.1,es,⟨o,ho,h2,by rw[ee];exact h3⟩,lo,ho,by omega,by rw[jX];omega,KT.keys kt,fun j hj hb=>?_⟩
 have ek:es[j]=entryOfKey (qQ (bC P w)) (xs[j]'(by rw[<- sz];exact hj)):=by
  have:=congrArg (fun l=>l[j]?) h4
  simp only[JX,jN]at this
  rw[JZ hj,jB (by rw[<- sz];exact hj)]at this
  exact Option.some.inj this
 rw[ek,JW]
 rfl
theorem Po(a it:QQ)(o:Obj)(kvs:List #[59]):Turn P w K tg (adR a o kvs) [it] it (fun i h=>h.IsKeyIter it a i kvs.length (oq o)) where
 mem:=by simp
 obj:=fun i h st b hb=>by
  exists 10
  subst e
  obtain⟨o,e,c,d⟩:=st
  exists 8
 keep:=fun i h h' st k=>by
  obtain⟨ob,e,r⟩:=st
  exact⟨ob,k it #[21] ob e,r⟩
 item:=by
  exists 2
  exists 17
  obtain⟨hi,U7⟩:=hg
  obtain⟨bs,es,dat,lo,ho,sz,lb,kt,hk⟩:=Cs I.hok U7
  exists 3
  rw[<- sz]at st
  refine LY st dat #[0] fun h' FF sb=>?_
  have I1:Inv X pins σ H { s with heap:=h' }:=I.turned (t' := s.toks) (fun b o hb e=>(sb.2 b hb).trans e) f0 f1 f3 f4 f5
  rw[sz]at FF
  obtain⟨ob,e,c,d⟩:=id FF
  refine⟨_,rfl,F6 (s:={ s with heap:=h' }) e c d #[7] ⟨.ref (bs[i]'#[0]),H,I1,?_,⟨rfl,_,rfl,fun p' Sg=>?_⟩,FF,fun b hb=>(hf b hb).1⟩⟩
  ·rw[hk i #[0] #[0]]
   rfl
  ·have:=wB (j:=i) #[0] hi kt
   rw[jB hi]at Sg
   cases Sg
   exact this
 done:=by
  exists 2
  exists 17
  obtain⟨hi,U7⟩:=hg
  obtain⟨bs,es,dat,lo,ho,sz,lb,kt,hk⟩:=Cs I.hok U7
  exists 3
  subst hi
  rw[<- sz]at st
  exact P0 #[85] st dat fun h' eb=>⟨rfl,I.turned (t' := s.toks) #[70] f0 f1 f3 f4 f5⟩
 self:=fun A i s Q E st h=>by
  refine WW st.typeIs YD (qh YD st.typeIs Ym ?_ (Yl _))
  show wpAny _ _ (ret #[100]) _ _ s
  exact WS ⟨_,rfl,"dict_keyiterator",_,st.typeIs,PySem.F.slot_dict_keyiterator_next.lookup,h⟩
section
def aeG(tl:TE):TI:=fun σ H R=>tl σ H fun x H1=>∃ a kvs,x=.ref a/\H1 a=some #[105]/\∀ o,R (adR a o kvs) (upd H1 a (.rB o #[105]))
theorem aao(hl:PE X l tl):PI X tg l (aeG tl):=by
 exists 14
 refine cD (hl pins s σ H _ I h) fun v s1 ⟨x,H1,I1,r1,q1⟩=>?_
 obtain⟨a,kvs,e,hd,q⟩:=q1
 subst e
 cases r1
 obtain⟨z,lo0,xs,kt0,ob,es0,ep,hg,rest⟩:=I1.hok a _ hd
 have I2:=I1.abI hd hg
 obtain⟨bs,es,dat,lo,ho,sz,lb,kt,hk⟩:=Cs I2.hok ae
 refine Ly lo dat ?_
 refine⟨s1.heap.objs.size,[s1.heap.objs.size],_,_,_,rfl,I2.kept (t' := s1.toks) fun b o e=>jC _ e,Po a _ ob kvs,⟨_,jL _ rfl,rfl,by rw[sz];rfl⟩,fun b hb=>?_,q ob⟩
 have e:b=s1.heap.objs.size:=by simpa using hb
 subst e
 exact I2.C6 (jE _) (I2.hok.fresh (jE _))
end
theorem N9(Pv:QQ->Nat->List V->Hp->Prop)(h0:∀ D,H D=none->Pv D 0 [] #[83])(hl:∀ D i ys H',i<=kvs.length->Pv D i ys H'->H' a=some (.rB o #[105]))(hs:∀ D i p b ys H' (Q':VK),H D=none->kvs[i]?=some p->H' b=some (.tup (p.1.map kV))->H' D=some #[93]->Pv D i ys H'->#[8] ->
   te (#[73].set 0 (some (.ref b))) H' Q')(hd:∀ D ys H',H D=none->H' D=some #[93]->Pv D kvs.length ys H'->Qd D H'):AD (adR a o kvs) ix (aX 0) te σ H Qd:=by
 intro D hD
 refine⟨fun i m σ' H'=>m=kvs.length-i/\i<=kvs.length/\(σ'=bB ix σ\/∃ t,σ'=#[73].set 0 t)/\∃ ys,H' D=some #[93]/\Pv D i ys H',⟨kvs.length,by simp,je _,.inl rfl,[],ae,h0 D hD⟩,?_⟩
 rintro i m σ' H' ⟨rfl,hi,hσ,ys,hy,p⟩
 have q:=hl D i ys H' hi p
 by_cases fM:i<kvs.length
 ·refine .inr ⟨⟨fM,q⟩,fun x H2 y=>?_⟩
  obtain⟨e1,b,rfl,e2⟩:=y
  subst e1
  have ex:=e2 kvs[i] (jB fM)
  have es:σ'.set 0 (some (.ref b))=#[73].set 0 (some (.ref b)):=by
   rcases hσ with z|⟨t,z⟩
   ·rw[z]
   ·rw[z,Ju]
  show te (σ'.set 0 (some (.ref b))) _ _
  rw[es]
  refine hs D i kvs[i] b ys _ _ hD (jB fM) ex hy p fun y H4 h4 hz p4=>⟨ys,h4,hz,kvs.length-(i+1),by omega,rfl,fM,.inr ⟨_,rfl⟩,ys++[y],ae,p4⟩
 ·have e:i=kvs.length:=by omega
  subst e
  exact .inl ⟨⟨rfl,q⟩,hd D ys H' hD hy p⟩
def afw(RE:List (TE×TE)):TE:=fun σ H Q=>∀ p,H p=none->IQ RE σ (upd H p (.dT [])) fun ps H2=>H2 p=some (.dT [])/\∃ b k y,ps=[(.ref b,y)]/\H2 b=some (.tup (k.map kV))/\Q (.ref p) (upd H2 p (.dT [(k,y)]))
theorem Ta{r:Value}{Q:PUnit->Ql->Prop}(h:wpAny #[9] A (dictSet d u r) (fun _ s'=>Q PUnit.unit s') E s):wpAny #[9] A (storeAll d [(u,r)]) Q E s:=by
 unfold storeAll
 simp only[Zz,List.forIn_nil]
 exact qd (qd (WL h (fun _ s' q=>WS (WS q)) fun _ _ e=>e))
theorem Mb{k v:Expr}{RE:List (TE×TE)}(hu:X.A.units+1<cLine)(h:PPs X pos [some k] [v] RE):PE X (.Dict [some k] [v] pos) (afw RE):=by
 intro pins s σ H Q I q
 have hn:=I.hok.fresh (jE s.heap.objs.size)
 have I1:=I.laid (a:=s.heap.objs.size) (o:=.dT []) (h' := s.heap.push { cls:=.type "dict",data:=.dict #[] }) (t' := s.toks) (fun _ _ q=>jC _ q) (jE _) (TU s.heap I.big)
 refine wpAny_Dict_any rfl rfl #[2] (by show 1<=15;decide) (cD (h pins _ σ _ _ I1 (q _ hn)) fun ws s2 ⟨ps,H2,I2,rel,e,b,kk,y,ep,hb,q2⟩=>?_)
 subst ep
 obtain⟨u,rr,hws,ru,ry⟩:∃ u rr,ws=[(u,rr)]/\RelV (.ref b) u/\RelV y rr:=by
  cases rel with
  | cons r t =>
   cases t
   exact⟨_,_,rfl,r.1,r.2⟩
 subst hws
 have eu:u=Wm b:=ru
 subst eu
 obtain⟨z,hd,xs,rl,dd⟩:=TV I2.hok e
 cases rl
 refine Ta (qu (hsz:=by decide) (show X.A.units<cLine by omega) (rQ I2.hok hb) dd fun h' Od hs=>⟨.ref s.heap.objs.size,_,?_,rfl,q2⟩)
 obtain⟨q',es,ep,hq,h2,h3,h4,_,h5⟩:=Od
 refine wo I2 (by rw[e];exact True.intro) hs ⟨q',hq⟩ ⟨by show 1<=sizeLine;decide,hd,_,(KT.put (H:=H2) (kvs:=[]) (xs:=[]) .nil kk hb ry).keeps fun c ys ec=>?_,q',es,ep,hq,h2,h3,h4,h5⟩
 rw[aj (aQ ec e #[46])]
 exact ec
end L2
namespace PySem
variable{prog:Qj}{w:World}{A:Around}{E Q:Value→Ql→Prop}{s:Ql}{d:QQ}{n:Nat}
theorem Fx(d:QQ)(n:Nat)(hd:(d==qP)=false):
  MeetsIn prog w (Builtin.«dict.__len__» { pos:=[Wm d] }) fun _ R s=>(∃ o es ep,s.heap.get? d=some o/\o.data=Data.dict es ep/\es.size=n)/\R (.ok (.ret (YT (n:Int) s.toks))) { s with toks:=s.toks+1 }:=
 MeetsIn.of_wp fun A R s ⟨⟨o,es,ep,h1,h2,h3⟩,h⟩=>by
  show wpAny #[9] A.in1 (do
   let n1 <- dictSize d
   let n2 <- Xv d
   retInt ((n1:Int)+(n2:Int))) _ _ _
  refine qd (qd (qp h1 h2 (WS (qd (wpAny_pendingCount_other hd (wpAny_ret_mkInt ?_))))))
  rw[Zl,h3]
  exact h
theorem ab7(hd:(d==qP)=false)(ty:s.TypeIs (.ref d) "dict")(hx:∃ o es ep,s.heap.get? d=some o/\o.data=Data.dict es ep/\es.size=n)(apL:(n:Int)<2^63)(h:Q (YT (n:Int) (s.toks+1)) { s with toks:=s.toks+1+1 }):
  wpAny #[9] A (call (Wz "len") [Wm d]) Q E s:=by
 refine Calls.call_function_entry kind_len plain_len entry_len (args_len1 (Wm d)) ?_
 show wpAny _ _ _ _ _ _
 refine qd (WS (qd (qg ty Xa (Qu Xa ty F.entry_dict_len (F.args_dict_len_1 _) (Fx d n hd) ⟨hx,?_⟩))))
 show wpAny _ _ _ _ _ _
 refine qd (WB (WS (qd (wpAny_letGo ?_))))
 show wpAny _ _ (if _ then _ else _) _ _ _
 rw[if_neg #[0]]
 show wpAny _ _ (if _ then _ else _) _ _ _
 rw[if_neg #[0]]
 exact qd (wpAny_mkInt (WS ⟨_,rfl,h⟩))
end PySem
namespace L2
open PySem PySem.Spec PyProof.Rows
variable{X:Cx}
inductive K2 (xs:List V) (H:Hp) (Q:VK):Prop
 | mk (a:_) (kvs:_) (_:xs=[.ref a]) (_:H a=some #[105]) (_:Q (.int kvs.length) H)
theorem RV:lH X (.builtin "len") (K2):=by
 exists 5
 obtain⟨a,kvs,rfl,ha,q⟩:=h
 obtain⟨u,rfl,rx⟩:=vals1 r
 cases rx
 obtain⟨hz,lo,xs,kt,o,es,ep,h1,h2,h3,h4,h5⟩:=(show bN X.prog X.w H s.heap a #[105]from I.hok a _ ha)
 have hlen:kvs.length=xs.length:=Paired.length kt
 have sz:es.size=xs.length:=by
  have:=congrArg zG h4
  rw[jX]at this
  simpa using this
 have dd:=(TV I.hok ha).2.2
 obtain⟨xs',_,dd⟩:=dd
 exact ab7 lo dd.typeIs ⟨o,es,ep,h1,h3,by rw[sz,<- hlen]⟩ (by rw[qL]at hz;omega) ⟨.int kvs.length,H,I.tok _,⟨_,rfl⟩,q⟩
end L2
namespace PySem
end PySem
namespace L2
open PySem PySem.Spec PyProof.Rows
variable{X:Cx}{pins:List (QQ×Obj)}{σ:St}{H:Hp}{s:Ql}{d C:QQ}{pos:Pos}{i:Nat}{x:Qm}{h:Heap}{P:Qj}{w:World}{ps:List Qm}{fz:List V}{sp:Sp}{e c:Expr}{es:List Expr}{E:XK}{st b₀:Stmt}{tc:TT}{body MM:List Stmt}{ts:TS}
abbrev NK:=Int×List Int
def Ae(x C d:QQ)(h:Heap):Prop := ∃ (o:Obj) (vs:Array Value),h.get? x=some o/\o.cls=.ref C/\o.dict=some d/\o.data=.fields vs
theorem Ae.at{x:QQ}(z:Ae x C d h):BN x C h:=let ⟨o,vs,a,b,_,c⟩:=z;⟨o,vs,a,b,c⟩
theorem iP.agR{ea:QQ}(x:iP P w H h)(z:H ea=ZW)(p:Ae ea C d h):iP P w (upd H ea (.ext (Ae ea C d))) h:=by
 intro a u e
 by_cases q:a=ea
 ·subst q
  rw[ae]at e
  cases e
  obtain⟨ob,vs,e1,e2,e3,e4⟩:=p
  exists ⟨ob,vs,e1,e2,e3,e4⟩,⟨ob,e1⟩
  rintro h1 h2 ⟨ob',vs',f1,f2,f3,f4⟩ k
  exact⟨ob',vs',k _ f1,f2,f3,f4⟩
 ·rw[aj q]at e
  exact(x a u e).Az (fun b v _ f=>f) (fun b f=>by rw[aj (aq f z)];exact f) fun b xs f=>by rw[aj (aq f z)];exact f
section
def adP(X:Cx)(pins:List #[41])(σ:St)(E:XK)(e:Value)(s':Ql):Prop := ∃ s H,Inv X pins σ H s/\PB X.prog X.w X.stack H s E e s'
def agB(X:Cx)(e:Expr)(t:TXE):Prop := ∀ (pins:List #[41]) (s:Ql) (σ:St) (H:Hp) (Q:VK) (E:XK),Inv X pins σ H s->t σ H Q E->wpAny #[5] X.A (eval e X.env) #[54] (adP X pins σ E) s
def adU(X:Cx)(st:Stmt)(t:TX):Prop := ∀ (pins:List #[41]) (s:Ql) (σ:St) (H:Hp) (D:Ends) (E:XK),Inv X pins σ H s->t D E σ H->wpAny #[5] X.A (exec st X.env) (SP X pins D) (adP X pins σ E) s
def PX2(X:Cx)(st:List Stmt)(t:TX):Prop := ∀ (pins:List #[41]) (s:Ql) (σ:St) (H:Hp) (D:Ends) (E:XK),Inv X pins σ H s->t D E σ H->wpAny #[5] X.A (execs st X.env) (SP X pins D) (adP X pins σ E) s
end
section
variable{j k:Nat}{p:Pos}{t:TA}
theorem wG(G:pO X.prog X.w X.K X.mg X.base x k ps fz sp)(hr:dD j X.A)(ha:PA X (e :: es) t)(hx:∀ e s,X.xe e s=False:=by intro _ _;rfl)(Fq:k<=j:=by decide)(hg:Gl X x:=by rfl)(tI:#[15]=false:=by decide)(he:qM (e :: es) X.env=#[16] :: qM es X.env:=by rfl)(rC:#[22].any (·.1)=false:=by rfl):
  agB X #[18] (aa4 sp fz t):=by
 obtain⟨f,fd,ds,hm,hk,hd,hb,F⟩:=G.ex
 intro pins s σ H Q E I h
 refine qS (iV I hg hm ?_ tI)
 refine YG (h₀:=X.base) I.ok.mod.kin hk (WL #[42] (fun us s1 ⟨vs,H1,I1,r,q⟩=>⟨I1.pF,?_⟩) fun e' s' z=>((hx e' s').mp z).elim) he rC
 have r2:Vals (vs++fz) (us++ds):=r.append hd
 have hl:(us++ds).length=ps.length:=by rw[<- r2.length];exact F.len _ _ _ _ q
 refine qf (qA (F.run X.A X.stack s1 H1 ⟨us,[]⟩ (us++ds) (vs++fz) Q E (hr.mono Fq) I1.R3 (hb s1 us I1.pF hl) r2 q) fun r' s' hq=>?_)
 cases r' with
 | error e'=>exact⟨s1,H1,I1,hq⟩
 | ok fl =>
  cases fl with
  | ret u=>exact I1.after hq
  | next=>exact False.elim hq
  | brk=>exact False.elim hq
  | cont=>exact False.elim hq
theorem Bx{t:TXE}(he:agB X e t)(hs:qO e none pos.line X.env=pure false:=by rfl):adU X (.Expr e pos) (aa8 t):=by
 intro pins s σ H D E I h
 exact qV (cD (he pins s σ H _ E I h) fun v s1 ⟨y,H1,I1,r1,q1⟩=>⟨σ,H1,I1,q1⟩) I.quiet hs
theorem wF{t:TX}(h:adU X st t):PX2 X [st] t:=by
 intro pins s σ H D E I q
 refine qw (cD (h pins s σ H D E I q) fun f s' hs=>?_)
 cases f with
 | next=>exact qx hs
 | brk=>exact hs
 | cont=>exact hs
 | ret u=>exact hs
theorem aaB{a b:List Stmt}{t u:TX}(hc:PT X c tc)(ha:PX2 X a t)(hb:PX2 X b u)(hx:∀ e s,X.xe e s=False:=by intro _ _;rfl):adU X (.If c a b pos) (aiP tc t u):=by
 intro pins s σ H D E I h
 refine wpAny_If (WL (hc pins s σ H _ I h) (fun d s1 ⟨H1,I1,q1⟩=>?_) fun e' s' z=>((hx e' s').mp z).elim)
 cases d with
 | true=>exact ha pins s1 σ H1 D E I1 q1
 | false=>exact hb pins s1 σ H1 D E I1 q1
end
section
variable{F:QQ}{n:Qm}{np W0:Pos}{tb:TX}
def aiI(C:QQ)(i:Nat)(tb:TX)(ts:TS):TS:=fun D σ H=>tb D (fun c dd H1=>c=.ref C/\∃ d,dd=some d/\∀ ea,H1 ea=none ->
 ts { nx:=fun σ' H'=>D.nx (σ'.set i none) H',rt:=D.rt,bk:=fun σ' H'=>D.bk (σ'.set i none) H',ct:=fun σ' H'=>D.ct (σ'.set i none) H' } (σ.set i (some #[108])) (upd H1 ea (.ext (Ae ea C d)))) σ H
theorem Rf(hN:X.N.Nodup)(hi:X.N[i]?=some n)(hx:X.env.scope.names.lookup n=some .local)(hm:X.mg x=some (.ref F))(hq:YR X.K #[20] (.ref F)=some true)(hb:PX2 X body tb)(hs:∀ ea,Fe (X.held ea) (b₀ :: MM) ts)(BK:X.stack=X.env :: X.outer:=by rfl)(MT:X.env.frame=some X.env.locals:=by rfl)(hg:Gl X x:=by rfl)(tI:#[15]=false:=by decide):
  PS X (.Try body [.ExceptHandler (some (.Name x np)) (some n) (b₀ :: MM) W0] [] [] pos) (aiI C i tb ts):=by
 exists 9
 refine qX (WL (hb pins s σ H D _ I h) (fun f s1 q=>?_) fun e s1 q=>?_)
 ·cases f with
  | next=>exact qx q
  | brk=>exact q
  | cont=>exact q
  | ret u=>exact q
 obtain⟨s0,H0,I0,ea,t,C',d,B,H',rfl,os,bare,un,hok,⟨f1,f2,f3,f4⟩,there,hn,hc,d',ed,k⟩:=q
 cases ed
 obtain rfl:C'=C:=yq hc
 have f3t:=f3
 rw[BK]at f3t
 have ean:s0.heap.get? ea=none:=by
  cases q:s0.heap.get? ea with
  | none=>rfl
  | some o =>
   by_cases hb:ea∈Ao X.stack
   ·exfalso
    obtain⟨oe,vs,_,_,_,he,_,_,hd,_⟩:=f4.ex
    have Ov:iP X.prog X.w H' s1.heap:=hok.kept fun b u q=>f1 b u q
    have J:Inv X pins σ H' s1:=I0.AQ (ch:=[]) os un Ov bare #[84]
    obtain⟨_,o',e',hnd⟩:=J.stack.mem hb
    rw[he]at e'
    cases e'
    exact hnd _ hd
   ·obtain⟨o',e'⟩:=there ea o q hb
    rw[f2]at e'
    cases e'
 have h0n:H0 ea=none:=I0.hok.none ean
 refine aeS (I0.ok.frames.trans (by rw[BK])) f3t MT f4 f1 f2 fun h4 a4 b4 w4 sm4=>?_
 refine X1 a4 b4 w4 fun h5 a5 b5 w5 sm5=>?_
 have sm:=sm4.trans sm5
 obtain⟨un5,aex⟩:=land I0 os bare un hok there f1 a5 sm
 have I5:Inv X pins σ H' { s1 with heap:=h5 }:=I0.AQ (ch:=[]) os un5 aex bare #[84]
 refine WA (Qz ?_) (by intro q;cases q)
 refine iV (X:=X.held ea) I5.held hg hm ?_ tI
 have ty5:Xg #[5] h5 (typeOf #[108]) (.ref C'):=by
  obtain⟨ob,_,_,_,_,e1,e2,_⟩:=w5.ex
  exact e2 ▸ (XQ e1).andThen .now
 refine(XZ (M:=model X.prog X.w) I5.pF ty5 hq).here ?_
 refine Qy (X1 a5 b5 w5 fun h6 a6 b6 w6 sm6=>?_)
 obtain⟨un6,aey⟩:=land I0 os bare un hok there f1 a6 (sm.trans sm6)
 have ex6:Ae ea C' d h6:=by
  obtain⟨oe,vs,_,_,_,he,hcl,hdi,hd,_⟩:=w6.ex
  exact⟨oe,vs,he,hcl,hdi,hd⟩
 have I6:Inv X pins σ (upd H' ea (.ext (Ae ea C' d))) { s1 with heap:=h6 }:=I0.AQ (ch:=[]) os (un6.more ean h0n) (aey.agR hn ex6) bare #[84]
 refine wa (X:=X.held ea) I6.held hN hi (.inl hx) (v:=.ref ea) rfl (fun s7 I7=>?_) (.inr hx)
 refine WL (hs ea pins s7 _ _ _ I7 (k ea hn)) (fun f s8 q8=>?_) fun _ _ z=>z.elim
 have fin:∀ {σ8:St} {H8:Hp} {Q:Unit->Ql->Prop},Inv (X.held ea) pins σ8 H8 s8->(∀ s9,Inv X pins (σ8.set i none) H8 s9->Q () s9)->wpAny #[5] X.A (do bindName X.env n .none;unbindBehindTheSuite X.env n W0) Q X.xe s8:=
  fun {σ8 H8 Q} J g=>Hw (v:=.non) (J.aba I.ok) hN hi hx g
 cases f with
 | next=>obtain⟨σ8,H8,J,q⟩:=q8;exact fin J fun s9 J9=>⟨_,H8,J9,q⟩
 | brk=>obtain⟨σ8,H8,J,q⟩:=q8;exact fin J fun s9 J9=>⟨_,H8,J9,q⟩
 | cont=>obtain⟨σ8,H8,J,q⟩:=q8;exact fin J fun s9 J9=>⟨_,H8,J9,q⟩
 | ret u=>obtain⟨v,σ8,H8,J,r,q⟩:=q8;exact fin J fun s9 J9=>⟨v,_,H8,J9,r,q⟩
end
end L2
namespace L2
variable{prog P:Qj}{w:World}{A:Around}{E Q:Value→Ql→Prop}{s:Ql}{K:Wl}{x name:Qm}{C d f:QQ}{vs:Array Value}{v dV:Value}{o:Obj}{mA mg:Qm→Option Value}{base:Heap}{st:Stmt}{fd:QY}{ps:List Qm}{sp:Sp}{fz:List V}{X:Cx}{e:Expr}{es:List Expr}{ta:TE}{j:Nat}
section
open PySem PySem.Spec PySem.W PySem.Builtin PySem.Builtin.ObjectAttr PyProof.Rows
variable{x:QQ}
theorem T6(c:Al K C)(X:K.In s.heap)(hx:s.heap.get? x=some o)(hc:o.cls=.ref C)(hdi:o.dict=some d)(hdt:o.data=.fields vs)(hn:s.heap.Ns1 d mA)(na:findIn K #[20] name=some none)(hh:hasDictIn K C=true)(hv:mA name=some v)(hhv:handedIn v=true)(h:Q v { s with toks:=s.toks+1 }):wpAny #[9] A (getAttr #[89] name true) Q E s:=by
 obtain⟨od,hod,hl⟩:=Hg hn
 have J:InstAt s.heap x o C (some od):=⟨hx,hc,by unfold notCls;rw[hdt],by rw[hdi];exact hod⟩
 have hf:findObj K C (some od) name=some (.value v):=findObj_own hh na rfl (by rw[hl,hv])
 obtain⟨hp,g,dr,t,os⟩:=s
 have L0:=J.type (M:=model prog w)
 have L1:=looks_findIn (M:=model prog w) X c.ga
 have L2:=looks_findIn (M:=model prog w) X c.gt
 have LF:=looks_find (M:=model prog w) X J hf
 have LB:Looks #[9] hp (isInstance #[89] #[60]) true:=L0.andThen (qF (M:=model prog w) X c.be)
 unfold getAttr getAttrBy
 refine qd (wpAny_mkText (WB (qd (L0.at (qd (L1.at ?_))))))
 have ne:(onTheHeap (Wm C)&&Wz "BaseException.__getattribute__" == Wz "object.__getattribute__")=false:=by
  have:(Wz "BaseException.__getattribute__" == Wz "object.__getattribute__")=false:=by decide +kernel
  rw[this];rfl
 dsimp only
 rw[ne]
 simp only[JA,if_false]
 unfold getAttrByItsOwn hookBefore
 rw[if_pos (show onTheHeap (Wm C)=true from rfl)]
 refine qd (L2.at ?_)
 refine qd (qZ (WB ?_))
 unfold callGetattribute
 rw[show(true&&onTheHeap (Wz "BaseException.__getattribute__"))=false from rfl]
 simp only[JA,if_false]
 unfold boundAndCalled
 rw[PySem.F.attrBase_ValueError.ga.bind #[89]]
 refine qd (WS ?_)
 refine qf (Qw PySem.F.attrBase_ValueError.ga.plain yh ?_)
 refine FY LB ?_
 unfold Builtin.«object.__getattribute__»
 refine qd (WS ?_)
 dsimp only
 refine qd ?_
 refine(show wpAny _ _ (pure _) _ _ _ from WS ?_)
 refine qd (L0.at ?_)
 refine qd (LF.at ?_)
 dsimp only
 refine WS ?_
 exact handed_on hhv h
end
open PySem PySem.Spec PyProof.Rows
section
theorem br.ah9{qual:Qm}{N:List Qm}{k:Nat}(F:br K x qual st dV f fd)(S:aJ N ps (ar st))(len:∀ vs H Q E,sp vs H Q E->vs.length=ps.length)(tH:∀ (cw:Value) (A:Around) (outer:List QX) (s:Ql) (H:Hp) (vs:List V) (Q:VK) (E:XK),dD k (A.deeper (envOfC qual (ar st) s.heap.objs.size f cw))->sp vs H Q E ->
   ∃ t,Fe (bP (PB P w) P w K mg base N qual (ar st) f cw A outer s H E) (dA st) t/\t { nx:=fun _ H'=>Q .non H',rt:=Q } (start N vs) H):bc P w K mg base (PB P w) (k+1) f fd ps sp:=by
 exists 6
 exact T4 lk Fm S len fun A outer s H vs Q E hr Lu=>tH cw A outer s H vs Q E hr Lu
theorem bc.calm{k:Nat}(F:bc P w K mg base (PB P w) k f fd ps sp):bc P w K mg base eB k f fd ps (fun vs H Q _=>sp vs H Q fun _ _ _=>False):=
 ⟨fun vs H Q E h=>F.len vs H Q _ h,fun A outer s H args us vs Q E hr he hb hv hs=>qA (F.run A outer s H args us vs Q (fun _ _ _=>False) hr he hb hv hs) fun r s' q=>by
  cases r with
  | ok fl=>cases fl<;>exact q
  | error e =>
   obtain⟨_,_,_,_,_,_,_,_,_,_,_,_,_,_,z⟩:=q
   exact z⟩
theorem pO.calm{k:Nat}(G:pO P w K mg base x k ps fz sp):bp P w K mg base x k ps fz (fun vs H Q _=>sp vs H Q fun _ _ _=>False):=by
 obtain⟨f,fd,ds,h1,h2,h3,h4,F⟩:=G.ex
 exact⟨f,fd,ds,h1,h2,h3,h4,F.calm⟩
end
section
variable{k:Nat}{y fl:Qm}{p pos dJ:Pos}{t:TA}{E:XK}
theorem SW(G:adQ X.prog X.w X.K X.mg X.base x C f k ps sp)(hr:dD j X.A)(hc:X.calm=true)(ht:ad2 X E)(ha:PA X (e :: es) t)(Fq:k+1<=j:=by decide)(hex:X.ex=[]:=by rfl)(hg:Gl X x:=by rfl)(tI:#[15]=false:=by decide)(he:qM (e :: es) X.env=#[16] :: qM es X.env:=by rfl)(rC:(backTo dJ (qM es X.env)).any (·.1)=false:=by rfl):
  PS X (.Raise (some (.Call (.Name x p) (e :: es) [] dJ)) none pos) (RD C sp [] E t):=by
 obtain⟨fd,hb,F⟩:=G.F
 exact SX G.M F (hr.mono Fq) hc G.m hb .nil ht ha hex hg tI he rC
inductive acZ (K:Wl) (fl:Qm) (Q:VK) (v:V) (H1:Hp):Prop
 | mk (x C d f:QQ) (fs:List (Qm×V)) (y:V) (_:v=.ref x) (_:H1 x=some (.ext (Ae x C d))) (_:H1 d=some (.xd fs)) (_:Cw K C f) (_:Ws K #[20] fl=some none) (_:fs.lookup fl=some y) (_:Q y H1)
def aiz(K:Wl)(ta:TE)(fl:Qm):TE:=fun σ H Q=>ta σ H (acZ K fl Q)
theorem acy(K:Wl)(he:PE X e ta)(hK:X.K=K:=by rfl)(hb:attributeBase e fl X.env (eval e X.env)=eval e X.env:=by rfl):PE X (.Attribute e fl pos) (aiz K ta fl):=by
 subst hK
 exists 4
 refine PL hb (cD #[56] fun u s1 ⟨v,H1,I1,rv,ea,C,d,f,fs,yv,ev,hx,hd,M,na,l,q⟩=>?_)
 subst ev
 obtain rfl:u=Wm ea:=rv
 obtain⟨⟨o,vs,z,zc,zd,zf⟩,_,_⟩:=(show bN X.prog X.w H1 s1.heap ea (.ext (Ae ea C d))from I1.hok ea _ hx)
 obtain⟨mA,hn,hr⟩:=(show bN X.prog X.w H1 s1.heap d (.xd fs)from I1.hok d _ hd)
 obtain⟨w1,hw,rw1⟩:=pD.some_of (v:=yv) (o:=mA fl) (by rw[<- l];exact hr fl)
 exact T6 M.xc I1.pF z zc zd zf hn na M.hd hw (F9 rw1) ⟨yv,H1,I1.tok _,rw1,q⟩
inductive al7 (K:Wl) (xs:List V) (H:Hp) (Q:VK):Prop
 | mk (a C d:QQ) (c:V) (cv:Value) (b:Bool) (_:xs=[.ref a,c]) (_:H a=some (.ext (Ae a C d))) (_:Al K C) (_:ad5 c=some cv) (_:Wo K #[20] cv=some b) (_:Q (.bl b) H)
theorem fW(K:Wl)(hK:X.K=K:=by rfl):lH X (.builtin "isinstance") (al7 K):=by
 subst hK
 exists 5
 obtain⟨a,C,d,c,cv,b,rfl,ha,cl,hc,e,q⟩:=h
 obtain⟨u,v,rfl,ru,rv⟩:=r.two
 cases(show u=Wm a from ru)
 cases K5 hc rv
 obtain⟨p,_⟩:=(show bN X.prog X.w H s.heap a (.ext (Ae a C d))from I.hok a _ ha)
 exact Wx (LD cl) I.pF p.at e #[46] fun tk=>⟨.bl b,H,I.tok tk,rfl,q⟩
end
end L2
set_option maxHeartbeats 8000000
namespace My
open PySem L2
variable{α:Type}{i m n p many wide j l kB:Nat}{K:Wl}{H H' H0:Hp}{a x b lo hi y h z q:Int}{xs ys:List V}{N loose:List Qm}{P:Qj}{sc:Scope}{ix:List (Option Nat)}{X:Cx}{e:Expr}{te:TE}{pos:Pos}{D ra f B C go wt iw F0 f0 CT T fa dU dv bW cT dh sV sW DA Hz DB DC BL wQ:QQ}{σ:St}{o:Obj}{dC ts ds:List QQ}{w:World}{mg:Qm→Option Value}{base:Heap}{fd:QY}{dV doc cw tc:Value}{kvs:List (Key×V)}{sg grp Sa φ:Int→Int}{c:Bool}{d:V}{t1 FH:Tok}{spB spS spG sp:Sp}{st:Stmt}{od an td:Option QQ}{Fz tsl:Array (Option Value)}
abbrev LL:=List (List Int)
abbrev LI:=List Int
abbrev OV:=Option V
theorem iH{l:List α}{a:α}(h:l[i]?=some a):∃ h:i<l.length,l[i]=a:=jc.mp h
theorem pZ{l:List α}{a:α}(h:l[i]?=some a):a∈l:=Jy h
theorem Bn{a:α}{s t:List α}:a∈s++t↔a∈s\/a∈t:=zJ
theorem bq{β:Type}{f:α->β}{l:List α}:(l.map f).length=l.length:=jX f
theorem bS{a:QQ}(h:H a=some #[40]):sQ K H a xs:=sQ.of h
theorem bV{a:QQ}(h:H a=some #[109]):oM K H a xs:=oM.of h
def top(i:Nat):Stmt:=PySem.Challenge.pw_figuretell_k34_whole_lowered.main.body.getD i (.Pass ⟨0,0,0,0⟩)
abbrev sk:Stmt:=top 12
abbrev ig:Stmt:=top 13
abbrev so:Stmt:=top 14
abbrev Aw:Stmt:=top 15
abbrev Cn:Stmt:=top 16
abbrev EU:Stmt:=top 17
abbrev Pd:Stmt:=top 20
abbrev Pe:Stmt:=top 21
abbrev Co:Stmt:=top 22
abbrev mT:Stmt:=top 23
abbrev BD:Stmt:=top 25
abbrev eR:Stmt:=top 26
abbrev oy:Stmt:=top 27
abbrev dF:Stmt:=top 28
abbrev Cm:Stmt:=top 29
abbrev Dw:Stmt:=top 33
abbrev EV:Stmt:=top 35
abbrev wJ:Stmt:=top 36
abbrev wI:Stmt:=top 38
abbrev mS:Stmt:=top 39
abbrev se:Stmt:=top 41
abbrev me:Stmt:=top 42
abbrev tU:Stmt:=top 43
abbrev sj:Stmt:=top 44
abbrev ox:Stmt:=top 45
abbrev eY:Stmt:=top 46
abbrev sh:Stmt:=top 47
abbrev eT:Stmt:=top 48
abbrev pM:Stmt:=top 49
abbrev lC:Stmt:=top 50
abbrev mR:Stmt:=top 51
abbrev oV:Stmt:=top 52
abbrev ma:Stmt:=top 53
abbrev lD:Stmt:=top 54
abbrev sd:Stmt:=top 55
abbrev Av:Stmt:=top 56
abbrev si:Stmt:=top 57
abbrev oU:Stmt:=top 58
abbrev lZ:Stmt:=top 59
abbrev tV:Stmt:=top 60
abbrev aaI:Stmt:=top 61
abbrev fV:Stmt:=inClass (top 6) 0
abbrev cW:Stmt:=inClass (top 30) 0
abbrev lX:Stmt:=inClass (top 30) 1
abbrev eO:Stmt:=inClass (top 30) 2
abbrev lY:Stmt:=inClass (top 30) 3
abbrev eP:Stmt:=inClass (top 30) 4
abbrev lA:Stmt:=inClass (top 30) 5
abbrev dR:Stmt:=inClass (top 37) 0
abbrev lW:Stmt:=inClass (top 37) 1
abbrev mQ:Stmt:=inClass (top 37) 2
abbrev mP:Stmt:=inClass (top 37) 3
theorem cS{P:List Qm}(h:(sc.kind=.function/\sc.isCoroutine=false/\sc.isGenerator=false)/\N.Nodup/\N.take P.length=P/\(∀ x∈P,sc.names.lookup x=some .local\/sc.names.lookup x=some .cell)/\∀ y∈sc.names,y.2≠.free):aJ N P sc:=⟨h.1.1,h.1.2.1,h.1.2.2,h.2.1,h.2.2.1,h.2.2.2.1,h.2.2.2.2⟩
theorem rV{NX:List Qm}{scX:Scope}(h:sc.kind=.function/\N.Nodup/\(∀ y∈sc.names,y.2≠.cell)/\(∀ y∈sc.names,y.2=.local->sc.names.lookup y.1=some .local)/\(∀ y∈sc.names,y.2=.free->scX.names.lookup y.1=some .cell\/scX.names.lookup y.1=some .free)/\ix.length=N.length/\∀ p∈N.zip ix,∀ i∈p.2,NX[i]?=some p.1/\sc.names.lookup p.1=some .free):bF NX scX N ix sc:=⟨h.1,h.2.1,h.2.2.1,h.2.2.2.1,h.2.2.2.2.1,h.2.2.2.2.2.1,fun p m i e=>h.2.2.2.2.2.2 p m i e⟩
theorem az{x:Qm}{pos':Pos}(hN:X.N.Nodup)(he:PE X e te)(hi:X.N[i]?=some x:=by rfl)(hx:Loc X.env.scope x:=by first|exact .inl rfl|exact .inr rfl)(hs:qO e (some (.Name x pos')) pos.line X.env=pure false:=by rfl)(hf:X.fn x=true\/X.env.scope.names.lookup x=some .local:=by first|exact .inl rfl|exact .inr rfl|assumption):PS X (.Assign [.Name x pos'] e pos) (wV te (aX i)):=aat hN hi hx he hs hf
theorem aS{x:Qm}(hN:X.N.Nodup)(hi:X.N[i]?=some x:=by rfl)(hx:Loc X.env.scope x:=by first|exact .inl rfl|exact .inr rfl)(hf:X.fn x=true\/X.env.scope.names.lookup x=some .local:=by first|exact .inl rfl|exact .inr rfl|assumption):PG X (.Name x pos) (aX i):=acD hN hi hx hf
theorem ou{c A B:Prop}[Decidable c](h1:c->A)(h2:¬ c->B):if decide c=true then A else B:=aeL (fun h=>h1 (of_decide_eq_true h)) fun h=>h2 fun z=>h (decide_eq_true z)
theorem sJ{c A B:Prop}[Decidable c](h1:¬ c->A)(h2:c->B):if (!decide c)=true then A else B:=aeL (fun h=>h1 fun z=>by rw[decide_eq_true z]at h;cases h) fun h=>h2 (Decidable.byContradiction fun z=>h (by rw[decide_eq_false z];rfl))
theorem mC{A B:Prop}(h1:a=b->A)(h2:a≠b->B):if decide (V.int a=V.int b)=true then A else B:=ou (fun h=>h1 (V.int.inj h)) fun h=>h2 fun z=>h (congrArg V.int z)
theorem OL{m n:Int}(a0:0<=a)(a1:a<=m)(b0:0<=b)(b1:b<=n):0<=a*b/\a*b<=m*n:=⟨ZE a0 b0,Jl a1 b1 b0 (zu a0 a1)⟩
theorem cZ(h:0<b):0<=a%b/\a%b<b:=⟨ZU a #[0],ZG a h⟩
theorem eI{t u:TS}{D:Ends}(R:St->Hp->Prop)(h2:∀ σ' H',R σ' H'->u D σ' H')(h1:(∀ σ' H',R σ' H'->u D σ' H')->Te t u D σ H):Te t u D σ H:=h1 h2
theorem cU{t u:TS}{D:Ends}(R:St->Hp->Prop)(h1:∀ σ' H',R σ' H'->u D σ' H')(h2:∀ D':Ends,(∀ σ' H',R σ' H'->D'.nx σ' H')->t D' σ H):Te t u D σ H:=h2 { D with nx:=u D } h1
theorem ax{p:QQ}{o:HO}(h:aB H H')(hp:H p=none):aB H (upd H' p o):=fun b u e=>by rw[aj (aq e hp)];exact h b u e
def dz(lo hi:Int)(ys:List V):Prop := ∀ y∈ys,∃ v:Int,y=.int v/\lo<=v/\v<hi
theorem dz.nil:dz lo hi []:=fun y h=>by cases h
theorem dz.snoc{v:Int}(h:dz lo hi ys)(h0:lo<=v)(h1:v<hi):dz lo hi (ys++[.int v]):=fun y hy=>by
 rcases Bn.mp hy with z|z
 ·exact h y z
 ·rw[jK.mp z];exact⟨v,rfl,h0,h1⟩
theorem dz.ints:∀ {ys:List V},dz lo hi ys->∃ ns:LI,ys=ns.map V.int/\∀ z∈ns,lo<=z/\z<hi
 | [],_=>⟨[],rfl,fun z h=>by cases h⟩
 | y :: r,h=>by
  obtain⟨v,e,h0,h1⟩:=h y jD
  obtain⟨ns,e2,h2⟩:=dz.ints (ys:=r) fun z hz=>h z (jI _ hz)
  refine⟨v :: ns,by rw[e,e2];rfl,fun z hz=>?_⟩
  rcases jY.mp hz with q|q
  ·rw[q];exact⟨h0,h1⟩
  ·exact h2 z q
theorem fQ(h:0<=x):∃ n:Nat,x=(n:Int):=⟨x.toNat,by omega⟩
theorem getD_at{xs:List α}{d:α}(h:i<xs.length):xs.getD i d=xs[i]:=by simp[h]
theorem cj{ns:LI}{k:Int}(h0:0<=k)(h:k<(ns.length:Int)):wO #[34] k=some (.int (ns.getD k.toNat 0)):=by
 have hk:k.toNat<ns.length:=by omega
 have ek:k=((k.toNat:Nat):Int):=by omega
 have q:wO #[34] ((k.toNat:Nat):Int)=some (.int ns[k.toNat]):=pf (by rw[jN,jB hk]<;>rfl)
 rw[<- ek]at q
 rw[q,getD_at hk]
theorem tu{k:Int}(h0:0<=k)(h:dC[k.toNat]?=some ra):wO #[37] k=some (.ref ra):=by
 have ek:k=((k.toNat:Nat):Int):=by omega
 have q:wO #[37] ((k.toNat:Nat):Int)=some (.ref ra):=pf (by rw[jN,h]<;>rfl)
 rw[<- ek]at q
 exact q
theorem bZ{ns:LI}{y:V}(h:#[34][i]?=some y):∃ z,y=V.int z/\ns[i]?=some z:=by
 rw[jN]at h
 cases e:ns[i]? with
 | none=>rw[e]at h;cases h
 | some z=>rw[e]at h;exact⟨z,(Option.some.inj h).symm,rfl⟩
theorem mM(K:Wl):Wo K (.type "tuple") (.type "tuple")=some true:=by with_unfolding_all rfl
def stepI(rows:LL)(h f:Int):Int:=(rows.getD h.toNat []).getD f.toNat 0
def aY(rows:LL)(row:LI)(h:Int):Int:=row.foldl (stepI rows) h
structure aI(many wide:Nat)(rows:LL):Prop where
 len:rows.length=many
 row:∀ r∈rows,r.length=wide
 val:∀ r∈rows,∀ v∈r,0<=v/\v<(many:Int)
theorem cA{rows:LL}{f:Int}(R:aI many wide rows)(h0:0<=h)(h1:h<many)(f0:0<=f)(f1:f<wide):0<=stepI rows h f/\stepI rows h f<many:=by
 have l1:h.toNat<rows.length:=by rw[R.len];omega
 have l2:f.toNat<rows[h.toNat].length:=by rw[R.row _ (jH l1)];omega
 unfold stepI
 rw[getD_at l1,getD_at l2]
 exact R.val _ (jH l1) _ (jH l2)
theorem dH{rows:LL}(R:aI many wide rows):∀ {ns:LI} {h:Int},(∀ f∈ns,0<=f/\f<(wide:Int))->0<=h->h<many->0<=aY rows ns h/\aY rows ns h<many
 | [],h,_,h0,h1=>⟨h0,h1⟩
 | f :: r,h,hf,h0,h1=>by
  obtain⟨a,b⟩:=cA R h0 h1 (hf f jD).1 (hf f jD).2
  exact dH (ns:=r) R (fun g hg=>hf g (jI _ hg)) a b
theorem cP(rows:LL)(xs ys:LI)(h:Int):aY rows (xs++ys) h=aY rows ys (aY rows xs h):=by
 unfold aY
 rw[JC]
theorem Pw{rows:LL}{ns:LI}(e:ns[i]?=some z):aY rows (ns.take (i+1)) h=stepI rows (aY rows (ns.take i) h) z:=by
 rw[jS,e,cP]
 rfl
def aP(H:Hp):List QQ->LL->Prop:=Qh fun a r=>H a=some (.tup (r.map V.int))
theorem aP.length{rows:LL}(h:aP H dC rows):dC.length=rows.length:=Paired.length h
theorem aP.get:∀ {H:Hp} {dC:List QQ} {rows:LL} {i:Nat},aP H dC rows->(h:i<rows.length)->∃ ra,dC[i]?=some ra/\H ra=some (.tup (rows[i].map V.int))
 | _,_,_,_,.nil,h=>by simp at h
 | _,_,_,0,.cons (a:=a) r _,_=>⟨a,rfl,r⟩
 | _,_,_,i+1,.cons _ t,h=>by
  obtain⟨ra,h1,h2⟩:=aP.get (i:=i) t (by simpa using h)
  exact⟨ra,by simpa using h1,by simpa using h2⟩
theorem aP.same{rows:LL}(h:aP H dC rows)(s:∀ b xs,H b=some #[40]->H' b=some #[40]):aP H' dC rows:=Paired.LP h fun _ _ q=>s _ _ q
theorem aP.snoc:∀ {H:Hp} {dC:List QQ} {rows:LL} {a:QQ} {r:LI},aP H dC rows->H a=some (.tup (r.map V.int))->aP H (dC++[a]) (rows++[r])
 | _,_,_,_,_,.nil,h=>.cons h .nil
 | _,_,_,_,_,.cons q t,h=>.cons q (aP.snoc t h)
structure bA(H:Hp)(m r g:QQ)(wide:Nat)(rows:LL)(signs:LI):Prop where
 tup:H m=some (.tup [.int wide,.ref r,.ref g])
 rows:∃ dC,H r=some (.tup #[37])/\aP H dC rows
 sgn:H g=some (.tup (signs.map V.int))
theorem bA.same{m r g:QQ}{rows:LL}{signs:LI}(M:bA H m r g wide rows signs)(s:∀ b xs,H b=some #[40]->H' b=some #[40]):bA H' m r g wide rows signs:=by
 obtain⟨h1,⟨dC,h2,h3⟩,h4⟩:=M
 exact⟨s _ _ h1,⟨dC,s _ _ h2,h3.same s⟩,s _ _ h4⟩
theorem fX{rows:LL}{f:Int}(A:aP H dC rows)(R:aI many wide rows)(h0:0<=h)(h1:h<many)(f0:0<=f)(f1:f<wide):
  ∃ (ra:QQ) (r:LI),wO #[37] h=some (.ref ra)/\H ra=some (.tup (r.map V.int))/\wO (r.map V.int) f=some (.int (stepI rows h f)):=by
 have l1:h.toNat<rows.length:=by rw[R.len];omega
 have l2:rows[h.toNat].length=wide:=R.row _ (jH l1)
 obtain⟨ra,e1,e2⟩:=A.get l1
 exists ra,rows[h.toNat],tu h0 e1,e2
 rw[cj f0 (by rw[l2];exact f1)]
 unfold stepI
 rw[getD_at l1]
variable{u v ns r ks gs ls col ins ws mem s dn aK qs s1 s2 b0 aaK mV aaL:LI}{rows ms cols aw r1 r2 rs FV ps adC eD adD:LL}
def cG(rows:LL)(ρ:Int->Int)(qs:LI):LL:=qs.map fun q=>#[55].map ρ
def cI(signs qs:LI):LI:=qs.map fun q=>signs.getD q.toNat 0
def agx(H:Hp)(D:QQ)(many:Nat)(rows:LL)(qs:LI)(ρ:Int->Int):Prop := ∃ kvs,H D=some #[53]/\∀ q∈qs,∀ t∈rows.getD q.toNat [],fq kvs (Sum.inl t)=some (.int (ρ t))
def agy(H:Hp)(D:QQ)(many:Nat)(rows:LL)(qs:LI)(ρ:Int->Int):Prop := ∃ ns:LI,H D=some (.lst #[34])/\∀ q∈qs,∀ t∈rows.getD q.toNat [],(0<=t/\t<(ns.length:Int))/\ρ t=ns.getD t.toNat 0
inductive Dy (K:Wl) (Num:Hp->QQ->Nat->LL->LI->(Int->Int)->Prop) (vs:List V) (H:Hp) (Q:VK) (E:XK):Prop
 | mk (m kl D r g:QQ) (many wide:Nat) (rows:LL) (signs qs:LI) (ρ:Int->Int) (_:vs=[.ref m,.ref kl,.ref D]) (_:bA H m r g wide rows signs) (_:aI many wide rows) (_:signs.length=many) (_:(many<=1000/\wide<=1000)) (_:H kl=some (.lst (qs.map V.int))) (_:qs.length<=1000) (_:(∀ q∈qs,0<=q/\q<(many:Int))) (_:Num H D many rows qs ρ) (_:∀ (m' r' g':QQ) (H':Hp),aB H H'->bA H' m' r' g' wide (cG rows ρ qs) (cI signs qs)->Q (.ref m') H')
theorem aP.kept(A:aP H dC rows)(R:aI many wide rows)(h0:0<=q)(h1:q<(many:Int)):∃ ra,wO #[37] q=some (.ref ra)/\H ra=some (.tup (#[55].map V.int))/\#[55].length=wide:=by
 have l:q.toNat<rows.length:=by rw[R.len];omega
 obtain⟨ra,e1,e2⟩:=A.get l
 refine⟨ra,?_,by rw[getD_at l];exact e2,by rw[getD_at l];exact R.row _ (jH l)⟩
 have q':wO #[37] ((q.toNat:Nat):Int)=some (.ref ra):=pf (by rw[jN,e1];rfl)
 rw[jb h0]at q'
 exact q'
section
theorem cC:aJ ["machine","kept","numbers","rows","signs","kept_rows","here"] ["machine","kept","numbers"] (ar eR):=cS #[3]
theorem hZ:bF ["machine","kept","numbers","rows","signs","kept_rows","here"] (ar eR) ["there","numbers"] [none,some 2] ⟨.function,[#[62],("there",.local),("numbers",.free)],false,false,[]⟩:=rV #[3]
theorem ic:bF ["machine","kept","numbers","rows","signs","kept_rows","here"] (ar eR) ["here","signs"] [none,some 4] ⟨.function,[#[62],("here",.local),("signs",.free)],false,false,[]⟩:=rV #[3]
theorem SJ(F:br K "with_rooms" "with_rooms" eR dV f fd)(aV:mg "tuple" = none):bc P w K mg base eB 1 f fd ["machine","kept","numbers"] (Dy K agx):=by
 refine F.ok cC #[6] #[1]
 ·obtain⟨m,kl,D,r,g,many,wide,rows,signs,qs,ρ,rfl,_⟩:=h
  rfl
 obtain⟨m,kl,D,r,g,many,wide,rows,signs,qs,ρ,rfl,M,R,lsg,⟨n1,w1⟩,hkl,lq,hqs,⟨kvs,hD,hv⟩,k⟩:=h
 obtain⟨hm,⟨dC,oG,hA⟩,hg⟩:=M
 have hu:=pX hr
 refine⟨_,(ag (az (i:=3) cC.nd #[12])
   (ag (az (i:=4) cC.nd #[12])
   (ag (az (i:=5) cC.nd (bw af))
   (ag (bI PassesOwn.never rfl (df #[92]) (aS (i:=6) cC.nd) (ao (bD (fO Wn Wq Wr bJ (pv 5) (aa (bj bg #[26] aV cy (aa (eK rfl hZ (rW (aF aG (pv 3) (pv 6) #[4])) (fun _ _ _ _=>(aS (i:=0) hZ.nd)) (fun _ _ _ _=>(Dq hu #[92] #[98] #[4]))) af)) af)))))
   (ao (aH (eL (aa #[12] (aa (bj bg #[26] aV cy #[102]) (aa (bj bg #[26] aV cy (aa (eK rfl ic (df #[92]) (fun _ _ _ _=>(aS (i:=0) ic.nd)) (fun _ _ _ _=>(aF (Bh K) #[92] #[98] #[4]))) af)) af)))))))))),?_⟩
 exists 0
 exists _,rfl,m,_,_,_,rfl,rfl,bS hm,rfl
 exists _,rfl,m,_,_,_,rfl,rfl,bS hm,rfl
 refine⟨#[13],fun L hL=>?_⟩
 have sL:=ak hL #[82]
 try dsimp only[aX,bU]
 refine cU (t:=sU _ _ _) (fun σ' H'=>∃ (as:List QQ) (v:OV),σ'=[some #[58],some (.ref kl),some #[66],some #[106],some (.ref g),some (.ref L),v]/\aB H H'/\H' L=some #[35]/\aP H' as (cG rows ρ qs)) ?_ #[30]
 exists 16
 ·exists _,rfl,kl,rfl,⟨_,bV (sL _ _ hkl)⟩
  refine eS (K:=K) (xs:=qs.map V.int) (fun i σ' H'=>∃ (as:List QQ) (v:OV),σ'=[some #[58],some (.ref kl),some #[66],some #[106],some (.ref g),some (.ref L),v]/\aB H H'/\H' L=some #[35]/\aP H' as (cG rows ρ (qs.take i))) ⟨[],none,rfl,sL,ae,.nil⟩ (fun i σ' H' _ ⟨_,_,_,e,_,_⟩=>bV (e _ _ hkl)) ?_ ?_
  ·rintro i y σ' H3 hi ⟨as,v,rfl,s3,wy,A3⟩
   obtain⟨z,rfl,hz⟩:=bZ hi
   have zm:=pZ hz
   have li:=(iH hz).1
   obtain⟨z0,z1⟩:=hqs z zm
   obtain⟨ra,e1,e2,e3⟩:=hA.kept R z0 z1
   have la:as.length=i:=by rw[A3.length];unfold cG;rw[bq,jQ];omega
   exists _,rfl,.inl ⟨rfl,_,bV wy⟩,_,rfl,_,rfl,r,_,_,_,rfl,rfl,bS (s3 _ _ oG),e1,ra,rfl,⟨_,bS (s3 _ _ e2)⟩
   refine AS (K:=K) (xs:=#[75].map V.int) (fun D j ys H'=>aB H3 H'/\ys=((#[75].take j).map ρ).map V.int) #[48] (fun D j ys H' _ ⟨e,_⟩=>bS (e _ _ (s3 _ _ e2))) ?_ ?_
   ·rintro T j y ys H4 Q' hT hj hy ⟨s4,rfl⟩ k'
    obtain⟨t,rfl,ht⟩:=bZ hj
    have tm:=pZ ht
    have lj:=(iH ht).1
    have s34:=s3.trans s4
    have dg:ik H4 D (.int t) (some (.int (ρ t))):=by
     rw[<- hv z zm t tm]
     exact ik.k (k:=Sum.inl t) (s34 _ _ hD)
    refine⟨_,rfl,_,rfl,D,_,rfl,dg,k' _ _ hy (aA (by rw[bq,bq,jQ];omega)) ⟨ax s4 hT,?_⟩⟩
    rw[jS,ht,jF,jF]
    rfl
   ·rintro T ys H4 hT hy ⟨s4,rfl⟩
    rw[bq,jU]at hy
    refine⟨T,_,rfl,.inl ⟨bV hy,fun t ht=>?_⟩⟩
    have U3:=s4 _ _ wy
    have nL:L≠t:=aq U3 ht
    refine⟨L,_,_,rfl,rfl,by rw[aj nL];exact U3,aA #[31],?_⟩
    have sT:∀ b xs,H3 b=some #[40]->(upd (upd H4 t (.tup ((#[75].map ρ).map V.int))) L (.lst (as.map V.ref++[V.ref t]))) b=some #[40]:=fun b xs e=>by
     have e4:=s4 _ _ e
     rw[aj (aQ e4 U3 #[2]),aj (aq e4 ht)]
     exact e4
    refine⟨as++[t],_,rfl,ax (ax (s3.trans s4) ((s3.trans s4).free ht)) hL,by rw[ae,jF];rfl,?_⟩
    have ek:cG rows ρ (qs.take (i+1))=cG rows ρ (qs.take i)++[#[75].map ρ]:=by
     unfold cG
     rw[jS,hz,jF]
     rfl
    rw[ek]
    exact aP.snoc (A3.same sT) (by rw[aj (Ne.symm nL),ae])
  ·rintro σ' H3 ⟨as,v,rfl,s3,wy,A3⟩
   rw[bq,jU]at A3
   exact dq _ _ ⟨as,v,rfl,s3,wy,A3⟩
 rintro σ' H1 ⟨as,v,rfl,s1,U0,A1⟩
 refine⟨_,rfl,m,_,_,_,rfl,rfl,bS (s1 _ _ hm),rfl,_,rfl,L,_,rfl,.inl ⟨bV U0,fun rt hrt=>?_⟩⟩
 have s2:=ak hrt (HO.tup (as.map V.ref))
 have J0:=s1.trans s2
 exists _,rfl,kl,rfl,⟨_,bV (J0 _ _ hkl)⟩
 refine lN (K:=K) (xs:=qs.map V.int) (fun D j ys H'=>aB (upd H1 rt (HO.tup (as.map V.ref))) H'/\ys=(cI signs (qs.take j)).map V.int) #[48] (fun D j ys H' _ ⟨e,_⟩=>bV (e _ _ (J0 _ _ hkl))) ?_ ?_
 ·rintro T j y ys H4 Q' hT hj hy ⟨s4,rfl⟩ k'
  obtain⟨z,rfl,hz⟩:=bZ hj
  have li:=(iH hz).1
  obtain⟨z0,z1⟩:=hqs z (pZ hz)
  refine⟨_,rfl,_,rfl,g,_,_,_,rfl,rfl,bS ((J0.trans s4) _ _ hg),cj z0 #[0],k' _ _ hy (aA (by unfold cI;rw[bq,bq,jQ];omega)) ⟨ax s4 hT,?_⟩⟩
  unfold cI
  rw[jS,hz,jF,jF]
  rfl
 rintro G ys H4 hG hy ⟨s4,rfl⟩
 rw[bq,jU]at hy
 refine⟨G,_,rfl,.inl ⟨bV hy,fun gt hgt=>⟨#[17],fun mm hmm=>?_⟩⟩⟩
 have s5:=ak hgt (HO.tup ((cI signs qs).map V.int))
 have s6:=ak hmm (HO.tup [V.int wide,V.ref rt,V.ref gt])
 have s56:=s5.trans s6
 exact k mm rt gt _ (J0.trans (s4.trans s56)) ⟨ae,⟨as,(s4.trans s56) _ _ ae,A1.same fun b zs e=>(s2.trans (s4.trans s56)) _ _ e⟩,s6 _ _ ae⟩
theorem SK(F:br K "with_rooms" "with_rooms" eR dV f fd)(aV:mg "tuple" = none):bc P w K mg base eB 1 f fd ["machine","kept","numbers"] (Dy K agy):=by
 refine F.ok cC #[6] #[1]
 ·obtain⟨m,kl,D,r,g,many,wide,rows,signs,qs,ρ,rfl,_⟩:=h
  rfl
 obtain⟨m,kl,D,r,g,many,wide,rows,signs,qs,ρ,rfl,M,R,lsg,⟨n1,w1⟩,hkl,lq,hqs,⟨nl,hD,hv⟩,k⟩:=h
 obtain⟨hm,⟨dC,oG,hA⟩,hg⟩:=M
 have hu:=pX hr
 refine⟨_,(ag (az (i:=3) cC.nd #[12])
   (ag (az (i:=4) cC.nd #[12])
   (ag (az (i:=5) cC.nd (bw af))
   (ag (bI PassesOwn.never rfl (df #[92]) (aS (i:=6) cC.nd) (ao (bD (fO Wn Wq Wr bJ (pv 5) (aa (bj bg #[26] aV cy (aa (eK rfl hZ (rW (aF aG (pv 3) (pv 6) #[4])) (fun _ _ _ _=>(aS (i:=0) hZ.nd)) (fun _ _ _ _=>(aF (Lz K) #[92] #[98] #[4]))) af)) af)))))
   (ao (aH (eL (aa #[12] (aa (bj bg #[26] aV cy #[102]) (aa (bj bg #[26] aV cy (aa (eK rfl ic (df #[92]) (fun _ _ _ _=>(aS (i:=0) ic.nd)) (fun _ _ _ _=>(aF (Bh K) #[92] #[98] #[4]))) af)) af)))))))))),?_⟩
 exists 0
 exists _,rfl,m,_,_,_,rfl,rfl,bS hm,rfl
 exists _,rfl,m,_,_,_,rfl,rfl,bS hm,rfl
 refine⟨#[13],fun L hL=>?_⟩
 have sL:=ak hL #[82]
 try dsimp only[aX,bU]
 refine cU (t:=sU _ _ _) (fun σ' H'=>∃ (as:List QQ) (v:OV),σ'=[some #[58],some (.ref kl),some #[66],some #[106],some (.ref g),some (.ref L),v]/\aB H H'/\H' L=some #[35]/\aP H' as (cG rows ρ qs)) ?_ #[30]
 exists 16
 ·exists _,rfl,kl,rfl,⟨_,bV (sL _ _ hkl)⟩
  refine eS (K:=K) (xs:=qs.map V.int) (fun i σ' H'=>∃ (as:List QQ) (v:OV),σ'=[some #[58],some (.ref kl),some #[66],some #[106],some (.ref g),some (.ref L),v]/\aB H H'/\H' L=some #[35]/\aP H' as (cG rows ρ (qs.take i))) ⟨[],none,rfl,sL,ae,.nil⟩ (fun i σ' H' _ ⟨_,_,_,e,_,_⟩=>bV (e _ _ hkl)) ?_ ?_
  ·rintro i y σ' H3 hi ⟨as,v,rfl,s3,wy,A3⟩
   obtain⟨z,rfl,hz⟩:=bZ hi
   have zm:=pZ hz
   have li:=(iH hz).1
   obtain⟨z0,z1⟩:=hqs z zm
   obtain⟨ra,e1,e2,e3⟩:=hA.kept R z0 z1
   have la:as.length=i:=by rw[A3.length];unfold cG;rw[bq,jQ];omega
   exists _,rfl,.inl ⟨rfl,_,bV wy⟩,_,rfl,_,rfl,r,_,_,_,rfl,rfl,bS (s3 _ _ oG),e1,ra,rfl,⟨_,bS (s3 _ _ e2)⟩
   refine AS (K:=K) (xs:=#[75].map V.int) (fun D j ys H'=>aB H3 H'/\ys=((#[75].take j).map ρ).map V.int) #[48] (fun D j ys H' _ ⟨e,_⟩=>bS (e _ _ (s3 _ _ e2))) ?_ ?_
   ·rintro T j y ys H4 Q' hT hj hy ⟨s4,rfl⟩ k'
    obtain⟨t,rfl,ht⟩:=bZ hj
    have tm:=pZ ht
    have lj:=(iH ht).1
    have s34:=s3.trans s4
    obtain⟨⟨t0,t1⟩,et⟩:=hv z zm t tm
    have at':wO (nl.map V.int) t=some (.int (ρ t)):=by rw[et];exact cj t0 t1
    refine⟨_,rfl,_,rfl,D,_,_,_,rfl,rfl,bV (s34 _ _ hD),at',k' _ _ hy (aA (by rw[bq,bq,jQ];omega)) ⟨ax s4 hT,?_⟩⟩
    rw[jS,ht,jF,jF]
    rfl
   ·rintro T ys H4 hT hy ⟨s4,rfl⟩
    rw[bq,jU]at hy
    refine⟨T,_,rfl,.inl ⟨bV hy,fun t ht=>?_⟩⟩
    have U3:=s4 _ _ wy
    have nL:L≠t:=aq U3 ht
    refine⟨L,_,_,rfl,rfl,by rw[aj nL];exact U3,aA #[31],?_⟩
    have sT:∀ b xs,H3 b=some #[40]->(upd (upd H4 t (.tup ((#[75].map ρ).map V.int))) L (.lst (as.map V.ref++[V.ref t]))) b=some #[40]:=fun b xs e=>by
     have e4:=s4 _ _ e
     rw[aj (aQ e4 U3 #[2]),aj (aq e4 ht)]
     exact e4
    refine⟨as++[t],_,rfl,ax (ax (s3.trans s4) ((s3.trans s4).free ht)) hL,by rw[ae,jF];rfl,?_⟩
    have ek:cG rows ρ (qs.take (i+1))=cG rows ρ (qs.take i)++[#[75].map ρ]:=by
     unfold cG
     rw[jS,hz,jF]
     rfl
    rw[ek]
    exact aP.snoc (A3.same sT) (by rw[aj (Ne.symm nL),ae])
  ·rintro σ' H3 ⟨as,v,rfl,s3,wy,A3⟩
   rw[bq,jU]at A3
   exact dq _ _ ⟨as,v,rfl,s3,wy,A3⟩
 rintro σ' H1 ⟨as,v,rfl,s1,U0,A1⟩
 refine⟨_,rfl,m,_,_,_,rfl,rfl,bS (s1 _ _ hm),rfl,_,rfl,L,_,rfl,.inl ⟨bV U0,fun rt hrt=>?_⟩⟩
 have s2:=ak hrt (HO.tup (as.map V.ref))
 have J0:=s1.trans s2
 exists _,rfl,kl,rfl,⟨_,bV (J0 _ _ hkl)⟩
 refine lN (K:=K) (xs:=qs.map V.int) (fun D j ys H'=>aB (upd H1 rt (HO.tup (as.map V.ref))) H'/\ys=(cI signs (qs.take j)).map V.int) #[48] (fun D j ys H' _ ⟨e,_⟩=>bV (e _ _ (J0 _ _ hkl))) ?_ ?_
 ·rintro T j y ys H4 Q' hT hj hy ⟨s4,rfl⟩ k'
  obtain⟨z,rfl,hz⟩:=bZ hj
  have li:=(iH hz).1
  obtain⟨z0,z1⟩:=hqs z (pZ hz)
  refine⟨_,rfl,_,rfl,g,_,_,_,rfl,rfl,bS ((J0.trans s4) _ _ hg),cj z0 #[0],k' _ _ hy (aA (by unfold cI;rw[bq,bq,jQ];omega)) ⟨ax s4 hT,?_⟩⟩
  unfold cI
  rw[jS,hz,jF,jF]
  rfl
 rintro G ys H4 hG hy ⟨s4,rfl⟩
 rw[bq,jU]at hy
 refine⟨G,_,rfl,.inl ⟨bV hy,fun gt hgt=>⟨#[17],fun mm hmm=>?_⟩⟩⟩
 have s5:=ak hgt (HO.tup ((cI signs qs).map V.int))
 have s6:=ak hmm (HO.tup [V.int wide,V.ref rt,V.ref gt])
 have s56:=s5.trans s6
 exact k mm rt gt _ (J0.trans (s4.trans s56)) ⟨ae,⟨as,(s4.trans s56) _ _ ae,A1.same fun b zs e=>(s2.trans (s4.trans s56)) _ _ e⟩,s6 _ _ ae⟩
end
theorem He(p:α->Bool):∀ l:List α,l.length=(l.filter p).length+(l.filter fun x=>!p x).length
 | []=>rfl
 | x :: l=>by
  have ih:=He p l
  cases e:p x
  ·rw[JE (by rw[e];decide),JM (by rw[e];rfl),jT,jT]
   omega
  ·rw[JM e,JE (by rw[e];decide),jT,jT]
   omega
theorem cV:∀ (many:Nat) {ks:LI},ks.Nodup->(∀ q∈ks,0<=q/\q<(many:Int))->ks.length<=many
 | 0,ks,_,h=>by
  cases ks with
  | nil=>exact jE _
  | cons q r=>have:=h q jD;omega
 | many+1,ks,nd,h=>by
  have e:(ks.filter fun q=>decide (q≠(many:Int))).length<=many:=cV many (nd.filter _) fun q hq=>by
   have h1:=h q (jy.mp hq).1
   have h2:q≠(many:Int):=of_decide_eq_true (jy.mp hq).2
   omega
  have c:(ks.filter fun q=>!decide (q≠(many:Int))).length<=1:=by
   have nd2:=nd.filter fun q=>!decide (q≠(many:Int))
   have al:∀ q∈ks.filter (fun q=>!decide (q≠(many:Int))),q=(many:Int):=fun q hq=>by
    have:=(jy.mp hq).2
    simpa using this
   match hm:ks.filter (fun q=>!decide (q≠(many:Int))),nd2,al with
   | [],_,_=>exact je _
   | [x],_,_=>exact jE _
   | x :: y :: r,nd2,al =>
    have h1:=al x jD
    have h2:=al y (jI _ jD)
    rw[h1,h2]at nd2
    exact absurd jD (jx.mp nd2).1
  have t:=He (fun q=>decide (q≠(many:Int))) ks
  omega
def dX(ks:LI):List (Key×V):=ks.map fun q=>(Sum.inl q,V.bl true)
theorem Dm(ks:LI)(q:Int):(fq (dX ks) (Sum.inl q)).isSome=decide (q∈ks):=by
 induction ks with
 | nil=>rfl
 | cons k r ih =>
  by_cases e:k=q
  ·subst e
   rw[show dX (k :: r)=(Sum.inl k,V.bl true) :: dX r from rfl,mJ rfl]
   simp
  ·rw[show dX (k :: r)=(Sum.inl k,V.bl true) :: dX r from rfl,ft (fun z=>e (Sum.inl.inj z)),ih]
   simp[Ne.symm e]
theorem Dk(h:q∉ks):putK (dX ks) (Sum.inl q) (V.bl true)=dX (ks++[q]):=by
 unfold putK
 rw[if_neg (by
  intro z
  obtain⟨p,hp,e⟩:=zB.mp z
  obtain⟨k,hk,rfl⟩:=jO.mp hp
  have:=Sum.inl.inj (of_decide_eq_true e)
  exact h (this ▸ hk))]
 unfold dX
 rw[jF]
 rfl
def Cf(es:List (Int×QQ)):List (Key×V):=es.map fun e=>(Sum.inl e.1,V.ref e.2)
theorem LG:∀ {es:List (Int×QQ)} {q:Int},q∉es.map Prod.fst->fq (Cf es) (Sum.inl q)=none
 | [],_,_=>rfl
 | e :: es,q,h=>by
  rw[show Cf (e :: es)=(Sum.inl e.1,V.ref e.2) :: Cf es from rfl,ft (fun z=>h (by rw[<- Sum.inl.inj z];exact jD))]
  exact LG fun z=>h (jI _ z)
theorem Em:∀ {es:List (Int×QQ)} {q:Int} {a:QQ} {j:Nat},(es.map Prod.fst).Nodup->es[j]?=some (q,a)->fq (Cf es) (Sum.inl q)=some (V.ref a)
 | [],_,_,_,_,h=>by cases h
 | e :: es,q,a,0,_,h=>by
  cases h
  exact mJ rfl
 | e :: es,q,a,j+1,nd,h=>by
  have nd' := jx.mp (show(e.1 :: es.map Prod.fst).Nodup from nd)
  have h':es[j]?=some (q,a):=h
  rw[show Cf (e :: es)=(Sum.inl e.1,V.ref e.2) :: Cf es from rfl,ft (fun z=>nd'.1 (by
   have:e.1=q:=Sum.inl.inj z
   rw[this]
   exact jO.mpr ⟨(q,a),pZ h',rfl⟩))]
  exact Em nd'.2 h'
theorem ab2{es:List (Int×QQ)}{a:QQ}(h:q∉es.map Prod.fst):putK (Cf es) (Sum.inl q) (V.ref a)=Cf (es++[(q,a)]):=by
 unfold putK
 rw[if_neg (by
  intro z
  obtain⟨p,hp,e⟩:=zB.mp z
  obtain⟨k,hk,rfl⟩:=jO.mp hp
  have:=Sum.inl.inj (of_decide_eq_true e)
  exact h (this ▸ jO.mpr ⟨k,hk,rfl⟩))]
 unfold Cf
 rw[jF]
 rfl
theorem snoc_cases{xs:List α}{y z:α}(h:(xs++[y])[j]?=some z):xs[j]?=some z\/(j=xs.length/\z=y):=by
 rcases Jb j xs.length with q|q
 ·rw[jr q]at h
  exact .inl h
 ·rw[JH q]at h
  rcases Jb (j-xs.length) 1 with p|p
  ·have e:j=xs.length:=by omega
   subst e
   rw[Jw]at h
   exact .inr ⟨rfl,(Option.some.inj h).symm⟩
  ·rw[Jg (by simpa using p)]at h
   cases h
theorem lM.same(h:lM H ts kvs)(s:∀ b xs,H b=some #[40]->H' b=some #[40]):lM H' ts kvs:=Paired.LP h fun _ _ q=>s _ _ q
theorem LU:∀ {gs ks:LI},(ks++gs).Nodup->fh (dX ks) (dX gs)=dX (ks++gs)
 | [],ks,_=>by rw[jo];rfl
 | g :: gs,ks,nd=>by
  have hg:g∉ks:=fun z=>(JQ.mp nd).2.2 g z g jD rfl
  show fh (putK (dX ks) (Sum.inl g) (V.bl true)) (dX gs)=_
  rw[Dk hg,LU (by rw[jk];exact nd),jk]
  rfl
theorem Hi(nd:gs.Nodup):fh [] (dX gs)=dX gs:=LU (ks:=[]) nd
structure cY(H0 H:Hp)(B:QQ)(es:List (Int×QQ))(P:Int->LI->Prop):Prop where
 at_:H B=some (.dK (Cf es))
 nd:(es.map Prod.fst).Nodup
 nd2:(es.map Prod.snd).Nodup
 fresh:∀ e∈es,H0 e.2=none
 lst:∀ e∈es,∃ ls:LI,H e.2=some (.lst (ls.map V.int))/\P e.1 ls
 non:∀ q,q∉es.map Prod.fst->P q []
theorem cY.get{es:List (Int×QQ)}{P:Int->LI->Prop}(b:cY H0 H B es P){v:V}(h:fq (Cf es) (Sum.inl q)=some v):∃ la ls,v=.ref la/\(q,la)∈es/\H la=some (.lst (ls.map V.int))/\P q ls:=by
 have hm:q∈es.map Prod.fst:=Classical.byContradiction fun z=>by rw[LG z]at h;cases h
 obtain⟨e,he,rfl⟩:=jO.mp hm
 obtain⟨j,hj⟩:=JB.mp he
 have:=Em b.nd (q:=e.1) (a:=e.2) hj
 rw[this]at h
 obtain⟨ls,h1,h2⟩:=b.lst e he
 exact⟨e.2,ls,(Option.some.inj h).symm,he,h1,h2⟩
theorem abJ{es:List (Int×QQ)}(nd:(es.map Prod.fst).Nodup){e e':Int×QQ}(h:e∈es)(h':e'∈es)(q:e.1=e'.1):e=e' := by
 obtain⟨i,hi,ei⟩:=ji h
 obtain⟨j,hj,ej⟩:=ji h'
 have:(es.map Prod.fst)[i]'(by simpa using hi)=(es.map Prod.fst)[j]'(by simpa using hj):=by simp[ei,ej,q]
 have:=(JK nd).mp this
 subst this
 rw[<- ei,<- ej]
theorem acS{es:List (Int×QQ)}(nd:(es.map Prod.snd).Nodup){e e':Int×QQ}(h:e∈es)(h':e'∈es)(q:e.2=e'.2):e=e' := by
 obtain⟨i,hi,ei⟩:=ji h
 obtain⟨j,hj,ej⟩:=ji h'
 have:(es.map Prod.snd)[i]'(by simpa using hi)=(es.map Prod.snd)[j]'(by simpa using hj):=by simp[ei,ej,q]
 have:=(JK nd).mp this
 subst this
 rw[<- ei,<- ej]
theorem cY.old{la:QQ}{es:List (Int×QQ)}{P P':Int->LI->Prop}(b:cY H0 H B es P)(hm:(q,la)∈es)(V4:H la=some (.lst (ls.map V.int)))(hp:P' q (ls++[h]))(ho:∀ p ls,p≠q->P p ls->P' p ls):
  cY H0 (upd H la (.lst (ls.map V.int++[.int h]))) B es P' where
 at_:=by rw[aj (aQ b.at_ V4 #[2])];exact b.at_
 nd:=b.nd
 nd2:=b.nd2
 fresh:=b.fresh
 lst:=fun e he=>by
  by_cases c:e.2=la
  ·have:=acS b.nd2 he hm c
   subst this
   exact⟨ls++[h],by rw[ae,jF];rfl,hp⟩
  ·obtain⟨ms,h1,h2⟩:=b.lst e he
   refine⟨ms,by rw[aj c];exact h1,ho _ _ (fun z=>c ?_) h2⟩
   have:=abJ b.nd he hm z
   rw[this]
 non:=fun p Sg=>ho p [] (fun z=>Sg (by rw[z];exact jO.mpr ⟨_,hm,rfl⟩)) (b.non p Sg)
theorem cY.new{L:QQ}{es:List (Int×QQ)}{P P':Int->LI->Prop}(b:cY H0 H B es P)(hq:q∉es.map Prod.fst)(hL:H L=some (.lst []))(fL:H0 L=none)(nL:∀ e∈es,e.2≠L)(hp:P' q [h])(ho:∀ p ls,p≠q->P p ls->P' p ls):
  cY H0 (upd (upd H B (.dK (putK (Cf es) (Sum.inl q) (.ref L)))) L (.lst [.int h])) B (es++[(q,L)]) P' where
 at_:=by rw[aj (aQ b.at_ hL #[2]),ae,ab2 hq]
 nd:=by rw[jF];exact Bo b.nd hq
 nd2:=by
  rw[jF]
  refine Bo b.nd2 fun z=>?_
  obtain⟨e,he,e2⟩:=jO.mp z
  exact nL e he e2
 fresh:=fun e he=>by
  rcases Bn.mp he with z|z
  ·exact b.fresh e z
  ·rw[jK.mp z];exact fL
 lst:=fun e he=>by
  rcases Bn.mp he with z|z
  ·obtain⟨ms,h1,h2⟩:=b.lst e z
   refine⟨ms,by rw[aj (nL e z),aj (aQ h1 b.at_ #[2])];exact h1,ho _ _ (fun y=>hq ?_) h2⟩
   rw[<- y]
   exact jO.mpr ⟨e,z,rfl⟩
  ·rw[jK.mp z]
   exact⟨[h],by rw[ae];rfl,hp⟩
 non:=fun p Sg=>by
  rw[jF]at Sg
  exact ho p [] (fun z=>Sg (by rw[z];exact jZ _ jD)) (b.non p fun z=>Sg (jn _ z))
theorem cY.keep{es:List (Int×QQ)}{P:Int->LI->Prop}(b:cY H0 H B es P)(hB:H' B=H B)(hl:∀ e∈es,H' e.2=H e.2):cY H0 H' B es P where
 at_:=by rw[hB];exact b.at_
 nd:=b.nd
 nd2:=b.nd2
 fresh:=b.fresh
 lst:=fun e he=>by rw[hl e he];exact b.lst e he
 non:=b.non
theorem cY.same{es:List (Int×QQ)}{P:Int->LI->Prop}(b:cY H0 H B es P)(s:aB H H'):cY H0 H' B es P where
 at_:=s _ _ b.at_
 nd:=b.nd
 nd2:=b.nd2
 fresh:=b.fresh
 lst:=fun e he=>by
  obtain⟨ls,h1,h2⟩:=b.lst e he
  exact⟨ls,s _ _ h1,h2⟩
 non:=b.non
def AR(rows:LL)(wide:Nat):LL:=(jd wide).map fun f=>rows.map fun r=>r.getD f 0
inductive aaN (K:Wl) (vs:List V) (H:Hp) (Q:VK) (E:XK):Prop
 | mk (m r g:QQ) (many wide:Nat) (rows:LL) (signs:LI) (_:vs=[.ref m]) (_:bA H m r g wide rows signs) (_:aI many wide rows) (_:(many<=1000/\wide<=1000)) (_:∀ (l:QQ) (cs:List QQ) (H':Hp),aB H H'->H' l=some (.lst (cs.map V.ref))->aP H' cs (AR rows wide)->Q (.ref l) H')
def dQ(col:LI)(q:Int):LI:=((jd col.length).filter fun i=>decide (col.getD i 0=q)).map fun i:Nat=>(i:Int)
theorem Mf(col:LI)(q:Int):(dQ col q).length<=col.length:=by
 unfold dQ
 rw[bq]
 exact jf (Jv _ _) #[21]
theorem Ck(col:LI)(t q:Int):dQ (col++[t]) q=dQ col q++(if t=q then [(col.length:Int)]else []):=by
 unfold dQ
 rw[jG,jh,js,JY,jF]
 congr 1
 ·congr 1
  refine ZM fun i hi=>?_
  have l:=jm.mp hi
  rw[jM,jM,jr l]
 ·have e:(col++[t]).getD col.length 0=t:=by rw[jM,JH (jE _),Jw];rfl
  by_cases c:t=q
  ·rw[if_pos c,JM (by rw[e];exact decide_eq_true c)];rfl
  ·rw[if_neg c,JE (by rw[e,decide_eq_false c];decide)];rfl
theorem rj:x∈dQ col q↔(0<=x/\x<(col.length:Int))/\col.getD x.toNat 0=q:=by
 unfold dQ
 rw[jO]
 constructor
 ·rintro⟨i,hi,rfl⟩
  have h:=jy.mp hi
  have h1:=jm.mp h.1
  exact⟨⟨by omega,by omega⟩,by rw[jA];exact of_decide_eq_true h.2⟩
 ·rintro⟨⟨h0,h1⟩,h2⟩
  exact⟨x.toNat,jy.mpr ⟨jm.mpr #[0],decide_eq_true h2⟩,by omega⟩
inductive Rk (K:Wl) (vs:List V) (H:Hp) (Q:VK) (E:XK):Prop
 | mk (c:QQ) (many:Nat) (col:LI) (_:vs=[.ref c]) (_:H c=some (.tup (col.map V.int))) (_:col.length<=1000) (_:many<=1000) (_:(∀ t∈col,0<=t/\t<(many:Int))) (_:∀ (B:QQ) (es:List (Int×QQ)) (H':Hp),aB H H'->H B=none->cY H H' B es (fun q ls=>ls=dQ col q)->Q (.ref B) H')
section
theorem mh:aJ ["machine","rows","columns","figure"] ["machine"] (ar oy):=cS #[3]
theorem sH:bF ["machine","rows","columns","figure"] (ar oy) ["row","figure"] [none,some 3] ⟨.function,[#[62],("row",.local),("figure",.free)],false,false,[]⟩:=rV #[3]
theorem sq:aJ ["column","back","here","there"] ["column"] (ar Cm):=cS #[3]
theorem acg(F:br K "columns_of" "columns_of" oy dV f fd)(aL:mg "range" = none)(aV:mg "tuple" = none):bc P w K mg base eB 1 f fd ["machine"] (aaN K):=by
 refine F.ok mh #[6] #[1]
 ·obtain⟨m,r,g,many,wide,rows,signs,rfl,_⟩:=h
  rfl
 obtain⟨m,r,g,many,wide,rows,signs,rfl,M,R,⟨n1,w1⟩,k⟩:=h
 obtain⟨hm,⟨dC,oG,hA⟩,hg⟩:=M
 refine⟨_,(ag (az (i:=1) mh.nd #[12])
   (ag (az (i:=2) mh.nd (bw af))
   (ag (bI PassesOwn.never rfl (bG rfl aL (aa #[12] af)) (aS (i:=3) mh.nd) (ao (bD (fO Wn Wq Wr bJ (pv 2) (aa (bj bg #[26] aV cy (aa (eK rfl sH (rW #[92]) (fun _ _ _ _=>(aS (i:=0) sH.nd)) (fun _ _ _ _=>(aF (Bh K) #[98] #[92] #[4]))) af)) af)))))
   (ao (aH (pv 2)))))),?_⟩
 exists 0
 exists _,rfl,m,_,_,_,rfl,rfl,bS hm,rfl
 refine⟨#[13],fun L hL=>?_⟩
 have sL:=ak hL #[82]
 refine⟨_,rfl,m,_,_,_,rfl,rfl,bS (sL _ _ hm),rfl,_,rfl,by omega,by omega,?_⟩
 refine cH (fun i σ' H'=>∃ (as:List QQ) (v:OV),σ'=[some #[58],some #[106],some (.ref L),v]/\aB H H'/\H' L=some #[35]/\aP H' as ((jd i).map fun f=>rows.map fun r=>r.getD f 0)) ⟨[],none,rfl,sL,ae,.nil⟩ ?_ ?_
 ·rintro i σ' H3 hi ⟨as,v,rfl,s3,wy,A3⟩
  rw[jA]at hi
  have la:as.length=i:=by rw[A3.length,bq,jg]
  have z0:(0:Int)+(i:Int)=(i:Int):=JO _
  exists _,rfl,.inl ⟨rfl,_,bV wy⟩,_,rfl,r,rfl,⟨_,bS (s3 _ _ oG)⟩
  refine AS (K:=K) (xs:=dC.map V.ref) (fun D j ys H'=>aB H3 H'/\ys=((rows.take j).map fun r=>r.getD i 0).map V.int) #[48] (fun D j ys H' _ ⟨e,_⟩=>bS (e _ _ (s3 _ _ oG))) ?_ ?_
  ·rintro T j y ys H4 Q' hT hj hy ⟨s4,rfl⟩ k'
   have jl:j<rows.length:=by
    have:=(iH hj).1
    rw[bq,hA.length]at this
    exact this
   obtain⟨ra,e1,e2⟩:=hA.get jl
   have ey:y=.ref ra:=by rw[jN,e1]at hj;exact(Option.some.inj hj).symm
   subst ey
   have lr:=R.len
   have aqw:rows[j].length=wide:=R.row _ (jH jl)
   have at1:wO (rows[j].map V.int) (0+(i:Int))=some (.int (rows[j].getD i 0)):=by
    rw[z0,cj #[0] #[0],jA]
   refine⟨_,rfl,_,rfl,ra,_,_,_,rfl,rfl,bS ((s3.trans s4) _ _ e2),at1,k' _ _ hy (aA (by rw[bq,bq,jQ];omega)) ⟨ax s4 hT,?_⟩⟩
   rw[jS,jB jl,jF,jF]
   rfl
  ·rintro T ys H4 hT hy ⟨s4,rfl⟩
   rw[bq,hA.length,jU]at hy
   refine⟨T,_,rfl,.inl ⟨bV hy,fun t ht=>?_⟩⟩
   have U3:=s4 _ _ wy
   have nL:L≠t:=aq U3 ht
   refine⟨L,_,_,rfl,rfl,by rw[aj nL];exact U3,aA #[31],?_⟩
   have sT:∀ b xs,H3 b=some #[40]->(upd (upd H4 t (.tup ((rows.map fun r=>r.getD i 0).map V.int))) L (.lst (as.map V.ref++[V.ref t]))) b=some #[40]:=fun b xs e=>by
    have e4:=s4 _ _ e
    rw[aj (aQ e4 U3 #[2]),aj (aq e4 ht)]
    exact e4
   refine⟨as++[t],_,rfl,ax (ax (s3.trans s4) ((s3.trans s4).free ht)) hL,by rw[ae,jF];rfl,?_⟩
   rw[js,jF]
   exact aP.snoc (A3.same sT) (by rw[aj (Ne.symm nL),ae])
 ·rintro σ' H3 ⟨as,v,rfl,s3,wy,A3⟩
  rw[jA]at A3
  exact⟨_,rfl,k L as _ s3 wy A3⟩
theorem Y0(F:br K "back_of" "back_of" Cm dV f fd)(dm:mg "enumerate" = none):bc P w K mg base eB 1 f fd ["column"] (Rk K):=by
 refine F.ok sq #[6] #[1]
 ·obtain⟨c,many,col,rfl,_⟩:=h
  rfl
 obtain⟨c,many,col,rfl,hc,lc,n1,akM,k⟩:=h
 have hu:=pX hr
 refine⟨_,(ag (az (i:=1) sq.nd tQ)
   (ag (bI PassesOwn.never rfl (aap rfl dm #[72]) (pK rfl (bx (aS (i:=2) sq.nd) (bx (aS (i:=3) sq.nd) iX))) (ao (bD (fO Wn Wq Wr bJ (Ir #[92] (pv 3) (bw af) ⟨rfl,rfl,rfl,rfl⟩) #[57]))))
   (ao (aH #[92])))),?_⟩
 exists 0
 refine fun B hB=>?_
 have s0:=ak hB (HO.dK [])
 have b0:cY H (upd H B (.dK [])) B [] (fun q ls=>ls=dQ (col.take 0) q):=⟨ae,List.Pairwise.nil,List.Pairwise.nil,(fun e h=>by cases h),(fun e h=>by cases h),fun q _=>rfl⟩
 refine⟨_,rfl,c,rfl,⟨_,bS (s0 _ _ hc)⟩,R8 (K:=K) (xs:=col.map V.int) (fun i σ' H'=>∃ (es:List (Int×QQ)) (v1 v2:OV),σ'=[some (.ref c),some (.ref B),v1,v2]/\aB H H'/\(∀ e∈es,0<=e.1/\e.1<(many:Int))/\cY H H' B es (fun q ls=>ls=dQ (col.take i) q))
  ⟨[],none,none,rfl,s0,(fun e h=>by cases h),b0⟩ (fun i σ' H' _ ⟨_,_,_,_,e,_,_⟩=>bS (e _ _ hc)) ?_ ?_⟩
 ·rintro i y σ' H1 T hi ⟨es,v1,v2,rfl,s1,kr,b1⟩ hT
  obtain⟨t,rfl,ht⟩:=bZ hi
  have il:=(iH ht).1
  have stq:=akM t (pZ ht)
  have sT:=ak hT (HO.tup [V.int i,V.int t])
  obtain⟨H2,CA⟩:∃ H2,upd H1 T (HO.tup [V.int i,V.int t])=H2:=⟨_,rfl⟩
  have hT2:H2 T=some (.tup [V.int i,V.int t]):=by rw[<- CA];exact ae
  rw[CA]at sT ⊢
  have s2:=s1.trans sT
  have b2:=b1.same sT
  exists T,_,rfl,bS hT2,rfl,_,_,rfl,_,_,rfl,rfl
  refine⟨_,rfl,B,rfl,.inl ⟨_,.inl b2.at_⟩,_,rfl,#[13],fun L hL=>?_⟩
  have sL:=ak hL #[82]
  have b3:=b2.same sL
  have nL:∀ e∈es,e.2≠L:=fun e he z=>by
   obtain⟨ls,h1,_⟩:=b2.lst e he
   rw[z,hL]at h1
   cases h1
  have nLB:B≠L:=aq b2.at_ hL
  have fL:H L=none:=s2.free hL
  have AW:=cV many b3.nd (fun q hq=>by
   obtain⟨e,he,rfl⟩:=jO.mp hq
   exact kr e he)
  rw[bq]at AW
  have len:(Cf es).length<sizeLine:=aA (by unfold Cf;rw[bq];omega)
  have et:col.take (i+1)=col.take i++[t]:=by rw[jS,ht];rfl
  have ln:(col.take i).length=i:=by rw[jQ];omega
  have oth:∀ (p:Int) (ls:LI),p≠t->ls=dQ (col.take i) p->ls=dQ (col.take (i+1)) p:=fun p ls np z=>by
   rw[et,Ck,if_neg (Ne.symm np),jo]
   exact z
  have grow:∀ ls:LI,ls=dQ (col.take i) t->ls++[(i:Int)]=dQ (col.take (i+1)) t:=fun ls z=>by
   rw[et,Ck,if_pos rfl,ln,z]
  refine⟨_,Sum.inl t,b3.at_,rfl,len,fun v hv=>?_,fun hn=>?_⟩
  ·obtain⟨la,ls,rfl,hm,V4,hp⟩:=b3.get hv
   have pl:=Mf (col.take i) t
   have lz:(ls.map V.int).length<sizeLine:=aA (by rw[bq,hp];omega)
   exists .inl ⟨rfl,_,bV V4⟩,_,rfl,la,_,_,rfl,rfl,V4,lz
   exact⟨es,_,_,rfl,ax (s2.trans sL) (b2.fresh _ hm),kr,b3.old hm V4 (grow ls hp) oth⟩
  ·have hq:t∉es.map Prod.fst:=fun z=>by
    obtain⟨e,he,ee⟩:=jO.mp z
    obtain⟨jj,hjj⟩:=JB.mp he
    have:=Em b3.nd (q:=e.1) (a:=e.2) hjj
    rw[ee,hn]at this
    cases this
   have wy:(upd (upd H2 L #[82]) B (HO.dK (putK (Cf es) (Sum.inl t) (V.ref L)))) L=some (.lst []):=by rw[aj (Ne.symm nLB),ae]
   refine⟨.inl ⟨rfl,_,bV wy⟩,_,rfl,L,_,_,rfl,rfl,wy,(by show 0<sizeLine;decide),?_⟩
   refine⟨es++[(t,L)],_,_,rfl,ax (ax (s2.trans sL) hB) fL,fun e he=>?_,b3.new hq ae fL nL (grow [] (b3.non _ hq)) oth⟩
   rcases Bn.mp he with z|z
   ·exact kr e z
   ·rw[jK.mp z];exact stq
 ·rintro σ' H1 ⟨es,v1,v2,rfl,s1,kr,b1⟩
  rw[bq,jU]at b1
  exact⟨_,rfl,k B es _ s1 hB b1⟩
end
structure J3(K:Wl)(C:QQ):Prop where
 cl:IX K C
 ng:iQ K C "group_of"
 nm:iQ K C "members"
 nw:iQ K C "waiting"
 ni:iQ K C "is_waiting"
structure J4(H:Hp)(C x go ms wt iw:QQ):Prop where
 ob:∃ dx:QQ,H x=some (.ins C dx [("group_of",.ref go),("members",.ref ms),("waiting",.ref wt),("is_waiting",.ref iw)])
theorem J4.same{x ms:QQ}(h:J4 H C x go ms wt iw)(s:aB H H'):J4 H' C x go ms wt iw:=by
 obtain⟨dx,h1⟩:=h.ob
 exact⟨dx,s _ _ h1⟩
inductive Mz (K:Wl) (C:QQ) (vs:List V) (H:Hp) (Q:VK) (E:XK):Prop
 | mk (x go ms wt iw:QQ) (gs:LI) (ds:List QQ) (_:vs=[.ref x]) (_:J4 H C x go ms wt iw) (_:H go=some (.lst (gs.map V.int))) (_:H ms=some (.lst (ds.map V.ref))) (_:Q (.bl (decide (ds.length=gs.length))) H)
inductive aaY (C:QQ) (vs:List V) (H:Hp) (Q:VK) (E:XK):Prop
 | mk (x go ms wt iw:QQ) (n:Int) (ws ks:LI) (_:vs=[.ref x,.int n]) (_:J4 H C x go ms wt iw) (_:H wt=some (.lst (ws.map V.int))) (_:H iw=some (.dK (dX ks))) (_:ks.Nodup) (_:ws.length<=1000) (_:ks.length<=1000) (_:Q .non (upd (upd H wt (.lst ((ws++[n]).map V.int))) iw (.dK (dX (if n∈ks then ks else ks++[n])))))
theorem LH(ks:LI)(g:Int):Ea (dX ks) (Sum.inl g)=dX (ks.filter fun k=>decide (k≠g)):=by
 unfold Ea dX
 rw[List.filter_map]
 congr 1
 refine ZM fun k _=>?_
 by_cases c:k=g
 ·subst c
  simp
 ·have:(Sum.inl k:Key)≠Sum.inl g:=fun z=>c (Sum.inl.inj z)
  simp[c,this]
theorem X0(ks:LI):(dX ks).map (fun kv=>kV kv.1)=ks.map V.int:=by
 unfold dX
 rw[JI]
 rfl
inductive Rt (C:QQ) (vs:List V) (H:Hp) (Q:VK) (E:XK):Prop
 | mk (x go ms wt iw da:QQ) (g:Int) (ws ks mem:LI) (ds:List QQ) (_:vs=[.ref x]) (_:J4 H C x go ms wt iw) (_:H wt=some (.lst ((ws++[g]).map V.int))) (_:H iw=some (.dK (dX ks))) (_:g∈ks) (_:H ms=some (.lst (ds.map V.ref))) (_:0<=g) (_:ds[g.toNat]?=some da) (_:ms≠wt) (_:H da=some (.dK (dX mem))) (_:da≠iw) (_:mem.length<=1000) (_:∀ l,H l=none->Q (.ref l) (upd (upd (upd H wt (.lst (ws.map V.int))) iw (.dK (dX (ks.filter fun k=>decide (k≠g))))) l (.lst (mem.map V.int))))
section
theorem BF:aJ ["self"] ["self"] (ar lX):=cS #[3]
theorem Ax:aJ ["self","group"] ["self","group"] (ar lA):=cS #[3]
theorem iE:aJ ["self","group"] ["self"] (ar eO):=cS #[3]
theorem Sw(F:br K "is_done" "Parted.is_done" lX dV f fd)(pc:J3 K C)(aZ:mg "len" = none):bc P w K mg base eB 1 f fd ["self"] (Mz K C):=by
 refine F.ok BF #[6] #[1]
 ·obtain⟨x,go,ms,wt,iw,gs,ds,rfl,_⟩:=h
  rfl
 obtain⟨x,go,ms,wt,iw,gs,ds,rfl,⟨dx,hx⟩,Lr,hms,q⟩:=h
 refine⟨_,(ao (aH (pz dE (ay aN #[26] aZ ck (aa #[47] af)) (ay aN #[26] aZ ck (aa #[47] af)) (aM _)))),?_⟩
 exists 0
 exists _,rfl,x,C,dx,_,_,rfl,hx,pc.cl,pc.nm,rfl,ms,_,rfl,.inl (bV hms),_,rfl,x,C,dx,_,_,rfl,hx,pc.cl,pc.ng,rfl,go,_,rfl,.inl (bV Lr),rfl
 rw[bq,bq]
 have e:decide (V.int (ds.length:Int)=V.int (gs.length:Int))=decide (ds.length=gs.length):=decide_eq_decide.mpr ⟨fun h=>by have:=V.int.inj h;omega,fun h=>by rw[h]⟩
 rw[e]
 exact q
theorem OX(F:br K "wait_for" "Parted.wait_for" lA dV f fd)(pc:J3 K C):bc P w K mg base eB 1 f fd ["self","group"] (aaY C):=by
 refine F.ok Ax #[6] #[1]
 ·obtain⟨x,go,ms,wt,iw,n,ws,ks,rfl,_⟩:=h
  rfl
 obtain⟨x,go,ms,wt,iw,n,ws,ks,rfl,⟨dx,hx⟩,Eg,Fp,nd,l1,l2,q⟩:=h
 have hu:=pX hr
 refine⟨_,(ag (bD (fO Wn Wq Wr bJ #[47] #[44]))
   (ao (wC hu #[47] #[92] cq rfl))),?_⟩
 exists 0
 have nx:x≠wt:=aQ hx Eg #[2]
 have ni:iw≠wt:=aQ Fp Eg #[2]
 refine⟨_,rfl,x,C,dx,_,_,rfl,hx,pc.cl,pc.nw,rfl,.inl ⟨rfl,_,bV Eg⟩,_,rfl,wt,_,_,rfl,rfl,Eg,aA (by rw[bq];exact l1),?_⟩
 refine⟨_,rfl,x,C,dx,_,_,rfl,by rw[aj nx];exact hx,pc.cl,pc.ni,rfl,_,rfl,iw,_,rfl,CQ.k (k:=Sum.inl n) (by rw[aj ni];exact Fp) (aA (by unfold dX;rw[bq];exact l2)),?_⟩
 have e:putK (dX ks) (Sum.inl n) (V.bl true)=dX (if n∈ks then ks else ks++[n]):=by
  by_cases c:n∈ks
  ·rw[if_pos c]
   unfold putK
   rw[if_pos (show((dX ks).any fun kv=>decide (kv.fst=Sum.inl n))=true from zB.mpr ⟨(Sum.inl n,V.bl true),jO.mpr ⟨n,c,rfl⟩,by simp⟩)]
   refine(zz fun kv hk=>?_).trans (Zs _)
   obtain⟨k,_,rfl⟩:=jO.mp hk
   show(if (Sum.inl k:Key)=Sum.inl n then((Sum.inl k:Key),V.bl true)else(Sum.inl k,V.bl true))=(Sum.inl k,V.bl true)
   split<;>rfl
  ·rw[if_neg c]
   exact Dk c
 rw[e]
 rw[jF]at q
 exact q
theorem Y9(F:br K "next_splitter" "Parted.next_splitter" eO dV f fd)(pc:J3 K C)(mZ:mg "list" = none):bc P w K mg base eB 1 f fd ["self"] (Rt C):=by
 refine F.ok iE #[6] #[1]
 ·obtain⟨x,go,ms,wt,iw,da,g,ws,ks,mem,ds,rfl,_⟩:=h
  rfl
 obtain⟨x,go,ms,wt,iw,da,g,ws,ks,mem,ds,rfl,⟨dx,hx⟩,Eg,Fp,gk,hms,g0,sS,nmw,Ff,ndi,lm,q⟩:=h
 have hu:=pX hr
 refine⟨_,(ag (az (i:=1) iE.nd (O3 Wn yj yk X8 #[47]))
   (ag (bD (Mc #[47] #[92] ⟨rfl,rfl,rfl,rfl⟩))
   (ao (aH (bj (DV rfl) #[26] mZ Df (aa (aF cF #[47] #[92] #[4]) af)))))),?_⟩
 exists 0
 have nx:x≠wt:=aQ hx Eg #[2]
 have nxi:x≠iw:=aQ hx Fp #[2]
 have ni:iw≠wt:=aQ Fp Eg #[2]
 have nmi:ms≠iw:=aQ hms Fp #[2]
 have ndw:da≠wt:=aQ Ff Eg #[2]
 have last:((ws++[g]).map V.int)[((ws++[g]).map V.int).length-1]?=some (.int g):=by
  rw[bq,jG,jh,Zm,jN,JH (jE _),Jw]
  rfl
 have dl:((ws++[g]).map V.int).dropLast=ws.map V.int:=by rw[jF];exact Zc
 obtain⟨v,hv⟩:∃ v,fq (dX ks) (Sum.inl g)=some v:=by
  have h:=Dm ks g
  rw[decide_eq_true gk]at h
  exact Ja.mp h
 have at':wO (ds.map V.ref) g=some (.ref da):=by
  have q':wO (ds.map V.ref) ((g.toNat:Nat):Int)=some (.ref da):=pf (by rw[jN,sS];rfl)
  rw[jb g0]at q'
  exact q'
 exists _,rfl,x,C,dx,_,_,rfl,hx,pc.cl,pc.nw,rfl,.inl ⟨rfl,_,bV Eg⟩,wt,_,_,rfl,rfl,Eg,last
 rw[dl]
 have Ox:(upd H wt (HO.lst (ws.map V.int))) x=_:=(aj nx).trans hx
 have aht:(upd H wt (HO.lst (ws.map V.int))) iw=_:=(aj ni).trans Fp
 exists _,rfl,x,C,dx,_,_,rfl,Ox,pc.cl,pc.ni,rfl,iw,rfl,.inl ⟨_,.inl aht⟩,_,rfl,dX ks,Sum.inl g,v,aht,rfl,hv
 rw[LH]
 refine⟨_,rfl,x,C,dx,_,_,rfl,(aj nxi).trans Ox,pc.cl,pc.nm,rfl,_,rfl,ms,_,_,_,rfl,rfl,bV ((aj nmi).trans ((aj nmw).trans hms)),at',da,_,rfl,(aj ndi).trans ((aj ndw).trans Ff),fun l hl=>?_⟩
 rw[X0]
 refine q l ?_
 by_cases c1:l=iw
 ·rw[c1,ae]at hl
  cases hl
 ·rw[aj c1]at hl
  by_cases c2:l=wt
  ·rw[c2,ae]at hl
   cases hl
  ·rw[aj c2]at hl
   exact hl
end
def setG(gs done:LI)(n:Int):LI:=done.foldl (fun g q=>g.set q.toNat n) gs
def outF(mem done:LI):LI:=mem.filter fun q=>decide (q∉done)
theorem Mu(gs:LI)(n:Int):∀ done:LI,(setG gs done n).length=gs.length:=fun done=>by
 unfold setG
 induction done generalizing gs with
 | nil=>rfl
 | cons q r ih=>rw[JS,ih,zp]
theorem S7(gs done:LI)(q n:Int):setG gs (done++[q]) n=(setG gs done n).set q.toNat n:=by
 unfold setG
 rw[JC]
 rfl
theorem SN(mem done:LI)(q:Int):(outF mem done).filter (fun k=>decide (k≠q))=outF mem (done++[q]):=by
 unfold outF
 rw[List.filter_filter]
 refine ZM fun k _=>?_
 by_cases c:k=q
 ·subst c
  simp
 ·simp[c]
inductive Rx (K:Wl) (C:QQ) (vs:List V) (H:Hp) (Q:VK) (E:XK):Prop
 | mk (x go ms wt iw da il:QQ) (g:Int) (gs ws ks mem ins:LI) (ds:List QQ) (_:vs=[.ref x,.int g,.ref il]) (_:J4 H C x go ms wt iw) (_:H go=some (.lst (gs.map V.int))) (_:H ms=some (.lst (ds.map V.ref))) (_:H wt=some (.lst (ws.map V.int))) (_:H iw=some (.dK (dX ks))) (_:ks.Nodup) (_:(ws.length<=1000/\ks.length<=1000/\ds.length<1000/\ins.length<=1000)) (_:0<=g) (_:ds[g.toNat]?=some da) (_:H da=some (.dK (dX mem))) (_:H il=some (.lst (ins.map V.int))) (_:ins.Nodup) (_:(∀ q∈ins,q∈mem/\0<=q/\q<(gs.length:Int))) (_:(go≠ms/\go≠wt/\go≠il/\ms≠wt/\ms≠il/\wt≠il/\da≠iw)) (_:∀ (E:QQ) (nw:Int) (H':Hp),H E=none->H' E=some (.dK (dX ins))->H' ms=some (.lst ((ds++[E]).map V.ref))->H' da=some (.dK (dX #[94]))->H' go=some (.lst ((setG gs ins (ds.length:Int)).map V.int))->H' wt=some (.lst ((ws++[nw]).map V.int))->H' iw=some (.dK (dX (if nw∈ks then ks else ks++[nw])))->((g∈ks\/ins.length<=#[94].length)->nw=(ds.length:Int))->(¬ (g∈ks\/ins.length<=#[94].length)->nw=g)->(∀ c u,c≠go->c≠ms->c≠da->c≠wt->c≠iw->H c=some u->H' c=some u)->Q .non H')
theorem ab0{z:Nat}(h:z<n):Sk n (z:Int)=some z:=by
 unfold Sk
 rw[if_pos #[0],if_pos #[0],jA]
section
theorem dS:aJ ["self","group","inside","fresh","outside","here"] ["self","group","inside"] (ar eP):=cS #[3]
theorem lI:bF ["self","group","inside","fresh","outside","here"] (ar eP) ["here"] [none] ⟨.function,[#[62],("here",.local)],false,false,[]⟩:=rV #[3]
theorem Z4(F:br K "split_off" "Parted.split_off" eP dV f fd)(pc:J3 K C)(oZ:sX P w K mg base C "wait_for" 1 ["self","group"] (aaY C))(aZ:mg "len" = none)(mY:mg "dict" = none):bc P w K mg base eB 2 f fd ["self","group","inside"] (Rx K C):=by
 refine F.ok dS #[6] #[1]
 ·obtain⟨x,go,ms,wt,iw,da,il,g,gs,ws,ks,mem,ins,ds,rfl,_⟩:=h
  rfl
 obtain⟨x,go,ms,wt,iw,da,il,g,gs,ws,ks,mem,ins,ds,rfl,⟨dx,hx⟩,Lr,hms,Eg,Fp,ndk,⟨lw,lk,ld,li⟩,g0,sS,Ff,hil,ndi,akY,⟨n1,n2,n3,n4,n5,n6,n7⟩,k⟩:=h
 have hu:=pX hr
 refine⟨_,(ag (az (i:=3) dS.nd (ay aN #[26] aZ ck (aa #[47] af)))
   (ag (az (i:=4) dS.nd (aF cF #[47] #[92] #[4]))
   (ag (bI PassesOwn.never rfl (df (pv 2)) (aS (i:=5) dS.nd) (ag (bD (Mc (pv 4) (pv 5) ⟨rfl,rfl,rfl,rfl⟩))
   (ao (As (pv 3) (aak #[47] (pv 5) set_list)))))
   (ag (bD (fO Wn Wq Wr bJ #[47] (aa (bj (tw rfl) #[26] mY De (aa (eK rfl lI (df (pv 2)) (fun _ _ _ _=>(aS (i:=0) lI.nd)) (fun _ _ _ _=>(eL (aa #[98] (aa cq af))))) af)) af)))
   (ao (bK (PW.pt (pA (Iz (aeY hu #[92] #[47]) #[71]) (tT (aE aaa (ay aN #[26] aZ ck #[57]) (ay wm #[26] aZ ck #[88]) (aM _))))) (ao (bD (Hl oZ hr #[98] #[79]))) (ao (bD (Hl oZ hr #[98] #[44]))))))))),?_⟩
 exists 0
 have o0:outF mem []=mem:=Zg.mpr fun _ _=>by simp
 have nxg:x≠go:=aQ hx Lr #[2]
 have nxd:x≠da:=aQ hx Ff #[2]
 have ngd:go≠da:=aQ Lr Ff #[2]
 have at':wO (ds.map V.ref) g=some (.ref da):=by
  have q':wO (ds.map V.ref) ((g.toNat:Nat):Int)=some (.ref da):=pf (by rw[jN,sS];rfl)
  rw[jb g0]at q'
  exact q'
 exists _,rfl,x,C,dx,_,_,rfl,hx,pc.cl,pc.nm,rfl,ms,_,rfl,.inl (bV hms)
 rw[bq]
 exists _,rfl,x,C,dx,_,_,rfl,hx,pc.cl,pc.nm,rfl,_,rfl,ms,_,_,_,rfl,rfl,bV hms,at'
 try dsimp only[aX,bU]
 refine cU (t:=sU _ _ _) (fun σ' H'=>∃ v:OV,σ'=[some #[89],some (.int g),some (.ref il),some (.int (ds.length:Int)),some (.ref da),v]/\H' da=some (.dK (dX #[94]))/\H' go=some (.lst ((setG gs ins (ds.length:Int)).map V.int))/\∀ c u,c≠go->c≠da->H c=some u->H' c=some u) ?_ #[30]
 exists 16
 ·exists _,rfl,il,rfl,⟨_,bV hil⟩
  refine eS (K:=K) (xs:=ins.map V.int) (fun i σ' H'=>∃ v:OV,σ'=[some #[89],some (.int g),some (.ref il),some (.int (ds.length:Int)),some (.ref da),v]/\H' da=some (.dK (dX (outF mem (ins.take i))))/\H' go=some (.lst ((setG gs (ins.take i) (ds.length:Int)).map V.int))/\∀ c u,c≠go->c≠da->H c=some u->H' c=some u) ⟨none,rfl,by rw[ZF,o0];exact Ff,Lr,fun _ _ _ _ e=>e⟩ (fun i σ' H' _ ⟨_,_,_,_,e⟩=>bV (e _ _ (Ne.symm n3) (aQ hil Ff #[2]) hil)) ?_ ?_
  ·rintro i y σ' H3 hi ⟨v,rfl,hd3,hg3,IZ⟩
   obtain⟨q,rfl,hq⟩:=bZ hi
   have qm:=akY q (pZ hq)
   have qo:q∈outF mem (ins.take i):=by
    refine jy.mpr ⟨qm.1,decide_eq_true fun z=>?_⟩
    obtain⟨j,hj,ej⟩:=ji z
    rw[jQ]at hj
    rw[zU]at ej
    have ql:=iH hq
    have:=(JK ndi).mp (ej.trans ql.2.symm)
    omega
   obtain⟨vv,hvv⟩:∃ v,fq (dX (outF mem (ins.take i))) (Sum.inl q)=some v:=by
    have h:=Dm (outF mem (ins.take i)) q
    rw[decide_eq_true qo]at h
    exact Ja.mp h
   have et:ins.take (i+1)=ins.take i++[q]:=by rw[jS,hq];rfl
   exists _,rfl,da,rfl,.inl ⟨_,.inl hd3⟩,_,rfl,_,Sum.inl q,vv,hd3,rfl,hvv
   rw[LH,SN,<- et]
   have hx3:=IZ _ _ nxg nxd hx
   refine⟨_,rfl,_,rfl,x,C,dx,_,_,rfl,(aj nxd).trans hx3,pc.cl,pc.ng,rfl,_,rfl,go,_,q,q.toNat,rfl,rfl,(aj ngd).trans hg3,?_,?_⟩
   ·rw[bq,Mu]
    have:=ab0 (n:=gs.length) (z:=q.toNat) #[0]
    rw[jb qm.2.1]at this
    exact this
   ·refine⟨_,rfl,by rw[aj (Ne.symm ngd),ae],?_,fun c u c1 c2 e=>by rw[aj c1,aj c2];exact IZ c u c1 c2 e⟩
    rw[ae,et,S7,QI]
  ·rintro σ' H3 ⟨v,rfl,hd3,hg3,IZ⟩
   rw[bq,jU]at hd3 hg3
   exact dq _ _ ⟨v,rfl,hd3,hg3,IZ⟩
 rintro σ' H1 ⟨v,rfl,hd1,hg1,Fu⟩
 have Ox:=Fu _ _ nxg nxd hx
 have ahA:=Fu _ _ (Ne.symm n1) (aQ hms Ff #[2]) hms
 have aeq:=Fu _ _ (Ne.symm n3) (aQ hil Ff #[2]) hil
 exists _,rfl,x,C,dx,_,_,rfl,Ox,pc.cl,pc.nm,rfl,.inl ⟨rfl,_,bV ahA⟩,_,rfl,il,rfl,⟨_,bV aeq⟩
 refine lN (K:=K) (xs:=ins.map V.int) (fun D i ys H'=>aB H1 H'/\∃ ts,ys=ts.map V.ref/\lM H' ts (dX (ins.take i))) (fun D hD=>⟨ak hD _,[],rfl,.nil⟩) (fun D i ys H' _ ⟨e,_⟩=>bV (e _ _ aeq)) ?_ ?_
 ·rintro D i y ys H' Q' hD hi hy ⟨hs,ts,rfl,pv⟩ k'
  obtain⟨q,rfl,hq⟩:=bZ hi
  have il':i<ins.length:=(iH hq).1
  refine⟨_,rfl,#[33],fun T hT=>?_⟩
  have sT:=ak hT (HO.tup [V.int q,V.bl true])
  have nD:D≠T:=aq hy hT
  have lts:ts.length=i:=by
   rw[Paired.length pv]
   unfold dX
   rw[bq,jQ]
   omega
  have hyT:(upd H' T (HO.tup [V.int q,V.bl true])) D=some (.lst (ts.map V.ref)):=by rw[aj nD];exact hy
  refine k' _ _ hyT (aA #[31]) ⟨ax (ax hs (hs.free hT)) hD,ts++[T],by rw[jF];rfl,?_⟩
  rw[jS,hq]
  have up:∀ b xs,(upd H' T (HO.tup [V.int q,V.bl true])) b=some #[40]->(upd (upd H' T (HO.tup [V.int q,V.bl true])) D (.lst (ts.map V.ref++[V.ref T]))) b=some #[40]:=fun b xs e=>by
   rw[aj (aQ e hyT #[2])];exact e
  show lM _ _ (dX (ins.take i++[q]))
  unfold dX
  rw[jF]
  exact Paired.snoc (lM.same pv fun b xs e=>up b xs (sT _ _ e)) (up _ _ ae)
 rintro L ys H2 fL hL ⟨s2,ts,rfl,pv⟩
 rw[bq,jU]at pv
 refine⟨L,ts,_,rfl,hL,pv,fun N hN=>?_⟩
 rw[Hi ndi]
 have s3:=s2.trans (ak hN (HO.dK (dX ins)))
 obtain⟨H3,Lh⟩:∃ H3,upd H2 N (HO.dK (dX ins))=H3:=⟨_,rfl⟩
 have P7:H3 N=some (.dK (dX ins)):=by rw[<- Lh];exact ae
 rw[Lh]at s3 ⊢
 have fN:H1 N=none:=s2.free hN
 have Ic:=s3 _ _ ahA
 have nxm:x≠ms:=aQ hx hms #[2]
 refine⟨ms,_,_,rfl,rfl,Ic,aA #[31],?_⟩
 have nNm:N≠ms:=aQ P7 Ic #[2]
 have nxi:x≠iw:=aQ hx Fp #[2]
 have nim:iw≠ms:=aQ Fp hms #[2]
 have ndm:da≠ms:=aQ Ff hms #[2]
 obtain⟨H4,Eb⟩:∃ H4,upd H3 ms (HO.lst (ds.map V.ref++[V.ref N]))=H4:=⟨_,rfl⟩
 have kp4:∀ c u,c≠ms->H1 c=some u->H4 c=some u:=fun c u c1 e=>by rw[<- Eb,aj c1];exact s3 _ _ e
 have Ls:H4 ms=some (.lst ((ds++[N]).map V.ref)):=by rw[<- Eb,ae,jF];rfl
 have hN4:H4 N=some (.dK (dX ins)):=by rw[<- Eb,aj nNm];exact P7
 have Sh:=kp4 _ _ nxm Ox
 have abR:=kp4 _ _ nim (Fu _ _ (aQ Fp Lr #[2]) (Ne.symm n7) Fp)
 have abX:=kp4 _ _ (Ne.symm n4) (Fu _ _ (Ne.symm n2) (aQ Eg Ff #[2]) Eg)
 have ahf:=kp4 _ _ ndm hd1
 have Oo:=kp4 _ _ n1 hg1
 have aer:=kp4 _ _ (Ne.symm n5) aeq
 rw[Eb]
 have niw:iw≠wt:=aQ Fp Eg #[2]
 have lo:(dX #[94]).length=#[94].length:=by unfold dX;rw[bq]
 have fN0:H N=none:=by
  cases e:H N with
  | none=>rfl
  | some u =>
   have z1:N=go\/N=da:=Classical.byContradiction fun z=>by
    have:=Fu N u (fun a=>z (.inl a)) (fun a=>z (.inr a)) e
    rw[fN]at this
    cases this
   rcases z1 with z|z
   ·rw[z,hg1]at fN;cases fN
   ·rw[z,hd1]at fN;cases fN
 have fin:∀ nw:Int,((g∈ks\/ins.length<=#[94].length)->nw=(ds.length:Int))->(¬ (g∈ks\/ins.length<=#[94].length)->nw=g)->Q .non (upd (upd H4 wt (.lst ((ws++[nw]).map V.int))) iw (.dK (dX (if nw∈ks then ks else ks++[nw])))):=fun nw h1 h2=>by
  have nNw:N≠wt:=aQ hN4 abX #[2]
  have nNi:N≠iw:=fun z=>by rw[z,Fp]at fN0;cases fN0
  refine k N nw _ fN0 ?_ ?_ ?_ ?_ ?_ ae h1 h2 fun c u c1 c2 c3 c4 c5 e=>?_
  ·rw[aj nNi,aj nNw];exact hN4
  ·rw[aj (Ne.symm nim),aj n4];exact Ls
  ·rw[aj n7,aj (aQ Ff Eg #[2])];exact ahf
  ·rw[aj (aQ Lr Fp #[2]),aj n2];exact Oo
  ·rw[aj (Ne.symm niw),ae]
  ·rw[aj c5,aj c4];exact kp4 _ _ c2 (Fu c u c1 c3 e)
 exists _,rfl,_,rfl,x,C,dx,_,_,rfl,Sh,pc.cl,pc.ni,rfl,iw,_,rfl,ik.k (k:=Sum.inl g) abR,_,rfl
 rw[Dm]
 have yes:(g∈ks\/ins.length<=#[94].length)->Q .non (upd (upd H4 wt (.lst ((ws++[(ds.length:Int)]).map V.int))) iw (.dK (dX (if (ds.length:Int)∈ks then ks else ks++[(ds.length:Int)])))):=fun h=>fin _ (fun _=>rfl) (fun n=>absurd h n)
 refine ou #[29] #[29]
 ·exact Be ⟨_,rfl,x,dx,_,rfl,Sh,rfl,_,rfl,x,go,ms,wt,iw,(ds.length:Int),ws,ks,rfl,⟨dx,Sh⟩,abX,abR,ndk,lw,lk,yes (.inl c)⟩
 ·refine⟨_,rfl,il,_,rfl,.inl (bV aer),_,rfl,da,_,rfl,ahf,_,_,rfl,rfl,_,rfl,ou (fun c2=>?_) (fun c2=>?_)⟩
  ·rw[bq,lo]at c2
   exact⟨_,rfl,x,dx,_,rfl,Sh,rfl,_,rfl,x,go,ms,wt,iw,(ds.length:Int),ws,ks,rfl,⟨dx,Sh⟩,abX,abR,ndk,lw,lk,yes (.inr #[0])⟩
  ·rw[bq,lo]at c2
   exact⟨_,rfl,x,dx,_,rfl,Sh,rfl,_,rfl,x,go,ms,wt,iw,g,ws,ks,rfl,⟨dx,Sh⟩,abX,abR,ndk,lw,lk,fin g (fun h=>absurd h (fun z=>by
    rcases z with z|z
    ·exact c z
    ·exact c2 #[0])) (fun _=>rfl)⟩
end
def au(many:Nat)(q:Int):Prop:=0<=q/\q<(many:Int)
structure adf(many:Nat)(cols:List (Int->Int))(sg:Int->Int)(R:Int->Int->Prop):Prop where
 sgn:∀ x y,R x y->sg x=sg y
 led:∀ x y,R x y->∀ c∈cols,R (c x) (c y)
structure PH(many:Nat)(cols:List (Int->Int))(sg:Int->Int)(R:Int->Int->Prop)(grp:Int->Int)(W:Int->Prop):Prop where
 coarse:∀ x y,au many x->au many y->R x y->grp x=grp y
 signs:∀ x y,au many x->au many y->grp x=grp y->sg x=sg y
 cong:∀ x y,au many x->au many y->grp x=grp y->∀ c∈cols,grp (c x)=grp (c y)\/W (grp (c x))\/W (grp (c y))
structure Aj(many:Nat)(cols:List (Int->Int))(sg:Int->Int)(R:Int->Int->Prop)(grp:Int->Int)(W:Int->Prop)(S:Int->Prop)(k:Nat):Prop where
 coarse:∀ x y,au many x->au many y->R x y->grp x=grp y
 signs:∀ x y,au many x->au many y->grp x=grp y->sg x=sg y
 whole:∀ x y,au many x->au many y->R x y->S x->S y
 cong:∀ x y,au many x->au many y->grp x=grp y->∀ (j:Nat) (c:Int->Int),cols[j]?=some c ->
  grp (c x)=grp (c y)\/W (grp (c x))\/W (grp (c y))\/(k<=j/\((S (c x)/\¬ S (c y))\/(S (c y)/\¬ S (c x))))
section
variable{cols:List (Int->Int)}{R:Int->Int->Prop}{W S:Int->Prop}{k:Nat}
theorem PH.pop(h:PH many cols sg R grp W)(hc:∀ x,au many x->∀ c∈cols,au many (c x))(s:Int):Aj many cols sg R grp (fun g=>W g/\g≠s) (fun q=>grp q=s) 0 where
 coarse:=h.coarse
 signs:=h.signs
 whole:=fun x y hx hy r e=>(h.coarse x y hx hy r).symm.trans e
 cong:=fun x y hx hy e j c hj=>by
  have cm:=pZ hj
  rcases Classical.em (grp (c x)=grp (c y))with q|q
  ·exact .inl q
  rcases Classical.em (grp (c x)=s)with a|a
  ·exact .inr (.inr (.inr ⟨je _,.inl ⟨a,fun b=>q (a.trans b.symm)⟩⟩))
  rcases Classical.em (grp (c y)=s)with b|b
  ·exact .inr (.inr (.inr ⟨je _,.inr ⟨b,a⟩⟩))
  rcases h.cong x y hx hy e c cm with z|z|z
  ·exact .inl z
  ·exact .inr (.inl ⟨z,a⟩)
  ·exact .inr (.inr (.inl ⟨z,b⟩))
theorem Aj.done(h:Aj many cols sg R grp W S cols.length):PH many cols sg R grp W where
 coarse:=h.coarse
 signs:=h.signs
 cong:=fun x y hx hy e c cm=>by
  obtain⟨j,hj⟩:=JB.mp cm
  rcases h.cong x y hx hy e j c hj with z|z|z|⟨z,_⟩
  ·exact .inl z
  ·exact .inr (.inl z)
  ·exact .inr (.inr z)
  ·have:=(iH hj).1
   omega
theorem Aj.split(h:Aj many cols sg R grp W S k)(sym:∀ x y,R x y->R y x)(hc:∀ x,au many x->∀ c∈cols,au many (c x)){L:Int->Prop}{n:Int}{W':Int->Prop}(hL:∀ x y,au many x->au many y->R x y->L x->L y)(nn:∀ x,au many x->grp x≠n)(w1:∀ g,W g->W' g)(w2:W b->W' n)(w3:W' n\/W' b)(g1:∀ x,au many x->grp x=b->L x->Sa x=n)(g2:∀ x,au many x->¬ (grp x=b/\L x)->Sa x=grp x):
  Aj many cols sg R Sa W' S k:=by
 have back:∀ x y,au many x->au many y->Sa x=Sa y->grp x=grp y/\(grp x=b->(L x↔L y)):=fun x y hx hy e=>by
  rcases Classical.em (grp x=b/\L x)with q|q
  ·rcases Classical.em (grp y=b/\L y)with p|p
   ·exact⟨q.1.trans p.1.symm,fun _=>⟨fun _=>p.2,fun _=>q.2⟩⟩
   ·rw[g1 x hx q.1 q.2,g2 y hy p]at e
    exact absurd e.symm (nn y hy)
  ·rcases Classical.em (grp y=b/\L y)with p|p
   ·rw[g2 x hx q,g1 y hy p.1 p.2]at e
    exact absurd e (nn x hx)
   ·rw[g2 x hx q,g2 y hy p]at e
    exact⟨e,fun eb=>⟨fun lx=>absurd ⟨eb,lx⟩ q,fun ly=>absurd ⟨e.symm.trans eb,ly⟩ p⟩⟩
 have wait:∀ x,au many x->W (grp x)->W' (Sa x):=fun x hx w=>by
  rcases Classical.em (grp x=b/\L x)with q|q
  ·rw[g1 x hx q.1 q.2]
   exact w2 (q.1 ▸ w)
  ·rw[g2 x hx q]
   exact w1 _ w
 refine⟨fun x y hx hy r=>?_,fun x y hx hy e=>h.signs x y hx hy (back x y hx hy e).1,h.whole,fun x y hx hy e j c hj=>?_⟩
 ·have e:=h.coarse x y hx hy r
  rcases Classical.em (grp x=b/\L x)with q|q
  ·rw[g1 x hx q.1 q.2,g1 y hy (e.symm.trans q.1) (hL x y hx hy r q.2)]
  ·have p:¬ (grp y=b/\L y):=fun p=>q ⟨e.trans p.1,hL y x hy hx (sym x y r) p.2⟩
   rw[g2 x hx q,g2 y hy p,e]
 ·have cm:=pZ hj
  have hcx:=hc x hx c cm
  have hcy:=hc y hy c cm
  rcases h.cong x y hx hy (back x y hx hy e).1 j c hj with z|z|z|z
  ·rcases Classical.em (grp (c x)=b/\L (c x))with q|q
   ·rcases Classical.em (grp (c y)=b/\L (c y))with p|p
    ·exact .inl (by rw[g1 _ hcx q.1 q.2,g1 _ hcy p.1 p.2])
    ·have ex:=g1 _ hcx q.1 q.2
     have ey:=g2 _ hcy p
     rcases w3 with a|a
     ·exact .inr (.inl (by rw[ex];exact a))
     ·exact .inr (.inr (.inl (by rw[ey,<- z,q.1];exact a)))
   ·rcases Classical.em (grp (c y)=b/\L (c y))with p|p
    ·have ex:=g2 _ hcx q
     have ey:=g1 _ hcy p.1 p.2
     rcases w3 with a|a
     ·exact .inr (.inr (.inl (by rw[ey];exact a)))
     ·exact .inr (.inl (by rw[ex,z,p.1];exact a))
    ·exact .inl (by rw[g2 _ hcx q,g2 _ hcy p,z])
  ·exact .inr (.inl (wait _ hcx z))
  ·exact .inr (.inr (.inl (wait _ hcy z)))
  ·exact .inr (.inr (.inr z))
theorem Aj.next(h:Aj many cols sg R grp W S k){c:Int->Int}(hk:cols[k]?=some c)(hn:∀ x y,au many x->au many y->grp x=grp y->S (c x)->S (c y)):Aj many cols sg R grp W S (k+1) where
 coarse:=h.coarse
 signs:=h.signs
 whole:=h.whole
 cong:=fun x y hx hy e j c' hj=>by
  rcases h.cong x y hx hy e j c' hj with z|z|z|⟨kj,z⟩
  ·exact .inl z
  ·exact .inr (.inl z)
  ·exact .inr (.inr (.inl z))
  ·rcases Jb k j with l|l
   ·exact .inr (.inr (.inr ⟨l,z⟩))
   ·have ej:j=k:=by omega
    subst ej
    rw[hk]at hj
    cases hj
    rcases z with⟨a,b⟩|⟨a,b⟩
    ·exact absurd (hn x y hx hy e a) b
    ·exact absurd (hn y x hy hx e.symm a) b
theorem PH.afo(h:PH many cols sg R grp W)(hw:∀ x,au many x->¬ W (grp x))(hc:∀ x,au many x->∀ c∈cols,au many (c x)):∀ x y,au many x->au many y->grp x=grp y->∀ c∈cols,grp (c x)=grp (c y):=fun x y hx hy e c cm=>by
 rcases h.cong x y hx hy e c cm with z|z|z
 ·exact z
 ·exact absurd z (hw _ (hc x hx c cm))
 ·exact absurd z (hw _ (hc y hy c cm))
theorem PH.single(inj:∀ x y,au many x->au many y->grp x=grp y->x=y):∀ x y,au many x->au many y->grp x=grp y->∀ c∈cols,grp (c x)=grp (c y):=fun x y hx hy e c _=>by rw[inj x y hx hy e]
end
theorem PH.start{cols:List (Int->Int)}{R:Int->Int->Prop}(l:adf many cols sg R){W:Int->Prop}(hg:∀ x y,au many x->au many y->(grp x=grp y↔sg x=sg y))(hw:∀ x,au many x->W (grp x))(hc:∀ x,au many x->∀ c∈cols,au many (c x)):PH many cols sg R grp W where
 coarse:=fun x y hx hy r=>(hg x y hx hy).mpr (l.sgn x y r)
 signs:=fun x y hx hy e=>(hg x y hx hy).mp e
 cong:=fun x y hx hy _ c cm=>.inr (.inl (hw _ (hc x hx c cm)))
theorem lS:∀ {xs ys:LI},xs.Nodup->(∀ x∈xs,x∈ys)->xs.length<=ys.length
 | [],_,_,_=>je _
 | x :: xs,ys,nd,h=>by
  have n:=jx.mp nd
  have m:=h x jD
  have i:=lS (xs:=xs) (ys:=ys.erase x) n.2 fun y hy=>by
   have e:y≠x:=fun z=>n.1 (z ▸ hy)
   exact(Zd e).mpr (h y (jI _ hy))
  rw[ZP m]at i
  have:=Jq m
  rw[jT]
  omega
theorem OM{xs ys:LI}(nd:xs.Nodup)(h:∀ x∈xs,x∈ys)(l:ys.length<=xs.length):∀ y∈ys,y∈xs:=fun y hy=>Classical.byContradiction fun z=>by
 have:=lS (xs:=y :: xs) (ys:=ys) (jx.mpr ⟨z,nd⟩) fun q hq=>by
  rcases jY.mp hq with r|r
  ·rw[r];exact hy
  ·exact h q r
 rw[jT]at this
 omega
theorem Ms{n:Int}:∀ {done gs:LI} {x:Nat},x<gs.length->(∀ q∈done,0<=q)->(setG gs done n).getD x 0=if (x:Int)∈done then n else gs.getD x 0
 | [],gs,x,_,_=>by rw[if_neg #[21]];rfl
 | q :: r,gs,x,hx,h=>by
  have ih:=Ms (gs:=gs.set q.toNat n) (n:=n) (done:=r) (x:=x) (by rw[zp];exact hx) fun p hp=>h p (jI _ hp)
  show(setG (gs.set q.toNat n) r n).getD x 0=_
  rw[ih]
  have q0:=h q jD
  by_cases c:(x:Int)∈r
  ·rw[if_pos c,if_pos (jI _ c)]
  ·rw[if_neg c]
   by_cases d:(x:Int)=q
   ·rw[if_pos (by rw[d];exact jD)]
    have e:q.toNat=x:=by omega
    rw[e,jM,Jf hx]
    rfl
   ·rw[if_neg (fun z=>(jY.mp z).elim d c)]
    have e:q.toNat≠x:=by omega
    rw[jM,Jh e,jM]
def bE(gs:LI)(q:Int):Int:=gs.getD q.toNat 0
theorem Mt{n:Int}(h0:0<=q)(h1:q<(gs.length:Int))(hi:∀ p∈ins,0<=p):bE (setG gs ins n) q=if q∈ins then n else bE gs q:=by
 have h:=Ms (n:=n) (done:=ins) (gs:=gs) (x:=q.toNat) #[0] hi
 rw[jb h0]at h
 exact h
structure CV(H:Hp)(C x go ms wt iw:QQ)(many:Nat)(gs:LI)(ds:List QQ)(ws:LI):Prop where
 pt:J4 H C x go ms wt iw
 go_:H go=some (.lst (gs.map V.int))
 ms_:H ms=some (.lst (ds.map V.ref))
 wt_:H wt=some (.lst (ws.map V.int))
 iw_:H iw=some (.dK (dX ws))
 lg:gs.length=many
 val:∀ q,au many q->0<=bE gs q/\bE gs q<(ds.length:Int)
 mem:∀ (i:Nat) (da:QQ),ds[i]?=some da->∃ mem:LI,H da=some (.dK (dX mem))/\mem.Nodup/\mem≠[]/\∀ q,q∈mem↔au many q/\bE gs q=(i:Int)
 dn:ds.Nodup
 ndi:iw∉ds
 n1:go≠ms
 n2:go≠wt
 n3:ms≠wt
 wn:ws.Nodup
 wv:∀ g∈ws,0<=g/\g<(ds.length:Int)
section
variable{x ms:QQ}
theorem CV.at_(h:CV H C x go ms wt iw many gs ds ws){d:QQ}(hd:d∈ds):∃ mem:LI,H d=some (.dK (dX mem)):=by
 obtain⟨i,hi⟩:=JB.mp hd
 obtain⟨mem,h1,_⟩:=h.mem i d hi
 exact⟨mem,h1⟩
theorem CV.same(h:CV H C x go ms wt iw many gs ds ws)(s:aB H H'):CV H' C x go ms wt iw many gs ds ws:=
 ⟨h.pt.same s,s _ _ h.go_,s _ _ h.ms_,s _ _ h.wt_,s _ _ h.iw_,h.lg,h.val,fun i da hi=>by
  obtain⟨mem,h1,h2,h3,h4⟩:=h.mem i da hi
  exact⟨mem,s _ _ h1,h2,h3,h4⟩,h.dn,h.ndi,h.n1,h.n2,h.n3,h.wn,h.wv⟩
theorem CV.AW(h:CV H C x go ms wt iw many gs ds ws):ds.length<=many:=by
 have t:=lS (xs:=(jd ds.length).map fun i:Nat=>(i:Int)) (ys:=gs) (Js.mpr (List.nodup_range.imp fun {a b} n z=>n (by
  have z':(a:Int)=(b:Int):=z
  omega))) (fun g hg=>by
  obtain⟨i,hi,rfl⟩:=jO.mp hg
  have il:=jm.mp hi
  obtain⟨mem,_,_,ne,iff⟩:=h.mem i _ (jB il)
  obtain⟨q,r,rfl⟩:=ZJ ne
  obtain⟨⟨q0,q1⟩,e⟩:=(iff q).mp jD
  have l:q.toNat<gs.length:=by rw[h.lg];omega
  unfold bE at e
  rw[getD_at l]at e
  rw[<- e]
  exact jH l)
 rw[bq,jg,h.lg]at t
 exact t
theorem CV.amO(h:CV H C x go ms wt iw many gs ds ws):ws.length<=ds.length:=cV ds.length h.wn h.wv
theorem CV.split{da E:QQ}{g nw:Int}(h:CV H C x go ms wt iw many gs ds ws)(g0:0<=g)(sS:ds[g.toNat]?=some da)(Ff:H da=some (.dK (dX mem)))(hm:∀ q,q∈mem↔au many q/\bE gs q=g)(nm:mem.Nodup)(ndi:ins.Nodup)(rO:∀ q∈ins,q∈mem)(hne:ins≠[])(lt:ins.length<mem.length)(fE:H E=none)(hE:H' E=some (.dK (dX ins)))(hms:H' ms=some (.lst ((ds++[E]).map V.ref)))(hd':H' da=some (.dK (dX #[94])))(Lr:H' go=some (.lst ((setG gs ins (ds.length:Int)).map V.int)))(Eg:H' wt=some (.lst ((ws++[nw]).map V.int)))(Fp:H' iw=some (.dK (dX (if nw∈ws then ws else ws++[nw]))))(hnw:nw∉ws)(nwv:nw=(ds.length:Int)\/nw=g)(kp:∀ c u,c≠go->c≠ms->c≠da->c≠wt->c≠iw->H c=some u->H' c=some u):CV H' C x go ms wt iw many (setG gs ins (ds.length:Int)) (ds++[E]) (ws++[nw]):=by
 have gl:g.toNat<ds.length:=(iH sS).1
 have ip:∀ p∈ins,0<=p:=fun p hp=>((hm p).mp (rO p hp)).1.1
 have gr:∀ q,au many q->bE (setG gs ins (ds.length:Int)) q=if q∈ins then(ds.length:Int)else bE gs q:=fun q hq=>Mt hq.1 (by rw[h.lg];exact hq.2) ip
 have eE:E∉ds:=fun z=>by
  obtain⟨m,hm⟩:=h.at_ z
  rw[fE]at hm
  cases hm
 obtain⟨dx,hx⟩:=h.pt.ob
 refine⟨⟨dx,kp _ _ (aQ hx h.go_ #[2]) (aQ hx h.ms_ #[2]) (aQ hx Ff #[2]) (aQ hx h.wt_ #[2]) (aQ hx h.iw_ #[2]) hx⟩,Lr,hms,Eg,by rw[if_neg hnw]at Fp;exact Fp,by rw[Mu];exact h.lg,fun q hq=>?_,fun i d hi=>?_,?_,?_,h.n1,h.n2,h.n3,Bo h.wn hnw,fun p hp=>?_⟩
 ·rw[gr q hq,jG,jh]
  have v:=h.val q hq
  split<;>omega
 ·rcases snoc_cases hi with hi|⟨rfl,rfl⟩
  ·have il:=(iH hi).1
   by_cases c:d=da
   ·subst c
    have ei:i=g.toNat:=by
     have e1:=(iH hi).2
     have e2:=(iH sS).2
     exact(JK h.dn).mp (e1.trans e2.symm)
    refine⟨outF mem ins,hd',nm.filter _,fun z=>?_,fun q=>?_⟩
    ·have all:∀ q∈mem,q∈ins:=fun q hq=>Classical.byContradiction fun n=>by
      have:q∈outF mem ins:=jy.mpr ⟨hq,decide_eq_true n⟩
      rw[z]at this
      cases this
     have:=lS nm all
     omega
    ·unfold outF
     rw[jy,hm,ei,jb g0]
     constructor
     ·rintro⟨⟨h1,h2⟩,h3⟩
      exact⟨h1,by rw[gr q h1,if_neg (of_decide_eq_true h3)];exact h2⟩
     ·rintro⟨h1,h2⟩
      rw[gr q h1]at h2
      by_cases n:q∈ins
      ·rw[if_pos n]at h2
       omega
      ·rw[if_neg n]at h2
       exact⟨⟨h1,h2⟩,decide_eq_true n⟩
   ·obtain⟨m2,h1,h2,h3,h4⟩:=h.mem i d hi
    refine⟨m2,kp _ _ (aQ h1 h.go_ #[2]) (aQ h1 h.ms_ #[2]) c (aQ h1 h.wt_ #[2]) (fun z=>h.ndi (z ▸ pZ hi)) h1,h2,h3,fun q=>?_⟩
    have ni:(i:Int)≠g:=fun z=>by
     have e:i=g.toNat:=by omega
     rw[e,sS]at hi
     exact c (Option.some.inj hi).symm
    rw[h4]
    refine and_congr_right fun hq=>?_
    rw[gr q hq]
    by_cases n:q∈ins
    ·have e:=((hm q).mp (rO q n)).2
     rw[if_pos n,e]
     constructor<;>intro z<;>omega
    ·rw[if_neg n]
  ·refine⟨ins,hE,ndi,hne,fun q=>?_⟩
   constructor
   ·intro hq
    have r:=((hm q).mp (rO q hq)).1
    exact⟨r,by rw[gr q r,if_pos hq]⟩
   ·rintro⟨hq,e⟩
    rw[gr q hq]at e
    by_cases n:q∈ins
    ·exact n
    ·rw[if_neg n]at e
     have:=h.val q hq
     omega
 ·refine JQ.mpr ⟨h.dn,jx.mpr ⟨by simp,Jk⟩,fun a ha b hb=>?_⟩
  rw[jK.mp hb]
  exact fun z=>eE (z ▸ ha)
 ·intro z
  rcases Bn.mp z with z|z
  ·exact h.ndi z
  ·have e:=jK.mp z
   rw[<- e,h.iw_]at fE
   cases fE
 ·rw[jG,jh]
  rcases Bn.mp hp with z|z
  ·have:=h.wv p z
   omega
  ·rw[jK.mp z]
   rcases nwv with e|e<;>omega
end
def abt(many:Nat)(L gs:LI)(n:Nat)(ws wx BI:LI):Prop := ∃ b nw:Int,BI=ws++[nw]/\(nw=(n:Int)\/nw=b)/\(b∈ws->nw=(n:Int))/\(∀ q,au many q->bE gs q=b->q∈L->bE wx q=(n:Int))/\(∀ q,au many q->¬ (bE gs q=b/\q∈L)->bE wx q=bE gs q)
inductive ME (C:QQ) (vs:List V) (H:Hp) (Q:VK) (E:XK):Prop
 | mk (x go ms wt iw ll:QQ) (many:Nat) (gs ws L:LI) (ds:List QQ) (J:LI->Nat->LI->Prop) (_:vs=[.ref x,.ref ll]) (_:CV H C x go ms wt iw many gs ds ws) (_:many<1000) (_:H ll=some (.lst (L.map V.int))) (_:(ll≠go/\ll≠ms/\ll≠wt)) (_:L.Nodup) (_:(∀ q∈L,au many q)) (_:J gs ds.length ws) (_:(∀ gs n ws wx BI,J gs n ws->(∀ q,au many q->0<=bE gs q/\bE gs q<(n:Int))->abt many L gs n ws wx BI->J wx (n+1) BI)) (_:∀ (H':Hp) (wx BI:LI) (more:List QQ),CV H' C x go ms wt iw many wx (ds++more) BI->J wx (ds++more).length BI->(∀ a b,au many a->au many b->bE wx a=bE wx b->a∈L->b∈L)->(∀ d∈more,H d=none)->(∀ c u,c≠go->c≠ms->c≠wt->c≠iw->c∉ds->H c=some u->H' c=some u)->Q .non H')
section
theorem dG:aJ ["self","leading","touched","here","group","inside"] ["self","leading"] (ar lY):=cS #[3]
theorem SE(F:br K "part_by" "Parted.part_by" lY dV f fd)(pc:J3 K C)(rD:sX P w K mg base C "split_off" 2 ["self","group","inside"] (Rx K C))(aZ:mg "len" = none):bc P w K mg base eB 3 f fd ["self","leading"] (ME C):=by
 refine F.ok dG #[6] #[1]
 ·obtain⟨x,go,ms,wt,iw,ll,many,gs,ws,L,ds,J,rfl,_⟩:=h
  rfl
 obtain⟨x,go,ms,wt,iw,ll,many,gs,ws,L,ds,J,rfl,S,ah0,hll,⟨l1,l2,l3⟩,ndL,hL,j0,jst,k⟩:=h
 have hu:=pX hr
 obtain⟨dx,hx⟩:=S.pt.ob
 have apa:L.length<=many:=cV many ndL hL
 have ao8:=S.AW
 refine⟨_,(ag (az (i:=2) dG.nd tQ)
   (ag (bI PassesOwn.never rfl (df #[92]) (aS (i:=3) dG.nd) (ao (bD (fO Wn Wq Wr bJ (Ir (pv 2) (aF cF #[47] (pv 3) #[4]) (bw af) ⟨rfl,rfl,rfl,rfl⟩) #[79]))))
   (ao (bI PassesOwn.never rfl (aaq (O3 YO yU PySem.F.type_dict_items X7 (pv 2))) (pK rfl (bx (aS (i:=4) dG.nd) (bx (aS (i:=5) dG.nd) iX))) (ao (bK (aE Ac (ay aN #[26] aZ ck #[102]) (ay wm #[26] aZ ck (aa (aF cF #[47] (pv 4) #[4]) af)) (aM _)) (ao (bD (Hl rD hr #[98] (aa (pv 4) #[102])))) aR)))))),?_⟩
 exists 0
 refine fun B hB=>?_
 have s0:=ak hB (HO.dK [])
 try dsimp only[aX,bU]
 refine cU (t:=sU _ _ _) (fun σ' H'=>∃ (es:List (Int×QQ)) (v:OV),σ'=[some #[89],some (.ref ll),some (.ref B),v,none,none]/\aB H H'/\cY H H' B es (fun q ls=>ls=L.filter fun h=>decide (bE gs h=q))/\∀ e∈es,∃ h∈L,bE gs h=e.1) ?_ #[30]
 exists 16
 ·have b0:cY H (upd H B (.dK [])) B [] (fun q ls=>ls=(L.take 0).filter fun h=>decide (bE gs h=q)):=⟨ae,List.Pairwise.nil,List.Pairwise.nil,(fun e h=>by cases h),(fun e h=>by cases h),fun q _=>rfl⟩
  exists _,rfl,ll,rfl,⟨_,bV (s0 _ _ hll)⟩
  refine eS (K:=K) (xs:=L.map V.int) (fun i σ' H'=>∃ (es:List (Int×QQ)) (v:OV),σ'=[some #[89],some (.ref ll),some (.ref B),v,none,none]/\aB H H'/\cY H H' B es (fun q ls=>ls=(L.take i).filter fun h=>decide (bE gs h=q))/\∀ e∈es,∃ h∈L,bE gs h=e.1) ⟨[],none,rfl,s0,b0,fun e h=>by cases h⟩ (fun i σ' H' _ ⟨_,_,_,e,_,_⟩=>bV (e _ _ hll)) ?_ ?_
  ·rintro i y σ' H2 hi ⟨es,v,rfl,s2,b2,kr⟩
   obtain⟨h,rfl,hh⟩:=bZ hi
   have hm:=pZ hh
   have il:=(iH hh).1
   have rO:=hL h hm
   have gv:=S.val h rO
   have at':wO (gs.map V.int) h=some (.int (bE gs h)):=cj rO.1 (by rw[S.lg];exact rO.2)
   refine⟨_,rfl,B,rfl,.inl ⟨_,.inl b2.at_⟩,_,rfl,x,C,dx,_,_,rfl,s2 _ _ hx,pc.cl,pc.ng,rfl,_,rfl,go,_,_,_,rfl,rfl,bV (s2 _ _ S.go_),at',#[13],fun La P6=>?_⟩
   have sL:=ak P6 #[82]
   have b3:=b2.same sL
   have nL:∀ e∈es,e.2≠La:=fun e he z=>by
    obtain⟨ls,h1,_⟩:=b2.lst e he
    rw[z,P6]at h1
    cases h1
   have nLB:B≠La:=aq b2.at_ P6
   have fL:H La=none:=s2.free P6
   have AW:=cV ds.length b3.nd (fun q hq=>by
    obtain⟨e,he,rfl⟩:=jO.mp hq
    obtain⟨p,hp,ep⟩:=kr e he
    rw[<- ep]
    exact S.val p (hL p hp))
   rw[bq]at AW
   have len:(Cf es).length<sizeLine:=aA (by unfold Cf;rw[bq];omega)
   have et:L.take (i+1)=L.take i++[h]:=by rw[jS,hh];rfl
   have oth:∀ (p:Int) (ls:LI),p≠bE gs h->(ls=(L.take i).filter fun h=>decide (bE gs h=p))->ls=(L.take (i+1)).filter fun h=>decide (bE gs h=p):=fun p ls np z=>by
    rw[et,JY,JE (by rw[decide_eq_false (Ne.symm np)];decide),QA,jo]
    exact z
   have grow:∀ ls:LI,(ls=(L.take i).filter fun q=>decide (bE gs q=bE gs h))->ls++[h]=(L.take (i+1)).filter fun q=>decide (bE gs q=bE gs h):=fun ls z=>by
    have e1:[h].filter (fun q=>decide (bE gs q=bE gs h))=[h]:=by simp
    rw[et,JY,e1,z]
   refine⟨_,Sum.inl (bE gs h),b3.at_,rfl,len,fun v hv=>?_,fun hn=>?_⟩
   ·obtain⟨la,ls,rfl,hme,V4,hp⟩:=b3.get hv
    have pl:ls.length<=i:=by
     rw[hp]
     exact jf (Jv _ _) (by rw[jQ];omega)
    have lz:(ls.map V.int).length<sizeLine:=aA #[31]
    exists .inl ⟨rfl,_,bV V4⟩,_,rfl,la,_,_,rfl,rfl,V4,lz
    exact⟨es,_,rfl,ax (s2.trans sL) (b2.fresh _ hme),b3.old hme V4 (grow ls hp) oth,kr⟩
   ·have hq:bE gs h∉es.map Prod.fst:=fun z=>by
     obtain⟨e,he,ee⟩:=jO.mp z
     obtain⟨jj,hjj⟩:=JB.mp he
     have:=Em b3.nd (q:=e.1) (a:=e.2) hjj
     rw[ee,hn]at this
     cases this
    have wy:(upd (upd H2 La #[82]) B (HO.dK (putK (Cf es) (Sum.inl (bE gs h)) (V.ref La)))) La=some (.lst []):=by rw[aj (Ne.symm nLB),ae]
    refine⟨.inl ⟨rfl,_,bV wy⟩,_,rfl,La,_,_,rfl,rfl,wy,(by show 0<sizeLine;decide),?_⟩
    refine⟨es++[(bE gs h,La)],_,rfl,ax (ax (s2.trans sL) hB) fL,b3.new hq ae fL nL (grow [] (b3.non _ hq)) oth,fun e he=>?_⟩
    rcases Bn.mp he with z|z
    ·exact kr e z
    ·rw[jK.mp z]
     exact⟨h,hm,rfl⟩
  ·rintro σ' H1 ⟨es,v,rfl,s1,b1,kr⟩
   rw[bq,jU]at b1
   exact dq _ _ ⟨es,v,rfl,s1,b1,kr⟩
 rintro σ' H1 ⟨es,v,rfl,s1,b1,kr⟩
 refine⟨_,rfl,.inr (.inr (.inl ⟨rfl,.inl ⟨_,b1.at_⟩⟩)),B,_,rfl,rfl,b1.at_,fun vw hvw=>?_⟩
 have nBv:B≠vw:=aq b1.at_ hvw
 refine⟨vw,B,Cf es,rfl,ae,by rw[aj nBv];exact b1.at_,fun o=>?_⟩
 have fvw:H vw=none:=s1.free hvw
 obtain⟨H2,CA⟩:∃ H2,upd (upd H1 vw (AF vw B)) B (.rB o (.dK (Cf es)))=H2:=⟨_,rfl⟩
 have s2:aB H H2:=by rw[<- CA];exact ax (ax s1 fvw) hB
 have hB2:H2 B=some (.rB o (.dK (Cf es))):=by rw[<- CA,ae]
 have ls2:∀ e∈es,H2 e.2=some (.lst ((L.filter fun h=>decide (bE gs h=e.1)).map V.int)):=fun e he=>by
  obtain⟨ls,h1,h2⟩:=b1.lst e he
  rw[<- CA,aj (aQ h1 b1.at_ #[2]),aj (aq h1 hvw),h1,h2]
 rw[CA]
 have ndk:=b1.nd
 have lk:(Cf es).length=es.length:=by unfold Cf;rw[bq]
 refine R9 (o:=o) (kvs:=Cf es) (fun i σ' H'=>∃ (wx BI:LI) (more:List QQ) (v1 v2 v3:OV),σ'=[some #[89],some (.ref ll),some (.ref B),v1,v2,v3]/\CV H' C x go ms wt iw many wx (ds++more) BI/\J wx (ds++more).length BI/\(∀ d∈more,H d=none)/\H' B=some (.rB o (.dK (Cf es))) /\
   (∀ e∈es,H' e.2=some (.lst ((L.filter fun h=>decide (bE gs h=e.1)).map V.int)))/\(∀ c u,c≠go->c≠ms->c≠wt->c≠iw->c∉ds->H c=some u->H' c=some u)/\(∀ q,au many q->bE gs q∉(es.take i).map Prod.fst->bE wx q=bE gs q) /\
   (∀ a b,au many a->au many b->bE wx a=bE wx b->bE gs a=bE gs b/\(bE gs a∈(es.take i).map Prod.fst->(a∈L↔b∈L))))
  ⟨gs,ws,[],v,none,none,rfl,by rw[jo];exact S.same s2,by rw[jo];exact j0,(fun d hd=>by cases hd),hB2,ls2,(fun c u _ _ _ _ _ e=>s2 _ _ e),(fun _ _ _=>rfl),fun a b _ _ e=>⟨e,fun z=>by rw[ZF]at z;cases z⟩⟩
  (fun i σ' H' _ ⟨_,_,_,_,_,_,_,_,_,_,e,_,_,_,_⟩=>e) ?_ ?_
 ·rintro i p σ' H3 T hi ⟨wx,BI,more,v1,v2,v3,rfl,S3,j3,fm,hB3,ls3,IZ,ga,gb⟩ hT
  obtain⟨e,he,rfl⟩:∃ e,es[i]?=some e/\p=(Sum.inl e.1,V.ref e.2):=by
   unfold Cf at hi
   rw[jN]at hi
   obtain⟨e,h1,h2⟩:=zX.mp hi
   exact⟨e,h1,h2.symm⟩
  obtain⟨b,il⟩:=e
  have hme:=pZ he
  have ilt:i<es.length:=(iH he).1
  have sT:=ak hT (HO.tup [V.int b,V.ref il])
  exists T,_,rfl,bS ae,rfl,_,_,rfl,_,_,rfl,rfl
  obtain⟨H4,Eb⟩:∃ H4,upd H3 T (HO.tup [V.int b,V.ref il])=H4:=⟨_,rfl⟩
  have sT':aB H3 H4:=by rw[<- Eb];exact sT
  have akc:upd H3 T (HO.tup [kV (Sum.inl b),V.ref il])=H4:=Eb
  try rw[Eb]
  try rw[akc]
  have S4:=S3.same sT'
  obtain⟨dx4,Sh⟩:=S4.pt.ob
  obtain⟨h0,h0m,e0⟩:=kr _ hme
  have bv:=S.val h0 (hL h0 h0m)
  rw[e0]at bv
  have bl:b.toNat<ds.length:=by omega
  have sS:(ds++more)[b.toNat]?=some ds[b.toNat]:=by rw[jr bl,jB bl]
  obtain⟨da,eda⟩:∃ da,ds[b.toNat]=da:=⟨_,rfl⟩
  rw[eda]at sS
  obtain⟨mem,Ff,ndm,nem,hm⟩:=S4.mem b.toNat da sS
  rw[jb bv.1]at hm
  have at':wO ((ds++more).map V.ref) b=some (.ref da):=tu bv.1 sS
  have aer:=sT' _ _ (ls3 _ hme)
  obtain⟨ins,ad9⟩:∃ ins,(L.filter fun h=>decide (bE gs h=b))=ins:=⟨_,rfl⟩
  have hil:H4 il=some (.lst (ins.map V.int)):=by rw[<- ad9];exact aer
  have insm:∀ q,q∈ins↔q∈L/\bE gs q=b:=fun q=>by
   rw[<- ad9,jy]
   exact and_congr_right fun _=>⟨of_decide_eq_true,decide_eq_true⟩
  have ON:b∉(es.take i).map Prod.fst:=fun z=>by
   obtain⟨e,h1,h2⟩:=jO.mp z
   obtain⟨j,hj,ej⟩:=ji h1
   rw[jQ]at hj
   rw[zU]at ej
   have e2:=(iH he).2
   have:(es.map Prod.fst)[j]'#[31]=(es.map Prod.fst)[i]'#[31]:=by
    rw[JW,JW,ej,e2]
    exact h2
   have:=(JK ndk).mp this
   omega
  have Eh:∀ q∈ins,q∈mem:=fun q hq=>by
   have h1:=(insm q).mp hq
   refine(hm q).mpr ⟨hL q h1.1,?_⟩
   rw[ga q (hL q h1.1) (by rw[h1.2];exact ON),h1.2]
  have Q6:ins.Nodup:=by rw[<- ad9];exact ndL.filter _
  have ah4:ins≠[]:=fun z=>by
   have:=(insm h0).mpr ⟨h0m,e0⟩
   rw[z]at this
   cases this
  have etk:(es.take (i+1)).map Prod.fst=(es.take i).map Prod.fst++[b]:=by rw[jS,he,jF];rfl
  have lkm:(dX mem).length=mem.length:=by unfold dX;rw[bq]
  have ngo:=S4.go_
  have nms:=S4.ms_
  have nwt:=S4.wt_
  have fil:H il=none:=b1.fresh _ hme
  have g1:go≠il:=fun z=>by rw[<- z,S.go_]at fil;cases fil
  have g2:ms≠il:=fun z=>by rw[<- z,S.ms_]at fil;cases fil
  have g3:wt≠il:=fun z=>by rw[<- z,S.wt_]at fil;cases fil
  have apb:=S4.AW
  have apc:=S4.amO
  have akk:mem.length<=many:=cV many ndm fun q hq=>((hm q).mp hq).1
  have ao9:ins.length<=mem.length:=lS Q6 Eh
  refine⟨_,rfl,il,_,rfl,.inl (bV hil),_,rfl,x,C,dx4,_,_,rfl,Sh,pc.cl,pc.nm,rfl,_,rfl,ms,_,_,_,rfl,rfl,bV nms,at',da,_,rfl,Ff,_,_,rfl,rfl,_,rfl,ou #[29] #[29]⟩
  ·rw[bq,lkm]at c
   have lt:ins.length<mem.length:=by omega
   have dsn:(ds++more).length<1000:=by omega
   refine⟨_,rfl,x,dx4,_,rfl,Sh,rfl,_,rfl,_,rfl,x,go,ms,wt,iw,da,il,b,wx,BI,BI,mem,ins,ds++more,rfl,⟨dx4,Sh⟩,ngo,nms,nwt,S4.iw_,S4.wn,⟨by omega,by omega,dsn,by omega⟩,bv.1,sS,Ff,hil,Q6,fun q hq=>?_,⟨S4.n1,S4.n2,g1,S4.n3,g2,g3,fun z=>S4.ndi (z ▸ pZ sS)⟩,fun E nw H5 fE hE abU akO Sd abY ak0 hy hn Sn=>?_⟩
   ·have h1:=(hm q).mp (Eh q hq)
    exact⟨Eh q hq,h1.1.1,by rw[S4.lg];exact h1.1.2⟩
   ·have nwv:nw=((ds++more).length:Int)\/nw=b:=by
     by_cases z:b∈BI\/ins.length<=#[94].length
     ·exact .inl (hy z)
     ·exact .inr (hn z)
    have nww:nw∉BI:=fun z=>by
     by_cases y:b∈BI\/ins.length<=#[94].length
     ·have:=S4.wv nw z
      rw[hy y]at this
      omega
     ·rw[hn y]at z
      exact y (.inl z)
    have S5:=S4.split bv.1 sS Ff hm ndm Q6 Eh ah4 lt fE hE abU akO Sd abY ak0 nww nwv Sn
    have ip:∀ p∈ins,0<=p:=fun p hp=>((hm p).mp (Eh p hp)).1.1
    have gr:∀ q,au many q->bE (setG wx ins ((ds++more).length:Int)) q=if q∈ins then((ds++more).length:Int)else bE wx q:=fun q hq=>Mt hq.1 (by rw[S4.lg];exact hq.2) ip
    have gh0:bE wx h0=b:=by rw[ga h0 (hL h0 h0m) (by rw[e0];exact ON),e0]
    have inb:∀ q,au many q->(q∈ins↔bE wx q=b/\q∈L):=fun q hq =>
     ⟨fun z=>⟨((hm q).mp (Eh q z)).2,((insm q).mp z).1⟩,fun z=>(insm q).mpr ⟨z.2,by
      rw[(gb q h0 hq (hL h0 h0m) (z.1.trans gh0.symm)).1]
      exact e0⟩⟩
    have fE0:H E=none:=by
     cases e:H E with
     | none=>rfl
     | some u =>
      have:=sT' _ _ (IZ E u (fun z=>by rw[z,ngo]at fE;cases fE) (fun z=>by rw[z,nms]at fE;cases fE) (fun z=>by rw[z,nwt]at fE;cases fE) (fun z=>by rw[z,S4.iw_]at fE;cases fE) (fun z=>by
       obtain⟨m,hm⟩:=S4.at_ (jn _ z)
       rw[fE]at hm
       cases hm) e)
      rw[fE]at this
      cases this
    have hB4:=sT' _ _ hB3
    have dam:da∈ds:=eda ▸ jH bl
    refine⟨setG wx ins ((ds++more).length:Int),BI++[nw],more++[E],_,_,_,rfl,by rw[<- jk];exact S5,?_,fun d hd=>?_,Sn _ _ (aQ hB4 ngo #[2]) (aQ hB4 nms #[2]) (aQ hB4 Ff #[2]) (aQ hB4 nwt #[2]) (aQ hB4 S4.iw_ #[2]) hB4,fun e he=>?_,fun c u c1 c2 c3 c4 c5 e=>Sn c u c1 c2 (fun z=>c5 (z ▸ dam)) c3 c4 (sT' _ _ (IZ c u c1 c2 c3 c4 c5 e)),fun q hq nq=>?_,fun a c ha hc e=>?_⟩
    ·have el:(ds++(more++[E])).length=(ds++more).length+1:=by simp only[jG,jh];omega
     rw[el]
     exact jst wx _ BI _ _ j3 S4.val ⟨b,nw,rfl,nwv,fun z=>hy (.inl z),fun q hq e hl=>by rw[gr q hq,if_pos ((inb q hq).mpr ⟨e,hl⟩)],fun q hq n=>by rw[gr q hq,if_neg fun z=>n ((inb q hq).mp z)]⟩
    ·rcases Bn.mp hd with z|z
     ·exact fm d z
     ·rw[jK.mp z];exact fE0
    ·have fe:=b1.fresh e he
     have he4:=sT' _ _ (ls3 e he)
     exact Sn _ _ (fun z=>by rw[z,S.go_]at fe;cases fe) (fun z=>by rw[z,S.ms_]at fe;cases fe) (aQ he4 Ff #[2]) (fun z=>by rw[z,S.wt_]at fe;cases fe) (aQ he4 S4.iw_ #[2]) he4
    ·rw[etk]at nq
     rw[gr q hq,if_neg fun z=>nq (jZ _ (by rw[((insm q).mp z).2];exact jD))]
     exact ga q hq fun z=>nq (jn _ z)
    ·rw[gr a ha,gr c hc]at e
     by_cases ai:a∈ins
     ·by_cases ci:c∈ins
      ·have h1:=(insm a).mp ai
       have h2:=(insm c).mp ci
       exact⟨h1.2.trans h2.2.symm,fun _=>⟨fun _=>h2.1,fun _=>h1.1⟩⟩
      ·rw[if_pos ai,if_neg ci]at e
       have:=S4.val c hc
       omega
     ·by_cases ci:c∈ins
      ·rw[if_neg ai,if_pos ci]at e
       have:=S4.val a ha
       omega
      ·rw[if_neg ai,if_neg ci]at e
       have g:=gb a c ha hc e
       refine⟨g.1,fun z=>?_⟩
       rw[etk]at z
       rcases Bn.mp z with z|z
       ·exact g.2 z
       ·have za:=jK.mp z
        exact⟨fun h=>absurd ((insm a).mpr ⟨h,za⟩) ai,fun h=>absurd ((insm c).mpr ⟨h,g.1.symm.trans za⟩) ci⟩
  ·rw[bq,lkm]at c
   have all:=OM Q6 Eh #[0]
   refine⟨wx,BI,more,_,_,_,rfl,S4,j3,fm,sT' _ _ hB3,(fun e he=>sT' _ _ (ls3 e he)),(fun c u c1 c2 c3 c4 c5 e=>sT' _ _ (IZ c u c1 c2 c3 c4 c5 e)),fun q hq nq=>?_,fun a c ha hc e=>?_⟩
   ·rw[etk]at nq
    exact ga q hq fun z=>nq (jn _ z)
   ·have g:=gb a c ha hc e
    refine⟨g.1,fun z=>?_⟩
    rw[etk]at z
    rcases Bn.mp z with z|z
    ·exact g.2 z
    ·have za:=jK.mp z
     have inL:∀ q,au many q->bE gs q=b->q∈L:=fun q hq eq=>((insm q).mp (all q ((hm q).mpr ⟨hq,by rw[ga q hq (by rw[eq];exact ON),eq]⟩))).1
     exact⟨fun _=>inL c hc (g.1.symm.trans za),fun _=>inL a ha za⟩
 ·rintro σ' H' ⟨wx,BI,more,v1,v2,v3,rfl,S3,j3,fm,hB3,ls3,IZ,ga,gb⟩
  rw[lk,jU]at gb
  refine k H' wx BI more S3 j3 (fun a b ha hb e hm=>?_) fm IZ
  have g:=gb a b ha hb e
  refine(g.2 (Classical.byContradiction fun z=>?_)).mp hm
  have:=b1.non _ z
  have h2:a∈L.filter fun h=>decide (bE gs h=bE gs a):=jy.mpr ⟨hm,decide_eq_true rfl⟩
  rw[<- this]at h2
  cases h2
end
def Reach(wide:Nat)(rows:LL)(q:Int):Prop := ∃ row:LI,(∀ f∈row,0<=f/\f<(wide:Int))/\aY rows row 0=q
theorem Reach.zero:Reach wide rows 0:=⟨[],(fun f h=>by cases h),rfl⟩
theorem Reach.step{wide:Nat}{rows:LL}{q f:Int}(h:Reach wide rows q)(f0:0<=f)(f1:f<(wide:Int)):Reach wide rows (stepI rows q f):=by
 obtain⟨row,hr,rfl⟩:=h
 refine⟨row++[f],fun g hg=>?_,by rw[cP];rfl⟩
 rcases Bn.mp hg with z|z
 ·exact hr g z
 ·rw[jK.mp z];exact⟨f0,f1⟩
theorem Reach.of{S:Int->Prop}(h0:S 0)(hs:∀ q,S q->∀ f,0<=f->f<(wide:Int)->S (stepI rows q f))(h:Reach wide rows q):S q:=by
 obtain⟨row,hr,rfl⟩:=h
 have go:∀ (row:LI) (p:Int),(∀ f∈row,0<=f/\f<(wide:Int))->S p->S (aY rows row p):=by
  intro row
  induction row with
  | nil=>intro p _ hp;exact hp
  | cons f r ih=>intro p hr hp;exact ih (stepI rows p f) (fun g hg=>hr g (jI _ hg)) (hs p hp f (hr f jD).1 (hr f jD).2)
 exact go row 0 hr h0
def eC(s:LI)(x:Int):LI:=if x∈s then s else s++[x]
def fK(rows:LL)(s:LI)(q:Int):LI:=#[55].foldl eC s
theorem aaw(h:y∈s):y∈eC s x:=by
 unfold eC
 split
 ·exact h
 ·exact jn _ h
theorem aav(s:LI)(x:Int):x∈eC s x:=by
 unfold eC
 split
 ·assumption
 ·exact jZ _ jD
theorem Au:∀ (xs:LI) {s:LI} {y:Int},y∈s->y∈xs.foldl eC s
 | [],_,_,h=>h
 | x :: xs,_,_,h=>Au xs (aaw h)
theorem EM:∀ (xs:LI) {s:LI} {y:Int},y∈xs->y∈xs.foldl eC s
 | [],_,_,h=>by cases h
 | x :: xs,s,y,h=>by
  rcases jY.mp h with rfl|h
  ·exact Au xs (aav s y)
  ·exact EM xs h
theorem wu(rows:LL):∀ (qs:LI) {s:LI} {y:Int},y∈s->y∈qs.foldl (fK rows) s
 | [],_,_,h=>h
 | q :: qs,_,_,h=>wu rows qs (Au _ h)
theorem pW(rows:LL):∀ (qs:LI) {s:LI} {q y:Int},q∈qs->y∈rows.getD q.toNat []->y∈qs.foldl (fK rows) s
 | [],_,_,_,h,_=>by cases h
 | p :: qs,s,q,y,h,hy=>by
  rcases jY.mp h with rfl|h
  ·exact wu rows qs (EM _ hy)
  ·exact pW rows qs h hy
structure Bfs(many wide:Nat)(rows:LL)(qs:LI):Prop where
 eq:qs=qs.foldl (fK rows) [0]
 nd:qs.Nodup
 inr:∀ q∈qs,0<=q/\q<(many:Int)
 re:∀ q,q∈qs↔Reach wide rows q
inductive Hs (K:Wl) (vs:List V) (H:Hp) (Q:VK) (E:XK):Prop
 | mk (m r g:QQ) (many wide:Nat) (rows:LL) (signs:LI) (_:vs=[.ref m,.int 0]) (_:bA H m r g wide rows signs) (_:aI many wide rows) (_:(1<=many/\many<=1000)) (_:∀ (l:QQ) (H':Hp) (qs:LI),aB H H'->H' l=some (.lst (qs.map V.int))->Bfs many wide rows qs->Q (.ref l) H')
structure Found(many wide:Nat)(rows:LL)(dn ks:LI):Prop where
 eq:ks=dn.foldl (fK rows) [0]
 nd:ks.Nodup
 inr:∀ q∈ks,0<=q/\q<(many:Int)
 re:∀ q∈ks,Reach wide rows q
structure Part(many wide:Nat)(rows:LL)(dn:LI)(xs:LI)(ks:LI):Prop where
 eq:ks=xs.foldl eC (dn.foldl (fK rows) [0])
 nd:ks.Nodup
 inr:∀ q∈ks,0<=q/\q<(many:Int)
 re:∀ q∈ks,Reach wide rows q
theorem Part.put{xs:LI}(F:Part many wide rows dn xs ks)(h:q∉ks)(q0:0<=q)(q1:q<(many:Int))(r:Reach wide rows q):Part many wide rows dn (xs++[q]) (ks++[q]) where
 eq:=by
  rw[JC,<- F.eq]
  show _=eC ks q
  unfold eC
  rw[if_neg h]
 nd:=JQ.mpr ⟨F.nd,by simp,fun a ha b hb e=>h (by rw[<- jK.mp hb,<- e];exact ha)⟩
 inr:=fun p hp=>by
  rcases Bn.mp hp with z|z
  ·exact F.inr p z
  ·rw[jK.mp z];exact⟨q0,q1⟩
 re:=fun p hp=>by
  rcases Bn.mp hp with z|z
  ·exact F.re p z
  ·rw[jK.mp z];exact r
theorem Part.old{xs:LI}(F:Part many wide rows dn xs ks)(h:q∈ks):Part many wide rows dn (xs++[q]) ks where
 eq:=by
  rw[JC,<- F.eq]
  show _=eC ks q
  unfold eC
  rw[if_pos h]
 nd:=F.nd
 inr:=F.inr
 re:=F.re
section
theorem cz:aJ ["machine","start","rows","reached","level","fresh","here","there"] ["machine","start"] (ar mT):=cS #[3]
theorem OT(F:br K "reached_rooms" "reached_rooms" mT dV f fd)(mZ:mg "list" = none):bc P w K mg base eB 1 f fd ["machine","start"] (Hs K):=by
 refine F.ok cz #[6] #[1]
 ·obtain⟨m,r,g,many,wide,rows,signs,rfl,_⟩:=h
  rfl
 obtain⟨m,r,g,many,wide,rows,signs,rfl,M,R,⟨n0,n1⟩,k⟩:=h
 obtain⟨dC,oG,hA⟩:=M.rows
 have hu:=pX hr
 refine⟨_,(ag (az (i:=2) cz.nd #[12])
   (ag (az (i:=3) cz.nd (acx (EK #[92] cq Iy) rfl rfl #[2] #[7]))
   (ag (az (i:=4) cz.nd (bw #[44]))
   (ag (iY PassesOwn.never (Bw (pv 4) (fun _=>rfl)) (ag (az (i:=5) cz.nd (bw af))
   (ag (bI PassesOwn.never rfl (df (pv 4)) (aS (i:=6) cz.nd) (ao (bI PassesOwn.never rfl (rW (aF aG (pv 2) (pv 6) #[4])) (aS (i:=7) cz.nd) (ao (bK (Iz (Ci hu (pv 7) (pv 3)) #[71]) (ag (wC hu (pv 3) (pv 7) cq rfl)
   (ao (bD (fO Wn Wq Wr bJ (pv 5) (aa (pv 7) af))))) aR)))))
   (ao (az (i:=4) cz.nd (pv 5))))))
   (ao (aH (bj (DV rfl) #[26] mZ Df #[79]))))))),?_⟩
 exists 0
 exists _,rfl,m,_,_,_,rfl,rfl,bS M.tup,rfl
 refine fun D hD=>⟨_,rfl,ae,[(Sum.inl 0,V.bl true)],rfl,by show 1<=15;decide,?_⟩
 rw[RI]
 have sD:=ak hD (HO.dK (dX [0]))
 refine⟨_,rfl,#[45],fun W hW=>?_⟩
 have hWD:W≠D:=fun z=>by rw[z,ae]at hW;cases hW
 have hW0:H W=none:=by rw[aj hWD]at hW;exact hW
 exists 13
 refine eI (t:=mW _ _) (fun σ' H'=>∃ (ks:LI) (W:QQ) (v0 v1 v2:OV),σ'=[some #[58],some (.int 0),some #[106],some #[66],some (.ref W),v0,v1,v2]/\aB H H'/\H' D=some (.dK (dX ks))/\Found many wide rows ks ks) ?_ #[96]
 exists 16
 ·refine oB (fun mm σ' H'=>∃ (dn lv:LI) (W:QQ) (v0 v1 v2:OV),mm=2*(many-(dn++lv).length)+lv.length/\σ'=[some #[58],some (.int 0),some #[106],some #[66],some (.ref W),v0,v1,v2]/\aB H H'/\H' D=some (.dK (dX (dn++lv)))/\W≠D/\H' W=some (.lst (lv.map V.int))/\Found many wide rows dn (dn++lv))
   ⟨_,[],[0],W,none,none,none,rfl,rfl,sD.trans (ak hW _),by rw[aj (Ne.symm hWD),ae];rfl,hWD,ae,?_⟩ ?_
  ·refine⟨rfl,by simp,fun q hq=>by rw[ZV]at hq;rw[jK.mp hq];omega,fun q hq=>by rw[ZV]at hq;rw[jK.mp hq];exact Reach.zero⟩
  rintro mm σ' H1 ⟨dn,lv,W,v0,v1,v2,rfl,rfl,s1,F7,hWD,hW1,FD⟩
  by_cases en:lv=[]
  ·subst en
   refine⟨_,rfl,_,.inl ⟨_,bV hW1,rfl⟩,ff ?_⟩
   rw[jo]at F7 FD
   exact dq _ _ ⟨dn,W,v0,v1,v2,rfl,s1,F7,FD⟩
  exists _,rfl,_,.inl ⟨_,bV hW1,rfl⟩
  have ne:(!(lv.map V.int).isEmpty)=true:=by
   cases lv with
   | nil=>exact absurd rfl en
   | cons x r=>rfl
  rw[ne]
  have kl:=cV many FD.nd FD.inr
  have lv1:1<=lv.length:=by
   cases lv with
   | nil=>exact absurd rfl en
   | cons x r=>exact Zy (je _)
  rw[jG]at kl
  refine Be ⟨fun σ' H'=>∃ m',m'<2*(many-(dn++lv).length)+lv.length/\∃ (dn lv:LI) (W:QQ) (v0 v1 v2:OV),m'=2*(many-(dn++lv).length)+lv.length/\σ'=[some #[58],some (.int 0),some #[106],some #[66],some (.ref W),v0,v1,v2]/\aB H H'/\H' D=some (.dK (dX (dn++lv)))/\W≠D/\H' W=some (.lst (lv.map V.int))/\Found many wide rows dn (dn++lv),fun σ' H' h=>h,?_⟩
  refine⟨#[13],fun N hN=>?_⟩
  have hND:N≠D:=fun z=>by rw[z,F7]at hN;cases hN
  have hNW:N≠W:=fun z=>by rw[z,hW1]at hN;cases hN
  have hN0:H N=none:=s1.free hN
  exists 13
  refine⟨_,rfl,W,rfl,⟨_,bV (by rw[aj (Ne.symm hNW)];exact hW1)⟩,eS (K:=K) (xs:=lv.map V.int) (fun i σ' H'=>∃ (fr:LI) (v1 v2:OV),
    σ'=[some #[58],some (.int 0),some #[106],some #[66],some (.ref W),some (.ref N),v1,v2]/\aB H H'/\H' D=some (.dK (dX (dn++lv++fr)))/\H' W=some (.lst (lv.map V.int))/\H' N=some (.lst (fr.map V.int))/\Found many wide rows (dn++lv.take i) (dn++lv++fr))
   ⟨[],v1,v2,rfl,s1.trans (ak hN _),by rw[aj (Ne.symm hND),jo];exact F7,by rw[aj (Ne.symm hNW)];exact hW1,ae,by rw[ZF,jo,jo];exact FD⟩ (fun i σ' H' _ ⟨_,_,_,_,_,_,e,_,_⟩=>bV e) ?_ ?_⟩
  ·rintro i x σ' H2 hi ⟨fr,v1,v2,rfl,s2,T8,hW2,Ts,F2⟩
   obtain⟨here,rfl,hz⟩:=bZ hi
   have hil:i<lv.length:=(iH hz).1
   have hk:here∈dn++lv++fr:=jn _ (jZ _ (pZ hz))
   have hh:=F2.inr here hk
   have hre:=F2.re here hk
   have l1:here.toNat<rows.length:=by rw[R.len];omega
   obtain⟨ra,e1,e2⟩:=hA.get l1
   have lr:rows[here.toNat].length=wide:=R.row _ (jH l1)
   refine⟨_,rfl,_,rfl,r,_,_,_,rfl,rfl,bS (s2 _ _ oG),tu hh.1 e1,ra,rfl,⟨_,bS (s2 _ _ e2)⟩,AX (K:=K) (xs:=rows[here.toNat].map V.int) (fun j σ' H'=>∃ (fr:LI) (v:OV),
     σ'=[some #[58],some (.int 0),some #[106],some #[66],some (.ref W),some (.ref N),some (.int here),v]/\aB H H'/\H' D=some (.dK (dX (dn++lv++fr)))/\H' W=some (.lst (lv.map V.int))/\H' N=some (.lst (fr.map V.int))/\Part many wide rows (dn++lv.take i) (rows[here.toNat].take j) (dn++lv++fr))
    ⟨fr,v2,rfl,s2,T8,hW2,Ts,⟨F2.eq,F2.nd,F2.inr,F2.re⟩⟩ (fun i σ' H' _ ⟨_,_,_,e,_,_,_,_⟩=>bS (e _ _ e2)) ?_ ?_⟩
   ·rintro j x σ' H3 hj ⟨fr,v,rfl,s3,C7,hW3,P7,F3⟩
    obtain⟨z,rfl,hz⟩:=bZ hj
    have hjl:j<rows[here.toNat].length:=(iH hz).1
    have zin:=R.val _ (jH l1) z (pZ hz)
    have kl3:=cV many F3.nd F3.inr
    rw[jG,jG]at kl3
    have stp:stepI rows here (j:Int)=z:=by
     unfold stepI
     rw[getD_at l1,jA,getD_at hjl]
     exact(iH hz).2
    have tk:rows[here.toNat].take (j+1)=rows[here.toNat].take j++[z]:=by rw[jS,hz];rfl
    exists _,rfl,_,rfl,D,_,rfl,ik.k (k:=Sum.inl z) C7,_,rfl
    rw[Dm]
    refine sJ #[29] #[29]
    ·refine⟨_,rfl,_,rfl,D,_,rfl,CQ.k (k:=Sum.inl z) C7 (aA (by unfold dX;rw[bq,jG,jG];omega)),?_⟩
     rw[Dk c]
     have hN4:(upd H3 D (HO.dK (dX (dn++lv++fr++[z])))) N=some (.lst (fr.map V.int)):=by rw[aj hND];exact P7
     refine⟨_,rfl,.inl ⟨rfl,_,bV hN4⟩,_,rfl,N,_,_,rfl,rfl,hN4,zM (show _<=2000 by rw[bq];omega) #[7],?_⟩
     have F4:=F3.put c zin.1 zin.2 (by rw[<- stp];exact hre.step #[0] #[0])
     refine⟨fr++[z],_,rfl,ax (ax s3 hD) hN0,?_,?_,?_,?_⟩
     ·rw[aj (Ne.symm hND),ae,jk]
     ·rw[aj (Ne.symm hNW),aj hWD];exact hW3
     ·rw[ae,jF];rfl
     ·rw[tk,<- jk];exact F4
    ·exists fr,_,rfl,s3,C7,hW3,P7
     rw[tk]
     exact F3.old c
   ·rintro σ' H3 ⟨fr,v,rfl,s3,C7,hW3,P7,F3⟩
    rw[bq,jU]at F3
    refine⟨fr,_,_,rfl,s3,C7,hW3,P7,⟨?_,F3.nd,F3.inr,F3.re⟩⟩
    have e9:dn++lv.take (i+1)=(dn++lv.take i)++[here]:=by rw[jS,hz,jk];rfl
    rw[F3.eq,e9,JC (l:=dn++lv.take i)]
    show _=fK rows _ here
    unfold fK
    rw[getD_at l1]
  ·rintro σ' H3 ⟨fr,v1,v2,rfl,s3,C7,hW3,P7,F3⟩
   rw[bq,jU]at F3
   have kl3:=cV many F3.nd F3.inr
   rw[jG,jG]at kl3
   refine⟨_,rfl,_,?_,dn++lv,fr,N,_,_,_,rfl,rfl,s3,C7,hND,P7,F3⟩
   rw[jG,jG]
   omega
 rintro σ' H1 ⟨ks,W,v0,v1,v2,rfl,s1,F7,FD⟩
 refine⟨_,rfl,D,_,rfl,F7,fun l hl=>?_⟩
 have e:(dX ks).map (fun q=>kV q.1)=ks.map V.int:=by
  unfold dX
  rw[JI]
  rfl
 rw[e]
 have z0:(0:Int)∈ks:=by rw[FD.eq];exact wu rows ks jD
 refine k l _ ks (s1.trans (ak hl _)) ae ⟨FD.eq,FD.nd,FD.inr,fun q=>⟨FD.re q,fun h=>?_⟩⟩
 refine Reach.of (S:=fun q=>q∈ks) z0 (fun p hp f f0 f1=>?_) h
 have Sg:=FD.inr p hp
 have l1:p.toNat<rows.length:=by rw[R.len];omega
 have lr:rows[p.toNat].length=wide:=R.row _ (jH l1)
 have hf:f.toNat<rows[p.toNat].length:=by omega
 rw[FD.eq]
 refine pW rows ks hp ?_
 unfold stepI
 rw[getD_at l1,getD_at hf]
 exact jH hf
end
def sgn(signs:LI)(x:Int):Int:=signs.getD x.toNat 0
def mi(wide:Nat)(v:LI):Prop := ∀ f∈v,0<=f/\f<(wide:Int)
def Agree(rows:LL)(wide:Nat)(signs:LI)(n:Nat)(a b:Int):Prop := ∀ v,mi wide v->v.length<=n->sgn signs (aY rows v a)=sgn signs (aY rows v b)
theorem Agree.up{signs:LI}(h0:sgn signs a=sgn signs b)(h:∀ f:Nat,f<wide->Agree rows wide signs n (stepI rows a f) (stepI rows b f)):Agree rows wide signs (n+1) a b:=by
 intro v h1 h2
 cases v with
 | nil=>exact h0
 | cons f v =>
  have hf:=h1 f jD
  have q:=h f.toNat #[0] v (fun g hg=>h1 g (jI _ hg)) (by rw[jT]at h2;omega)
  rw[jb hf.1]at q
  exact q
def iI(rows:LL)(wide:Nat)(signs:LI)(x y:Int):Prop := ∀ n,Agree rows wide signs n x y
theorem iI.sgn{signs:LI}(h:iI rows wide signs x y):My.sgn signs x=My.sgn signs y:=h 0 [] (fun f hf=>by cases hf) (jE 0)
theorem iI.led{signs:LI}(h:iI rows wide signs x y){f:Nat}(hf:f<wide):iI rows wide signs (stepI rows x f) (stepI rows y f):=fun n v h1 h2=>by
 refine h (n+1) ((f:Int) :: v) (fun g hg=>?_) (by rw[jT];omega)
 rcases jY.mp hg with z|z
 ·rw[z]
  exact⟨by omega,by omega⟩
 ·exact h1 g z
def oP(c:LI)(q:Int):Int:=c.getD q.toNat 0
structure BM(many wide:Nat)(rows cols:LL):Prop where
 of:∀ c∈cols,∃ f:Nat,f<wide/\∀ q,au many q->oP c q=stepI rows q f
 all:∀ f:Nat,f<wide->∃ c∈cols,∀ q,au many q->oP c q=stepI rows q f
theorem BM.room(C:BM many wide rows cols)(R:aI many wide rows):∀ x,au many x->∀ c∈cols.map oP,au many (c x):=fun x hx c hc=>by
 obtain⟨l,hl,rfl⟩:=jO.mp hc
 obtain⟨f,hf,e⟩:=C.of l hl
 rw[e x hx]
 exact cA R hx.1 hx.2 #[0] #[0]
theorem BM.ahY{signs:LI}(C:BM many wide rows cols)(R:aI many wide rows):adf many (cols.map oP) (My.sgn signs) (fun x y=>au many x/\au many y/\iI rows wide signs x y) where
 sgn:=fun x y h=>h.2.2.sgn
 led:=fun x y h c hc=>by
  have h1:=C.room R x h.1 c hc
  have h2:=C.room R y h.2.1 c hc
  exists h1,h2
  obtain⟨l,hl,rfl⟩:=jO.mp hc
  obtain⟨f,hf,e⟩:=C.of l hl
  rw[e x h.1,e y h.2.1]
  exact h.2.2.led hf
theorem Q0{signs:LI}{W:Int->Prop}(C:BM many wide rows cols)(R:aI many wide rows)(h:PH many (cols.map oP) (My.sgn signs) (fun x y=>au many x/\au many y/\iI rows wide signs x y) grp W)(st:∀ x y,au many x->au many y->grp x=grp y->∀ c∈cols.map oP,grp (c x)=grp (c y))(hx:au many x)(hy:au many y):
  grp x=grp y↔iI rows wide signs x y:=by
 refine⟨fun e n=>?_,fun a=>h.coarse x y hx hy ⟨hx,hy,a⟩⟩
 induction n generalizing x y with
 | zero =>
  intro v _ h2
  have:v=[]:=zx #[0]
  rw[this]
  exact h.signs x y hx hy e
 | succ n ih =>
  refine Agree.up (h.signs x y hx hy e) fun f hf=>?_
  obtain⟨c,hc,ec⟩:=C.all f hf
  have hm:oP c∈cols.map oP:=jO.mpr ⟨c,hc,rfl⟩
  have q:=st x y hx hy e _ hm
  rw[ec x hx,ec y hy]at q
  exact ih (cA R hx.1 hx.2 #[0] #[0]) (cA R hy.1 hy.2 #[0] #[0]) q
def ba:Nat->LI->Option Nat
 | m,[]=>some m
 | m,t :: r=>if t=(m:Int)then ba (m+1) r else if t<(m:Int)then ba m r else none
def bM:Nat->Nat->LL->Option Nat
 | _,m,[]=>some m
 | q,m,r :: rs=>if q<m then(ba m r).bind fun m'=>bM (q+1) m' rs else none
def oj(rows:LL):Prop:=bM 0 1 rows=some rows.length
def Tells(wide:Nat)(rows aw:LL)(signs aK:LI)(a b:Int):Prop := ∀ v,mi wide v->sgn signs (aY rows v a)=sgn aK (aY aw v b)
def Apart(wide:Nat)(rows:LL)(signs:LI):Prop := ∀ a b,au rows.length a->au rows.length b->iI rows wide signs a b->a=b
section
variable{signs:LI}
theorem Tells.led(h:Tells wide rows aw signs aK a b){f:Nat}(hf:f<wide):Tells wide rows aw signs aK (stepI rows a f) (stepI aw b f):=fun v hv =>
 h ((f:Int) :: v) fun g hg=>by
  rcases jY.mp hg with z|z
  ·rw[z]
   exact⟨by omega,by omega⟩
  ·exact hv g z
theorem Tells.left{c:Int}(h:Tells wide rows aw signs aK a c)(h':Tells wide rows aw signs aK b c):iI rows wide signs a b:=fun n v hv _=>(h v hv).trans (h' v hv).symm
theorem Tells.right{c:Int}(h:Tells wide rows aw signs aK c a)(h':Tells wide rows aw signs aK c b):iI aw wide aK a b:=fun n v hv _=>(h v hv).symm.trans (h' v hv)
theorem ET(A:Apart wide rows signs)(A':Apart wide aw aK):∀ {r r':LI} {m m1 m2:Nat},r.length=r'.length->(∀ i:Nat,i<m->Tells wide rows aw signs aK i i)->(m<=rows.length/\m<=aw.length) ->
  (∀ (j:Nat) (t t':Int),r[j]?=some t->r'[j]?=some t'->au rows.length t/\au aw.length t'/\Tells wide rows aw signs aK t t')->ba m r=some m1->ba m r'=some m2 ->
  r=r'/\m1=m2/\(∀ i:Nat,i<m1->Tells wide rows aw signs aK i i)/\m1<=rows.length/\m1<=aw.length
 | [],[],m,m1,m2,_,hB,hm,_,h1,h2=>by
  cases h1
  cases h2
  exact⟨rfl,rfl,hB,hm.1,hm.2⟩
 | [],t' :: r',_,_,_,hl,_,_,_,_,_=>by cases hl
 | t :: r,[],_,_,_,hl,_,_,_,_,_=>by cases hl
 | t :: r,t' :: r',m,m1,m2,hl,hB,hm,hT,h1,h2=>by
  obtain⟨ht,Tu,tt⟩:=hT 0 t t' rfl rfl
  have hl':r.length=r'.length:=Nat.succ.inj hl
  have hT':∀ (j:Nat) (u u':Int),r[j]?=some u->r'[j]?=some u'->au rows.length u/\au aw.length u'/\Tells wide rows aw signs aK u u' := fun j u u' a b=>hT (j+1) u u' a b
  have low:∀ {x:Int},0<=x->x<(m:Int)->∃ i:Nat,i<m/\x=(i:Int):=fun h0 h1=>⟨_,by omega,(jb h0).symm⟩
  have Ef:(if t=(m:Int)then ba (m+1) r else if t<(m:Int)then ba m r else none)=some m1:=h1
  have Dh:(if t'=(m:Int)then ba (m+1) r' else if t'<(m:Int)then ba m r' else none)=some m2:=h2
  by_cases c:t=(m:Int)
  ·by_cases c':t'=(m:Int)
   ·rw[if_pos c]at Ef
    rw[if_pos c']at Dh
    have hB':∀ i:Nat,i<m+1->Tells wide rows aw signs aK i i:=fun i hi=>by
     rcases Jb i m with z|z
     ·exact hB i z
     ·have:i=m:=by omega
      rw[this,<- c]
      rw[c']at tt
      rw[c]
      rw[c]at tt
      exact tt
    obtain⟨e1,e2⟩:=ET A A' hl' hB' ⟨by have:=ht.2;omega,by have:=Tu.2;omega⟩ hT' Ef Dh
    exact⟨by rw[c,c',e1],e2⟩
   ·rw[if_neg c']at Dh
    by_cases d:t'<(m:Int)
    ·obtain⟨i,hi,rfl⟩:=low Tu.1 d
     have:=A t (i:Int) ht ⟨by omega,by omega⟩ (tt.left (hB i hi))
     omega
    ·rw[if_neg d]at Dh
     cases Dh
  ·rw[if_neg c]at Ef
   by_cases d:t<(m:Int)
   ·rw[if_pos d]at Ef
    obtain⟨i,hi,rfl⟩:=low ht.1 d
    have e:=A' t' (i:Int) Tu ⟨by omega,by omega⟩ (tt.right (hB i hi))
    subst e
    rw[if_neg #[0],if_pos d]at Dh
    obtain⟨e1,e2⟩:=ET A A' hl' hB hm hT' Ef Dh
    exact⟨by rw[e1],e2⟩
   ·rw[if_neg d]at Ef
    cases Ef
theorem Hn(A:Apart wide rows signs)(A':Apart wide aw aK)(R:aI rows.length wide rows)(R':aI aw.length wide aw):∀ {rs rs':LL} {q m:Nat},rs=rows.drop q->rs'=aw.drop q->q<=rows.length->q<=aw.length ->
  (∀ i:Nat,i<m->Tells wide rows aw signs aK i i)->(m<=rows.length/\m<=aw.length)->bM q m rs=some rows.length->bM q m rs'=some aw.length->rs=rs'/\rows.length=aw.length/\∀ i:Nat,i<rows.length->Tells wide rows aw signs aK i i
 | [],[],q,m,_,_,_,_,hB,_,h1,h2=>by
  have e1:m=rows.length:=Option.some.inj h1
  have e2:m=aw.length:=Option.some.inj h2
  exact⟨rfl,e1.symm.trans e2,fun i hi=>hB i #[0]⟩
 | [],r' :: rs',q,m,e,_,hq,_,_,_,h1,h2=>by
  have e1:m=rows.length:=Option.some.inj h1
  have hl:rows.length<=q:=Ji.mp e.symm
  have Dh:(if q<m then(ba m r').bind fun m'=>bM (q+1) m' rs' else none)=some aw.length:=h2
  rw[if_neg #[0]]at Dh
  cases Dh
 | r :: rs,[],q,m,_,e,_,hq,_,_,h1,h2=>by
  have e1:m=aw.length:=Option.some.inj h2
  have hl:aw.length<=q:=Ji.mp e.symm
  have Ef:(if q<m then(ba m r).bind fun m'=>bM (q+1) m' rs else none)=some rows.length:=h1
  rw[if_neg #[0]]at Ef
  cases Ef
 | r :: rs,r' :: rs',q,m,e,e',hq,Ow,hB,hm,h1,h2=>by
  have Ef:(if q<m then(ba m r).bind fun m'=>bM (q+1) m' rs else none)=some rows.length:=h1
  have Dh:(if q<m then(ba m r').bind fun m'=>bM (q+1) m' rs' else none)=some aw.length:=h2
  by_cases c:q<m
  ·rw[if_pos c]at Ef Dh
   have l1:q<rows.length:=by omega
   have l2:q<aw.length:=by omega
   have d1:=jv l1
   have d2:=jv l2
   rw[d1]at e
   rw[d2]at e'
   injection e with er es
   injection e' with er' MS
   cases o1:ba m r with
   | none=>rw[o1]at Ef;cases Ef
   | some m1 =>
    cases o2:ba m r' with
    | none=>rw[o2]at Dh;cases Dh
    | some m2 =>
     rw[o1]at Ef
     rw[o2]at Dh
     have hr:=R.row _ (jH l1)
     have oG:=R'.row _ (jH l2)
     have key:∀ (j:Nat) (t t':Int),r[j]?=some t->r'[j]?=some t'->au rows.length t/\au aw.length t'/\Tells wide rows aw signs aK t t' := fun j t t' a b=>by
      rw[er]at a
      rw[er']at b
      have ja:=(iH a).1
      have jw:j<wide:=by omega
      have s1:stepI rows (q:Int) (j:Int)=t:=by
       unfold stepI
       rw[jA,jA,getD_at l1,jM,a]
       rfl
      have s2:stepI aw (q:Int) (j:Int)=t' := by
       unfold stepI
       rw[jA,jA,getD_at l2,jM,b]
       rfl
      exists R.val _ (jH l1) t (pZ a),R'.val _ (jH l2) t' (pZ b)
      have:=(hB q c).led jw
      rw[s1,s2]at this
      exact this
     obtain⟨e1,e2,hB',k1,k2⟩:=ET A A' (by rw[er,er',hr,oG]) hB hm key o1 o2
     subst e2
     obtain⟨f1,f2,f3⟩:=Hn A A' R R' es MS l1 l2 hB' ⟨k1,k2⟩ Ef Dh
     exact⟨by rw[e1,f1],f2,f3⟩
  ·rw[if_neg c]at Ef
   cases Ef
theorem N7(A:Apart wide rows signs)(A':Apart wide aw aK)(R:aI rows.length wide rows)(R':aI aw.length wide aw)(n0:0<rows.length)(n1:0<aw.length)(O:oj rows)(O':oj aw)(ls:signs.length=rows.length)(ls':aK.length=aw.length)(h:Tells wide rows aw signs aK 0 0):rows=aw/\signs=aK:=by
 obtain⟨e,el,hB⟩:=Hn A A' R R' (rs:=rows) (rs' := aw) (q:=0) (m:=1) rfl rfl (je _) (je _) (fun i hi=>by
  have:i=0:=by omega
  rw[this]
  exact h) ⟨n0,n1⟩ O O'
 refine⟨e,List.ext_getElem #[0] fun i h1 h2=>?_⟩
 have q:=hB i #[0] [] (fun f hf=>by cases hf)
 unfold sgn at q
 have q':signs.getD ((i:Int)).toNat 0=aK.getD ((i:Int)).toNat 0:=q
 rw[jA,getD_at h1,getD_at h2]at q'
 exact q'
end
def bh(φ:Int->Int):Nat->Nat
 | 0=>0
 | m+1=>if φ (m:Int)=(bh φ m:Int)then bh φ m+1 else bh φ m
def cB(φ:Int->Int)(n:Nat):List Nat:=(jd n).filter fun q=>decide (φ (q:Int)=(bh φ q:Int))
def iK(φ:Int->Int)(n:Nat):Prop := ∀ q:Nat,q<n->0<=φ (q:Int)/\φ (q:Int)<=(bh φ q:Int)
section
theorem FU:∀ {a b:Nat},a<=b->bh φ a<=bh φ b:=by
 intro a b h
 induction h with
 | refl=>exact jE _
 | @step m _ ih =>
  have e:bh φ (m+1)=if φ (m:Int)=(bh φ m:Int)then bh φ m+1 else bh φ m:=rfl
  refine jf ih ?_
  rw[e]
  by_cases c:φ (m:Int)=(bh φ m:Int)
  ·rw[if_pos c];exact JU _
  ·rw[if_neg c];exact jE _
theorem iK.lt(h:iK φ n){t:Nat}(ht:t<m)(hm:m<=n):φ (t:Int)<(bh φ m:Int):=by
 have h1:=(h t #[0]).2
 have h2:=FU (φ:=φ) (show t+1<=m from ht)
 have h3:bh φ (t+1)=if φ (t:Int)=(bh φ t:Int)then bh φ t+1 else bh φ t:=rfl
 by_cases c:φ (t:Int)=(bh φ t:Int)
 ·rw[if_pos c]at h3
  omega
 ·rw[if_neg c]at h3
  omega
theorem oQ(φ:Int->Int):∀ n,(cB φ n).length=bh φ n
 | 0=>rfl
 | n+1=>by
  have ih:=oQ φ n
  unfold cB at ih ⊢
  rw[js,JY,jG,ih]
  show _=if φ (n:Int)=(bh φ n:Int)then bh φ n+1 else bh φ n
  by_cases c:φ (n:Int)=(bh φ n:Int)
  ·rw[if_pos c,JM (by exact decide_eq_true c)]
   rfl
  ·rw[if_neg c,JE (by rw[decide_eq_false c];decide)]
   rfl
theorem IC(F:iK φ n):∀ {r:LI} {m m1:Nat},m<=n->(∀ t∈r,au n t)->ba m r=some m1->ba (bh φ m) (r.map φ)=some (bh φ m1)/\m1<=n/\(∀ t∈r,t<(m1:Int))/\m<=m1
 | [],m,m1,hm,_,h=>by
  cases h
  exact⟨rfl,hm,fun t ht=>(by cases ht),jE _⟩
 | t :: r,m,m1,hm,hr,h=>by
  have ht:=hr t jD
  have oG:∀ u∈r,au n u:=fun u hu=>hr u (jI _ hu)
  have h':(if t=(m:Int)then ba (m+1) r else if t<(m:Int)then ba m r else none)=some m1:=h
  show(if φ t=(bh φ m:Int)then ba (bh φ m+1) (r.map φ)else if φ t<(bh φ m:Int)then ba (bh φ m) (r.map φ)else none)=_/\_
  by_cases c:t=(m:Int)
  ·rw[if_pos c]at h'
   have mn:m<n:=by have:=ht.2;omega
   obtain⟨e1,e2,e3,e4⟩:=IC F (show m+1<=n from mn) oG h'
   have e5:∀ u∈t :: r,u<(m1:Int):=fun u hu=>by
    rcases jY.mp hu with z|z
    ·rw[z,c];omega
    ·exact e3 u z
   have es:bh φ (m+1)=if φ (m:Int)=(bh φ m:Int)then bh φ m+1 else bh φ m:=rfl
   rw[c]
   by_cases d:φ (m:Int)=(bh φ m:Int)
   ·rw[if_pos d]
    rw[if_pos d]at es
    rw[es]at e1
    rw[c]at e5
    exact⟨e1,e2,e5,by omega⟩
   ·rw[if_neg d]at es
    rw[if_neg d,if_pos (by have:=(F m mn).2;omega)]
    rw[es]at e1
    rw[c]at e5
    exact⟨e1,e2,e5,by omega⟩
  ·rw[if_neg c]at h'
   by_cases d:t<(m:Int)
   ·rw[if_pos d]at h'
    obtain⟨e1,e2,e3,e4⟩:=IC F hm oG h'
    have lt:φ t<(bh φ m:Int):=by
     have:=F.lt (t:=t.toNat) (m:=m) (by have:=ht.1;omega) hm
     rw[jb ht.1]at this
     exact this
    rw[if_neg #[0],if_pos lt]
    refine⟨e1,e2,fun u hu=>?_,e4⟩
    rcases jY.mp hu with z|z
    ·rw[z];omega
    ·exact e3 u z
   ·rw[if_neg d]at h'
    cases h'
theorem IB(F:iK φ n):∀ {r:LI} {m m1:Nat},m<=n->(∀ t∈r,au n t/\φ t<(bh φ m:Int))->ba m r=some m1->bh φ m1=bh φ m/\m1<=n/\(∀ t∈r,t<(m1:Int))/\m<=m1
 | [],m,m1,hm,_,h=>by
  cases h
  exact⟨rfl,hm,fun t ht=>(by cases ht),jE _⟩
 | t :: r,m,m1,hm,hr,h=>by
  have ht:=hr t jD
  have h':(if t=(m:Int)then ba (m+1) r else if t<(m:Int)then ba m r else none)=some m1:=h
  by_cases c:t=(m:Int)
  ·rw[if_pos c]at h'
   have mn:m<n:=by have:=ht.1.2;omega
   have es:bh φ (m+1)=bh φ m:=by
    show(if φ (m:Int)=(bh φ m:Int)then bh φ m+1 else bh φ m)=_
    rw[if_neg (by have:=ht.2;rw[c]at this;omega)]
   obtain⟨e1,e2,e3,e4⟩:=IB F (show m+1<=n from mn) (fun u hu=>by rw[es];exact hr u (jI _ hu)) h'
   refine⟨e1.trans es,e2,fun u hu=>?_,by omega⟩
   rcases jY.mp hu with z|z
   ·rw[z,c];omega
   ·exact e3 u z
  ·rw[if_neg c]at h'
   by_cases d:t<(m:Int)
   ·rw[if_pos d]at h'
    obtain⟨e1,e2,e3,e4⟩:=IB F hm (fun u hu=>hr u (jI _ hu)) h'
    refine⟨e1,e2,fun u hu=>?_,e4⟩
    rcases jY.mp hu with z|z
    ·rw[z];omega
    ·exact e3 u z
   ·rw[if_neg d]at h'
    cases h'
def eM(φ:Int->Int)(rows:LL):Nat->LL->LL
 | _,[]=>[]
 | q,r :: rs=>if φ (q:Int)=(bh φ q:Int)then r.map φ :: eM φ rows (q+1) rs else eM φ rows (q+1) rs
theorem EO(F:iK φ rows.length)(R:aI rows.length wide rows)(cp:∀ x y:Nat,x<rows.length->y<rows.length->φ (x:Int)=φ (y:Int)->∀ f:Nat,f<wide->φ (stepI rows x f)=φ (stepI rows y f)):
  ∀ {rs:LL} {q m k:Nat},rs=rows.drop q->q<=rows.length->m<=rows.length->(∀ x:Nat,x<q->∀ f:Nat,f<wide->stepI rows x f<(m:Int))->bM q m rs=some k->bM (bh φ q) (bh φ m) (eM φ rows q rs)=some (bh φ k)
 | [],q,m,k,_,_,_,_,h=>by
  cases h
  rfl
 | r :: rs,q,m,k,e,hq,hm,old,h=>by
  have h':(if q<m then(ba m r).bind fun m'=>bM (q+1) m' rs else none)=some k:=h
  by_cases c:q<m
  ·rw[if_pos c]at h'
   have l1:q<rows.length:=by omega
   rw[jv l1]at e
   injection e with er es
   cases o1:ba m r with
   | none=>rw[o1]at h';cases h'
   | some m1 =>
    rw[o1]at h'
    have hr:=R.row _ (jH l1)
    have hv:∀ t∈r,au rows.length t:=fun t ht=>R.val _ (jH l1) t (er ▸ ht)
    have stp:∀ f:Nat,f<wide->stepI rows (q:Int) (f:Int)∈r:=fun f hf=>by
     have lf:f<rows[q].length:=by omega
     have:stepI rows (q:Int) (f:Int)=rows[q][f]:=by
      unfold stepI
      rw[jA,jA,getD_at l1,getD_at lf]
     rw[this,er]
     exact jH lf
    have MS:bh φ (q+1)=if φ (q:Int)=(bh φ q:Int)then bh φ q+1 else bh φ q:=rfl
    have dq:∀ m1:Nat,(∀ t∈r,t<(m1:Int))->m<=m1->∀ x:Nat,x<q+1->∀ f:Nat,f<wide->stepI rows x f<(m1:Int):=fun m1 e3 e4 x hx f hf=>by
     rcases Jb x q with z|z
     ·have:=old x z f hf
      omega
     ·have:x=q:=by omega
      rw[this]
      exact e3 _ (stp f hf)
    by_cases d:φ (q:Int)=(bh φ q:Int)
    ·obtain⟨e1,e2,e3,e4⟩:=IC F hm hv o1
     have ih:=EO F R cp es l1 e2 (dq m1 e3 e4) h'
     rw[MS,if_pos d]at ih
     have lt:bh φ q<bh φ m:=by
      have:=F.lt c hm
      omega
     show bM _ _ (if φ (q:Int)=(bh φ q:Int)then _ else _)=_
     rw[if_pos d]
     show(if bh φ q<bh φ m then(ba (bh φ m) (r.map φ)).bind fun m'=>bM (bh φ q+1) m' (eM φ rows (q+1) rs)else none)=_
     rw[if_pos lt,e1]
     exact ih
    ·-- room q is aqs an ai7 one
     have hl:φ (q:Int)<(bh φ q:Int):=by
      have:=(F q l1).2
      omega
     obtain⟨x,hx,ex⟩:∃ x:Nat,x<q/\φ (x:Int)=φ (q:Int):=by
      have:∀ (b:Nat) (g:Int),0<=g->g<(bh φ b:Int)->∃ x:Nat,x<b/\φ (x:Int)=g:=by
       intro b
       induction b with
       | zero=>intro g g0 g1;exact absurd g1 (by show ¬ g<((0:Nat):Int);omega)
       | succ b ih =>
        intro g g0 g1
        have eb:bh φ (b+1)=if φ (b:Int)=(bh φ b:Int)then bh φ b+1 else bh φ b:=rfl
        by_cases z:g<(bh φ b:Int)
        ·obtain⟨x,h1,h2⟩:=ih g g0 z
         exact⟨x,by omega,h2⟩
        ·by_cases y:φ (b:Int)=(bh φ b:Int)
         ·rw[eb,if_pos y]at g1
          exact⟨b,Jx b,by omega⟩
         ·rw[eb,if_neg y]at g1
          exact absurd g1 z
      exact this q _ (F q l1).1 hl
     have MU:∀ t∈r,au rows.length t/\φ t<(bh φ m:Int):=fun t ht=>by
      exists hv t ht
      obtain⟨f,hf,et⟩:=ji (er ▸ ht)
      have fw:f<wide:=by omega
      have st:stepI rows (q:Int) (f:Int)=t:=by
       unfold stepI
       rw[jA,jA,getD_at l1,getD_at hf,et]
      have c1:=cp x q #[0] l1 ex f fw
      rw[st]at c1
      rw[<- c1]
      have o:=old x hx f fw
      have rm:=cA R (show(0:Int)<=(x:Int) by omega) #[0] (show(0:Int)<=(f:Int) by omega) #[0]
      have:=F.lt (t:=(stepI rows x f).toNat) (m:=m) #[0] hm
      rw[jb rm.1]at this
      exact this
     obtain⟨e1,e2,e3,e4⟩:=IB F hm MU o1
     have ih:=EO F R cp es l1 e2 (dq m1 e3 e4) h'
     rw[MS,if_neg d,e1]at ih
     show bM _ _ (if φ (q:Int)=(bh φ q:Int)then _ else _)=_
     rw[if_neg d]
     exact ih
  ·rw[if_neg c]at h'
   cases h'
end
abbrev dd(s:LI)(v:Int):LI:=Yo s v
theorem pR{v:Int}(h:v∈s):dd s v=s:=by
 unfold dd Yo
 simp[h]
theorem lQ{v:Int}(h:v∉s):dd s v=s++[v]:=by
 unfold dd Yo
 simp[h]
theorem B6:∀ (ys s:LI),∃ zs,ys.foldl dd s=s++zs
 | [],s=>⟨[],by simp⟩
 | y :: ys,s=>by
  by_cases c:y∈s
  ·obtain⟨zs,e⟩:=B6 ys s
   exact⟨zs,by rw[JS,pR c,e]⟩
  ·obtain⟨zs,e⟩:=B6 ys (s++[y])
   exact⟨y :: zs,by rw[JS,lQ c,e,jk];rfl⟩
theorem L7(gs:LI)(m:Nat):∃ zs,bQ gs=bQ (gs.take m)++zs:=by
 obtain⟨zs,e⟩:=B6 (gs.drop m) (bQ (gs.take m))
 exists zs
 rw[<- e]
 show gs.foldl dd []=(gs.drop m).foldl dd ((gs.take m).foldl dd [])
 rw[<- JC,zg]
theorem oH{g:Int}(h:gs[m]?=some g):bQ (gs.take (m+1))=dd (bQ (gs.take m)) g:=by
 unfold bQ
 rw[jS,h,JC]
 rfl
def pL(gs:LI)(q:Int):Int:=((bQ gs).idxOf (gs.getD q.toNat 0):Nat)
theorem abZ{xs zs:LI}{g:Int}(h:g∈xs):(xs++zs).idxOf g=xs.idxOf g:=by rw[zV,if_pos h]
theorem Ds{g:Int}(h:gs[m]?=some g)(ho:g∈bQ (gs.take m)):pL gs (m:Int)=((bQ (gs.take m)).idxOf g:Nat):=by
 obtain⟨zs,e⟩:=L7 gs m
 unfold pL
 rw[jA,jM,h,e]
 show(((bQ (gs.take m)++zs).idxOf g:Nat):Int)=_
 rw[abZ ho]
theorem Dr{g:Int}(h:gs[m]?=some g)(ho:g∉bQ (gs.take m)):pL gs (m:Int)=((bQ (gs.take m)).length:Nat):=by
 obtain⟨zs,e⟩:=L7 gs (m+1)
 rw[oH h,lQ ho]at e
 unfold pL
 rw[jA,jM,h,e,jk]
 show(((bQ (gs.take m)++([g]++zs)).idxOf g:Nat):Int)=_
 rw[zV,if_neg ho]
 simp
theorem HV(gs:LI):∀ {m:Nat},m<=gs.length->bh (pL gs) m=(bQ (gs.take m)).length
 | 0,_=>rfl
 | m+1,h=>by
  have ih:=HV gs (m:=m) #[0]
  have hg:gs[m]?=some gs[m]:=jB #[0]
  show(if pL gs (m:Int)=(bh (pL gs) m:Int)then bh (pL gs) m+1 else bh (pL gs) m)=_
  rw[ih,oH hg]
  by_cases c:gs[m]∈bQ (gs.take m)
  ·have e:=Ds hg c
   have lt:=jq c
   rw[pR c,if_neg #[0]]
  ·have e:=Dr hg c
   rw[lQ c,if_pos e,jG]
   rfl
theorem R5(gs:LI):iK (pL gs) gs.length:=fun q hq=>by
 have hg:gs[q]?=some gs[q]:=jB hq
 rw[HV gs #[0]]
 by_cases c:gs[q]∈bQ (gs.take q)
 ·have e:=Ds hg c
  have lt:=jq c
  omega
 ·have e:=Dr hg c
  omega
theorem aal(hx:au gs.length x)(hy:au gs.length y):pL gs x=pL gs y↔gs.getD x.toNat 0=gs.getD y.toNat 0:=by
 have mem:∀ {z:Int},au gs.length z->gs.getD z.toNat 0∈bQ gs:=fun {z} hz=>by
  have l:z.toNat<gs.length:=by have:=hz.1;have:=hz.2;omega
  rw[getD_at l]
  exact Br.mpr (jH l)
 unfold pL
 constructor
 ·intro h
  have h':(bQ gs).idxOf (gs.getD x.toNat 0)=(bQ gs).idxOf (gs.getD y.toNat 0):=by omega
  have lx:=jq (mem hx)
  have ly:=jq (mem hy)
  have ex:(bQ gs)[(bQ gs).idxOf (gs.getD x.toNat 0)]=gs.getD x.toNat 0:=Jp lx
  have ey:(bQ gs)[(bQ gs).idxOf (gs.getD y.toNat 0)]=gs.getD y.toNat 0:=Jp ly
  rw[<- ex,<- ey]
  congr 1
 ·intro h
  rw[h]
theorem tE:∀ {b:Nat} {g:Int},0<=g->g<(bh φ b:Int)->∃ x:Nat,x<b/\φ (x:Int)=g/\(bh φ x:Int)=g
 | 0,g,g0,g1=>absurd g1 (by show ¬ g<((0:Nat):Int);omega)
 | b+1,g,g0,g1=>by
  have eb:bh φ (b+1)=if φ (b:Int)=(bh φ b:Int)then bh φ b+1 else bh φ b:=rfl
  by_cases z:g<(bh φ b:Int)
  ·obtain⟨x,h1,h2,aee⟩:=tE g0 z
   exact⟨x,by omega,h2,aee⟩
  ·by_cases y:φ (b:Int)=(bh φ b:Int)
   ·rw[eb,if_pos y]at g1
    exact⟨b,Jx b,by omega,by omega⟩
   ·rw[eb,if_neg y]at g1
    exact absurd g1 z
theorem Ca:∀ {n q:Nat},q<n->φ (q:Int)=(bh φ q:Int)->(cB φ n)[bh φ q]?=some q
 | 0,q,h,_=>absurd h (zt _)
 | n+1,q,h,e=>by
  have l:=oQ φ n
  unfold cB at l ⊢
  rw[js,JY]
  rcases Jb q n with z|z
  ·have ih:=Ca z e
   unfold cB at ih
   rw[jr (iH ih).1]
   exact ih
  ·have:q=n:=by omega
   subst this
   rw[JH #[0],l,Jw,JM (by exact decide_eq_true e)]
   rfl
theorem EN{φ:Int->Int}:∀ {rs:LL} {q:Nat},rs=rows.drop q->q<=rows.length->eM φ rows q rs=((List.range' q (rows.length-q)).filter fun i:Nat=>decide (φ (i:Int)=(bh φ i:Int))).map fun i=>(rows.getD i []).map φ
 | [],q,e,hq=>by
  have hl:rows.length<=q:=Ji.mp e.symm
  rw[show rows.length-q=0 from by omega]
  rfl
 | r :: rs,q,e,hq=>by
  have l1:q<rows.length:=by
   rcases Jb q rows.length with z|z
   ·exact z
   ·rw[ZY z]at e
    cases e
  rw[jv l1]at e
  injection e with er es
  have ih:=EN (φ:=φ) es l1
  rw[show rows.length-q=(rows.length-(q+1))+1 from by omega,List.range'_succ]
  show(if φ (q:Int)=(bh φ q:Int)then r.map φ :: eM φ rows (q+1) rs else eM φ rows (q+1) rs)=_
  by_cases c:φ (q:Int)=(bh φ q:Int)
  ·rw[if_pos c,ih,JM (by exact decide_eq_true c),JF,getD_at l1,er]
  ·rw[if_neg c,ih,JE (by rw[decide_eq_false c];decide)]
theorem Bz:eM φ rows 0 rows=(cB φ rows.length).map fun i=>(rows.getD i []).map φ:=by
 have h:=EN (φ:=φ) (rows:=rows) (rs:=rows) (q:=0) rfl (je _)
 rw[h]
 unfold cB
 rw[List.range_eq_range',Nat.sub_zero]
structure cu(wide:Nat)(rows aw:LL)(signs aK:LI):Prop where
 ok:aI aw.length wide aw
 pos:0<aw.length
 sgn:aK.length=aw.length
 ord:oj aw
 apart:Apart wide aw aK
 tells:Tells wide rows aw signs aK 0 0
section
variable{signs:LI}
theorem aaC(F:iK φ rows.length)(R:aI rows.length wide rows)(cp:∀ x y:Nat,x<rows.length->y<rows.length->φ (x:Int)=φ (y:Int)->∀ f:Nat,f<wide->φ (stepI rows x f)=φ (stepI rows y f))(hq:au rows.length q){f:Nat}(hf:f<wide):
  stepI (eM φ rows 0 rows) (φ q) f=φ (stepI rows q f):=by
 obtain⟨n,rfl⟩:=fQ hq.1
 have hn:n<rows.length:=by have:=hq.2;omega
 have lt:=F.lt hn (jE _)
 obtain⟨x,hx,e1,e2⟩:=tE (F n hn).1 lt
 have at' := Ca hx (e1.trans e2.symm)
 have lr:(rows[x]).length=wide:=R.row _ (jH hx)
 have e3:(eM φ rows 0 rows).getD (φ (n:Int)).toNat []=(rows[x]).map φ:=by
  rw[Bz,<- e2,jA,jM,jN,at']
  show(rows.getD x []).map φ=_
  rw[getD_at hx]
 have e4:stepI rows (x:Int) (f:Int)=(rows[x])[f]'#[0]:=by
  unfold stepI
  rw[jA,jA,getD_at hx,getD_at #[0]]
 rw[<- cp x n hx hn e1 f hf,e4]
 unfold stepI
 rw[e3,jA,jM,jN,jB #[0]]
 rfl
theorem Mi(F:iK φ rows.length)(R:aI rows.length wide rows)(cp:∀ x y:Nat,x<rows.length->y<rows.length->φ (x:Int)=φ (y:Int)->∀ f:Nat,f<wide->φ (stepI rows x f)=φ (stepI rows y f)):∀ {v:LI} {q:Int},mi wide v->au rows.length q->aY (eM φ rows 0 rows) v (φ q)=φ (aY rows v q)
 | [],q,_,_=>rfl
 | f :: v,q,hv,hq=>by
  have hf:=hv f jD
  obtain⟨m,rfl⟩:=fQ hf.1
  show aY _ v (stepI _ (φ q) (m:Int))=φ (aY rows v (stepI rows q (m:Int)))
  rw[aaC F R cp hq #[0]]
  exact Mi F R cp (fun g hg=>hv g (jI _ hg)) (cA R hq.1 hq.2 hf.1 hf.2)
theorem X3(F:iK φ rows.length)(R:aI rows.length wide rows)(O:oj rows)(n0:0<rows.length)(al:∀ x y:Nat,x<rows.length->y<rows.length->(φ (x:Int)=φ (y:Int)↔iI rows wide signs x y)):
  cu wide rows (eM φ rows 0 rows) signs ((cB φ rows.length).map fun q=>signs.getD q 0):=by
 have cp:∀ x y:Nat,x<rows.length->y<rows.length->φ (x:Int)=φ (y:Int)->∀ f:Nat,f<wide->φ (stepI rows x f)=φ (stepI rows y f):=fun x y hx hy e f hf=>by
  have a:=((al x y hx hy).mp e).led hf
  have rx:=cA R (show(0:Int)<=(x:Int) by omega) #[0] (show(0:Int)<=(f:Int) by omega) #[0]
  have ry:=cA R (show(0:Int)<=(y:Int) by omega) #[0] (show(0:Int)<=(f:Int) by omega) #[0]
  have h:=(al (stepI rows x f).toNat (stepI rows y f).toNat #[0] #[0]).mpr (by rw[jb rx.1,jb ry.1];exact a)
  rw[jb rx.1,jb ry.1]at h
  exact h
 have ll:(eM φ rows 0 rows).length=bh φ rows.length:=by rw[Bz,bq,oQ]
 have p0:φ ((0:Nat):Int)=((0:Nat):Int):=by
  have h:=F 0 n0
  have e:bh φ 0=0:=rfl
  rw[e]at h
  omega
 have c1:bh φ 1=1:=by
  show(if φ ((0:Nat):Int)=((bh φ 0:Nat):Int)then bh φ 0+1 else bh φ 0)=1
  rw[if_pos (by rw[p0];rfl)]
  rfl
 have dJ:0<bh φ rows.length:=by
  have:=FU (φ:=φ) (show 1<=rows.length from n0)
  omega
 have sg:∀ {q:Int},au rows.length q->sgn ((cB φ rows.length).map fun q=>signs.getD q 0) (φ q)=sgn signs q:=fun {q} hq=>by
  obtain⟨n,rfl⟩:=fQ hq.1
  have hn:n<rows.length:=by have:=hq.2;omega
  obtain⟨x,hx,e1,e2⟩:=tE (F n hn).1 (F.lt hn (jE _))
  have at' := Ca hx (e1.trans e2.symm)
  have a:=((al x n hx hn).mp e1).sgn
  rw[<- a]
  unfold sgn
  rw[<- e2,jA,jA,jM,jN,at']
  rfl
 have tl:∀ {q:Int},au rows.length q->Tells wide rows (eM φ rows 0 rows) signs ((cB φ rows.length).map fun q=>signs.getD q 0) q (φ q):=fun {q} hq v hv=>by
  rw[Mi F R cp hv hq,sg (dH R hv hq.1 hq.2)]
 refine⟨⟨rfl,fun r hr=>?_,fun r hr v hv=>?_⟩,by omega,by rw[bq,oQ,ll],?_,fun a b ha hb hab=>?_,?_⟩
 ·rw[Bz]at hr
  obtain⟨x,hx,rfl⟩:=jO.mp hr
  have xl:=jm.mp (jy.mp hx).1
  rw[bq,getD_at xl]
  exact R.row _ (jH xl)
 ·rw[Bz]at hr
  obtain⟨x,hx,rfl⟩:=jO.mp hr
  have xl:=jm.mp (jy.mp hx).1
  obtain⟨t,ht,rfl⟩:=jO.mp hv
  rw[getD_at xl]at ht
  have rt:=R.val _ (jH xl) t ht
  obtain⟨n,rfl⟩:=fQ rt.1
  have hn:n<rows.length:=by omega
  have h1:=(F n hn).1
  have h2:=F.lt hn (jE _)
  rw[ll]
  exact⟨h1,h2⟩
 ·have h:=EO F R cp (rs:=rows) (q:=0) (m:=1) (k:=rows.length) rfl (je _) n0 (fun x hx=>absurd hx (zt _)) O
  rw[c1]at h
  show bM 0 1 _=some _
  rw[ll]
  exact h
 ·rw[ll]at ha hb
  obtain⟨x,hx,e1,_⟩:=tE ha.1 ha.2
  obtain⟨y,hy,e2,_⟩:=tE hb.1 hb.2
  rw[<- e1,<- e2]
  refine(al x y hx hy).mpr fun n v hv hl=>?_
  rw[tl (q:=(x:Int)) ⟨by omega,by omega⟩ v hv,tl (q:=(y:Int)) ⟨by omega,by omega⟩ v hv,e1,e2]
  exact hab n v hv hl
 ·have h:=tl (q:=0) ⟨by omega,by omega⟩
  have z:φ 0=0:=p0
  rw[z]at h
  exact h
end
theorem wD:∀ (r s:LI),∃ zs,r.foldl eC s=s++zs
 | [],s=>⟨[],by simp⟩
 | t :: r,s=>by
  by_cases c:t∈s
  ·obtain⟨zs,e⟩:=wD r s
   exact⟨zs,by rw[JS,show eC s t=s from if_pos c,e]⟩
  ·obtain⟨zs,e⟩:=wD r (s++[t])
   exact⟨t :: zs,by rw[JS,show eC s t=s++[t]from if_neg c,e,jk];rfl⟩
theorem A0(rows:LL):∀ (qs s:LI),∃ zs,qs.foldl (fK rows) s=s++zs
 | [],s=>⟨[],by simp⟩
 | q :: qs,s=>by
  obtain⟨z1,e1⟩:=wD #[55] s
  obtain⟨z2,e2⟩:=A0 rows qs (fK rows s q)
  exists z1++z2
  rw[JS,e2]
  show#[55].foldl eC s++z2=_
  rw[e1,jk]
def oY(qs:LI)(q:Int):Int:=((qs.idxOf q:Nat):Int)
theorem Hq:∀ {r s zs:LI},qs=r.foldl eC s++zs->ba s.length (r.map (oY qs))=some (r.foldl eC s).length
 | [],s,zs,_=>rfl
 | t :: r,s,zs,e=>by
  have e':qs=r.foldl eC (eC s t)++zs:=e
  obtain⟨ys,ey⟩:=wD r (eC s t)
  have ih:=Hq e'
  show(if oY qs t=(s.length:Int)then ba (s.length+1) (r.map (oY qs))else if oY qs t<(s.length:Int)then ba s.length (r.map (oY qs))else none)=some (r.foldl eC (eC s t)).length
  by_cases c:t∈s
  ·have ep:eC s t=s:=if_pos c
   rw[ep]at ih e' ey ⊢
   have ei:qs.idxOf t=s.idxOf t:=by rw[e',ey,jk,zV,if_pos c]
   have lt:=jq c
   have er:oY qs t=((s.idxOf t:Nat):Int):=by unfold oY;rw[ei]
   rw[if_neg #[0],if_pos #[0]]
   exact ih
  ·have ep:eC s t=s++[t]:=if_neg c
   rw[ep]at ih e' ey ⊢
   have ei:qs.idxOf t=s.length:=by
    rw[e',ey,jk,jk,zV,if_neg c]
    simp
   have er:oY qs t=(s.length:Int):=by unfold oY;rw[ei]
   rw[if_pos er]
   rw[jG,jh]at ih
   exact ih
section
theorem EX(R:aI many wide rows)(n0:0<many)(eq:qs=qs.foldl (fK rows) [0])(nd:qs.Nodup)(re:∀ q∈qs,∃ row,mi wide row/\aY rows row 0=q):
  ∀ {ps:LI} {k:Nat},ps=qs.drop k->k<=qs.length->bM k ((qs.take k).foldl (fK rows) [0]).length (ps.map fun q=>#[55].map (oY qs))=some qs.length
 | [],k,e,hk=>by
  have hl:qs.length<=k:=Ji.mp e.symm
  show some _=some _
  rw[ZX hl,<- eq]
 | p :: ps,k,e,hk=>by
  have l1:k<qs.length:=by
   rcases Jb k qs.length with z|z
   ·exact z
   ·rw[ZY z]at e
    cases e
  have e0:=e
  rw[jv l1]at e
  injection e with ep es
  obtain⟨s,hs⟩:∃ s,(qs.take k).foldl (fK rows) [0]=s:=⟨_,rfl⟩
  have all:qs=(p :: ps).foldl (fK rows) s:=by
   rw[<- hs,<- JC,e0,zg]
   exact eq
  obtain⟨zs,ez⟩:=A0 rows (p :: ps) s
  rw[<- all]at ez
  have ks:k<s.length:=by
   rcases Jb k s.length with z|z
   ·exact z
   ·have sub:∀ q∈s,q∈qs.take k:=fun q hq=>by
     have:s=qs.take s.length:=by
      have h:(s++zs).take s.length=s:=List.take_left' rfl
      rw[<- ez]at h
      exact h.symm
     rw[this]at hq
     exact(List.take_prefix_take_left z).subset hq
    have cl:∀ q∈s,∀ f:Int,0<=f->f<(wide:Int)->au many q->stepI rows q f∈s:=fun q hq f f0 f1 hr=>by
     rw[<- hs]
     refine pW rows (qs.take k) (sub q hq) ?_
     have lq:q.toNat<rows.length:=by have:=R.len;have:=hr.1;have:=hr.2;omega
     have lf:f.toNat<rows[q.toNat].length:=by rw[R.row _ (jH lq)];omega
     unfold stepI
     rw[getD_at lq,getD_at lf]
     exact jH lf
    have z0:(0:Int)∈s:=by rw[<- hs];exact wu rows _ jD
    have wk:∀ (row:LI) (q:Int),mi wide row->au many q->q∈s->aY rows row q∈s:=fun row=>by
     induction row with
     | nil=>intro q _ _ h;exact h
     | cons f row ih =>
      intro q hf hr h
      have h0:=hf f jD
      exact ih _ (fun g hg=>hf g (jI _ hg)) (cA R hr.1 hr.2 h0.1 h0.2) (cl q h f h0.1 h0.2 hr)
    have lq:qs[k]∈s:=by
     obtain⟨row,hf,ew⟩:=re qs[k] (jH l1)
     rw[<- ew]
     exact wk row 0 hf ⟨by omega,by omega⟩ z0
    have ht:=sub _ lq
    obtain⟨i,hi,ei⟩:=ji ht
    rw[jQ]at hi
    rw[zU]at ei
    have:=(JK nd).mp ei
    omega
  show(if k<((qs.take k).foldl (fK rows) [0]).length then(ba ((qs.take k).foldl (fK rows) [0]).length ((rows.getD p.toNat []).map (oY qs))).bind fun m'=>bM (k+1) m' (ps.map fun q=>#[55].map (oY qs))else none)=_
  rw[hs,if_pos ks]
  obtain⟨ys,ey⟩:=A0 rows ps (fK rows s p)
  have all2:qs=(rows.getD p.toNat []).foldl eC s++ys:=by
   rw[all]
   exact ey
  rw[Hq all2]
  have ih:=EX R n0 eq nd re es l1
  have et:(qs.take (k+1)).foldl (fK rows) [0]=fK rows s p:=by
   rw[jS,jB l1,JC,hs,<- ep]
   rfl
  rw[et]at ih
  exact ih
theorem Ph(R:aI many wide rows)(inr:∀ q∈qs,au many q)(hq:q∈qs){f:Nat}(hf:f<wide):stepI #[11] (oY qs q) f=oY qs (stepI rows q f):=by
 have li:=jq hq
 have hr:=inr q hq
 have lq:q.toNat<rows.length:=by have:=R.len;have:=hr.1;have:=hr.2;omega
 have lf:f<rows[q.toNat].length:=by rw[R.row _ (jH lq)];exact hf
 have ei:qs[qs.idxOf q]?=some q:=by rw[jB li,Jp li]
 have e3:#[11].getD (oY qs q).toNat []=(rows[q.toNat]).map (oY qs):=by
  unfold oY
  rw[jA,jM,jN,ei]
  show#[55].map _=_
  rw[getD_at lq]
 unfold stepI
 rw[e3,jA,getD_at lq,getD_at lf,jM,jN,jB lf]
 rfl
theorem aaM(R:aI many wide rows)(eq:qs=qs.foldl (fK rows) [0])(inr:∀ q∈qs,au many q){f:Int}(hq:q∈qs)(f0:0<=f)(f1:f<(wide:Int)):stepI rows q f∈qs:=by
 rw[eq]
 refine pW rows qs hq ?_
 have hr:=inr q hq
 have lq:q.toNat<rows.length:=by have:=R.len;have:=hr.1;have:=hr.2;omega
 have lf:f.toNat<rows[q.toNat].length:=by rw[R.row _ (jH lq)];omega
 unfold stepI
 rw[getD_at lq,getD_at lf]
 exact jH lf
theorem EY(R:aI many wide rows)(eq:qs=qs.foldl (fK rows) [0])(inr:∀ q∈qs,au many q):∀ {v:LI} {q:Int},mi wide v->q∈qs->aY #[11] v (oY qs q)=oY qs (aY rows v q)/\aY rows v q∈qs
 | [],q,_,hq=>⟨rfl,hq⟩
 | f :: v,q,hv,hq=>by
  have hf:=hv f jD
  obtain⟨m,rfl⟩:=fQ hf.1
  have hs:=aaM R eq inr hq hf.1 hf.2
  have ih:=EY R eq inr (fun g hg=>hv g (jI _ hg)) hs
  have st:=Ph R inr hq (f:=m) #[0]
  show aY _ v (stepI _ (oY qs q) (m:Int))=oY qs (aY rows v (stepI rows q (m:Int)))/\aY rows v (stepI rows q (m:Int))∈qs
  rw[st]
  exact ih
theorem Mv{signs:LI}(R:aI many wide rows)(n0:0<many)(eq:qs=qs.foldl (fK rows) [0])(nd:qs.Nodup)(inr:∀ q∈qs,au many q)(re:∀ q∈qs,∃ row,mi wide row/\aY rows row 0=q):
  aI qs.length wide #[11]/\oj #[11]/\0<qs.length/\Tells wide rows #[11] signs (qs.map fun q=>signs.getD q.toNat 0) 0 0:=by
 obtain⟨zs,ez⟩:=A0 rows qs [0]
 rw[<- eq]at ez
 have z0:(0:Int)∈qs:=by rw[ez];exact jD
 have r0:oY qs 0=0:=by
  unfold oY
  rw[ez]
  simp
 refine⟨⟨jX _,fun r hr=>?_,fun r hr v hv=>?_⟩,?_,Jq z0,fun v hv=>?_⟩
 ·obtain⟨q,hq,rfl⟩:=jO.mp hr
  have h:=inr q hq
  have lq:q.toNat<rows.length:=by have:=R.len;have:=h.1;have:=h.2;omega
  rw[bq,getD_at lq]
  exact R.row _ (jH lq)
 ·obtain⟨q,hq,rfl⟩:=jO.mp hr
  have h:=inr q hq
  have lq:q.toNat<rows.length:=by have:=R.len;have:=h.1;have:=h.2;omega
  obtain⟨t,ht,rfl⟩:=jO.mp hv
  have tm:t∈qs:=by rw[eq];exact pW rows qs hq ht
  have:=jq tm
  unfold oY
  omega
 ·have h:=EX R n0 eq nd re (ps:=qs) (k:=0) rfl (je _)
  show bM 0 1 _=some _
  rw[bq]
  exact h
 ·have h:=EY R eq inr hv z0
  rw[r0]at h
  rw[h.1]
  obtain⟨w,ew⟩:∃ w,aY rows v 0=w:=⟨_,rfl⟩
  have hw:=h.2
  rw[ew]at hw ⊢
  have li:=jq hw
  unfold sgn oY
  rw[jA,jM (l:=qs.map _),jN,jB li,Jp li]
  rfl
end
theorem Tells.trans{r3:LL}{s3:LI}{c:Int}(h:Tells wide r1 r2 s1 s2 a b)(h':Tells wide r2 r3 s2 s3 b c):Tells wide r1 r3 s1 s3 a c:=fun v hv=>(h v hv).trans (h' v hv)
theorem Tells.symm(h:Tells wide r1 r2 s1 s2 a b):Tells wide r2 r1 s2 s1 b a:=fun v hv=>(h v hv).symm
theorem cu.of{signs ss:LI}(h:cu wide rs aw ss aK)(t:Tells wide rows rs signs ss 0 0):cu wide rows aw signs aK:=
 ⟨h.ok,h.pos,h.sgn,h.ord,h.apart,t.trans h.tells⟩
theorem cu.one{a b:LL}{sa sb:LI}(h1:cu wide r1 a s1 sa)(h2:cu wide r2 b s2 sb)(t:Tells wide r1 r2 s1 s2 0 0):a=b/\sa=sb:=
 N7 h1.apart h2.apart h1.ok h2.ok h1.pos h2.pos h1.ord h2.ord h1.sgn h2.sgn ((h1.tells.symm.trans t).trans h2.tells)
theorem cu.self{signs:LI}(R:aI rows.length wide rows)(n0:0<rows.length)(ls:signs.length=rows.length)(O:oj rows)(A:Apart wide rows signs):cu wide rows rows signs signs:=
 ⟨R,n0,ls,O,A,fun _ _=>rfl⟩
theorem LJ{signs:LI}(R:aI many wide rows)(n0:0<many)(eq:qs=qs.foldl (fK rows) [0])(nd:qs.Nodup)(inr:∀ q∈qs,au many q)(re:∀ q∈qs,∃ row,mi wide row/\aY rows row 0=q)(lg:gs.length=qs.length)(hg:∀ x y:Nat,x<qs.length->y<qs.length->(gs.getD x 0=gs.getD y 0↔iI #[11] wide (qs.map fun q=>signs.getD q.toNat 0) x y)):
  cu wide rows (eM (pL gs) #[11] 0 #[11]) signs ((cB (pL gs) qs.length).map fun q=>(qs.map fun q=>signs.getD q.toNat 0).getD q 0):=by
 obtain⟨R1,O1,p1,t1⟩:=Mv (signs:=signs) R n0 eq nd inr re
 have el:#[11].length=qs.length:=jX _
 have F:=R5 gs
 have h:=X3 (φ:=pL gs) (wide:=wide) (rows:=qs.map fun q=>#[55].map (oY qs)) (signs:=qs.map fun q=>signs.getD q.toNat 0) (by rw[el,<- lg];exact F) (by rw[el];exact R1) O1 (by rw[el];exact p1) (fun x y hx hy=>by
  rw[el]at hx hy
  rw[aal ⟨by omega,by omega⟩ ⟨by omega,by omega⟩,jA,jA]
  exact hg x y hx hy)
 rw[el]at h
 exact h.of t1
def Cg(xs:LI)(k:Nat):List (Key×V):=(xs.zipIdx k).map fun p=>(Sum.inl p.1,V.int (p.2:Int))
theorem rS(xs:LI)(k:Nat):(Cg xs k).length=xs.length:=by
 unfold Cg
 rw[bq,Zn]
theorem wz:∀ (xs:LI) (k:Nat) (g:Int),fq (Cg xs k) (Sum.inl g)=if g∈xs then some (.int ((k+xs.idxOf g:Nat):Int))else none
 | [],k,g=>by rw[if_neg #[21]];rfl
 | x :: xs,k,g=>by
  have ih:=wz xs (k+1) g
  have e0:Cg (x :: xs) k=(Sum.inl x,V.int (k:Int)) :: Cg xs (k+1):=rfl
  by_cases e:x=g
  ·subst e
   rw[e0,mJ rfl,if_pos jD,QB]
   simp
  ·rw[e0,ft (fun z=>e (Sum.inl.inj z)),ih]
   have m:g∈x :: xs↔g∈xs:=by simp[Ne.symm e]
   by_cases c:g∈xs
   ·have i:(x :: xs).idxOf g=xs.idxOf g+1:=by rw[QB,show(x==g)=false from beq_false_of_ne e];rfl
    rw[if_pos c,if_pos (m.mpr c),i]
    congr 3
    omega
   ·rw[if_neg c,if_neg fun z=>c (m.mp z)]
theorem Ih{xs:LI}{g:Int}(h:g∉xs):putK (Cg xs 0) (Sum.inl g) (V.int (xs.length:Int))=Cg (xs++[g]) 0:=by
 unfold putK
 rw[if_neg (by
  intro z
  obtain⟨p,hp,e⟩:=zB.mp z
  obtain⟨k,hk,rfl⟩:=jO.mp hp
  have e' := Sum.inl.inj (of_decide_eq_true e)
  have m:k.1∈xs:=by
   obtain⟨i,hi,ei⟩:=ji hk
   rw[List.getElem_zipIdx]at ei
   rw[<- ei]
   exact jH _
  exact h (e' ▸ m))]
 unfold Cg
 rw[ZH,jF,Jc]
 rfl
theorem Aq:∀ (gs s:LI),s.Nodup->(gs.foldl dd s).Nodup
 | [],s,h=>h
 | g :: gs,s,h=>by
  rw[JS]
  by_cases c:g∈s
  ·rw[pR c];exact Aq gs s h
  ·rw[lQ c];exact Aq gs _ (Bo h c)
theorem acs(gs:LI):(bQ gs).Nodup:=Aq gs [] Jk
theorem iC:∀ (gs s:LI),(gs.foldl dd s).length<=s.length+gs.length
 | [],s=>jE _
 | g :: gs,s=>by
  rw[JS]
  by_cases c:g∈s
  ·rw[pR c]
   have:=iC gs s
   rw[jT]
   omega
  ·rw[lQ c]
   have:=iC gs (s++[g])
   rw[jG,jh]at this
   rw[jT]
   omega
theorem Bq(gs:LI):(bQ gs).length<=gs.length:=by
 have:=iC gs []
 rw[JR,Jc]at this
 exact this
def fU(gs:LI):LI:=(jd gs.length).map fun i:Nat=>pL gs i
theorem Bu(h0:0<=q)(h1:q<(gs.length:Int)):bE (fU gs) q=pL gs q:=by
 unfold bE fU
 have l:q.toNat<gs.length:=by omega
 rw[getD_at (by rw[bq,jg];exact l),JW,zO,jb h0]
theorem aam(h0:0<=q)(h1:q<(gs.length:Int)):0<=pL gs q/\pL gs q<((bQ gs).length:Int):=by
 have l:q.toNat<gs.length:=by omega
 have m:gs.getD q.toNat 0∈bQ gs:=by rw[getD_at l];exact Br.mpr (jH l)
 have:=jq m
 unfold pL
 omega
theorem aan(h:j<(bQ gs).length):∃ q:Int,au gs.length q/\pL gs q=(j:Int):=by
 have m:(bQ gs)[j]∈gs:=Br.mp (jH h)
 obtain⟨i,hi,e⟩:=ji m
 refine⟨(i:Int),⟨by omega,by omega⟩,?_⟩
 unfold pL
 rw[jA,getD_at hi,e]
 have l:=jq (jH h)
 have q:=(JK (acs gs)).mp (Jp l)
 rw[q]
theorem Rc(col:LI)(q:Int):(dQ col q).Nodup:=by
 unfold dQ
 refine Js.mpr ((List.nodup_range.filter _).imp fun {a b} n z=>n ?_)
 have z':(a:Int)=(b:Int):=z
 omega
inductive MF (C:QQ) (vs:List V) (H:Hp) (Q:VK) (E:XK):Prop
 | mk (x dx g:QQ) (signs:LI) (_:vs=[.ref x,.ref g]) (_:H x=some (.ins C dx [])) (_:H g=some (.tup (signs.map V.int))) (_:signs.length<1000) (_:∀ (H':Hp) (go ms wt iw:QQ) (ds:List QQ),(∀ b u,b≠x->H b=some u->H' b=some u)->H go=none->H ms=none->H wt=none->H iw=none->(∀ d∈ds,H d=none)->CV H' C x go ms wt iw signs.length #[90] ds ((jd ds.length).map fun i:Nat=>(i:Int))->Q .non H')
section
theorem cL:aJ ["self","signs","numbers","group_of","members","here","group"] ["self","signs"] (ar cW):=cS #[3]
theorem ml:bF ["self","signs","numbers","group_of","members","here","group"] (ar cW) ["sign","numbers"] [none,some 2] ⟨.function,[#[62],("sign",.local),("len",.globalImplicit),("numbers",.free)],false,false,[]⟩:=rV #[3]
theorem mq:bF ["self","signs","numbers","group_of","members","here","group"] (ar cW) ["sign"] [none] ⟨.function,[#[62],("sign",.local)],false,false,[]⟩:=rV #[3]
theorem mv:bF ["self","signs","numbers","group_of","members","here","group"] (ar cW) ["group"] [none] ⟨.function,[#[62],("group",.local)],false,false,[]⟩:=rV #[3]
theorem OQ(F:br K "__init__" "Parted.__init__" cW dV f fd)(pc:J3 K C)(aZ:mg "len" = none)(mZ:mg "list" = none)(aL:mg "range" = none)(mY:mg "dict" = none)(dm:mg "enumerate" = none):bc P w K mg base eB 1 f fd ["self","signs"] (MF C):=by
 refine F.ok cL #[6] #[1]
 ·obtain⟨x,dx,g,signs,rfl,_⟩:=h
  rfl
 obtain⟨x,dx,g,signs,rfl,hx,hg,ln,k⟩:=h
 have hu:=pX hr
 refine⟨_,(ag (az (i:=2) cL.nd tQ)
   (ag (lU (i:=3) rfl cL.nd rfl (Or.inl rfl) ml (rW #[92]) (fun _ _ _ _=>(aS (i:=0) ml.nd)) (fun _ _ _ _=>(Ir #[92] #[98] (ay wm #[26] aZ ck #[44]) ⟨rfl,rfl,rfl,rfl⟩)))
   (ag (lU (i:=4) rfl cL.nd rfl (Or.inl rfl) mq (acF (pv 2)) (fun _ _ _ _=>(aS (i:=0) mq.nd)) (fun _ _ _ _=>tQ))
   (ag (bI PassesOwn.never rfl (EI rfl dm #[79]) (pK rfl (bx (aS (i:=5) cL.nd) (bx (aS (i:=6) cL.nd) iX))) (ao (wC hu (aF cF (pv 4) (pv 6) #[4]) (pv 5) cq rfl)))
   (ag (tS #[98] (pv 3) rfl)
   (ag (tS #[98] (pv 4) rfl)
   (ag (tS #[98] (O4 rfl rfl mZ rfl aL (aa (ay aN #[26] aZ ck #[88]) af)) rfl)
   (ao (tS #[98] (bj (tw rfl) #[26] mY De (aa (eK rfl mv (bG rfl aL (aa (ay aN #[26] aZ ck #[88]) af)) (fun _ _ _ _=>(aS (i:=0) mv.nd)) (fun _ _ _ _=>(eL (aa #[98] (aa cq af))))) af)) rfl))))))))),?_⟩
 exists 0
 refine fun Nd hNd=>?_
 have s0:=ak hNd (HO.dK [])
 have pl:#[90].length=signs.length:=by unfold fU;rw[bq,jg]
 try dsimp only[aX,bU]
 refine cU (t:=wV _ _) (fun σ' H'=>∃ go:QQ,σ'=[some #[89],some (.ref g),some (.ref Nd),some (.ref go),none,none,none]/\aB H H'/\H go=none/\H' go=some (.lst (#[90].map V.int))/\H' Nd=some (.dK (Cg (bQ signs) 0))) ?_ #[30]
 exists 16
 ·exists _,rfl,g,rfl,⟨_,bS (s0 _ _ hg)⟩
  refine AS (K:=K) (xs:=signs.map V.int) (fun D i ys H'=>aB H H'/\H' Nd=some (.dK (Cg (bQ (signs.take i)) 0))/\ys=((jd i).map fun j:Nat=>pL signs j).map V.int) (fun D hD=>⟨ax s0 (s0.free hD),by rw[aj (aq ae hD),ae];rfl,rfl⟩) (fun D i ys H' _ ⟨e,_⟩=>bS (e _ _ hg)) ?_ ?_
  ·rintro D i y ys H2 Q' hD hi hy ⟨s2,Ts,rfl⟩ k'
   obtain⟨sg,rfl,hs⟩:=bZ hi
   have il:=(iH hs).1
   have ol:=Bq (signs.take i)
   rw[jQ]at ol
   have nND:Nd≠D:=aQ Ts hy #[2]
   have fD:H D=none:=s0.free hD
   refine⟨_,rfl,Nd,rfl,.inl ⟨_,.inl Ts⟩,_,rfl,_,rfl,Nd,_,rfl,Ts,_,Sum.inl sg,Ts,rfl,aA (by rw[rS];omega),fun v hv=>?_,fun hn=>?_⟩
   ·rw[wz]at hv
    by_cases c:sg∈bQ (signs.take i)
    ·rw[if_pos c,Jc]at hv
     have ev:=(Option.some.inj hv).symm
     subst ev
     refine k' _ _ hy (aA (by rw[bq,bq,jg];omega)) ⟨ax s2 fD,by rw[aj nND,Ts,oH hs,pR c],?_⟩
     rw[js,jF,jF,<- Ds hs c]
     rfl
    ·rw[if_neg c]at hv
     cases hv
   ·rw[wz]at hn
    by_cases c:sg∈bQ (signs.take i)
    ·rw[if_pos c]at hn
     cases hn
    ·rw[rS]
     refine k' _ _ (by rw[aj (Ne.symm nND)];exact hy) (aA (by rw[bq,bq,jg];omega)) ⟨ax (ax s2 hNd) fD,by rw[aj nND,ae,Ih c,oH hs,lQ c],?_⟩
     rw[js,jF,jF,<- Dr hs c]
     rfl
  ·rintro D ys H2 hD hy ⟨s2,Ts,rfl⟩
   rw[bq,jU]at Ts
   rw[bq]at hy
   exact dq _ _ ⟨D,rfl,s2,s0.free hD,hy,Ts⟩
 rintro σ' H1 ⟨go,rfl,s1,fgo,ahp,hN1⟩
 have ol:=Bq signs
 refine cU (t:=wV _ _) (fun σ' H'=>∃ (ms:QQ) (as:List QQ),σ'=[some #[89],some (.ref g),some (.ref Nd),some (.ref go),some (.ref ms),none,none]/\aB H H'/\H' go=some (.lst (#[90].map V.int))/\H ms=none/\H' ms=some #[35]/\as.length=(bQ signs).length/\as.Nodup/\ms≠go/\(∀ a∈as,H a=none/\H' a=some (.dK []))) ?_ #[30]
 exists 16
 ·refine⟨_,rfl,Nd,_,rfl,.inl ⟨hN1,fun o=>?_⟩⟩
  obtain⟨H2,CA⟩:∃ H2,upd H1 Nd (.rB o (.dK (Cg (bQ signs) 0)))=H2:=⟨_,rfl⟩
  have s2:aB H H2:=by rw[<- CA];exact ax s1 hNd
  have Ts:H2 Nd=some (.rB o (.dK (Cg (bQ signs) 0))):=by rw[<- CA,ae]
  have U8:H2 go=some (.lst (#[90].map V.int)):=by rw[<- CA,aj (aQ ahp hN1 #[2])];exact ahp
  rw[CA]
  refine RW (o:=o) (kvs:=Cg (bQ signs) 0) (fun D i ys H'=>aB H2 H'/\∃ as:List QQ,ys=as.map V.ref/\as.length=i/\as.Nodup/\(∀ a∈as,H2 a=none/\H' a=some (.dK []))) (fun D hD=>⟨ak hD _,[],rfl,rfl,Jk,fun a h=>by cases h⟩) (fun D i ys H' _ ⟨e,_⟩=>e _ _ Ts) ?_ ?_
  ·rintro D i p ys H3 Q' hD hi hy ⟨s3,as,rfl,la,nd,ha⟩ k'
   have il:=(iH hi).1
   rw[rS]at il
   refine fun d hd=>?_
   have nDd:D≠d:=aq hy hd
   have nda:d∉as:=fun z=>by rw[(ha d z).2]at hd;cases hd
   refine k' _ _ (by rw[aj nDd];exact hy) (aA #[31]) ⟨ax (ax s3 (s3.free hd)) hD,as++[d],by rw[jF];rfl,by rw[jG,jh,la],?_,fun a h=>?_⟩
   ·exact JQ.mpr ⟨nd,by simp,fun a ha b hb e=>nda (by rw[<- jK.mp hb,<- e];exact ha)⟩
   ·rcases Bn.mp h with z|z
    ·obtain⟨h1,h2⟩:=ha a z
     exact⟨h1,by rw[aj (aQ h2 hy #[2]),aj (fun y:a=d=>nda (y ▸ z))];exact h2⟩
    ·rw[jK.mp z]
     exact⟨s3.free hd,by rw[aj (Ne.symm nDd),ae]⟩
  ·rintro D ys H3 hD hy ⟨s3,as,rfl,la,nd,ha⟩
   rw[rS]at la
   exact dq _ _ ⟨D,as,rfl,s2.trans s3,s3 _ _ U8,s2.free hD,hy,la,nd,Ne.symm (aq U8 hD),fun a h=>⟨s2.free (ha a h).1,(ha a h).2⟩⟩
 rintro σ' H2 ⟨ms,as,rfl,s2,U8,fms,ak3,la,nda,nmg,ha2⟩
 refine cU (t:=sU _ _ _) (fun σ' H'=>∃ (v1 v2:OV),σ'=[some #[89],some (.ref g),some (.ref Nd),some (.ref go),some (.ref ms),v1,v2]/\aB H H'/\H' go=some (.lst (#[90].map V.int))/\H' ms=some #[35]/\∀ (j:Nat) (a:QQ),as[j]?=some a->H' a=some (.dK (dX (dQ #[90] (j:Int))))) ?_ #[30]
 exists 16
 ·refine⟨_,rfl,go,rfl,⟨_,bV U8⟩,F5 (K:=K) (xs:=#[90].map V.int) (fun i σ' H'=>∃ (v1 v2:OV),σ'=[some #[89],some (.ref g),some (.ref Nd),some (.ref go),some (.ref ms),v1,v2]/\aB H H'/\H' go=some (.lst (#[90].map V.int))/\H' ms=some #[35]/\∀ (j:Nat) (a:QQ),as[j]?=some a->H' a=some (.dK (dX (dQ (#[90].take i) (j:Int)))))
   ⟨none,none,rfl,s2,U8,ak3,fun j a h=>(ha2 a (pZ h)).2⟩ (fun i σ' H' _ ⟨_,_,_,_,e,_,_⟩=>bV e) ?_ ?_⟩
  ·rintro i y σ' H3 T hi ⟨v1,v2,rfl,s3,U9,Ic,ha3⟩ hT
   obtain⟨t,rfl,ht⟩:=bZ hi
   have il:=(iH ht).1
   rw[pl]at il
   have et:t=pL signs (i:Int):=by
    have e:=(iH ht).2
    rw[<- e]
    unfold fU
    rw[JW,zO]
   have tv:=aam (gs:=signs) (q:=(i:Int)) #[0] #[0]
   rw[<- et]at tv
   have tl:t.toNat<as.length:=by omega
   have sT:=ak hT (HO.tup [V.int i,V.int t])
   obtain⟨H4,Eb⟩:∃ H4,upd H3 T (HO.tup [V.int i,V.int t])=H4:=⟨_,rfl⟩
   have hT4:H4 T=some (.tup [V.int i,V.int t]):=by rw[<- Eb];exact ae
   rw[Eb]at sT ⊢
   obtain⟨a,ea⟩:∃ a,as[t.toNat]?=some a:=⟨_,jB tl⟩
   have ha4:=sT _ _ (ha3 _ _ ea)
   have tn:((t.toNat:Nat):Int)=t:=jb tv.1
   rw[tn]at ha4
   have lp:(#[90].take i).length=i:=by rw[jQ];omega
   have ah6:(i:Int)∉dQ (#[90].take i) t:=fun z=>by
    have h1:=(rj.mp z).1.2
    rw[lp]at h1
    omega
   have pln:=Mf (#[90].take i) t
   exists T,_,rfl,bS hT4,rfl,_,_,rfl,_,_,rfl,rfl
   refine⟨_,rfl,_,rfl,ms,_,_,_,rfl,rfl,bV (sT _ _ Ic),tu tv.1 ea,_,rfl,a,_,rfl,CQ.k (k:=Sum.inl (i:Int)) ha4 (aA (by unfold dX;rw[bq];omega)),?_⟩
   rw[Dk ah6]
   have fa:H a=none:=(ha2 a (pZ ea)).1
   have Oo:=sT _ _ U9
   have Ls:=sT _ _ Ic
   refine⟨_,_,rfl,ax (s3.trans sT) fa,by rw[aj (aQ Oo ha4 #[2])];exact Oo,by rw[aj (aQ Ls ha4 #[2])];exact Ls,fun j b hb=>?_⟩
   have et2:#[90].take (i+1)=#[90].take i++[t]:=by rw[jS,ht];rfl
   rw[et2,Ck,lp]
   by_cases c:b=a
   ·subst c
    have ej:j=t.toNat:=by
     have e1:=(iH hb)
     have e2:=(iH ea)
     exact(JK nda).mp (e1.2.trans e2.2.symm)
    rw[ae,ej,tn,if_pos rfl]
   ·have nj:t≠(j:Int):=fun z=>by
     have e:t.toNat=j:=by omega
     rw[e,hb]at ea
     exact c (Option.some.inj ea)
    rw[aj c,if_neg nj,jo]
    exact sT _ _ (ha3 j b hb)
  ·rintro σ' H3 ⟨v1,v2,rfl,s3,U9,Ic,ha3⟩
   rw[bq,jU]at ha3
   exact dq _ _ ⟨v1,v2,rfl,s3,U9,Ic,ha3⟩
 rintro σ' H3 ⟨v1,v2,rfl,s3,U9,Ic,ha3⟩
 have fa:∀ a∈as,H a=none:=fun a h=>(ha2 a h).1
 refine⟨_,rfl,_,rfl,x,C,dx,[],rfl,s3 _ _ hx,pc.cl,pc.ng,by decide,?_⟩
 refine⟨_,rfl,_,rfl,x,C,dx,_,rfl,ae,pc.cl,pc.nm,by show(1:Nat)<1000;decide,?_⟩
 rw[RI]
 obtain⟨H4,Eb⟩:∃ H4,upd H3 x (HO.ins C dx (mG "members" (V.ref ms) (mG "group_of" (V.ref go) [])))=H4:=⟨_,rfl⟩
 have k4:∀ b u,b≠x->H b=some u->H4 b=some u:=fun b u n h=>by rw[<- Eb,aj n];exact s3 _ _ h
 have x4:H4 x=some (.ins C dx [("group_of",.ref go),("members",.ref ms)]):=by rw[<- Eb,ae];rfl
 have nxa:∀ b:QQ,H b=none->x≠b:=fun b h=>aq hx h
 have Oo:H4 go=some (.lst (#[90].map V.int)):=by rw[<- Eb,aj (Ne.symm (nxa _ fgo))];exact U9
 have Ls:H4 ms=some #[35]:=by rw[<- Eb,aj (Ne.symm (nxa _ fms))];exact Ic
 have ha4:∀ (j:Nat) (a:QQ),as[j]?=some a->H4 a=some (.dK (dX (dQ #[90] (j:Int)))):=fun j a h=>by
  rw[<- Eb,aj (Ne.symm (nxa _ (fa a (pZ h))))];exact ha3 j a h
 have f4:∀ {b},H4 b=none->H b=none:=fun {b} h=>by
  rcases Decidable.em (b=x)with z|z
  ·subst z;rw[x4]at h;cases h
  ·cases e:H b with
   | none=>rfl
   | some u=>rw[k4 b u z e]at h;cases h
 rw[Eb]
 have lm:(as.map V.ref).length=as.length:=jX _
 refine⟨_,rfl,ms,_,rfl,.inl (bV Ls),(as.map V.ref).length,rfl,small (by rw[lm];omega),fun wt Eg=>?_⟩
 rw[lm]
 have nxw:x≠wt:=aq x4 Eg
 refine⟨_,rfl,x,C,dx,_,rfl,by rw[aj nxw];exact x4,pc.cl,pc.nw,by show(2:Nat)<1000;decide,?_⟩
 obtain⟨H5,eH5⟩:∃ H5,upd (upd H4 wt (HO.lst ((jd as.length).map fun i:Nat=>V.int i))) x (HO.ins C dx (mG "waiting" (V.ref wt) [("group_of",.ref go),("members",.ref ms)]))=H5:=⟨_,rfl⟩
 have k5:∀ b u,b≠x->H4 b=some u->H5 b=some u:=fun b u n h=>by rw[<- eH5,aj n,aj (aq h Eg)];exact h
 have x5:H5 x=some (.ins C dx [("group_of",.ref go),("members",.ref ms),("waiting",.ref wt)]):=by rw[<- eH5,ae];rfl
 have abY:H5 wt=some (.lst (((jd as.length).map fun i:Nat=>(i:Int)).map V.int)):=by rw[<- eH5,aj (Ne.symm nxw),ae,JI];rfl
 have Sd:=k5 _ _ (Ne.symm (nxa _ fgo)) Oo
 have abU:=k5 _ _ (Ne.symm (nxa _ fms)) Ls
 have f5:∀ {b},H5 b=none->H4 b=none:=fun {b} h=>by
  rcases Decidable.em (b=x)with z|z
  ·subst z;rw[x5]at h;cases h
  ·cases e:H4 b with
   | none=>rfl
   | some u=>rw[k5 b u z e]at h;cases h
 rw[eH5]
 obtain⟨ns,ens⟩:∃ ns:LI,((jd as.length).map fun i:Nat=>(i:Int))=ns:=⟨_,rfl⟩
 have lns:ns.length=as.length:=by rw[<- ens,bq,jg]
 have ndn:ns.Nodup:=by
  rw[<- ens]
  refine Js.mpr (List.nodup_range.imp fun {a b} n z=>n ?_)
  have z':(a:Int)=(b:Int):=z
  omega
 refine⟨_,rfl,ms,_,rfl,.inl (bV abU),_,rfl,by rw[lm];omega,by rw[lm];omega,?_⟩
 refine fc (fun D i ys H'=>aB H5 H'/\∃ ts,ys=ts.map V.ref/\lM H' ts (dX (ns.take i))) (fun D hD=>⟨ak hD _,[],rfl,.nil⟩) ?_ ?_
 ·rintro D i ys H' Q' hD hi hy ⟨hs,ts,rfl,pv⟩ k'
  rw[jA,lm]at hi
  have hq:ns[i]?=some (i:Int):=by
   rw[<- ens,jN,ZA hi]
   rfl
  refine⟨_,rfl,#[33],fun T hT=>?_⟩
  rw[JO]
  have sT:=ak hT (HO.tup [V.int i,V.bl true])
  have nD:D≠T:=aq hy hT
  have lts:ts.length=i:=by
   rw[Paired.length pv]
   unfold dX
   rw[bq,jQ]
   omega
  have hyT:(upd H' T (HO.tup [V.int i,V.bl true])) D=some (.lst (ts.map V.ref)):=by rw[aj nD];exact hy
  refine k' _ _ hyT (aA #[31]) ⟨ax (ax hs (hs.free hT)) hD,ts++[T],by rw[jF];rfl,?_⟩
  rw[jS,hq]
  have up:∀ b xs,(upd H' T (HO.tup [V.int i,V.bl true])) b=some #[40]->(upd (upd H' T (HO.tup [V.int i,V.bl true])) D (.lst (ts.map V.ref++[V.ref T]))) b=some #[40]:=fun b xs e=>by
   rw[aj (aQ e hyT #[2])];exact e
  show lM _ _ (dX (ns.take i++[(i:Int)]))
  unfold dX
  rw[jF]
  exact Paired.snoc (lM.same pv fun b xs e=>up b xs (sT _ _ e)) (up _ _ ae)
 rintro L ys H6 fL hL ⟨s6,ts,rfl,pv⟩
 rw[jA,lm,<- lns,jU]at pv
 refine⟨L,ts,_,rfl,hL,pv,fun iw Fp=>?_⟩
 rw[Hi ndn]
 have nxi:x≠iw:=aq (s6 _ _ x5) Fp
 refine⟨_,rfl,x,C,dx,_,rfl,by rw[aj nxi];exact s6 _ _ x5,pc.cl,pc.ni,by show(3:Nat)<1000;decide,?_⟩
 have fiw:H5 iw=none:=s6.free Fp
 have kz:∀ b u,b≠x->H5 b=some u->(upd (upd H6 iw (HO.dK (dX ns))) x (HO.ins C dx (mG "is_waiting" (V.ref iw) [("group_of",.ref go),("members",.ref ms),("waiting",.ref wt)]))) b=some u:=fun b u n h=>by
  rw[aj n,aj (aq h fiw)];exact s6 _ _ h
 have ha5:∀ (j:Nat) (a:QQ),as[j]?=some a->H5 a=some (.dK (dX (dQ #[90] (j:Int)))):=fun j a h=>k5 _ _ (Ne.symm (nxa _ (fa a (pZ h)))) (ha4 j a h)
 refine k _ go ms wt iw as (fun b u n h=>kz _ _ n (k5 _ _ n (k4 _ _ n h))) fgo fms (f4 Eg) (f4 (f5 fiw)) fa ?_
 have nw4:wt≠x:=Ne.symm nxw
 refine⟨⟨dx,by rw[ae];rfl⟩,kz _ _ (Ne.symm (nxa _ fgo)) Sd,kz _ _ (Ne.symm (nxa _ fms)) abU,by rw[ens];rw[ens]at abY;exact kz _ _ nw4 abY,by rw[ens,aj (Ne.symm nxi),ae],pl,fun q hq=>?_,fun j a h=>?_,nda,fun z=>?_,Ne.symm nmg,?_,?_,by rw[ens];exact ndn,fun p hp=>?_⟩
 ·rw[Bu hq.1 hq.2,la]
  exact aam hq.1 hq.2
 ·have jl:=(iH h).1
  refine⟨dQ #[90] (j:Int),kz _ _ (Ne.symm (nxa _ (fa a (pZ h)))) (ha5 j a h),Rc _ _,fun z=>?_,fun q=>?_⟩
  ·obtain⟨q,hq,e⟩:=aan (gs:=signs) (j:=j) #[0]
   have:q∈dQ #[90] (j:Int):=rj.mpr ⟨⟨hq.1,by rw[pl];exact hq.2⟩,by
    have:=Bu hq.1 hq.2
    unfold bE at this
    rw[this,e]⟩
   rw[z]at this
   cases this
  ·rw[rj,pl]
   rfl
 ·obtain⟨j,hj⟩:=JB.mp z
  have:=ha5 j iw hj
  rw[fiw]at this
  cases this
 ·exact aq Oo Eg
 ·exact aq Ls Eg
 ·rw[ens]at hp
  rw[<- ens]at hp
  obtain⟨i,hi,rfl⟩:=jO.mp hp
  have:=jm.mp hi
  omega
end
theorem aax(acc:List #[59])(a k:List Key)(v:V):k∈(putK acc a v).map Prod.fst↔k∈acc.map Prod.fst\/k=a:=by
 unfold putK
 by_cases c:(acc.any fun kv=>decide (kv.fst=a))=true
 ·rw[if_pos c,JI]
  have e:acc.map (Prod.fst ∘ fun kv=>if kv.fst=a then(kv.fst,v)else kv)=acc.map Prod.fst:=zz fun kv _=>by
   show(if kv.fst=a then(kv.fst,v)else kv).fst=kv.fst
   split<;>rfl
  rw[e]
  obtain⟨kv,h1,h2⟩:=zB.mp c
  have h3:a∈acc.map Prod.fst:=jO.mpr ⟨kv,h1,of_decide_eq_true h2⟩
  exact⟨.inl,fun z=>z.elim id fun z=>z ▸ h3⟩
 ·rw[if_neg c,jF,zJ]
  exact or_congr Iff.rfl jK
theorem Ez:∀ (kvs acc:List #[59]) (k:List Key),k∈(mO acc kvs).map Prod.fst↔k∈acc.map Prod.fst\/k∈kvs.map Prod.fst
 | [],acc,k=>⟨.inl,fun z=>z.elim id fun z=>by cases z⟩
 | p :: kvs,acc,k=>by
  show k∈(mO (putK acc p.1 p.2) kvs).map Prod.fst↔_
  rw[Ez kvs,aax,or_assoc]
  exact or_congr Iff.rfl (jY (a:=k) (b:=p.1) (l:=kvs.map Prod.fst)).symm
theorem Q2{x y:LI}(e:x.map (Sum.inl:Int->Key)=y.map Sum.inl):x=y:=by
 have h:=congrArg (List.map fun k:Key=>Sum.elim id (fun _=>(0:Int)) k) e
 rw[JI,JI]at h
 have f:((fun k:Key=>Sum.elim id (fun _=>(0:Int)) k) ∘ (Sum.inl:Int->Key))=id:=rfl
 rw[f,Zs,Zs]at h
 exact h
theorem G9:∀ {bs:List QQ} {kvs:List #[59]},J1 H bs kvs->(∀ k∈kvs.map Prod.fst,∃ c:LI,k=c.map Sum.inl)->∃ cols:LL,aP H bs cols/\kvs.map Prod.fst=cols.map fun c=>c.map Sum.inl
 | [],[],.nil,_=>⟨[],.nil,rfl⟩
 | _,_,.cons (a:=b) (b:=p) (l₁:=bs) (l₂:=kvs) h t,q=>by
  obtain⟨cols,h1,h2⟩:=G9 t fun k hk=>q k (jI _ hk)
  obtain⟨c,e⟩:=q p.1 jD
  refine⟨c :: cols,.cons ?_ h1,by rw[JF,JF,h2,e]⟩
  rw[e,JI]at h
  exact h
theorem Fl{bs:List QQ}(h:J1 H bs (mO [] (FV.map fun c=>(c.map Sum.inl,V.bl true)))):∃ cols:LL,aP H bs cols/\cols.length<=FV.length/\∀ c,c∈cols↔c∈FV:=by
 have mem:∀ k,k∈(mO [] (FV.map fun c=>((c.map Sum.inl:List Key),V.bl true))).map Prod.fst↔∃ c∈FV,k=c.map Sum.inl:=fun k=>by
  rw[Ez,JI]
  constructor
  ·rintro(z|z)
   ·cases z
   ·obtain⟨c,h1,h2⟩:=jO.mp z
    exact⟨c,h1,h2.symm⟩
  ·rintro⟨c,h1,h2⟩
   exact .inr (jO.mpr ⟨c,h1,h2.symm⟩)
 obtain⟨cols,h1,h2⟩:=G9 h fun k hk=>let ⟨c,_,e⟩:=(mem k).mp hk;⟨c,e⟩
 refine⟨cols,h1,?_,fun c=>?_⟩
 ·have e1:=congrArg zG h2
  have e2:=pJ (FV.map fun c=>((c.map Sum.inl:List Key),V.bl true)) []
  rw[bq,bq]at e1
  rw[bq,JR]at e2
  omega
 have m:=mem (c.map Sum.inl)
 rw[h2]at m
 constructor
 ·intro hc
  obtain⟨c',h3,e⟩:=m.mp (jO.mpr ⟨c,hc,rfl⟩)
  rw[Q2 e]
  exact h3
 ·intro hc
  obtain⟨c',h3,e⟩:=jO.mp (m.mpr ⟨c,hc,rfl⟩)
  rw[<- Q2 e]
  exact h3
theorem TN(R:aI many wide rows)(f:Nat)(hq:au many q):oP (rows.map fun r=>r.getD f 0) q=stepI rows q f:=by
 have l:q.toNat<rows.length:=by have:=hq.1;have:=hq.2;rw[R.len];omega
 unfold oP stepI
 rw[getD_at (by rw[bq];exact l),JW,jA,getD_at l]
theorem abz(R:aI many wide rows)(h:∀ c,c∈cols↔c∈AR rows wide):BM many wide rows cols where
 of:=fun c hc=>by
  obtain⟨f,hf,rfl⟩:=jO.mp ((h c).mp hc)
  exact⟨f,jm.mp hf,fun q hq=>TN R f hq⟩
 all:=fun f hf=>⟨_,(h _).mpr (jO.mpr ⟨f,jm.mpr hf,rfl⟩),fun q hq=>TN R f hq⟩
theorem PR(R:aI many wide rows){c:LI}(h:c∈AR rows wide):c.length=many/\∀ t∈c,0<=t/\t<(many:Int):=by
 obtain⟨f,hf,rfl⟩:=jO.mp h
 have fl:=jm.mp hf
 refine⟨by rw[bq,R.len],fun t ht=>?_⟩
 obtain⟨r,hr,rfl⟩:=jO.mp ht
 have lr:=R.row r hr
 rw[getD_at #[0]]
 exact R.val r hr _ (jH _)
theorem Me(l:col.length=many):x∈dQ col q↔au many x/\oP col x=q:=by
 rw[rj,l]
 rfl
theorem HZ(col:LI):∀ {ms:LI},ms.Nodup->(ms.flatMap (dQ col)).Nodup
 | [],_=>Jk
 | m :: ms,h=>by
  have n:=jx.mp h
  rw[zW]
  refine JQ.mpr ⟨Rc col m,HZ col n.2,fun a ha b hb e=>?_⟩
  obtain⟨m',h1,h2⟩:=Jn.mp hb
  have e1:=(rj.mp ha).2
  have e2:=(rj.mp h2).2
  rw[<- e,e1]at e2
  exact n.1 (e2 ▸ h1)
theorem Lo{ms:LI}(l:col.length=many):x∈ms.flatMap (dQ col)↔au many x/\oP col x∈ms:=by
 rw[Jn]
 constructor
 ·rintro⟨m,h1,h2⟩
  have h3:=(Me l).mp h2
  exact⟨h3.1,h3.2 ▸ h1⟩
 ·rintro⟨h1,h2⟩
  exact⟨_,h2,(Me l).mpr ⟨h1,rfl⟩⟩
theorem Aj.mono{cols:List (Int->Int)}{R:Int->Int->Prop}{W W' S:Int->Prop}{k:Nat}(h:Aj many cols sg R grp W S k)(w:∀ g,W g->W' g):Aj many cols sg R grp W' S k:=
 ⟨h.coarse,h.signs,h.whole,fun x y hx hy e j c hj=>by
  rcases h.cong x y hx hy e j c hj with z|z|z|z
  ·exact .inl z
  ·exact .inr (.inl (w _ z))
  ·exact .inr (.inr (.inl (w _ z)))
  ·exact .inr (.inr (.inr z))⟩
theorem iI.symm{signs:LI}(h:iI rows wide signs x y):iI rows wide signs y x:=fun n v h1 h2=>(h n v h1 h2).symm
theorem CV.pop{x ms l:QQ}{IV:LI}{s:Int}(h:CV H C x go ms wt iw many gs ds (IV++[s]))(hl:H l=none):
  CV (upd (upd (upd H wt (.lst (IV.map V.int))) iw (.dK (dX ((IV++[s]).filter fun k=>decide (k≠s))))) l (.lst (mem.map V.int))) C x go ms wt iw many gs ds IV:=by
 have nd:=JQ.mp h.wn
 have ef:(IV++[s]).filter (fun k=>decide (k≠s))=IV:=by
  rw[JY,JE #[21],QA,jo]
  exact Zg.mpr fun k hk=>decide_eq_true fun z=>nd.2.2 k hk s jD z
 rw[ef]
 have nl:∀ c u,H c=some u->c≠l:=fun c u e=>aq e hl
 have kp:∀ c u,c≠wt->c≠iw->H c=some u->(upd (upd (upd H wt (.lst (IV.map V.int))) iw (.dK (dX IV))) l (.lst (mem.map V.int))) c=some u:=fun c u c1 c2 e=>by rw[aj (nl c u e),aj c2,aj c1];exact e
 obtain⟨dx,hx⟩:=h.pt.ob
 have nwi:wt≠iw:=aQ h.wt_ h.iw_ #[2]
 refine⟨⟨dx,kp _ _ (aQ hx h.wt_ #[2]) (aQ hx h.iw_ #[2]) hx⟩,kp _ _ h.n2 (aQ h.go_ h.iw_ #[2]) h.go_,kp _ _ h.n3 (aQ h.ms_ h.iw_ #[2]) h.ms_,by rw[aj (nl _ _ h.wt_),aj nwi,ae],by rw[aj (nl _ _ h.iw_),ae],h.lg,h.val,fun i d hi=>?_,h.dn,h.ndi,h.n1,h.n2,h.n3,nd.1,fun g hg=>h.wv g (jn _ hg)⟩
 obtain⟨m,h1,h2,aee,aku⟩:=h.mem i d hi
 exact⟨m,kp _ _ (aQ h1 h.wt_ #[2]) (fun z=>h.ndi (z ▸ pZ hi)) h1,h2,aee,aku⟩
theorem CV.alone{x ms:QQ}(h:CV H C x go ms wt iw many gs ds ws)(e:ds.length=many):∀ a b,au many a->au many b->bE gs a=bE gs b->a=b:=fun a b ha hb eg=>Classical.byContradiction fun ne=>by
 have la:a.toNat<gs.length:=by have:=ha.1;have:=ha.2;rw[h.lg];omega
 have lb:b.toNat<gs.length:=by have:=hb.1;have:=hb.2;rw[h.lg];omega
 have nab:a.toNat≠b.toNat:=by have:=ha.1;have:=hb.1;omega
 unfold bE at eg
 rw[getD_at la,getD_at lb]at eg
 have t:=lS (xs:=(jd ds.length).map fun i:Nat=>(i:Int)) (ys:=gs.eraseIdx b.toNat) (Js.mpr (List.nodup_range.imp fun {a b} n z=>n (by
  have z':(a:Int)=(b:Int):=z
  omega))) (fun g hg=>by
  obtain⟨i,hi,rfl⟩:=jO.mp hg
  have il:=jm.mp hi
  obtain⟨mem,_,_,nn,iff⟩:=h.mem i _ (jB il)
  obtain⟨q,r,rfl⟩:=ZJ nn
  obtain⟨⟨q0,q1⟩,eq⟩:=(iff q).mp jD
  have lq:q.toNat<gs.length:=by rw[h.lg];omega
  unfold bE at eq
  rw[getD_at lq]at eq
  rw[List.mem_eraseIdx_iff_getElem]
  by_cases c:q.toNat=b.toNat
  ·exists a.toNat,la,nab
   rw[eg,<- eq]
   congr 1
   exact c.symm
  ·exact⟨q.toNat,lq,c,eq⟩)
 rw[bq,jg,List.length_eraseIdx_of_lt lb,h.lg,e]at t
 have:=hb.1
 have:=hb.2
 omega
inductive adF (K:Wl) (vs:List V) (H:Hp) (Q:VK) (E:XK):Prop
 | mk (m r g:QQ) (many wide:Nat) (rows:LL) (signs:LI) (_:vs=[.ref m]) (_:bA H m r g wide rows signs) (_:aI many wide rows) (_:signs.length=many) (_:many<1000) (_:wide<=1000) (_:∀ (go:QQ) (gs:LI) (H':Hp),aB H H'->H go=none->H' go=some (.lst (gs.map V.int))->gs.length=many->(∀ x y,au many x->au many y->(bE gs x=bE gs y↔iI rows wide signs x y))->Q (.ref go) H')
def abo(H:Hp):List QQ->LL->Prop:=Qh fun B col=>∃ H0 es,cY H0 H B es (fun q ls=>ls=dQ col q)
section
theorem bO:aJ ["machine","distinct","backs","parted","splitter","back","leading","here"] ["machine"] (ar dF):=cS #[3]
theorem my:bF ["machine","distinct","backs","parted","splitter","back","leading","here"] (ar dF) ["column"] [none] ⟨.function,[#[62],("column",.local)],false,false,[]⟩:=rV #[3]
theorem mz:bF ["machine","distinct","backs","parted","splitter","back","leading","here"] (ar dF) ["column"] [none] ⟨.function,[#[62],("column",.local),("back_of",.globalImplicit)],false,false,[]⟩:=rV #[3]
theorem aeX(F:br K "unparted_groups" "unparted_groups" dF dV f fd)(pc:J3 K C)(rL:bp P w K mg base "columns_of" 1 ["machine"] [] (aaN K))(BP:bp P w K mg base "back_of" 1 ["column"] [] (Rk K))(BO:PD P w K mg base "Parted" C 1 ["self","signs"] (MF C))(Ag:sX P w K mg base C "is_done" 1 ["self"] (Mz K C))(lJ:sX P w K mg base C "next_splitter" 1 ["self"] (Rt C))(Ah:sX P w K mg base C "part_by" 3 ["self","leading"] (ME C))(mZ:mg "list" = none)(mY:mg "dict" = none):bc P w K mg base eB 4 f fd ["machine"] (adF K):=by
 refine F.ok bO #[6] #[1]
 ·obtain⟨m,r,g,many,wide,rows,signs,rfl,_⟩:=h
  rfl
 obtain⟨m,r,g,many,wide,rows,signs,rfl,M,R,ls,n1,w1,k⟩:=h
 have hu:=pX hr
 have hu2:=aeE hr
 refine⟨_,(ag (az (i:=1) bO.nd (bj (N6 rfl) #[26] mZ Df (aa (bj ((HR rfl hu2)) #[26] mY De (aa (eK rfl my (df (aW rL hr #[72])) (fun _ _ _ _=>(aS (i:=0) my.nd)) (fun _ _ _ _=>(eL (aa #[98] (aa cq af))))) af)) af)))
   (ag (lU (i:=2) rfl bO.nd rfl (Or.inl rfl) mz (df #[92]) (fun _ _ _ _=>(aS (i:=0) mz.nd)) (fun _ _ _ _=>(aW BP hr #[72])))
   (ag (az (i:=3) bO.nd (aai BO hr (aa #[12] af)))
   (ag (iY PassesOwn.never (PW.pt (rX ((Bw (dN (pv 3) rfl) (fun _=>rfl))) (ow (lV (iZ (O5 Ag hr (pv 3))))))) (ag (az (i:=4) bO.nd (O5 lJ hr (pv 3)))
   (ao (bI PassesOwn.never rfl (df (pv 2)) (aS (i:=5) bO.nd) (ag (az (i:=6) bO.nd (bw af))
   (ag (bI PassesOwn.never rfl (df (pv 4)) (aS (i:=7) bO.nd) (ao (bD (fO Wn yO yP OJ (pv 6) (aa (aaf hu (pv 5) (pv 7) (eL af) ⟨rfl,rfl,rfl,rfl⟩) af)))))
   (ao (bD (Hl Ah hr (pv 3) (aa (pv 6) af))))))))))
   (ao (aH (dN (pv 3) rfl))))))),?_⟩
 exists 0
 try dsimp only[aX,bU]
 refine cU (t:=wV _ _) (fun σ' H'=>∃ (dl:QQ) (bs:List QQ) (cols:LL),σ'=[some #[58],some (.ref dl),none,none,none,none,none,none]/\aB H H'/\H' dl=some (.lst (bs.map V.ref))/\aP H' bs cols/\cols.length<=wide/\∀ c,c∈cols↔c∈AR rows wide) ?_ #[30]
 exists 16
 ·refine⟨_,rfl,m,r,g,many,wide,rows,signs,rfl,M,R,⟨by omega,w1⟩,fun l cs H1 s1 Fs A1=>?_⟩
  exists l,rfl,⟨_,bV Fs⟩
  have lc:(AR rows wide).length=wide:=by unfold AR;rw[bq,jg]
  refine lN (K:=K) (xs:=cs.map V.ref) (fun D i ys H'=>aB H1 H'/\∃ ts,ys=ts.map V.ref/\N1 H' ts (((AR rows wide).take i).map fun c=>(c.map Sum.inl,V.bl true))) (fun D hD=>⟨ak hD _,[],rfl,.nil⟩) (fun D i ys H' _ ⟨e,_⟩=>bV (e _ _ Fs)) ?_ ?_
  ·rintro D i y ys H2 Q' hD hi hy ⟨s2,ts,rfl,pv⟩ k'
   have jl:i<(AR rows wide).length:=by
    have:=(iH hi).1
    rw[bq,A1.length]at this
    exact this
   obtain⟨ca,e1,e2⟩:=A1.get jl
   have ey:y=.ref ca:=by rw[jN,e1]at hi;exact(Option.some.inj hi).symm
   subst ey
   refine⟨_,rfl,#[33],fun T hT=>?_⟩
   have sT:=ak hT (HO.tup [V.ref ca,V.bl true])
   have nD:D≠T:=aq hy hT
   have lts:ts.length=i:=by
    rw[Paired.length pv,bq,jQ]
    omega
   have hyT:(upd H2 T (HO.tup [V.ref ca,V.bl true])) D=some (.lst (ts.map V.ref)):=by rw[aj nD];exact hy
   refine k' _ _ hyT (aA #[31]) ⟨ax (ax s2 (s2.free hT)) hD,ts++[T],by rw[jF];rfl,?_⟩
   have up:∀ b xs,(upd H2 T (HO.tup [V.ref ca,V.bl true])) b=some #[40]->(upd (upd H2 T (HO.tup [V.ref ca,V.bl true])) D (.lst (ts.map V.ref++[V.ref T]))) b=some #[40]:=fun b xs e=>by
    rw[aj (aQ e hyT #[2])];exact e
   rw[jS,jB jl,jF]
   refine Paired.snoc (Paired.LP pv fun t p h=>?_) ⟨ca,up _ _ ae,?_⟩
   ·obtain⟨b,h1,h2⟩:=h
    exact⟨b,up _ _ (sT _ _ h1),up _ _ (sT _ _ h2)⟩
   ·rw[JI]
    exact up _ _ (sT _ _ (s2 _ _ e2))
  ·rintro D ys H2 hD hy ⟨s2,ts,rfl,pv⟩
   rw[bq,A1.length,jU]at pv
   refine⟨D,ts,_,rfl,hy,pv,fun dd hdd=>?_⟩
   have s3:=ak hdd (HO.dT (mO [] ((AR rows wide).map fun c=>(c.map Sum.inl,V.bl true))))
   refine⟨dd,_,rfl,ae,fun dl bs hdl kt=>?_⟩
   obtain⟨cols,c1,c3,c2⟩:=Fl kt
   rw[lc]at c3
   have s4:=ak hdl (HO.lst (bs.map V.ref))
   exact dq _ _ ⟨dl,bs,cols,rfl,((s1.trans s2).trans s3).trans s4,ae,c1.same fun b xs e=>s4 _ _ e,c3,c2⟩
 rintro σ' H1 ⟨dl,bs,cols,rfl,s1,ahi,A1,lcw,hc⟩
 have CO:=abz R hc
 refine cU (t:=wV _ _) (fun σ' H'=>∃ (bl:QQ) (Bs:List QQ),σ'=[some #[58],some (.ref dl),some (.ref bl),none,none,none,none,none]/\aB H H'/\H' bl=some (.lst (Bs.map V.ref))/\abo H' Bs cols) ?_ #[30]
 exists 16
 ·exists _,rfl,dl,rfl,⟨_,bV ahi⟩
  refine lN (K:=K) (xs:=bs.map V.ref) (fun D i ys H'=>aB H1 H'/\∃ Bs,ys=Bs.map V.ref/\Qh (fun B col=>∃ H0 es,(∃ u,H0 D=some u)/\cY H0 H' B es (fun q ls=>ls=dQ col q)) Bs (cols.take i)) (fun D hD=>⟨ak hD _,[],rfl,.nil⟩) (fun D i ys H' _ ⟨e,_⟩=>bV (e _ _ ahi)) ?_ ?_
  ·rintro D i y ys H2 Q' hD hi hy ⟨s2,Bs,rfl,pv⟩ k'
   have jl:i<cols.length:=by
    have:=(iH hi).1
    rw[bq,A1.length]at this
    exact this
   obtain⟨ca,e1,e2⟩:=A1.get jl
   have ey:y=.ref ca:=by rw[jN,e1]at hi;exact(Option.some.inj hi).symm
   subst ey
   have ci:=PR R ((hc _).mp (jH jl))
   have lB:Bs.length=i:=by
    rw[Paired.length pv,jQ]
    omega
   refine⟨_,rfl,ca,many,cols[i],rfl,s2 _ _ e2,by omega,by omega,ci.2,fun B es H3 s3 fB bo=>?_⟩
   have hy3:=s3 _ _ hy
   refine k' _ _ hy3 (aA #[31]) ⟨ax (s2.trans s3) hD,Bs++[B],by rw[jF];rfl,?_⟩
   have keep:∀ (H0:Hp) (B':QQ) (MS:List (Int×QQ)) (col:LI),(∃ u,H0 D=some u)->cY H0 H3 B' MS (fun q ls=>ls=dQ col q)->cY H0 (upd H3 D (.lst (Bs.map V.ref++[V.ref B]))) B' MS (fun q ls=>ls=dQ col q):=fun H0 B' MS col hu bo'=>bo'.keep (aj (aQ bo'.at_ hy3 #[2])) fun e he=>aj fun z=>by
    obtain⟨u,hu⟩:=hu
    have:=bo'.fresh e he
    rw[z,hu]at this
    cases this
   rw[jS,jB jl]
   exact Paired.snoc (Paired.LP pv fun B' col h=>let ⟨H0,MS,hu,b⟩:=h;⟨H0,MS,hu,keep H0 B' MS col hu (b.same s3)⟩) ⟨H2,es,⟨_,hy⟩,keep H2 B es cols[i] ⟨_,hy⟩ bo⟩
  ·rintro D ys H2 hD hy ⟨s2,Bs,rfl,pv⟩
   rw[bq,A1.length,jU]at pv
   exact dq _ _ ⟨D,Bs,rfl,s1.trans s2,hy,Paired.LP pv fun B col h=>let ⟨H0,es,_,b⟩:=h;⟨H0,es,b⟩⟩
 rintro σ' Hb ⟨bl,Bs,rfl,sb,hbl,BA⟩
 have lBs:Bs.length=cols.length:=Paired.length BA
 refine⟨_,rfl,m,_,_,_,rfl,rfl,bS (sb _ _ M.tup),rfl,fun x dx hx hdx ne=>?_⟩
 have up:∀ b u,Hb b=some u->(upd (upd Hb dx (HO.own x)) x (HO.ins C dx [])) b=some u:=fun b u h=>by rw[aj (aq h hx),aj (aq h hdx)];exact h
 refine⟨x,dx,g,signs,rfl,ae,up _ _ (sb _ _ M.sgn),by omega,fun H1 go ms wt iw ds0 kk f1 f2 f3 f4 f5 S1=>⟨rfl,?_⟩⟩
 have s1':aB Hb H1:=fun b u h=>kk b u (aq h hx) (up b u h)
 have fr:∀ {b},(upd (upd Hb dx (HO.own x)) x (HO.ins C dx [])) b=none->Hb b=none:=fun {b} h=>by
  cases e:Hb b with
  | none=>rfl
  | some u=>rw[up b u e]at h;cases h
 rw[ls]at S1
 obtain⟨RR,eRR⟩:∃ RR:Int->Int->Prop,(fun x y=>au many x/\au many y/\iI rows wide signs x y)=RR:=⟨_,rfl⟩
 have lk:=CO.ahY (signs:=signs) R
 rw[eRR]at lk
 have room:=CO.room R
 have sym:∀ x y,RR x y->RR y x:=fun x y h=>by rw[<- eRR]at h ⊢;exact⟨h.2.1,h.1,h.2.2.symm⟩
 have fg:=fr f1
 have fms:=fr f2
 have fw:=fr f3
 have fi:=fr f4
 have alb:PH many (cols.map oP) (My.sgn signs) RR (bE #[90]) (fun g=>g∈(jd ds0.length).map fun i:Nat=>(i:Int)):=by
  refine PH.start lk (fun a b ha hb=>?_) (fun a ha=>?_) room
  ·have la:au signs.length a:=by rw[ls];exact ha
   have lb:au signs.length b:=by rw[ls];exact hb
   rw[Bu la.1 la.2,Bu lb.1 lb.2]
   exact aal la lb
  ·have v:=S1.val a ha
   exact jO.mpr ⟨(bE #[90] a).toNat,jm.mpr #[0],jb v.1⟩
 try dsimp only[aX,bU]
 refine cU (t:=mW _ _) (fun σ' H'=>∃ (gs ws:LI) (ds:List QQ) (v4 v5 v6 v7:OV),σ'=[some #[58],some (.ref dl),some (.ref bl),some #[89],v4,v5,v6,v7]/\aB Hb H'/\CV H' C x go ms wt iw many gs ds ws/\∀ a b,au many a->au many b->(bE gs a=bE gs b↔iI rows wide signs a b)) ?_ #[30]
 exists 16
 ·refine oB (fun mm σ' H'=>∃ (gs ws:LI) (ds:List QQ) (v4 v5 v6 v7:OV),mm=2*many+ws.length-2*ds.length/\σ'=[some #[58],some (.ref dl),some (.ref bl),some #[89],v4,v5,v6,v7]/\aB Hb H'/\CV H' C x go ms wt iw many gs ds ws/\(∀ d∈ds,Hb d=none)/\PH many (cols.map oP) (My.sgn signs) RR (bE gs) (fun g=>g∈ws))
   ⟨_,fU signs,_,ds0,none,none,none,none,rfl,rfl,s1',S1,fun d hd=>fr (f5 d hd),alb⟩ ?_
  rintro mm σ' H2 ⟨gs,ws,ds,v4,v5,v6,v7,emm,rfl,s2,S2,fd2,hop⟩
  obtain⟨dx2,hx2⟩:=S2.pt.ob
  have ao6:=S2.AW
  rw[<- eRR]at hop
  by_cases en:ws=[]
  ·subst en
   refine⟨_,rfl,x,C,dx2,_,_,rfl,hx2,pc.cl,pc.nw,rfl,_,.inl ⟨_,bV S2.wt_,rfl⟩,ff (ff ?_)⟩
   exact dq _ _ ⟨gs,[],ds,v4,v5,v6,v7,rfl,s2,S2,fun a b ha hb=>Q0 CO R hop (hop.afo (fun _ _ z=>by cases z) room) ha hb⟩
  exists _,rfl,x,C,dx2,_,_,rfl,hx2,pc.cl,pc.nw,rfl,_,.inl ⟨_,bV S2.wt_,rfl⟩
  have ne':(!(ws.map V.int).isEmpty)=true:=by
   cases ws with
   | nil=>exact absurd rfl en
   | cons a r=>rfl
  rw[ne']
  refine Be ⟨_,rfl,x,dx2,_,rfl,hx2,rfl,x,go,ms,wt,iw,gs,ds,rfl,S2.pt,S2.go_,S2.ms_,_,rfl,sJ #[29] #[29]⟩
  ·refine⟨fun σ' H'=>∃ m',m'<mm/\∃ (gs ws:LI) (ds:List QQ) (v4 v5 v6 v7:OV),m'=2*many+ws.length-2*ds.length/\σ'=[some #[58],some (.ref dl),some (.ref bl),some #[89],v4,v5,v6,v7]/\aB Hb H'/\CV H' C x go ms wt iw many gs ds ws/\(∀ d∈ds,Hb d=none)/\PH many (cols.map oP) (My.sgn signs) RR (bE gs) (fun g=>g∈ws),fun _ _ h=>h,?_⟩
   rw[eRR]at hop
   obtain⟨IV,s,ews⟩:∃ IV s,ws=IV++[s]:=⟨ws.dropLast,ws.getLast en,(ZD en).symm⟩
   subst ews
   have sv:=S2.wv s (jZ _ jD)
   have sl':s.toNat<ds.length:=by omega
   obtain⟨da,sS⟩:∃ da,ds[s.toNat]?=some da:=⟨_,jB sl'⟩
   obtain⟨mem,Ff,ndm,nem,hm⟩:=S2.mem s.toNat da sS
   rw[jb sv.1]at hm
   have akk:mem.length<=many:=cV many ndm fun q hq=>((hm q).mp hq).1
   refine⟨_,rfl,x,dx2,_,rfl,hx2,rfl,x,go,ms,wt,iw,da,s,IV,IV++[s],mem,ds,rfl,S2.pt,S2.wt_,S2.iw_,jZ _ jD,S2.ms_,sv.1,sS,S2.n3,Ff,(fun z=>S2.ndi (z ▸ pZ sS)),by omega,fun sl hsl=>?_⟩
   have S3:=S2.pop (mem:=mem) hsl
   obtain⟨H3,Lh⟩:∃ H3,upd (upd (upd H2 wt (HO.lst (IV.map V.int))) iw (HO.dK (dX ((IV++[s]).filter fun k=>decide (k≠s))))) sl (HO.lst (mem.map V.int))=H3:=⟨_,rfl⟩
   have ne3:∀ c u,Hb c=some u->c≠go/\c≠ms/\c≠wt/\c≠iw:=fun c u e=>⟨fun z=>(by rw[z,fg]at e;cases e),fun z=>(by rw[z,fms]at e;cases e),fun z=>(by rw[z,fw]at e;cases e),fun z=>(by rw[z,fi]at e;cases e)⟩
   have s3:aB Hb H3:=fun c u e=>by
    have n:=ne3 c u e
    rw[<- Lh,aj (aq (s2 _ _ e) hsl),aj n.2.2.2,aj n.2.2.1]
    exact s2 _ _ e
   have alf:H3 sl=some (.lst (mem.map V.int)):=by rw[<- Lh,ae]
   rw[Lh]at S3 ⊢
   have q1:sl≠go:=fun z=>by rw[z,S2.go_]at hsl;cases hsl
   have q2:sl≠ms:=fun z=>by rw[z,S2.ms_]at hsl;cases hsl
   have q3:sl≠wt:=fun z=>by rw[z,S2.wt_]at hsl;cases hsl
   have hs0:Aj many (cols.map oP) (My.sgn signs) RR (bE gs) (fun g=>g∈IV) (fun q=>bE gs q=s) 0:=(hop.pop room s).mono fun g h=>by
    rcases Bn.mp h.1 with z|z
    ·exact z
    ·exact absurd (jK.mp z) h.2
   exists _,rfl,bl,rfl,⟨_,bV (s3 _ _ hbl)⟩
   refine eS (K:=K) (xs:=Bs.map V.ref) (fun k σ' H'=>∃ (wx BI:LI) (ds':List QQ) (v5 v6 v7:OV),σ'=[some #[58],some (.ref dl),some (.ref bl),some #[89],some (.ref sl),v5,v6,v7]/\aB Hb H'/\CV H' C x go ms wt iw many wx ds' BI/\(∀ d∈ds',Hb d=none)/\H' sl=some (.lst (mem.map V.int))/\Aj many (cols.map oP) (My.sgn signs) RR (bE wx) (fun g=>g∈BI) (fun q=>bE gs q=s) k/\(BI.length:Int)-2*(ds'.length:Int)<=(IV.length:Int)-2*(ds.length:Int))
    ⟨gs,IV,ds,_,_,_,rfl,s3,S3,fd2,alf,hs0,zH _⟩ (fun i σ' H' _ ⟨_,_,_,_,_,_,_,e,_,_,_,_,_⟩=>bV (e _ _ hbl)) ?_ ?_
   ·rintro k y σ' H4 hk ⟨wx,BI,ds',v5,v6,v7,rfl,s4,S4,fd4,abW,Di,me4⟩
    have kl:k<cols.length:=by
     have:=(iH hk).1
     rw[bq]at this
     omega
    obtain⟨B,hB,H0,es,bo⟩:=mF BA (jB kl)
    have ey:y=.ref B:=by rw[jN,hB]at hk;exact(Option.some.inj hk).symm
    subst ey
    obtain⟨col,ad8⟩:∃ col,cols[k]=col:=⟨_,rfl⟩
    rw[ad8]at bo
    have hcm:col∈cols:=ad8 ▸ jH kl
    have ci:=PR R ((hc _).mp hcm)
    have hkc:(cols.map oP)[k]?=some (oP col):=by rw[jN,jB kl,ad8];rfl
    have cmm:=pZ hkc
    have lm:∀ {x:Int},x∈mem.flatMap (dQ col)↔au many x/\oP col x∈mem:=fun {x}=>Lo ci.1
    obtain⟨dx4,Sh⟩:=S4.pt.ob
    refine⟨#[13],fun La P6=>?_⟩
    have sLa:=ak P6 #[82]
    try dsimp only[aX,bU]
    refine cU (t:=sU _ _ _) (fun σ' H'=>∃ v7:OV,σ'=[some #[58],some (.ref dl),some (.ref bl),some #[89],some (.ref sl),some (.ref B),some (.ref La),v7]/\aB H4 H'/\H' La=some (.lst ((mem.flatMap (dQ col)).map V.int))) ?_ (fun D'' alZ=>?_)
    exists 16
    ·exists _,rfl,sl,rfl,⟨_,bV (sLa _ _ abW)⟩
     refine eS (K:=K) (xs:=mem.map V.int) (fun i σ' H'=>∃ v7:OV,σ'=[some #[58],some (.ref dl),some (.ref bl),some #[89],some (.ref sl),some (.ref B),some (.ref La),v7]/\aB H4 H'/\H' La=some (.lst (((mem.take i).flatMap (dQ col)).map V.int))) ⟨_,rfl,sLa,ae⟩ (fun i σ' H' _ ⟨_,_,e,_⟩=>bV (e _ _ abW)) ?_ ?_
     ·rintro i y σ' H5 hi ⟨v7,rfl,s5,Om⟩
      obtain⟨q,rfl,hq⟩:=bZ hi
      have b5:=bo.same (s4.trans s5)
      refine⟨_,rfl,.inl ⟨rfl,_,bV Om⟩,_,rfl,B,rfl,.inl ⟨_,.inl b5.at_⟩,_,rfl,#[13],fun t0 ht0=>?_⟩
      have st0:=ak ht0 (HO.tup [])
      have b6:=b5.same st0
      exists _,ik.k (k:=Sum.inl q) b6.at_
      have hL6:=st0 _ _ Om
      have et:(mem.take (i+1)).flatMap (dQ col)=(mem.take i).flatMap (dQ col)++dQ col q:=by
       rw[jS,hq,JL]
       show _++[q].flatMap (dQ col)=_
       rw[zW,ZQ,jo]
      have len:(((mem.take i).flatMap (dQ col)).map V.int).length+((dQ col q).map V.int).length<=sizeLine:=by
       have nd:=HZ col (ms:=mem.take (i+1)) ((Zo _ _).nodup ndm)
       have fw' := cV many nd fun z hz=>((Lo ci.1).mp hz).1
       rw[et,jG]at fw'
       rw[bq,bq]
       exact small #[0]
      cases hv:fq (Cf es) (Sum.inl q)with
      | none =>
       have Ow:q∉es.map Prod.fst:=fun z=>by
        obtain⟨e,he,ee⟩:=jO.mp z
        obtain⟨jj,hjj⟩:=JB.mp he
        have:=Em b6.nd (q:=e.1) (a:=e.2) hjj
        rw[ee,hv]at this
        cases this
       have e0:=b6.non _ Ow
       rw[<- e0]at et
       rw[<- e0]at len
       refine .inr ⟨La,t0,_,[],rfl,rfl,hL6,ae,len,?_⟩
       exact⟨_,rfl,ax (s5.trans st0) P6,by rw[ae,et,jF];rfl⟩
      | some v =>
       obtain⟨la,ls',rfl,hm',V4,hp⟩:=b6.get hv
       rw[<- hp]at et
       rw[<- hp]at len
       refine .inl ⟨La,la,_,_,rfl,rfl,hL6,V4,len,?_⟩
       exact⟨_,rfl,ax (s5.trans st0) P6,by rw[ae,et,jF]⟩
     ·rintro σ' H5 ⟨v7,rfl,s5,Om⟩
      rw[bq,jU]at Om
      exact alZ _ _ ⟨v7,rfl,s5,Om⟩
    rintro σ' H5 ⟨v7,rfl,s5,Om⟩
    have S5:=S4.same s5
    have alG:∀ q,au many q->(q∈mem↔bE gs q=s):=fun q hq=>⟨fun z=>((hm q).mp z).2,fun z=>(hm q).mpr ⟨hq,z⟩⟩
    have inL:∀ a,au many a->(a∈mem.flatMap (dQ col)↔bE gs (oP col a)=s):=fun a ha=>by
     rw[lm,alG _ (room a ha _ cmm)]
     exact⟨fun z=>z.2,fun z=>⟨ha,z⟩⟩
    refine⟨_,rfl,x,dx4,_,rfl,s5 _ _ Sh,rfl,_,rfl,x,go,ms,wt,iw,La,many,wx,BI,mem.flatMap (dQ col),ds',fun gs1 n1 ws1=>Aj many (cols.map oP) (My.sgn signs) RR (bE gs1) (fun g=>g∈ws1) (fun q=>bE gs q=s) k/\(ws1.length:Int)-2*(n1:Int)<=(IV.length:Int)-2*(ds.length:Int),rfl,S5,n1,Om,⟨fun z=>(by rw[z,S4.go_]at P6;cases P6),fun z=>(by rw[z,S4.ms_]at P6;cases P6),fun z=>(by rw[z,S4.wt_]at P6;cases P6)⟩,HZ col ndm,fun q hq=>(lm.mp hq).1,⟨Di,me4⟩,?_,?_⟩
    ·rintro gs1 n1 ws1 gs2 ws2 ⟨h1,h2⟩ val ⟨b,nw,rfl,e1,e2,e3,e4⟩
     refine⟨h1.split sym room (L:=fun a=>a∈mem.flatMap (dQ col)) (b:=b) (n:=(n1:Int)) (fun a c ha U6 r hl=>?_) (fun a ha z=>?_) (fun g hg=>jn _ hg) (fun hb=>?_) ?_ e3 e4,?_⟩
     ·rw[inL a ha]at hl
      rw[inL c U6]
      exact h1.whole _ _ (room a ha _ cmm) (room c U6 _ cmm) (lk.led a c r _ cmm) hl
     ·have:=val a ha
      omega
     ·rw[<- e2 hb]
      exact jZ _ jD
     ·rcases e1 with e1|e1
      ·exact .inl (by rw[<- e1];exact jZ _ jD)
      ·exact .inr (by rw[<- e1];exact jZ _ jD)
     ·rw[jG,jh]
      omega
    ·intro H6 gs6 ws6 more S6 j6 nc fm kp
     have s6:aB Hb H6:=fun c u e=>by
      have n:=ne3 c u e
      exact kp c u n.1 n.2.1 n.2.2.1 n.2.2.2 (fun z=>by rw[fd4 c z]at e;cases e) (s5 _ _ (s4 _ _ e))
     have aeB:=s5 _ _ abW
     refine⟨gs6,ws6,ds'++more,_,_,_,rfl,s6,S6,fun d hd=>?_,kp sl _ q1 q2 q3 (aQ aeB S5.iw_ #[2]) (fun z=>?_) aeB,j6.1.next hkc fun a c ha U6 e h=>?_,j6.2⟩
     ·rcases Bn.mp hd with z|z
      ·exact fd4 d z
      ·have:=fm d z
       cases e:Hb d with
       | none=>rfl
       | some u=>rw[s5 _ _ (s4 _ _ e)]at this;cases this
     ·obtain⟨mm',hmm⟩:=S5.at_ z
      rw[aeB]at hmm
      cases hmm
     ·exact(inL c U6).mp (nc a c ha U6 e ((inL a ha).mpr h))
   ·rintro σ' H4 ⟨wx,BI,ds',v5,v6,v7,rfl,s4,S4,fd4,abW,Di,me4⟩
    have ao7:=S4.AW
    rw[bq,lBs]at Di
    have lcm:cols.length=(cols.map oP).length:=(jX _).symm
    rw[lcm]at Di
    refine⟨_,?_,wx,BI,ds',_,_,_,_,rfl,rfl,s4,S4,fd4,Di.done⟩
    rw[emm,jG,jh]
    omega
  ·refine dq _ _ ⟨gs,ws,ds,v4,v5,v6,v7,rfl,s2,S2,fun a b ha hb=>Q0 CO R hop (PH.single (S2.alone (by rw[c,S2.lg]))) ha hb⟩
 rintro σ' H2 ⟨gs,ws,ds,v4,v5,v6,v7,rfl,s2,S2,fin⟩
 obtain⟨dx2,hx2⟩:=S2.pt.ob
 exact⟨_,rfl,x,C,dx2,_,_,rfl,hx2,pc.cl,pc.ng,rfl,k go gs H2 (sb.trans s2) (sb.free fg) S2.go_ S2.lg fin⟩
end
def RB(K:Wl):Sp:=fun vs H Q E=>Dy K agx vs H Q E\/Dy K agy vs H Q E
theorem En(xs:LI)(g:Int):Cg (xs++[g]) 0=Cg xs 0++[(Sum.inl g,V.int (xs.length:Int))]:=by
 unfold Cg
 rw[ZH,jF,Jc]
 rfl
theorem Hh(nd:qs.Nodup):∀ i,fh [] (Cg (qs.take i) 0)=Cg (qs.take i) 0
 | 0=>by rw[ZF];rfl
 | i+1=>by
  have ih:=Hh nd i
  cases e:qs[i]? with
  | none =>
   rw[jS,e]
   show fh [] (Cg (qs.take i++[]) 0)=Cg (qs.take i++[]) 0
   rw[jo]
   exact ih
  | some g =>
   have et:qs.take (i+1)=qs.take i++[g]:=by rw[jS,e];rfl
   have il:=iH e
   have hg:g∉qs.take i:=fun z=>by
    obtain⟨j,hj,ej⟩:=ji z
    rw[jQ]at hj
    rw[zU]at ej
    have:=(JK nd).mp (ej.trans il.2.symm)
    omega
   rw[et]
   show fh [] (Cg (qs.take i++[g]) 0)=_
   have m:fh [] (Cg (qs.take i) 0++[(Sum.inl g,V.int ((qs.take i).length:Int))])=putK (fh [] (Cg (qs.take i) 0)) (Sum.inl g) (V.int ((qs.take i).length:Int)):=by
    unfold fh
    rw[JC]
    rfl
   rw[En,m,ih,Ih hg,En]
theorem CB(φ:Int->Int)(n:Nat):cB φ (n+1)=cB φ n++(if φ (n:Int)=(bh φ n:Int)then [n]else []):=by
 unfold cB
 rw[js,JY]
 congr 1
 by_cases c:φ (n:Int)=(bh φ n:Int)
 ·rw[if_pos c,JM (by exact decide_eq_true c)];rfl
 ·rw[if_neg c,JE (by rw[decide_eq_false c];decide)];rfl
theorem R6{q:Nat}(h:q∈cB φ n):q<n:=jm.mp (jy.mp h).1
theorem BC(R:aI many wide rows){t:Int}(h0:0<=q)(h1:q<(many:Int))(ht:t∈rows.getD q.toNat []):∃ f:Nat,f<wide/\t=stepI rows q f:=by
 have l:q.toNat<rows.length:=by rw[R.len];omega
 rw[getD_at l]at ht
 obtain⟨f,hf,e⟩:=ji ht
 have lr:=R.row _ (jH l)
 refine⟨f,by omega,?_⟩
 unfold stepI
 rw[getD_at l,jA,getD_at hf,e]
inductive Dx (K:Wl) (vs:List V) (H:Hp) (Q:VK) (E:XK):Prop
 | mk (m r g:QQ) (many wide:Nat) (rows:LL) (signs:LI) (_:vs=[.ref m]) (_:bA H m r g wide rows signs) (_:aI many wide rows) (_:signs.length=many) (_:(1<=many/\many<1000)) (_:wide<=1000) (_:∀ (m' r' g':QQ) (aw:LL) (aK:LI) (H':Hp),aB H H'->bA H' m' r' g' wide aw aK->cu wide rows aw signs aK->Q (.ref m') H')
section
theorem Z7(F:br K "with_rooms" "with_rooms" eR dV f fd)(aV:mg "tuple" = none):bc P w K mg base eB 1 f fd ["machine","kept","numbers"] (RB K):=bc.or (SJ F aV) (SK F aV)
theorem mH:aJ ["machine","reached","small","numbers","firsts","groups","here","group"] ["machine"] (ar BD):=cS #[3]
theorem Am:bF ["machine","reached","small","numbers","firsts","groups","here","group"] (ar BD) ["number","here"] [none,none] ⟨.function,[#[62],("number",.local),("here",.local)],false,false,[]⟩:=rV #[3]
theorem DR:bF ["machine","reached","small","numbers","firsts","groups","here","group"] (ar BD) ["group","numbers"] [none,some 3] ⟨.function,[#[62],("group",.local),("numbers",.free)],false,false,[]⟩:=rV #[3]
theorem Y3(F:br K "least" "least" BD dV f fd)(iM:bp P w K mg base "reached_rooms" 1 ["machine","start"] [.int 0] (Hs K))(oh:bp P w K mg base "with_rooms" 1 ["machine","kept","numbers"] [] (RB K))(iO:bp P w K mg base "unparted_groups" 4 ["machine"] [] (adF K))(dm:mg "enumerate" = none)(mY:mg "dict" = none)(aZ:mg "len" = none):bc P w K mg base eB 5 f fd ["machine"] (Dx K):=by
 refine F.ok mH #[6] #[1]
 ·obtain⟨m,r,g,many,wide,rows,signs,rfl,_⟩:=h
  rfl
 obtain⟨m,r,g,many,wide,rows,signs,rfl,M,R,ls,⟨n0,n1⟩,w1,k⟩:=h
 have hu:=pX hr
 refine B1 (aU (mK.mk (az (i:=1) mH.nd (aW iM hr #[72])))
   (aU (mK.mk (az (i:=2) mH.nd (aW oh hr (aa #[98] (aa #[92] (aa (bj (tw rfl) #[26] mY De (aa (eK rfl Am (EI rfl dm #[44]) (fun _ _ _ _=>(acE K (n:=2) rfl (bx (aS (i:=0) Am.nd) (bx (aS (i:=1) Am.nd) iX)))) (fun _ _ _ _=>(eL (aa #[92] #[72])))) af)) af))))))
   (aU (mK.mk (az (i:=3) mH.nd tQ))
   (aU (mK.mk (az (i:=4) mH.nd (bw af)))
   (aU (mK.mk (az (i:=5) mH.nd (aW iO hr #[57])))
   (aU (mK.mk (bI PassesOwn.never rfl (EI rfl dm #[102]) (pK rfl (bx (aS (i:=6) mH.nd) (bx (aS (i:=7) mH.nd) iX))) (ao (bK (Iz (Ci hu (pv 7) (pv 3)) #[71]) (ag (wC hu (pv 3) (pv 7) (ay wm #[26] aZ ck #[79]) rfl)
   (ao (bD (fO Wn Wq Wr bJ (pv 4) (aa (pv 6) af))))) aR))))
   (sx (mK.mk (aH (aW oh hr (aa (pv 2) (aa (pv 4) (aa (eK rfl DR (df (pv 5)) (fun _ _ _ _=>(aS (i:=0) DR.nd)) (fun _ _ _ _=>(Dq hu #[92] #[98] #[4]))) af))))))))))))) ?_
 exists 0
 refine⟨_,rfl,m,r,g,many,wide,rows,signs,rfl,M,R,⟨n0,by omega⟩,fun l H1 qs s1 Fs bf=>?_⟩
 have AW:=cV many bf.nd bf.inr
 have reF:∀ q∈qs,∃ row,mi wide row/\aY rows row 0=q:=fun q hq=>(bf.re q).mp hq
 obtain⟨R1,O1,p1,t1⟩:=Mv (signs:=signs) R #[0] bf.eq bf.nd (fun q hq=>bf.inr q hq) reF
 try dsimp only[aX,bU]
 refine cU (t:=wV _ _) (fun σ' H'=>∃ m1 r1 g1:QQ,σ'=[some #[58],some (.ref l),some (.ref m1),none,none,none,none,none]/\aB H H'/\bA H' m1 r1 g1 wide (cG rows (oY qs) qs) (cI signs qs)) ?_ #[30]
 exists 16
 ·exists _,rfl,_,rfl,_,rfl,l,rfl,⟨_,bV Fs⟩
  refine Ob (K:=K) (xs:=qs.map V.int) (fun D i ys H'=>aB H1 H'/\∃ ts,ys=ts.map V.ref/\lM H' ts (Cg (qs.take i) 0)) (fun T σ H Q i x h q=>⟨T,[.int i,x],rfl,bS h,rfl,.int i,[x],rfl,x,[],rfl,rfl,q⟩) (fun D hD=>⟨ak hD _,[],rfl,.nil⟩) (fun D i ys H' _ ⟨e,_⟩=>bV (e _ _ Fs)) ?_ ?_
  ·rintro D i y ys H2 T0 Q' hD hi hy ⟨s2,ts,rfl,pv⟩ hT0 k'
   obtain⟨q,rfl,hq⟩:=bZ hi
   have il:=(iH hq).1
   have sT0:=ak hT0 (HO.tup [V.int i,V.int q])
   refine⟨_,rfl,_,rfl,#[33],fun T hT=>?_⟩
   have sT:=ak hT (HO.tup [V.int q,V.int i])
   obtain⟨H3,Lh⟩:∃ H3,upd (upd H2 T0 (HO.tup [V.int i,V.int q])) T (HO.tup [V.int q,V.int i])=H3:=⟨_,rfl⟩
   have hT3:H3 T=some (.tup [V.int q,V.int i]):=by rw[<- Lh,ae]
   rw[Lh]at sT ⊢
   have s3:=sT0.trans sT
   have hy3:=s3 _ _ hy
   have lts:ts.length=i:=by
    rw[Paired.length pv,rS,jQ]
    omega
   refine k' _ _ hy3 (aA #[31]) ⟨ax (s2.trans s3) hD,ts++[T],by rw[jF];rfl,?_⟩
   have up:∀ b xs,H3 b=some #[40]->(upd H3 D (.lst (ts.map V.ref++[V.ref T]))) b=some #[40]:=fun b xs e=>by
    rw[aj (aQ e hy3 #[2])];exact e
   have et:qs.take (i+1)=qs.take i++[q]:=by rw[jS,hq];rfl
   have ll:(qs.take i).length=i:=by rw[jQ];omega
   rw[et,En,ll]
   exact Paired.snoc (lM.same pv fun b xs e=>up b xs (s3 _ _ e)) (up _ _ hT3)
  ·rintro L ys H2 fL hL ⟨s2,ts,rfl,pv⟩
   rw[bq,jU]at pv
   refine⟨L,ts,_,rfl,hL,pv,fun D hD=>?_⟩
   have mk:=Hh bf.nd qs.length
   rw[jU]at mk
   rw[mk]
   have s3:=s2.trans (ak hD (HO.dK (Cg qs 0)))
   refine .inl ⟨m,l,D,r,g,many,wide,rows,signs,qs,oY qs,rfl,M.same fun b xs e=>s3 _ _ (s1 _ _ e),R,ls,⟨by omega,w1⟩,s3 _ _ Fs,by omega,bf.inr,⟨_,ae,fun q hq t ht=>?_⟩,fun m1 r1 g1 H3 s4 M3=>?_⟩
   ·have qi:=bf.inr q hq
    obtain⟨f,hf,e⟩:=BC R qi.1 qi.2 ht
    have tq:t∈qs:=(bf.re t).mpr (by rw[e];exact((bf.re q).mp hq).step #[0] #[0])
    rw[wz,if_pos tq,Jc]
    rfl
   ·exact dq _ _ ⟨m1,r1,g1,rfl,(s1.trans s3).trans s4,M3⟩
 rintro σ' H2 ⟨m1,r1,g1,rfl,s2,M2⟩
 refine fun Nn hNn=>⟨#[13],fun Fa hFa=>?_⟩
 obtain⟨H3,Lh⟩:∃ H3,upd (upd H2 Nn (HO.dK [])) Fa #[82]=H3:=⟨_,rfl⟩
 have s3:aB H2 H3:=by rw[<- Lh];exact(ak hNn _).trans (ak hFa _)
 have nNF:Nn≠Fa:=aq ae hFa
 have P7:H3 Nn=some (.dK []):=by rw[<- Lh,aj nNF,ae]
 have Tr:H3 Fa=some (.lst []):=by rw[<- Lh,ae]
 have fN:H Nn=none:=s2.free hNn
 have fF:H Fa=none:=s2.free ((ak hNn (HO.dK [])).free hFa)
 rw[Lh]
 have lsg:(cI signs qs).length=qs.length:=by unfold cI;rw[bq]
 have R1':aI qs.length wide (cG rows (oY qs) qs):=R1
 refine⟨_,rfl,m1,r1,g1,qs.length,wide,_,_,rfl,M2.same fun b xs e=>s3 _ _ e,R1',lsg,by omega,w1,fun go gs H4 s4 fgo Lr lg hg=>?_⟩
 have sH4:aB H2 H4:=s3.trans s4
 have M4:=M2.same fun b xs e=>sH4 _ _ e
 try dsimp only[aX,bU]
 refine cU (t:=sU _ _ _) (fun σ' H'=>∃ v6 v7:OV,σ'=[some #[58],some (.ref l),some (.ref m1),some (.ref Nn),some (.ref Fa),some (.ref go),v6,v7]/\(∀ c u,c≠Nn->c≠Fa->H4 c=some u->H' c=some u)/\H' Nn=some (.dK (Cg (bQ gs) 0))/\H' Fa=some (.lst (((cB (pL gs) gs.length).map fun i:Nat=>(i:Int)).map V.int))) ?_ #[30]
 exists 16
 ·have ngN:go≠Nn:=aQ Lr (s4 _ _ P7) #[2]
  have ngF:go≠Fa:=fun z=>by rw[z,Tr]at fgo;cases fgo
  refine⟨_,rfl,go,rfl,⟨_,bV Lr⟩,F5 (K:=K) (xs:=gs.map V.int) (fun i σ' H'=>∃ v6 v7:OV,σ'=[some #[58],some (.ref l),some (.ref m1),some (.ref Nn),some (.ref Fa),some (.ref go),v6,v7]/\(∀ c u,c≠Nn->c≠Fa->H4 c=some u->H' c=some u)/\H' Nn=some (.dK (Cg (bQ (gs.take i)) 0))/\H' Fa=some (.lst (((cB (pL gs) i).map fun i:Nat=>(i:Int)).map V.int)))
   ⟨none,none,rfl,fun _ _ _ _ e=>e,s4 _ _ P7,s4 _ _ Tr⟩ (fun i σ' H' _ ⟨_,_,_,e,_,_⟩=>bV (e _ _ ngN ngF Lr)) ?_ ?_⟩
  ·rintro i y σ' H5 T hi ⟨v6,v7,rfl,Sn,hN5,T9⟩ hT
   obtain⟨gg,rfl,hgg⟩:=bZ hi
   have il:=(iH hgg).1
   have sT:=ak hT (HO.tup [V.int i,V.int gg])
   obtain⟨H6,eH6⟩:∃ H6,upd H5 T (HO.tup [V.int i,V.int gg])=H6:=⟨_,rfl⟩
   have hT6:H6 T=some (.tup [V.int i,V.int gg]):=by rw[<- eH6];exact ae
   rw[eH6]at sT ⊢
   have hN6:=sT _ _ hN5
   have hF6:=sT _ _ T9
   have ol:=Bq (gs.take i)
   rw[jQ]at ol
   have cp:=HV gs (m:=i) #[0]
   have fl:=oQ (pL gs) i
   exists T,_,rfl,bS hT6,rfl,_,_,rfl,_,_,rfl,rfl
   exists _,rfl,_,rfl,Nn,_,rfl,ik.k (k:=Sum.inl gg) hN6,_,rfl
   rw[wz]
   by_cases c:gg∈bQ (gs.take i)
   ·rw[if_pos c]
    refine ff ⟨_,_,rfl,fun c' u c1 c2 e=>sT _ _ (Sn c' u c1 c2 e),by rw[hN6,oH hgg,pR c],?_⟩
    have ph:=Ds hgg c
    have lt:=jq c
    rw[hF6,CB,if_neg (by rw[ph,cp];omega),jo]
   ·rw[if_neg c]
    refine Be ⟨_,rfl,Nn,_,rfl,hN6,_,rfl,_,rfl,Nn,_,rfl,CQ.k (k:=Sum.inl gg) hN6 (aA (by rw[rS];omega)),?_⟩
    rw[rS,Ih c]
    have nFN:Fa≠Nn:=Ne.symm nNF
    have ph:=Dr hgg c
    refine⟨_,rfl,.inl ⟨rfl,_,bV (by rw[aj nFN];exact hF6)⟩,_,rfl,Fa,_,_,rfl,rfl,(by rw[aj nFN];exact hF6),aA (by rw[bq,bq,fl,cp];omega),?_⟩
    refine⟨_,_,rfl,fun c' u c1 c2 e=>by rw[aj c2,aj c1];exact sT _ _ (Sn c' u c1 c2 e),by rw[aj nNF,ae,oH hgg,lQ c],?_⟩
    rw[ae,CB,if_pos (by rw[ph,cp]),jF,jF]
    rfl
  ·rintro σ' H5 ⟨v6,v7,rfl,Sn,hN5,T9⟩
   rw[bq,jU]at hN5
   rw[bq]at T9
   exact dq _ _ ⟨v6,v7,rfl,Sn,hN5,T9⟩
 rintro σ' H5 ⟨v6,v7,rfl,Sn,hN5,T9⟩
 have s5:aB H H5:=fun c u e=>Sn c u (fun z=>by rw[z,fN]at e;cases e) (fun z=>by rw[z,fF]at e;cases e) (sH4 _ _ (s2 _ _ e))
 have M5:bA H5 m1 r1 g1 wide (cG rows (oY qs) qs) (cI signs qs):=M4.same fun b xs e=>Sn b _ (aQ e (s4 _ _ P7) #[2]) (aQ e (s4 _ _ Tr) #[2]) e
 have Sd:H5 go=some (.lst (gs.map V.int)):=Sn _ _ (aQ Lr (s4 _ _ P7) #[2]) (fun z=>by rw[z,Tr]at fgo;cases fgo) Lr
 have plg:(fU gs).length=gs.length:=by unfold fU;rw[bq,jg]
 exists _,rfl,_,rfl,_,rfl,go,rfl,⟨_,bV Sd⟩
 refine lN (K:=K) (xs:=gs.map V.int) (fun D i ys H'=>aB H5 H'/\ys=((fU gs).take i).map V.int) #[48] (fun D i ys H' _ ⟨e,_⟩=>bV (e _ _ Sd)) ?_ ?_
 ·rintro D i y ys H6 Q' hD hi hy ⟨s6,rfl⟩ k'
  obtain⟨gg,rfl,hgg⟩:=bZ hi
  have il:=(iH hgg).1
  have om:gg∈bQ gs:=Br.mpr (pZ hgg)
  have ph:pL gs (i:Int)=(((bQ gs).idxOf gg:Nat):Int):=by
   unfold pL
   rw[jA,jM,hgg]
   rfl
  have dg:ik H6 Nn (.int gg) (some (.int (pL gs (i:Int)))):=by
   have d:=ik.k (k:=Sum.inl gg) (s6 _ _ hN5)
   rw[wz,if_pos om,Jc,<- ph]at d
   exact d
  have hp:(fU gs)[i]?=some (pL gs (i:Int)):=by
   unfold fU
   rw[jN,ZA il]
   rfl
  refine⟨_,rfl,_,rfl,Nn,_,rfl,dg,k' _ _ hy (aA (by rw[bq,jQ];omega)) ⟨ax s6 hD,?_⟩⟩
  rw[jS,hp,jF]
  rfl
 ·rintro L ys H6 fL hL ⟨s6,rfl⟩
  rw[bq,<- plg,jU]at hL
  have fi:∀ q∈(cB (pL gs) gs.length).map (fun i:Nat=>(i:Int)),0<=q/\q<(qs.length:Int):=fun q hq=>by
   obtain⟨i,hi,rfl⟩:=jO.mp hq
   have:=R6 hi
   omega
  have akn:((cB (pL gs) gs.length).map fun i:Nat=>(i:Int)).length<=1000:=by
   rw[bq]
   have:=Jv (fun q:Nat=>decide (pL gs (q:Int)=(bh (pL gs) q:Int))) (jd gs.length)
   rw[jg]at this
   unfold cB
   omega
  refine .inr ⟨m1,Fa,L,r1,g1,qs.length,wide,_,_,_,pL gs,rfl,M5.same fun b xs e=>s6 _ _ e,R1',lsg,⟨by omega,w1⟩,s6 _ _ T9,akn,fi,⟨fU gs,hL,fun q hq t ht=>?_⟩,fun m' r' g' H7 s7 M7=>?_⟩
  ·have qi:=fi q hq
   obtain⟨f,hf,e⟩:=BC R1' qi.1 qi.2 ht
   have tv:=cA R1' qi.1 qi.2 (f:=(f:Int)) #[0] #[0]
   rw[<- e]at tv
   have tv1:t<(gs.length:Int):=by rw[lg];exact tv.2
   refine⟨⟨tv.1,by rw[plg];exact tv1⟩,?_⟩
   have:=Bu (gs:=gs) tv.1 tv1
   unfold bE at this
   exact this.symm
  ·refine k m' r' g' _ _ H7 ((s5.trans s6).trans s7) M7 ?_
   have L:=LJ (signs:=signs) (gs:=gs) R #[0] bf.eq bf.nd (fun q hq=>bf.inr q hq) reF lg (fun x y hx hy=>by
    have h:=hg (x:Int) (y:Int) ⟨by omega,by omega⟩ ⟨by omega,by omega⟩
    unfold bE at h
    rw[jA,jA]at h
    exact h)
   have el:#[11].length=gs.length:=by rw[bq,lg]
   rw[Bz,el,<- lg]at L
   have e1:cG (cG rows (oY qs) qs) (pL gs) ((cB (pL gs) gs.length).map fun i:Nat=>(i:Int))=(cB (pL gs) gs.length).map fun i=>(#[11].getD i []).map (pL gs):=by
    unfold cG
    rw[JI]
    rfl
   have e2:cI (cI signs qs) ((cB (pL gs) gs.length).map fun i:Nat=>(i:Int))=(cB (pL gs) gs.length).map fun q=>(qs.map fun q=>signs.getD q.toNat 0).getD q 0:=by
    unfold cI
    rw[JI]
    rfl
   rw[e1,e2]
   exact L
end
def cx(b:Int):LI->Int
 | []=>0
 | p :: r=>p+b*cx b r
def pq(m:Int):LI->LI
 | []=>[]
 | p :: r=>p%m :: p / m :: pq m r
def CU(b:Int)(ps:LI):Prop := ∀ p∈ps,0<=p/\p<b
theorem CU.nil:CU b []:=fun p h=>by cases h
theorem CU.cons{b p:Int}{r:LI}(h0:0<=p)(h1:p<b)(h:CU b r):CU b (p :: r):=fun x hx=>by
 rcases jY.mp hx with z|z
 ·rw[z];exact⟨h0,h1⟩
 ·exact h x z
theorem CU.tail{p:Int}(h:CU b (p :: r)):CU b r:=fun x hx=>h x (jI _ hx)
theorem Cb(m:Int):∀ ps:LI,(pq m ps).length=2*ps.length
 | []=>rfl
 | p :: r=>by simp only[pq,jT,Cb m r];omega
theorem Lp{m:Int}(hm:0<m):∀ {ps:LI},CU (m*m) ps->CU m (pq m ps)
 | [],_=>CU.nil
 | p :: r,h=>by
  have hp:=h p jD
  have d0:0<=p / m:=Int.ediv_nonneg hp.1 (Jm hm)
  have d1:p / m<m:=Int.ediv_lt_of_lt_mul hm hp.2
  exact CU.cons (ZU p #[0]) (ZG p hm) (CU.cons d0 d1 (Lp hm h.tail))
theorem F8(m:Int):∀ ps:LI,cx m (pq m ps)=cx (m*m) ps
 | []=>rfl
 | p :: r=>by
  have e:=Int.emod_add_mul_ediv p m
  simp only[pq,cx,F8 m r]
  rw[Zt,<- QE,e,QF]
theorem Bb(m:Int):∀ (ps:LI) (x:Int),pq m (ps++[x])=pq m ps++[x%m,x / m]
 | [],x=>rfl
 | p :: r,x=>by simp only[zZ,pq,Bb m r x]
theorem mI(hb:0<=b):∀ {ps:LI},CU b ps->0<=cx b ps
 | [],_=>zH 0
 | p :: r,h=>Int.add_nonneg (h p jD).1 (ZE hb (mI hb h.tail))
theorem wc(b:Int):∀ (ps qs:LI),cx b (ps++qs)=cx b ps+b^ps.length*cx b qs
 | [],qs=>by simp[cx]
 | p :: r,qs=>by
  simp only[zZ,cx,wc b r qs,jT]
  rw[Zt,QJ,QE,<- QF,zP b (b^r.length)]
theorem wL(b:Int)(ps:LI)(x:Int):cx b (ps++[x])=cx b ps+x*b^ps.length:=by
 rw[wc]
 simp[cx,zP]
def pw(w:Int):Nat->Int
 | 0=>w
 | i+1=>pw w i*pw w i
theorem IA{w:Int}(h:2<=w):∀ i,2<=pw w i
 | 0=>h
 | i+1=>by
  have q:=IA h i
  have:=Jl q q #[7] #[0]
  show 2<=pw w i*pw w i
  omega
theorem adz{w:Int}(h:2<=w)(i:Nat):pw w i<pw w (i+1):=by
 have q:=IA h i
 have:=Jl q (zH (pw w i)) #[0] #[0]
 show pw w i<pw w i*pw w i
 omega
theorem ady{w:Int}(h:2<=w):∀ i:Nat,(2:Int)^(2^i)<=pw w i
 | 0=>by simpa[pw]using h
 | i+1=>by
  have q:=ady h i
  have e:(2:Int)^(2^(i+1))=2^(2^i)*2^(2^i):=by
   rw[JJ,Nat.mul_two,Int.pow_add]
  rw[e]
  have p0:(0:Int)<=2^(2^i):=Jm (Int.pow_pos #[7])
  exact Jl q q p0 (zu p0 q)
def NB:Int:=2^1100
theorem MZ:NB*NB<RL:=by decide +kernel
theorem TB:2<NB:=by decide +kernel
theorem aay{w n:Int}{t:Nat}(h:2<=w)(hp:pw w t<=n)(hn:n<NB):2^t<1100:=by
 have q:=ady h t
 have q2:(2:Int)^(2^t)<2^1100:=zQ (zu q hp) hn
 have q3:(2:Nat)^(2^t)<2^1100:=by exact_mod_cast q2
 exact(Nat.pow_lt_pow_iff_right #[7]).mp q3
def pws(w:Int)(t:Nat):LI:=(jd t).map (pw w)
theorem aaA(w:Int)(t:Nat):pws w (t+1)=pws w t++[pw w t]:=by
 unfold pws
 rw[js,jF]
 rfl
theorem Du(w:Int)(t:Nat):(pws w t).length=t:=by simp[pws]
theorem acH{w:Int}{t:Nat}(h:i<t):(pws w t)[i]?=some (pw w i):=by simp[pws,h]
structure DD(w n:Int)(ds:LI):Prop where
 inb:CU w ds
 val:cx w ds=n
 top:∀ d,ds.getLast?=some d->d≠0
theorem Er(ds:LI):ds=[]\/∃ r x,ds=r++[x]:=by
 rcases List.eq_nil_or_concat ds with h|⟨r,x,h⟩
 ·exact .inl h
 ·exact .inr ⟨r,x,by simpa using h⟩
inductive RA (vs:List V) (H:Hp) (Q:VK) (E:XK):Prop
 | mk (z:Int) (_:vs=[.int z]) (_:Q (.bl true) H)
inductive aaO (vs:List V) (H:Hp) (Q:VK) (E:XK):Prop
 | mk (z y:Int) (_:vs=[.int z,.int y]) (_:Q (.bl (decide (y<=z))) H)
inductive aaQ (vs:List V) (H:Hp) (Q:VK) (E:XK):Prop
 | mk (z y:Int) (x:Qm) (_:vs=[.int z,.int y,.str x]) (_:y<=z) (_:Q .non H)
inductive Mx (K:Wl) (vs:List V) (H:Hp) (Q:VK) (E:XK):Prop
 | mk (a:QQ) (m:Int) (ps:LI) (_:vs=[.ref a,.int m]) (_:oM K H a (ps.map V.int)) (_:ps.length<=5000) (_:(0<m/\m<RL)) (_:∀ (l:QQ) (H':Hp),aB H H'->H l=none->H' l=some (.lst ((pq m ps).map V.int))->Q (.ref l) H')
inductive Hr (K:Wl) (vs:List V) (H:Hp) (Q:VK) (E:XK):Prop
 | mk (n w:Int) (_:vs=[.int n,.int w]) (_:(0<=n/\n<NB)) (_:(2<=w/\w<NB)) (_:∀ (t:QQ) (H':Hp) (ds:LI),aB H H'->H' t=some (.tup (ds.map V.int))->DD w n ds->ds.length<=5000->Q (.ref t) H')
section
theorem CM:aJ ["thing"] ["thing"] (ar sk):=cS #[3]
theorem rn:aJ ["thing","least"] ["thing","least"] (ar ig):=cS #[3]
theorem FC:aJ ["thing","least","called"] ["thing","least","called"] (ar so):=cS #[3]
theorem iy:aJ ["number","wide","powers","power","parts","middle"] ["number","wide"] (ar Cn):=cS #[3]
theorem Cq:aJ ["parts","middle","halves","part"] ["parts","middle"] (ar EU):=cS #[3]
theorem L6(F:br K "is_whole" "is_whole" sk dV f fd)(av:mg "isinstance" = none)(sP:mg "int" = none)(sy:mg "bool" = none):bc P w K mg base eB 1 f fd ["thing"] RA:=by
 refine F.ok CM #[6] #[1]
 ·obtain⟨z,rfl,_⟩:=h
  rfl
 obtain⟨z,rfl,q⟩:=h
 refine⟨_,(ao (aH (EF (ay iT #[26] av aD (aa #[98] (aa (iW (v:=.ty "int") rfl sP HQ rfl) af))) (EG (aaj (ay iT #[26] av aD (aa #[98] (aa (iW (v:=.ty "bool") rfl sy HP rfl) af)))))))),?_⟩
 exists 0
 refine⟨_,rfl,_,_,_,_,rfl,pE.int z,tL K,_,rfl,Be ?_⟩
 exact⟨_,rfl,_,_,_,_,rfl,pE.int z,rR K,_,rfl,q⟩
theorem aci(F:br K "is_whole_from" "is_whole_from" ig dV f fd)(iq:bp P w K mg base "is_whole" 1 ["thing"] [] RA):bc P w K mg base eB 2 f fd ["thing","least"] aaO:=by
 refine F.ok rn #[6] #[1]
 ·obtain⟨z,y,rfl,_⟩:=h
  rfl
 obtain⟨z,y,rfl,q⟩:=h
 exists _,(ao (aH (EF (aW iq hr #[72]) (EG (pz L8 #[98] #[92] (aM _))))))
 exists 0
 exact⟨_,rfl,z,rfl,_,rfl,Be ⟨_,rfl,_,rfl,_,_,rfl,rfl,q⟩⟩
theorem ack(F:br K "need_whole" "need_whole" so dV f fd)(cX:bp P w K mg base "is_whole_from" 2 ["thing","least"] [] aaO):bc P w K mg base eB 3 f fd ["thing","least","called"] aaQ:=by
 refine F.ok FC #[6] #[1]
 ·obtain⟨z,y,x,rfl,_⟩:=h
  rfl
 obtain⟨z,y,x,rfl,hy,q⟩:=h
 exists _,(ao (bK (lV (iZ (aW cX hr (aa #[98] #[44])))) (ao EL) aR))
 exists 0
 refine⟨_,rfl,_,rfl,z,y,rfl,_,rfl,ahU hy ?_⟩
 exact q
theorem Sv(F:br K "halved" "halved" EU dV f fd):bc P w K mg base eB 1 f fd ["parts","middle"] (Mx K):=by
 refine F.ok Cq #[6] #[1]
 ·obtain⟨a,m,ps,rfl,_⟩:=h
  rfl
 obtain⟨a,m,ps,rfl,hS,hl,⟨m0,m1⟩,k⟩:=h
 refine⟨_,(ag (az (i:=2) Cq.nd (bw af))
   (ag (bI PassesOwn.never rfl (df #[98]) (aS (i:=3) Cq.nd) (ag (bD (fO Wn Wq Wr bJ (pv 2) (aa (aC bR (pv 3) #[92]) af)))
   (ao (bD (fO Wn Wq Wr bJ (pv 2) (aa (aC Z8 (pv 3) #[92]) af))))))
   (ao (aH (pv 2))))),?_⟩
 exists 0
 refine⟨#[13],fun l hl0=>?_⟩
 refine⟨_,rfl,a,rfl,⟨_,(ak hl0 _).seq hS⟩,eS (K:=K) (xs:=ps.map V.int) (fun i σ' H'=>∃ v,σ'=[some #[50],some (.int m),some (.ref l),v]/\aB H H'/\H' l=some (.lst ((pq m (ps.take i)).map V.int)))
  ⟨none,rfl,ak hl0 _,ae⟩ (fun i σ' H' _ ⟨_,_,s,_⟩=>s.seq hS) ?_ ?_⟩
 ·rintro i y σ' H' hi ⟨v,rfl,s1,h1⟩
  obtain⟨z,rfl,hz⟩:=bZ hi
  have hi':i<ps.length:=(iH hz).1
  have l1:((pq m (ps.take i)).map V.int).length<=10000:=by
   rw[bq,Cb,jQ]
   omega
  have big:10002<sizeLine:=by decide
  refine⟨_,rfl,.inl ⟨rfl,_,bV h1⟩,_,rfl,_,rfl,_,_,rfl,rfl,m0,l,_,_,rfl,rfl,h1,by omega,?_⟩
  refine⟨_,rfl,.inl ⟨rfl,_,bV ae⟩,_,rfl,_,rfl,_,_,rfl,rfl,⟨m0,m1⟩,l,_,_,rfl,rfl,ae,by rw[jG];simp only[jh];omega,?_⟩
  exists _,rfl,ax (ax s1 hl0) hl0
  rw[ae,jS,hz]
  show _=some (HO.lst ((pq m (ps.take i++[z])).map V.int))
  rw[Bb,jF,jk]
  rfl
 ·rintro σ' H' ⟨v,rfl,s1,h1⟩
  rw[bq,jU]at h1
  exact⟨_,rfl,k l H' s1 hl0 h1⟩
theorem OP(F:br K "figures" "figures" Cn dV f fd)(og:bp P w K mg base "need_whole" 3 ["thing","least","called"] [] aaQ)(DF:bp P w K mg base "halved" 1 ["parts","middle"] [] (Mx K))(AB:mg "reversed" = none)(aV:mg "tuple" = none):bc P w K mg base eB 4 f fd ["number","wide"] (Hr K):=by
 refine F.ok iy #[6] #[1]
 ·obtain⟨n,w,rfl,_⟩:=h
  rfl
 obtain⟨n,wd,rfl,⟨n0,n1⟩,⟨w0,w1⟩,k⟩:=h
 have apH:∀ {x y:Int},0<=x->x<NB->0<=y->y<NB->x*y<RL:=fun {x y} hx Ft hy hy' =>
  zQ (Jl (Jm Ft) (Jm hy') hy (zu hx (Jm Ft))) MZ
 have Sq:∀ {x:Int},0<=x->x<NB->x<RL:=fun {x} hx Ft=>by
  have:=TB
  have:=MZ
  have q:NB*1<=NB*NB:=Jl (zH _) #[0] #[7] #[0]
  omega
 refine⟨_,(ag (bD (aW og hr (aa #[98] (aa ah (aa O6 af)))))
   (ag (bD (aW og hr (aa #[92] (aa ah (aa O6 af)))))
   (ag (az (i:=2) iy.nd (bw af))
   (ag (az (i:=3) iy.nd #[92])
   (ag (iY PassesOwn.never (aE aaa (pv 3) #[98] (aM _)) (ag (bD (fO Wn Wq Wr bJ (pv 2) #[79]))
   (ao (az (i:=3) iy.nd (aC Q9 (pv 3) (pv 3))))))
   (ag (az (i:=4) iy.nd (bw #[72]))
   (ag (bI PassesOwn.never rfl (ae4 rfl AB #[57]) (aS (i:=5) iy.nd) (ao (az (i:=4) iy.nd (aW DF hr (aa (pv 4) #[102])))))
   (ag (iY PassesOwn.never (PW.pt (rX (Bw (pv 4) (fun _=>rfl)) (ow (aE dE (aF cF (pv 4) (aid afF ah) #[4]) ah (aM _))))) (ao (bD (O3 Wn yj yk X8 (pv 4)))))
   (ao (aH (bj bg #[26] aV cy #[88]))))))))))),?_⟩
 exists 0
 exists _,rfl,n,0,_,rfl,n0
 exists _,rfl,wd,2,_,rfl,w0
 refine⟨#[13],fun L hL=>?_⟩
 exists _,rfl
 exists 13
 refine eI (t:=mW _ _) (fun σ' H'=>∃ t:Nat,σ'=[some (.int n),some (.int wd),some (.ref L),some (.int (pw wd t)),none,none]/\aB H H'/\H' L=some (.lst ((pws wd t).map V.int))/\n<pw wd t/\(t=0\/pw wd (t-1)<=n)) ?_ #[96]
 exists 16
 ·refine oB (fun m σ' H'=>∃ t:Nat,m=(n+1-pw wd t).toNat/\σ'=[some (.int n),some (.int wd),some (.ref L),some (.int (pw wd t)),none,none]/\aB H H'/\H' L=some (.lst ((pws wd t).map V.int))/\(t=0\/pw wd (t-1)<=n))
   ⟨_,0,rfl,rfl,ak hL _,ae,.inl rfl⟩ ?_
  rintro m σ' H' ⟨t,rfl,rfl,s1,h1,ht⟩
  refine⟨_,rfl,_,rfl,_,_,rfl,rfl,_,rfl,ou #[29] #[29]⟩
  ·have c':pw wd t<=n:=c
   have p2:=IA w0 t
   have AW:=aay w0 c' n1
   have lt2:t<2^t:=Nat.lt_two_pow_self
   have plt:=adz w0 t
   refine⟨fun σ' H'=>∃ m',m'<(n+1-pw wd t).toNat/\∃ t:Nat,m'=(n+1-pw wd t).toNat/\σ'=[some (.int n),some (.int wd),some (.ref L),some (.int (pw wd t)),none,none]/\aB H H'/\H' L=some (.lst ((pws wd t).map V.int))/\(t=0\/pw wd (t-1)<=n),fun σ' H' h=>h,?_⟩
   refine⟨_,rfl,.inl ⟨rfl,_,bV h1⟩,_,rfl,L,_,_,rfl,rfl,h1,?_,?_⟩
   ·rw[bq,Du]
    have big:(1101:Nat)<sizeLine:=by decide
    omega
   refine⟨_,rfl,_,rfl,_,_,rfl,rfl,⟨⟨by omega,Sq #[0] #[0]⟩,⟨by omega,Sq #[0] #[0]⟩⟩,_,?_,t+1,rfl,rfl,ax s1 hL,?_,.inr c'⟩
   ·show(n+1-pw wd (t+1)).toNat<_
    omega
   ·rw[ae,aaA,jF]
    rfl
  ·exact dq _ _ ⟨t,rfl,s1,h1,by omega,ht⟩
 rintro σ' H1 ⟨t,rfl,s1,h1,hn,ht⟩
 have AW:2^t<=2200:=by
  rcases ht with z|z
  ·rw[z];decide
  ·rcases t with _|t
   ·decide
   ·have:=aay w0 z n1
    rw[JJ]
    simp only[Zm]at this
    omega
 refine⟨_,rfl,#[45],fun D0 hD0=>?_⟩
 have s2:=s1.trans (ak hD0 (HO.lst [V.int n]))
 have nL:L≠D0:=aq h1 hD0
 exists 13
 refine eI (t:=sU _ _ _) (fun σ' H'=>∃ (D:QQ) (v:OV) (ps:LI),σ'=[some (.int n),some (.int wd),some (.ref L),some (.int (pw wd t)),some #[66],v]/\aB H H'/\H D=none/\H' D=some (.lst (ps.map V.int))/\CU wd ps/\cx wd ps=n/\ps.length<=2200) ?_ #[96]
 exists 16
 ·refine⟨_,rfl,L,_,rfl,bV (by rw[aj nL];exact h1),abH (K:=K) (xs:=(pws wd t).map V.int) (fun i σ' H'=>∃ (D:QQ) (v:OV) (ps:LI),σ'=[some (.int n),some (.int wd),some (.ref L),some (.int (pw wd t)),some #[66],v]/\aB H1 H'/\H1 D=none/\H' D=some (.lst (ps.map V.int))/\CU (pw wd (t-i)) ps/\cx (pw wd (t-i)) ps=n/\ps.length=2^i)
   ⟨D0,none,[n],rfl,ak hD0 _,hD0,ae,CU.cons n0 hn CU.nil,by simp[cx],rfl⟩ (fun i σ' H' _ ⟨_,_,_,_,s,_,_,_,_,_⟩=>bV (s _ _ h1)) ?_ ?_⟩
  ·rintro i y σ' H' hi hy ⟨D,v,ps,rfl,s3,fD,hD,rO,Cc,hlen⟩
   rw[bq,Du]at hi
   rw[bq,Du]at hy
   have e1:t-i=(t-1-i)+1:=by omega
   have e2:t-(i+1)=t-1-i:=by omega
   obtain⟨z,rfl,hz⟩:=bZ hy
   rw[acH (show t-1-i<t by omega)]at hz
   cases hz
   rw[e1]at rO Cc
   have hp:=IA w0 (t-1-i)
   have hle:pw wd (t-1-i)<=n:=by
    rcases ht with z|z
    ·omega
    ·have mono:∀ a b:Nat,pw wd a<=pw wd (a+b):=fun a b=>by
      induction b with
      | zero=>exact zH _
      | succ b ih=>exact zu ih (Jm (adz w0 (a+b)))
     have:=mono (t-1-i) i
     rw[show t-1-i+i=t-1 by omega]at this
     omega
   have li:2^i<=2^t:=ju #[7] #[0]
   refine⟨_,rfl,_,rfl,D,_,ps,rfl,bV hD,by omega,⟨by omega,Sq #[0] #[0]⟩,fun l Cv s4 fl hl=>?_⟩
   refine⟨l,_,pq (pw wd (t-1-i)) ps,rfl,s3.trans s4,s3.free fl,hl,?_,?_,?_⟩
   ·rw[e2];exact Lp #[0] rO
   ·rw[e2,F8];exact Cc
   ·rw[Cb,hlen,JJ];omega
  ·rintro σ' H' ⟨D,v,ps,rfl,s3,fD,hD,rO,Cc,hlen⟩
   rw[bq,Du]at rO Cc hlen
   rw[Jw]at rO Cc
   exact dq _ _ ⟨D,v,ps,rfl,s1.trans s3,s1.free fD,hD,rO,Cc,by omega⟩
 rintro σ' H2 ⟨D,v,ps,rfl,s3,fD,hD,rO,Cc,hlen⟩
 exists 13
 refine eI (t:=mW _ _) (fun σ' H'=>∃ ps:LI,σ'=[some (.int n),some (.int wd),some (.ref L),some (.int (pw wd t)),some #[66],v]/\aB H H'/\H' D=some (.lst (ps.map V.int))/\DD wd n ps/\ps.length<=2200) ?_ #[96]
 exists 16
 ·refine oB (fun m σ' H'=>∃ ps:LI,m=ps.length/\σ'=[some (.int n),some (.int wd),some (.ref L),some (.int (pw wd t)),some #[66],v]/\aB H H'/\H' D=some (.lst (ps.map V.int))/\CU wd ps/\cx wd ps=n/\ps.length<=2200) ⟨_,ps,rfl,rfl,s3,hD,rO,Cc,hlen⟩ ?_
  rintro m σ' H' ⟨ps,rfl,rfl,s4,h4,rO,Cc,hlen⟩
  rcases Er ps with rfl|⟨r,x,rfl⟩
  ·refine⟨_,rfl,_,.inl ⟨_,bV h4,rfl⟩,ff (ff ?_)⟩
   exact dq _ _ ⟨[],rfl,s4,h4,⟨rO,Cc,fun d h=>by cases h⟩,hlen⟩
  ·have ix:wO ((r++[x]).map V.int) (-1)=some (.int x):=by
    rw[jF]
    exact TJ _ _
   exists _,rfl,_,.inl ⟨_,bV h4,rfl⟩
   have ne:(!((r++[x]).map V.int).isEmpty)=true:=by simp
   rw[ne]
   refine Be ⟨_,rfl,_,rfl,D,_,_,_,rfl,rfl,bV h4,ix,rfl,_,rfl,mC #[29] #[29]⟩
   ·have hr:cx wd r=n:=by
     rw[wL,c,QK,QL]at Cc
     exact Cc
    refine⟨fun σ' H'=>∃ m',m'<(r++[x]).length/\∃ ps:LI,m'=ps.length/\σ'=[some (.int n),some (.int wd),some (.ref L),some (.int (pw wd t)),some #[66],v]/\aB H H'/\H' D=some (.lst (ps.map V.int))/\CU wd ps/\cx wd ps=n/\ps.length<=2200,fun σ' H' h=>h,?_⟩
    refine⟨_,rfl,.inl ⟨rfl,_,bV h4⟩,D,_,V.int x,rfl,rfl,h4,by simp,?_⟩
    ·refine⟨r.length,by simp,r,rfl,rfl,ax s4 fD,?_,fun p hp=>rO p (jn _ hp),hr,?_⟩
     ·rw[ae,jF]
      show some (HO.lst ((r.map V.int++[V.int x]).dropLast))=_
      rw[Zc]
     ·rw[jG]at hlen
      omega
   ·exact dq _ _ ⟨r++[x],rfl,s4,h4,⟨rO,Cc,fun d h=>by
     rw[List.getLast?_concat]at h
     cases h
     exact c⟩,hlen⟩
 rintro σ' H3 ⟨ps,rfl,s4,h4,FG,hlen⟩
 refine⟨_,rfl,D,_,rfl,.inl ⟨bV h4,fun T hT=>?_⟩⟩
 exact k T _ ps (s4.trans (ak hT _)) ae FG #[0]
end
inductive aaV (K:Wl) (vs:List V) (H:Hp) (Q:VK) (E:XK):Prop
 | mk (m r g b:QQ) (st:Int) (many wide:Nat) (rows:LL) (signs ns:LI) (_:vs=[.ref m,.ref b,.int st]) (_:bA H m r g wide rows signs) (_:aI many wide rows) (_:(oM K H b #[34]\/sQ K H b #[34])) (_:(∀ z∈ns,0<=z/\z<(wide:Int))) (_:(0<=st/\st<(many:Int))) (_:Q (.int (aY rows ns st)) H)
inductive aaX (K:Wl) (vs:List V) (H:Hp) (Q:VK) (E:XK):Prop
 | mk (m r g b:QQ) (many wide:Nat) (rows:LL) (signs ns:LI) (_:vs=[.ref m,.ref b]) (_:bA H m r g wide rows signs) (_:aI many wide rows) (_:signs.length=many) (_:1<=many) (_:(oM K H b #[34]\/sQ K H b #[34])) (_:(∀ z∈ns,0<=z/\z<(wide:Int))) (_:Q (.int (signs.getD (aY rows ns 0).toNat 0)) H)
theorem take_all:ns.take ns.length=ns:=jU
theorem ac6{P:Int->Prop}(h:∀ z∈ns,P z):∀ z∈ns.take i,P z:=fun z hz=>h z (zC hz)
section
theorem oA:aJ ["machine","row","start","rows","here","figure"] ["machine","row","start"] (ar Pd):=cS #[3]
theorem acN:aJ ["machine","row"] ["machine","row"] (ar Pe):=cS #[3]
theorem acq(F:br K "room" "room" Pd dV f fd):bc P w K mg base eB 1 f fd ["machine","row","start"] (aaV K):=by
 refine F.ok oA #[6] #[1]
 ·obtain⟨m,r,g,b,st,many,wide,rows,signs,ns,rfl,_⟩:=h
  rfl
 obtain⟨m,r,g,b,st,many,wide,rows,signs,ns,rfl,M,R,hb,rO,⟨s0,s1⟩,q⟩:=h
 obtain⟨hm,⟨dC,oG,hA⟩,hg⟩:=M
 have inv:∀ i (z:Int),ns[i]?=some z->∃ (ra:QQ) (rr:LI),wO #[37] (aY rows (ns.take i) st)=some (.ref ra)/\H ra=some (.tup (rr.map V.int))/\wO (rr.map V.int) z=some (.int (aY rows (ns.take (i+1)) st)):=fun i z hz=>by
  have w0:=dH R (ns:=ns.take i) (h:=st) (ac6 rO) s0 s1
  have hz' := rO z (pZ hz)
  obtain⟨ra,rr,e1,e2,e3⟩:=fX hA R w0.1 w0.2 hz'.1 hz'.2
  exact⟨ra,rr,e1,e2,by rw[Pw hz];exact e3⟩
 rcases hb with hb|hb
 ·refine⟨_,(ag (az (i:=3) oA.nd #[12])
   (ag (az (i:=4) oA.nd (pv 2))
   (ag (bI PassesOwn.never rfl (df #[92]) (aS (i:=5) oA.nd) (ao (az (i:=4) oA.nd (aF aG (aF aG (pv 3) (pv 4) #[4]) (pv 5) #[4]))))
   (ao (aH (pv 4)))))),?_⟩
  exists _,rfl,m,_,_,_,rfl,rfl,bS hm,rfl
  exists _,rfl
  refine⟨_,rfl,b,rfl,⟨_,hb⟩,eS (K:=K) (xs:=ns.map V.int) (fun i σ' H'=>∃ v,σ'=[some #[58],some (.ref b),some (.int st),some #[106],some (.int (aY rows (ns.take i) st)),v]/\H'=H) ⟨none,rfl,rfl⟩ (fun i σ' H' _ ⟨_,_,e⟩=>by rw[e];exact hb) ?_ ?_⟩
  ·rintro i y σ' H' hi ⟨v,rfl,rfl⟩
   obtain⟨z,rfl,hz⟩:=bZ hi
   obtain⟨ra,rr,e1,e2,e3⟩:=inv i z hz
   exact⟨_,rfl,_,rfl,r,_,_,_,rfl,rfl,bS oG,e1,_,rfl,ra,_,_,_,rfl,rfl,bS e2,e3,_,rfl,rfl⟩
  ·exists 11
   exists _,rfl
   rw[bq,take_all]
   exact q
 ·refine⟨_,(ag (az (i:=3) oA.nd #[12])
   (ag (az (i:=4) oA.nd (pv 2))
   (ag (bI PassesOwn.never rfl (rW #[92]) (aS (i:=5) oA.nd) (ao (az (i:=4) oA.nd (aF aG (aF aG (pv 3) (pv 4) #[4]) (pv 5) #[4]))))
   (ao (aH (pv 4)))))),?_⟩
  exists _,rfl,m,_,_,_,rfl,rfl,bS hm,rfl
  exists _,rfl
  refine⟨_,rfl,b,rfl,⟨_,hb⟩,AX (K:=K) (xs:=ns.map V.int) (fun i σ' H'=>∃ v,σ'=[some #[58],some (.ref b),some (.int st),some #[106],some (.int (aY rows (ns.take i) st)),v]/\H'=H) ⟨none,rfl,rfl⟩ (fun i σ' H' _ ⟨_,_,e⟩=>by rw[e];exact hb) ?_ ?_⟩
  ·rintro i y σ' H' hi ⟨v,rfl,rfl⟩
   obtain⟨z,rfl,hz⟩:=bZ hi
   obtain⟨ra,rr,e1,e2,e3⟩:=inv i z hz
   exact⟨_,rfl,_,rfl,r,_,_,_,rfl,rfl,bS oG,e1,_,rfl,ra,_,_,_,rfl,rfl,bS e2,e3,_,rfl,rfl⟩
  ·exists 11
   exists _,rfl
   rw[bq,take_all]
   exact q
theorem acr(F:br K "told" "told" Pe dV f fd)(DH:bp P w K mg base "room" 1 ["machine","row","start"] [.int 0] (aaV K)):bc P w K mg base eB 2 f fd ["machine","row"] (aaX K):=by
 refine F.ok acN #[6] #[1]
 ·obtain⟨m,r,g,b,many,wide,rows,signs,ns,rfl,_⟩:=h
  rfl
 obtain⟨m,r,g,b,many,wide,rows,signs,ns,rfl,M,R,hl,h1,hb,rO,q⟩:=h
 have w0:=dH R (ns:=ns) (h:=0) rO #[0] #[0]
 refine⟨_,(ao (aH (aF aG #[12] (aW DH hr (aa #[98] #[44])) #[4]))),?_⟩
 exists 0
 refine⟨_,rfl,m,_,_,_,rfl,rfl,bS M.tup,rfl,_,rfl,_,rfl,m,r,g,b,0,many,wide,rows,signs,ns,rfl,M,R,hb,rO,⟨by omega,by omega⟩,?_⟩
 exact⟨g,_,_,_,rfl,rfl,bS M.sgn,cj w0.1 #[0],q⟩
end
theorem Pf:aJ ["machine","number"] ["machine","number"] (ar Co):=cS #[3]
inductive aaW (K:Wl) (turn:LI->LI) (vs:List V) (H:Hp) (Q:VK) (E:XK):Prop
 | mk (m r g:QQ) (n:Int) (many wide:Nat) (rows:LL) (signs:LI) (_:vs=[.ref m,.int n]) (_:bA H m r g wide rows signs) (_:aI many wide rows) (_:signs.length=many) (_:1<=many) (_:(0<=n/\n<NB)) (_:(2<=(wide:Int)/\(wide:Int)<NB)) (_:∀ (H':Hp) (ds:LI),aB H H'->DD wide n ds->Q (.int (signs.getD (aY rows (turn ds) 0).toNat 0)) H')
section
theorem OW(F:br K "sign_at" "sign_at" Co dV f fd)(MX:bp P w K mg base "told" 2 ["machine","row"] [] (aaX K))(BQ:bp P w K mg base "figures" 4 ["number","wide"] [] (Hr K)):
  bc P w K mg base eB 5 f fd ["machine","number"] (aaW K id):=by
 refine F.ok Pf #[6] #[1]
 ·obtain⟨m,r,g,n,many,wide,rows,signs,rfl,_⟩:=h
  rfl
 obtain⟨m,r,g,n,many,wide,rows,signs,rfl,M,R,hl,h1,hn,hw,k⟩:=h
 refine⟨_,(ao (aH (aW MX hr (aa #[98] (aa (aW BQ hr (aa #[92] (aa #[12] af))) af))))),?_⟩
 exists 0
 refine⟨_,rfl,_,rfl,_,rfl,m,_,_,_,rfl,rfl,bS M.tup,rfl,n,wide,rfl,hn,hw,fun t H' ds s1 ht F' hl'=>?_⟩
 exact⟨m,r,g,t,many,wide,rows,signs,ds,rfl,M.same fun b xs e=>s1 _ _ e,R,hl,h1,.inr (bS ht),F'.inb,k H' ds s1 F'⟩
end
theorem IU{w:Int}(h:0<w):∀ {ps:LI},CU w ps->cx w ps<w^ps.length
 | [],_=>by simp[cx]
 | p :: r,rO=>by
  have hp:=rO p jD
  have ih:=IU h rO.tail
  have:w*(cx w r+1)<=w*w^r.length:=zy #[0] #[0]
  rw[Zt,Zr]at this
  rw[jT,QJ,zP (w^r.length) w]
  show p+w*cx w r<_
  omega
theorem Lm{w:Int}(hw:2<=w):∀ {ds es:LI} {n:Int},DD w n ds->DD w n es->ds=es
 | [],[],_,_,_=>rfl
 | [],e :: es,n,h,h'=>by
  exfalso
  have z:cx w (e :: es)=0:=h'.val.trans h.val.symm
  exact no_zero hw h' z
 | d :: ds,[],n,h,h'=>by
  exfalso
  have z:cx w (d :: ds)=0:=h.val.trans h'.val.symm
  exact no_zero hw h z
 | d :: ds,e :: es,n,h,h'=>by
  have hd:=h.inb d jD
  have he:=h'.inb e jD
  have v1:d+w*cx w ds=n:=h.val
  have v2:e+w*cx w es=n:=h'.val
  have e1:n%w=d:=by rw[<- v1,ZK];exact Zq hd.1 hd.2
  have e2:n%w=e:=by rw[<- v2,ZK];exact Zq he.1 he.2
  have ede:d=e:=e1.symm.trans e2
  have ev:cx w ds=cx w es:=by
   have:w*cx w ds=w*cx w es:=by omega
   exact Int.eq_of_mul_eq_mul_left #[0] this
  have t1:DD w (cx w ds) ds:=⟨h.inb.tail,rfl,fun x hx=>by
   cases ds with
   | nil=>cases hx
   | cons a r=>exact h.top x (by rw[zT];exact hx)⟩
  have t2:DD w (cx w ds) es:=⟨h'.inb.tail,ev.symm,fun x hx=>by
   cases es with
   | nil=>cases hx
   | cons a r=>exact h'.top x (by rw[zT];exact hx)⟩
  rw[ede,Lm hw t1 t2]
where
 no_zero {w:Int} (hw:2<=w):∀ {es:LI} {e n:Int},DD w n (e :: es)->cx w (e :: es)=0->False
 | [],e,n,h,z=>by
  have:e+w*0=0:=z
  exact h.top e rfl #[0]
 | a :: r,e,n,h,z=>by
  have hz:e+w*cx w (a :: r)=0:=z
  have he:=h.inb e jD
  have hv:=mI (by omega:(0:Int)<=w) h.inb.tail
  have:0<=w*cx w (a :: r):=ZE #[0] hv
  have z2:w*cx w (a :: r)=0:=by omega
  have z3:cx w (a :: r)=0:=by
   rcases Int.mul_eq_zero.mp z2 with q|q
   ·omega
   ·exact q
  exact no_zero hw (es:=r) (e:=a) (n:=cx w (a :: r)) ⟨h.inb.tail,rfl,fun x hx=>h.top x (by rw[zT];exact hx)⟩ z3
def lR(w:Nat):Nat->Nat->LI
 | 0,_=>[]
 | k+1,F=>((F%w:Nat):Int) :: lR w k (F / w)
theorem DZ(w:Nat):∀ (k F:Nat),(lR w k F).length=k
 | 0,_=>rfl
 | k+1,F=>by rw[lR,jT,DZ]
theorem AU{w:Nat}(w1:1<=w):∀ (k F:Nat),mi w (lR w k F)
 | 0,_=>fun f hf=>by cases hf
 | k+1,F=>fun f hf=>by
  have:=QP F (show 0<w by omega)
  rcases jY.mp (show f∈((F%w:Nat):Int) :: lR w k (F / w)from hf)with z|z
  ·rw[z];omega
  ·exact AU w1 k _ f z
theorem FW(w:Nat):∀ (k F:Nat),lR w (k+1) F=lR w k F++[((F / w^k%w:Nat):Int)]
 | 0,F=>by simp[lR]
 | k+1,F=>by
  rw[lR,FW w k (F / w),lR,zZ,Nat.div_div_eq_div_mul,JJ,zR w (w^k)]
theorem Lf(w:Nat):∀ (k F:Nat),lR w k (F%w^k)=lR w k F
 | 0,_=>rfl
 | k+1,F=>by
  rw[lR,lR,JJ,zR (w^k) w,Nat.mod_mul_right_mod,Nat.mod_mul_right_div_self,Lf w k (F / w)]
theorem Px{f:Int}:aY rows (v++[f]) h=stepI rows (aY rows v h) f:=by
 rw[cP]
 rfl
def ER(rows:LL)(w:Nat)(L:LI):LI:=(jd w).flatMap fun f:Nat=>L.map fun h=>stepI rows h (f:Int)
theorem Ln{g:Nat->List α}(hg:∀ i,(g i).length=n)(d:α):∀ (w f i:Nat),f<w->i<n->((jd w).flatMap g).getD (f*n+i) d=(g f).getD i d
 | 0,_,_,h,_=>absurd h (zt _)
 | w+1,f,i,hf,hi=>by
  have ll:∀ w:Nat,((jd w).flatMap g).length=w*n:=fun w=>by
   induction w with
   | zero=>simp
   | succ w ih=>rw[js,JL,jG,ih,JV,hg,ZR]
  rw[js,JL,JV]
  by_cases c:f=w
  ·subst c
   rw[jM,JH (by rw[ll];omega),ll,Nat.add_sub_cancel_left,<- jM]
  ·have lt:f*n+i<w*n:=jW (by rw[ZR];omega:f*n+i<(f+1)*n) (zv n #[0])
   rw[jM,jr (by rw[ll];exact lt),<- jM]
   exact Ln hg d w f i #[0] hi
theorem Mp(rows:LL)(w:Nat)(L:LI):(ER rows w L).length=w*L.length:=by
 unfold ER
 induction w with
 | zero=>simp
 | succ w ih=>rw[js,JL,jG,ih,JV,bq,ZR]
def IE(rows:LL)(w:Nat)(h:Int):Nat->LI
 | 0=>[h]
 | k+1=>ER rows w (IE rows w h k)
theorem rY(rows:LL)(w:Nat)(h:Int):∀ k,(IE rows w h k).length=w^k
 | 0=>rfl
 | k+1=>by rw[IE,Mp,rY,JJ,zR]
theorem IG(rows:LL){w:Nat}(w1:1<=w)(h:Int):∀ (k F:Nat),F<w^k->(IE rows w h k).getD F 0=aY rows (lR w k F) h
 | 0,F,hF=>by
  have e:F=0:=by rw[zS]at hF;omega
  subst e
  rfl
 | k+1,F,hF=>by
  have wp:0<w^k:=Zu #[0]
  have hf:F / w^k<w:=Nat.div_lt_of_lt_mul (by rw[<- JJ];exact hF)
  have hi:F%w^k<w^k:=QP _ wp
  have eF:F=F / w^k*w^k+F%w^k:=by
   have:=Nat.div_add_mod F (w^k)
   rw[zR]at this
   exact this.symm
  have g:=Ln (g:=fun f:Nat=>(IE rows w h k).map fun x=>stepI rows x (f:Int)) (n:=w^k) (fun i=>by rw[bq,rY]) 0 w (F / w^k) (F%w^k) hf hi
  rw[<- eF]at g
  have lt:F%w^k<(IE rows w h k).length:=by rw[rY];exact hi
  show(ER rows w (IE rows w h k)).getD F 0=_
  unfold ER
  rw[g,jM,jN,jB lt]
  show stepI rows (IE rows w h k)[F%w^k] _=_
  rw[<- getD_at (d:=0) lt,IG rows w1 h k _ hi,Lf,FW,Px,zb hf]
def lh(w k:Nat)(rows:LL):LL:=(jd rows.length).map fun h:Nat=>IE rows w (h:Int) k
theorem SY(w k:Nat)(rows:LL):(lh w k rows).length=rows.length:=by
 unfold lh
 rw[bq,jg]
theorem aaF{w k:Nat}{h:Nat}(hh:h<rows.length):(lh w k rows).getD h []=IE rows w (h:Int) k:=by
 unfold lh
 rw[getD_at (by rw[bq,jg];exact hh),JW,zO]
theorem O9{w k:Nat}(w1:1<=w){F:Int}(hh:0<=h/\h<(rows.length:Int))(hF:0<=F/\F<((w^k:Nat):Int)):stepI (lh w k rows) h F=aY rows (lR w k F.toNat) h:=by
 have e:=aaF (w:=w) (k:=k) (rows:=rows) (h:=h.toNat) #[0]
 rw[jb hh.1]at e
 have g:=IG rows w1 h k F.toNat #[0]
 rw[<- e]at g
 exact g
theorem Ml{w k:Nat}(w1:1<=w)(R:aI rows.length w rows):aI rows.length (w^k) (lh w k rows):=by
 refine⟨SY _ _ _,fun r hr=>?_,fun r hr v hv=>?_⟩
 ·obtain⟨h,_,rfl⟩:=jO.mp hr
  exact rY _ _ _ _
 ·obtain⟨h,hh,rfl⟩:=jO.mp hr
  have hl:=jm.mp hh
  obtain⟨F,hF,rfl⟩:=ji hv
  rw[rY]at hF
  rw[<- getD_at (d:=0),IG rows w1 _ k F hF]
  exact dH R (AU w1 k F) #[0] #[0]
def pS(w k:Nat)(v:LI):LI:=v.flatMap fun F=>lR w k F.toNat
theorem Dg{w k:Nat}(w1:1<=w)(v:LI):mi w (pS w k v):=fun f hf=>by
 obtain⟨F,_,h⟩:=Jn.mp hf
 exact AU w1 k _ f h
theorem fj{w k:Nat}(w1:1<=w)(R:aI rows.length w rows):∀ (v:LI) (h:Int),mi (w^k) v->(0<=h/\h<(rows.length:Int))->aY (lh w k rows) v h=aY rows (pS w k v) h
 | [],_,_,_=>rfl
 | F :: v,h,hv,hh=>by
  show aY (lh w k rows) v (stepI (lh w k rows) h F)=aY rows (lR w k F.toNat++pS w k v) h
  rw[O9 w1 hh (hv F jD),cP]
  exact fj w1 R v _ (fun g hg=>hv g (jI _ hg)) (dH R (AU w1 k _) hh.1 hh.2)
theorem Mm{w k:Nat}{signs:LI}(w1:1<=w)(R:aI rows.length w rows)(R':aI aw.length w aw)(n0:0<rows.length)(n1:0<aw.length)(h:Tells w rows aw signs aK 0 0):Tells (w^k) (lh w k rows) (lh w k aw) signs aK 0 0:=fun v hv=>by
 rw[fj w1 R v 0 hv ⟨by omega,by omega⟩,fj w1 R' v 0 hv ⟨by omega,by omega⟩]
 exact h _ (Dg w1 v)
theorem D4(w:Nat):∀ (k F:Nat),cx (w:Int) (lR w k F)=((F%w^k:Nat):Int)
 | 0,F=>by rw[zS,Nat.mod_one];rfl
 | k+1,F=>by
  show((F%w:Nat):Int)+(w:Int)*cx (w:Int) (lR w k (F / w))=_
  rw[D4 w k (F / w),JJ,zR (w^k) w,Nat.mod_mul]
  push_cast
  rfl
theorem Ll{w k:Nat}:∀ {v:LI},mi (w^k) v->cx (w:Int) (pS w k v)=cx ((w^k:Nat):Int) v
 | [],_=>rfl
 | F :: v,hv=>by
  have hF:=hv F jD
  show cx (w:Int) (lR w k F.toNat++pS w k v)=F+((w^k:Nat):Int)*cx ((w^k:Nat):Int) v
  rw[wc,D4,DZ,Ll fun g hg=>hv g (jI _ hg),zb #[0],jb hF.1]
  push_cast
  rfl
theorem FZ{w:Int}(hw:2<=w):∀ (n:Nat) (e:LI),e.length=n->CU w e->∃ (ds:LI) (z:Nat),DD w (cx w e) ds/\e=ds++JG z 0
 | 0,e,l,_=>by
  have:e=[]:=zx l
  subst this
  exact⟨[],0,⟨CU.nil,rfl,fun x hx=>by cases hx⟩,rfl⟩
 | n+1,e,l,h=>by
  rcases Er e with rfl|⟨r,x,rfl⟩
  ·cases l
  ·by_cases c:x=0
   ·subst c
    have hr:CU w r:=fun y hy=>h y (jn _ hy)
    obtain⟨ds,z,f,e⟩:=FZ hw n r (by rw[jG,jh]at l;omega) hr
    refine⟨ds,z+1,?_,?_⟩
    ·rw[wL,QK,QL]
     exact f
    ·rw[List.replicate_succ',<- jk,<- e]
   ·refine⟨r++[x],0,⟨h,rfl,fun y hy=>?_⟩,by simp⟩
    rw[List.getLast?_append,List.getLast?_singleton]at hy
    have:x=y:=Option.some.inj hy
    rw[<- this]
    exact c
theorem su{signs:LI}(R:aI many wide rows)(w1:1<=wide)(st:∀ q:Int,0<=q->q<(many:Int)->sgn signs (stepI rows q 0)=sgn signs q):∀ (z:Nat) (q:Int),0<=q->q<(many:Int)->sgn signs (aY rows (JG z 0) q)=sgn signs q
 | 0,_,_,_=>rfl
 | z+1,q,q0,q1=>by
  rw[Zh]
  show sgn signs (aY rows (JG z 0) (stepI rows q 0))=_
  have:=cA R q0 q1 (f:=0) #[7] #[0]
  rw[su R w1 st z _ this.1 this.2,st q q0 q1]
theorem Mn{w k:Nat}{signs ds es:LI}{n:Int}(w2:2<=w)(R:aI rows.length w rows)(n0:0<rows.length)(T:Tells (w^k) (lh w k rows) aw signs aK 0 0)(st:∀ q:Int,0<=q->q<(rows.length:Int)->sgn signs (stepI rows q 0)=sgn signs q)(hd:DD (w:Int) n ds)(he:DD ((w^k:Nat):Int) n es):sgn aK (aY aw es 0)=sgn signs (aY rows ds 0):=by
 have ie:mi (w^k) es:=he.inb
 rw[<- T es ie,fj #[0] R es 0 ie ⟨by omega,by omega⟩]
 obtain⟨ds',z,f,e⟩:=FZ (w:=(w:Int)) #[0] _ (pS w k es) rfl (Dg #[0] es)
 rw[Ll ie,he.val]at f
 have:=Lm #[0] f hd
 subst this
 have wi:=dH R (ns:=ds') (h:=0) f.inb #[0] #[0]
 rw[e,cP,su R #[0] st z _ wi.1 wi.2]
theorem ED{q k:Nat}(h:bM q m (r :: rs)=some k):q<m/\∃ m1,ba m r=some m1/\bM (q+1) m1 rs=some k:=by
 unfold bM at h
 by_cases c:q<m
 ·rw[if_pos c]at h
  cases e:ba m r with
  | none=>rw[e]at h;cases h
  | some m1=>rw[e]at h;exact⟨c,m1,rfl,h⟩
 ·rw[if_neg c]at h
  cases h
theorem rA{f:Int}:aY rows (v++[f]) 0=stepI rows (aY rows v 0) f:=by
 rw[cP]
 rfl
theorem Ar{P:Int->Prop}:∀ {r:LI} {m m1:Nat},ba m r=some m1->(∀ i:Nat,i<m->P (i:Int))->(∀ t∈r,P t)->∀ i:Nat,i<m1->P (i:Int)
 | [],m,m1,h,hm,_=>by
  have e:m=m1:=Option.some.inj h
  subst e
  exact hm
 | t :: r,m,m1,h,hm,ht=>by
  have h':(if t=(m:Int)then ba (m+1) r else if t<(m:Int)then ba m r else none)=some m1:=h
  have Tu:∀ t∈r,P t:=fun x hx=>ht x (jI _ hx)
  by_cases c:t=(m:Int)
  ·rw[if_pos c]at h'
   refine Ar h' (fun i hi=>?_) Tu
   by_cases d:i=m
   ·rw[d,<- c];exact ht t jD
   ·exact hm i #[0]
  ·rw[if_neg c]at h'
   by_cases d:t<(m:Int)
   ·rw[if_pos d]at h'
    exact Ar h' hm Tu
   ·rw[if_neg d]at h'
    cases h'
theorem CK{P:Int->Prop}:∀ {rs:LL} {q m k:Nat},bM q m rs=some k->(∀ i:Nat,i<m->P (i:Int))->(∀ (j:Nat) (r:LI),rs[j]?=some r->P ((q+j:Nat):Int)->∀ t∈r,P t)->∀ i:Nat,i<k->P (i:Int)
 | [],q,m,k,h,hm,_=>by
  have e:m=k:=Option.some.inj h
  subst e
  exact hm
 | r :: rs,q,m,k,h,hm,hr=>by
  obtain⟨c,m1,o1,o2⟩:=ED h
  refine CK o2 (Ar o1 hm (hr 0 r rfl (hm q c))) fun j r' hj hp=>hr (j+1) r' hj ?_
  rw[show q+(j+1)=q+1+j by omega]
  exact hp
theorem oj.Dv(R:aI rows.length wide rows)(O:oj rows):∀ i:Nat,i<rows.length->∃ v,mi wide v/\aY rows v 0=(i:Int):=by
 refine CK (P:=fun q=>∃ v,mi wide v/\aY rows v 0=q) O (fun i hi=>⟨[],(fun f hf=>by cases hf),by rw[show i=0 by omega];rfl⟩) ?_
 rintro j r hj ⟨v,hv,e⟩ t ht
 rw[Jc]at e
 obtain⟨f,hf,ef⟩:=ji ht
 have lr:r.length=wide:=R.row r (pZ hj)
 refine⟨v++[(f:Int)],fun g hg=>?_,?_⟩
 ·rcases Bn.mp hg with z|z
  ·exact hv g z
  ·rw[jK.mp z];omega
 ·rw[rA,e]
  have er:rows.getD j []=r:=by rw[jM,hj];rfl
  unfold stepI
  rw[jA,jA,er,getD_at hf,ef]
theorem cu.signs{C:Int->Prop}{signs:LI}(h:cu wide rows aw signs aK)(R:aI many wide rows)(m0:1<=many)(ls:signs.length=many)(hs:∀ z∈signs,C z):∀ z∈aK,C z:=fun z hz=>by
 obtain⟨i,hi,e⟩:=ji hz
 obtain⟨v,hv,ew⟩:=h.ord.Dv h.ok i (by rw[<- h.sgn];exact hi)
 have t:=h.tells v hv
 rw[ew]at t
 have w0:=dH R hv (h:=0) #[0] #[0]
 unfold My.sgn at t
 rw[jA,getD_at hi,e,getD_at #[0]]at t
 rw[<- t]
 exact hs _ (jH _)
theorem Tells.on{signs:LI}(h:Tells wide rows aw signs aK a b)(hv:mi wide v):Tells wide rows aw signs aK (aY rows v a) (aY aw v b):=fun u hu=>by
 have:=h (v++u) fun f hf=>by
  rcases Bn.mp hf with z|z
  ·exact hv f z
  ·exact hu f z
 rw[cP,cP]at this
 exact this
theorem cu.AW{signs:LI}(h:cu wide rows aw signs aK)(R:aI many wide rows)(m0:1<=many):aw.length<=many:=by
 have ex:∀ i:Nat,∃ p:Int,i<aw.length->(0<=p/\p<(many:Int))/\Tells wide rows aw signs aK p (i:Int):=fun i=>by
  by_cases c:i<aw.length
  ·obtain⟨v,hv,ew⟩:=h.ord.Dv h.ok i c
   refine⟨aY rows v 0,fun _=>⟨dH R hv #[0] #[0],?_⟩⟩
   have:=Tells.on h.tells hv
   rw[ew]at this
   exact this
  ·exact⟨0,fun z=>absurd z c⟩
 obtain⟨F,hF⟩:=Classical.axiomOfChoice ex
 have nd:((jd aw.length).map F).Nodup:=Js.mpr (List.nodup_range.imp_of_mem fun {a b} ha hb ne z=>ne (by
  have ia:=jm.mp ha
  have ib:=jm.mp hb
  have ta:=(hF a ia).2
  have tb:=(hF b ib).2
  rw[z]at ta
  have:=h.apart (a:Int) (b:Int) ⟨by omega,by omega⟩ ⟨by omega,by omega⟩ (Tells.right ta tb)
  omega))
 have:=cV many nd fun q hq=>by
  obtain⟨i,hi,rfl⟩:=jO.mp hq
  exact(hF i (jm.mp hi)).1
 rw[bq,jg]at this
 exact this
theorem G1:∀ r:LI,Qh (Tn K H 0) (r.map V.int) (r.map V.int)
 | []=>.nil
 | i :: r=>.cons ⟨i,rfl,rfl⟩ (G1 r)
theorem Mr:∀ {rows:LL} {as bs:List QQ},aP H as rows->aP H bs rows->Qh (Tn K H 1) (as.map V.ref) (bs.map V.ref)
 | [],as,bs,h,h'=>by
  cases h
  cases h'
  exact .nil
 | r :: rows,as,bs,h,h'=>by
  cases h with
  | cons h t =>
   cases h' with
   | cons h' t'=>exact .cons (.inr ⟨_,_,_,_,rfl,rfl,bS h,bS h',G1 r⟩) (Mr t t')
theorem G0:∀ r:LI,Qh (Tn K H 1) (r.map V.int) (r.map V.int)
 | []=>.nil
 | i :: r=>.cons (.inl ⟨i,rfl,rfl⟩) (G0 r)
theorem bA.eqD{m r g m' r' g':QQ}{signs:LI}(M:bA H m r g wide rows signs)(M':bA H m' r' g' wide rows signs):Qh (Tn K H 2) [.int wide,.ref r,.ref g] [.int wide,.ref r',.ref g']:=by
 obtain⟨dC,h1,h2⟩:=M.rows
 obtain⟨wU,Ef,Dh⟩:=M'.rows
 exact .cons (.inl ⟨_,rfl,rfl⟩) (.cons (.inr ⟨_,_,_,_,rfl,rfl,bS h1,bS Ef,Mr h2 Dh⟩) (.cons (.inr ⟨_,_,_,_,rfl,rfl,bS M.sgn,bS M'.sgn,G0 signs⟩) .nil))
inductive IM (vs:List V) (H:Hp) (Q:VK) (E:XK):Prop
 | mk (b t:Nat) (_:vs=[.int b,.int t]) (_:1<=b) (_:(t:Int)<100000) (_:(b:Int)^t<NB) (_:Q (.int ((b^t:Nat):Int)) H)
inductive MH (K:Wl) (vs:List V) (H:Hp) (Q:VK) (E:XK):Prop
 | mk (r l:QQ) (many wide:Nat) (dC:List QQ) (rows:LL) (L:LI) (_:vs=[.ref r,.ref l,.int wide]) (_:H r=some (.tup #[37])) (_:aP H dC rows) (_:aI many wide rows) (_:H l=some (.lst (L.map V.int))) (_:(∀ h∈L,0<=h/\h<(many:Int))) (_:(wide<=1000/\wide*L.length<=1000/\L.length<=1000)) (_:∀ (l':QQ) (H':Hp),aB H H'->H' l'=some (.lst ((ER rows wide L).map V.int))->Q (.ref l') H')
inductive MG (K:Wl) (vs:List V) (H:Hp) (Q:VK) (E:XK):Prop
 | mk (m r g:QQ) (wide k:Nat) (rows:LL) (signs:LI) (_:vs=[.ref m,.int k]) (_:bA H m r g wide rows signs) (_:aI rows.length wide rows) (_:signs.length=rows.length) (_:(1<=rows.length/\rows.length<1000)) (_:(2<=wide/\wide<=1000)) (_:wide^k<=1000) (_:∀ (m' r' g':QQ) (aw:LL) (aK:LI) (H':Hp),aB H H'->bA H' m' r' g' (wide^k) aw aK->cu (wide^k) (lh wide k rows) aw signs aK->Q (.ref m') H')
theorem Hm(rows:LL)(w:Nat)(L:LI):ER rows (w+1) L=ER rows w L++L.map fun h=>stepI rows h (w:Int):=by
 unfold ER
 rw[js,JL,JV]
theorem aaG{w:Nat}(R:aI many w rows)(hh:0<=h/\h<(many:Int)):∀ k,∀ x∈IE rows w h k,0<=x/\x<(many:Int)
 | 0,x,hx=>by rw[jK.mp hx];exact hh
 | k+1,x,hx=>by
  obtain⟨f,hf,Ft⟩:=Jn.mp hx
  obtain⟨y,hy,rfl⟩:=jO.mp Ft
  have i:=aaG R hh k y hy
  have:=jm.mp hf
  exact cA R i.1 i.2 #[0] #[0]
theorem Cj{w k:Nat}(w1:1<=w)(h:i<=k):w^i<=w^k:=ju w1 h
theorem two_le_pow{w k:Nat}(w2:2<=w):k<=w^k:=zK (zw #[0])
section
theorem pB:aJ ["base","times","power","turn"] ["base","times"] (ar Aw):=cS #[3]
theorem Ay:aJ ["rows","reached","wide","farther","figure"] ["rows","reached","wide"] (ar wJ):=cS #[3]
theorem AN:bF ["rows","reached","wide","farther","figure"] (ar wJ) ["here","figure","rows"] [none,some 4,some 0] ⟨.function,[#[62],("here",.local),("figure",.free),("rows",.free)],false,false,[]⟩:=rV #[3]
theorem fH:aJ ["machine","power","wide","small","rows","raised_rows","here","reached","turn"] ["machine","power"] (ar EV):=cS #[3]
theorem Z2(F:br K "power_of" "power_of" Aw dV f fd)(aL:mg "range" = none):bc P w K mg base eB 1 f fd ["base","times"] IM:=by
 refine F.ok pB #[6] #[1]
 ·obtain⟨b,t,rfl,_⟩:=h
  rfl
 obtain⟨b,t,rfl,b1,t1,bt,k⟩:=h
 have Sq:∀ {x:Int},0<=x->x<NB->x<RL:=fun {x} hx Ft=>by
  have:=TB
  have:=MZ
  have q:NB*1<=NB*NB:=Jl (zH _) #[0] #[7] #[0]
  omega
 have pe:∀ i:Nat,(b:Int)^i=((b^i:Nat):Int):=fun i=>by push_cast;rfl
 have le:∀ i:Nat,i<=t->((b^i:Nat):Int)<NB:=fun i hi=>by
  have:=Cj b1 hi
  rw[pe]at bt
  omega
 refine⟨_,(ag (az (i:=2) pB.nd ah)
   (ag (bI PassesOwn.never rfl (bG rfl aL #[44]) (aS (i:=3) pB.nd) (ao (az (i:=2) pB.nd (aC Q9 (pv 2) #[98]))))
   (ao (aH (pv 2))))),?_⟩
 exists 0
 refine⟨_,rfl,(t:Int),rfl,by omega,by omega,cH (fun i σ' H'=>∃ v,σ'=[some (.int b),some (.int t),some (.int ((b^i:Nat):Int)),v]/\H'=H) ⟨none,rfl,rfl⟩ ?_ ?_⟩
 ·rintro i σ' H' hi ⟨v,rfl,rfl⟩
  rw[jA]at hi
  have l0:=le i #[0]
  have lb:(b:Int)<NB:=by
   have:=le 1 #[0]
   rw[Jr]at this
   exact this
  refine⟨_,rfl,_,rfl,_,_,rfl,rfl,⟨⟨by omega,Sq #[0] l0⟩,⟨by omega,Sq #[0] lb⟩⟩,some (.int (0+(i:Int))),?_,rfl⟩
  rw[JJ]
  push_cast
  rfl
 ·exists 11
  rw[jA]
  exact⟨_,rfl,k⟩
theorem OU(F:br K "read_on" "read_on" wJ dV f fd)(aL:mg "range" = none):bc P w K mg base eB 1 f fd ["rows","reached","wide"] (MH K):=by
 refine F.ok Ay #[6] #[1]
 ·obtain⟨r,l,many,wide,dC,rows,L,rfl,_⟩:=h
  rfl
 obtain⟨r,l,many,wide,dC,rows,L,rfl,oG,hA,R,hl,hL,⟨w1,ll,l1⟩,k⟩:=h
 refine⟨_,(ag (az (i:=3) Ay.nd (bw af))
   (ag (bI PassesOwn.never rfl (bG rfl aL #[57]) (aS (i:=4) Ay.nd) (ao (bD (fO Wn yO yP Hj (pv 3) (aa (eK rfl AN (df #[92]) (fun _ _ _ _=>(aS (i:=0) AN.nd)) (fun _ _ _ _=>(aF (Bh K) (aF (Bh K) (pv 2) #[98] #[4]) #[92] #[4]))) af)))))
   (ao (aH (pv 3))))),?_⟩
 exists 0
 refine⟨#[13],fun D hD=>?_⟩
 have sD:=ak hD #[82]
 refine⟨_,rfl,(wide:Int),rfl,by omega,by omega,cH (fun i σ' H'=>∃ v,σ'=[some #[106],some (.ref l),some #[74],some #[66],v]/\aB H H'/\H' D=some (.lst ((ER rows i L).map V.int))) ⟨none,rfl,sD,ae⟩ ?_ ?_⟩
 ·rintro i σ' H1 hi ⟨v,rfl,s1,F7⟩
  rw[jA]at hi
  rw[JO]
  have li:(ER rows i L).length+L.length<=1000:=by
   have h1:=Mp rows (i+1) L
   rw[Hm,jG,bq]at h1
   have:=zv L.length (show i+1<=wide by omega)
   omega
  have Fs:=s1 _ _ hl
  exists _,rfl,.inl ⟨rfl,_,bV F7⟩,_,rfl,l,rfl,⟨_,bV Fs⟩
  refine lN (K:=K) (xs:=L.map V.int) (fun B j ys H'=>aB H1 H'/\ys=((L.take j).map fun h=>stepI rows h (i:Int)).map V.int) (fun B hB=>⟨ak hB _,rfl⟩) (fun B j ys H' _ ⟨e,_⟩=>bV (e _ _ Fs)) ?_ ?_
  ·rintro B j y ys H2 Q' hB hj hy ⟨s2,rfl⟩ k'
   obtain⟨x,rfl,hx⟩:=bZ hj
   have jl:=(iH hx).1
   have xi:=hL x (pZ hx)
   have J0:=s1.trans s2
   obtain⟨ra,rr,e1,e2,e3⟩:=fX (hA.same fun b xs e=>J0 _ _ e) R xi.1 xi.2 (show(0:Int)<=(i:Int) by omega) (show(i:Int)<(wide:Int) by omega)
   refine⟨_,rfl,_,rfl,r,_,_,_,rfl,rfl,bS (J0 _ _ oG),e1,_,rfl,ra,_,_,_,rfl,rfl,bS e2,e3,k' _ _ hy (aA (by rw[bq,bq,jQ];omega)) ⟨ax s2 hB,?_⟩⟩
   rw[jS,hx,jF,jF]
   rfl
  ·rintro B ys H2 hB hy ⟨s2,rfl⟩
   rw[bq,jU]at hy
   have T8:=s2 _ _ F7
   refine⟨D,B,_,_,rfl,rfl,T8,hy,?_,?_⟩
   ·rw[bq,bq,bq]
    exact jf li #[7]
   ·exact⟨_,rfl,ax (s1.trans s2) hD,by rw[ae,Hm,jF]⟩
 ·rintro σ' H1 ⟨v,rfl,s1,F7⟩
  rw[jA]at F7
  exact⟨_,rfl,k D H1 s1 F7⟩
theorem SG(F:br K "raised" "raised" EV dV f fd)(lL:bp P w K mg base "power_of" 1 ["base","times"] [] IM)(hX:bp P w K mg base "least" 5 ["machine"] [] (Dx K))(BR:bp P w K mg base "read_on" 1 ["rows","reached","wide"] [] (MH K))(tF:mg "MOST_WIDE" = some (.int 1000 t1))(aL:mg "range" = none)(aZ:mg "len" = none)(aV:mg "tuple" = none):bc P w K mg base eB 6 f fd ["machine","power"] (MG K):=by
 refine F.ok fH #[6] #[1]
 ·obtain⟨m,r,g,wide,k,rows,signs,rfl,_⟩:=h
  rfl
 obtain⟨m,r,g,wide,kk,rows,signs,rfl,M,R,ls,⟨n0,n1⟩,⟨w2,ww⟩,wk,k⟩:=h
 have kb:=two_le_pow (k:=kk) w2
 have wp:((wide^kk:Nat):Int)<=1000:=by omega
 have nb:(wide:Int)^kk<NB:=by
  have e:(wide:Int)^kk=((wide^kk:Nat):Int):=by push_cast;rfl
  rw[e]
  exact zQ wp #[3]
 refine B1 (aU (mK.mk (az (i:=2) fH.nd (aW lL hr (aa #[12] #[44]))))
   (aU (mK.mk (bK (aE Q8 (pv 2) (de (v:=.int 1000) rfl tF ⟨_,rfl⟩) (aM _)) (ao EL) aR))
   (aU (mK.mk (az (i:=3) fH.nd (aW hX hr #[72])))
   (aU (mK.mk (az (i:=4) fH.nd (aF aG (pv 3) ah #[4])))
   (aU (mK.mk (az (i:=5) fH.nd (bw af)))
   (aU (mK.mk (bI PassesOwn.never rfl (bG rfl aL (aa (ay aN #[26] aZ ck #[88]) af)) (aS (i:=6) fH.nd) (ag (az (i:=7) fH.nd (bw (aa (pv 6) af)))
   (ag (bI PassesOwn.never rfl (bG rfl aL #[44]) (aS (i:=8) fH.nd) (ao (az (i:=7) fH.nd (aW BR hr (aa (pv 4) (aa (pv 7) (aa #[12] af)))))))
   (ao (bD (fO Wn Wq Wr bJ (pv 5) (aa (bj bg #[26] aV cy (aa (pv 7) af)) af))))))))
   (sx (adN (amL hX hr (bH (RK (bH (oX.mk (pv 2)) (bH (oX.mk (bj bg #[26] aV cy #[102])) (bH (oX.mk (aF aG (pv 3) ah #[4])) AA)))) AA)))))))))) ?_
 exists 0
 exists _,rfl,m,_,_,_,rfl,rfl,bS M.tup,rfl,_,rfl,wide,kk,rfl,by omega,by omega,nb
 refine⟨_,rfl,_,_,rfl,rfl,_,rfl,ou (fun z=>by omega) #[87]⟩
 refine⟨_,rfl,m,r,g,rows.length,wide,rows,signs,rfl,M,R,ls,⟨n0,n1⟩,ww,fun m1 r1 g1 dB mU H1 s1 M1 L1=>?_⟩
 obtain⟨acL,hr1,hA1⟩:=M1.rows
 have LN:acL.length=dB.length:=hA1.length
 have AW:=L1.AW R n0
 exists _,rfl,m1,_,_,_,rfl,rfl,bS M1.tup,rfl
 refine⟨#[13],fun RR hRR=>?_⟩
 have sR:=ak hRR #[82]
 exists 1
 refine cU (t:=sU _ _ _) (fun σ' H'=>∃ (as:List QQ) (v6 v7 v8:OV),σ'=[some #[58],some (.int kk),some (.int ((wide^kk:Nat):Int)),some (.ref m1),some (.ref r1),some (.ref RR),v6,v7,v8]/\aB H1 H'/\H' RR=some #[35]/\aP H' as (lh wide kk dB)) ?_ #[30]
 exists 16
 ·refine⟨_,rfl,r1,_,rfl,.inr (bS (sR _ _ hr1)),_,rfl,by rw[bq];omega,by rw[bq];omega,?_⟩
  rw[bq,LN]
  refine cH (fun i σ' H'=>∃ (as:List QQ) (v6 v7 v8:OV),σ'=[some #[58],some (.int kk),some (.int ((wide^kk:Nat):Int)),some (.ref m1),some (.ref r1),some (.ref RR),v6,v7,v8]/\aB H1 H'/\H' RR=some #[35]/\aP H' as ((jd i).map fun h:Nat=>IE dB wide (h:Int) kk)) ⟨[],none,none,none,rfl,sR,ae,.nil⟩ ?_ ?_
  ·rintro i σ' H2 hi ⟨as,v6,v7,v8,rfl,s2,hR2,A2⟩
   rw[jA]at hi
   rw[JO]
   have las:as.length=i:=by rw[A2.length,bq,jg]
   refine⟨_,rfl,#[45],fun l0 hl0=>?_⟩
   have s0:=ak hl0 (HO.lst [V.int (i:Int)])
   exists 1
   refine cU (t:=sU _ _ _) (fun σ' H'=>∃ (l:QQ) (v8:OV),σ'=[some #[58],some (.int kk),some (.int ((wide^kk:Nat):Int)),some (.ref m1),some (.ref r1),some (.ref RR),some (.int i),some (.ref l),v8]/\aB H2 H'/\H' l=some (.lst ((IE dB wide (i:Int) kk).map V.int))) ?_ #[30]
   exists 16
   ·refine⟨_,rfl,(kk:Int),rfl,by omega,by omega,?_⟩
    refine cH (fun j σ' H'=>∃ (l:QQ) (v8:OV),σ'=[some #[58],some (.int kk),some (.int ((wide^kk:Nat):Int)),some (.ref m1),some (.ref r1),some (.ref RR),some (.int i),some (.ref l),v8]/\aB H2 H'/\H' l=some (.lst ((IE dB wide (i:Int) j).map V.int))) ⟨l0,v8,rfl,s0,ae⟩ ?_ ?_
    ·rintro j σ' H3 hj ⟨l,v8,rfl,s3,Ot⟩
     rw[jA]at hj
     have s13:=s2.trans s3
     have lj:wide*(IE dB wide (i:Int) j).length<=1000:=by
      rw[rY,zR,<- JJ]
      exact jf (Cj #[0] #[0]) wk
     have lj2:(IE dB wide (i:Int) j).length<=1000:=by
      rw[rY]
      exact jf (Cj #[0] #[0]) wk
     refine⟨_,rfl,_,rfl,_,rfl,m,_,_,_,rfl,rfl,bS (s13 _ _ (s1 _ _ M.tup)),rfl,r1,l,dB.length,wide,acL,dB,_,rfl,s13 _ _ hr1,hA1.same (fun b xs e=>s13 _ _ e),L1.ok,Ot,aaG L1.ok ⟨by omega,by omega⟩ j,⟨ww,lj,lj2⟩,fun l' H4 s4 Sf=>?_⟩
     exact⟨l',_,rfl,s3.trans s4,Sf⟩
    ·rintro σ' H3 ⟨l,v8,rfl,s3,Ot⟩
     rw[jA]at Ot
     exact dq _ _ ⟨l,_,rfl,s3,Ot⟩
   rintro σ' H3 ⟨l,v8,rfl,s3,Ot⟩
   have P8:=s3 _ _ hR2
   refine⟨_,rfl,.inl ⟨rfl,_,bV P8⟩,_,rfl,l,_,rfl,.inl ⟨bV Ot,fun T hT=>?_⟩⟩
   have nR:RR≠T:=aq P8 hT
   have sT:=ak hT (HO.tup ((IE dB wide (i:Int) kk).map V.int))
   refine⟨RR,_,_,rfl,rfl,sT _ _ P8,aA #[31],?_⟩
   have up:∀ b xs,(upd H3 T (.tup ((IE dB wide (i:Int) kk).map V.int))) b=some #[40]->(upd (upd H3 T (.tup ((IE dB wide (i:Int) kk).map V.int))) RR (.lst (as.map V.ref++[V.ref T]))) b=some #[40]:=fun b xs e=>by
    rw[aj (aQ e (sT _ _ P8) #[2])]
    exact e
   refine⟨as++[T],_,_,_,rfl,ax ((s2.trans s3).trans sT) hRR,by rw[ae,jF];rfl,?_⟩
   rw[js,jF]
   exact aP.snoc (A2.same fun b xs e=>up _ _ (sT _ _ (s3 _ _ e))) (up _ _ ae)
  ·rintro σ' H2 ⟨as,v6,v7,v8,rfl,s2,hR2,A2⟩
   rw[jA]at A2
   exact dq _ _ ⟨as,_,_,_,rfl,s2,hR2,A2⟩
 rintro σ' H2 ⟨as,v6,v7,v8,rfl,s2,hR2,A2⟩
 refine⟨_,rfl,_,rfl,RR,_,rfl,.inl ⟨bV hR2,fun rt hrt=>?_⟩⟩
 have s3:=ak hrt (HO.tup (as.map V.ref))
 have s23:=s2.trans s3
 refine⟨_,rfl,m1,_,_,_,rfl,rfl,bS (s23 _ _ M1.tup),rfl,#[17],fun mm hmm=>?_⟩
 have s4:=ak hmm (HO.tup [V.int ((wide^kk:Nat):Int),V.ref rt,V.ref g1])
 refine⟨mm,rt,g1,dB.length,wide^kk,lh wide kk dB,mU,rfl,⟨ae,⟨as,s4 _ _ ae,A2.same fun b xs e=>s4 _ _ (s3 _ _ e)⟩,s4 _ _ (s23 _ _ M1.sgn)⟩,Ml #[0] L1.ok,L1.sgn,⟨L1.pos,by omega⟩,wk,fun m' r' g' aw aK H5 s5 M5 L5=>?_⟩
 exact k m' r' g' aw aK H5 (((s1.trans s23).trans s4).trans s5) M5 (L5.of (Mm #[0] R L1.ok #[0] L1.pos L1.tells))
end
section
variable[DecidableEq α]
def Bv(st:α->Nat->α)(b:α)(v:LI):α:=v.foldl (fun p f=>st p f.toNat) b
theorem rh(st:α->Nat->α)(b:α)(v:LI)(f:Int):Bv st b (v++[f])=st (Bv st b v) f.toNat:=by
 unfold Bv
 rw[JC]
 rfl
structure FJ(st:α->Nat->α)(b:α)(wide:Nat)(ps:List α)(rows:LL):Prop where
 nd:ps.Nodup
 hd:ps[0]?=some b
 le:rows.length<=ps.length
 row:∀ (i:Nat) (r:LI),rows[i]?=some r->r.length=wide
 to:∀ (i:Nat) (r:LI) (f:Nat) (t:Int),rows[i]?=some r->r[f]?=some t->∃ (n:Nat) (p:α),t=(n:Int)/\ps[i]?=some p/\ps[n]?=some (st p f)
 ord:bM 0 1 rows=some ps.length
 re:∀ p∈ps,∃ v,mi wide v/\Bv st b v=p
structure CS(st:α->Nat->α)(b:α)(wide:Nat)(ps:List α)(rows:LL)(p:α)(r:LI):Prop where
 nd:ps.Nodup
 hd:ps[0]?=some b
 at_:ps[rows.length]?=some p
 row:∀ (i:Nat) (r:LI),rows[i]?=some r->r.length=wide
 to:∀ (i:Nat) (r:LI) (f:Nat) (t:Int),rows[i]?=some r->r[f]?=some t->∃ (n:Nat) (p:α),t=(n:Int)/\ps[i]?=some p/\ps[n]?=some (st p f)
 now:∀ (f:Nat) (t:Int),r[f]?=some t->∃ n:Nat,t=(n:Int)/\ps[n]?=some (st p f)
 ord:∃ m,bM 0 1 rows=some m/\rows.length<m/\ba m r=some ps.length
 re:∀ p∈ps,∃ v,mi wide v/\Bv st b v=p
variable{st:α->Nat->α}{b:α}{ps:List α}{p:α}
theorem px:∀ {r:LI} {m k:Nat} {t:Int},ba m r=some k->ba m (r++[t])=if t=(k:Int)then some (k+1)else if t<(k:Int)then some k else none
 | [],m,k,t,h=>by
  have e:m=k:=Option.some.inj h
  subst e
  rfl
 | x :: r,m,k,t,h=>by
  have h':(if x=(m:Int)then ba (m+1) r else if x<(m:Int)then ba m r else none)=some k:=h
  show(if x=(m:Int)then ba (m+1) (r++[t])else if x<(m:Int)then ba m (r++[t])else none)=_
  by_cases c:x=(m:Int)
  ·rw[if_pos c]at h' ⊢;exact px h'
  ·rw[if_neg c]at h' ⊢
   by_cases d:x<(m:Int)
   ·rw[if_pos d]at h' ⊢;exact px h'
   ·rw[if_neg d]at h';cases h'
theorem Bt:∀ {rs:LL} {q m k:Nat} {r:LI} {k':Nat},bM q m rs=some k->q+rs.length<k->ba k r=some k'->bM q m (rs++[r])=some k'
 | [],q,m,k,r,k',h,hq,hr=>by
  have e:m=k:=Option.some.inj h
  subst e
  show(if q<m then(ba m r).bind fun m'=>bM (q+1) m' []else none)=some k'
  rw[if_pos (by simpa using hq),hr]
  rfl
 | x :: rs,q,m,k,r,k',h,hq,hr=>by
  obtain⟨c,m1,o1,o2⟩:=ED h
  show(if q<m then(ba m x).bind fun m'=>bM (q+1) m' (rs++[r])else none)=some k'
  rw[if_pos c,o1]
  exact Bt o2 (by rw[jT]at hq;omega) hr
theorem FJ.start(st:α->Nat->α)(b:α)(wide:Nat):FJ st b wide [b] []:=
 ⟨jx.mpr ⟨by simp,Jk⟩,rfl,je _,(fun i r h=>by cases h),(fun i r f t h=>by cases h),rfl,fun p hp=>⟨[],(fun f hf=>by cases hf),by rw[jK.mp hp];rfl⟩⟩
theorem FJ.next(g:FJ st b wide ps rows)(h:ps[rows.length]?=some p):CS st b wide ps rows p []:=
 ⟨g.nd,g.hd,h,g.row,g.to,(fun f t h=>by cases h),⟨ps.length,g.ord,(iH h).1,rfl⟩,g.re⟩
theorem CS.old(g:CS st b wide ps rows p r)(h:ps[n]?=some (st p r.length)):CS st b wide ps rows p (r++[(n:Int)]):=by
 obtain⟨m,o1,o2,o3⟩:=g.ord
 have nl:=(iH h).1
 refine⟨g.nd,g.hd,g.at_,g.row,g.to,fun f t hf=>?_,⟨m,o1,o2,?_⟩,g.re⟩
 ·rcases snoc_cases hf with z|⟨rfl,rfl⟩
  ·exact g.now f t z
  ·exact⟨n,rfl,h⟩
 ·rw[px o3,if_neg #[0],if_pos #[0]]
theorem CS.new(g:CS st b wide ps rows p r)(hw:r.length<wide)(h:st p r.length∉ps):CS st b wide (ps++[st p r.length]) rows p (r++[(ps.length:Int)]):=by
 obtain⟨m,o1,o2,o3⟩:=g.ord
 have up:∀ (n:Nat) (x:α),ps[n]?=some x->(ps++[st p r.length])[n]?=some x:=fun n x hx=>by
  rw[jr (iH hx).1]
  exact hx
 refine⟨nd_snocA g.nd h,up _ _ g.hd,up _ _ g.at_,g.row,fun i r' f t h1 h2=>?_,fun f t hf=>?_,⟨m,o1,o2,?_⟩,fun x hx=>?_⟩
 ·obtain⟨n,q,e1,e2,e3⟩:=g.to i r' f t h1 h2
  exact⟨n,q,e1,up _ _ e2,up _ _ e3⟩
 ·rcases snoc_cases hf with z|⟨rfl,rfl⟩
  ·obtain⟨n,e1,e2⟩:=g.now f t z
   exact⟨n,e1,up _ _ e2⟩
  ·exact⟨ps.length,rfl,by rw[JH (jE _),Jw];rfl⟩
 ·rw[px o3,if_pos rfl,jG,jh]
 ·rcases Bn.mp hx with z|z
  ·exact g.re x z
  ·obtain⟨v,hv,e⟩:=g.re p (pZ g.at_)
   refine⟨v++[(r.length:Int)],fun f hf=>?_,?_⟩
   ·rcases Bn.mp hf with y|y
    ·exact hv f y
    ·rw[jK.mp y];omega
   ·rw[rh,e,jA,jK.mp z]
where
 nd_snocA {xs:List α} {x:α} (h:xs.Nodup) (n:x∉xs):(xs++[x]).Nodup:=
  JQ.mpr ⟨h,jx.mpr ⟨by simp,Jk⟩,fun a ha c hc e=>n (by rw[<- jK.mp hc,<- e];exact ha)⟩
theorem CS.done(g:CS st b wide ps rows p r)(hw:r.length=wide):FJ st b wide ps (rows++[r]):=by
 obtain⟨m,o1,o2,o3⟩:=g.ord
 have lt:=(iH g.at_).1
 refine⟨g.nd,g.hd,by rw[jG,jh];omega,fun i r' h=>?_,fun i r' f t h1 h2=>?_,Bt o1 #[0] o3,g.re⟩
 ·rcases snoc_cases h with z|⟨_,rfl⟩
  ·exact g.row i r' z
  ·exact hw
 ·rcases snoc_cases h1 with z|⟨rfl,rfl⟩
  ·exact g.to i r' f t z h2
  ·obtain⟨n,e1,e2⟩:=g.now f t h2
   exact⟨n,p,e1,g.at_,e2⟩
theorem FJ.ok(g:FJ st b wide ps rows)(h:rows.length=ps.length):aI rows.length wide rows:=by
 refine⟨rfl,fun r hr=>?_,fun r hr v hv=>?_⟩
 ·obtain⟨i,hi,e⟩:=ji hr
  exact g.row i r (by rw[jB hi,e])
 ·obtain⟨i,hi,e⟩:=ji hr
  obtain⟨f,hf,ef⟩:=ji hv
  obtain⟨n,p,e1,_,e3⟩:=g.to i r f v (by rw[jB hi,e]) (by rw[jB hf,ef])
  have:=(iH e3).1
  omega
theorem FJ.walk(g:FJ st b wide ps rows)(h:rows.length=ps.length):∀ (v:LI) (n:Nat) (p:α),mi wide v->ps[n]?=some p->∃ k:Nat,aY rows v (n:Int)=(k:Int)/\ps[k]?=some (v.foldl (fun p f=>st p f.toNat) p)
 | [],n,p,_,hp=>⟨n,rfl,hp⟩
 | f :: v,n,p,hv,hp=>by
  have hf:=hv f jD
  have nl:=(iH hp).1
  have nr:n<rows.length:=by omega
  have lr:=g.row n _ (jB nr)
  have fl:f.toNat<(rows[n]).length:=by omega
  obtain⟨k,q,e1,e2,e3⟩:=g.to n _ f.toNat _ (jB nr) (jB fl)
  rw[hp]at e2
  have eq:=Option.some.inj e2
  subst eq
  obtain⟨j,e4,e5⟩:=g.walk h v k _ (fun x hx=>hv x (jI _ hx)) e3
  refine⟨j,?_,e5⟩
  show aY rows v (stepI rows (n:Int) f)=_
  unfold stepI
  rw[jA,getD_at nr,getD_at fl,e1]
  exact e4
theorem FJ.told(g:FJ st b wide ps rows)(h:rows.length=ps.length)(hv:mi wide v):∃ k:Nat,aY rows v 0=(k:Int)/\ps[k]?=some (Bv st b v):=g.walk h v 0 b hv g.hd
end
inductive aaP (C:QQ) (vs:List V) (H:Hp) (Q:VK) (E:XK):Prop
 | mk (x:QQ) (n:Int) (_:vs=[.ref x,.int n]) (_:H x=some (.ext (oa x C))) (_:(n.natAbs.log2<1920/\(Str.ofString (toString n)).length<=1000)) (_:∀ d,H d=none->d≠x->Q .non (upd (upd H x (.ext (iJ x C d))) d (.xd [("most",.int n)])))
section
theorem tX:aJ ["self","most"] ["self","most"] (ar fV):=cS #[3]
theorem acj(F:br K "__init__" "TooGreat.__init__" fV dV f fd)(M:Cw K C f0)(na:Ws K #[20] "most" = some none)(cO:mg "FigureError" = some (.ref F0))(Ed:Ye K (.ref F0) "__getattribute__" = some (some (.builtin "type.__getattribute__")))(ES:yY K F0 #[95]=true)(Ec:yZ K (.ref F0) #[95] "__init__" = some (.val (.builtin "ValueError.__init__"))):bc P w K mg base eB 1 f fd ["self","most"] (aaP C):=by
 refine F.ok tX #[6] #[1]
 ·obtain⟨x,n,rfl,_⟩:=h
  rfl
 obtain⟨x,n,rfl,hx,⟨l1,l2⟩,k⟩:=h
 refine⟨_,(ag (bD (L9 rfl cO Ed ES Ec (aa #[98] (aa (acz (Md ae2 (Md (ae1 #[92]) acC))) af))))
   (ao (acG #[98] #[92]))),?_⟩
 exists 0
 refine⟨_,rfl,_,rfl,.inr ⟨n,rfl,l1,l2,fun z=>?_⟩⟩
 exists x,C,f0,_,rfl,hx,M.ex
 exact⟨_,rfl,_,rfl,x,C,f0,rfl,hx,M,na,fun d hd ne=>k d hd ne⟩
end
def iG(u:LI):List Key:=u.map Sum.inl
theorem pG(u:LI):(iG u).map kV=u.map V.int:=by
 unfold iG
 rw[JI]
 rfl
theorem Bi(h:iG u=iG v):u=v:=by
 have:=congrArg (List.map fun k:Key=>match k with|Sum.inl i=>i|Sum.inr _=>0) h
 unfold iG at this
 rw[JI,JI]at this
 have e:∀ w:LI,w.map ((fun k:Key=>match k with|Sum.inl i=>i|Sum.inr _=>0) ∘ Sum.inl)=w:=fun w=>by
  show w.map (fun i=>i)=w
  exact List.map_id' w
 rw[e,e]at this
 exact this
def C9(ps:LL)(k:Nat):List #[59]:=(ps.zipIdx k).map fun p=>(iG p.1,V.int (p.2:Int))
theorem Bj(ps:LL)(k:Nat):(C9 ps k).length=ps.length:=by
 unfold C9
 rw[bq,Zn]
theorem Eo:∀ {ps:LL} {k:Nat} {u:LI},u∉ps->fq (C9 ps k) (iG u)=none
 | [],_,_,_=>rfl
 | p :: ps,k,u,h=>by
  rw[show C9 (p :: ps) k=(iG p,V.int (k:Int)) :: C9 ps (k+1)from rfl,ft (fun z=>h (by rw[<- Bi z];exact jD))]
  exact Eo fun z=>h (jI _ z)
theorem W9:∀ {ps:LL} {k n:Nat} {u:LI},ps.Nodup->ps[n]?=some u->fq (C9 ps k) (iG u)=some (.int ((k+n:Nat):Int))
 | [],_,_,_,_,h=>by cases h
 | p :: ps,k,0,u,_,h=>by
  cases h
  exact mJ rfl
 | p :: ps,k,n+1,u,nd,h=>by
  have nd' := jx.mp nd
  have h':ps[n]?=some u:=h
  rw[show C9 (p :: ps) k=(iG p,V.int (k:Int)) :: C9 ps (k+1)from rfl,ft (fun z=>nd'.1 (by rw[Bi z];exact pZ h')),W9 nd'.2 h']
  congr 3
  omega
theorem ab4(h:u∉ps):putK (C9 ps 0) (iG u) (V.int (ps.length:Int))=C9 (ps++[u]) 0:=by
 rw[Mg _ (Eo h)]
 unfold C9
 rw[ZH,jF,Jc]
 rfl
theorem ab3{p:List Key×V}(h:(C9 ps 0)[i]?=some p):∃ u,ps[i]?=some u/\p.1=iG u:=by
 unfold C9 at h
 rw[jN,List.getElem?_zipIdx]at h
 cases e:ps[i]? with
 | none=>rw[e]at h;cases h
 | some u =>
  rw[e]at h
  cases h
  exact⟨u,rfl,rfl⟩
theorem Pn{n:Int}(h0:0<=n)(h:n<10^18):n.natAbs.log2<1920/\(Str.ofString (toString n)).length<=1000:=by
 have hn:n.natAbs<10^18:=by
  have e:((n.natAbs:Nat):Int)=n:=Int.natAbs_of_nonneg h0
  have:((n.natAbs:Nat):Int)<((10^18:Nat):Int):=by rw[e];exact h
  exact Int.ofNat_lt.mp this
 constructor
 ·rcases Zk n.natAbs with z|z
  ·rw[z];decide
  ·exact(QO #[0]).mpr (zN hn #[7])
 ·have q:=int_text_length_le10 (a:=n) (k:=18) #[7] hn
  rw[ofString_length]
  omega
structure Wlk(C x:QQ)(wide:Nat)(W:Hp->Prop)(J2:LI->Prop)(st:LI->Nat->LI)(b0:LI)(sg:LI->Int)(spB spS spG:Sp):Prop where
 same:∀ H H',aB H H'->W H->W H'
 ob:∀ H,W H->∃ (dx:QQ) (fs:List (Qm×V)),H x=some #[107]/\fs.lookup ("begin" : Qm)=none/\fs.lookup ("step" : Qm)=none/\fs.lookup ("sign" : Qm)=none
 begin:∀ (H:Hp) (Q:VK) (E:XK),W H->(∀ (t:QQ) (H':Hp),aB H H'->H' t=some (.tup (b0.map V.int))->Q (.ref t) H')->spB [.ref x] H Q E
 step:∀ (H:Hp) (Q:VK) (E:XK) (b:QQ) (u:LI) (f:Nat) (fi:Int),fi=(f:Int)->W H->H b=some (.tup (u.map V.int))->J2 u->f<wide->(∀ (t:QQ) (H':Hp),aB H H'->H' t=some (.tup ((st u f).map V.int))->Q (.ref t) H')->spS [.ref x,.ref b,.int fi] H Q E
 sign:∀ (H:Hp) (Q:VK) (E:XK) (b:QQ) (u:LI),W H->H b=some (.tup (u.map V.int))->J2 u->(∀ H':Hp,aB H H'->Q (.int (sg u)) H')->spG [.ref x,.ref b] H Q E
 ok0:J2 b0
 okS:∀ u f,J2 u->f<wide->J2 (st u f)
theorem Wlk.all{x:QQ}{W:Hp->Prop}{J2:LI->Prop}{st:LI->Nat->LI}{sg:LI->Int}(h:Wlk C x wide W J2 st b0 sg spB spS spG)(hv:mi wide v):J2 (Bv st b0 v):=by
 have:∀ (v:LI) (b:LI),J2 b->mi wide v->J2 (Bv st b v):=by
  intro v
  induction v with
  | nil=>intro b hb _;exact hb
  | cons f v ih =>
   intro b hb hi
   refine ih _ (h.okS _ _ hb ?_) fun g hg=>hi g (jI _ hg)
   have:=hi f jD
   omega
 exact this v b0 h.ok0 hv
inductive Mw (C CT:QQ) (spB spS spG:Sp) (vs:List V) (H:Hp) (Q:VK) (E:XK):Prop
 | mk (x:QQ) (wide most:Nat) (W:Hp->Prop) (J2:LI->Prop) (st:LI->Nat->LI) (b0:LI) (sg:LI->Int) (_:vs=[.ref x,.int wide,.int most]) (_:W H) (_:Wlk C x wide W J2 st b0 sg spB spS spG) (_:wide<=1000) (_:(1<=most/\most<=1000)) (_:(∀ (m' r' g':QQ) (aw ps:LL) (H':Hp),aB H H'->bA H' m' r' g' wide aw (ps.map sg)->FJ st b0 wide ps aw->aw.length=ps.length->ps.length<=most->Q (.ref m') H')) (_:∀ (d:QQ) (H':Hp) (ps:LL),aB H H'->H' d=some (.xd [("most",.int most)])->ps.Nodup->(∀ p∈ps,∃ v,mi wide v/\Bv st b0 v=p)->most<ps.length->E (.ref CT) (some d) H')
section
theorem dZ:aJ ["walk","wide","most","begin","numbers","rows","level","fresh","place","row","figure","there","number"] ["walk","wide","most"] (ar Dw):=cS #[3]
theorem DQ:bF ["walk","wide","most","begin","numbers","rows","level","fresh","place","row","figure","there","number"] (ar Dw) ["place","walk"] [none,some 0] ⟨.function,[#[62],("place",.local),("walk",.free)],false,false,[]⟩:=rV #[3]
theorem Su(F:br K "grown" "grown" Dw dV f fd)(DE:sX P w K mg base C "begin" 1 ["self"] spB)(HB:sX P w K mg base C "step" 2 ["self","place","figure"] spS)(HA:sX P w K mg base C "sign" 1 ["self","place"] spG)(pb:adQ P w K mg base "TooGreat" CT f0 1 ["self","most"] (aaP CT))(aL:mg "range" = none)(aZ:mg "len" = none)(aV:mg "tuple" = none):bc P w K mg base (PB P w) 3 f fd ["walk","wide","most"] (Mw C CT spB spS spG):=by
 refine F.ah9 dZ #[6] #[1]
 ·obtain⟨x,wide,most,W,J2,st,b0,sg,rfl,_⟩:=h
  rfl
 obtain⟨x,wide,most,W,J2,st,b0,sg,rfl,hW0,T,w1,⟨m0,m1⟩,k,kx⟩:=h
 have hu:=pX hr
 obtain⟨dx,fs0,hx0,fB,fS,fG⟩:=T.ob H hW0
 refine B1 (aU (mK.mk (az (i:=3) dZ.nd (O5 DE hr #[98])))
   (aU (mK.mk (az (i:=4) dZ.nd (Mb hu (EK (pv 3) ah Iy))))
   (aU (mK.mk (az (i:=5) dZ.nd (bw af)))
   (aU (mK.mk (az (i:=6) dZ.nd (bw #[79])))
   (aU (mK.mk (iY PassesOwn.leaving (Bw (pv 6) (fun _=>rfl)) (ag (az (i:=7) dZ.nd (bw af))
   (ag (bI PassesOwn.leaving rfl (df (pv 6)) (aS (i:=8) dZ.nd) (ag (az (i:=9) dZ.nd (bw af))
   (ag (bI PassesOwn.leaving rfl (bG rfl aL #[44]) (aS (i:=10) dZ.nd) (ag (az (i:=11) dZ.nd (Hl HB hr #[98] (aa (pv 8) (aa (pv 10) af))))
   (ag (az (i:=12) dZ.nd (aae hu (pv 4) (pv 11) ⟨rfl,rfl,rfl,rfl⟩))
   (ag (bK (aE OZ (pv 12) tR (aM _)) (ag (az (i:=12) dZ.nd (ay RV #[26] aZ ck #[88]))
   (ag (bK (aE L8 (pv 12) (pv 2) (aM _)) (ao (SW pb hr rfl aa6 #[57])) aR)
   (ag (wC hu (pv 4) (pv 11) (pv 12) rfl)
   (ao (bD (fO Wn Wq Wr bJ (pv 7) (aa (pv 11) af))))))) aR)
   (ao (bD (fO Wn Wq Wr bJ (pv 9) (aa (pv 12) af))))))))
   (ao (bD (fO Wn Wq Wr bJ (pv 5) (aa (bj bg #[26] aV cy (aa (pv 9) af)) af)))))))
   (ao (az (i:=6) dZ.nd (pv 7)))))))
   (sx (adN (RK (bH (oX.mk #[92]) (bH (oX.mk (bj bg #[26] aV cy #[102])) (bH (oX.mk (bj bg #[26] aV cy (aa (eK rfl DQ (aao (pv 4)) (fun _ _ _ _=>(aS (i:=0) DQ.nd)) (fun _ _ _ _=>(Hl HA hr #[92] #[72]))) af))) AA))))))))))) ?_
 exists 0
 refine⟨_,rfl,x,dx,_,rfl,hx0,fB,T.begin _ _ _ hW0 fun g H0 s0 hg0=>?_⟩
 have hW:=T.same _ _ s0 hW0
 have hx:=s0 _ _ hx0
 have k:=fun m' r' g' aw ps H' (s:aB H0 H')=>k m' r' g' aw ps H' (s0.trans s)
 have kx:=fun d H' ps (s:aB H0 H')=>kx d H' ps (s0.trans s)
 refine fun D hD=>?_
 have sD:=ak hD (HO.dT [])
 refine⟨_,rfl,ae,g,iG b0,.int 0,rfl,by rw[pG];exact sD _ _ hg0,?_⟩
 obtain⟨H1,Tq⟩:∃ H1,upd (upd H0 D (HO.dT [])) D (HO.dT [(iG b0,V.int 0)])=H1:=⟨_,rfl⟩
 have s1:aB H0 H1:=by rw[<- Tq];exact ax sD hD
 have F7:H1 D=some (.dT (C9 [b0] 0)):=by rw[<- Tq,ae];rfl
 rw[Tq]
 refine⟨#[13],fun RR hRR=>?_⟩
 have sR:=ak hRR #[82]
 have nDR:D≠RR:=aq F7 hRR
 refine⟨_,rfl,#[45],fun L0 hL0=>?_⟩
 obtain⟨H2,CA⟩:∃ H2,upd (upd H1 RR #[82]) L0 (HO.lst [V.ref g])=H2:=⟨_,rfl⟩
 have J0:aB H1 H2:=by rw[<- CA];exact sR.trans (ak hL0 _)
 have T8:=J0 _ _ F7
 have akJ:H2 RR=some (.lst []):=by rw[<- CA,aj (aq ae hL0),ae]
 have hL2:H2 L0=some (.lst ([g].map V.ref)):=by rw[<- CA,ae];rfl
 have s2:=s1.trans J0
 have fRR:H0 RR=none:=s1.free hRR
 rw[CA]
 exists 1
 refine cU (t:=mW _ _) (fun σ' H'=>∃ (ps aw:LL) (dC:List QQ) (v6 v7 v8 v9 v10 v11 wK:OV),σ'=[some #[89],some #[74],some (.int most),some (.ref g),some #[66],some (.ref RR),v6,v7,v8,v9,v10,v11,wK]/\aB H0 H'/\H' D=some (.dT (C9 ps 0))/\H' RR=some (.lst #[37])/\aP H' dC aw/\FJ st b0 wide ps aw/\ps.length<=most/\aw.length=ps.length) ?_ #[30]
 exists 16
 ·refine oB (fun mm σ' H'=>∃ (ps aw us:LL) (dC lv:List QQ) (L:QQ) (v7 v8 v9 v10 v11 wK:OV),mm=most-aw.length/\σ'=[some #[89],some #[74],some (.int most),some (.ref g),some #[66],some (.ref RR),some (.ref L),v7,v8,v9,v10,v11,wK]/\aB H0 H'/\H' D=some (.dT (C9 ps 0))/\H' RR=some (.lst #[37])/\aP H' dC aw/\FJ st b0 wide ps aw/\ps.length<=most/\H' L=some (.lst (lv.map V.ref))/\RR≠L/\aP H' lv us/\ps.drop aw.length=us)
   ⟨_,[b0],[],[b0],[],[g],L0,none,none,none,none,none,none,rfl,rfl,s2,T8,akJ,.nil,FJ.start _ _ _,m0,hL2,aq ae hL0,.cons (s2 _ _ hg0) .nil,rfl⟩ ?_
  rintro mm σ' H3 ⟨ps,aw,us,dC,lv,L,v7,v8,v9,v10,v11,wK,rfl,rfl,s3,C7,P8,A3,G,le3,wy,nRL,TA,du⟩
  by_cases en:lv=[]
  ·subst en
   cases TA
   refine⟨_,rfl,_,.inl ⟨_,bV wy,rfl⟩,ff ?_⟩
   have e:ps.length<=aw.length:=Ji.mp du
   exact dq _ _ ⟨ps,aw,dC,_,v7,v8,v9,v10,v11,wK,rfl,s3,C7,P8,A3,G,le3,QC G.le e⟩
  exists _,rfl,_,.inl ⟨_,bV wy,rfl⟩
  have ne:(!(lv.map V.ref).isEmpty)=true:=by
   cases lv with
   | nil=>exact absurd rfl en
   | cons x r=>rfl
  rw[ne]
  have lv1:1<=lv.length:=by
   cases lv with
   | nil=>exact absurd rfl en
   | cons x r=>exact Zy (je _)
  have llu:lv.length=us.length:=Paired.length TA
  have pl:ps.length=aw.length+us.length:=by
   have:=congrArg zG du
   rw[Jz]at this
   have:=G.le
   omega
  have lm:=le3
  refine Be ⟨fun σ' H'=>∃ m',m'<most-aw.length/\∃ (ps aw us:LL) (dC lv:List QQ) (L:QQ) (v7 v8 v9 v10 v11 wK:OV),m'=most-aw.length/\σ'=[some #[89],some #[74],some (.int most),some (.ref g),some #[66],some (.ref RR),some (.ref L),v7,v8,v9,v10,v11,wK]/\aB H0 H'/\H' D=some (.dT (C9 ps 0))/\H' RR=some (.lst #[37])/\aP H' dC aw/\FJ st b0 wide ps aw/\ps.length<=most/\H' L=some (.lst (lv.map V.ref))/\RR≠L/\aP H' lv us/\ps.drop aw.length=us,fun _ _ h=>h,?_⟩
  refine⟨#[13],fun Fr hFr=>?_⟩
  have sF:=ak hFr #[82]
  have fFr:H0 Fr=none:=s3.free hFr
  have nFD:D≠Fr:=aq C7 hFr
  have nFR:RR≠Fr:=aq P8 hFr
  have nFL:L≠Fr:=aq wy hFr
  obtain⟨H4,Eb⟩:∃ H4,upd H3 Fr #[82]=H4:=⟨_,rfl⟩
  have s4:aB H0 H4:=by rw[<- Eb];exact s3.trans sF
  have t4:aB H3 H4:=by rw[<- Eb];exact sF
  have hF4:H4 Fr=some (.lst (([]:List QQ).map V.ref)):=by rw[<- Eb,ae];rfl
  rw[Eb]
  have lps:∀ {qs:LL},(∀ p∈qs,∃ v,mi wide v/\Bv st b0 v=p)->∀ u∈qs,J2 u:=fun h u hu'=>by
   obtain⟨v,hv,e⟩:=h u hu'
   rw[<- e]
   exact T.all hv
  exists 1
  refine⟨_,rfl,L,rfl,⟨_,bV (t4 _ _ wy)⟩,eS (K:=K) (xs:=lv.map V.ref) (fun i σ' H'=>∃ (Dt fY qs:LL) (wU fr:List QQ) (v8 v9 v10 v11 wK:OV),
    σ'=[some #[89],some #[74],some (.int most),some (.ref g),some #[66],some (.ref RR),some (.ref L),some (.ref Fr),v8,v9,v10,v11,wK]/\aB H0 H'/\H' D=some (.dT (C9 Dt 0))/\H' RR=some (.lst (wU.map V.ref))/\aP H' wU fY/\FJ st b0 wide Dt fY/\Dt.length<=most/\fY.length=aw.length+i/\Dt=ps++qs/\H' Fr=some (.lst (fr.map V.ref))/\aP H' fr qs/\H' L=some (.lst (lv.map V.ref))/\aP H' lv us)
   ⟨ps,aw,[],dC,[],v8,v9,v10,v11,wK,rfl,s4,t4 _ _ C7,t4 _ _ P8,A3.same (fun b xs e=>t4 _ _ e),G,le3,rfl,(jo _).symm,hF4,.nil,t4 _ _ wy,TA.same (fun b xs e=>t4 _ _ e)⟩ (fun i σ' H' _ ⟨_,_,_,_,_,_,_,_,_,_,_,_,_,_,_,_,_,_,_,_,_,e,_⟩=>bV e) ?_ ?_⟩
  ·rintro i y σ' H5 hi ⟨Dt,fY,qs,wU,fr,v8,v9,v10,v11,wK,rfl,s5,hD5,hR5,A5,G5,le5,l5,rfl,T9,TF5,Om,TA5⟩
   have il:i<us.length:=by
    have:=(iH hi).1
    rw[bq]at this
    omega
   obtain⟨pa,e1,e2⟩:=TA5.get il
   have ey:y=.ref pa:=by rw[jN,e1]at hi;exact(Option.some.inj hi).symm
   subst ey
   have atp:ps[fY.length]?=some us[i]:=by
    have:(ps.drop aw.length)[i]?=some us[i]:=by rw[du];exact jB il
    rw[List.getElem?_drop]at this
    rw[l5];exact this
   have agG:(ps++qs)[fY.length]?=some us[i]:=by rw[jr (iH atp).1];exact atp
   have lu:J2 us[i]:=lps G5.re _ (pZ agG)
   refine⟨#[13],fun Ro hRo=>?_⟩
   have sO:=ak hRo #[82]
   have fRo:H0 Ro=none:=s5.free hRo
   have nOD:D≠Ro:=aq hD5 hRo
   have nOR:RR≠Ro:=aq hR5 hRo
   have nOF:Fr≠Ro:=aq T9 hRo
   have nOL:L≠Ro:=aq Om hRo
   obtain⟨H6,eH6⟩:∃ H6,upd H5 Ro #[82]=H6:=⟨_,rfl⟩
   have t6:aB H5 H6:=by rw[<- eH6];exact sO
   have hO6:H6 Ro=some (.lst (([]:LI).map V.int)):=by rw[<- eH6,ae];rfl
   rw[eH6]
   exists 1
   refine cU (t:=sU _ _ _) (fun σ' H'=>∃ (Dt qs:LL) (fr:List QQ) (row:LI) (v10 v11 wK:OV),
    σ'=[some #[89],some #[74],some (.int most),some (.ref g),some #[66],some (.ref RR),some (.ref L),some (.ref Fr),some (.ref pa),some (.ref Ro),v10,v11,wK]/\aB H0 H'/\H' D=some (.dT (C9 Dt 0))/\H' RR=some (.lst (wU.map V.ref))/\aP H' wU fY/\CS st b0 wide Dt fY us[i] row/\Dt.length<=most/\row.length=wide/\H' Ro=some (.lst (row.map V.int))/\Dt=ps++qs/\H' Fr=some (.lst (fr.map V.ref))/\aP H' fr qs/\H' L=some (.lst (lv.map V.ref))/\aP H' lv us/\H' pa=some (.tup (us[i].map V.int))) ?_ (fun D1 al0=>?_)
   exists 16
   ·refine⟨_,rfl,_,rfl,by omega,by omega,?_⟩
    refine cH (fun j σ' H'=>∃ (Dt qs:LL) (fr:List QQ) (row:LI) (v10 v11 wK:OV),
     σ'=[some #[89],some #[74],some (.int most),some (.ref g),some #[66],some (.ref RR),some (.ref L),some (.ref Fr),some (.ref pa),some (.ref Ro),v10,v11,wK]/\aB H0 H'/\H' D=some (.dT (C9 Dt 0))/\H' RR=some (.lst (wU.map V.ref))/\aP H' wU fY/\CS st b0 wide Dt fY us[i] row/\Dt.length<=most/\row.length=j/\H' Ro=some (.lst (row.map V.int))/\Dt=ps++qs/\H' Fr=some (.lst (fr.map V.ref))/\aP H' fr qs/\H' L=some (.lst (lv.map V.ref))/\aP H' lv us/\H' pa=some (.tup (us[i].map V.int)))
     ⟨ps++qs,qs,fr,[],v10,v11,wK,rfl,s5.trans t6,t6 _ _ hD5,t6 _ _ hR5,A5.same (fun b xs e=>t6 _ _ e),G5.next agG,le5,rfl,hO6,rfl,t6 _ _ T9,TF5.same (fun b xs e=>t6 _ _ e),t6 _ _ Om,TA5.same (fun b xs e=>t6 _ _ e),t6 _ _ e2⟩ ?_ ?_
    ·rintro j σ' H7 hj ⟨Dt,qs,fr,row,v10,v11,wK,rfl,s7,hD7,hR7,A7,G7,le7,rfl,hO7,rfl,hF7,TF7,hL7,TA7,V9⟩
     rw[jA]at hj
     refine⟨_,rfl,x,dx,_,rfl,s7 _ _ hx,fS,_,rfl,_,rfl,T.step _ _ _ pa us[i] row.length _ (JO _) (T.same _ _ s7 hW) V9 lu hj fun Th H8 s8 hTh=>?_⟩
     have hD8:=s8 _ _ hD7
     have lq:(ps++qs).length<=most:=le7
     by_cases c:st us[i] row.length∈ps++qs
     ·obtain⟨n,nl,en'⟩:=ji c
      have hn:(ps++qs)[n]?=some (st us[i] row.length):=by rw[jB nl,en']
      have dg:ik H8 D (.ref Th) (some (.int (n:Int))):=by
       have z:=ik.t (k:=iG (st us[i] row.length)) hD8 (b:=Th) (by rw[pG];exact hTh)
       rw[W9 G7.nd hn,Jc]at z
       exact z
      exists _,rfl,D,rfl,.inr ⟨_,.inl hD8⟩,_,rfl,_,dg
      refine⟨_,rfl,rfl,_,rfl,ff ?_⟩
      have hO8:=s8 _ _ hO7
      refine⟨_,rfl,.inl ⟨rfl,_,bV hO8⟩,_,rfl,Ro,_,_,rfl,rfl,hO8,aA #[31],?_⟩
      have oth:∀ b u,b≠Ro->H7 b=some u->(upd H8 Ro (.lst (row.map V.int++[V.int (n:Int)]))) b=some u:=fun b u n e=>by
       rw[aj n];exact s8 _ _ e
      have up:∀ b xs,H7 b=some #[40]->(upd H8 Ro (.lst (row.map V.int++[V.int (n:Int)]))) b=some #[40]:=fun b xs e=>oth b _ (aQ e hO7 #[2]) e
      exact⟨_,qs,fr,row++[(n:Int)],_,_,_,rfl,ax (s7.trans s8) fRo,oth _ _ nOD hD7,oth _ _ nOR hR7,A7.same up,G7.old hn,le7,by rw[jG];rfl,by rw[ae,jF];rfl,rfl,oth _ _ nOF hF7,TF7.same up,oth _ _ nOL hL7,TA7.same up,up _ _ V9⟩
     ·have dg:ik H8 D (.ref Th) none:=by
       have z:=ik.t (k:=iG (st us[i] row.length)) hD8 (b:=Th) (by rw[pG];exact hTh)
       rw[Eo c]at z
       exact z
      exists _,rfl,D,rfl,.inr ⟨_,.inl hD8⟩,_,rfl,_,dg
      have G8:=G7.new hj c
      refine⟨_,rfl,rfl,_,rfl,Be ?_⟩
      refine⟨_,rfl,D,_,rfl,hD8,_,rfl,_,rfl,_,_,rfl,rfl,_,rfl,aeL (fun z=>?_) (fun z=>?_)⟩
      ·have z' := of_decide_eq_true z
       rw[Bj]at z'
       refine⟨_,rfl,(by show 1<=8;decide),fun xa hxa=>⟨xa,(most:Int),rfl,ae,Pn #[0] #[0],fun d hd nd=>⟨rfl,d,?_,?_⟩⟩⟩
       ·rw[aj (Ne.symm nd),ae]
       ·refine kx d _ (ps++qs++[st us[i] row.length]) ?_ ?_ G8.nd G8.re ?_
        ·intro b u eb
         have e8:=(s7.trans s8) _ _ eb
         have nb:b≠xa:=aq e8 hxa
         have nbd:b≠d:=aq (a:=b) (show(upd H8 xa _) b=some u by rw[aj nb];exact e8) hd
         rw[oo nb,aj nbd,aj nb,aj nb]
         exact e8
        ·rw[oo nd,ae]
        ·rw[jG,jh]
         omega
      have z':¬ (most:Int)<=((ps++qs).length:Int):=fun q=>z (decide_eq_true (by rw[Bj];exact q))
      rw[Bj]
      refine⟨_,rfl,_,rfl,_,rfl,D,_,rfl,CQ.t (k:=iG (st us[i] row.length)) hD8 (by rw[pG];exact hTh) (aA (by rw[Bj];omega)),?_⟩
      rw[ab4 c]
      have hO8:=s8 _ _ hO7
      have hF8:=s8 _ _ hF7
      obtain⟨u',eu⟩:∃ u',st us[i] row.length=u' := ⟨_,rfl⟩
      rw[eu]at G8 hTh ⊢
      obtain⟨H9,e9⟩:∃ H9,upd H8 D (HO.dT (C9 (ps++qs++[u']) 0))=H9:=⟨_,rfl⟩
      rw[e9]
      have o9:∀ b u,b≠D->H8 b=some u->H9 b=some u:=fun b u n e=>by rw[<- e9,aj n];exact e
      have hF9:=o9 _ _ (Ne.symm nFD) hF8
      have hO9:=o9 _ _ (Ne.symm nOD) hO8
      have lfr:=TF7.length
      have lpq:(ps++qs).length=ps.length+qs.length:=jG
      refine⟨_,rfl,.inl ⟨rfl,_,bV hF9⟩,_,rfl,Fr,_,_,rfl,rfl,hF9,aA #[31],?_⟩
      have ag1:(upd H9 Fr (.lst (fr.map V.ref++[V.ref Th]))) Ro=some (.lst (row.map V.int)):=by rw[aj (Ne.symm nOF)];exact hO9
      refine⟨_,rfl,.inl ⟨rfl,_,bV ag1⟩,_,rfl,Ro,_,_,rfl,rfl,ag1,aA #[31],?_⟩
      obtain⟨HC,e11⟩:∃ HC,upd (upd H9 Fr (.lst (fr.map V.ref++[V.ref Th]))) Ro (.lst (row.map V.int++[V.int ((ps++qs).length:Int)]))=HC:=⟨_,rfl⟩
      have oth:∀ b u,b≠Ro->b≠Fr->b≠D->H8 b=some u->HC b=some u:=fun b u n1 n2 n3 e=>by
       rw[<- e11,aj n1,aj n2];exact o9 _ _ n3 e
      have up8:∀ b xs,H8 b=some #[40]->HC b=some #[40]:=fun b xs e=>oth b _ (aQ e hO8 #[2]) (aQ e hF8 #[2]) (aQ e hD8 #[2]) e
      have up:∀ b xs,H7 b=some #[40]->HC b=some #[40]:=fun b xs e=>up8 _ _ (s8 _ _ e)
      have s11:aB H0 HC:=by
       rw[<- e11,<- e9]
       exact ax (ax (ax (s7.trans s8) hD) fFr) fRo
      have akz:HC D=some (.dT (C9 (ps++qs++[u']) 0)):=by rw[<- e11,aj nOD,aj nFD,<- e9,ae]
      have akA:HC Fr=some (.lst ((fr++[Th]).map V.ref)):=by rw[<- e11,aj nOF,ae,jF];rfl
      have akI:HC Ro=some (.lst ((row++[((ps++qs).length:Int)]).map V.int)):=by rw[<- e11,ae,jF];rfl
      have goal:∃ (Dt qs':LL) (fr:List QQ) (afb:LI) (amJ v11 wK:OV),[some (V.ref x),some #[74],some (.int most),some (.ref g),some #[66],some (.ref RR),some (.ref L),some (.ref Fr),some (.ref pa),some (.ref Ro),some (.int (0+(row.length:Int))),some (.ref Th),some (.int ((ps++qs).length:Int))]=[some #[89],some #[74],some (.int most),some (.ref g),some #[66],some (.ref RR),some (.ref L),some (.ref Fr),some (.ref pa),some (.ref Ro),amJ,v11,wK]/\aB H0 HC/\HC D=some (.dT (C9 Dt 0))/\HC RR=some (.lst (wU.map V.ref))/\aP HC wU fY/\CS st b0 wide Dt fY us[i] afb/\Dt.length<=most/\afb.length=row.length+1/\HC Ro=some (.lst (afb.map V.int))/\Dt=ps++qs'/\HC Fr=some (.lst (fr.map V.ref))/\aP HC fr qs'/\HC L=some (.lst (lv.map V.ref))/\aP HC lv us/\HC pa=some (.tup (us[i].map V.int)):=
       ⟨ps++qs++[u'],qs++[u'],fr++[Th],row++[((ps++qs).length:Int)],_,_,_,rfl,s11,akz,oth _ _ nOR nFR (Ne.symm nDR) (s8 _ _ hR7),A7.same up,G8,by rw[jG,jh];omega,by rw[jG];rfl,akI,jk ..,akA,aP.snoc (TF7.same up) (up8 _ _ hTh),oth _ _ nOL nFL (aQ hL7 hD7 #[2]) (s8 _ _ hL7),TA7.same up,up _ _ V9⟩
      rw[<- e11]at goal
      exact goal
    ·rintro σ' H7 ⟨Dt,qs,fr,row,v10,v11,wK,rfl,s7,hD7,hR7,A7,G7,le7,lr7,hO7,rfl,hF7,TF7,hL7,TA7,V9⟩
     rw[jA]at lr7
     exact al0 _ _ ⟨_,qs,fr,row,v10,v11,wK,rfl,s7,hD7,hR7,A7,G7,le7,lr7,hO7,rfl,hF7,TF7,hL7,TA7,V9⟩
   ·rintro σ' H7 ⟨Dt,qs,fr,row,v10,v11,wK,rfl,s7,hD7,hR7,A7,G7,le7,lr7,hO7,rfl,hF7,TF7,hL7,TA7,_⟩
    have lt7:=(iH G7.at_).1
    have lq:(ps++qs).length<=most:=le7
    refine⟨_,rfl,.inl ⟨rfl,_,bV hR7⟩,_,rfl,Ro,_,rfl,.inl ⟨bV hO7,fun t ht=>?_⟩⟩
    have nRt:RR≠t:=aq hR7 ht
    have s8:=ak ht (HO.tup (row.map V.int))
    have lra:=A7.length
    refine⟨RR,_,_,rfl,rfl,s8 _ _ hR7,aA #[31],?_⟩
    have up:∀ b xs,H7 b=some #[40]->(upd (upd H7 t (.tup (row.map V.int))) RR (.lst (wU.map V.ref++[V.ref t]))) b=some #[40]:=fun b xs e=>by
     rw[aj (aQ e hR7 #[2]),aj (aq e ht)]
     exact e
    have oth:∀ b u,b≠RR->H7 b=some u->(upd (upd H7 t (.tup (row.map V.int))) RR (.lst (wU.map V.ref++[V.ref t]))) b=some u:=fun b u n e=>by
     rw[aj n];exact s8 _ _ e
    refine⟨ps++qs,fY++[row],qs,wU++[t],fr,_,_,_,_,_,rfl,ax (s7.trans s8) fRR,oth _ _ nDR hD7,by rw[ae,jF];rfl,aP.snoc (A7.same up) (by rw[aj (Ne.symm nRt),ae]),G7.done lr7,le7,by rw[jG,jh,l5];rfl,rfl,oth _ _ (Ne.symm nFR) hF7,TF7.same up,oth _ _ (Ne.symm nRL) hL7,TA7.same up⟩
  ·rintro σ' H5 ⟨Dt,fY,qs,wU,fr,v8,v9,v10,v11,wK,rfl,s5,hD5,hR5,A5,G5,le5,l5,rfl,T9,TF5,Om,TA5⟩
   rw[bq]at l5
   refine⟨_,rfl,most-fY.length,?_,ps++qs,fY,qs,wU,fr,Fr,some (.ref Fr),v8,v9,v10,v11,wK,rfl,rfl,s5,hD5,hR5,A5,G5,le5,T9,nFR,TF5,?_⟩
   ·omega
   ·rw[l5,llu,<- pl,List.drop_append_of_le_length (jE _),zA,ZV]
 rintro σ' H3 ⟨ps,aw,dC,v6,v7,v8,v9,v10,v11,wK,rfl,s3,C7,P8,A3,G,le3,el⟩
 refine⟨_,rfl,_,rfl,RR,_,rfl,.inl ⟨bV P8,fun rt hrt=>?_⟩⟩
 have s4:=ak hrt (HO.tup #[37])
 refine⟨_,rfl,D,_,rfl,s4 _ _ C7,fun o=>?_⟩
 obtain⟨Hf,eHf⟩:∃ Hf,upd (upd H3 rt (HO.tup #[37])) D (.rB o (.dT (C9 ps 0)))=Hf:=⟨_,rfl⟩
 have sf:aB H0 Hf:=by rw[<- eHf];exact ax (s3.trans s4) hD
 have hDf:Hf D=some (.rB o (.dT (C9 ps 0))):=by rw[<- eHf,ae]
 have upf:∀ b xs,(upd H3 rt (HO.tup #[37])) b=some #[40]->Hf b=some #[40]:=fun b xs e=>by
  rw[<- eHf,aj (aQ e (s4 _ _ C7) #[2])];exact e
 have lps:∀ u∈ps,J2 u:=fun u hu'=>by
  obtain⟨v,hv,e⟩:=G.re u hu'
  rw[<- e]
  exact T.all hv
 have lm:=le3
 rw[eHf]
 refine N9 (fun Dl i ys H'=>aB Hf H'/\ys=((ps.take i).map sg).map V.int) (fun Dl hDl=>⟨ak hDl _,rfl⟩) (fun Dl i ys H' _ ⟨e,_⟩=>e _ _ hDf) ?_ ?_
 ·rintro Dl i p b ys H4 Q' hDl hi hb hy ⟨s5,rfl⟩ k'
  obtain⟨u,hu',ep⟩:=ab3 hi
  rw[ep,pG]at hb
  have il:=(iH hu').1
  have lu:=lps u (pZ hu')
  refine⟨_,rfl,x,dx,_,rfl,s5 _ _ (sf _ _ hx),fG,_,rfl,T.sign _ _ _ b u (T.same _ _ (sf.trans s5) hW) hb lu fun H9 s9=>k' _ _ (s9 _ _ hy) (aA (by rw[bq,bq,jQ];omega)) ⟨ax (s5.trans s9) hDl,?_⟩⟩
  rw[jS,hu',jF,jF]
  rfl
 ·rintro Dl ys H4 hDl hy ⟨s5,rfl⟩
  rw[Bj,jU]at hy
  refine⟨Dl,_,rfl,.inl ⟨bV hy,fun gt hgt=>?_⟩⟩
  have s6:=ak hgt (HO.tup ((ps.map sg).map V.int))
  refine⟨#[17],fun m' hm'=>?_⟩
  have s7:=ak hm' (HO.tup [V.int wide,V.ref rt,V.ref gt])
  have s67:=s6.trans s7
  exact k m' rt gt aw ps _ (sf.trans (s5.trans s67)) ⟨ae,⟨dC,s67 _ _ (s5 _ _ (upf _ _ ae)),A3.same fun b xs e=>s67 _ _ (s5 _ _ (upf _ _ (s4 _ _ e)))⟩,s7 _ _ ae⟩ G el le3
end
theorem iz[DecidableEq α]:∀ {ps vs:List α},ps.Nodup->(∀ p∈ps,p∈vs)->ps.length<=vs.length
 | [],_,_,_=>je _
 | p :: ps,vs,nd,h=>by
  have nd' := jx.mp nd
  have hp:=h p jD
  have:=iz (vs:=vs.erase p) nd'.2 fun q hq=>(Zd (show q≠p from fun z=>nd'.1 (by rw[<- z];exact hq))).mpr (h q (jI _ hq))
  rw[ZP hp]at this
  have:=Jq hp
  rw[jT]
  omega
def Rg(st:LI->Nat->LI)(b0:LI)(N:Nat)(p:LI):Prop := ∃ v,mi N v/\Bv st b0 v=p
section
variable{st:LI->Nat->LI}{N:Nat}
theorem Rg.start:Rg st b0 N b0:=⟨[],(fun f h=>by cases h),rfl⟩
theorem Rg.step{p:LI}(h:Rg st b0 N p){f:Nat}(hf:f<N):Rg st b0 N (st p f):=by
 obtain⟨v,hv,e⟩:=h
 refine⟨v++[(f:Int)],fun g hg=>?_,?_⟩
 ·rcases Bn.mp hg with z|z
  ·exact hv g z
  ·rw[jK.mp z];omega
 ·rw[rh,e,jA]
theorem Rg.all{φ:LI->Prop}(h0:φ b0)(h:∀ p,φ p->∀ f:Nat,f<N->φ (st p f)){p:LI}(hp:Rg st b0 N p):φ p:=by
 obtain⟨v,hv,e⟩:=hp
 subst e
 have:∀ (v:LI) (u:LI),φ u->mi N v->φ (Bv st u v):=by
  intro v
  induction v with
  | nil=>intro u hu _;exact hu
  | cons f v ih =>
   intro u hu hi
   have hf:=hi f jD
   exact ih _ (h u hu f.toNat #[0]) fun g hg=>hi g (jI _ hg)
 exact this v b0 h0 hv
theorem FJ.rg{dB:LL}(g:FJ st b0 N ps dB)(h:dB.length=ps.length){p:LI}:p∈ps↔Rg st b0 N p:=
 ⟨fun hp=>g.re p hp,fun⟨v,hv,e⟩=>by
  obtain⟨k,_,h2⟩:=g.told h hv
  rw[e]at h2
  exact pZ h2⟩
theorem afa(nd:ps.Nodup)(nd':ms.Nodup)(h:∀ p,p∈ps↔Rg st b0 N p)(h':∀ p,p∈ms↔Rg st b0 N p):ps.length=ms.length:=
 QC (iz nd fun p hp=>(h' p).mpr ((h p).mp hp)) (iz nd' fun p hp=>(h p).mpr ((h' p).mp hp))
end
theorem acd{f:Nat->Int}{t:Nat}(h:t<many):((jd many).map f).getD t 0=f t:=by simp[h]
def CC(rows:LL)(q:Int):Nat->Int
 | 0=>q
 | k+1=>stepI rows (CC rows q k) 0
theorem Ej(R:aI many wide rows)(w1:1<=wide)(q0:0<=q)(q1:q<(many:Int)):∀ k,0<=CC rows q k/\CC rows q k<(many:Int)
 | 0=>⟨q0,q1⟩
 | k+1=>by
  have h:=Ej R w1 q0 q1 k
  exact cA R h.1 h.2 #[7] #[0]
theorem Bc(rows:LL)(q:Int):∀ k,CC rows (stepI rows q 0) k=CC rows q (k+1)
 | 0=>rfl
 | k+1=>by
  show stepI rows (CC rows (stepI rows q 0) k) 0=stepI rows (CC rows q (k+1)) 0
  rw[Bc rows q k]
theorem G4(h:CC rows q i=CC rows q j):∀ t,CC rows q (i+t)=CC rows q (j+t)
 | 0=>h
 | t+1=>by
  show stepI rows (CC rows q (i+t)) 0=stepI rows (CC rows q (j+t)) 0
  rw[G4 h t]
theorem OA(R:aI many wide rows)(w1:1<=wide)(q0:0<=q)(q1:q<(many:Int)):∃ c,1<=c/\c<=many/\∀ t,CC rows q (many+c+t)=CC rows q (many+t):=by
 have ex:∃ i j,i<j/\j<=many/\CC rows q i=CC rows q j:=by
  refine Classical.byContradiction fun no=>?_
  have nd:((jd (many+1)).map (CC rows q)).Nodup:=by
   refine List.pairwise_iff_getElem.mpr fun i j hi hj hij=>?_
   intro e
   rw[bq,jg]at hi hj
   simp at e
   exact no ⟨i,j,hij,by omega,e⟩
  have:=cV many nd (fun x hx=>by
   obtain⟨i,_,rfl⟩:=jO.mp hx
   exact Ej R w1 q0 q1 i)
  rw[bq,jg]at this
  omega
 obtain⟨i,j,hij,hj,e⟩:=ex
 refine⟨j-i,by omega,by omega,fun t=>?_⟩
 have:=G4 e (many-i+t)
 rw[show i+(many-i+t)=many+t from by omega,show j+(many-i+t)=many+(j-i)+t from by omega]at this
 exact this.symm
def LK(rows:LL)(q:Int)(n:Nat):Nat->Int
 | 0=>CC rows q n
 | k+1=>if CC rows q (n+k+1)<LK rows q n k then CC rows q (n+k+1)else LK rows q n k
theorem Bm{rows:LL}{q:Int}{n:Nat}:∀ {k i:Nat},i<=k->LK rows q n k<=CC rows q (n+i)
 | 0,i,h=>by
  have:i=0:=by omega
  subst this
  exact zH _
 | k+1,i,h=>by
  simp only[LK]
  rcases Nat.lt_or_eq_of_le h with z|z
  ·have:=Bm (rows:=rows) (q:=q) (n:=n) (show i<=k by omega)
   split
   ·omega
   ·exact this
  ·subst z
   have e:n+(k+1)=n+k+1:=by omega
   rw[e]
   split<;>omega
theorem Dn{rows:LL}{q:Int}{n:Nat}:∀ k:Nat,∃ i,i<=k/\LK rows q n k=CC rows q (n+i)
 | 0=>⟨0,jE _,rfl⟩
 | k+1=>by
  simp only[LK]
  split
  ·exact⟨k+1,jE _,rfl⟩
  ·obtain⟨i,hi,e⟩:=Dn (rows:=rows) (q:=q) (n:=n) k
   exact⟨i,by omega,e⟩
def oS(rows:LL)(n:Nat)(q:Int):Int:=LK rows q n n
theorem Mq(R:aI many wide rows)(w1:1<=wide)(q0:0<=q)(q1:q<(many:Int)):0<=oS rows many q/\oS rows many q<(many:Int):=by
 obtain⟨i,_,e⟩:=Dn (rows:=rows) (q:=q) (n:=many) many
 unfold oS
 rw[e]
 exact Ej R w1 q0 q1 _
theorem Pb(R:aI many wide rows)(w1:1<=wide)(q0:0<=q)(q1:q<(many:Int)):oS rows many (stepI rows q 0)=oS rows many q:=by
 obtain⟨c,c1,c2,hc⟩:=OA R w1 q0 q1
 unfold oS
 refine Int.le_antisymm ?_ ?_
 ·obtain⟨j,hj,e⟩:=Dn (rows:=rows) (q:=q) (n:=many) many
  rw[e]
  by_cases z:j=0
  ·subst z
   have:=Bm (rows:=rows) (q:=stepI rows q 0) (n:=many) (k:=many) (i:=c-1) #[0]
   rw[Bc,show many+(c-1)+1=many+c+0 from by omega,hc 0]at this
   exact this
  ·have:=Bm (rows:=rows) (q:=stepI rows q 0) (n:=many) (k:=many) (i:=j-1) #[0]
   rw[Bc,show many+(j-1)+1=many+j from by omega]at this
   exact this
 ·obtain⟨i,hi,e⟩:=Dn (rows:=rows) (q:=stepI rows q 0) (n:=many) many
  rw[e,Bc]
  by_cases z:i=many
  ·have:=Bm (rows:=rows) (q:=q) (n:=many) (k:=many) (i:=many+1-c) #[0]
   rw[<- hc (many+1-c)]at this
   rw[show many+i+1=many+c+(many+1-c)from by omega]
   exact this
  ·have:=Bm (rows:=rows) (q:=q) (n:=many) (k:=many) (i:=i+1) #[0]
   rw[show many+(i+1)=many+i+1 from by omega]at this
   exact this
def fu(many:Nat)(rows:LL)(signs:LI):Prop := ∀ q:Int,0<=q->q<(many:Int)->signs.getD (stepI rows q 0).toNat 0=signs.getD q.toNat 0
theorem S9{signs drawn:LI}(R:aI many wide rows)(w1:1<=wide)(e:signs=(jd many).map fun q:Nat=>drawn.getD (oS rows many q).toNat 0):fu many rows signs:=fun q q0 q1=>by
 have h:=cA R q0 q1 (show(0:Int)<=0 by decide) (show(0:Int)<wide by omega)
 have m1:∀ x:Int,0<=x->x<(many:Int)->signs.getD x.toNat 0=drawn.getD (oS rows many x).toNat 0:=fun x x0 x1=>by
  have hx:x.toNat<many:=by omega
  rw[e,acd hx,show((x.toNat:Nat):Int)=x from by omega]
 rw[m1 _ h.1 h.2,m1 _ q0 q1,Pb R w1 q0 q1]
def eA(w p:Nat)(rows:LL)(u:LI)(f:Nat):LI:=
 if u.getD 1 0+1=(p:Int)then [stepI rows (u.getD 0 0) (u.getD 2 0+(w:Int)^(u.getD 1 0).toNat*(f:Int)),0,0]else [u.getD 0 0,u.getD 1 0+1,u.getD 2 0+(w:Int)^(u.getD 1 0).toNat*(f:Int)]
def lowG(rows:LL)(signs:LI)(u:LI):Int:=sgn signs (stepI rows (u.getD 0 0) (u.getD 2 0))
def AG(many w p:Nat)(u:LI):Prop := ∃ h l n:Nat,u=[(h:Int),(l:Int),(n:Int)]/\h<many/\l<p/\n<w^l
theorem tM{w f:Nat}(e:l+1=p):eA w p rows [h,(l:Int),(n:Int)] f=[stepI rows h ((n+w^l*f:Nat):Int),0,0]:=by
 show(if ((l:Int)+1=(p:Int))then [stepI rows h ((n:Int)+(w:Int)^((l:Int)).toNat*(f:Int)),0,0]else _)=_
 rw[if_pos #[0],jA]
 push_cast
 rfl
theorem tN{w f:Nat}(e:l+1≠p):eA w p rows [h,(l:Int),(n:Int)] f=[h,((l+1:Nat):Int),((n+w^l*f:Nat):Int)]:=by
 show(if ((l:Int)+1=(p:Int))then _ else [h,(l:Int)+1,(n:Int)+(w:Int)^((l:Int)).toNat*(f:Int)])=_
 rw[if_neg #[0],jA]
 push_cast
 rfl
theorem OC{w f:Nat}(hn:n<w^l)(hf:f<w):n+w^l*f<w^(l+1):=by
 have h1:w^l*(f+1)<=w^l*w:=ZC _ #[0]
 rw[Nat.mul_succ]at h1
 rw[JJ]
 omega
theorem Ew{w:Nat}(R:aI many (w^p) rows)(p1:1<=p){f:Nat}(o:AG many w p u)(hf:f<w):AG many w p (eA w p rows u f):=by
 obtain⟨h,l,n,rfl,h1,l1,n1⟩:=o
 have lt:=OC n1 hf
 by_cases e:l+1=p
 ·rw[tM e]
  rw[e]at lt
  have s:=cA R (h:=(h:Int)) (f:=((n+w^l*f:Nat):Int)) #[0] #[0] #[0] #[0]
  obtain⟨t,et⟩:=fQ s.1
  exact⟨t,0,0,by rw[et];rfl,by omega,by omega,by rw[zS];omega⟩
 ·rw[tN e]
  exact⟨h,l+1,_,rfl,h1,by omega,lt⟩
theorem Bl{w:Nat}(m1:1<=many)(p1:1<=p):AG many w p [0,0,0]:=⟨0,0,0,rfl,by omega,by omega,by rw[zS];omega⟩
theorem OD{w:Nat}{signs:LI}(R:aI many (w^p) rows)(w1:1<=w)(SS:fu many rows signs)(o:AG many w p u):lowG rows signs (eA w p rows u 0)=lowG rows signs u:=by
 obtain⟨h,l,n,rfl,h1,l1,n1⟩:=o
 by_cases e:l+1=p
 ·rw[tM e,QM,Zl]
  have lt:n<w^p:=jW n1 (ju w1 #[0])
  have s:=cA R (h:=(h:Int)) (f:=(n:Int)) #[0] #[0] #[0] #[0]
  exact SS _ s.1 s.2
 ·rw[tN e,QM,Zl]
  rfl
theorem EJ(st:α->Nat->α)(b:α)(u v:LI):Bv st b (u++v)=Bv st (Bv st b u) v:=by
 unfold Bv
 rw[JC]
theorem valN{w:Nat}{t:LI}(h:mi w t):∃ n:Nat,cx (w:Int) t=(n:Int):=by
 have:=mI (b:=(w:Int)) #[0] h
 exact⟨(cx (w:Int) t).toNat,by omega⟩
theorem X5{w:Nat}{t:LI}(ht:mi w t)(lt:t.length<p):Bv #[49] [h,0,0] t=[h,(t.length:Int),cx (w:Int) t]:=by
 have key:∀ j:Nat,j<=t.length->Bv #[49] [h,0,0] (t.take j)=[h,(j:Int),cx (w:Int) (t.take j)]:=by
  intro j
  induction j with
  | zero=>intro _;rfl
  | succ j ih =>
   intro hj
   have jl:j<t.length:=by omega
   have ih:=ih #[0]
   have f0:=ht t[j] (jH jl)
   obtain⟨f,ef⟩:=fQ f0.1
   have hs:mi w (t.take j):=fun g hg=>ht g (zC hg)
   obtain⟨n,en⟩:=valN hs
   rw[ze jl,rh,ih,en,ef,jA,tN #[0],wL,en,jQ,Nat.min_eq_left #[0]]
   congr 3
   push_cast
   rw[zP]
 have:=key t.length (jE _)
 rw[jU]at this
 exact this
theorem ab9{w:Nat}{t:LI}(p1:1<=p)(ht:mi w t)(lt:t.length=p):Bv #[49] [h,0,0] t=[stepI rows h (cx (w:Int) t),0,0]:=by
 have jl:p-1<t.length:=by omega
 have e:t=t.take (p-1)++[t[p-1]]:=by
  rw[<- ze jl,show p-1+1=t.length by omega,jU]
 have hs:mi w (t.take (p-1)):=fun g hg=>ht g (zC hg)
 have ll:(t.take (p-1)).length=p-1:=by rw[jQ];omega
 obtain⟨n,en⟩:=valN hs
 have f0:=ht t[p-1] (jH jl)
 obtain⟨f,ef⟩:=fQ f0.1
 rw[e,rh,X5 hs #[0],ll,en,ef,jA,tM #[0],wL,en,ll]
 congr 2
 push_cast
 rw[zP]
theorem Eu{w:Nat}(w1:1<=w)(p1:1<=p):∀ (V:LI) (h:Int),mi (w^p) V->Bv #[49] [h,0,0] (pS w p V)=[aY rows V h,0,0]
 | [],_,_=>rfl
 | F :: V,h,hV=>by
  have hF:=hV F jD
  show Bv #[49] [h,0,0] (lR w p F.toNat++pS w p V)=_
  rw[EJ,ab9 p1 (AU w1 p _) (DZ _ _ _),D4,zb #[0],jb hF.1,Eu w1 p1 V _ fun g hg=>hV g (jI _ hg)]
  rfl
theorem ab8{w:Nat}(w1:1<=w)(p1:1<=p){V t:LI}(hV:mi (w^p) V)(ht:mi w t)(lt:t.length<p):Bv #[49] [0,0,0] (pS w p V++t)=[aY rows V 0,(t.length:Int),cx (w:Int) t]:=by
 rw[EJ,Eu w1 p1 V 0 hV,X5 ht lt]
theorem B9(w:Nat):∀ p:Nat,lR w p 0=JG p 0
 | 0=>rfl
 | p+1=>by rw[lR,Nat.zero_mod,Nat.zero_div,B9 w p,Zh];rfl
theorem HX{w:Nat}(w1:1<=w):∀ {t:LI} (p:Nat),mi w t->t.length<=p->lR w p (cx (w:Int) t).toNat=t++JG (p-t.length) 0
 | [],p,_,_=>by rw[show cx (w:Int) []=0 from rfl];exact B9 w p
 | x :: t,0,_,h=>by cases h
 | x :: t,p+1,hx,h=>by
  have x0:=hx x jD
  have ht:mi w t:=fun g hg=>hx g (jI _ hg)
  obtain⟨n,en⟩:=valN ht
  obtain⟨y,ey⟩:=fQ x0.1
  have e:(cx (w:Int) (x :: t)).toNat=y+w*n:=by
   show(x+(w:Int)*cx (w:Int) t).toNat=_
   rw[en,ey,show(y:Int)+(w:Int)*(n:Int)=((y+w*n:Nat):Int) by push_cast;rfl,jA]
  have ih:=HX w1 p ht (by simpa using h)
  rw[en,jA]at ih
  rw[e,lR,Nat.add_mul_mod_self_left,zb #[0],Nat.add_mul_div_left _ _ #[0],Nat.div_eq_of_lt #[0],Jc,ih,jT,Nat.add_sub_add_right,<- ey]
  rfl
theorem low_split{w:Nat}(w1:1<=w)(p1:1<=p):∀ (n:Nat) (v:LI),v.length<=n->mi w v->∃ V t:LI,mi (w^p) V/\mi w t/\t.length<p/\v=pS w p V++t
 | 0,v,h,hv=>⟨[],v,(fun f hf=>by cases hf),hv,by omega,rfl⟩
 | n+1,v,h,hv=>by
  by_cases c:v.length<p
  ·exact⟨[],v,(fun f hf=>by cases hf),hv,c,rfl⟩
  ·have hd:mi w (v.drop p):=fun g hg=>hv g (List.mem_of_mem_drop hg)
   have hk:mi w (v.take p):=fun g hg=>hv g (zC hg)
   obtain⟨V,t,h1,h2,h3,h4⟩:=low_split w1 p1 n (v.drop p) (by rw[Jz];omega) hd
   have lk:(v.take p).length=p:=by rw[jQ];omega
   have vl:=IU (w:=(w:Int)) #[0] hk
   have v0:=mI (b:=(w:Int)) #[0] hk
   rw[lk]at vl
   have dg:=HX w1 p hk #[0]
   rw[lk,Jw,List.replicate_zero,jo]at dg
   refine⟨cx (w:Int) (v.take p) :: V,t,fun g hg=>?_,h2,h3,?_⟩
   ·rcases jY.mp hg with z|z
    ·rw[z]
     push_cast
     exact⟨v0,vl⟩
    ·exact h1 g z
   ·show v=(lR w p (cx (w:Int) (v.take p)).toNat++pS w p V)++t
    rw[dg,jk,<- h4,zg]
structure mj(w p:Nat)(rows:LL)(signs:LI)(aw:LL)(aK:LI)(k:Nat):Prop where
 ex:∃ (ps sM:LL),FJ #[49] [0,0,0] w ps sM/\sM.length=ps.length/\cu w sM aw (ps.map (lowG rows signs)) aK/\k=ps.length
section
variable{w k:Nat}{signs:LI}
theorem mj.told(h:mj w p rows signs aw aK k)(hv:mi w v):sgn aK (aY aw v 0)=lowG rows signs (Bv #[49] [0,0,0] v):=by
 obtain⟨ps,sM,G,el,LO,en⟩:=h.ex
 obtain⟨j,h1,h2⟩:=G.told el hv
 rw[<- LO.tells v hv,h1]
 unfold sgn
 rw[jA,jM,jN,h2]
 rfl
theorem mj.one(h:mj w p rows signs aw aK k)(hB:mj w p rows signs adC aaK kB):(aw=adC/\aK=aaK)/\k=kB:=by
 obtain⟨ps,sM,G,el,LO,en⟩:=h.ex
 obtain⟨ps2,aod,G2,el2,LO2,en2⟩:=hB.ex
 refine⟨cu.one LO LO2 fun v hv=>?_,?_⟩
 ·rw[LO.tells v hv,LO2.tells v hv,h.told hv,hB.told hv]
 ·rw[en,en2]
  exact afa G.nd G2.nd (fun p=>G.rg el) fun p=>G2.rg el2
theorem mj.raised(h:mj w p rows signs aw aK k)(R:aI many (w^p) rows)(m1:1<=many)(w1:1<=w)(p1:1<=p)(SS:fu many rows signs):Tells (w^p) (lh w p aw) rows aK signs 0 0:=fun V hV=>by
 obtain⟨ps,sM,G,el,LO,en⟩:=h.ex
 rw[fj w1 LO.ok V 0 hV ⟨by omega,by have:=LO.pos;omega⟩,h.told (Dg w1 V),Eu w1 p1 V 0 hV]
 have wi:=dH R (ns:=V) (h:=0) hV #[0] #[0]
 exact SS _ wi.1 wi.2
theorem mj.afp(h:mj w p rows signs aw aK k)(R:aI many (w^p) rows)(m1:1<=many)(w1:1<=w)(p1:1<=p)(SS:fu many rows signs):fu aw.length aw aK:=fun q q0 q1=>by
 obtain⟨ps,sM,G,el,LO,en⟩:=h.ex
 obtain⟨i,rfl⟩:=fQ q0
 obtain⟨v,hv,e⟩:=LO.ord.Dv LO.ok i #[0]
 have MU:mi w (v++[0]):=fun g hg=>by
  rcases Bn.mp hg with z|z
  ·exact hv g z
  ·rw[jK.mp z];omega
 have t1:=h.told hv
 have t2:=h.told MU
 have o:AG many w p (Bv #[49] [0,0,0] v):=Rg.all (φ:=AG many w p) (Bl m1 p1) (fun u o f hf=>Ew R p1 o hf) ⟨v,hv,rfl⟩
 rw[rh,Int.toNat_zero,OD R w1 SS o,<- t1,rA,e]at t2
 exact t2
theorem mj.Ss(h:mj w p rows signs aw aK k)(R:aI many (w^p) rows)(m1:1<=many)(w1:1<=w)(p1:1<=p)(RO:aI eD.length w eD)(o0:0<eD.length)(SO:fu eD.length eD mV)(LR:cu (w^p) (lh w p eD) rows mV signs)(LX:cu w eD adD mV aaL):aw=adD/\aK=aaL:=by
 obtain⟨ps,sM,G,el,LO,en⟩:=h.ex
 refine cu.one LO LX fun v hv=>?_
 rw[LO.tells v hv,h.told hv]
 obtain⟨V,t,hV,ht,lt,e⟩:=low_split w1 p1 v.length v (jE _) hv
 have v0:=mI (b:=(w:Int)) #[0] ht
 have vl:=IU (w:=(w:Int)) #[0] ht
 have vl2:cx (w:Int) t<((w^p:Nat):Int):=by
  refine Int.lt_of_lt_of_le vl ?_
  rw[show(w:Int)^t.length=((w^t.length:Nat):Int) by push_cast;rfl]
  exact Int.ofNat_le.mpr (ju w1 #[0])
 have hV2:mi (w^p) (V++[cx (w:Int) t]):=fun g hg=>by
  rcases Bn.mp hg with z|z
  ·exact hV g z
  ·rw[jK.mp z];exact⟨v0,vl2⟩
 have tl:=LR.tells _ hV2
 rw[fj w1 RO _ 0 hV2 ⟨by omega,by omega⟩,rA]at tl
 rw[e,ab8 w1 p1 hV ht lt]
 show sgn signs (stepI rows (aY rows V 0) (cx (w:Int) t))=_
 rw[<- tl]
 have ee:pS w p (V++[cx (w:Int) t])=(pS w p V++t)++JG (p-t.length) 0:=by
  unfold pS
  rw[JL,JV,HX w1 p ht #[0],jk]
 rw[ee,cP,su RO w1 SO]
 ·exact(dH RO (ns:=pS w p V++t) (h:=0) (by rw[<- e];exact hv) #[0] #[0]).1
 ·exact(dH RO (ns:=pS w p V++t) (h:=0) (by rw[<- e];exact hv) #[0] #[0]).2
end
def TL(w p:Nat)(h:Nat):LL:=(jd p).flatMap fun l:Nat=>(jd (w^l)).map fun n:Nat=>[(h:Int),(l:Int),(n:Int)]
theorem FQ{w:Nat}(w2:2<=w)(h:Nat):∀ p:Nat,(TL w p h).length<=w^p
 | 0=>by rw[zS];exact je _
 | p+1=>by
  have ih:=FQ w2 h p
  unfold TL at ih ⊢
  rw[js,JL,jG,zW,ZQ,jo,bq,jg,JJ]
  have:=ZC (w^p) w2
  omega
theorem FR{w p:Nat}(w2:2<=w):∀ m:Nat,((jd m).flatMap (TL w p)).length<=m*w^p
 | 0=>je _
 | m+1=>by
  have ih:=FR (p:=p) w2 m
  have:=FQ w2 m p
  rw[js,JL,jG,zW,ZQ,jo,ZR]
  omega
theorem Q5{w:Nat}(w2:2<=w)(nd:ps.Nodup)(h:∀ u∈ps,AG many w p u):ps.length<=many*w^p:=
 jf (iz nd fun u hu=>by
  obtain⟨a,l,n,rfl,h1,h2,h3⟩:=h u hu
  exact Jn.mpr ⟨a,jm.mpr h1,Jn.mpr ⟨l,jm.mpr h2,jO.mpr ⟨n,jm.mpr h3,rfl⟩⟩⟩) (FR w2 many)
inductive MK (vs:List V) (H:Hp) (Q:VK) (E:XK):Prop
 | mk (y:V) (_:vs=[y]) (_:Pl H y) (_:Q (.bl (W7 y)) H)
theorem ahS{A B:Prop}(h1:c=true->A)(h2:c=false->B):if c=true then A else B:=by
 cases c
 ·exact ff (h2 rfl)
 ·exact Be (h1 rfl)
theorem ahT{A B:Prop}(h1:c=false->A)(h2:c=true->B):if (!c)=true then A else B:=by
 cases c
 ·exact Be (h1 rfl)
 ·exact ff (h2 rfl)
def whF(lo:Int):V->Bool
 | .int z=>decide (lo<=z)
 | _=>false
inductive Rm (vs:List V) (H:Hp) (Q:VK) (E:XK):Prop
 | mk (y:V) (lo:Int) (_:vs=[y,.int lo]) (_:Pl H y) (_:Q (.bl (whF lo y)) H)
section
theorem Il(F:br K "is_whole" "is_whole" sk dV f fd)(av:mg "isinstance" = none)(sP:mg "int" = none)(sy:mg "bool" = none):bc P w K mg base eB 1 f fd ["thing"] MK:=by
 refine F.ok CM #[6] #[1]
 ·obtain⟨y,rfl,_⟩:=h
  rfl
 obtain⟨y,rfl,hp,q⟩:=h
 refine⟨_,(ao (aH (EF (ay iT #[26] av aD (aa #[98] (aa (iW (v:=.ty "int") rfl sP HQ rfl) af))) (EG (aaj (ay iT #[26] av aD (aa #[98] (aa (iW (v:=.ty "bool") rfl sy HP rfl) af)))))))),?_⟩
 exists 0
 obtain⟨t,bi,bb,bt,ty,ki,kb,_,e,_⟩:=hp.isi (K:=K)
 refine⟨_,rfl,_,_,_,_,rfl,ty,ki,_,rfl,ahS #[29] #[29]⟩
 ·exists _,rfl,_,_,_,_,rfl,ty,kb,_,rfl
  rw[c,Bool.true_and]at e
  rw[e]
  exact q
 ·rw[c,ZZ]at e
  rw[<- e]at q
  exact q
theorem Y2(F:br K "is_whole_from" "is_whole_from" ig dV f fd)(iq:bp P w K mg base "is_whole" 1 ["thing"] [] MK):bc P w K mg base eB 2 f fd ["thing","least"] Rm:=by
 refine F.ok rn #[6] #[1]
 ·obtain⟨y,lo,rfl,_⟩:=h
  rfl
 obtain⟨y,lo,rfl,hp,q⟩:=h
 exists _,(ao (aH (EF (aW iq hr #[72]) (EG (pz L8 #[98] #[92] (aM _))))))
 exists 0
 refine⟨_,rfl,y,rfl,hp,_,rfl,ahS #[29] #[29]⟩
 ·cases y with
  | int z=>exact⟨_,rfl,_,rfl,_,_,rfl,rfl,q⟩
  | _=>cases c
 ·cases y with
  | int z=>cases c
  | _=>exact q
end
inductive afm (vs:List V) (H:Hp) (Q:VK) (E:XK):Prop
 | mk (y:V) (wide:Nat) (_:vs=[y,.int wide]) (_:Pl H y) (_:(1<=wide/\wide<=1000)) (_:(∀ b p:Nat,y=.int b->2<=b->1<=p->wide=b^p->Q (.int p) H)) (_:((∀ b p:Nat,y=.int b->2<=b->1<=p->wide≠b^p)->Q .non H))
structure abr(K:Wl)(C:QQ):Prop where
 cl:IX K C
 nr:iQ K C "rows"
 ns:iQ K C "signs"
 np:iQ K C "power"
 nw:iQ K C "weights"
def wgt(w p:Nat):LI:=(jd p).map fun l:Nat=>((w^l:Nat):Int)
structure MY(H:Hp)(C x r g:QQ)(w p:Nat):Prop where
 ob:∃ dx L:QQ,H x=some (.ins C dx [("rows",.ref r),("signs",.ref g),("power",.int p),("weights",.ref L)])/\H L=some (.lst ((wgt w p).map V.int))
theorem MY.same{x r g:QQ}{w:Nat}(h:MY H C x r g w p)(s:aB H H'):MY H' C x r g w p:=by
 obtain⟨dx,L,h1,h2⟩:=h.ob
 exact⟨dx,L,s _ _ h1,s _ _ h2⟩
inductive Rn (C:QQ) (vs:List V) (H:Hp) (Q:VK) (E:XK):Prop
 | mk (x dx m r g:QQ) (w p wide:Nat) (rows:LL) (signs:LI) (_:vs=[.ref x,.ref m,.int w,.int p]) (_:H x=some (.ins C dx [])) (_:bA H m r g wide rows signs) (_:(1<=w/\p<=100/\w^p<=1000)) (_:∀ H':Hp,(∀ c u,c≠x->H c=some u->H' c=some u)->MY H' C x r g w p->Q .non H')
inductive E1 (vs:List V) (H:Hp) (Q:VK) (E:XK):Prop
 | mk (x:QQ) (_:vs=[.ref x]) (_:∀ (t:QQ) (H':Hp),aB H H'->H' t=some (.tup [.int 0,.int 0,.int 0])->Q (.ref t) H')
inductive IL (C:QQ) (vs:List V) (H:Hp) (Q:VK) (E:XK):Prop
 | mk (x t m r g:QQ) (many w p f:Nat) (u:LI) (rows:LL) (signs:LI) (_:vs=[.ref x,.ref t,.int f]) (_:MY H C x r g w p) (_:bA H m r g (w^p) rows signs) (_:aI many (w^p) rows) (_:w^p<=1000) (_:1<=w) (_:H t=some (.tup (u.map V.int))) (_:AG many w p u) (_:f<w) (_:∀ (T:QQ) (H':Hp),aB H H'->H' T=some (.tup ((eA w p rows u f).map V.int))->Q (.ref T) H')
inductive IK (C:QQ) (vs:List V) (H:Hp) (Q:VK) (E:XK):Prop
 | mk (x t m r g:QQ) (many w p:Nat) (u:LI) (rows:LL) (signs:LI) (_:vs=[.ref x,.ref t]) (_:MY H C x r g w p) (_:bA H m r g (w^p) rows signs) (_:aI many (w^p) rows) (_:signs.length=many) (_:1<=w) (_:H t=some (.tup (u.map V.int))) (_:AG many w p u) (_:Q (.int (lowG rows signs u)) H)
inductive E8 (CT:QQ) (vs:List V) (H:Hp) (Q:VK) (E:XK):Prop
 | mk (m r g:QQ) (many w p most:Nat) (rows:LL) (signs:LI) (_:vs=[.ref m,.int w,.int most]) (_:bA H m r g (w^p) rows signs) (_:aI many (w^p) rows) (_:signs.length=many) (_:1<=many) (_:(2<=w/\1<=p/\w^p<=1000)) (_:(1<=most/\most<=900)) (_:(∀ (m' r' g':QQ) (aw:LL) (aK:LI) (k:Nat) (H':Hp),aB H H'->bA H' m' r' g' w aw aK->mj w p rows signs aw aK k->k<=most->Q (.ref m') H')) (_:∀ (d:QQ) (H':Hp) (ps:LL),aB H H'->H' d=some (.xd [("most",.int most)])->ps.Nodup->(∀ u∈ps,Rg #[49] [0,0,0] w u)->most<ps.length->E (.ref CT) (some d) H')
inductive Pj (CN:QQ) (vs:List V) (H:Hp) (Q:VK) (E:XK):Prop
 | mk (m:QQ) (y r g mo:V) (wide:Nat) (_:vs=[.ref m,y,mo]) (_:H m=some (.tup [.int wide,r,g])) (_:Pl H y) (_:(1<=wide/\wide<=1000)) (_:(∀ b p:Nat,y=.int b->2<=b->1<=p->wide≠b^p)) (_:E (.ref CN) none H)
theorem afG{w:Nat}(h:l<p):wO ((wgt w p).map V.int) (l:Int)=some (.int ((w^l:Nat):Int)):=by
 refine pf ?_
 unfold wgt
 rw[jN,jN,ZA h]
 rfl
theorem oJ{w:Nat}(w1:1<=w)(h:w^p<=1000)(hl:l<=p):w^l<=1000:=jf (ju w1 hl) h
theorem aca{x m r g:QQ}{w:Nat}{signs:LI}(R:aI many (w^p) rows)(ls:signs.length=many)(m1:1<=many)(w1:1<=w)(p1:1<=p)(wp:w^p<=1000):
  Wlk C x w (fun H=>MY H C x r g w p/\bA H m r g (w^p) rows signs) (AG many w p) #[49] [0,0,0] (lowG rows signs) E1 (IL C) (IK C) where
 same:=fun H H' s h=>⟨h.1.same s,h.2.same fun a xs e=>s _ _ e⟩
 ob:=fun H h=>by
  obtain⟨dx,L,h1,_⟩:=h.1.ob
  exact⟨dx,_,h1,rfl,rfl,rfl⟩
 begin:=fun H Q E h q=>⟨x,rfl,fun t H' s ht=>q t H' s ht⟩
 step:=fun H Q E bb u f fi e h hb o hf q=>by
  subst e
  exact⟨x,bb,m,r,g,many,w,p,f,u,rows,signs,rfl,h.1,h.2,R,wp,w1,hb,o,hf,fun T H' s hT=>q T H' s hT⟩
 sign:=fun H Q E bb u h hb o q=>⟨x,bb,m,r,g,many,w,p,u,rows,signs,rfl,h.1,h.2,R,ls,w1,hb,o,q H fun _ _ e=>e⟩
 ok0:=Bl m1 p1
 okS:=fun u f o hf=>Ew R p1 o hf
section
variable{CN:QQ}
theorem eh:aJ ["base","wide","power","reached"] ["base","wide"] (ar mS):=cS #[3]
theorem tW:aJ ["self","machine","base","power"] ["self","machine","base","power"] (ar dR):=cS #[3]
theorem iR:bF ["self","machine","base","power"] (ar dR) ["long","base"] [none,some 2] ⟨.function,[#[62],("long",.local),("power_of",.globalImplicit),("base",.free)],false,false,[]⟩:=rV #[3]
theorem BE:aJ ["self"] ["self"] (ar lW):=cS #[3]
theorem fA:aJ ["self","place","figure","here","long","number"] ["self","place","figure"] (ar mQ):=cS #[3]
theorem Cp:aJ ["self","place"] ["self","place"] (ar mP):=cS #[3]
theorem sr:aJ ["machine","base","most","power"] ["machine","base","most"] (ar wI):=cS #[3]
theorem aia(F:br K "power_between" "power_between" mS dV f fd)(cX:bp P w K mg base "is_whole_from" 2 ["thing","least"] [] Rm):bc P w K mg base eB 3 f fd ["base","wide"] afm:=by
 refine F.ok eh #[6] #[1]
 ·obtain⟨y,wide,rfl,_⟩:=h
  rfl
 obtain⟨y,wide,rfl,hp,⟨w0,w1⟩,good,bad⟩:=h
 refine⟨_,(ag (bK (lV (iZ (aW cX hr (aa #[98] #[80])))) (ao (aH tR)) aR)
   (ag (az (i:=2) eh.nd ah)
   (ag (az (i:=3) eh.nd #[98])
   (ag (iY PassesOwn.never (aE Ac (pv 3) #[92] (aM _)) (ag (az (i:=2) eh.nd (aC bu (pv 2) ah))
   (ao (az (i:=3) eh.nd (aC eJ (pv 3) #[98])))))
   (ao (aH (aag (aE dE (pv 3) #[92] (aM _)) (pv 2) tR))))))),?_⟩
 exists 0
 refine⟨_,rfl,y,2,rfl,hp,_,rfl,ahT #[29] #[29]⟩
 ·refine bad fun b p e b2 _=>?_
  subst e
  have:whF 2 (.int (b:Int))=true:=decide_eq_true #[0]
  rw[this]at c
  cases c
 cases y with
 | int z =>
  have z2:2<=z:=of_decide_eq_true c
  obtain⟨b,rfl⟩:=fQ (show 0<=z by omega)
  have b2:2<=b:=by omega
  have pe:∀ t:Nat,((b:Nat):Int)^t=((b^t:Nat):Int):=fun t=>by push_cast;rfl
  exists 1
  exists _,rfl
  exists 1
  refine cU (t:=mW _ _) (fun σ' H'=>∃ t:Nat,σ'=[some (.int b),some #[74],some (.int t),some (.int ((b^t:Nat):Int))]/\H'=H/\1<=t/\wide<=b^t/\∀ i:Nat,i<t->1<=i->b^i<wide) ?_ #[30]
  exists 16
  ·refine oB (fun m σ' H'=>∃ t:Nat,m=2000-t/\σ'=[some (.int b),some #[74],some (.int t),some (.int ((b^t:Nat):Int))]/\H'=H/\1<=t/\∀ i:Nat,i<t->1<=i->b^i<wide) ⟨_,1,rfl,by rw[Jr];rfl,rfl,jE _,fun i h1 h2=>by omega⟩ ?_
   rintro m σ' H' ⟨t,rfl,rfl,rfl,t1,ht⟩
   refine⟨_,rfl,_,rfl,_,_,rfl,rfl,_,rfl,ou #[29] (fun c=>dq _ _ ⟨t,rfl,rfl,t1,by omega,ht⟩)⟩
   have lt:b^t<wide:=by omega
   have tl:t<1000:=by
    have:=zw (n:=t) (show 1<b by omega)
    omega
   refine⟨_,fun _ _ h=>h,?_⟩
   exists _,rfl,_,_,rfl,rfl
   exists 1
   refine⟨_,rfl,_,rfl,_,_,rfl,rfl,.inl ⟨by omega,by omega⟩,2000-(t+1),by omega,t+1,rfl,?_,rfl,by omega,fun i h1 h2=>?_⟩
   ·rw[JJ]
    push_cast
    rfl
   ·by_cases e:i=t
    ·rw[e];exact lt
    ·exact ht i #[0] h2
  rintro σ' H' ⟨t,rfl,rfl,t1,le,ht⟩
  refine⟨_,rfl,_,rfl,rfl,_,rfl,mC #[29] #[29]⟩
  ·exact⟨_,rfl,good b t rfl b2 t1 #[0]⟩
  ·refine bad fun b' p e _ p1 ew=>?_
   have eb:b=b' := by
    have:=V.int.inj e
    omega
   subst eb
   rcases ZN p t with h|h|h
   ·have:=ht p h p1
    omega
   ·rw[h]at ew
    exact c (by rw[ew])
   ·have:=zD (a:=b) #[0] h
    omega
 | _=>cases c
theorem Y4(F:br K "__init__" "Lowering.__init__" dR dV f fd)(lc:abr K C)(lL:bp P w K mg base "power_of" 1 ["base","times"] [] IM)(aL:mg "range" = none):bc P w K mg base eB 2 f fd ["self","machine","base","power"] (Rn C):=by
 refine F.ok tW #[6] #[1]
 ·obtain⟨x,dx,m,r,g,wn,p,wide,rows,signs,rfl,_⟩:=h
  rfl
 obtain⟨x,dx,m,r,g,wn,p,wide,rows,signs,rfl,hx,M,⟨w1,p1,wp⟩,k⟩:=h
 have nmx:m≠x:=aQ M.tup hx #[2]
 refine⟨_,(ag (tS #[98] #[39] rfl)
   (ag (tS #[98] #[39] rfl)
   (ag (tS #[98] (pv 3) rfl)
   (ao (tS #[98] (eK rfl iR (bG rfl aL #[79]) (fun _ _ _ _=>(aS (i:=0) iR.nd)) (fun _ _ _ _=>(aW lL hr (aa #[92] #[72])))) rfl))))),?_⟩
 exists 0
 refine⟨_,rfl,m,_,_,_,rfl,rfl,bS M.tup,rfl,_,rfl,x,C,dx,[],rfl,hx,lc.cl,lc.nr,by decide,?_⟩
 refine⟨_,rfl,m,_,_,_,rfl,rfl,bS (by rw[aj nmx];exact M.tup),rfl,_,rfl,x,C,dx,_,rfl,ae,lc.cl,lc.ns,by show 1<1000;decide,?_⟩
 refine⟨_,rfl,_,rfl,x,C,dx,_,rfl,ae,lc.cl,lc.np,by show 2<1000;decide,?_⟩
 obtain⟨H1,Tq⟩:∃ H1,upd (upd (upd H x (HO.ins C dx (mG "rows" (V.ref r) []))) x (HO.ins C dx (mG "signs" (V.ref g) (mG "rows" (V.ref r) [])))) x (HO.ins C dx (mG "power" (V.int p) (mG "signs" (V.ref g) (mG "rows" (V.ref r) []))))=H1:=⟨_,rfl⟩
 have Ox:H1 x=some (.ins C dx [("rows",.ref r),("signs",.ref g),("power",.int p)]):=by rw[<- Tq,ae];rfl
 have Fu:∀ c u,c≠x->H c=some u->H1 c=some u:=fun c u hc e=>by rw[<- Tq,aj hc,aj hc,aj hc];exact e
 rw[Tq]
 refine⟨_,rfl,(p:Int),rfl,by omega,by omega,?_⟩
 refine fc (fun D i ys H'=>aB H1 H'/\ys=(wgt wn i).map V.int) #[48] ?_ ?_
 ·rintro D i ys H' Q' hD hi hy ⟨hs,rfl⟩ k'
  have wl:=oJ (l:=i) w1 wp #[0]
  have e1:(0:Int)+(i:Int)=((i:Nat):Int):=JO _
  refine⟨_,rfl,_,rfl,wn,i,by rw[e1];rfl,w1,by omega,?_,k' _ _ hy (aA (by rw[bq];unfold wgt;rw[bq,jg];omega)) ⟨ax hs hD,?_⟩⟩
  ·rw[show(wn:Int)^i=((wn^i:Nat):Int) by push_cast;rfl]
   exact zQ (show((wn^i:Nat):Int)<=1000 by omega) #[3]
  ·unfold wgt
   rw[js,jF,jF]
   rfl
 rintro L ys H2 hL0 hL2 ⟨s2,rfl⟩
 rw[jA]at hL2
 have nxL:L≠x:=fun z=>by rw[z,Ox]at hL0;cases hL0
 refine⟨_,rfl,x,C,dx,_,rfl,s2 _ _ Ox,lc.cl,lc.nw,by show 3<1000;decide,?_⟩
 exact k _ (fun c u hc e=>by rw[aj hc];exact s2 _ _ (Fu c u hc e)) ⟨dx,L,ae,by rw[aj nxL];exact hL2⟩
theorem Sz(F:br K "begin" "Lowering.begin" lW dV f fd):bc P w K mg base eB 1 f fd ["self"] E1:=by
 refine F.ok BE #[6] #[1]
 ·obtain⟨x,rfl,_⟩:=h
  rfl
 obtain⟨x,rfl,q⟩:=h
 exists _,(ao (aH (eL (aa ah (aa ah #[80])))))
 exists 0
 exact⟨#[17],fun T hT=>q T _ (ak hT _) ae⟩
theorem Y7(F:br K "step" "Lowering.step" mQ dV f fd)(lc:abr K C):bc P w K mg base eB 2 f fd ["self","place","figure"] (IL C):=by
 refine F.ok fA #[6] #[1]
 ·obtain⟨x,t,m,r,g,many,wn,p,fg,u,rows,signs,rfl,_⟩:=h
  rfl
 obtain⟨x,t,m,r,g,many,wn,p,fg,u,rows,signs,rfl,⟨dx,L,hx,hL⟩,M,R,wp,w1,ht,⟨h,l,n,rfl,h1,l1,n1⟩,hf,k⟩:=h
 obtain⟨dC,oG,hA⟩:=M.rows
 have wl:=oJ (l:=l) w1 wp #[0]
 have lt:=OC n1 hf
 have eN:(n:Int)+((wn^l:Nat):Int)*(fg:Int)=((n+wn^l*fg:Nat):Int):=by push_cast;rfl
 refine⟨_,(ag (az (i:=3) fA.nd #[39])
   (ag (az (i:=4) fA.nd (aC bu #[39] ah))
   (ag (az (i:=5) fA.nd (aC bu #[39] (aC eJ (aF cF #[47] #[39] #[4]) (pv 2))))
   (ag (bK (aE dE (pv 4) #[47] (aM _)) (ao (aH (eL (aa (aF aG (aF aG #[47] (pv 3) #[4]) (pv 5) #[4]) (aa ah #[80]))))) aR)
   (ao (aH (eL (aa (pv 3) (aa (pv 4) #[102]))))))))),?_⟩
 exists 0
 exists _,rfl,t,_,_,_,rfl,rfl,bS ht,rfl
 exists _,rfl,t,_,_,_,rfl,rfl,bS ht,rfl,_,_,rfl,rfl
 exists _,rfl,t,_,_,_,rfl,rfl,bS ht,rfl,_,rfl,x,C,dx,_,_,rfl,hx,lc.cl,lc.nw,rfl,_,rfl,t,_,_,_,rfl,rfl,bS ht,rfl,L,_,_,_,rfl,rfl,bV hL,afG l1,_,rfl,_,_,rfl,rfl,.inl ⟨by omega,by omega⟩,_,_,rfl,rfl
 exists 1
 rw[eN]
 refine⟨_,rfl,_,rfl,x,C,dx,_,_,rfl,hx,lc.cl,lc.np,rfl,rfl,_,rfl,mC #[29] #[29]⟩
 ·have e:l+1=p:=by omega
  rw[tM e]at k
  rw[e]at lt
  obtain⟨ra,rr,a1,a2,a3⟩:=fX (f:=((n+wn^l*fg:Nat):Int)) hA R (show(0:Int)<=(h:Int) by omega) #[0] #[0] #[0]
  exact⟨_,rfl,x,C,dx,_,_,rfl,hx,lc.cl,lc.nr,rfl,_,rfl,r,_,_,_,rfl,rfl,bS oG,a1,_,rfl,ra,_,_,_,rfl,rfl,bS a2,a3,#[17],fun T hT=>k T _ (ak hT _) ae⟩
 ·have e:l+1≠p:=by omega
  rw[tN e]at k
  exact⟨_,rfl,_,rfl,_,rfl,#[17],fun T hT=>k T _ (ak hT _) ae⟩
theorem Y6(F:br K "sign" "Lowering.sign" mP dV f fd)(lc:abr K C):bc P w K mg base eB 1 f fd ["self","place"] (IK C):=by
 refine F.ok Cp #[6] #[1]
 ·obtain⟨x,t,m,r,g,many,wn,p,u,rows,signs,rfl,_⟩:=h
  rfl
 obtain⟨x,t,m,r,g,many,wn,p,u,rows,signs,rfl,⟨dx,L,hx,hL⟩,M,R,ls,w1,ht,⟨h,l,n,rfl,h1,l1,n1⟩,k⟩:=h
 obtain⟨dC,oG,hA⟩:=M.rows
 have lt:n<wn^p:=jW n1 (ju w1 #[0])
 obtain⟨ra,rr,a1,a2,a3⟩:=fX (f:=(n:Int)) hA R (show(0:Int)<=(h:Int) by omega) #[0] #[0] #[0]
 have s:=cA R (h:=(h:Int)) (f:=(n:Int)) #[0] #[0] #[0] #[0]
 refine⟨_,(ao (aH (aF aG #[47] (aF aG (aF aG #[47] #[39] #[4]) #[39] #[4]) #[4]))),?_⟩
 exists 0
 exact⟨_,rfl,x,C,dx,_,_,rfl,hx,lc.cl,lc.ns,rfl,_,rfl,x,C,dx,_,_,rfl,hx,lc.cl,lc.nr,rfl,_,rfl,t,_,_,_,rfl,rfl,bS ht,rfl,r,_,_,_,rfl,rfl,bS oG,a1,_,rfl,t,_,_,_,rfl,rfl,bS ht,rfl,ra,_,_,_,rfl,rfl,bS a2,a3,g,_,_,_,rfl,rfl,bS M.sgn,cj s.1 #[0],k⟩
theorem Y5(F:br K "lowered" "lowered" wI dV f fd)(pd:PD P w K mg base "Lowering" C 2 ["self","machine","base","power"] (Rn C))(cJ:bp P w K mg base "power_between" 3 ["base","wide"] [] afm)(AE:pO P w K mg base "grown" 3 ["walk","wide","most"] [] (Mw C CT E1 (IL C) (IK C)))(hX:bp P w K mg base "least" 5 ["machine"] [] (Dx K)):bc P w K mg base (PB P w) 6 f fd ["machine","base","most"] (E8 CT):=by
 refine F.ah9 sr #[6] #[1]
 ·obtain⟨m,r,g,many,wn,p,most,rows,signs,rfl,_⟩:=h
  rfl
 obtain⟨m,r,g,many,wn,p,most,rows,signs,rfl,M,R,ls,m1,⟨w2,p1,wp⟩,mo,k,kx⟩:=h
 refine⟨_,(ag (az (i:=3) sr.nd (aad cJ hr (aa #[92] (aa #[12] af))))
   (ag (bK (aE OZ (pv 3) tR (aM _)) (ao EL) aR)
   (ao (aH (aad hX hr (aa (aeZ AE hr SQ (aa (aai pd hr (aa #[98] (aa #[92] #[79]))) (aa #[92] #[57]))) af)))))),?_⟩
 exists 0
 have w1:1<=wn:=by omega
 have pl:p<=100:=by
  have h1:=zw (n:=p) (show 1<wn by omega)
  have h2:p<10:=by
   refine Nat.lt_of_not_le fun z=>?_
   have h3:2^10<=wn^p:=jf (Nat.pow_le_pow_left w2 10) (ju w1 z)
   omega
  omega
 refine⟨_,rfl,_,rfl,m,_,_,_,rfl,rfl,bS M.tup,rfl,.int wn,wn^p,rfl,.int _,⟨Zu #[0],wp⟩,fun b q e b2 q1 ew=>?_,fun z=>absurd rfl (z wn p rfl w2 p1)⟩
 have eb:wn=b:=by
  have:=V.int.inj e
  omega
 subst eb
 have eq:p=q:=by
  rcases ZN p q with z|z|z
  ·have:=zD (a:=wn) #[0] z
   omega
  ·exact z
  ·have:=zD (a:=wn) #[0] z
   omega
 subst eq
 exists 1
 refine⟨_,rfl,rfl,_,rfl,ou (fun c=>by cases c) #[87]⟩
 refine⟨_,rfl,_,rfl,_,rfl,fun x dx hx hdx ne=>?_⟩
 have s2:aB H (upd (upd H dx (.own x)) x (.ins C dx [])):=fun b u e=>by rw[aj (aq e hx),aj (aq e hdx)];exact e
 refine⟨x,dx,m,r,g,wn,p,wn^p,rows,signs,rfl,ae,M.same (fun b xs e=>s2 _ _ e),⟨w1,pl,wp⟩,fun H2 kp LA=>⟨rfl,?_⟩⟩
 have s3:aB H H2:=fun b u e=>kp b u (aq e hx) (s2 _ _ e)
 have wle:wn<=1000:=by
  have:=oJ (l:=1) w1 wp p1
  rw[Jr]at this
  exact this
 refine⟨_,rfl,_,rfl,x,wn,most,_,_,_,[0,0,0],lowG rows signs,rfl,⟨LA,M.same fun b xs e=>s3 _ _ e⟩,aca R ls m1 w1 p1 wp,by omega,⟨mo.1,by omega⟩,fun m3 r3 g3 Rj ps H5 s5 M5 G el le=>?_,fun d H5 ps s5 hd nd re lt=>kx d H5 ps (s3.trans s5) hd nd re lt⟩
 refine⟨m3,r3,g3,ps.length,wn,Rj,ps.map (lowG rows signs),rfl,M5,?_,jX _,⟨?_,by omega⟩,by omega,fun m6 r6 g6 ail afg H6 s6 M6 LO=>k m6 r6 g6 ail afg ps.length H6 ((s3.trans s5).trans s6) M6 ⟨ps,Rj,G,el,LO,rfl⟩ le⟩
 ·rw[<- el]
  exact G.ok el
 ·have:=(iH G.hd).1
  omega
theorem Q7(F:br K "lowered" "lowered" wI dV f fd)(cJ:bp P w K mg base "power_between" 3 ["base","wide"] [] afm)(eU:mg "NoPower" = some (.ref CN))(wH:Yq K CN VEm "ValueError.__new__" = true):bc P w K mg base (CX1 P w) 6 f fd ["machine","base","most"] (Pj CN):=by
 refine F.okX sr #[6] #[1]
 ·obtain⟨m,y,r,g,mo,wide,rfl,_⟩:=h
  rfl
 obtain⟨m,y,r,g,mo,wide,rfl,hm,hp,w1,no,q⟩:=h
 refine⟨_,(ag (az (i:=3) sr.nd (aad cJ hr (aa #[92] (aa #[12] af))))
   (aau (bK (aE OZ (pv 3) tR (aM _)) (ao (aas wH rfl eU ac7 (aa O6 af))) aR))),?_⟩
 exists 0
 refine⟨_,rfl,_,rfl,m,_,_,_,rfl,rfl,bS hm,rfl,y,wide,rfl,hp,w1,fun b p e b2 p1 ew=>absurd ew (no b p e b2 p1),fun _=>?_⟩
 exists 1
 exists _,rfl,rfl,_,rfl
 rw[decide_eq_true rfl]
 exact Be ⟨(by show 1<=8;decide),q⟩
end
def tf(K:Wl)(H:Hp)(a:QQ)(ns:LI):Prop := ∃ (l t:QQ) (ts:LI),H a=some (.lst [.ref l,.ref t])/\H l=some (.lst #[34])/\(∀ z∈ns,0<=z/\z<2147483629)/\oM K H t (ts.map V.int)/\ts.length<=64
theorem tf.same{a:QQ}(h:tf K H a ns)(s:aB H H'):tf K H' a ns:=by
 obtain⟨l,t,ts,h1,h2,h3,h4,h5⟩:=h
 exact⟨l,t,ts,s _ _ h1,s _ _ h2,h3,s.seq h4,h5⟩
theorem W6{many wide f:Int}(q0:0<=q)(q1:q<many)(f0:0<=f)(f1:f<wide)(h:many*wide<=400):0<=q*wide/\q*wide+f<=400:=by
 have h1:=Int.mul_le_mul_of_nonneg_right (show q+1<=many by omega) (show 0<=wide by omega)
 rw[Int.add_mul,Int.one_mul]at h1
 exact⟨ZE q0 #[0],by omega⟩
inductive tZ (K:Wl) (vs:List V) (H:Hp) (Q:VK) (E:XK):Prop
 | mk (a:QQ) (k:Int) (ns:LI) (_:vs=[.ref a,.int k]) (_:tf K H a ns) (_:730<=ns.length) (_:0<=k) (_:k<730) (_:∀ v:Int,v=ns.getD k.toNat 0->0<=v->v<2147483629->Q (.int v) H)
inductive Rz (K:Wl) (vs:List V) (H:Hp) (Q:VK) (E:XK):Prop
 | mk (a p:QQ) (at_ way q f many wide half:Int) (ns:LI) (_:vs=[.ref a,.int at_,.ref p,.int way]) (_:tf K H a ns) (_:730<=ns.length) (_:H p=some (.lst [.int q,.int f,.int many,.int wide,.int half])) (_:(0<=at_/\at_<=20)) (_:(0<=q/\q<many)) (_:(0<=f/\f<wide)) (_:many<=1000) (_:wide<=1000) (_:many*wide<=400) (_:(1<=half/\half<=many)) (_:∀ v:Int,0<=v->v<many->Q (.int v) H)
inductive Rw (K:Wl) (vs:List V) (H:Hp) (Q:VK) (E:XK):Prop
 | mk (a:QQ) (at_ many half way:Int) (ns:LI) (_:vs=[.ref a,.int at_,.int many,.int half,.int way]) (_:tf K H a ns) (_:730<=ns.length) (_:(0<=at_/\at_<=400)) (_:(1<=many/\many<=20)) (_:(1<=half/\half<=many)) (_:∀ (p:QQ) (H':Hp) (signs:LI),aB H H'->H' p=some (.tup (signs.map V.int))->(signs.length:Int)=many->(∀ z∈signs,0<=z/\z<1000000)->Q (.ref p) H')
inductive CP (K:Wl) (vs:List V) (H:Hp) (Q:VK) (E:XK):Prop
 | mk (a:QQ) (at_:Int) (many wide:Nat) (ns:LI) (_:vs=[.ref a,.int at_,.int many,.int wide]) (_:tf K H a ns) (_:730<=ns.length) (_:(0<=at_/\at_<=10)) (_:(1<=many/\many<=20)) (_:(1<=wide/\wide<=1000)) (_:many*wide<=400) (_:∀ (m r g:QQ) (H':Hp) (rows:LL) (signs:LI),aB H H'->bA H' m r g wide rows signs->aI many wide rows->signs.length=many->(∀ z∈signs,0<=z/\z<1000000)->Q #[58] H')
section
theorem IH:aJ ["_law_spread_here","_law_k"] ["_law_spread_here","_law_k"] (ar tU):=cS #[3]
theorem dk:aJ ["_law_spread_here","_law_at","_law_place","_law_way","_law_q","_law_f","_law_many","_law_wide","_law_half","_law_number","_law_there_here"] ["_law_spread_here","_law_at","_law_place","_law_way"] (ar sj):=cS #[3]
theorem dj:aJ ["_law_spread_here","_law_at","_law_many","_law_half","_law_way","_law_menu","_law_found","_law_q","_law_pick"] ["_law_spread_here","_law_at","_law_many","_law_half","_law_way"] (ar ox):=cS #[3]
theorem sG:bF ["_law_spread_here","_law_at","_law_many","_law_half","_law_way","_law_menu","_law_found","_law_q","_law_pick"] (ar ox) ["_law_k","_law_at","_law_spread_here"] [none,some 1,some 0] ⟨.function,[#[62],("_law_k",.local),("_law_draw",.globalImplicit),("_law_at",.free),("_law_spread_here",.free)],false,false,[]⟩:=rV #[3]
theorem cM:aJ ["_law_spread_here","_law_at","_law_many","_law_wide","_law_way","_law_half","_law_rows","_law_q","_law_row"] ["_law_spread_here","_law_at","_law_many","_law_wide"] (ar eY):=cS #[3]
theorem mx:bF ["_law_spread_here","_law_at","_law_many","_law_wide","_law_way","_law_half","_law_rows","_law_q","_law_row"] (ar eY) ["_law_f","_law_at","_law_half","_law_many","_law_q","_law_spread_here","_law_way","_law_wide"] [none,some 1,some 5,some 2,some 7,some 0,some 4,some 3] ⟨.function,[#[62],("_law_f",.local),("_law_there",.globalImplicit),("_law_at",.free),("_law_half",.free),("_law_many",.free),("_law_q",.free),("_law_spread_here",.free),("_law_way",.free),("_law_wide",.free)],false,false,[]⟩:=rV #[3]
theorem ach(F:br K "_law_draw" "_law_draw" tU dV f fd):bc P w K mg base eB 1 f fd ["_law_spread_here","_law_k"] (tZ K):=by
 refine F.ok IH #[6] #[1]
 ·obtain⟨a,k,ns,rfl,_⟩:=h
  rfl
 obtain⟨a,k,ns,rfl,⟨l,t,ts,h1,h2,h3,h4,h5⟩,BJ,h0,Ef,q⟩:=h
 refine⟨_,(ao (aH (aF cF (aF cF #[98] ah #[4]) #[92] #[4]))),?_⟩
 exists 0
 have kl:k.toNat<ns.length:=by omega
 have r:=h3 _ (jH kl)
 rw[<- getD_at (d:=0) kl]at r
 exact⟨_,rfl,a,_,_,_,rfl,rfl,bV h1,rfl,_,rfl,l,_,_,_,rfl,rfl,bV h2,cj h0 #[0],q _ rfl r.1 r.2⟩
theorem Z6(F:br K "_law_there" "_law_there" sj dV f fd)(aO:bp P w K mg base "_law_draw" 1 ["_law_spread_here","_law_k"] [] (tZ K))(Hy:mg "min" = none):
  bc P w K mg base eB 2 f fd ["_law_spread_here","_law_at","_law_place","_law_way"] (Rz K):=by
 refine F.ok dk #[6] #[1]
 ·obtain⟨a,p,at_,way,q,f,many,wide,half,ns,rfl,_⟩:=h
  rfl
 obtain⟨a,p,at_,way,q,f',many,wide,half,ns,rfl,hS,BJ,hp,⟨at0,at1⟩,⟨q0,q1⟩,⟨f0,f1⟩,hm,hw,hmw,⟨ha0,ha1⟩,k⟩:=h
 have sm:∀ {x:Int},0<=x->x<=1000000->-(2^64)<x/\x<2^64:=fun h h'=>⟨by omega,by omega⟩
 have hqw:=W6 q0 q1 f0 f1 hmw
 have w1:0<wide:=by omega
 have hh1:0<half:=by omega
 have m1:0<many:=by omega
 refine⟨_,(ag (As (pv 2) (ae3 rfl (bx (aS (i:=4) dk.nd) (bx (aS (i:=5) dk.nd) (bx (aS (i:=6) dk.nd) (bx (aS (i:=7) dk.nd) (bx (aS (i:=8) dk.nd) iX)))))))
   (ag (az (i:=9) dk.nd (aW aO hr (aa #[98] (aa (aC bu (aC bu #[92] (aC eJ (pv 4) (pv 7))) (pv 5)) af))))
   (ag (bK (PW.pt (rX (aE dE (pv 3) ah (aM _)) (ow (aE dE (pv 5) (aC bR (aC eJ (pv 4) ah) (pv 7)) (aM _))))) (ao (aH (ay (FP rfl) #[26] Hy TK (aa (aC bu (pv 4) ah) (aa (aC EC (pv 6) ah) af))))) aR)
   (ag (bK (aE dE (pv 3) ah (aM _)) (ao (aH (aC bR (pv 9) (aC bu (pv 4) ah)))) aR)
   (ag (bK (aE dE (pv 3) ah (aM _)) (ao (aH (aC bR (aC bu (aC eJ (pv 4) (pv 7)) (pv 5)) (pv 6)))) aR)
   (ag (bK (aE dE (pv 3) ah (aM _)) (ag (az (i:=10) dk.nd (aC bR (aW aO hr (aa #[98] (aa (aC bu (aC bu #[92] (aC eJ (aC bR (pv 4) (pv 8)) (pv 7))) (pv 5)) af))) (pv 8)))
   (ag (bK (PW.pt (rX (aE dE (aC bR (aC Io (pv 9) ah) ah) ah (aM _)) (ow (aE Ac (aC bu (pv 10) (pv 8)) (pv 6) (aM _))))) (ao (aH (aC bu (pv 10) (pv 8)))) aR)
   (ao (aH (pv 10))))) aR)
   (ag (bK (PW.pt (rX (aE dE (pv 3) ah (aM _)) (ow (aE Ac (pv 4) (pv 8) (aM _))))) (ao (aH (aC bR (pv 9) (pv 8)))) aR)
   (ao (aH (aC bR (pv 9) (pv 6))))))))))),?_⟩
 exists 0
 exists _,rfl,p,_,rfl,bV hp,rfl,_,_,rfl,_,_,rfl,_,_,rfl,_,_,rfl,_,_,rfl,rfl
 refine⟨_,rfl,_,rfl,_,rfl,_,rfl,_,_,rfl,rfl,.inl (sm q0 #[0]),_,_,rfl,rfl,_,rfl,_,_,rfl,rfl,a,_,ns,rfl,hS,BJ,by omega,by omega,fun nu _ n0 n1=>?_⟩
 have r1:=cZ (a:=nu) (b:=q+1) #[0]
 have r2:=cZ (a:=q*wide+f') (b:=many) m1
 have r4:=cZ (a:=nu) (b:=half) hh1
 have r5:=cZ (a:=nu) (b:=many) m1
 have r6:=cZ (a:=q) (b:=half) hh1
 have hqh:=W6 r6.1 (show q%half<many by omega) f0 f1 hmw
 refine⟨_,rfl,rfl,_,rfl,mC (fun c1=>?_) (fun c1=>?_)⟩
 ·refine⟨_,rfl,_,rfl,_,_,rfl,rfl,.inr ⟨by decide,by decide⟩,_,rfl,_,_,rfl,rfl,w1,rfl,_,rfl,mC (fun c2=>?_) (fun c2=>?_)⟩
  ·exists _,rfl,_,_,rfl,rfl,_,rfl,_,_,rfl,rfl,_,_,rfl
   refine k _ ?_ ?_
   ·split<;>omega
   ·split<;>omega
  ·refine⟨_,rfl,rfl,_,rfl,mC (fun c3=>?_) (fun c3=>absurd c1 c3)⟩
   exact⟨_,rfl,_,rfl,_,_,rfl,rfl,_,_,rfl,rfl,#[0],k _ r1.1 #[0]⟩
 ·refine ff ?_
  refine⟨_,rfl,rfl,_,rfl,mC (fun c3=>absurd c3 c1) (fun c3=>?_)⟩
  refine⟨_,rfl,rfl,_,rfl,mC (fun c4=>?_) (fun c4=>?_)⟩
  ·exact⟨_,rfl,_,rfl,_,_,rfl,rfl,.inl (sm q0 #[0]),_,rfl,_,_,rfl,rfl,_,rfl,_,_,rfl,rfl,m1,k _ r2.1 r2.2⟩
  refine⟨_,rfl,rfl,_,rfl,mC (fun c5=>?_) (fun c5=>?_)⟩
  ·refine⟨_,rfl,_,rfl,_,rfl,_,rfl,_,_,rfl,rfl,hh1,_,rfl,_,_,rfl,rfl,.inl (sm r6.1 #[0]),_,_,rfl,rfl,_,rfl,_,_,rfl,rfl,a,_,ns,rfl,hS,BJ,by omega,by omega,fun th _ t0 t1=>?_⟩
   have r7:=cZ (a:=th) (b:=half) hh1
   exists _,rfl,_,_,rfl,rfl,hh1
   refine⟨_,rfl,_,_,rfl,rfl,⟨by decide,by decide⟩,_,_,rfl,rfl,(by show(0:Int)<2;decide),rfl,_,rfl,mC (fun c6=>?_) (fun c6=>?_)⟩
   ·refine⟨_,rfl,_,rfl,_,_,rfl,rfl,_,rfl,_,_,rfl,rfl,_,rfl,ou (fun c7=>?_) (fun c7=>?_)⟩
    ·exact⟨_,rfl,_,rfl,_,_,rfl,rfl,k _ #[0] c7⟩
    ·exact⟨_,rfl,k _ r7.1 #[0]⟩
   ·refine ff ?_
    exact⟨_,rfl,k _ r7.1 #[0]⟩
  refine⟨_,rfl,rfl,_,rfl,mC (fun c6=>?_) (fun c6=>?_)⟩
  ·refine⟨_,rfl,_,rfl,_,_,rfl,rfl,_,rfl,ou (fun c7=>?_) (fun c7=>?_)⟩
   ·exact⟨_,rfl,_,rfl,_,_,rfl,rfl,hh1,k _ r4.1 #[0]⟩
   ·exact⟨_,rfl,_,rfl,_,_,rfl,rfl,m1,k _ r5.1 r5.2⟩
  ·refine ff ?_
   exact⟨_,rfl,_,rfl,_,_,rfl,rfl,m1,k _ r5.1 r5.2⟩
theorem Z3(F:br K "_law_signs" "_law_signs" ox dV f fd)(aO:bp P w K mg base "_law_draw" 1 ["_law_spread_here","_law_k"] [] (tZ K))(aL:mg "range" = none)(sP:mg "int" = none)(aV:mg "tuple" = none):
  bc P w K mg base eB 2 f fd ["_law_spread_here","_law_at","_law_many","_law_half","_law_way"] (Rw K):=by
 refine F.ok dj #[6] #[1]
 ·obtain⟨a,at_,many,half,way,ns,rfl,_⟩:=h
  rfl
 obtain⟨a,at_,many,half,way,ns,rfl,hS,BJ,⟨at0,at1⟩,⟨m0,m1⟩,⟨ha0,ha1⟩,k⟩:=h
 refine⟨_,(ag (lU (i:=5) rfl dj.nd rfl (Or.inl rfl) sG (bG rfl aL #[80]) (fun _ _ _ _=>(aS (i:=0) sG.nd)) (fun _ _ _ _=>(aC bR (aW aO hr (aa (pv 2) (aa (aC bu #[92] #[98]) af))) ah)))
   (ag (bK (aE dE (aC bR (aW aO hr (aa #[98] (aa #[103] af))) ah) ah (aM _)) (ao (az (i:=5) dj.nd (bw (aa ah (aa ah #[80]))))) aR)
   (ag (az (i:=6) dj.nd (bw af))
   (ag (bI PassesOwn.never rfl (bG rfl aL #[57]) (aS (i:=7) dj.nd) (ag (az (i:=8) dj.nd (aC bR (aW aO hr (aa #[98] (aa (aC bu #[103] (pv 7)) af))) ah))
   (ag (bK (aE dE (pv 4) ah (aM _)) (ao (az (i:=8) dj.nd (bj RU #[26] sP HQ (aa (pz dE (pv 7) (aC EC (pv 2) ah) (aM _)) af)))) aR)
   (ag (bK (aE dE (pv 4) ah (aM _)) (ao (az (i:=8) dj.nd (aC bR (aW aO hr (aa #[98] (aa (aC bu #[103] (aC bR (pv 7) (pv 3))) af))) ah))) aR)
   (ao (bD (fO Wn Wq Wr bJ (pv 6) (aa (aF cF (pv 5) (pv 8) #[4]) af))))))))
   (ao (aH (bj bg #[26] aV cy (aa (pv 6) af)))))))),?_⟩
 exists 0
 refine⟨3,rfl,by decide,by decide,?_⟩
 refine fc (n:=3) (fun D i ys H'=>aB H H'/\ys.length=i/\dz 0 1000000 ys) (fun D hD=>⟨ak hD _,rfl,dz.nil⟩) ?_ ?_
 ·rintro D i ys H' Q' hD hi hy ⟨hs,hl,Ia⟩ k'
  refine⟨_,rfl,_,rfl,_,rfl,_,_,rfl,rfl,a,_,ns,rfl,hS.same hs,BJ,by omega,by omega,fun v _ v0 v1=>?_⟩
  have r:=cZ (a:=v) (b:=1000000) #[7]
  refine⟨_,_,rfl,rfl,(by show(0:Int)<1000000;decide),k' _ H' hy (aA #[0]) ⟨ax hs hD,by simp[hl],Ia.snoc r.1 r.2⟩⟩
 rintro M ys H1 hM0 hM ⟨hs1,Fs,U4⟩
 exists 13
 refine eI (t:=BG _ _ _) (fun σ' H'=>∃ M ys,σ'=[some #[50],some (.int at_),some (.int many),some (.int half),some (.int way),some (.ref M),none,none,none]/\H M=none/\aB H H'/\H' M=some #[93]/\ys.length=3/\dz 0 1000000 ys) ?_ #[96]
 exists 16
 ·refine⟨_,rfl,_,rfl,_,_,rfl,rfl,a,_,ns,rfl,hS.same hs1,BJ,by omega,by omega,fun v _ v0 v1=>?_⟩
  refine⟨_,_,rfl,rfl,(by show(0:Int)<2;decide),rfl,_,rfl,mC #[29] #[29]⟩
  ·refine⟨#[17],fun M2 hM2=>?_⟩
   have fr:H M2=none:=hs1.free hM2
   refine dq _ _ ⟨M2,_,rfl,fr,hs1.trans (ak hM2 _),ae,rfl,?_⟩
   exact((dz.nil.snoc (v:=0) #[7] #[7]).snoc (v:=1) #[7] #[7]).snoc (v:=1) #[7] #[7]
  ·exact dq _ _ ⟨M,ys,rfl,hM0,hs1,hM,Fs,U4⟩
 rintro σ' H2 ⟨M,ys,rfl,hM0,hs2,hM2,P9,ag9⟩
 obtain⟨menu,rfl,ahx⟩:=ag9.ints
 rw[bq]at P9
 refine⟨#[13],fun Fo hFo=>?_⟩
 have fr:H Fo=none:=hs2.free hFo
 have nMF:M≠Fo:=aq hM2 hFo
 refine⟨_,rfl,many,rfl,by omega,by omega,cH (fun i σ' H'=>∃ (fs:List V) (v1 v2:OV),σ'=[some #[50],some (.int at_),some (.int many),some (.int half),some (.int way),some (.ref M),some (.ref Fo),v1,v2]/\aB H H'/\H' M=some (.lst (menu.map V.int))/\H' Fo=some (.lst fs)/\fs.length=i/\dz 0 1000000 fs)
  ⟨[],none,none,rfl,ax hs2 fr,by rw[aj nMF];exact hM2,ae,rfl,dz.nil⟩ ?_ ?_⟩
 ·rintro i σ' H3 hi ⟨fs,v1,v2,rfl,W3,hM3,Tr,Ot,U5⟩
  have hq:(0:Int)<=0+(i:Int)/\(0:Int)+(i:Int)<many:=by omega
  have r6:=cZ (a:=0+(i:Int)) (b:=half) #[0]
  exists 13
  refine eI (t:=wV _ _) (fun MR H'=>∃ pk:Int,MR=[some #[50],some (.int at_),some (.int many),some (.int half),some (.int way),some (.ref M),some (.ref Fo),some (.int (0+i)),some (.int pk)]/\H'=H3/\0<=pk/\pk<3) ?_ #[96]
  exists 16
  ·refine⟨_,rfl,_,rfl,_,_,rfl,rfl,_,rfl,_,_,rfl,rfl,a,_,ns,rfl,hS.same W3,BJ,by omega,by omega,fun v _ v0 v1=>?_⟩
   have r:=cZ (a:=v) (b:=3) #[7]
   exact⟨_,_,rfl,rfl,(by show(0:Int)<3;decide),dq _ _ ⟨_,rfl,rfl,r.1,r.2⟩⟩
  rintro MR H4 ⟨pk,rfl,rfl,p0,p1⟩
  exists 13
  refine eI (t:=BG _ _ _) (fun MR H'=>∃ pk:Int,MR=[some #[50],some (.int at_),some (.int many),some (.int half),some (.int way),some (.ref M),some (.ref Fo),some (.int (0+i)),some (.int pk)]/\H'=H4/\0<=pk/\pk<3) ?_ #[96]
  exists 16
  ·refine⟨_,rfl,rfl,_,rfl,mC #[29] #[29]⟩
   ·refine⟨_,rfl,_,rfl,_,_,rfl,rfl,rfl,.inr ⟨_,rfl,dq _ _ ⟨_,rfl,rfl,?_,?_⟩⟩⟩
    ·split<;>decide
    ·split<;>decide
   ·exact dq _ _ ⟨pk,rfl,rfl,p0,p1⟩
  rintro MR H5 ⟨pk,rfl,rfl,p0,p1⟩
  exists 13
  refine eI (t:=BG _ _ _) (fun MR H'=>∃ pk:Int,MR=[some #[50],some (.int at_),some (.int many),some (.int half),some (.int way),some (.ref M),some (.ref Fo),some (.int (0+i)),some (.int pk)]/\H'=H5/\0<=pk/\pk<3) ?_ #[96]
  exists 16
  ·refine⟨_,rfl,rfl,_,rfl,mC #[29] #[29]⟩
   ·refine⟨_,rfl,_,rfl,_,_,rfl,rfl,_,rfl,_,rfl,_,_,rfl,rfl,#[0],_,_,rfl,rfl,a,_,ns,rfl,hS.same W3,BJ,by omega,by omega,fun v _ v0 v1=>?_⟩
    have r:=cZ (a:=v) (b:=3) #[7]
    exact⟨_,_,rfl,rfl,(by show(0:Int)<3;decide),dq _ _ ⟨_,rfl,rfl,r.1,r.2⟩⟩
   ·exact dq _ _ ⟨pk,rfl,rfl,p0,p1⟩
  rintro MR H6 ⟨pk,rfl,rfl,p0,p1⟩
  have hp:pk.toNat<menu.length:=by omega
  refine⟨_,rfl,.inl ⟨rfl,_,bV Tr⟩,_,rfl,_,rfl,M,_,_,_,rfl,rfl,bV hM3,cj p0 #[0],Fo,_,_,rfl,rfl,Tr,aA #[0],?_⟩
  have hz:=ahx _ (jH hp)
  refine⟨_,_,_,rfl,ax W3 fr,by rw[aj nMF];exact hM3,ae,by simp[Ot],?_⟩
  rw[getD_at hp]
  exact U5.snoc hz.1 hz.2
 ·rintro σ' H3 ⟨fs,v1,v2,rfl,W3,hM3,Tr,Ot,U5⟩
  refine⟨_,rfl,Fo,_,rfl,.inl ⟨bV Tr,fun p hp=>?_⟩⟩
  obtain⟨signs,rfl,hz⟩:=U5.ints
  rw[bq]at Ot
  exact k p _ signs (W3.trans (ak hp _)) ae #[0] hz
theorem Fy(F:br K "_law_machine_of" "_law_machine_of" eY dV f fd)(aO:bp P w K mg base "_law_draw" 1 ["_law_spread_here","_law_k"] [] (tZ K))(rK:bp P w K mg base "_law_there" 2 ["_law_spread_here","_law_at","_law_place","_law_way"] [] (Rz K))(rH:bp P w K mg base "_law_signs" 2 ["_law_spread_here","_law_at","_law_many","_law_half","_law_way"] [] (Rw K))(aL:mg "range" = none)(aV:mg "tuple" = none):
  bc P w K mg base eB 3 f fd ["_law_spread_here","_law_at","_law_many","_law_wide"] (CP K):=by
 refine F.ok cM #[6] #[1]
 ·obtain⟨a,at_,many,wide,ns,rfl,_⟩:=h
  rfl
 obtain⟨a,at_,many,wide,ns,rfl,hS,BJ,⟨at0,at1⟩,⟨n0,n1⟩,⟨k0,k1⟩,hmw,k⟩:=h
 refine⟨_,(ag (az (i:=4) cM.nd (aC bR (aW aO hr (aa #[98] #[44])) ah))
   (ag (az (i:=5) cM.nd (aC Io (aC bu (pv 2) ah) ah))
   (ag (az (i:=6) cM.nd (bw af))
   (ag (bI PassesOwn.never rfl (bG rfl aL #[57]) (aS (i:=7) cM.nd) (ag (lU (i:=8) rfl cM.nd rfl (Or.inl rfl) mx (bG rfl aL #[79]) (fun _ _ _ _=>(aS (i:=0) mx.nd)) (fun _ _ _ _=>(aW rK hr (aa (pv 5) (aa #[103] (aa (bw (aa (pv 4) (aa #[98] (aa (pv 3) (aa (pv 7) #[57]))))) (aa (pv 6) af)))))))
   (ao (bD (fO Wn Wq Wr bJ (pv 6) (aa (bj bg #[26] aV cy (aa (pv 8) af)) af))))))
   (ao (aH (eL (aa (pv 3) (aa (bj bg #[26] aV cy (aa (pv 6) af)) (aa (aW rH hr (aa #[98] (aa #[103] (aa (pv 2) (aa (pv 5) #[88]))))) af)))))))))),?_⟩
 exists 0
 exists 13
 refine eI (t:=wV _ _) (fun σ' Cv=>∃ way:Int,σ'=[some #[50],some (.int at_),some (.int many),some #[74],some (.int way),none,none,none,none]/\Cv=H) ?_ #[96]
 exists 16
 ·refine⟨_,rfl,_,rfl,a,_,ns,rfl,hS,BJ,by omega,by omega,fun v _ v0 v1=>?_⟩
  exact⟨_,_,rfl,rfl,(by show(0:Int)<6;decide),dq _ _ ⟨_,rfl,rfl⟩⟩
 rintro σ' H' ⟨way,rfl,rfl⟩
 exists 13
 refine eI (t:=wV _ _) (fun σ' Cv=>∃ half:Int,σ'=[some #[50],some (.int at_),some (.int many),some #[74],some (.int way),some (.int half),none,none,none]/\Cv=H'/\1<=half/\half<=(many:Int)) ?_ #[96]
 exists 16
 ·exact⟨_,rfl,_,_,rfl,rfl,_,_,rfl,rfl,⟨by decide,by decide⟩,dq _ _ ⟨_,rfl,rfl,by omega,by omega⟩⟩
 rintro σ' H' ⟨half,rfl,rfl,g0,g1⟩
 refine⟨#[13],fun R hR=>?_⟩
 refine⟨_,rfl,(many:Int),rfl,by omega,by omega,cH (fun i σ' Cv=>∃ (dC:List QQ) (rws:LL) (v1 v2:OV),
   σ'=[some #[50],some (.int at_),some (.int many),some #[74],some (.int way),some (.int half),some (.ref R),v1,v2]/\aB H' Cv/\Cv R=some (.lst #[37])/\aP Cv dC rws/\(∀ r∈rws,r.length=wide)/\(∀ r∈rws,∀ v∈r,0<=v/\v<(many:Int))/\rws.length=i)
  ⟨[],[],none,none,rfl,ak hR _,ae,.nil,(fun r h=>by cases h),(fun r h=>by cases h),rfl⟩ ?_ ?_⟩
 ·rintro i σ' H3 hi ⟨dC,rws,v1,v2,rfl,W3,P8,hA3,Ot,hv3,hn3⟩
  have hi':(i:Int)<many:=by omega
  have aqr:dC.length=i:=by rw[hA3.length];exact hn3
  refine⟨_,rfl,(wide:Int),rfl,by omega,by omega,?_⟩
  refine fc (fun D j ys Cv=>aB H3 Cv/\ys.length=j/\dz 0 many ys) (fun D hD=>⟨ak hD _,rfl,dz.nil⟩) ?_ ?_
  ·rintro D j ys H4 Q' hD hj hy ⟨Di,Sf,tG⟩ k'
   have hj':(j:Int)<wide:=by omega
   refine⟨_,rfl,_,rfl,_,_,rfl,rfl,_,rfl,_,rfl,_,rfl,_,rfl,_,rfl,(by show 5<=sizeLine;decide),fun pl rC=>?_⟩
   have nD:D≠pl:=aq hy rC
   refine⟨_,rfl,a,pl,_,way,_,_,_,_,half,ns,rfl,hS.same (W3.trans (Di.trans (ak rC _))),BJ,ae,⟨by omega,by omega⟩,⟨by omega,by omega⟩,⟨by omega,by omega⟩,by omega,by omega,(by exact_mod_cast hmw),⟨g0,g1⟩,fun v v0 v1=>?_⟩
   have n3:H3 pl=none:=Di.free rC
   exact k' _ _ (by rw[aj nD];exact hy) (aA #[0]) ⟨ax (ax Di n3) hD,by simp[Sf],tG.snoc v0 v1⟩
  rintro W ys H4 hW0 hW ⟨Di,Sf,tG⟩
  obtain⟨row,rfl,ald⟩:=tG.ints
  rw[bq]at Sf
  have hR4:=Di _ _ P8
  refine⟨_,rfl,.inl ⟨rfl,_,bV hR4⟩,_,rfl,W,_,rfl,.inl ⟨bV hW,fun tp htp=>?_⟩⟩
  have nR:R≠tp:=aq hR4 htp
  have fR:H' R=none:=hR
  refine⟨R,_,_,rfl,rfl,by rw[aj nR];exact hR4,aA #[31],?_⟩
  have sT:∀ b xs,H3 b=some #[40]->(upd (upd H4 tp (.tup (row.map V.int))) R (.lst (dC.map V.ref++[V.ref tp]))) b=some #[40]:=fun b xs e=>by
   have e4:=Di _ _ e
   rw[aj (aQ e4 hR4 #[2]),aj (aq e4 htp)]
   exact e4
  refine⟨dC++[tp],rws++[row],_,_,rfl,ax (ax (W3.trans Di) ((W3.trans Di).free htp)) fR,?_,aP.snoc (hA3.same sT) ?_,?_,?_,by simp[hn3]⟩
  ·rw[ae,jF];rfl
  ·rw[aj (Ne.symm nR),ae]
  ·intro r oG
   rcases Bn.mp oG with z|z
   ·exact Ot r z
   ·rw[jK.mp z];omega
  ·intro r oG
   rcases Bn.mp oG with z|z
   ·exact hv3 r z
   ·rw[jK.mp z];exact ald
 ·rintro σ' H3 ⟨dC,rws,v1,v2,rfl,W3,P8,hA3,Ot,hv3,hn3⟩
  refine⟨_,rfl,_,rfl,R,_,rfl,.inl ⟨bV P8,fun rt hrt=>?_⟩⟩
  have s4:aB H' (upd H3 rt (.tup #[37])):=W3.trans (ak hrt _)
  refine⟨_,rfl,_,rfl,_,_,rfl,rfl,_,rfl,_,rfl,_,rfl,a,_,_,half,way,ns,rfl,hS.same s4,BJ,⟨by omega,by omega⟩,⟨by omega,by omega⟩,⟨g0,g1⟩,fun g H5 signs hs5 hg hlen hz=>?_⟩
  refine⟨#[17],fun m hm=>?_⟩
  have s6:=ak hm (HO.tup [V.int wide,V.ref rt,V.ref g])
  have s5':aB H3 H5:=(ak hrt _).trans hs5
  refine k m rt g _ rws signs (s4.trans (hs5.trans s6)) ⟨ae,⟨dC,s6 _ _ (hs5 _ _ ae),(hA3.same fun b xs e=>s6 _ _ (s5' _ _ e))⟩,s6 _ _ hg⟩ ⟨by omega,Ot,hv3⟩ #[0] hz
end
inductive Rq (K:Wl) (vs:List V) (H:Hp) (Q:VK) (E:XK):Prop
 | mk (a:QQ) (k:Int) (ns:LI) (_:vs=[.ref a,.int k]) (_:oM K H a #[34]) (_:ns.length<=63) (_:0<=k) (_:k<100000) (_:∀ v:Int,0<=v->v<2147483629->Q (.int v) H)
inductive MJ (K:Wl) (vs:List V) (H:Hp) (Q:VK) (E:XK):Prop
 | mk (a:QQ) (ns:LI) (_:vs=[.ref a]) (_:oM K H a #[34]) (_:ns.length<=63) (_:∀ (l:QQ) (H':Hp) (xs:LI),aB H H'->tf K H' l xs->730<=xs.length->Q (.ref l) H')
theorem K8(ns:LI)(lo hi:Option Int):∃ ms:LI,B4 #[34] lo hi=ms.map V.int/\ms.length<=ns.length:=by
 unfold B4
 rw[<- List.map_drop,<- List.map_take]
 exact⟨_,rfl,by rw[jQ,Jz];omega⟩
section
theorem hJ:aJ ["_law_script","_law_k","_law_cell","_law_number"] ["_law_script","_law_k"] (ar se):=cS #[3]
theorem fk:aJ ["_law_script","_law_left","_law_found","_law_at","_law_digit"] ["_law_script"] (ar me):=cS #[3]
theorem pQ:bF ["_law_script","_law_left","_law_found","_law_at","_law_digit"] (ar me) ["_law_k","_law_script"] [none,some 0] ⟨.function,[#[62],("_law_k",.local),("_law_mixed",.globalImplicit),("_law_script",.free)],false,false,[]⟩:=rV #[3]
theorem Y8(F:br K "_law_mixed" "_law_mixed" se dV f fd)(aZ:mg "len" = none):bc P w K mg base eB 1 f fd ["_law_script","_law_k"] (Rq K):=by
 refine F.ok hJ #[6] #[1]
 ·obtain⟨a,k,ns,rfl,_⟩:=h
  rfl
 obtain⟨a,k,ns,rfl,hS,BJ,h0,h1,q⟩:=h
 have hl:#[34].length=ns.length:=jX _
 refine⟨_,(ag (az (i:=2) hJ.nd (aC bu (aC eJ ah #[92]) ah))
   (ag (bK (aE Q8 #[36] ah (aM _)) (ao (az (i:=2) hJ.nd (aC bR (aF cF #[98] (aC bR #[92] #[36]) #[4]) ah))) aR)
   (ag (az (i:=3) hJ.nd (aC bR (aC bu (aC bu (aC eJ (pv 2) (aC bu ah (aC eJ (aC eJ ah #[92]) #[92]))) (aC eJ #[92] ah)) ah) ah))
   (ag (az (i:=3) hJ.nd (aC bR (aC eJ (pv 3) (pv 3)) ah))
   (ao (aH (aC bR (aC bu (aC bu (aC eJ (pv 3) ah) (aC eJ (aC eJ #[92] #[92]) ah)) ah) ah))))))),?_⟩
 exists 0
 exists _,rfl,_,_,rfl,rfl,.inl ⟨by decide,by decide⟩,_,_,rfl,rfl
 exists 13
 refine eI (t:=BG _ _ _) (fun σ' H'=>∃ c:Int,σ'=[some #[50],some (.int k),some (.int c),none]/\H'=H/\0<=c/\c<2147483648) ?_ #[96]
 exists 16
 ·exists _,rfl,a,_,rfl,.inl hS,_,_,rfl,rfl,_,rfl
  refine ou #[29] #[29]
  ·have c':(0:Int)<((#[34].length:Nat):Int):=c
   have m0:=ZU k (show((#[34].length:Nat):Int)≠0 by omega)
   have m1:=ZG k c'
   have m2:=cZ (a:=ns.getD (k%((#[34].length:Nat):Int)).toNat 0) (b:=2147483629) #[7]
   exact⟨_,rfl,_,rfl,_,rfl,a,_,rfl,.inl hS,_,_,rfl,rfl,c',a,_,_,_,rfl,rfl,hS,cj m0 (by rw[<- hl];exact m1),_,_,rfl,rfl,(by show(0:Int)<2147483629;decide),dq _ _ ⟨_,rfl,rfl,m2.1,by omega⟩⟩
  ·exact dq _ _ ⟨_,rfl,rfl,by omega,by omega⟩
 rintro σ' H' ⟨c,rfl,rfl,c0,c1⟩
 have kk:=OL (a:=2*k) (b:=k) (m:=200000) (n:=100000) #[0] #[0] #[0] #[0]
 refine⟨_,rfl,_,rfl,_,_,rfl,rfl,.inl ⟨by decide,by decide⟩,_,rfl,_,_,rfl,rfl,.inr ⟨by omega,by omega⟩,_,_,rfl,rfl,_,_,rfl,rfl,.inl ⟨by omega,by omega⟩,_,rfl,_,_,rfl,rfl,.inr ⟨by decide,by decide⟩,_,_,rfl,rfl,_,_,rfl,rfl,_,_,rfl,rfl,(by show(0:Int)<2147483647;decide),?_⟩
 have e1:=cZ (a:=c*(48271+2*k*k)+k*7919+11) (b:=2147483647) #[7]
 refine⟨_,rfl,_,rfl,_,_,rfl,rfl,.inl ⟨by omega,by omega⟩,_,_,rfl,rfl,(by show(0:Int)<2147483587;decide),?_⟩
 have e2:=cZ (a:=(c*(48271+2*k*k)+k*7919+11)%2147483647*((c*(48271+2*k*k)+k*7919+11)%2147483647)) (b:=2147483587) #[7]
 have kk2:=OL (a:=k) (b:=k) (m:=100000) (n:=100000) #[0] #[0] #[0] #[0]
 refine⟨_,rfl,_,_,rfl,rfl,.inr ⟨by decide,by decide⟩,_,rfl,_,rfl,_,_,rfl,rfl,.inl ⟨by omega,by omega⟩,_,_,rfl,rfl,.inr ⟨by decide,by decide⟩,_,_,rfl,rfl,_,_,rfl,rfl,_,_,rfl,rfl,(by show(0:Int)<2147483629;decide),?_⟩
 have e3:=cZ (a:=(c*(48271+2*k*k)+k*7919+11)%2147483647*((c*(48271+2*k*k)+k*7919+11)%2147483647)%2147483587*69621+k*k*40692+5) (b:=2147483629) #[7]
 exact q _ e3.1 e3.2
theorem SI(F:br K "_law_spread" "_law_spread" me dV f fd)(rF:bp P w K mg base "_law_mixed" 1 ["_law_script","_law_k"] [] (Rq K))(aZ:mg "len" = none)(aL:mg "range" = none)(Fd:mg "divmod" = none):bc P w K mg base eB 2 f fd ["_law_script"] (MJ K):=by
 refine F.ok fk #[6] #[1]
 ·obtain⟨a,ns,rfl,_⟩:=h
  rfl
 obtain⟨a,ns,rfl,hS,BJ,k⟩:=h
 have hl:#[34].length=ns.length:=jX _
 refine⟨_,(ag (bK (PW.pt (pA (aE dE #[36] ah (aM _)) (tT (aE dE (aC bR (aF cF #[98] ah #[4]) ah) ah (aM _))))) (ao (aH (bw (aa (eK rfl pQ (bG rfl aL #[80]) (fun _ _ _ _=>(aS (i:=0) pQ.nd)) (fun _ _ _ _=>(aW rF hr (aa #[92] #[72])))) #[72])))) aR)
   (ag (az (i:=1) fk.nd (aC OY (bw (aa (aC Io (aF cF #[98] ah #[4]) ah) af)) (EH II #[98] (Iw ah) Iv)))
   (ag (az (i:=2) fk.nd (bw af))
   (ag (iY PassesOwn.never (aE Ac (ay aN #[26] aZ ck #[57]) ah (aM _)) (ao (bI PassesOwn.never rfl (bG rfl aL (aa (ay aN #[26] aZ ck #[44]) af)) (aS (i:=3) fk.nd) (ag (As (ay HS #[26] Fd RT (aa (aF cF #[92] (pv 3) #[4]) #[80])) (pK rfl (bx (aak #[92] (pv 3) set_list) (bx (aS (i:=4) fk.nd) iX))))
   (ao (bD (fO Wn Wq Wr bJ (pv 2) #[88])))))))
   (ao (aH (bw (aa (pv 2) #[44])))))))),?_⟩
 exists 0
 have rest:∀ (ys:List V),dz 0 2147483629 ys->∀ D H',aB H H'->H' D=some #[93]->ys.length=730->∀ a',H' a'=none->Q (.ref a') (upd H' a' (.lst [.ref D,.ref a])):=fun ys hys D H' s1 hD ly a' ha'=>by
  obtain⟨xs,rfl,hx⟩:=hys.ints
  rw[bq]at ly
  have sn:=ak ha' (HO.lst [V.ref D,V.ref a])
  exact k a' _ xs (s1.trans sn) ⟨D,a,ns,ae,sn _ _ hD,hx,(s1.trans sn).seq hS,by omega⟩ #[0]
 refine⟨_,rfl,a,_,rfl,.inl hS,rfl,_,rfl,mC #[29] #[29]⟩
 ·refine⟨(730:Int),rfl,by decide,by decide,?_⟩
  refine fc (fun D j ys Cv=>aB H Cv/\ys.length=j/\dz 0 (2147483629) ys) (fun D hD=>⟨ak hD _,rfl,dz.nil⟩) ?_ ?_
  ·rintro D j ys H4 Q' hD hj hy ⟨Di,Sf,tG⟩ k'
   have hj':j<730:=hj
   exact⟨_,rfl,_,rfl,a,_,ns,rfl,Di.seq hS,BJ,by omega,by omega,fun v v0 v1=>k' _ _ hy (aA #[0]) ⟨ax Di hD,by simp[Sf],tG.snoc v0 v1⟩⟩
  ·rintro D ys H4 fD hD ⟨Di,Sf,tG⟩
   exact⟨_,rfl,#[33],fun a' ha'=>rest ys tG D H4 Di hD Sf a' ha'⟩
 have c':0<ns.length:=by
  rw[hl]at c
  omega
 refine⟨_,rfl,a,_,_,_,rfl,rfl,hS,cj #[7] #[0],_,_,rfl,rfl,(by show(0:Int)<2;decide),rfl,_,rfl,mC (fun c2=>?_) (fun c2=>?_)⟩
 ·refine⟨(730:Int),rfl,by decide,by decide,?_⟩
  refine fc (fun D j ys Cv=>aB H Cv/\ys.length=j/\dz 0 (2147483629) ys) (fun D hD=>⟨ak hD _,rfl,dz.nil⟩) ?_ ?_
  ·rintro D j ys H4 Q' hD hj hy ⟨Di,Sf,tG⟩ k'
   have hj':j<730:=hj
   exact⟨_,rfl,_,rfl,a,_,ns,rfl,Di.seq hS,BJ,by omega,by omega,fun v v0 v1=>k' _ _ hy (aA #[0]) ⟨ax Di hD,by simp[Sf],tG.snoc v0 v1⟩⟩
  ·rintro D ys H4 fD hD ⟨Di,Sf,tG⟩
   exact⟨_,rfl,#[33],fun a' ha'=>rest ys tG D H4 Di hD Sf a' ha'⟩
 refine⟨_,rfl,a,_,_,_,rfl,rfl,hS,cj #[7] #[0],_,_,rfl,rfl,⟨by decide,by decide⟩,#[45],fun L1 U0=>?_⟩
 have s1:=ak U0 (HO.lst [V.int (ns.getD (0:Int).toNat 0 / 2)])
 refine⟨_,rfl,_,rfl,a,_,rfl,s1.seq hS,fun Lb hL2=>?_⟩
 obtain⟨ms,ems,lms⟩:=K8 ns (some 1) none
 rw[ems]
 have s2:=ak hL2 (HO.lst (ms.map V.int))
 have n12:L1≠Lb:=aq ae hL2
 refine⟨L1,Lb,_,_,rfl,rfl,by rw[aj n12,ae],ae,by simp;exact small #[0],fun L hL=>?_⟩
 have s3:=(s1.trans s2).trans (ak hL (HO.lst ([V.int (ns.getD (0:Int).toNat 0 / 2)]++ms.map V.int)))
 have fL:H L=none:=(s1.trans s2).free hL
 refine⟨#[13],fun Fo hFo=>?_⟩
 have s4:=s3.trans (ak hFo #[82])
 have fF:H Fo=none:=s3.free hFo
 have nLF:L≠Fo:=aq ae hFo
 exists 13
 refine eI (t:=mW _ _) (fun σ' H'=>∃ (xs ls:LI) (v1 v2:OV),σ'=[some #[50],some (.ref L),some (.ref Fo),v1,v2]/\aB H H'/\H' L=some (.lst (ls.map V.int))/\ls.length<=64/\H' Fo=some (.lst (xs.map V.int))/\730<=xs.length/\∀ z∈xs,0<=z/\z<2147483629) ?_ #[96]
 exists 16
 ·refine oB (fun mm σ' H'=>∃ (xs ls:LI) (v1 v2:OV),mm=1000-xs.length/\xs.length<=800/\σ'=[some #[50],some (.ref L),some (.ref Fo),v1,v2]/\aB H H'/\H' L=some (.lst (ls.map V.int))/\1<=ls.length/\ls.length<=64/\H' Fo=some (.lst (xs.map V.int))/\∀ z∈xs,0<=z/\z<2147483629)
   ⟨_,[],(ns.getD (0:Int).toNat 0 / 2) :: ms,none,none,rfl,by decide,rfl,s4,by rw[aj nLF,ae];rfl,by simp,by simp;omega,ae,(fun z h=>by cases h)⟩ ?_
  rintro mm σ' H1 ⟨xs,ls,v1,v2,rfl,lx,rfl,t1,U1,l1,l64,hF1,hx⟩
  refine⟨_,rfl,Fo,_,rfl,.inl (bV hF1),_,_,rfl,rfl,_,rfl,ou (fun c3=>?_) (fun c3=>?_)⟩
  ·rw[bq]at c3
   refine⟨fun σ' H'=>∃ m',m'<1000-xs.length/\∃ (xs ls:LI) (v1 v2:OV),m'=1000-xs.length/\xs.length<=800/\σ'=[some #[50],some (.ref L),some (.ref Fo),v1,v2]/\aB H H'/\H' L=some (.lst (ls.map V.int))/\1<=ls.length/\ls.length<=64/\H' Fo=some (.lst (xs.map V.int))/\∀ z∈xs,0<=z/\z<2147483629,fun σ' H' h=>h,?_⟩
   exists _,rfl,L,_,rfl,.inl (bV U1)
   rw[bq]
   refine⟨(ls.length:Int),rfl,by omega,by omega,cH (fun i σ' H'=>∃ (ys ms:LI) (v1 v2:OV),ys.length=xs.length+i/\σ'=[some #[50],some (.ref L),some (.ref Fo),v1,v2]/\aB H H'/\H' L=some (.lst (ms.map V.int))/\ms.length=ls.length/\H' Fo=some (.lst (ys.map V.int))/\∀ z∈ys,0<=z/\z<2147483629)
    ⟨xs,ls,v1,v2,rfl,rfl,t1,U1,rfl,hF1,hx⟩ ?_ ?_⟩
   ·rintro i σ' H2 hi ⟨ys,ms,v1,v2,ly,rfl,t2,U2,lm,hF2,hy⟩
    have hi':i<ls.length:=by omega
    have z0:(0:Int)+(i:Int)=(i:Int):=JO _
    rw[z0]
    have at1:=cj (ns:=ms) (k:=(i:Int)) #[0] #[0]
    have ix:Sk (ms.map V.int).length (i:Int)=some i:=by
     rw[bq]
     unfold Sk
     rw[if_pos #[0],if_pos #[0],jA]
    have rm:=cZ (a:=ms.getD ((i:Int)).toNat 0) (b:=2147483629) #[7]
    refine⟨_,rfl,_,rfl,L,_,_,_,rfl,rfl,bV U2,at1,_,_,rfl,⟨by decide,by decide +kernel⟩,fun p hp=>?_⟩
    have np:L≠p:=aq U2 hp
    have npF:Fo≠p:=aq hF2 hp
    exists p,_,rfl,bS ae,rfl,_,_,rfl,_,rfl,_,rfl,L,_,_,_,rfl,rfl,by rw[aj np];exact U2,ix,_,_,rfl,rfl
    have Tr:(upd (upd H2 p (HO.tup [V.int (ms.getD ((i:Int)).toNat 0 / 2147483629),V.int (ms.getD ((i:Int)).toNat 0%2147483629)])) L (HO.lst ((ms.map V.int).set i (V.int (ms.getD ((i:Int)).toNat 0 / 2147483629))))) Fo=some (.lst (ys.map V.int)):=by
     rw[aj (Ne.symm nLF),aj npF]
     exact hF2
    refine⟨_,rfl,.inl ⟨rfl,_,bV Tr⟩,_,rfl,Fo,_,_,rfl,rfl,Tr,aA #[31],?_⟩
    refine⟨ys++[ms.getD ((i:Int)).toNat 0%2147483629],ms.set i (ms.getD ((i:Int)).toNat 0 / 2147483629),_,_,by simp[ly];omega,rfl,ax (ax (ax t2 (t2.free hp)) fL) fF,?_,by simp[lm],by rw[ae,jF];rfl,?_⟩
    ·rw[aj nLF,ae,QI]
    ·intro z hz
     rcases Bn.mp hz with q|q
     ·exact hy z q
     ·rw[jK.mp q];exact rm
   ·rintro σ' H2 ⟨ys,ms,v1,v2,ly,rfl,t2,U2,lm,hF2,hy⟩
    rw[jA]at ly
    exact⟨1000-ys.length,by omega,ys,ms,_,_,rfl,by omega,rfl,t2,U2,by omega,by omega,hF2,hy⟩
  ·rw[bq]at c3
   exact dq _ _ ⟨xs,ls,_,_,rfl,t1,U1,l64,hF1,by omega,hx⟩
 rintro σ' H1 ⟨xs,ls,v1,v2,rfl,t1,U1,l64,hF1,lx,hx⟩
 refine⟨_,rfl,_,rfl,#[33],fun a' ha'=>?_⟩
 have sn:=ak ha' (HO.lst [V.ref Fo,V.ref L])
 exact k a' _ xs (t1.trans sn) ⟨Fo,L,ls,ae,sn _ _ hF1,hx,bV (sn _ _ U1),l64⟩ lx
end
inductive MI (K:Wl) (vs:List V) (H:Hp) (Q:VK) (E:XK):Prop
 | mk (r:QQ) (q:Int) (many wide:Nat) (dC:List QQ) (rows:LL) (_:vs=[.ref r,.int q]) (_:H r=some (.tup #[37])) (_:aP H dC rows) (_:aI many wide rows) (_:1<=wide) (_:many<=1000) (_:(0<=q/\q<(many:Int))) (_:Q (.int (oS rows many q)) H)
section
theorem dP:aJ ["_law_rows","_law_q","_law_k","_law_low"] ["_law_rows","_law_q"] (ar sh):=cS #[3]
theorem SH(F:br K "_law_round" "_law_round" sh dV f fd)(aZ:mg "len" = none)(aL:mg "range" = none)(Hy:mg "min" = none):bc P w K mg base eB 1 f fd ["_law_rows","_law_q"] (MI K):=by
 refine F.ok dP #[6] #[1]
 ·obtain⟨r,q,many,wide,dC,rows,rfl,_⟩:=h
  rfl
 obtain⟨r,q,many,wide,dC,rows,rfl,oG,hA,R,w1,n1,⟨q0,q1⟩,k⟩:=h
 have lr:#[37].length=many:=by rw[bq,hA.length,R.len]
 refine⟨_,(ag (bI PassesOwn.never rfl (bG rfl aL (aa #[36] af)) (aS (i:=2) dP.nd) (ao (az (i:=1) dP.nd (aF aG (aF aG #[98] #[92] #[4]) ah #[4]))))
   (ag (az (i:=3) dP.nd #[92])
   (ag (bI PassesOwn.never rfl (bG rfl aL (aa #[36] af)) (aS (i:=2) dP.nd) (ag (az (i:=1) dP.nd (aF aG (aF aG #[98] #[92] #[4]) ah #[4]))
   (ao (az (i:=3) dP.nd (ay (FP rfl) #[26] Hy TK (aa (pv 3) #[44]))))))
   (ao (aH (pv 3)))))),?_⟩
 exists 0
 have stp:∀ (x:Int),0<=x->x<(many:Int)->∃ (ra:QQ) (rr:LI),wO #[37] x=some (.ref ra)/\H ra=some (.tup (rr.map V.int))/\wO (rr.map V.int) 0=some (.int (stepI rows x 0)):=fun x x0 x1=>fX hA R x0 x1 #[7] #[0]
 exists 13
 refine eI (t:=sU _ _ _) (fun σ' H'=>∃ v,σ'=[some #[106],some (.int (CC rows q many)),v,none]/\H'=H) ?_ #[96]
 exists 16
 ·exists _,rfl,r,_,rfl,.inr (bS oG)
  rw[lr]
  refine⟨(many:Int),rfl,by omega,by omega,cH (fun i σ' H'=>∃ v,σ'=[some #[106],some (.int (CC rows q i)),v,none]/\H'=H) ⟨none,rfl,rfl⟩ ?_ ?_⟩
  ·rintro i σ' H' hi ⟨v,rfl,rfl⟩
   have hx:=Ej R w1 q0 q1 i
   obtain⟨ra,rr,e1,e2,e3⟩:=stp _ hx.1 hx.2
   exact⟨_,rfl,_,rfl,r,_,_,_,rfl,rfl,bS oG,e1,ra,_,_,_,rfl,rfl,bS e2,e3,_,rfl,rfl⟩
  ·exists 11
   rw[jA]
   exact dq _ _ ⟨v,rfl,rfl⟩
 exists 11
 exists _,rfl
 exists 13
 refine eI (t:=sU _ _ _) (fun σ' Cv=>∃ v x,σ'=[some #[106],x,v,some (.int (oS rows many q))]/\Cv=H') ?_ #[96]
 exists 16
 ·exists _,rfl,r,_,rfl,.inr (bS oG)
  rw[lr]
  refine⟨(many:Int),rfl,by omega,by omega,cH (fun i σ' Cv=>∃ v,σ'=[some #[106],some (.int (CC rows q (many+i))),v,some (.int (LK rows q many i))]/\Cv=H') ⟨v,rfl,rfl⟩ ?_ ?_⟩
  ·rintro i σ' Cv hi ⟨v,rfl,rfl⟩
   have hx:=Ej R w1 q0 q1 (many+i)
   obtain⟨ra,rr,e1,e2,e3⟩:=stp _ hx.1 hx.2
   exists _,rfl,_,rfl,r,_,_,_,rfl,rfl,bS oG,e1,ra,_,_,_,rfl,rfl,bS e2,e3
   exact⟨_,rfl,_,rfl,_,_,rfl,some (.int (0+i)),rfl,rfl⟩
  ·rintro σ' Cv ⟨v,rfl,rfl⟩
   rw[jA]
   exact dq _ _ ⟨_,_,rfl,rfl⟩
 rintro σ' Cv ⟨v,x,rfl,rfl⟩
 exact⟨_,rfl,k⟩
end
inductive Fb (K:Wl) (vs:List V) (H:Hp) (Q:VK) (E:XK):Prop
 | mk (a m r g:QQ) (many wide:Nat) (rows:LL) (signs ns:LI) (_:vs=[.ref a,.ref m]) (_:tf K H a ns) (_:730<=ns.length) (_:bA H m r g wide rows signs) (_:aI many wide rows) (_:(1<=many/\many<=20)) (_:1<=wide) (_:signs.length=many) (_:(∀ z∈signs,0<=z/\z<1000000)) (_:∀ (m2 g2:QQ) (H':Hp) (pN:LI),aB H H'->bA H' m2 r g2 wide rows pN->pN.length=many->(∀ z∈pN,0<=z/\z<1000000)->fu many rows pN->Q (.ref m2) H')
section
theorem cN:aJ ["_law_spread_here","_law_machine","_law_wide","_law_rows","_law_signs_here","_law_menu","_law_found"] ["_law_spread_here","_law_machine"] (ar eT):=cS #[3]
theorem oN:bF ["_law_spread_here","_law_machine","_law_wide","_law_rows","_law_signs_here","_law_menu","_law_found"] (ar eT) ["_law_k","_law_spread_here"] [none,some 0] ⟨.function,[#[62],("_law_k",.local),("_law_draw",.globalImplicit),("_law_spread_here",.free)],false,false,[]⟩:=rV #[3]
theorem oO:bF ["_law_spread_here","_law_machine","_law_wide","_law_rows","_law_signs_here","_law_menu","_law_found"] (ar eT) ["_law_q","_law_menu","_law_rows","_law_spread_here"] [none,some 5,some 3,some 0] ⟨.function,[#[62],("_law_q",.local),("_law_draw",.globalImplicit),("_law_round",.globalImplicit),("_law_menu",.free),("_law_rows",.free),("_law_spread_here",.free)],false,false,[]⟩:=rV #[3]
theorem Im(F:br K "_law_steadied" "_law_steadied" eT dV f fd)(aO:bp P w K mg base "_law_draw" 1 ["_law_spread_here","_law_k"] [] (tZ K))(rG:bp P w K mg base "_law_round" 1 ["_law_rows","_law_q"] [] (MI K))(aL:mg "range" = none)(aZ:mg "len" = none)(aV:mg "tuple" = none):bc P w K mg base eB 2 f fd ["_law_spread_here","_law_machine"] (Fb K):=by
 refine F.ok cN #[6] #[1]
 ·obtain⟨a,m,r,g,many,wide,rows,signs,ns,rfl,_⟩:=h
  rfl
 obtain⟨a,m,r,g,many,wide,rows,signs,ns,rfl,hS,BJ,M,R,⟨n0,n1⟩,w0,hl,hz,k⟩:=h
 obtain⟨dC,oG,hA⟩:=M.rows
 have LN:#[37].length=many:=by rw[bq,hA.length,R.len]
 refine⟨_,(ag (As #[92] (pK rfl (bx (aS (i:=2) cN.nd) (bx (aS (i:=3) cN.nd) (bx (aS (i:=4) cN.nd) iX)))))
   (ag (az (i:=5) cN.nd (eK rfl oN (bG rfl aL #[80]) (fun _ _ _ _=>(aS (i:=0) oN.nd)) (fun _ _ _ _=>(aC bR (aW aO hr (aa #[92] (aa (aC bu ah #[98]) af))) ah))))
   (ag (bK (aE dE (aC bR (aW aO hr (aa #[98] #[80])) ah) ah (aM _)) (ao (az (i:=5) cN.nd (bw (aa ah #[80])))) aR)
   (ag (lU (i:=6) rfl cN.nd rfl (Or.inl rfl) oO (bG rfl aL (aa (ay aN #[26] aZ ck #[79]) af)) (fun _ _ _ _=>(aS (i:=0) oO.nd)) (fun _ _ _ _=>(aF (Lz K) #[92] (aC bR (aW aO hr (aa (pv 3) (aa (aC bu ah (aW rG hr (aa (pv 2) #[72]))) af))) ah) #[4])))
   (ao (aH (eL (aa (pv 2) (aa (pv 3) (aa (bj bg #[26] aV cy (aa (pv 6) af)) af)))))))))),?_⟩
 exists 0
 exists _,rfl,m,_,rfl,bS M.tup,rfl,_,_,rfl,_,_,rfl,_,_,rfl,rfl
 refine⟨(2:Int),rfl,by decide,by decide,?_⟩
 refine fc (fun D i ys H'=>aB H H'/\ys.length=i/\dz 0 1000000 ys) (fun D hD=>⟨ak hD _,rfl,dz.nil⟩) ?_ ?_
 ·rintro D i ys H' Q' hD hi hy ⟨hs,hl',Ia⟩ k'
  have hi':(i:Int)<2:=by omega
  refine⟨_,rfl,_,rfl,_,_,rfl,rfl,a,_,ns,rfl,hS.same hs,BJ,by omega,by omega,fun v ev _ _=>?_⟩
  subst ev
  have rr:=cZ (a:=ns.getD (700+(0+(i:Int))).toNat 0) (b:=(1000000:Int)) #[7]
  exact⟨_,_,rfl,rfl,(by show(0:Int)<1000000;decide),k' _ H' hy (aA #[0]) ⟨ax hs hD,by simp[hl'],Ia.snoc rr.1 rr.2⟩⟩
 rintro MN ys H1 hM0 hM ⟨s1,Fs,U4⟩
 obtain⟨mn,rfl,hmn⟩:=U4.ints
 rw[bq]at Fs
 exists 13
 refine eI (t:=BG _ _ _) (fun σ' H'=>∃ (MN:QQ) (mn:LI),σ'=[some #[50],some #[58],some #[74],some #[106],some (.ref g),some (.ref MN),none]/\aB H H'/\H' MN=some (.lst (mn.map V.int))/\mn.length=2/\∀ z∈mn,0<=z/\z<1000000) ?_ #[96]
 exists 16
 ·refine⟨_,rfl,a,_,ns,rfl,hS.same s1,BJ,by decide,by decide,fun v ev _ _=>?_⟩
  subst ev
  refine⟨_,_,rfl,rfl,(by show(0:Int)<2;decide),rfl,_,rfl,mC #[29] #[29]⟩
  ·refine⟨#[33],fun l P9=>?_⟩
   refine dq _ _ ⟨l,[1,0],rfl,s1.trans (ak P9 _),ae,rfl,fun z hz'=>?_⟩
   simp at hz'
   omega
  ·exact dq _ _ ⟨MN,mn,rfl,s1,hM,Fs,hmn⟩
 rintro σ' H2 ⟨MN,mn,rfl,s2,hM2,P9,ak2⟩
 have r2:=s2 _ _ oG
 have A2:=hA.same fun b xs e=>s2 _ _ e
 refine⟨_,rfl,r,_,rfl,.inr (bS r2),_,rfl,by omega,by omega,?_⟩
 obtain⟨G,eG⟩:∃ G:Int->Int,G=fun x=>mn.getD (ns.getD (710+x).toNat 0%2).toNat 0:=⟨_,rfl⟩
 refine fc (fun D i ys H'=>aB H2 H'/\ys=((jd i).map fun q:Nat=>G (oS rows many (q:Int))).map V.int) #[48] ?_ ?_
 ·rintro D i ys H' Q' hD hi hy ⟨hs,rfl⟩ k'
  have hi':i<many:=by omega
  have s3:=s2.trans hs
  have ri:=Mq R w0 (q:=(i:Int)) #[0] #[0]
  refine⟨_,rfl,_,rfl,_,rfl,_,rfl,r,_,many,wide,dC,rows,rfl,hs _ _ r2,A2.same (fun b xs e=>hs _ _ e),R,w0,by omega,by omega,?_⟩
  rw[JO]
  refine⟨_,_,rfl,rfl,a,_,ns,rfl,hS.same s3,BJ,by omega,by omega,fun v ev _ _=>?_⟩
  subst ev
  have r9:=cZ (a:=ns.getD (710+oS rows many (i:Int)).toNat 0) (b:=(2:Int)) #[7]
  have hM3:=hs _ _ hM2
  refine⟨_,_,rfl,rfl,(by show(0:Int)<2;decide),MN,_,_,_,rfl,rfl,bV hM3,cj r9.1 #[0],k' _ H' hy (aA (by rw[bq,bq,jg];omega)) ⟨ax hs hD,?_⟩⟩
  rw[js,jF,jF,eG]
  rfl
 rintro FD ys H3 hF0 hF ⟨s3,rfl⟩
 obtain⟨sg,esg⟩:∃ sg,((jd many).map fun q:Nat=>G (oS rows many (q:Int)))=sg:=⟨_,rfl⟩
 have ln:((#[37].length:Nat):Int).toNat=many:=by omega
 rw[ln,esg]at hF
 have Ot:sg.length=many:=by rw[<- esg,bq,jg]
 have hsg:∀ z∈sg,0<=z/\z<1000000:=fun z hz=>by
  rw[<- esg]at hz
  obtain⟨q,_,rfl⟩:=jO.mp hz
  have r9:=cZ (a:=ns.getD (710+oS rows many (q:Int)).toNat 0) (b:=(2:Int)) #[7]
  have lt:(ns.getD (710+oS rows many (q:Int)).toNat 0%2).toNat<mn.length:=by omega
  rw[eG]
  show 0<=mn.getD _ 0/\mn.getD _ 0<1000000
  rw[getD_at lt]
  exact ak2 _ (jH lt)
 have st:fu many rows sg:=S9 (drawn:=(jd many).map fun x:Nat=>G (x:Int)) R w0 (by
  rw[<- esg]
  refine zz fun q hq=>?_
  have Ow:=jm.mp hq
  have ri:=Mq R w0 (q:=(q:Int)) #[0] #[0]
  rw[getD_at (by rw[bq,jg];omega),JW,zO,jb ri.1])
 refine⟨_,rfl,_,rfl,_,rfl,FD,_,rfl,.inl ⟨bV hF,fun t ht=>?_⟩⟩
 have s4:=(s2.trans s3).trans (ak ht (HO.tup (sg.map V.int)))
 refine⟨#[17],fun m2 hm2=>?_⟩
 have s5:=ak hm2 (HO.tup [V.int wide,V.ref r,V.ref t])
 refine k m2 t _ sg (s4.trans s5) ⟨ae,⟨dC,(s4.trans s5) _ _ oG,hA.same fun b xs e=>(s4.trans s5) _ _ e⟩,s5 _ _ ae⟩ #[0] hsg st
end
inductive Cr (vs:List V) (H:Hp) (Q:VK) (E:XK):Prop
 | mk (b t:Nat) (_:vs=[.int b,.int t]) (_:1<=b) (_:(t:Int)<100000) (_:b^t<=1000) (_:Q (.int ((b^t:Nat):Int)) H)
inductive Ry (vs:List V) (H:Hp) (Q:VK) (E:XK):Prop
 | mk (m r g:QQ) (wide:Nat) (rows:LL) (signs:LI) (_:vs=[.ref m]) (_:bA H m r g wide rows signs) (_:aI rows.length wide rows) (_:rows.length<=1000) (_:1<=wide) (_:signs.length=rows.length) (_:fu rows.length rows signs) (_:Q (.bl true) H)
structure adS(H:Hp)(t m:QQ)(o:V)(w p:Nat)(rows:LL)(signs:LI)(many:Nat):Prop where
 tup:H t=some (.tup [.ref m,o])
 mach:∃ r g:QQ,bA H m r g (w^p) rows signs
 ok:aI many (w^p) rows
 ls:signs.length=many
 st:fu many rows signs
 sg:∀ z∈signs,0<=z/\z<1000000
 one:o=.non\/∃ (m1 r1 g1:QQ) (eD:LL) (mV:LI),o=.ref m1/\bA H m1 r1 g1 w eD mV/\aI eD.length w eD/\mV.length=eD.length/\(1<=eD.length/\eD.length<=20)/\fu eD.length eD mV/\cu (w^p) (lh w p eD) rows mV signs
inductive MC (K:Wl) (vs:List V) (H:Hp) (Q:VK) (E:XK):Prop
 | mk (a:QQ) (w p rooms:Nat) (ns:LI) (_:vs=[.ref a,.int w,.int p,.int rooms]) (_:tf K H a ns) (_:730<=ns.length) (_:(2<=w/\w<=10/\1<=p/\p<=10/\w^p<=64)) (_:(1<=rooms/\rooms<=6)) (_:rooms*w^p<=400) (_:∀ (t m:QQ) (o:V) (rows:LL) (signs:LI) (many:Nat) (H':Hp),aB H H'->adS H' t m o w p rows signs many->(1<=many/\many<=rooms)->Q (.ref t) H')
section
theorem ij:aJ ["_law_wide","_law_many","_law_found","_law_k"] ["_law_wide","_law_many"] (ar oV):=cS #[3]
theorem Ad:aJ ["_law_found","_law_q"] ["_law_found"] (ar si):=cS #[3]
theorem oz:aJ ["_law_spread_here","_law_base","_law_many","_law_rooms","_law_one","_law_wide"] ["_law_spread_here","_law_base","_law_many","_law_rooms"] (ar tV):=cS #[3]
theorem OS(F:br K "_law_product" "_law_product" oV dV f fd)(aL:mg "range" = none):bc P w K mg base eB 1 f fd ["_law_wide","_law_many"] Cr:=by
 refine F.ok ij #[6] #[1]
 ·obtain⟨b,t,rfl,_⟩:=h
  rfl
 obtain⟨b,t,rfl,b1,t1,bt,k⟩:=h
 refine⟨_,(ag (az (i:=2) ij.nd ah)
   (ag (bI PassesOwn.never rfl (bG rfl aL #[44]) (aS (i:=3) ij.nd) (ao (az (i:=2) ij.nd (aC eJ (pv 2) #[98]))))
   (ao (aH (pv 2))))),?_⟩
 exists 0
 refine⟨_,rfl,(t:Int),rfl,by omega,by omega,cH (fun i σ' H'=>∃ v,σ'=[some (.int b),some (.int t),some (.int ((b^i:Nat):Int)),v]/\H'=H) ⟨none,by rw[zS];rfl,rfl⟩ ?_ ?_⟩
 ·rintro i σ' H' hi ⟨v,rfl,rfl⟩
  rw[jA]at hi
  have:=oJ (l:=i) b1 bt #[0]
  refine⟨_,rfl,_,rfl,_,_,rfl,rfl,.inl ⟨by omega,by omega⟩,some (.int (0+i)),?_,rfl⟩
  rw[JJ]
  push_cast
  rfl
 ·exists 11
  rw[jA]
  exact⟨_,rfl,k⟩
theorem Z5(F:br K "_law_stays" "_law_stays" si dV f fd)(aL:mg "range" = none)(aZ:mg "len" = none):bc P w K mg base eB 1 f fd ["_law_found"] Ry:=by
 refine F.ok Ad #[6] #[1]
 ·obtain⟨m,r,g,wide,rows,signs,rfl,_⟩:=h
  rfl
 obtain⟨m,r,g,wide,rows,signs,rfl,M,R,n1,w1,ls,St,k⟩:=h
 obtain⟨dC,oG,hA⟩:=M.rows
 have lra:#[37].length=rows.length:=by rw[bq];exact hA.length
 refine⟨_,(ag (bI PassesOwn.never rfl (bG rfl aL (aa (ay aN #[26] aZ ck (aa #[12] af)) af)) (aS (i:=1) Ad.nd) (ao (bK (aE CJ (aF aG #[12] (aF aG (aF aG #[12] #[92] #[4]) ah #[4]) #[4]) (aF aG #[12] #[92] #[4]) (aM _)) #[69] aR)))
   #[69]),?_⟩
 exists 0
 refine⟨_,rfl,m,_,_,_,rfl,rfl,bS M.tup,rfl,r,_,rfl,.inr (bS oG),_,rfl,by omega,by omega,?_⟩
 refine cH (fun i σ' H'=>∃ v,σ'=[some #[58],v]/\H'=H) ⟨none,rfl,rfl⟩ ?_ ?_
 ·rintro i σ' H' hi ⟨v,rfl,rfl⟩
  rw[lra,jA]at hi
  have z0:(0:Int)+(i:Int)=(i:Int):=JO _
  rw[z0]
  obtain⟨ra,rr,e1,e2,e3⟩:=fX hA R (show(0:Int)<=(i:Int) by omega) (show(i:Int)<(rows.length:Int) by omega) (show(0:Int)<=0 by omega) (show(0:Int)<(wide:Int) by omega)
  have q0:=cA R (show(0:Int)<=(i:Int) by omega) (show(i:Int)<(rows.length:Int) by omega) (show(0:Int)<=0 by omega) (show(0:Int)<(wide:Int) by omega)
  refine⟨_,rfl,m,_,_,_,rfl,rfl,bS M.tup,rfl,_,rfl,m,_,_,_,rfl,rfl,bS M.tup,rfl,_,rfl,r,_,_,_,rfl,rfl,bS oG,e1,ra,_,_,_,rfl,rfl,bS e2,e3,g,_,_,_,rfl,rfl,bS M.sgn,cj q0.1 #[0],?_⟩
  exists _,rfl,m,_,_,_,rfl,rfl,bS M.tup,rfl,_,rfl,g,_,_,_,rfl,rfl,bS M.sgn,cj #[0] #[0],rfl,_,rfl
  refine sJ (fun c=>absurd ?_ c) (fun c=>⟨_,rfl,rfl⟩)
  rw[St (i:Int) #[0] #[0]]
 ·exists 11
  exact k
theorem FA{w:Nat}{signs:LI}(w1:1<=w)(p1:1<=p)(RO:aI eD.length w eD)(o0:0<eD.length)(SO:fu eD.length eD mV)(L:cu (w^p) (lh w p eD) rows mV signs):fu rows.length rows signs:=fun q q0 q1=>by
 obtain⟨i,rfl⟩:=fQ q0
 obtain⟨v,hv,e⟩:=L.ord.Dv L.ok i #[0]
 have wp:0<w^p:=Zu #[0]
 have MU:mi (w^p) (v++[0]):=fun g hg=>by
  rcases Bn.mp hg with z|z
  ·exact hv g z
  ·rw[jK.mp z];omega
 have t1:=L.tells v hv
 have t2:=L.tells _ MU
 have ee:pS w p (v++[0])=pS w p v++JG p 0:=by
  unfold pS
  rw[JL,JV]
  congr 1
  exact B9 w p
 have wi:=dH RO (ns:=pS w p v) (h:=0) (Dg w1 v) #[0] #[0]
 rw[fj w1 RO _ 0 MU ⟨by omega,by omega⟩,ee,cP,su RO w1 SO _ _ wi.1 wi.2,<- fj w1 RO _ 0 hv ⟨by omega,by omega⟩,t1,rA,e]at t2
 exact t2.symm
theorem SA(F:br K "_law_made" "_law_made" tV dV f fd)(aO:bp P w K mg base "_law_draw" 1 ["_law_spread_here","_law_k"] [] (tZ K))(eV:bp P w K mg base "_law_machine_of" 3 ["_law_spread_here","_law_at","_law_many","_law_wide"] [] (CP K))(hU:bp P w K mg base "_law_steadied" 2 ["_law_spread_here","_law_machine"] [] (Fb K))(DG:bp P w K mg base "raised" 6 ["machine","power"] [] (MG K))(dW:bp P w K mg base "_law_product" 1 ["_law_wide","_law_many"] [] Cr):bc P w K mg base eB 7 f fd ["_law_spread_here","_law_base","_law_many","_law_rooms"] (MC K):=by
 refine F.ok oz #[6] #[1]
 ·obtain⟨a,wn,p,rooms,ns,rfl,_⟩:=h
  rfl
 obtain⟨a,wn,p,rooms,ns,rfl,hS,BJ,⟨w2,w10,p1,Ra,wp⟩,⟨r1,r6⟩,rw4,k⟩:=h
 have wle:wn<=wn^p:=by
  have:=ju (n:=wn) #[0] p1
  rw[Jr]at this
  exact this
 have mw:∀ x:Nat,x<=wn^p->rooms*x<=400:=fun x hx=>jf (ZC _ hx) rw4
 refine⟨_,(ag (az (i:=4) oz.nd (aW eV hr (aa #[98] (aa ah (aa (pv 3) #[44])))))
   (ag (bK (aE dE (aC bR (aW aO hr (aa #[98] #[80])) ah) ah (aM _)) (ag (az (i:=4) oz.nd (aW hU hr (aa #[98] #[88])))
   (ao (aH (eL (aa (aW DG hr (aa (pv 4) #[57])) #[88]))))) aR)
   (ag (az (i:=5) oz.nd (aW dW hr (aa #[92] #[57])))
   (ao (aH (eL (aa (aW hU hr (aa #[98] (aa (aW eV hr (aa #[98] (aa ah (aa (pv 3) #[102])))) af))) (aa tR af)))))))),?_⟩
 exists 0
 refine⟨_,rfl,_,rfl,_,rfl,a,6,rooms,wn,ns,rfl,hS,BJ,⟨by decide,by decide⟩,⟨r1,by omega⟩,⟨by omega,by omega⟩,mw _ wle,fun m0 r0 g0 H1 rows0 afe s1 M0 R0 l0 z0=>?_⟩
 exists 1
 refine⟨_,rfl,a,4,ns,rfl,hS.same s1,BJ,by decide,by decide,fun v _ _ _=>⟨_,_,rfl,rfl,(by show(0:Int)<2;decide),rfl,_,rfl,mC #[87] #[87]⟩⟩
 ·refine⟨_,rfl,_,rfl,a,m0,r0,g0,rooms,wn,rows0,afe,ns,rfl,hS.same s1,BJ,M0,R0,⟨r1,by omega⟩,by omega,l0,z0,fun m1 g1 H2 mU s2 M1 l1 z1 St1=>?_⟩
  exists 1
  have lr:=R0.len
  subst lr
  refine⟨_,rfl,_,rfl,m1,r0,g1,wn,p,rows0,mU,rfl,M1,R0,l1,⟨r1,by omega⟩,⟨w2,by omega⟩,by omega,fun m2 r2 g2 fY pN H3 s3 M2 L=>⟨_,rfl,#[33],fun T hT=>?_⟩⟩
  have s4:=ak hT (HO.tup [V.ref m2,V.ref m1])
  have Rr:=Ml (w:=wn) (k:=p) #[0] R0
  refine k T m2 (.ref m1) fY pN fY.length _ (s1.trans (s2.trans (s3.trans s4))) ⟨ae,⟨r2,g2,M2.same fun b xs e=>s4 _ _ e⟩,L.ok,L.sgn,FA #[0] p1 R0 #[0] St1 L,L.signs Rr r1 l1 z1,.inr ⟨m1,r0,g1,rows0,mU,rfl,M1.same (fun b xs e=>s4 _ _ (s3 _ _ e)),R0,l1,⟨r1,by omega⟩,St1,L⟩⟩ ⟨L.pos,L.AW Rr r1⟩
 ·refine⟨_,rfl,_,rfl,wn,p,rfl,by omega,by omega,by omega,?_⟩
  exists 1
  refine⟨_,rfl,_,rfl,_,rfl,_,rfl,a,6,rooms,wn^p,ns,rfl,hS.same s1,BJ,⟨by decide,by decide⟩,⟨r1,by omega⟩,⟨by omega,by omega⟩,mw _ (jE _),fun m1 r1' g1 H2 dB mU s2 M1 R1 l1 z1=>?_⟩
  refine⟨a,m1,r1',g1,rooms,wn^p,dB,mU,ns,rfl,hS.same (s1.trans s2),BJ,M1,R1,⟨r1,by omega⟩,by omega,l1,z1,fun m2 g2 H3 pN s3 M2 l2 z2 St2=>⟨#[33],fun T hT=>?_⟩⟩
  have s4:=ak hT (HO.tup [V.ref m2,V.non])
  exact k T m2 .non dB pN rooms _ (s1.trans (s2.trans (s3.trans s4))) ⟨ae,⟨r1',g2,M2.same fun b xs e=>s4 _ _ e⟩,R1,l2,St2,z2,.inl rfl⟩ ⟨r1,jE _⟩
end
inductive EZ (vs:List V) (H:Hp) (Q:VK) (E:XK):Prop
 | mk (b:QQ) (n:Nat) (wd:Int) (ns:LI) (_:vs=[.ref b,.int n,.int wd]) (_:H b=some (.tup #[34])) (_:ns.length=n) (_:(∀ z∈ns,0<=z/\z<wd)) (_:Q (.bl true) H)
inductive MB (vs:List V) (H:Hp) (Q:VK) (E:XK):Prop
 | mk (m r g:QQ) (wide:Nat) (rows:LL) (signs:LI) (_:vs=[.ref m,.int wide]) (_:bA H m r g wide rows signs) (_:aI rows.length wide rows) (_:0<rows.length) (_:signs.length=rows.length) (_:(∀ s∈signs,0<=s/\s<1000000)) (_:∀ H',aB H H'->Q (.bl true) H')
inductive Rv (vs:List V) (H:Hp) (Q:VK) (E:XK):Prop
 | mk (r:QQ) (dC:List QQ) (wide:Nat) (rows:LL) (_:vs=[.ref r]) (_:H r=some (.tup #[37])) (_:aP H dC rows) (_:aI rows.length wide rows) (_:rows.length<=1000) (_:oj rows) (_:Q (.bl true) H)
theorem tL(K:Wl):Wo K (.type "int") (.type "int")=some true:=by with_unfolding_all rfl
theorem rR(K:Wl):Wo K (.type "int") (.type "bool")=some false:=by with_unfolding_all rfl
section
theorem tY:aJ ["_law_found","_law_many","_law_bound","_law_one"] ["_law_found","_law_many","_law_bound"] (ar pM):=cS #[3]
theorem oW:aJ ["_law_found","_law_wide","_law_row"] ["_law_found","_law_wide"] (ar lC):=cS #[3]
theorem dY:aJ ["_law_rows","_law_many","_law_q","_law_there_here"] ["_law_rows"] (ar mR):=cS #[3]
theorem Sy(F:br K "_law_is_row" "_law_is_row" pM dV f fd)(av:mg "isinstance" = none)(aV:mg "tuple" = none)(sP:mg "int" = none)(sy:mg "bool" = none)(aZ:mg "len" = none):bc P w K mg base eB 1 f fd ["_law_found","_law_many","_law_bound"] EZ:=by
 refine F.ok tY #[6] #[1]
 ·obtain⟨b,n,wd,ns,rfl,_⟩:=h
  rfl
 obtain⟨b,n,wd,ns,rfl,hb,ln,rO,q⟩:=h
 refine⟨_,(ag (bK (PW.pt (pA (lV (iZ (ay iT #[26] av aD (aa #[98] (aa (iW (v:=.ty "tuple") rfl aV cy rfl) af))))) (tT (aE CJ #[36] #[92] (aM _))))) #[69] aR)
   (ag (bI PassesOwn.never rfl (rW #[98]) (aS (i:=3) tY.nd) (ao (bK (PW.pt (pA (lV (iZ (ay iT #[26] av aD (aa (pv 3) (aa (iW (v:=.ty "int") rfl sP HQ rfl) af))))) (pA (iZ (ay iT #[26] av aD (aa (pv 3) (aa (iW (v:=.ty "bool") rfl sy HP rfl) af)))) (pA (aE Ac (pv 3) ah (aM _)) (tT (aE L8 (pv 3) (pv 2) (aM _))))))) #[69] aR)))
   #[69])),?_⟩
 exists 0
 refine⟨_,rfl,_,_,_,_,rfl,pE.tup hb,mM K,_,rfl,ff ?_⟩
 refine⟨_,rfl,b,_,rfl,.inr (bS hb),_,rfl,rfl,_,rfl,sJ (fun z=>absurd (by rw[bq,ln]) z) #[87]⟩
 refine⟨_,rfl,b,rfl,⟨_,bS hb⟩,AX (K:=K) (xs:=ns.map V.int) (fun i σ' H'=>∃ v,σ'=[some (.ref b),some (.int n),some (.int wd),v]/\H'=H) ⟨none,rfl,rfl⟩ (fun i σ' H' _ ⟨_,_,e⟩=>by rw[e];exact bS hb) ?_ ?_⟩
 ·rintro i y σ' H' hi ⟨v,rfl,rfl⟩
  obtain⟨z,rfl,hz⟩:=bZ hi
  have zr:=rO z (pZ hz)
  refine⟨_,rfl,_,_,_,_,rfl,pE.int z,tL K,_,rfl,ff ?_⟩
  refine⟨_,rfl,_,_,_,_,rfl,pE.int z,rR K,_,rfl,ff ?_⟩
  refine⟨_,rfl,_,_,rfl,rfl,_,rfl,ou (fun c=>by omega) #[87]⟩
  exact⟨_,rfl,_,rfl,_,_,rfl,rfl,_,rfl,ou (fun c=>by omega) (fun _=>⟨_,rfl,rfl⟩)⟩
 ·exists 11
  exact q
theorem Sx(F:br K "_law_is_machine" "_law_is_machine" lC dV f fd)(di:bp P w K mg base "_law_is_row" 1 ["_law_found","_law_many","_law_bound"] [] EZ)(av:mg "isinstance" = none)(aV:mg "tuple" = none)(aZ:mg "len" = none):bc P w K mg base eB 2 f fd ["_law_found","_law_wide"] MB:=by
 refine F.ok oW #[6] #[1]
 ·obtain⟨m,r,g,wide,rows,signs,rfl,_⟩:=h
  rfl
 obtain⟨m,r,g,wide,rows,signs,rfl,M,R,n0,ls,hs,k⟩:=h
 obtain⟨dC,oG,hA⟩:=M.rows
 have LN:dC.length=rows.length:=hA.length
 refine⟨_,(ag (bK (PW.pt (pA (lV (iZ (ay iT #[26] av aD (aa #[98] (aa (iW (v:=.ty "tuple") rfl aV cy rfl) af))))) (pA (aE CJ #[36] ah (aM _)) (tT (lV (iZ (aW di hr (aa (EH afi #[98] Iv (Iw ah)) (aa ah (aa #[103] af)))))))))) #[69] aR)
   (ag (bK (PW.pt (pA (aE CJ #[12] #[92] (aM _)) (pA (lV (iZ (ay iT #[26] av aD (aa #[12] (aa (iW (v:=.ty "tuple") rfl aV cy rfl) af))))) (tT (aE dE (ay aN #[26] aZ ck (aa #[12] af)) ah (aM _)))))) #[69] aR)
   (ag (bI PassesOwn.never rfl (rW #[12]) (aS (i:=2) oW.nd) (ao (bK (lV (iZ (aW di hr (aa (pv 2) (aa #[92] (aa (ay aN #[26] aZ ck (aa #[12] af)) af)))))) #[69] aR)))
   (ao (aH (aW di hr (aa #[12] (aa (ay aN #[26] aZ ck (aa #[12] af)) #[80])))))))),?_⟩
 exists 0
 refine⟨_,rfl,_,_,_,_,rfl,pE.tup M.tup,mM K,_,rfl,ff ?_⟩
 refine⟨_,rfl,m,_,rfl,.inr (bS M.tup),rfl,_,rfl,sJ (fun z=>absurd rfl z) #[87]⟩
 refine⟨_,rfl,1,rfl,m,_,rfl,.inr ⟨bS M.tup,(fun z=>by
   have e:(1:Nat)=3:=congrArg zG z
   omega),fun t ht=>?_⟩⟩
 have st:=ak ht (HO.tup [V.int wide])
 refine⟨_,rfl,_,_,rfl,rfl,t,1,_,[(wide:Int)],rfl,ae,rfl,fun z hz=>by rw[jK.mp hz];omega,_,rfl,ff ?_⟩
 have M1:=M.same fun b xs e=>st _ _ e
 refine⟨_,rfl,m,_,_,_,rfl,rfl,bS M1.tup,rfl,_,rfl,rfl,_,rfl,sJ (fun z=>absurd rfl z) #[87]⟩
 refine⟨_,rfl,m,_,_,_,rfl,rfl,bS M1.tup,rfl,_,_,_,_,rfl,pE.tup (st _ _ oG),mM K,_,rfl,ff ?_⟩
 refine⟨_,rfl,m,_,_,_,rfl,rfl,bS M1.tup,rfl,r,_,rfl,.inr (bS (st _ _ oG)),rfl,_,rfl,ou (fun z=>by
  have:=V.int.inj z
  rw[bq]at this
  omega) #[87]⟩
 refine⟨_,rfl,m,_,_,_,rfl,rfl,bS M1.tup,rfl,r,rfl,⟨_,bS (st _ _ oG)⟩,AX (K:=K) (xs:=dC.map V.ref) (fun i σ' H'=>∃ v,σ'=[some #[58],some #[74],v]/\H'=upd H t (HO.tup [V.int wide])) ⟨none,rfl,rfl⟩ (fun i σ' H' _ ⟨_,_,e⟩=>by rw[e];exact bS (st _ _ oG)) ?_ ?_⟩
 ·rintro i y σ' H' hi ⟨v,rfl,rfl⟩
  have jl:i<rows.length:=by
   have:=(iH hi).1
   rw[bq]at this
   omega
  obtain⟨ra,e1,e2⟩:=hA.get jl
  have ey:y=.ref ra:=by rw[jN,e1]at hi;exact(Option.some.inj hi).symm
  subst ey
  refine⟨_,rfl,_,rfl,_,rfl,m,_,_,_,rfl,rfl,bS M1.tup,rfl,r,_,rfl,.inr (bS (st _ _ oG)),ra,wide,_,rows[i],rfl,st _ _ e2,R.row _ (jH jl),?_,_,rfl,ff ⟨_,rfl,rfl⟩⟩
  rw[bq,LN]
  exact R.val _ (jH jl)
 ·exists 11
  refine⟨_,rfl,m,_,_,_,rfl,rfl,bS M1.tup,rfl,_,rfl,m,_,_,_,rfl,rfl,bS M1.tup,rfl,r,_,rfl,.inr (bS (st _ _ oG)),g,#[37].length,1000000,signs,rfl,M1.sgn,by rw[bq,LN];exact ls,hs,k _ st⟩
theorem Z1(F:br K "_law_in_order" "_law_in_order" mR dV f fd)(aZ:mg "len" = none)(aL:mg "range" = none):bc P w K mg base eB 1 f fd ["_law_rows"] Rv:=by
 refine F.ok dY #[6] #[1]
 ·obtain⟨r,dC,wide,rows,rfl,_⟩:=h
  rfl
 obtain⟨r,dC,wide,rows,rfl,oG,hA,R,l1,O,q⟩:=h
 have LN:dC.length=rows.length:=hA.length
 refine⟨_,(ag (az (i:=1) dY.nd ah)
   (ag (bI PassesOwn.never rfl (bG rfl aL (aa #[36] af)) (aS (i:=2) dY.nd) (ag (bK (aE L8 (pv 2) #[92] (aM _)) #[69] aR)
   (ao (bI PassesOwn.never rfl (rW (aF aG #[98] (pv 2) #[4])) (aS (i:=3) dY.nd) (ag (bK (aE Q8 (pv 3) #[92] (aM _)) #[69] aR)
   (ao (bK (aE dE (pv 3) #[92] (aM _)) (ao (az (i:=1) dY.nd #[103])) aR)))))))
   (ao (aH (pz dE #[92] #[36] (aM _)))))),?_⟩
 exists 0
 refine⟨_,rfl,r,_,rfl,.inr (bS oG),_,rfl,by rw[bq];omega,by rw[bq];omega,?_⟩
 rw[bq,LN]
 refine cH (fun i σ' H'=>∃ (m:Nat) (v2 v3:OV),σ'=[some #[106],some (.int m),v2,v3]/\H'=H/\bM i m (rows.drop i)=some rows.length) ⟨1,none,none,rfl,rfl,O⟩ ?_ ?_
 ·rintro i σ' H' hi ⟨m,v2,v3,rfl,rfl,o⟩
  rw[jA]at hi
  rw[JO]
  rw[jv hi]at o
  obtain⟨im,m1,o1,o2⟩:=ED o
  obtain⟨ra,e1,e2⟩:=hA.get hi
  refine⟨_,rfl,_,rfl,_,_,rfl,rfl,_,rfl,ou (fun c=>by omega) #[87]⟩
  exists _,rfl,_,rfl,r,_,_,_,rfl,rfl,bS oG,tu #[0] (by rw[jA];exact e1),ra,rfl,⟨_,bS e2⟩
  refine AX (K:=K) (xs:=rows[i].map V.int) (fun j σ' Cv=>∃ (m':Nat) (v3:OV),σ'=[some #[106],some (.int m'),some (.int i),v3]/\Cv=H'/\ba m' (rows[i].drop j)=some m1) ⟨m,v3,rfl,rfl,o1⟩ (fun j σ' Cv _ ⟨_,_,_,e,_⟩=>by rw[e];exact bS e2) ?_ ?_
  ·rintro j y σ' Cv hj ⟨m',v3,rfl,rfl,o3⟩
   obtain⟨t,rfl,ht⟩:=bZ hj
   have jl:=iH ht
   rw[jv jl.1,jl.2]at o3
   have o4:(if t=(m':Int)then ba (m'+1) (rows[i].drop (j+1))else if t<(m':Int)then ba m' (rows[i].drop (j+1))else none)=some m1:=o3
   by_cases c:t=(m':Int)
   ·rw[if_pos c]at o4
    refine⟨_,rfl,_,rfl,_,_,rfl,rfl,_,rfl,ou (fun z=>by omega) #[87]⟩
    refine⟨_,rfl,_,rfl,rfl,_,rfl,mC #[87] (fun z=>absurd c z)⟩
    exact⟨_,rfl,_,_,rfl,rfl,m'+1,_,rfl,rfl,o4⟩
   ·rw[if_neg c]at o4
    by_cases d:t<(m':Int)
    ·rw[if_pos d]at o4
     refine⟨_,rfl,_,rfl,_,_,rfl,rfl,_,rfl,ou (fun z=>by omega) #[87]⟩
     exact⟨_,rfl,_,rfl,rfl,_,rfl,mC (fun z=>absurd z c) (fun _=>⟨m',_,rfl,rfl,o4⟩)⟩
    ·rw[if_neg d]at o4
     cases o4
  ·rintro σ' Cv ⟨m',v3,rfl,rfl,o3⟩
   rw[bq,zA]at o3
   have e:m'=m1:=Option.some.inj o3
   subst e
   exact⟨m',_,_,rfl,rfl,o2⟩
 ·rintro σ' H' ⟨m,v2,v3,rfl,rfl,o⟩
  rw[jA,zA]at o
  have e:m=rows.length:=Option.some.inj o
  subst e
  exists _,rfl,_,rfl,r,_,rfl,.inr (bS oG),rfl
  rw[bq,LN,decide_eq_true rfl]
  exact q
end
inductive aaS (C:QQ) (vs:List V) (H:Hp) (Q:VK) (E:XK):Prop
 | mk (ea:QQ) (_:vs=[.ref ea]) (_:H ea=some (.ext (BN ea C))) (_:∀ H',aB H H'->Q (.bl false) H')
inductive aaR (C:QQ) (vs:List V) (H:Hp) (Q:VK) (E:XK):Prop
 | mk (ea d:QQ) (_:vs=[.ref ea]) (_:H ea=some (.ext (Ae ea C d))) (_:∀ H',aB H H'->Q (.bl false) H')
inductive aaU (vs:List V) (H:Hp) (Q:VK) (E:XK):Prop
 | mk (m:QQ) (y r g:V) (most:Int) (wide:Nat) (_:vs=[.ref m,y,.int most]) (_:H m=some (.tup [.int wide,r,g])) (_:Pl H y) (_:(1<=wide/\wide<=1000)) (_:(∀ b p:Nat,y=.int b->2<=b->1<=p->wide≠b^p)) (_:∀ (l:QQ) (H':Hp),aB H H'->H' l=some (.lst [.bl true,.bl false,.bl true,.bl false])->Q (.ref l) H')
def adV(H:Hp)(vs:List V):Prop := ∃ (m r g:QQ) (many w p most:Nat) (rows us:LL) (signs:LI),vs=[.ref m,.int w,.int most]/\bA H m r g (w^p) rows signs/\aI many (w^p) rows/\signs.length=many/\1<=many/\(2<=w/\1<=p/\w^p<=1000)/\(1<=most/\most<=900)/\us.Nodup/\(∀ u∈us,Rg #[49] [0,0,0] w u)/\most<us.length
structure aaT(vs:List V)(H:Hp)(Q:VK)(E:XK):Prop where
 h0:adV H vs
 h1:∀ (l:QQ) (H':Hp),aB H H'->H' l=some (.lst [.bl false,.bl true,.bl true,.bl false])->Q (.ref l) H'
structure Rl(vs:List V)(H:Hp)(Q:VK)(E:XK):Prop where
 h0:adV H vs
 h1:∀ H':Hp,aB H H'->Q (.bl true) H'
theorem wY:Qr "ValueError" = some (.type "ValueError"):=by decide +kernel
theorem B3(K:Wl)(h:X.K=K:=by rfl):lH X (.builtin "isinstance") (aif K):=by subst h;exact mB
theorem LC(K:Wl)(t:Value):Wo K t t=some true:=by
 unfold Wo
 rw[if_pos #[21]]
section
variable{CN D1 D2 D3 D5 D6 D7 D8:QQ}
theorem lF:aJ ["_law_e","_law_kinds"] ["_law_e"] (ar ma):=cS #[3]
theorem cK:aJ ["_law_machine","_law_base","_law_most","_law_seen","_law_e"] ["_law_machine","_law_base","_law_most"] (ar lD):=cS #[3]
theorem mf:aJ ["_law_machine","_law_base","_law_most","_law_field_here","_law_e"] ["_law_machine","_law_base","_law_most"] (ar sd):=cS #[3]
theorem acn(F:br K "_law_others" "_law_others" ma dV f fd)(c:Al K C)(iA:mg "NoFigures" = some (.ref D1))(iB:mg "NoMachine" = some (.ref D2))(pT:mg "NoName" = some (.ref D3))(wq:mg "NoRow" = some (.ref D5))(pU:mg "NoSome" = some (.ref D6))(pV:mg "NoText" = some (.ref D7))(oC:mg "TooWide" = some (.ref D8))(n1:Wo K #[20] (.ref D1)=some false)(n2:Wo K #[20] (.ref D2)=some false)(n3:Wo K #[20] (.ref D3)=some false)(n5:Wo K #[20] (.ref D5)=some false)(n6:Wo K #[20] (.ref D6)=some false)(n7:Wo K #[20] (.ref D7)=some false)(n8:Wo K #[20] (.ref D8)=some false)(av:mg "isinstance" = none):FI P w K mg base eB 1 f fd ["_law_e"] (aaS C):=by
 refine F.okH lF #[6] #[1]
 ·obtain⟨ea,rfl,_⟩:=h
  rfl
 obtain⟨ea,rfl,he,q⟩:=h
 refine⟨_,(ag (az (i:=1) lF.nd (bw (aa (ay mB #[26] av aD (aa #[98] (aa (de (v:=.ref _) rfl iA rfl) af))) (aa (ay mB #[26] av aD (aa #[98] (aa (de (v:=.ref _) rfl iB rfl) af))) (aa (ay mB #[26] av aD (aa #[98] (aa (de (v:=.ref _) rfl pT rfl) af))) (aa (ay mB #[26] av aD (aa #[98] (aa (de (v:=.ref _) rfl oC rfl) af))) af))))))
   (ao (aH (pz Hk cq (aC OY #[92] (bw (aa (ay mB #[26] av aD (aa #[98] (aa (de (v:=.ref _) rfl wq rfl) af))) (aa (ay mB #[26] av aD (aa #[98] (aa (de (v:=.ref _) rfl pU rfl) af))) (aa (ay mB #[26] av aD (aa #[98] (aa (de (v:=.ref _) rfl pV rfl) af))) af))))) #[71])))),?_⟩
 exists 0
 refine⟨_,rfl,ea,C,_,_,_,rfl,he,c,rfl,n1,_,rfl,ea,C,_,_,_,rfl,he,c,rfl,n2,_,rfl,ea,C,_,_,_,rfl,he,c,rfl,n3,_,rfl,ea,C,_,_,_,rfl,he,c,rfl,n8,#[65],fun l1 h1=>?_⟩
 have s1:=ak h1 (HO.lst [.bl false,.bl false,.bl false,.bl false])
 have e1:=s1 _ _ he
 refine⟨_,rfl,_,rfl,ea,C,_,_,_,rfl,e1,c,rfl,n5,_,rfl,ea,C,_,_,_,rfl,e1,c,rfl,n6,_,rfl,ea,C,_,_,_,rfl,e1,c,rfl,n7,#[17],fun l2 h2=>?_⟩
 have s2:=ak h2 (HO.lst [.bl false,.bl false,.bl false])
 refine⟨l1,l2,_,_,rfl,rfl,s2 _ _ ae,ae,(by show 7<=sizeLine;decide),fun l3 h3=>?_⟩
 have s3:=ak h3 (HO.lst [.bl false,.bl false,.bl false,.bl false,.bl false,.bl false,.bl false])
 have sA:=s1.trans (s2.trans s3)
 exact⟨l3,_,rfl,.inl (bV ae),rfl,rfl,q _ sA⟩
theorem acm(F:br K "_law_others" "_law_others" ma dV f fd)(c:Al K C)(iA:mg "NoFigures" = some (.ref D1))(iB:mg "NoMachine" = some (.ref D2))(pT:mg "NoName" = some (.ref D3))(wq:mg "NoRow" = some (.ref D5))(pU:mg "NoSome" = some (.ref D6))(pV:mg "NoText" = some (.ref D7))(oC:mg "TooWide" = some (.ref D8))(n1:Wo K #[20] (.ref D1)=some false)(n2:Wo K #[20] (.ref D2)=some false)(n3:Wo K #[20] (.ref D3)=some false)(n5:Wo K #[20] (.ref D5)=some false)(n6:Wo K #[20] (.ref D6)=some false)(n7:Wo K #[20] (.ref D7)=some false)(n8:Wo K #[20] (.ref D8)=some false)(av:mg "isinstance" = none):FI P w K mg base eB 1 f fd ["_law_e"] (aaR C):=by
 refine F.okH lF #[6] #[1]
 ·obtain⟨ea,d,rfl,_⟩:=h
  rfl
 obtain⟨ea,d,rfl,he,q⟩:=h
 refine⟨_,(ag (az (i:=1) lF.nd (bw (aa (ay (fW K) #[26] av aD (aa #[98] (aa (de (v:=.ref _) rfl iA rfl) af))) (aa (ay (fW K) #[26] av aD (aa #[98] (aa (de (v:=.ref _) rfl iB rfl) af))) (aa (ay (fW K) #[26] av aD (aa #[98] (aa (de (v:=.ref _) rfl pT rfl) af))) (aa (ay (fW K) #[26] av aD (aa #[98] (aa (de (v:=.ref _) rfl oC rfl) af))) af))))))
   (ao (aH (pz Hk cq (aC OY #[92] (bw (aa (ay (fW K) #[26] av aD (aa #[98] (aa (de (v:=.ref _) rfl wq rfl) af))) (aa (ay (fW K) #[26] av aD (aa #[98] (aa (de (v:=.ref _) rfl pU rfl) af))) (aa (ay (fW K) #[26] av aD (aa #[98] (aa (de (v:=.ref _) rfl pV rfl) af))) af))))) #[71])))),?_⟩
 exists 0
 refine⟨_,rfl,ea,C,d,_,_,_,rfl,he,c,rfl,n1,_,rfl,ea,C,d,_,_,_,rfl,he,c,rfl,n2,_,rfl,ea,C,d,_,_,_,rfl,he,c,rfl,n3,_,rfl,ea,C,d,_,_,_,rfl,he,c,rfl,n8,#[65],fun l1 h1=>?_⟩
 have s1:=ak h1 (HO.lst [.bl false,.bl false,.bl false,.bl false])
 have e1:=s1 _ _ he
 refine⟨_,rfl,_,rfl,ea,C,d,_,_,_,rfl,e1,c,rfl,n5,_,rfl,ea,C,d,_,_,_,rfl,e1,c,rfl,n6,_,rfl,ea,C,d,_,_,_,rfl,e1,c,rfl,n7,#[17],fun l2 h2=>?_⟩
 have s2:=ak h2 (HO.lst [.bl false,.bl false,.bl false])
 refine⟨l1,l2,_,_,rfl,rfl,s2 _ _ ae,ae,(by show 7<=sizeLine;decide),fun l3 h3=>?_⟩
 have s3:=ak h3 (HO.lst [.bl false,.bl false,.bl false,.bl false,.bl false,.bl false,.bl false])
 have sA:=s1.trans (s2.trans s3)
 exact⟨l3,_,rfl,.inl (bV ae),rfl,rfl,q _ sA⟩
theorem acp(F:br K "_law_refused" "_law_refused" lD dV f fd)(c:Al K C)(cO:mg "FigureError" = some (.ref F0))(eU:mg "NoPower" = some #[20])(dM:mg "TooGreat" = some (.ref CT))(xm:YR K #[20] (.ref F0)=some true)(kt:Wo K #[20] (.ref CT)=some false)(kv:Wo K #[20] (.type "ValueError")=some true)(dy:Tx P w K mg base "lowered" 6 ["machine","base","most"] [] (Pj C))(cE:Tx P w K mg base "lowered" 6 ["machine","base","most"] [.int 200] (Pj C))(dw:abp P w K mg base "_law_others" 1 ["_law_e"] [] (aaS C))(av:mg "isinstance" = none)(fJ:mg "ValueError" = none):bc P w K mg base eB 7 f fd ["_law_machine","_law_base","_law_most"] aaU:=by
 refine F.ok cK #[6] #[1]
 ·obtain⟨m,y,r,g,most,wide,rfl,_⟩:=h
  rfl
 obtain⟨m,y,r,g,most,wide,rfl,hm,hp,w1,no,k⟩:=h
 refine⟨_,(ag (az (i:=3) cK.nd (bw af))
   (ag (ae5 (i:=4) cK.nd rfl rfl cO xm (O8 (aie (aE dE (pv 2) ah (aM _)) (O8 (Rh (Mh cE hr (aa #[98] #[44])))) (O8 (Rh (Mh dy hr (aa #[98] (aa #[92] #[57]))))))) (fun _=>(ao (az (i:=3) cK.nd (bw (aa (ay (B3 K) #[26] av aD (aa (pv 4) (aa (de (v:=.ref _) rfl eU rfl) af))) (aa (ay (B3 K) #[26] av aD (aa (pv 4) (aa (de (v:=.ref _) rfl dM rfl) af))) (aa (ay (B3 K) #[26] av aD (aa (pv 4) (aa (iW (v:=.ty "ValueError") rfl fJ wY rfl) af))) (aa (adw dw hr.held #[88]) af)))))))))
   (ao (aH (pv 3))))),?_⟩
 exists 0
 refine⟨#[13],fun l0 h0=>?_⟩
 have s0:=ak h0 #[82]
 refine⟨_,rfl,rfl,_,rfl,mC (fun _=>⟨_,rfl,_,rfl,m,y,r,g,.int 200,wide,rfl,s0 _ _ hm,hp.same s0,w1,no,rfl,fun ea Sb=>?_⟩) (fun _=>⟨_,rfl,_,rfl,_,rfl,m,y,r,g,.int most,wide,rfl,s0 _ _ hm,hp.same s0,w1,no,rfl,fun ea Sb=>?_⟩)⟩
 all_goals
  have s1:=s0.trans (ak Sb (HO.ext (BN ea C)))
  refine⟨_,rfl,ea,C,_,_,_,rfl,ae,c,rfl,LC K _,_,rfl,ea,C,_,_,_,rfl,ae,c,rfl,kt,_,rfl,ea,C,_,_,_,rfl,ae,c,rfl,kv,_,rfl,ea,rfl,ae,fun H2 s2=>?_⟩
  refine⟨#[65],fun l2 h2=>⟨_,rfl,?_⟩⟩
  exact k l2 _ (s1.trans (s2.trans (ak h2 _))) ae
theorem Ij{w many most k:Nat}{us:LL}{signs:LI}(nd:us.Nodup)(re:∀ u∈us,Rg #[49] [0,0,0] w u)(lt:most<us.length)(L:mj w p rows signs aw aK k)(le:k<=most):False:=by
 obtain⟨ps,sM,G,el,LO,en⟩:=L.ex
 have:=iz nd fun p hp=>(G.rg el).mpr (re p hp)
 omega
theorem aco(F:br K "_law_refused" "_law_refused" lD dV f fd)(c:Al K C)(cO:mg "FigureError" = some (.ref F0))(eU:mg "NoPower" = some (.ref CN))(dM:mg "TooGreat" = some #[20])(xm:YR K #[20] (.ref F0)=some true)(kn:Wo K #[20] (.ref CN)=some false)(kv:Wo K #[20] (.type "ValueError")=some true)(dy:pO P w K mg base "lowered" 6 ["machine","base","most"] [] (E8 C))(cE:pO P w K mg base "lowered" 6 ["machine","base","most"] [.int 200] (E8 C))(dw:abp P w K mg base "_law_others" 1 ["_law_e"] [] (aaR C))(av:mg "isinstance" = none)(fJ:mg "ValueError" = none):bc P w K mg base eB 7 f fd ["_law_machine","_law_base","_law_most"] aaT:=by
 refine F.ok cK #[6] #[1]
 ·obtain⟨⟨m,r,g,many,wn,p,most,rows,us,signs,rfl,_⟩,_⟩:=h
  rfl
 obtain⟨⟨m,r,g,many,wn,p,most,rows,us,signs,rfl,M,R,ls,m1,wp,mo,nd,re,lt⟩,k⟩:=h
 refine⟨_,(ag (az (i:=3) cK.nd (bw af))
   (ag (Rf (i:=4) cK.nd rfl rfl cO xm (wF (aaB (aE dE (pv 2) ah (aM _)) (wF (Bx (wG cE hr (aa #[98] #[44])))) (wF (Bx (wG dy hr (aa #[98] (aa #[92] #[57]))))))) (fun _=>(ao (az (i:=3) cK.nd (bw (aa (ay (fW K) #[26] av aD (aa (pv 4) (aa (de (v:=.ref _) rfl eU rfl) af))) (aa (ay (fW K) #[26] av aD (aa (pv 4) (aa (de (v:=.ref _) rfl dM rfl) af))) (aa (ay (fW K) #[26] av aD (aa (pv 4) (aa (iW (v:=.ty "ValueError") rfl fJ wY rfl) af))) (aa (adw dw hr.held #[88]) af)))))))))
   (ao (aH (pv 3))))),?_⟩
 exists 0
 refine⟨#[13],fun l0 h0=>?_⟩
 have s0:=ak h0 #[82]
 have M0:=M.same fun b xs e=>s0 _ _ e
 refine⟨_,rfl,rfl,_,rfl,mC (fun cc=>⟨_,rfl,_,rfl,m,r,g,many,wn,p,most,rows,signs,(by show [V.ref m,V.int (wn:Int),V.int 200]=[V.ref m,V.int (wn:Int),V.int (most:Int)];rw[cc]),M0,R,ls,m1,wp,mo,fun _ _ _ _ _ _ _ _ _ L le=>(Ij (many:=many) nd re lt L le).elim,fun d H1 _ s1 hd _ _ _=>⟨rfl,d,rfl,fun ea Sb=>?_⟩⟩)
  (fun _=>⟨_,rfl,_,rfl,_,rfl,m,r,g,many,wn,p,most,rows,signs,rfl,M0,R,ls,m1,wp,mo,fun _ _ _ _ _ _ _ _ _ L le=>(Ij (many:=many) nd re lt L le).elim,fun d H1 _ s1 hd _ _ _=>⟨rfl,d,rfl,fun ea Sb=>?_⟩⟩)⟩
 all_goals
  have sE:=s0.trans (s1.trans (ak Sb (HO.ext (Ae ea C d))))
  refine⟨_,rfl,ea,C,d,_,_,_,rfl,ae,c,rfl,kn,_,rfl,ea,C,d,_,_,_,rfl,ae,c,rfl,LC K _,_,rfl,ea,C,d,_,_,_,rfl,ae,c,rfl,kv,_,rfl,ea,d,rfl,ae,fun H2 s2=>?_⟩
  refine⟨#[65],fun l2 h2=>⟨_,rfl,?_⟩⟩
  exact k l2 _ (sE.trans (s2.trans (ak h2 _))) ae
theorem Y1(F:br K "_law_field" "_law_field" sd dV f fd)(xi:Cw K C f0)(na:Ws K #[20] "most" = some none)(dM:mg "TooGreat" = some #[20])(xm:YR K #[20] #[20]=some true)(dy:pO P w K mg base "lowered" 6 ["machine","base","most"] [] (E8 C))(cE:pO P w K mg base "lowered" 6 ["machine","base","most"] [.int 200] (E8 C))(di:bp P w K mg base "_law_is_row" 1 ["_law_found","_law_many","_law_bound"] [] EZ):bc P w K mg base eB 7 f fd ["_law_machine","_law_base","_law_most"] Rl:=by
 refine F.ok mf #[6] #[1]
 ·obtain⟨⟨m,r,g,many,wn,p,most,rows,us,signs,rfl,_⟩,_⟩:=h
  rfl
 obtain⟨⟨m,r,g,many,wn,p,most,rows,us,signs,rfl,M,R,ls,m1,wp,mo,nd,re,lt⟩,k⟩:=h
 refine⟨_,(ag (az (i:=3) mf.nd ah)
   (ag (Rf (i:=4) mf.nd rfl rfl dM xm (wF (aaB (aE dE (pv 2) ah (aM _)) (wF (Bx (wG cE hr (aa #[98] #[44])))) (wF (Bx (wG dy hr (aa #[98] (aa #[92] #[57]))))))) (fun _=>(ao (az (i:=3) mf.nd (acy K (pv 4))))))
   (ao (aH (EF (aW di hr (aa (eL #[79]) (aa ah (aa (aC bu (pv 2) ah) af)))) (EG (pz dE (pv 3) (pv 2) (aM _)))))))),?_⟩
 exists 0
 refine⟨_,rfl,rfl,_,rfl,mC (fun cc=>⟨_,rfl,_,rfl,m,r,g,many,wn,p,most,rows,signs,(by show [V.ref m,V.int (wn:Int),V.int 200]=[V.ref m,V.int (wn:Int),V.int (most:Int)];rw[cc]),M,R,ls,m1,wp,mo,fun _ _ _ _ _ _ _ _ _ L le=>(Ij (many:=many) nd re lt L le).elim,fun d H1 _ s1 hd _ _ _=>⟨rfl,d,rfl,fun ea Sb=>?_⟩⟩)
  (fun _=>⟨_,rfl,_,rfl,_,rfl,m,r,g,many,wn,p,most,rows,signs,rfl,M,R,ls,m1,wp,mo,fun _ _ _ _ _ _ _ _ _ L le=>(Ij (many:=many) nd re lt L le).elim,fun d H1 _ s1 hd _ _ _=>⟨rfl,d,rfl,fun ea Sb=>?_⟩⟩)⟩
 all_goals
  have sE:=s1.trans (ak Sb (HO.ext (Ae ea C d)))
  have hd1:(upd H1 ea (HO.ext (Ae ea C d))) d=some (.xd [("most",.int most)]):=by rw[aj (aq hd Sb)];exact hd
  exists _,rfl,ea,C,d,f0,_,_,rfl,ae,hd1,xi,na,rfl
  exists 1
  refine⟨_,rfl,#[45],fun T hT=>?_⟩
  have s5:=ak hT (HO.tup [.int most])
  refine⟨_,rfl,_,_,rfl,rfl,T,1,_,[(most:Int)],rfl,ae,rfl,(fun z hz=>by rw[jK.mp hz];omega),_,rfl,Be ⟨_,rfl,_,rfl,rfl,?_⟩⟩
  rw[decide_eq_true rfl]
  exact k _ (sE.trans s5)
end
structure Rho(w p:Nat)(rows aw:LL)(signs aK:LI)(ρ:LI->Int):Prop where
 inn:∀ u,Rg #[49] [0,0,0] w u->0<=ρ u/\ρ u<(aw.length:Int)
 sg:∀ u,Rg #[49] [0,0,0] w u->sgn aK (ρ u)=lowG rows signs u
 st:∀ u (f:Nat),Rg #[49] [0,0,0] w u->f<w->stepI aw (ρ u) (f:Int)=ρ (eA w p rows u f)
 z:ρ [0,0,0]=0
theorem mj.oY{w k:Nat}{signs:LI}(h:mj w p rows signs aw aK k):∃ ρ,Rho w p rows aw signs aK ρ:=by
 obtain⟨ps,sM,G,el,LO,en⟩:=h.ex
 have wi:∀ v,mi w v->0<=aY aw v 0/\aY aw v 0<(aw.length:Int):=fun v hv=>dH LO.ok hv #[0] (by have:=LO.pos;omega)
 have key:∀ v v',mi w v->mi w v'->Bv #[49] [0,0,0] v=Bv #[49] [0,0,0] v'->aY aw v 0=aY aw v' 0:=fun v v' hv MU e=>by
  obtain⟨j,h1,h2⟩:=G.told el hv
  obtain⟨j',Ef,Dh⟩:=G.told el MU
  rw[e]at h2
  obtain⟨a1,a2⟩:=iH h2
  obtain⟨b1,b2⟩:=iH Dh
  have ej:j=j' := (JK G.nd).mp (a2.trans b2.symm)
  have ta:=Tells.on LO.tells hv
  have tb:=Tells.on LO.tells MU
  rw[h1,ej,<- Ef]at ta
  exact LO.apart _ _ (wi v hv) (wi v' MU) (Tells.right ta tb)
 have ex:∀ u:LI,∃ r:Int,∀ v,mi w v->Bv #[49] [0,0,0] v=u->aY aw v 0=r:=fun u=>by
  by_cases c:∃ v,mi w v/\Bv #[49] [0,0,0] v=u
  ·obtain⟨v,hv,e⟩:=c
   exact⟨aY aw v 0,fun v' MU e'=>key v' v MU hv (e'.trans e.symm)⟩
  ·exact⟨0,fun v hv e=>absurd ⟨v,hv,e⟩ c⟩
 obtain⟨ρ,hρ⟩:=Classical.axiomOfChoice ex
 have at_:∀ v,mi w v->ρ (Bv #[49] [0,0,0] v)=aY aw v 0:=fun v hv=>(hρ _ v hv rfl).symm
 refine⟨ρ,fun u ⟨v,hv,e⟩=>?_,fun u ⟨v,hv,e⟩=>?_,fun u f ⟨v,hv,e⟩ hf=>?_,?_⟩
 ·rw[<- e,at_ v hv];exact wi v hv
 ·rw[<- e,at_ v hv];exact h.told hv
 ·have MU:mi w (v++[(f:Int)]):=fun g hg=>by
   rcases Bn.mp hg with z|z
   ·exact hv g z
   ·rw[jK.mp z];omega
  have:=at_ _ MU
  rw[rh,jA,rA]at this
  rw[<- e,this,at_ v hv]
 ·exact at_ [] fun f hf=>by cases hf
def I9(ρ:LI->Int)(ms:LL):List #[59]:=ms.map fun p=>(iG p,V.int (ρ p))
section
variable{ρ:LI->Int}
theorem ab5(ms:LL):(I9 ρ ms).length=ms.length:=jX _
theorem Ep:∀ {ms:LL} {u:LI},u∉ms->fq (I9 ρ ms) (iG u)=none
 | [],_,_=>rfl
 | p :: ms,u,h=>by
  rw[show I9 ρ (p :: ms)=(iG p,V.int (ρ p)) :: I9 ρ ms from rfl,ft (fun z=>h (by rw[<- Bi z];exact jD))]
  exact Ep fun z=>h (jI _ z)
theorem Bk:∀ {ms:LL} {u:LI},u∈ms->fq (I9 ρ ms) (iG u)=some (.int (ρ u))
 | p :: ms,u,h=>by
  by_cases e:p=u
  ·subst e;exact mJ rfl
  ·rw[show I9 ρ (p :: ms)=(iG p,V.int (ρ p)) :: I9 ρ ms from rfl,ft (fun z=>e (Bi z))]
   exact Bk ((jY.mp h).resolve_left (Ne.symm e))
theorem ab6(h:u∉ms):putK (I9 ρ ms) (iG u) (V.int (ρ u))=I9 ρ (ms++[u]):=by
 rw[Mg _ (Ep h)]
 unfold I9
 rw[jF]
 rfl
end
structure Bf(st:LI->Nat->LI)(b0:LI)(N:Nat)(ms:LL)(at_:Nat):Prop where
 nd:ms.Nodup
 re:∀ p∈ms,Rg st b0 N p
 z:b0∈ms
 cl:∀ (i:Nat) (u:LI),i<at_->ms[i]?=some u->∀ f:Nat,f<N->st u f∈ms
structure Bg(st:LI->Nat->LI)(b0:LI)(N:Nat)(ms:LL)(at_:Nat)(u:LI)(j:Nat):Prop extends Bf st b0 N ms at_ where
 cur:ms[at_]?=some u
 now:∀ f:Nat,f<j->st u f∈ms
section
variable{st:LI->Nat->LI}{N at_:Nat}
theorem Bg.old(h:Bg st b0 N ms at_ u j)(o:st u j∈ms):Bg st b0 N ms at_ u (j+1):=
 ⟨⟨h.nd,h.re,h.z,h.cl⟩,h.cur,fun f hf=>by
  by_cases e:f=j
  ·rw[e];exact o
  ·exact h.now f #[0]⟩
theorem abK{x:LI}(h:ms[i]?=some v):(ms++[x])[i]?=some v:=by
 rw[jr (iH h).1]
 exact h
theorem Bg.new(h:Bg st b0 N ms at_ u j)(hj:j<N)(o:st u j∉ms):Bg st b0 N (ms++[st u j]) at_ u (j+1):=by
 have al:=(iH h.cur).1
 refine⟨⟨?_,fun q hq=>?_,jn _ h.z,fun i v hi hv f hf=>?_⟩,abK h.cur,fun f hf=>?_⟩
 ·exact JQ.mpr ⟨h.nd,ZS _ _,fun a ha c hc=>by rw[jK.mp hc];intro z;exact o (z ▸ ha)⟩
 ·rcases Bn.mp hq with y|y
  ·exact h.re q y
  ·rw[jK.mp y];exact(h.re u (pZ h.cur)).step hj
 ·rw[jr #[0]]at hv
  exact jn _ (h.cl i v hi hv f hf)
 ·by_cases e:f=j
  ·rw[e];exact jZ _ jD
  ·exact jn _ (h.now f #[0])
theorem Bg.done(h:Bg st b0 N ms at_ u N):Bf st b0 N ms (at_+1):=
 ⟨h.nd,h.re,h.z,fun i v hi hv f hf=>by
  by_cases e:i=at_
  ·rw[e,h.cur]at hv
   rw[<- Option.some.inj hv]
   exact h.now f hf
  ·exact h.cl i v #[0] hv f hf⟩
end
inductive adE (vs:List V) (H:Hp) (Q:VK) (E:XK):Prop
 | mk (m r g m' r' g':QQ) (many w p k:Nat) (rows aw:LL) (signs aK:LI) (_:vs=[.ref m,.ref m',.int p]) (_:bA H m r g (w^p) rows signs) (_:aI many (w^p) rows) (_:signs.length=many) (_:1<=many) (_:(2<=w/\1<=p/\p<=100/\w^p<=1000)) (_:many*w^p<=400) (_:bA H m' r' g' w aw aK) (_:mj w p rows signs aw aK k) (_:∀ (ms:LL) (H':Hp),aB H H'->ms.Nodup->(∀ u,u∈ms↔Rg #[49] [0,0,0] w u)->Q #[78] H')
section
theorem bL:aJ ["_law_machine","_law_found","_law_many","_law_wide","_law_rows","_law_signs_here","_law_base","_law_rooms","_law_places","_law_at","_law_here","_law_size","_law_low","_law_r","_law_f","_law_place"] ["_law_machine","_law_found","_law_many"] (ar Av):=cS #[3]
theorem aeW(F:br K "_law_met" "_law_met" Av dV f fd)(dW:bp P w K mg base "_law_product" 1 ["_law_wide","_law_many"] [] Cr)(aZ:mg "len" = none)(aL:mg "range" = none):bc P w K mg base eB 2 f fd ["_law_machine","_law_found","_law_many"] adE:=by
 refine F.ok bL #[6] #[1]
 ·obtain⟨m,r,g,m',r',g',many,wn,p,kk,rows,aw,signs,aK,rfl,_⟩:=h
  rfl
 obtain⟨m,r,g,m',r',g',many,wn,p,kk,rows,aw,signs,aK,rfl,M,R,ls,m1,⟨w2,p1,aq5,wp⟩,m4,M',L,k⟩:=h
 obtain⟨ρ,RH⟩:=L.oY
 obtain⟨_,_,_,_,LO,_⟩:=L.ex
 obtain⟨dC,hr0,hA⟩:=M.rows
 obtain⟨wU,ahE,hA'⟩:=M'.rows
 have hu:=pX hr
 have okU:∀ {u:LI},Rg #[101] [0,0,0] wn u->AG many wn p u:=fun h=>Rg.all (φ:=AG many wn p) (Bl m1 p1) (fun u o f hf=>Ew R p1 o hf) h
 have AW:∀ {ms:LL},ms.Nodup->(∀ u∈ms,Rg #[101] [0,0,0] wn u)->ms.length<=400:=fun nd re=>jf (Q5 w2 nd fun u hu=>okU (re u hu)) m4
 have wle:wn<=1000:=by
  have:=oJ (l:=1) (show 1<=wn by omega) wp p1
  rw[Jr]at this
  exact this
 refine B1 (aU (mK.mk (As #[98] (pK rfl (bx (aS (i:=3) bL.nd) (bx (aS (i:=4) bL.nd) (bx (aS (i:=5) bL.nd) iX))))))
   (aU (mK.mk (az (i:=6) bL.nd #[39]))
   (aU (mK.mk (az (i:=7) bL.nd (Mb hu (EK (eL (aa ah (aa ah #[80]))) ah Iy))))
   (aU (mK.mk (az (i:=8) bL.nd (bw (aa (eL (aa ah (aa ah #[80]))) af))))
   (aU (mK.mk (az (i:=9) bL.nd ah))
   (aU (ac8 PassesOwn.never (PTW.mk (aE Ac (pv 9) (ay aN #[26] aZ ck (aa (pv 8) af)) (aM _))) (aU (mK.mk (As (aF cF (pv 8) (pv 9) #[4]) (pK rfl (bx (aS (i:=10) bL.nd) (bx (aS (i:=11) bL.nd) (bx (aS (i:=12) bL.nd) iX))))))
   (aU (mK.mk (az (i:=13) bL.nd (Dq hu (pv 7) (aF cF (pv 8) (pv 9) #[4]) #[4])))
   (aU (mK.mk (bK (aE CJ (aF aG #[39] (pv 13) #[4]) (aF aG (pv 5) (aF aG (aF aG (pv 4) (pv 10) #[4]) (pv 12) #[4]) #[4]) (aM _)) (ao (aH ah)) aR))
   (aU (aiQ PassesOwn.never rfl (bG rfl aL (aa (pv 6) af)) (aS (i:=14) bL.nd) (aU (RJ (i:=15) bL.nd rfl (Or.inl rfl) (RK (bH (oX.mk (pv 10)) (bH (oX.mk (aC bu (pv 11) ah)) (bH (oX.mk (aC bu (pv 12) (aC eJ (pv 14) (aW dW hr (aa (pv 6) (aa (pv 11) af)))))) AA)))))
   (aU (amM (PTW.mk (aE dE (aC bu (pv 11) ah) (pv 2) (aM _))) (sx (RJ (i:=15) bL.nd rfl (Or.inl rfl) (RK (bH (oX.mk (aF aG (aF aG (pv 4) (pv 10) #[4]) (aF aG (pv 15) ah #[4]) #[4])) (bH (oX.mk ah) (bH (oX.mk ah) AA)))))) afH)
   (aU (mK.mk (bK (Iz (Ci hu (pv 15) (pv 7)) #[71]) (ag (wC hu (pv 7) (pv 15) (aF aG (aF aG #[39] (pv 13) #[4]) (pv 14) #[4]) rfl)
   (ao (bD (fO Wn Wq Wr bJ (pv 8) (aa (pv 15) af))))) aR))
   (sx (mK.mk (bK (aE CJ (Dq hu (pv 7) (pv 15) #[4]) (aF aG (aF aG #[39] (pv 13) #[4]) (pv 14) #[4]) (aM _)) (ao (aH ah)) aR)))))))
   (sx (mK.mk (az (i:=9) bL.nd (aC bu (pv 9) ah)))))))))
   (sx (mK.mk (aH (ay aN #[26] aZ ck (aa (pv 8) af))))))))))) ?_
 exists 0
 exists _,rfl,m,_,rfl,bS M.tup,rfl,_,_,rfl,_,_,rfl,_,_,rfl,rfl
 exists _,rfl,m',_,_,_,rfl,rfl,bS M'.tup,rfl
 refine fun D hD=>?_
 have sD:=ak hD (HO.dT [])
 refine⟨#[17],fun t0 ht0=>⟨by rw[aj (aq ae ht0)];exact ae,t0,iG [0,0,0],.int 0,rfl,by rw[pG,ae];rfl,?_⟩⟩
 obtain⟨H1,Tq⟩:∃ H1,upd (upd (upd H D (HO.dT [])) t0 (HO.tup [V.int 0,V.int 0,V.int 0])) D (HO.dT [(iG [0,0,0],V.int 0)])=H1:=⟨_,rfl⟩
 have s1:aB H H1:=by rw[<- Tq];exact ax (sD.trans (ak ht0 _)) hD
 have F7:H1 D=some (.dT (I9 ρ [[0,0,0]])):=by
  rw[<- Tq,ae]
  show _=some (HO.dT [(iG [0,0,0],V.int (ρ [0,0,0]))])
  rw[RH.z]
 rw[Tq]
 refine⟨#[17],fun t1 ht1=>⟨#[45],fun L0 hL=>?_⟩⟩
 obtain⟨H2,CA⟩:∃ H2,upd (upd H1 t1 (HO.tup [V.int 0,V.int 0,V.int 0])) L0 (HO.lst [V.ref t1])=H2:=⟨_,rfl⟩
 have J0:aB H1 H2:=by rw[<- CA];exact(ak ht1 _).trans (ak hL _)
 have s2:=s1.trans J0
 have T8:=J0 _ _ F7
 have hL2:H2 L0=some (.lst ([t1].map V.ref)):=by rw[<- CA,ae];rfl
 have ht2:H2 t1=some (.tup ([(0:Int),0,0].map V.int)):=by rw[<- CA,aj (aq ae hL),ae];rfl
 have fL:H L0=none:=s1.free ((ak ht1 _).free hL)
 have nDL:D≠L0:=aq (a:=D) (show(upd H1 t1 (HO.tup [V.int 0,V.int 0,V.int 0])) D=_ by rw[aj (aq F7 ht1)];exact F7) hL
 rw[CA]
 have st0:Bf #[101] [0,0,0] wn [[0,0,0]] 0:=⟨ZS _ _,fun p h=>by rw[jK.mp h];exact Rg.start,jD,fun i u h=>by omega⟩
 clear Tq CA F7 ht0 ht1
 exists 1
 refine cU (t:=wV _ _) (fun σ' H'=>σ'=[some #[58],some (.ref m'),some (.int p),some #[99],some #[106],some (.ref g),some (.int wn),some #[66],some (.ref L0),some (.int 0),none,none,none,none,none,none]/\H'=H2) ?_ (fun D' dq=>dq _ _ ⟨rfl,rfl⟩)
 rintro σ' H' ⟨rfl,rfl⟩
 refine cU (t:=mW _ _) (fun σ' H'=>∃ (ms:LL) (as:List QQ) (v9 v10 v11 wK v13 MV MW:OV),σ'=[some #[58],some (.ref m'),some (.int p),some #[99],some #[106],some (.ref g),some (.int wn),some #[66],some (.ref L0),v9,v10,v11,wK,v13,MV,MW]/\aB H H'/\H' L0=some #[35]/\as.length=ms.length/\Bf #[101] [0,0,0] wn ms ms.length) ?_ #[30]
 exists 16
 ·refine oB (fun mm σ' H'=>∃ (ms:LL) (as:List QQ) (at_:Nat) (v10 v11 wK v13 MV MW:OV),mm=1000-at_/\at_<=ms.length/\σ'=[some #[58],some (.ref m'),some (.int p),some #[99],some #[106],some (.ref g),some (.int wn),some #[66],some (.ref L0),some (.int at_),v10,v11,wK,v13,MV,MW]/\aB H H'/\H' D=some (.dT (I9 ρ ms))/\H' L0=some #[35]/\aP H' as ms/\Bf #[101] [0,0,0] wn ms at_)
   ⟨_,[[0,0,0]],[t1],0,none,none,none,none,none,none,rfl,by decide,rfl,s2,T8,hL2,.cons ht2 .nil,st0⟩ ?_
  rintro mm σ' H3 ⟨ms,as,at_,v10,v11,wK,v13,MV,MW,rfl,al,rfl,s3,C7,wy,A3,B⟩
  have la:=A3.length
  have fm:=AW B.nd B.re
  refine⟨_,rfl,_,rfl,L0,_,rfl,.inl (bV wy),_,_,rfl,rfl,_,rfl,ou #[29] #[29]⟩
  ·rw[bq,la]at c
   have al':at_<ms.length:=by omega
   obtain⟨ta,e1,e2⟩:=A3.get al'
   obtain⟨u,eu⟩:∃ u,ms[at_]=u:=⟨_,rfl⟩
   have hu':ms[at_]?=some u:=by rw[jB al',eu]
   have um:u∈ms:=pZ hu'
   have ru:=B.re u um
   obtain⟨h,l,n,euu,h1,l1,n1⟩:=okU ru
   rw[eu]at e2
   have eix:wO (as.map V.ref) (at_:Int)=some (.ref ta):=pf (by rw[jN,e1];rfl)
   have e3:H3 ta=some (.tup [.int (h:Int),.int (l:Int),.int (n:Int)]):=by rw[e2,euu];rfl
   have dg:ik H3 D (.ref ta) (some (.int (ρ u))):=by
    have z:=ik.t (k:=iG u) C7 (b:=ta) (by rw[pG];exact e2)
    rw[Bk um]at z
    exact z
   have M3:=M.same fun b xs e=>s3 _ _ e
   have M3' := M'.same fun b xs e=>s3 _ _ e
   have ri:=RH.inn u ru
   have nlt:n<wn^p:=jW n1 (ju #[0] #[0])
   obtain⟨rb,rr,a1,a2,a3⟩:=fX (f:=(n:Int)) (hA.same fun b xs e=>s3 _ _ e) R (show(0:Int)<=(h:Int) by omega) #[0] #[0] #[0]
   have sI:=cA R (h:=(h:Int)) (f:=(n:Int)) #[0] #[0] #[0] #[0]
   refine⟨fun σ' H'=>∃ m2,m2<1000-at_/\∃ (ms:LL) (as:List QQ) (at_:Nat) (v10 v11 wK v13 MV MW:OV),m2=1000-at_/\at_<=ms.length/\σ'=[some #[58],some (.ref m'),some (.int p),some #[99],some #[106],some (.ref g),some (.int wn),some #[66],some (.ref L0),some (.int at_),v10,v11,wK,v13,MV,MW]/\aB H H'/\H' D=some (.dT (I9 ρ ms))/\H' L0=some #[35]/\aP H' as ms/\Bf #[101] [0,0,0] wn ms at_,fun _ _ h=>h,?_⟩
   exists _,rfl,_,rfl,L0,_,_,_,rfl,rfl,bV wy,eix,ta,_,rfl,bS e3,rfl,_,_,rfl,_,_,rfl,_,_,rfl,rfl
   exists _,rfl,_,rfl,_,rfl,L0,_,_,_,rfl,rfl,bV wy,eix,D,_,rfl,dg
   exists 1
   have sgE:aK.getD (ρ u).toNat 0=signs.getD (stepI rows (h:Int) (n:Int)).toNat 0:=by
    have:=RH.sg u ru
    rw[euu]at this
    rw[euu]
    exact this
   refine⟨_,rfl,m',_,_,_,rfl,rfl,bS M3'.tup,rfl,_,rfl,g',_,_,_,rfl,rfl,bS M3'.sgn,cj ri.1 (by rw[LO.sgn];exact ri.2),_,rfl,_,rfl,_,rfl,r,_,_,_,rfl,rfl,bS (s3 _ _ hr0),a1,_,rfl,rb,_,_,_,rfl,rfl,bS a2,a3,g,_,_,_,rfl,rfl,bS M3.sgn,cj sI.1 #[0],rfl,_,rfl,sJ (fun z=>absurd (congrArg V.int sgE) z) #[87]⟩
   exists 1
   refine cU (t:=sU _ _ _) (fun σ' H'=>∃ (OI:LL) (Tp:List QQ) (MV MW:OV),σ'=[some #[58],some (.ref m'),some (.int p),some #[99],some #[106],some (.ref g),some (.int wn),some #[66],some (.ref L0),some (.int at_),some (.int h),some (.int l),some (.int n),some (.int (ρ u)),MV,MW]/\aB H H'/\H' D=some (.dT (I9 ρ OI))/\H' L0=some (.lst (Tp.map V.ref))/\aP H' Tp OI/\Bg #[101] [0,0,0] wn OI at_ u wn) ?_ (fun D2 al1=>?_)
   ·rintro σ' H5 ⟨OI,Tp,MV,MW,rfl,s5,hD5,Om,A5,B5⟩
    have al5:=(iH B5.cur).1
    exact⟨_,rfl,_,_,rfl,rfl,1000-(at_+1),by omega,OI,Tp,at_+1,_,_,_,_,MV,MW,rfl,by omega,rfl,s5,hD5,Om,A5,B5.done⟩
   ·refine⟨_,rfl,(wn:Int),rfl,by omega,by omega,cH (fun j σ' H'=>∃ (OI:LL) (Tp:List QQ) (MV MW:OV),σ'=[some #[58],some (.ref m'),some (.int p),some #[99],some #[106],some (.ref g),some (.int wn),some #[66],some (.ref L0),some (.int at_),some (.int h),some (.int l),some (.int n),some (.int (ρ u)),MV,MW]/\aB H H'/\H' D=some (.dT (I9 ρ OI))/\H' L0=some (.lst (Tp.map V.ref))/\aP H' Tp OI/\Bg #[101] [0,0,0] wn OI at_ u j)
     ⟨ms,as,MV,MW,rfl,s3,C7,wy,A3,⟨B,hu',fun f hf=>by omega⟩⟩ ?_ (fun σ' H' h=>al1 _ _ (by rw[jA]at h;exact h))⟩
    rintro j σ' H5 hj ⟨OI,Tp,MV,MW,rfl,s5,hD5,Om,A5,B5⟩
    rw[jA]at hj
    have zi:(0:Int)+(j:Int)=(j:Int):=JO _
    rw[zi]
    have wl:=oJ (l:=l) (show 1<=wn by omega) wp #[0]
    have eN:(n:Int)+(j:Int)*((wn^l:Nat):Int)=((n+wn^l*j:Nat):Int):=by push_cast;rw[zP]
    have lt:=OC n1 hj
    obtain⟨x,ex⟩:∃ x,eA wn p rows u j=x:=⟨_,rfl⟩
    exists 1
    refine cU (t:=wV _ _) (fun σ' H'=>∃ T0:QQ,σ'=[some #[58],some (.ref m'),some (.int p),some #[99],some #[106],some (.ref g),some (.int wn),some #[66],some (.ref L0),some (.int at_),some (.int h),some (.int l),some (.int n),some (.int (ρ u)),some (.int j),some (.ref T0)]/\aB H5 H'/\H' T0=some (.tup [.int h,.int ((l+1:Nat):Int),.int ((n+wn^l*j:Nat):Int)])) ?_ (fun D3 OO=>?_)
    exists 16
    ·refine⟨_,rfl,_,rfl,_,_,rfl,rfl,_,rfl,_,rfl,_,rfl,_,rfl,wn,l,rfl,by omega,by omega,wl,_,_,rfl,rfl,.inr ⟨by omega,by omega⟩,_,_,rfl,rfl,#[17],fun T0 hT0=>?_⟩
     refine OO _ _ ⟨T0,rfl,ak hT0 _,?_⟩
     rw[ae,<- eN]
     rfl
    rintro σ' H6 ⟨T0,rfl,s6,hT0⟩
    exists 1
    refine cU (t:=BG _ _ _) (fun σ' H'=>∃ T:QQ,σ'=[some #[58],some (.ref m'),some (.int p),some #[99],some #[106],some (.ref g),some (.int wn),some #[66],some (.ref L0),some (.int at_),some (.int h),some (.int l),some (.int n),some (.int (ρ u)),some (.int j),some (.ref T)]/\aB H5 H'/\H' T=some (.tup (x.map V.int))) ?_ (fun D3 OO=>?_)
    exists 16
    ·refine⟨_,rfl,_,_,rfl,rfl,_,rfl,rfl,_,rfl,mC #[29] #[29]⟩
     ·have e:l+1=p:=by omega
      rw[e]at lt
      obtain⟨ra2,rr2,b1,b2,b3⟩:=fX (f:=((n+wn^l*j:Nat):Int)) (hA.same fun b xs e=>s6 _ _ (s5 _ _ e)) R (show(0:Int)<=(h:Int) by omega) #[0] #[0] #[0]
      refine⟨_,rfl,_,rfl,r,_,_,_,rfl,rfl,bS (s6 _ _ (s5 _ _ hr0)),b1,_,rfl,T0,_,_,_,rfl,rfl,bS hT0,rfl,ra2,_,_,_,rfl,rfl,bS b2,b3,#[17],fun T hT=>?_⟩
      refine OO _ _ ⟨T,rfl,s6.trans (ak hT _),?_⟩
      rw[ae,<- ex,euu,tM e]
      rfl
     ·have e:l+1≠p:=by omega
      refine OO _ _ ⟨T0,rfl,s6,?_⟩
      rw[hT0,<- ex,euu,tN e]
      rfl
    clear hT0 s6 H6
    rintro σ' H6 ⟨T,rfl,s6,hT'⟩
    have hD6:=s6 _ _ hD5
    have hL6:=s6 _ _ Om
    have l5:=AW B5.nd B5.re
    have la5:=A5.length
    have um5:=pZ B5.cur
    have rx:Rg #[101] [0,0,0] wn x:=by rw[<- ex];exact(B5.re u um5).step hj
    have eρ:stepI aw (ρ u) (j:Int)=ρ x:=by rw[RH.st u j ru hj,ex]
    exists 1
    refine cU (t:=BG _ _ _) (fun σ' H'=>∃ (ms3:LL) (as3:List QQ),σ'=[some #[58],some (.ref m'),some (.int p),some #[99],some #[106],some (.ref g),some (.int wn),some #[66],some (.ref L0),some (.int at_),some (.int h),some (.int l),some (.int n),some (.int (ρ u)),some (.int j),some (.ref T)]/\aB H H'/\H' T=some (.tup (x.map V.int))/\H' D=some (.dT (I9 ρ ms3))/\H' L0=some (.lst (as3.map V.ref))/\aP H' as3 ms3/\x∈ms3/\Bg #[101] [0,0,0] wn ms3 at_ u (j+1)) ?_ (fun D3 OO=>?_)
    exists 16
    ·have z:=ik.t (k:=iG x) hD6 (b:=T) (by rw[pG];exact hT')
     by_cases c:x∈OI
     ·rw[Bk c]at z
      refine⟨_,rfl,_,rfl,D,_,rfl,z,_,rfl,ff ?_⟩
      exact OO _ _ ⟨OI,Tp,rfl,s5.trans s6,hT',hD6,hL6,A5.same (fun b xs e=>s6 _ _ e),c,B5.old (by rw[ex];exact c)⟩
     ·rw[Ep c]at z
      refine⟨_,rfl,_,rfl,D,_,rfl,z,_,rfl,Be ?_⟩
      have B7:=B5.new hj (by rw[ex];exact c)
      rw[ex]at B7
      have M6' := M'.same fun b xs e=>s6 _ _ (s5 _ _ e)
      obtain⟨rc,rr3,c1,c2,c3⟩:=fX (f:=(j:Int)) (hA'.same fun b xs e=>s6 _ _ (s5 _ _ e)) LO.ok ri.1 ri.2 #[0] #[0]
      rw[eρ]at c3
      refine⟨_,rfl,m',_,_,_,rfl,rfl,bS M6'.tup,rfl,_,rfl,r',_,_,_,rfl,rfl,bS (s6 _ _ (s5 _ _ ahE)),c1,_,rfl,rc,_,_,_,rfl,rfl,bS c2,c3,_,rfl,_,rfl,D,_,rfl,CQ.t (k:=iG x) hD6 (by rw[pG];exact hT') (aA (by rw[ab5];omega)),?_⟩
      rw[ab6 c]
      have hL7:(upd H6 D (HO.dT (I9 ρ (OI++[x])))) L0=some (.lst (Tp.map V.ref)):=by rw[aj (Ne.symm nDL)];exact hL6
      refine⟨_,rfl,.inl ⟨rfl,_,bV hL7⟩,_,rfl,L0,_,_,rfl,rfl,hL7,aA #[31],?_⟩
      have up:∀ a xs,H6 a=some #[40]->(upd (upd H6 D (HO.dT (I9 ρ (OI++[x])))) L0 (HO.lst (Tp.map V.ref++[V.ref T]))) a=some #[40]:=fun a xs e=>by
       rw[aj (aQ e hL6 #[2]),aj (aQ e hD6 #[2])]
       exact e
      exact OO _ _ ⟨OI++[x],Tp++[T],rfl,ax (ax (s5.trans s6) hD) fL,up _ _ hT',by rw[aj nDL,ae],by rw[ae,jF];rfl,aP.snoc (A5.same fun a xs e=>up _ _ (s6 _ _ e)) (up _ _ hT'),jZ _ jD,B7⟩
    rintro σ' H8 ⟨ms3,as3,rfl,s8,hT8,hD8,hL8,A8,xm,B8⟩
    have z:=ik.t (k:=iG x) hD8 (b:=T) (by rw[pG];exact hT8)
    rw[Bk xm]at z
    have M8' := M'.same fun b xs e=>s8 _ _ e
    obtain⟨rc,rr3,c1,c2,c3⟩:=fX (f:=(j:Int)) (hA'.same fun b xs e=>s8 _ _ e) LO.ok ri.1 ri.2 #[0] #[0]
    rw[eρ]at c3
    refine⟨_,rfl,_,rfl,D,_,rfl,z,_,rfl,m',_,_,_,rfl,rfl,bS M8'.tup,rfl,_,rfl,r',_,_,_,rfl,rfl,bS (s8 _ _ ahE),c1,_,rfl,rc,_,_,_,rfl,rfl,bS c2,c3,rfl,_,rfl,sJ (fun c=>absurd rfl c) #[87]⟩
    exact⟨ms3,as3,_,_,rfl,s8,hD8,hL8,A8,B8⟩
  ·rw[bq,la]at c
   have e:at_=ms.length:=by omega
   subst e
   exact dq _ _ ⟨ms,as,_,v10,v11,wK,v13,MV,MW,rfl,s3,wy,la,B⟩
 rintro σ' H3 ⟨ms,as,v9,v10,v11,wK,v13,MV,MW,rfl,s3,wy,la,B⟩
 exists _,rfl,L0,_,rfl,.inl (bV wy)
 rw[bq,la]
 refine k ms H3 s3 B.nd fun u=>⟨B.re u,Rg.all (φ:=fun q=>q∈ms) B.z fun q hq=>?_⟩
 obtain⟨i,hi⟩:=List.getElem?_of_mem hq
 exact B.cl i q (iH hi).1 hi
end
theorem abx{j:Int}{p:V->Prop}(j0:0<=j)(j1:j<(xs.length:Int))(h:∀ y∈xs,p y):∃ y,wO xs j=some y/\p y:=by
 have hj:j.toNat<xs.length:=by omega
 have ej:j=((j.toNat:Nat):Int):=by omega
 refine⟨xs[j.toNat],?_,h _ (jH hj)⟩
 have q:wO xs ((j.toNat:Nat):Int)=some xs[j.toNat]:=pf (jB hj)
 rw[<- ej]at q
 exact q
def NoB(wide:Nat)(y:V):Prop := ∀ b p:Nat,y=.int b->2<=b->1<=p->wide≠b^p
theorem wA(h:z<2\/(wide:Int)<z):NoB wide (.int z):=fun b p e b2 p1 ew=>by
 have ez:z=(b:Int):=V.int.inj e
 have:=ju (n:=b) #[0] p1
 rw[Jr]at this
 omega
inductive MD (vs:List V) (H:Hp) (Q:VK) (E:XK):Prop
 | mk (n Oi:Int) (wide:Nat) (_:vs=[.int n,.int wide,.int Oi]) (_:(2<=wide/\wide<=1000)) (_:0<=Oi) (_:∀ (y:V) (H':Hp),aB H H'->Pl H' y->NoB wide y->Q y H')
inductive Ru (K:Wl) (vs:List V) (H:Hp) (Q:VK) (E:XK):Prop
 | mk (a m:QQ) (r g:V) (wide:Nat) (ns:LI) (_:vs=[.ref a,.ref m]) (_:tf K H a ns) (_:730<=ns.length) (_:H m=some (.tup [.int wide,r,g])) (_:(2<=wide/\wide<=1000)) (_:∀ H':Hp,aB H H'->Q (.bl true) H')
section
theorem sN:aJ ["_law_number","_law_wide","_law_far","_law_things"] ["_law_number","_law_wide","_law_far"] (ar oU):=cS #[3]
theorem cf:aJ ["_law_spread_here","_law_machine","_law_wide","_law_far","_law_bad","_law_base","_law_power_of_base"] ["_law_spread_here","_law_machine"] (ar lZ):=cS #[3]
theorem SD(F:br K "_law_no_base" "_law_no_base" oU dV f fd)(abd:mg "str" = none):bc P w K mg base eB 1 f fd ["_law_number","_law_wide","_law_far"] MD:=by
 refine F.ok sN #[6] #[1]
 ·obtain⟨n,Oi,wide,rfl,_⟩:=h
  rfl
 obtain⟨n,Oi,wide,rfl,⟨w2,w3⟩,f0,k⟩:=h
 have ww:=OL (a:=(wide:Int)) (b:=(wide:Int)) (m:=1000) (n:=1000) #[0] #[0] #[0] #[0]
 have ww2:(wide:Int)<(wide:Int)*(wide:Int):=by
  have:=zy (show(2:Int)<=(wide:Int) by omega) (show(0:Int)<=(wide:Int) by omega)
  omega
 refine B1 (aU (RJ (i:=3) sN.nd rfl (Or.inl rfl) (adM (bH (oX.mk ah) (bH (oX.mk ah) (bH (oX.mk (aC EC ah #[92])) (bH (oX.mk cq) (bH (oX.mk cq) (bH (oX.mk tR) (bH (oX.mk (bj HU #[26] abd ad4 #[44])) (bH (oX.mk (eL #[80])) (bH (oX.mk (bw #[44])) (bH (oX.mk #[103]) (bH (oX.mk (aC eJ #[92] #[92])) (bH (oX.mk (aC bu #[103] (pv 2))) AA))))))))))))))
   (sx (mK.mk (aH (aF cF (pv 3) (aC bR #[98] ah) #[4]))))) ?_
 exists 0
 refine⟨_,rfl,_,_,rfl,rfl,_,rfl,(wide:Int),rfl,?_,#[45],fun t0 ht0=>?_⟩
 ·have:=Nat.lt_log2_self (n:=((wide:Int)).natAbs)
  refine zM (Nat.log2_le_self _) #[0]
 have s0:=ak ht0 (HO.tup [V.int 2])
 refine⟨_,rfl,#[45],fun l0 hl0=>?_⟩
 have s1:=ak hl0 (HO.lst [V.int wide])
 refine⟨_,rfl,_,_,rfl,rfl,_,rfl,_,rfl,_,_,rfl,rfl,.inl ⟨by omega,by omega⟩,_,rfl,_,_,rfl,rfl,_,rfl,_,_,rfl,rfl,(by show 12<=sizeLine;decide),fun L hL=>?_⟩
 have s2:=ak hL (HO.lst [V.int 0,V.int 1,V.int (0-(wide:Int)),V.bl true,V.bl false,V.non,V.str (Str.ofString (toString (wide:Int))),V.ref t0,V.ref l0,V.int ((wide:Int)+1),V.int ((wide:Int)*(wide:Int)),V.int ((wide:Int)+1+Oi)])
 have S:=s0.trans (s1.trans s2)
 have r12:=cZ (a:=n) (b:=(12:Int)) #[7]
 obtain⟨y,ey,py,ny⟩:=abx (xs:=[V.int 0,V.int 1,V.int (0-(wide:Int)),V.bl true,V.bl false,V.non,V.str (Str.ofString (toString (wide:Int))),V.ref t0,V.ref l0,V.int ((wide:Int)+1),V.int ((wide:Int)*(wide:Int)),V.int ((wide:Int)+1+Oi)]) (p:=fun y=>Pl (upd (upd (upd H t0 (HO.tup [V.int 2])) l0 (HO.lst [V.int wide])) L (HO.lst [V.int 0,V.int 1,V.int (0-(wide:Int)),V.bl true,V.bl false,V.non,V.str (Str.ofString (toString (wide:Int))),V.ref t0,V.ref l0,V.int ((wide:Int)+1),V.int ((wide:Int)*(wide:Int)),V.int ((wide:Int)+1+Oi)])) y/\NoB wide y) r12.1 r12.2 fun y hy=>by
  simp only[jY,List.not_mem_nil,or_false]at hy
  rcases hy with rfl|rfl|rfl|rfl|rfl|rfl|rfl|rfl|rfl|rfl|rfl|rfl
  ·exact⟨.int _,wA #[0]⟩
  ·exact⟨.int _,wA #[0]⟩
  ·exact⟨.int _,wA #[0]⟩
  ·exact⟨.bl _,fun b p e=>by cases e⟩
  ·exact⟨.bl _,fun b p e=>by cases e⟩
  ·exact⟨.non,fun b p e=>by cases e⟩
  ·exact⟨.str _,fun b p e=>by cases e⟩
  ·exact⟨.tup ((s1.trans s2) _ _ ae),fun b p e=>by cases e⟩
  ·exact⟨.lst (s2 _ _ ae),fun b p e=>by cases e⟩
  ·exact⟨.int _,wA #[0]⟩
  ·exact⟨.int _,wA #[0]⟩
  ·exact⟨.int _,wA #[0]⟩
 exact⟨_,rfl,_,rfl,_,_,rfl,rfl,(by show(0:Int)<12;decide),L,_,_,_,rfl,rfl,bV ae,ey,k y _ S py ny⟩
theorem Z0(F:br K "_law_no_powers" "_law_no_powers" lZ dV f fd)(aO:bp P w K mg base "_law_draw" 1 ["_law_spread_here","_law_k"] [] (tZ K))(oK:bp P w K mg base "_law_no_base" 1 ["_law_number","_law_wide","_law_far"] [] MD)(cQ:bp P w K mg base "_law_refused" 7 ["_law_machine","_law_base","_law_most"] [] aaU)(aZ:mg "len" = none)(aL:mg "range" = none):bc P w K mg base eB 8 f fd ["_law_spread_here","_law_machine"] (Ru K):=by
 refine F.ok cf #[6] #[1]
 ·obtain⟨a,m,r,g,wide,ns,rfl,_⟩:=h
  rfl
 obtain⟨a,m,r,g,wide,ns,rfl,hS,h7,hm,⟨w2,w3⟩,k⟩:=h
 obtain⟨sl,tl,ts,q1,q2,q3,q4,q5⟩:=hS
 have hu:=hr.abb
 refine⟨_,(ag (az (i:=2) cf.nd #[39])
   (ag (az (i:=3) cf.nd ah)
   (ag (bK (aE Q8 (ay aN #[26] aZ ck (aa (aF cF #[98] ah #[4]) af)) ah (aM _)) (ao (az (i:=3) cf.nd (aC bR (aF cF (aF cF #[98] ah #[4]) ah #[4]) (aC O2 ah ah)))) aR)
   (ag (az (i:=4) cf.nd (aW oK hr (aa (aW aO hr (aa #[98] #[80])) (aa (pv 2) #[79]))))
   (ag (bK (aE (O0 hu) (aW cQ hr (aa #[92] (aa (pv 4) (aa (aC bu ah (aC bR (pv 3) ah)) af)))) (bw (aa cq (aa cq (aa cq (aa cq af))))) (aM _)) #[69] aR)
   (ag (bI PassesOwn.never rfl (SR rfl aL (aa ah #[80])) (aS (i:=5) cf.nd) (ag (az (i:=6) cf.nd (pv 5))
   (ag (iY PassesOwn.never (aE Ac (pv 6) (pv 2) (aM _)) (ao (az (i:=6) cf.nd (aC eJ (pv 6) (pv 5)))))
   (ao (bK (PW.pt (rX (aE CJ (pv 6) (pv 2) (aM _)) (ow (aE (O0 hu) (aW cQ hr (aa #[92] (aa (pv 5) #[80]))) (bw (aa cq (aa cq (aa cq (aa cq af))))) (aM _))))) #[69] aR)))))
   #[69])))))),?_⟩
 exists 0
 exists _,rfl,m,_,_,_,rfl,rfl,bS hm,rfl
 exists 1
 have ltl:(ts.map V.int).length=ts.length:=jX _
 refine cU (t:=wV _ _) (fun σ' H'=>σ'=[some #[50],some #[58],some #[74],some (.int 0),none,none,none]/\H=H') ?_ (fun D' dq=>dq _ _ ⟨rfl,rfl⟩)
 rintro σ' H' ⟨rfl,rfl⟩
 refine cU (t:=BG _ _ _) (fun σ' H'=>∃ Oi:Int,σ'=[some #[50],some #[58],some #[74],some (.int Oi),none,none,none]/\H=H'/\0<=Oi) ?_ #[30]
 exists 16
 ·refine⟨_,rfl,a,_,_,_,rfl,rfl,bV q1,rfl,tl,_,rfl,.inl q4,_,_,rfl,rfl,_,rfl,ou #[29] (fun c=>dq _ _ ⟨0,rfl,rfl,by omega⟩)⟩
  rw[ltl]at c
  have md:=cZ (a:=ts.getD (0:Int).toNat 0) (b:=10^18) #[7]
  exact⟨_,rfl,a,_,_,_,rfl,rfl,bV q1,rfl,tl,_,_,_,rfl,rfl,q4,cj #[7] #[0],_,_,rfl,rfl,⟨by decide,by decide,by decide⟩,_,_,rfl,rfl,(by show(0:Int)<10^18;decide),dq _ _ ⟨_,rfl,rfl,md.1⟩⟩
 rintro σ' H' ⟨Oi,rfl,rfl,f0⟩
 refine⟨_,rfl,a,60,ns,rfl,⟨sl,tl,ts,q1,q2,q3,q4,q5⟩,h7,by decide,by decide,fun v _ _ _=>⟨_,rfl,_,rfl,v,Oi,wide,rfl,⟨w2,w3⟩,f0,fun y H1 s1 py ny=>?_⟩⟩
 exists 1
 refine⟨_,rfl,_,rfl,_,rfl,_,_,rfl,rfl,(by show(0:Int)<1000;decide),_,_,rfl,rfl,m,y,r,g,_,wide,rfl,s1 _ _ hm,py,⟨by omega,w3⟩,ny,fun l1 H2 s2 Fs=>?_⟩
 refine⟨#[65],fun l2 P9=>?_⟩
 have s3:=ak P9 (HO.lst [V.bl true,V.bl false,V.bl true,V.bl false])
 refine⟨l1,l2,_,_,rfl,rfl,bV (s3 _ _ Fs),bV ae,rfl,rfl,_,rfl,ff ?_⟩
 have s03:=s1.trans (s2.trans s3)
 obtain⟨H3,Lh⟩:∃ H3,upd H2 l2 (HO.lst [V.bl true,V.bl false,V.bl true,V.bl false])=H3:=⟨_,rfl⟩
 rw[Lh]at s03 ⊢
 clear Lh s3 P9 Fs s2 py s1
 refine⟨2,10,rfl,⟨by decide,by decide,by decide,by decide⟩,?_⟩
 refine cH (fun i σ' H'=>∃ v5 v6:OV,σ'=[some #[50],some #[58],some #[74],some (.int Oi),some y,v5,v6]/\aB H H') ⟨none,none,rfl,s03⟩ ?_ (fun σ' H' ⟨_,_,_,s'⟩=>k H' s')
 rintro i σ' H4 hi ⟨v5,v6,rfl,s4⟩
 have hi':i<8:=hi
 obtain⟨b,eb⟩:=fQ (x:=(2:Int)+(i:Int)) #[0]
 rw[eb]
 have b2:2<=b:=by omega
 exists 1
 exists _,rfl
 exists 1
 refine cU (t:=mW _ _) (fun σ' H'=>∃ t:Nat,σ'=[some #[50],some #[58],some #[74],some (.int Oi),some y,some (.int b),some (.int ((b^t:Nat):Int))]/\H'=H4/\1<=t/\wide<=b^t/\∀ j:Nat,j<t->1<=j->b^j<wide) ?_ #[30]
 exists 16
 ·refine oB (fun mm σ' H'=>∃ t:Nat,mm=2000-t/\σ'=[some #[50],some #[58],some #[74],some (.int Oi),some y,some (.int b),some (.int ((b^t:Nat):Int))]/\H'=H4/\1<=t/\∀ j:Nat,j<t->1<=j->b^j<wide) ⟨_,1,rfl,by rw[Jr],rfl,jE _,fun j h1 h2=>by omega⟩ ?_
  rintro mm σ' H' ⟨t,rfl,rfl,rfl,t1,ht⟩
  refine⟨_,rfl,_,rfl,_,_,rfl,rfl,_,rfl,ou #[29] (fun c=>dq _ _ ⟨t,rfl,rfl,t1,by omega,ht⟩)⟩
  have lt:b^t<wide:=by omega
  have tl':t<1000:=by
   have:=zw (n:=t) (show 1<b by omega)
   omega
  refine⟨_,fun _ _ h=>h,?_⟩
  refine⟨_,rfl,_,rfl,_,_,rfl,rfl,.inl ⟨by omega,by omega⟩,2000-(t+1),by omega,t+1,rfl,?_,rfl,by omega,fun j h1 h2=>?_⟩
  ·rw[JJ]
   push_cast
   rfl
  ·by_cases e:j=t
   ·rw[e];exact lt
   ·exact ht j #[0] h2
 rintro σ' H' ⟨t,rfl,rfl,t1,le,ht⟩
 refine⟨_,rfl,_,rfl,rfl,_,rfl,sJ #[29] (fun _=>⟨_,_,rfl,s4⟩)⟩
 have no:NoB wide (.int b):=fun b' q e _ q1' ew=>by
  have e1:b=b' := by
   have:=V.int.inj e
   omega
  subst e1
  rcases ZN q t with h|h|h
  ·have:=ht q h q1'
   omega
  ·rw[h]at ew
   exact c (by rw[ew])
  ·have:=zD (a:=b) #[0] h
   omega
 refine⟨_,rfl,_,rfl,m,.int b,r,g,200,wide,rfl,s4 _ _ hm,.int _,⟨by omega,w3⟩,no,fun l1 H5 s5 Fs=>?_⟩
 refine⟨#[65],fun l2 P9=>?_⟩
 have s6:=ak P9 (HO.lst [V.bl true,V.bl false,V.bl true,V.bl false])
 exact⟨l1,l2,_,_,rfl,rfl,bV (s6 _ _ Fs),bV ae,rfl,rfl,_,rfl,ff ⟨_,_,rfl,s4.trans (s5.trans s6)⟩⟩
end
inductive Rp (K:Wl) (vs:List V) (H:Hp) (Q:VK) (E:XK):Prop
 | mk (a:QQ) (ns:LI) (_:vs=[.ref a]) (_:oM K H a #[34]) (_:ns.length<=63) (_:∀ H',Q (.bl true) H')
theorem acQ{w:Nat}(w2:2<=w)(w7:w<=7)(p1:1<=p)(pl:(p:Int)<=([4,3,2,2,2,2]:LI).getD (w-2) 0):p<=4/\w^p<=49:=by
 have:w=2\/w=3\/w=4\/w=5\/w=6\/w=7:=by omega
 have key:∀ (b n:Nat),p<=n->1<=b->b^n<=49->b^p<=49:=fun b n h hb h2=>jf (ju hb h) h2
 rcases this with h|h|h|h|h|h<;>subst h<;>simp at pl
 ·exact⟨by omega,key 2 4 #[0] #[7] #[7]⟩
 ·exact⟨by omega,key 3 3 #[0] #[7] #[7]⟩
 ·exact⟨by omega,key 4 2 #[0] #[7] #[7]⟩
 ·exact⟨by omega,key 5 2 #[0] #[7] #[7]⟩
 ·exact⟨by omega,key 6 2 #[0] #[7] #[7]⟩
 ·exact⟨by omega,key 7 2 #[0] #[7] #[7]⟩
theorem X4(h:j<6):1<=([4,3,2,2,2,2]:LI).getD j 0/\([4,3,2,2,2,2]:LI).getD j 0<=4:=by
 have:j=0\/j=1\/j=2\/j=3\/j=4\/j=5:=by omega
 rcases this with h|h|h|h|h|h<;>rw[h]<;>decide
theorem So{w k:Nat}{signs:LI}(L:mj w p rows signs aw aK k)(R:aI many (w^p) rows)(ls:signs.length=many)(m1:1<=many)(w1:1<=w)(p1:1<=p)(hz:∀ z∈signs,0<=z/\z<1000000):∀ z∈aK,0<=z/\z<1000000:=by
 obtain⟨ps,sM,G,el,LO,en⟩:=L.ex
 have p0:=(iH G.hd).1
 refine LO.signs (G.ok el) #[0] (by rw[bq,el]) fun z h=>?_
 obtain⟨u,hu,rfl⟩:=jO.mp h
 obtain⟨a,l,n,rfl,h1,l1,n1⟩:=Rg.all (φ:=AG many w p) (Bl m1 p1) (fun u o f hf=>Ew R p1 o hf) (G.re u hu)
 have nlt:n<w^p:=jW n1 (ju w1 #[0])
 have s:=cA R (h:=(a:Int)) (f:=(n:Int)) #[0] #[0] #[0] #[0]
 show 0<=signs.getD (stepI rows (a:Int) (n:Int)).toNat 0/\signs.getD (stepI rows (a:Int) (n:Int)).toNat 0<1000000
 rw[getD_at #[0]]
 exact hz _ (jH _)
section
theorem lG:aJ ["_law_script","_law_spread_here","_law_base","_law_many","_law_rooms","_law_machine","_law_one","_law_found","_law_met_here","_law_cell","_law_most"] ["_law_script"] (ar aaI):=cS #[3]
theorem aeV(F:br K "law" "law" aaI dV f fd)(pC:bp P w K mg base "_law_spread" 2 ["_law_script"] [] (MJ K))(aO:bp P w K mg base "_law_draw" 1 ["_law_spread_here","_law_k"] [] (tZ K))(sY:bp P w K mg base "_law_made" 7 ["_law_spread_here","_law_base","_law_many","_law_rooms"] [] (MC K))(we:bp P w K mg base "lowered" 6 ["machine","base","most"] [] (fun vs H Q _=>E8 C vs H Q fun _ _ _=>False))(sZ:bp P w K mg base "lowered" 6 ["machine","base","most"] [.int 200] (fun vs H Q _=>E8 C vs H Q fun _ _ _=>False))(iL:bp P w K mg base "_law_is_machine" 2 ["_law_found","_law_wide"] [] MB)(mL:bp P w K mg base "_law_in_order" 1 ["_law_rows"] [] Rv)(rJ:bp P w K mg base "_law_stays" 1 ["_law_found"] [] Ry)(Ai:bp P w K mg base "_law_met" 2 ["_law_machine","_law_found","_law_many"] [] adE)(hX:bp P w K mg base "least" 5 ["machine"] [] (Dx K))(wg:bp P w K mg base "sign_at" 5 ["machine","number"] [] (aaW K id))(cQ:bp P w K mg base "_law_refused" 7 ["_law_machine","_law_base","_law_most"] [] aaT)(rE:bp P w K mg base "_law_field" 7 ["_law_machine","_law_base","_law_most"] [] Rl)(lK:bp P w K mg base "_law_no_powers" 8 ["_law_spread_here","_law_machine"] [] (Ru K)):bc P w K mg base eB 9 f fd ["_law_script"] (Rp K):=by
 refine F.ok lG #[6] #[1]
 ·obtain⟨a,ns,rfl,_⟩:=h
  rfl
 obtain⟨a,ns,rfl,hS,BJ,k⟩:=h
 have hu:=hr.abb
 have hu3:=aeF hr
 refine B1 (aU (mK.mk (az (i:=1) lG.nd (aW pC hr #[72])))
   (aU (mK.mk (az (i:=2) lG.nd (aC bu ah (aC bR (aW aO hr (aa #[92] #[80])) ah))))
   (aU (RJ (i:=3) lG.nd rfl (Or.inl rfl) (aiR bu (oX.mk ah) (aiR bR (oX.mk (aW aO hr (aa #[92] #[80]))) (amN cF (adM (bH (oX.mk ah) (bH (oX.mk ah) (bH (oX.mk ah) (bH (oX.mk ah) (bH (oX.mk ah) (bH (oX.mk ah) AA))))))) (oX.mk (aC EC (pv 2) ah)) #[4]))))
   (aU (mK.mk (az (i:=4) lG.nd (aC bu ah (aC bR (aW aO hr (aa #[92] #[80])) ah))))
   (aU (mK.mk (bK (aE dE (aC bR (aW aO hr (aa #[92] #[80])) ah) ah (aM _)) (ag (az (i:=2) lG.nd ah)
   (ag (az (i:=3) lG.nd ah)
   (ao (az (i:=4) lG.nd ah)))) aR))
   (aU (mK.mk (As (aW sY hr (aa #[92] (aa (pv 2) (aa (pv 3) #[88])))) (pK rfl (bx (aS (i:=5) lG.nd) (bx (aS (i:=6) lG.nd) iX)))))
   (aU (mK.mk (az (i:=7) lG.nd (aW we hr (aa (pv 5) (aa (pv 2) #[80])))))
   (aU (mK.mk (bK (PW.pt (pA (lV (iZ (aW iL hr (aa (pv 7) #[57])))) (pA (lV (iZ (aW mL hr (aa (aF aG (pv 7) ah #[4]) af)))) (tT (lV (iZ (aW rJ hr (aa (pv 7) af)))))))) #[69] aR))
   (aU (mK.mk (az (i:=8) lG.nd (aW Ai hr (aa (pv 5) (aa (pv 7) #[79])))))
   (aU (mK.mk (bK (PW.pt (pA (aE dE (pv 8) ah (aM _)) (pA (aE ((Ip 2 hu3)) (aW hX hr (aa (pv 7) af)) (pv 7) (aM _)) (tT (aE ((Ip 2 hu3)) (aW we hr (aa (pv 5) (aa (pv 2) (aa (pv 8) af)))) (pv 7) (aM _)))))) #[69] aR))
   (aU (mK.mk (bK (PW.pt (rX (aE acv (pv 6) tR (aM _)) (ow (aE ((Ip 2 hu3)) (aW hX hr (aa (pv 6) af)) (pv 7) (aM _))))) #[69] aR))
   (aU (mK.mk (bI PassesOwn.never rfl (df (EH II (aF cF #[92] ah #[4]) Iv (Iw ah))) (aS (i:=9) lG.nd) (ao (bK (aE CJ (aW wg hr (aa (pv 7) (aa (aC bR (pv 9) (aC O2 ah ah)) af))) (aW wg hr (aa (pv 5) (aa (aC bR (pv 9) (aC O2 ah ah)) af))) (aM _)) #[69] aR))))
   (aU (mK.mk (bI PassesOwn.never rfl (df (bw (aa (aC EC (pv 8) ah) #[80]))) (aS (i:=10) lG.nd) (ao (bK (PW.pt (rX (aE Ac ah (pv 10) (aM _)) (ow (aE Ac (pv 10) (pv 8) (aM _))))) (ag (bK (aE (O0 hu) (aW cQ hr (aa (pv 5) (aa (pv 2) (aa (pv 10) af)))) (bw (aa cq (aa cq (aa cq (aa cq af))))) (aM _)) #[69] aR)
   (ao (bK (lV (iZ (aW rE hr (aa (pv 5) (aa (pv 2) (aa (pv 10) af)))))) #[69] aR))) aR))))
   (aU (mK.mk (bK (PW.pt (rX (aE aaa (pv 8) ah (aM _)) (ow (aE ((Ip 2 hu3)) (aW sZ hr (aa (pv 5) #[57])) (pv 7) (aM _))))) #[69] aR))
   (sx (mK.mk (aH (aW lK hr (aa #[92] #[102]))))))))))))))))))) ?_
 exists 0
 refine⟨_,rfl,a,ns,rfl,hS,BJ,fun sp H1 xs s1 SP lx=>?_⟩
 exists 1
 refine⟨_,rfl,sp,1,xs,rfl,SP,lx,by decide,by decide,fun v1 _ _ _=>⟨_,_,rfl,rfl,(by show(0:Int)<6;decide),_,_,rfl,rfl,?_⟩⟩
 have d1:=cZ (a:=v1) (b:=6) #[7]
 obtain⟨wn,ew⟩:=fQ (x:=2+v1%6) #[0]
 exists 1
 rw[ew]
 have wl:2<=wn/\wn<=7:=by omega
 refine⟨_,rfl,sp,2,xs,rfl,SP,lx,by decide,by decide,fun v2 _ _ _=>⟨(by show 6<=sizeLine;decide),fun Lx hLx=>?_⟩⟩
 have sLx:=ak hLx (HO.lst [V.int 4,V.int 3,V.int 2,V.int 2,V.int 2,V.int 2])
 have lp:=X4 (j:=wn-2) #[0]
 refine⟨_,rfl,_,_,rfl,rfl,Lx,_,_,_,rfl,rfl,bV ae,cj (ns:=[4,3,2,2,2,2]) (k:=(wn:Int)-2) #[0] (by show(wn:Int)-2<6;omega),?_⟩
 rw[show((wn:Int)-2).toNat=wn-2 by omega]
 exists _,_,rfl,rfl,by omega,_,_,rfl,rfl
 have d2:=cZ (a:=v2) (b:=([4,3,2,2,2,2]:LI).getD (wn-2) 0) #[0]
 obtain⟨p,ep⟩:=fQ (x:=1+v2%([4,3,2,2,2,2]:LI).getD (wn-2) 0) #[0]
 exists 1
 rw[ep]
 obtain⟨p4,w49⟩:=acQ wl.1 wl.2 (show 1<=p by omega) #[0]
 have s2:=s1.trans sLx
 have SP2:=SP.same sLx
 obtain⟨H2,CA⟩:∃ H2,upd H1 Lx (HO.lst [V.int 4,V.int 3,V.int 2,V.int 2,V.int 2,V.int 2])=H2:=⟨_,rfl⟩
 rw[CA]at s2 SP2 ⊢
 clear CA sLx hLx SP s1
 refine⟨_,rfl,sp,3,xs,rfl,SP2,lx,by decide,by decide,fun v3 _ _ _=>⟨_,_,rfl,rfl,(by show(0:Int)<6;decide),_,_,rfl,rfl,?_⟩⟩
 have d3:=cZ (a:=v3) (b:=6) #[7]
 obtain⟨ro,er⟩:=fQ (x:=1+v3%6) #[0]
 exists 1
 rw[er]
 have rl:1<=ro/\ro<=6:=by omega
 refine cU (t:=BG _ _ _) (fun σ' H'=>∃ wn p ro:Nat,σ'=[some #[50],some (.ref sp),some (.int wn),some (.int p),some (.int ro),none,none,none,none,none,none]/\H2=H'/\(2<=wn/\wn<=10/\1<=p/\p<=10/\wn^p<=64)/\(1<=ro/\ro<=6)/\ro*wn^p<=400) ?_ #[30]
 exists 16
 ·refine⟨_,rfl,sp,0,xs,rfl,SP2,lx,by decide,by decide,fun v0 _ _ _=>⟨_,_,rfl,rfl,(by show(0:Int)<8;decide),rfl,_,rfl,mC #[87] #[87]⟩⟩
  ·exact dq _ _ ⟨2,6,4,rfl,rfl,by decide,by decide,by decide⟩
  ·refine dq _ _ ⟨wn,p,ro,rfl,rfl,⟨by omega,by omega,by omega,by omega,by omega⟩,rl,?_⟩
   exact jf (Nat.mul_le_mul rl.2 w49) #[7]
 clear ew ep er d1 d2 d3 wl rl p4 w49 lp
 rintro σ' H' ⟨wn,p,ro,rfl,rfl,⟨w2,w10,p1,Ra,wp⟩,rl,rw4⟩
 refine⟨_,rfl,_,rfl,_,rfl,_,rfl,sp,wn,p,ro,xs,rfl,SP2,lx,⟨w2,w10,p1,Ra,wp⟩,rl,rw4,fun t m o rows signs many H3 s3 MA mn=>?_⟩
 obtain⟨r,g,M⟩:=MA.mach
 have R:=MA.ok
 have ls:=MA.ls
 have St:=MA.st
 have m4:many*wn^p<=400:=jf (zv _ mn.2) rw4
 have amQ:2<=wn^p:=by
  have:=ju (n:=wn) #[0] p1
  rw[Jr]at this
  omega
 have AW:∀ {us:LL},us.Nodup->(∀ u∈us,Rg #[101] [0,0,0] wn u)->us.length<=400:=fun nd re=>jf (Q5 w2 nd fun u hu=>Rg.all (φ:=AG many wn p) (Bl mn.1 p1) (fun u o f hf=>Ew R p1 o hf) (re u hu)) m4
 exists t,_,rfl,bS MA.tup,rfl,_,_,rfl,_,_,rfl,rfl
 have s03:=s2.trans s3
 have SP3:=SP2.same s3
 exists 1
 refine⟨_,rfl,_,rfl,m,r,g,many,wn,p,400,rows,signs,rfl,M,R,ls,mn.1,⟨w2,p1,by omega⟩,⟨by decide,by decide⟩,fun m1 r1 g1 dB mU kk H4 s4 M1 L _=>?_,fun d H4 ps s4 hd nd re lt=>?_⟩
 exists 16
 ·have:=AW nd re
  omega
 exists 1
 obtain⟨ps,sM,G,el,LO,en⟩:=L.ex
 have psl:=AW G.nd G.re
 have ao5:dB.length<=400:=by
  have h1:=LO.AW (G.ok el) (by have:=(iH G.hd).1;omega)
  omega
 obtain⟨acL,hr1,hA1⟩:=M1.rows
 have St1:=L.afp R mn.1 #[0] p1 St
 refine⟨_,rfl,_,rfl,m1,r1,g1,wn,dB,mU,rfl,M1,LO.ok,LO.pos,LO.sgn,So L R ls mn.1 #[0] p1 MA.sg,fun H5 s5=>⟨_,rfl,ff ?_⟩⟩
 have M15:=M1.same fun b xs e=>s5 _ _ e
 refine⟨_,rfl,m1,_,_,_,rfl,rfl,bS M15.tup,rfl,r1,acL,wn,dB,rfl,s5 _ _ hr1,hA1.same (fun b xs e=>s5 _ _ e),LO.ok,by omega,LO.ord,_,rfl,ff ?_⟩
 refine⟨_,rfl,m1,r1,g1,wn,dB,mU,rfl,M15,LO.ok,by omega,by omega,LO.sgn,St1,_,rfl,ff ?_⟩
 exists 1
 have s35:=s4.trans s5
 have M5:=M.same fun b xs e=>s35 _ _ e
 refine⟨_,rfl,_,rfl,_,rfl,m,r,g,m1,r1,g1,many,wn,p,kk,rows,dB,signs,mU,rfl,M5,R,ls,mn.1,⟨w2,p1,by omega,by omega⟩,m4,M15,L,fun ms H6 s6 nd hms=>?_⟩
 exists 1
 have msl:=AW nd fun u hu=>(hms u).mp hu
 have ms1:1<=ms.length:=Jq ((hms [0,0,0]).mpr Rg.start)
 have M16:=M15.same fun b xs e=>s6 _ _ e
 have s36:=s35.trans s6
 have s06:=s03.trans s36
 have SP6:=SP3.same s36
 have LS:=cu.self LO.ok LO.pos LO.sgn LO.ord LO.apart
 refine cU (t:=BG _ _ _) (fun σ' H'=>σ'=[some #[50],some (.ref sp),some (.int wn),some (.int p),some (.int ro),some #[58],some o,some (.ref m1),some #[78],none,none]/\aB H6 H') ?_ #[30]
 exists 16
 ·refine⟨_,rfl,rfl,_,rfl,mC (fun c=>by omega) #[87]⟩
  refine⟨_,rfl,m1,r1,g1,dB.length,wn,dB,mU,rfl,M16,LO.ok,LO.sgn,⟨LO.pos,by omega⟩,by omega,fun m2 r2 g2 fY pN H7 s7 M2 L2'=>?_⟩
  obtain⟨e1,e2⟩:=cu.one L2' LS fun v hv=>rfl
  subst e1 e2
  have M17:=M16.same fun b xs e=>s7 _ _ e
  refine⟨_,rfl,m2,m1,_,_,rfl,rfl,bS M2.tup,bS M17.tup,bA.eqD M2 M17,_,rfl,ff ?_⟩
  refine⟨_,rfl,_,rfl,_,rfl,m,r,g,many,wn,p,ms.length,rows,signs,rfl,M.same (fun b xs e=>s7 _ _ (s36 _ _ e)),R,ls,mn.1,⟨w2,p1,by omega⟩,⟨ms1,by omega⟩,fun m3 r3 g3 Rj aff k3 H8 s8 M3 L3 _=>?_,fun d H8 ps s8 hd nd8 re lt=>?_⟩
  exists 16
  ·have:=iz nd8 fun u hu=>(hms u).mpr (re u hu)
   omega
  obtain⟨⟨e1,e2⟩,_⟩:=L3.one L
  subst e1 e2
  have M18:=M17.same fun b xs e=>s8 _ _ e
  exact⟨_,rfl,m3,m1,_,_,rfl,rfl,bS M3.tup,bS M18.tup,bA.eqD M3 M18,_,rfl,ff (dq _ _ ⟨rfl,s7.trans s8⟩)⟩
 rintro σ' H7 ⟨rfl,s7⟩
 have M17:=M16.same fun b xs e=>s7 _ _ e
 refine cU (t:=BG _ _ _) (fun σ' H'=>σ'=[some #[50],some (.ref sp),some (.int wn),some (.int p),some (.int ro),some #[58],some o,some (.ref m1),some #[78],none,none]/\aB H7 H') ?_ #[30]
 exists 16
 ·rcases MA.one with rfl|⟨mo,r0,g0,eD,mV,rfl,MO,RO,lO,nO,StO,LR⟩
  ·exact⟨_,rfl,rfl,_,rfl,sJ (fun z=>absurd rfl z) (fun _=>dq _ _ ⟨rfl,fun _ _ e=>e⟩)⟩
  ·refine⟨_,rfl,rfl,_,rfl,sJ #[87] (fun z=>by cases z)⟩
   refine⟨_,rfl,mo,r0,g0,eD.length,wn,eD,mV,rfl,MO.same (fun b xs e=>s7 _ _ (s36 _ _ e)),RO,lO,⟨nO.1,by omega⟩,by omega,fun m2 r2 g2 fY pN H8 s8 M2 LX=>?_⟩
   obtain⟨e1,e2⟩:=L.Ss R mn.1 #[0] p1 RO nO.1 StO LR LX
   subst e1 e2
   have M18:=M17.same fun b xs e=>s8 _ _ e
   exact⟨_,rfl,m2,m1,_,_,rfl,rfl,bS M2.tup,bS M18.tup,bA.eqD M2 M18,_,rfl,ff (dq _ _ ⟨rfl,s8⟩)⟩
 rintro σ' H8 ⟨rfl,s8⟩
 have M18:=M17.same fun b xs e=>s8 _ _ e
 have s38:=s36.trans (s7.trans s8)
 have M8:=M.same fun b xs e=>s38 _ _ e
 obtain⟨sl,tl,ts,q1,q2,q3,q4,q5⟩:=(SP3.same s38)
 refine cU (t:=sU _ _ _) (fun σ' H'=>∃ v9:OV,σ'=[some #[50],some (.ref sp),some (.int wn),some (.int p),some (.int ro),some #[58],some o,some (.ref m1),some #[78],v9,none]/\aB H8 H') ?_ #[30]
 exists 16
 ·refine⟨_,rfl,sp,_,_,_,rfl,rfl,bV q1,rfl,_,rfl,tl,_,rfl,q4,fun L0 hL0=>?_⟩
  obtain⟨zs,ezs,lzs⟩:=K8 ts none (some 8)
  rw[ezs]
  have sL:=ak hL0 (HO.lst (zs.map V.int))
  exists L0,rfl,⟨_,bV ae⟩
  refine eS (K:=K) (xs:=zs.map V.int) (fun i σ' H'=>∃ v9:OV,σ'=[some #[50],some (.ref sp),some (.int wn),some (.int p),some (.int ro),some #[58],some o,some (.ref m1),some #[78],v9,none]/\aB (upd H8 L0 (HO.lst (zs.map V.int))) H') ⟨none,rfl,aB.refl _⟩ (fun i σ' H' _ ⟨_,_,e⟩=>bV (e _ _ ae)) ?_ (fun σ' H' ⟨v9,e,s'⟩=>dq _ _ ⟨v9,e,sL.trans s'⟩)
  rintro i y σ' H9 hi ⟨v9,rfl,s9⟩
  obtain⟨z,rfl,_⟩:=bZ hi
  have n60:(10:Int)^60<NB:=by decide +kernel
  have ah0:(1000:Int)<NB:=by decide +kernel
  have rm:=cZ (a:=z) (b:=10^60) #[7]
  have sL9:=sL.trans s9
  refine⟨_,rfl,_,rfl,_,_,rfl,rfl,⟨by decide,by decide,by decide⟩,_,_,rfl,rfl,(by show(0:Int)<10^60;decide),m1,r1,g1,_,dB.length,wn,dB,mU,rfl,M18.same (fun b xs e=>sL9 _ _ e),LO.ok,LO.sgn,LO.pos,⟨rm.1,QN rm.2 n60⟩,⟨by omega,by omega⟩,fun Ha ds sa fd'=>?_⟩
  refine⟨_,rfl,_,rfl,_,_,rfl,rfl,⟨by decide,by decide,by decide⟩,_,_,rfl,rfl,(by show(0:Int)<10^60;decide),m,r,g,_,many,wn^p,rows,signs,rfl,M8.same (fun b xs e=>sa _ _ (sL9 _ _ e)),R,ls,mn.1,⟨rm.1,QN rm.2 n60⟩,⟨by omega,by omega⟩,fun Hb es sb fe=>?_⟩
  have eq:=Mn (ds:=ds) (es:=es) w2 LO.ok LO.pos (L.raised R mn.1 #[0] p1 St) (fun q q0 q1=>St1 q q0 q1) fd' fe
  unfold sgn at eq
  exact⟨rfl,_,rfl,sJ (fun z=>absurd (congrArg V.int eq.symm) z) (fun _=>⟨_,rfl,(s9.trans sa).trans sb⟩)⟩
 rintro σ' H9 ⟨v9,rfl,s9⟩
 have s39:=s38.trans s9
 have M9:=M.same fun b xs e=>s39 _ _ e
 refine cU (t:=sU _ _ _) (fun σ' H'=>∃ v10:OV,σ'=[some #[50],some (.ref sp),some (.int wn),some (.int p),some (.int ro),some #[58],some o,some (.ref m1),some #[78],v9,v10]/\aB H9 H') ?_ #[30]
 exists 16
 ·refine⟨_,rfl,_,_,rfl,rfl,#[33],fun L0 hL0=>?_⟩
  have sL:=ak hL0 (HO.lst [V.int ((ms.length:Nat)-1),V.int 200])
  exists L0,rfl,⟨_,bV ae⟩
  refine eS (K:=K) (xs:=[V.int (((ms.length:Nat):Int)-1),V.int 200]) (fun i σ' H'=>∃ v10:OV,σ'=[some #[50],some (.ref sp),some (.int wn),some (.int p),some (.int ro),some #[58],some o,some (.ref m1),some #[78],v9,v10]/\aB (upd H9 L0 (HO.lst [V.int (((ms.length:Nat):Int)-1),V.int 200])) H') ⟨none,rfl,aB.refl _⟩ (fun i σ' H' _ ⟨_,_,e⟩=>bV (e _ _ ae)) ?_ (fun σ' H' ⟨v10,e,s'⟩=>dq _ _ ⟨v10,e,sL.trans s'⟩)
  rintro i y σ' Ha hi ⟨v10,rfl,sa⟩
  have hy:y∈[V.int (((ms.length:Nat):Int)-1),V.int 200]:=pZ hi
  obtain⟨mo,rfl,mo9⟩:∃ mo:Nat,y=.int mo/\mo<=900:=by
   rcases jY.mp hy with e|e
   ·exact⟨ms.length-1,by rw[e];congr 1;omega,by omega⟩
   ·exact⟨200,jK.mp e,by decide⟩
  have s9a:=sL.trans sa
  have Ma:=M9.same fun b xs e=>s9a _ _ e
  refine⟨_,rfl,_,_,rfl,rfl,_,rfl,ou (fun c0=>?_) (fun _=>ff ⟨_,rfl,sa⟩)⟩
  refine⟨_,rfl,_,rfl,_,_,rfl,rfl,_,rfl,ou (fun c1=>?_) (fun _=>⟨_,rfl,sa⟩)⟩
  have RG:∀ {H':Hp},bA H' m r g (wn^p) rows signs->adV H' [.ref m,.int wn,.int mo]:=fun M'=>⟨m,r,g,many,wn,p,mo,rows,ms,signs,rfl,M',R,ls,mn.1,⟨w2,p1,by omega⟩,⟨by omega,mo9⟩,nd,fun u hu=>(hms u).mp hu,by omega⟩
  refine⟨_,rfl,_,rfl,_,rfl,RG Ma,fun l1 Hb sb Fs=>?_⟩
  refine⟨#[65],fun l2 P9=>?_⟩
  have s6' := ak P9 (HO.lst [V.bl false,V.bl true,V.bl true,V.bl false])
  refine⟨l1,l2,_,_,rfl,rfl,bV (s6' _ _ Fs),bV ae,rfl,rfl,_,rfl,ff ?_⟩
  have sab:=sb.trans s6'
  exact⟨_,rfl,_,rfl,_,rfl,RG (Ma.same fun b xs e=>sab _ _ e),fun Hc sc=>⟨_,rfl,ff ⟨_,rfl,(sa.trans sab).trans sc⟩⟩⟩
 rintro σ' Ha ⟨v10,rfl,sa⟩
 have s3a:=s39.trans sa
 have Ma:=M.same fun b xs e=>s3a _ _ e
 have M1a:=M18.same fun b xs e=>sa _ _ (s9 _ _ e)
 refine cU (t:=BG _ _ _) (fun σ' H'=>σ'=[some #[50],some (.ref sp),some (.int wn),some (.int p),some (.int ro),some #[58],some o,some (.ref m1),some #[78],v9,v10]/\aB Ha H') ?_ #[30]
 exists 16
 ·refine⟨_,rfl,_,_,rfl,rfl,_,rfl,ou #[29] (fun _=>ff (dq _ _ ⟨rfl,fun _ _ e=>e⟩))⟩
  refine⟨_,rfl,_,rfl,m,r,g,many,wn,p,200,rows,signs,rfl,Ma,R,ls,mn.1,⟨w2,p1,by omega⟩,⟨by decide,by decide⟩,fun m3 r3 g3 Rj aff k3 Hb sb M3 L3 _=>?_,fun d Hb ps sb hd nd8 re lt=>?_⟩
  exists 16
  ·have:=iz nd8 fun u hu=>(hms u).mpr (re u hu)
   omega
  obtain⟨⟨e1,e2⟩,_⟩:=L3.one L
  subst e1 e2
  have M1b:=M1a.same fun b xs e=>sb _ _ e
  exact⟨_,rfl,m3,m1,_,_,rfl,rfl,bS M3.tup,bS M1b.tup,bA.eqD M3 M1b,_,rfl,ff (dq _ _ ⟨rfl,sb⟩)⟩
 rintro σ' Hb ⟨rfl,sb⟩
 have s3b:=s3a.trans sb
 exact⟨_,rfl,_,rfl,sp,m,_,_,wn^p,xs,rfl,SP3.same s3b,lx,(M.same fun b xs e=>s3b _ _ e).tup,⟨amQ,by omega⟩,fun H' _=>k H'⟩
end
structure Here(P:Qj)(w:World)(K:Wl)(mg:Qm->Option Value)(base:Heap):Prop
structure dI(K:Wl)(mg:Qm->Option Value)(x:Qm)(st:Stmt):Prop where
 ex:∃ (f:QQ) (fd:QY),mg x=some #[64]/\br K x x st .none f fd
structure TopD(K:Wl)(mg:Qm->Option Value)(x:Qm)(st:Stmt)(d:V):Prop where
 ex:∃ (f T:QQ) (fd:QY) (o:Obj) (n:Nat) (u:Value),mg x=some #[64]/\br K x x st (.ref T) f fd/\K.lookup T=some o/\o.data=.seq #[u] n/\RelV d u
structure DI(K:Wl)(C:QQ)(m q:Qm)(st:Stmt):Prop where
 ex:∃ (f:QQ) (fd:QY),Meth K C m f/\br K m q st .none f fd
structure Tz(K:Wl)(C:QQ)(q:Qm)(st:Stmt):Prop where
 ex:∃ (f:QQ) (fd:QY),Mk K C f/\br K "__init__" q st .none f fd
section
variable{h:Heap}{x q m:Qm}{oc kV pm ct u:Value}{ps:List Qm}{k:Nat}
theorem amE(X:K.In h)(G:h.Ns qG mg)(a:xJ K qG x=some (some #[64]))(l:K.lookup f=some ⟨oc,od,.func (Ww x x (eW st) (dA st) (ar st) .none kV doc pm an cw ct),Fz⟩)(c:YH K cw x=true)(k:Wu K #[64]=true):dI K mg x st:=
 ⟨_,_,Xh X G a,AY l c k⟩
theorem amD(X:K.In h)(G:h.Ns qG mg)(a:xJ K qG x=some (some #[64]))(l:K.lookup f=some ⟨oc,od,.func (Ww x x (eW st) (dA st) (ar st) (.ref T) kV doc pm an cw ct),Fz⟩)(c:YH K cw x=true)(k:Wu K #[64]=true)(t:K.lookup T=some ⟨tc,td,.seq #[u] n,tsl⟩)(r:RelV d u):TopD K mg x st d:=
 ⟨_,_,_,_,_,_,Xh X G a,AY l c k,t,rfl,r⟩
theorem alH(a:Ws K #[20] m=some (some #[64]))(l:K.lookup f=some ⟨oc,od,.func (Ww m q (eW st) (dA st) (ar st) .none kV doc pm an cw ct),Fz⟩)(c:YH K cw q=true)(k:Wu K #[64]=true)(n:Yg K #[64]=true):DI K C m q st:=
 ⟨_,_,⟨a,n,k⟩,AY l c k⟩
theorem alr(a:Ws K #[20] "__init__" = some (some #[64]))(l:K.lookup f=some ⟨oc,od,.func (Ww "__init__" q (eW st) (dA st) (ar st) .none kV doc pm an cw ct),Fz⟩)(c:YH K cw q=true)(k:Wu K #[64]=true)(n:Yg K #[64]=true)(mk:yX K C=true)(kc:Wu K #[20]=true):Tz K C q st:=
 ⟨_,_,⟨mk,a,n,kc⟩,AY l c k⟩
def BdN(p:List Value->Prop):Nat->List Value->Prop
 | 0,us=>p us
 | n+1,us=>∀ a,BdN p n (us++[a])
theorem BdN.all{p:List Value->Prop}:∀ {n:Nat} {vs:List Value} (us:List Value),BdN p n vs->us.length=n->p (vs++us)
 | 0,vs,[],h,_=>by rw[jo];exact h
 | n+1,vs,u :: us,h,e=>by
  have:=BdN.all us (h u) (Nat.succ.inj e)
  rw[jk]at this
  exact this
abbrev Bd(x q:Qm)(st:Stmt)(ps:List Qm):Prop := ∀ (kV doc pm:Value) (an:Option QQ) (cw ct:Value),BdN (fun us=>bindArgs (Ww x q (eW st) (dA st) (ar st) .none kV doc pm an cw ct) ⟨us,[]⟩=pure (ps.zip us)) ps.length []
abbrev BdD(x:Qm)(st:Stmt)(ps:List Qm)(m:Nat)(g:Value->List Value):Prop := ∀ (T:QQ) (u kV doc pm:Value) (an:Option QQ) (cw ct:Value),BdN (fun us=>∃ k:Option (Array Value)->Qk (List (Qm×Value)),
 bindArgs (Ww x x (eW st) (dA st) (ar st) (.ref T) kV doc pm an cw ct) ⟨us,[]⟩=seqItems? (.ref T)>>=k/\k (some #[u])=pure (ps.zip (us++g u))) m []
theorem dI.g(_:Here P w K mg base)(t:dI K mg x st)(ok:∀ f fd,br K x x st .none f fd->bc P w K mg base eB k f fd ps sp)(b:Bd x x st ps:=by (repeat intro _);rfl):bp P w K mg base x k ps [] sp:=by
 obtain⟨f,fd,m,F⟩:=t.ex
 exact⟨f,fd,[],m,F.kp,.nil,F.binds fun k d p a c e us=>(b k d p a c e).all us,ok f fd F⟩
theorem TopD.g(_:Here P w K mg base)(t:TopD K mg x st d)(ok:∀ T f fd,br K x x st (.ref T) f fd->bc P w K mg base eB k f fd ps sp)(b:BdD x st ps ps.length fun _=>[]:=by (repeat intro _);exact⟨_,rfl,rfl⟩):bp P w K mg base x k ps [] sp:=by
 obtain⟨f,T,fd,o,n,u,m,F,ho,hs,r⟩:=t.ex
 exact⟨f,fd,[],m,F.kp,.nil,F.B0 ho hs ps.length rfl fun k d p a c e us=>(b T u k d p a c e).all us,ok T f fd F⟩
theorem TopD.gd(_:Here P w K mg base)(t:TopD K mg x st d)(ok:∀ T f fd,br K x x st (.ref T) f fd->bc P w K mg base eB k f fd ps sp)(b:BdD x st ps (ps.length-1) fun u=>[u]:=by (repeat intro _);exact⟨_,rfl,rfl⟩)(e:ps.length-1+1=ps.length:=by rfl):bp P w K mg base x k ps [d] sp:=by
 obtain⟨f,T,fd,o,n,u,m,F,ho,hs,r⟩:=t.ex
 exact⟨f,fd,[u],m,F.kp,.cons r .nil,F.B0 ho hs _ e fun k d p a c e us=>(b T u k d p a c e).all us,ok T f fd F⟩
theorem DI.g(_:Here P w K mg base)(t:DI K C m q st)(cl:IX K C)(ok:∀ f fd,br K m q st .none f fd->bc P w K mg base eB k f fd ps sp)(b:Bd m q st ps:=by (repeat intro _);rfl):sX P w K mg base C m k ps sp:=by
 obtain⟨f,fd,M,F⟩:=t.ex
 exact⟨cl,f,fd,M,F.binds fun k d p a c e us=>(b k d p a c e).all us,ok f fd F⟩
theorem Tz.g(_:Here P w K mg base)(t:Tz K C q st)(g:mg x=some #[20])(cl:IX K C)(ok:∀ f fd,br K "__init__" q st .none f fd->bc P w K mg base eB k f fd ps sp)(b:Bd "__init__" q st ps:=by (repeat intro _);rfl):PD P w K mg base x C k ps sp:=by
 obtain⟨f,fd,M,F⟩:=t.ex
 exact⟨g,cl,f,fd,M,F.binds fun k d p a c e us=>(b k d p a c e).all us,ok f fd F⟩
theorem dI.law{l:Yx}(t:dI K mg "law" st)(hfa:mg "law" = some (.ref fa))(b:∀ (kV doc pm:Value) (an:Option QQ) (cw ct v:Value),bindArgs (Ww "law" "law" (eW st) (dA st) (ar st) .none kV doc pm an cw ct) ⟨[v],[]⟩=pure [(("_law_script" : Qm),v)])(ok:∀ base f fd,br K "law" "law" st .none f fd->bc l.prog w K mg base eB k f fd ["_law_script"] sp):∃ fd:QY,(∀ (s:Ql) (v:Value),QT s fd ⟨[v],[]⟩ [("_law_script",v)])/\∀ base:Heap,K.In base->base.Ns qG mg->bc l.prog w K mg base eB k fa fd ["_law_script"] sp:=by
 obtain⟨f,fd,m,F⟩:=t.ex
 cases m.symm.trans hfa
 exists 6
 exact⟨_,fun s v=>.of_eq (b kV doc pm an cw ct v),fun base _ _=>ok base _ _ F⟩
end
section
variable{x q m:Qm}{F1:QQ}{oc kV pm ct u:Value}{ps:List Qm}{k:Nat}
theorem dI.gH(_:Here P w K mg base)(t:dI K mg x st)(ok:∀ f fd,br K x x st .none f fd->FI P w K mg base eB k f fd ps sp)(b:Bd x x st ps:=by (repeat intro _);rfl):abp P w K mg base x k ps [] sp:=by
 obtain⟨f,fd,m,F⟩:=t.ex
 exact⟨f,fd,[],m,F.kp,.nil,F.binds fun k d p a c e us=>(b k d p a c e).all us,ok f fd F⟩
theorem TopD.gX2(_:Here P w K mg base)(t:TopD K mg x st d)(ok:∀ T f fd,br K x x st (.ref T) f fd->bc P w K mg base (PB P w) k f fd ps sp)(b:BdD x st ps ps.length fun _=>[]:=by (repeat intro _);exact⟨_,rfl,rfl⟩):pO P w K mg base x k ps [] sp:=by
 obtain⟨f,T,fd,o,n,u,m,F,ho,hs,r⟩:=t.ex
 exact⟨f,fd,[],m,F.kp,.nil,F.B0 ho hs ps.length rfl fun k d p a c e us=>(b T u k d p a c e).all us,ok T f fd F⟩
theorem TopD.aks(_:Here P w K mg base)(t:TopD K mg x st d)(ok:∀ T f fd,br K x x st (.ref T) f fd->bc P w K mg base (PB P w) k f fd ps sp)(b:BdD x st ps (ps.length-1) fun u=>[u]:=by (repeat intro _);exact⟨_,rfl,rfl⟩)(e:ps.length-1+1=ps.length:=by rfl):pO P w K mg base x k ps [d] sp:=by
 obtain⟨f,T,fd,o,n,u,m,F,ho,hs,r⟩:=t.ex
 exact⟨f,fd,[u],m,F.kp,.cons r .nil,F.B0 ho hs _ e fun k d p a c e us=>(b T u k d p a c e).all us,ok T f fd F⟩
theorem TopD.gX(_:Here P w K mg base)(t:TopD K mg x st d)(ok:∀ T f fd,br K x x st (.ref T) f fd->bc P w K mg base (CX1 P w) k f fd ps sp)(b:BdD x st ps ps.length fun _=>[]:=by (repeat intro _);exact⟨_,rfl,rfl⟩):Tx P w K mg base x k ps [] sp:=by
 obtain⟨f,T,fd,o,n,u,m,F,ho,hs,r⟩:=t.ex
 exact⟨f,fd,[],m,F.kp,.nil,F.B0 ho hs ps.length rfl fun k d p a c e us=>(b T u k d p a c e).all us,ok T f fd F⟩
theorem TopD.gXd(_:Here P w K mg base)(t:TopD K mg x st d)(ok:∀ T f fd,br K x x st (.ref T) f fd->bc P w K mg base (CX1 P w) k f fd ps sp)(b:BdD x st ps (ps.length-1) fun u=>[u]:=by (repeat intro _);exact⟨_,rfl,rfl⟩)(e:ps.length-1+1=ps.length:=by rfl):Tx P w K mg base x k ps [d] sp:=by
 obtain⟨f,T,fd,o,n,u,m,F,ho,hs,r⟩:=t.ex
 exact⟨f,fd,[u],m,F.kp,.cons r .nil,F.B0 ho hs _ e fun k d p a c e us=>(b T u k d p a c e).all us,ok T f fd F⟩
structure abq(K:Wl)(C F1 f:QQ)(q:Qm)(st:Stmt):Prop where
 ex:∃ fd:QY,Cw K C f/\br K "__init__" q st .none f fd
theorem abq.g(_:Here P w K mg base)(t:abq K C F1 f q st)(g:mg x=some #[20])(ok:∀ fd,Cw K C f->br K "__init__" q st .none f fd->bc P w K mg base eB k f fd ps sp)(b:Bd "__init__" q st ps:=by (repeat intro _);rfl):adQ P w K mg base x C f k ps sp:=by
 obtain⟨fd,M,F⟩:=t.ex
 exact⟨g,M,fd,F.binds fun k d p a c e us=>(b k d p a c e).all us,ok fd M F⟩
theorem als(a:Ws K #[20] "__init__" = some (some #[64]))(l:K.lookup f=some ⟨oc,od,.func (Ww "__init__" q (eW st) (dA st) (ar st) .none kV doc pm an cw ct),Fz⟩)(c:YH K cw q=true)(k:Wu K #[64]=true)(n:Yg K #[64]=true)(ex:An K C f=true)(kc:Wu K #[20]=true)(sa:Ws K #[20] "__setattr__" = some (some (.builtin "object.__setattr__")))(hd:Yd K C=true)(mr:mroIs K C [C,F1]=true)(xc:Al K C):abq K C F1 f q st:=
 ⟨_,⟨ex,n,kc,sa,hd,⟨_,mr⟩,xc⟩,AY l c k⟩
theorem aiS(ga:Ws K #[20] "__getattribute__" = some (some (.builtin "BaseException.__getattribute__")))(gt:Ws K #[20] "__getattr__" = some none)(cl:Ws K #[20] "__class__" = some (some #[27]))(gg:Ye K #[27] "__get__" = some (some #[32]))(tk:XU K #[27]=some true)(ob:Wy K C #[63]=some true)(be:Wy K C #[60]=some true):Al K C:=
 ⟨ga,gt,cl,gg,tk,ob,be,by
  obtain⟨cd,e,_⟩:=ZT.mp (show(Wy K C #[63])=some true from ob)
  rw[e]
  rfl⟩
end
theorem N8{v:Value}{b:Bool}(h:Wy K C v=some b):(PySem.W.clsIn K C).isSome=true:=by
 unfold Wy at h
 obtain⟨cd,e,_⟩:=ZT.mp h
 rw[e]
 rfl
theorem ahX{t:Value}{b:Bool}(h1:Wy K D #[63]=some true)(h2:YZ K #[66]=some #[95])(h3:YC K t #[66]=some b):yl K t #[66]=some b:=by
 unfold yl
 dsimp only
 rw[if_pos (by rw[N8 h1,h2];decide)]
 exact h3
theorem alx{b:Bool}(h1:Wy K D #[63]=some true)(h2:YZ K #[66]=some #[95])(h3:YC K #[20] #[66]=some b)(ne:(Wm C==Wm D)=false):
  Wo K #[20] #[66]=some b:=by
 unfold Wo
 rw[if_neg (by rw[ne];decide)]
 exact ahX h1 h2 h3
theorem W8(h:YC K #[20] (.type "ValueError")=some true):Wo K #[20] (.type "ValueError")=some true:=by
 unfold Wo
 rw[if_neg (by intro z;cases beq_iff_eq.mp z)]
 unfold yl
 dsimp only
 rw[if_pos #[3]]
 exact h
theorem Oh{F:QQ}(h0:YC K (.ref F) #[60]=some true)(h1:Wy K F #[63]=some true)(h2:YZ K (.ref F)=some #[95])(h3:YC K #[20] (.ref F)=some true):
  YR K #[20] (.ref F)=some true:=by
 unfold YR
 rw[if_pos (by rw[h0];decide)]
 exact ahX h1 h2 h3
structure IY(K:Wl)(C D:QQ):Prop where
 o:Wy K D #[63]=some true
 t:YZ K #[66]=some #[95]
 u:YC K #[20] #[66]=some false
 e:(Wm C==Wm D)=false
structure Und(K:Wl)(C D:QQ):Prop where
 o:Wy K D #[63]=some true
 t:YZ K #[66]=some #[95]
 u:YC K #[20] #[66]=some true
 e:(Wm C==Wm D)=false
structure Exm(K:Wl)(C:QQ):Prop where
 b:YC K #[20] #[60]=some true
 o:Wy K C #[63]=some true
 t:YZ K #[20]=some #[95]
 u:YC K #[20] #[20]=some true
theorem IY.k(h:IY K C D):Wo K #[20] #[66]=some false:=alx h.o h.t h.u h.e
theorem Exm.k(h:Exm K C):YR K #[20] #[20]=some true:=Oh h.b h.o h.t h.u
theorem all_mk{l:Yx}(hfa:mg "law" = some (.ref fa))(T5:mg "Parted" = some (.ref dU))(Oj:mg "Lowering" = some (.ref dv))(dM:mg "TooGreat" = some (.ref bW))(eU:mg "NoPower" = some (.ref cT))(cO:mg "FigureError" = some (.ref dh))(iA:mg "NoFigures" = some (.ref sV))(iB:mg "NoMachine" = some (.ref sW))(pT:mg "NoName" = some (.ref DA))(wq:mg "NoRow" = some (.ref Hz))(pU:mg "NoSome" = some (.ref DB))(pV:mg "NoText" = some (.ref DC))(oC:mg "TooWide" = some (.ref BL))(aZ:mg "len" = none)(aL:mg "range" = none)(mZ:mg "list" = none)(aV:mg "tuple" = none)(mY:mg "dict" = none)(dm:mg "enumerate" = none)(sP:mg "int" = none)(av:mg "isinstance" = none)(sy:mg "bool" = none)(AB:mg "reversed" = none)(Hy:mg "min" = none)(abd:mg "str" = none)(Fd:mg "divmod" = none)(fJ:mg "ValueError" = none)(tF:mg "MOST_WIDE" = some (.int 1000 FH))(wN:abq K bW dh wQ "TooGreat.__init__" fV)(DN:dI K mg "is_whole" sk)(sC:dI K mg "is_whole_from" ig)(HL:dI K mg "need_whole" so)(TC:dI K mg "halved" EU)(RP:TopD K mg "figures" Cn (.int 10))(ad0:TopD K mg "room" Pd (.int 0))(ad1:dI K mg "told" Pe)(RS:dI K mg "sign_at" Co)(N3:dI K mg "power_of" Aw)(C2:TopD K mg "reached_rooms" mT (.int 0))(HM:dI K mg "with_rooms" eR)(HK:dI K mg "columns_of" oy)(RN:dI K mg "back_of" Cm)(AH:Tz K dU "Parted.__init__" cW)(BW:DI K dU "is_done" "Parted.is_done" lX)(AI:DI K dU "wait_for" "Parted.wait_for" lA)(rM:DI K dU "next_splitter" "Parted.next_splitter" eO)(Ak:DI K dU "split_off" "Parted.split_off" eP)(BX:DI K dU "part_by" "Parted.part_by" lY)(AL:dI K mg "unparted_groups" dF)(abv:dI K mg "least" BD)(RQ:dI K mg "read_on" wJ)(TH:dI K mg "raised" EV)(C1:dI K mg "power_between" mS)(wM:Tz K dv "Lowering.__init__" dR)(BV:DI K dv "begin" "Lowering.begin" lW)(CY:DI K dv "step" "Lowering.step" mQ)(CW:DI K dv "sign" "Lowering.sign" mP)(abu:TopD K mg "grown" Dw (.int 200))(HF:dI K mg "_law_mixed" se)(Fi:dI K mg "_law_spread" me)(J5:dI K mg "_law_draw" tU)(HJ:dI K mg "_law_there" sj)(HH:dI K mg "_law_signs" ox)(AK:dI K mg "_law_machine_of" eY)(HG:dI K mg "_law_round" sh)(C0:dI K mg "_law_steadied" eT)(Fh:dI K mg "_law_is_row" pM)(AJ:dI K mg "_law_is_machine" lC)(CZ:dI K mg "_law_in_order" mR)(DM:dI K mg "_law_product" oV)(HI:dI K mg "_law_stays" si)(J6:dI K mg "_law_made" tV)(N2:dI K mg "_law_met" Av)(DL:dI K mg "_law_no_base" oU)(wX:dI K mg "_law_others" ma)(wj:TopD K mg "lowered" wI (.int 200))(tj:dI K mg "_law_refused" lD)(BZ:dI K mg "_law_no_powers" lZ)(HE:dI K mg "_law_field" sd)(ir:IX K dU)(aj7:Ws K (.ref dU) "group_of" = some none)(aj8:Ws K (.ref dU) "members" = some none)(aj9:Ws K (.ref dU) "waiting" = some none)(aka:Ws K (.ref dU) "is_waiting" = some none)(iU:IX K dv)(amy:Ws K (.ref dv) "rows" = some none)(amz:Ws K (.ref dv) "signs" = some none)(amA:Ws K (.ref dv) "power" = some none)(amB:Ws K (.ref dv) "weights" = some none)(xc:Al K bW)(xm:Exm K bW)(xn:Al K cT)(wH:Yq K cT VEm "ValueError.__new__" = true)(xf:Und K bW dh)(yf:Und K cT dh)(zf:Exm K dh)(ahQ:Ws K (.ref bW) "most" = some none)(aki:Ye K (.ref dh) "__getattribute__" = some (some (.builtin "type.__getattribute__")))(akj:yY K dh #[95]=true)(akh:yZ K (.ref dh) #[95] "__init__" = some (.val (.builtin "ValueError.__init__")))(kve:YC K (.ref bW) (.type "ValueError")=some true)(kvn:YC K (.ref cT) (.type "ValueError")=some true)(gn:IY K bW cT)(ng:IY K cT bW)(o1:IY K bW sV)(o2:IY K bW sW)(o3:IY K bW DA)(o5:IY K bW Hz)(o6:IY K bW DB)(o7:IY K bW DC)(o8:IY K bW BL)(n1:IY K cT sV)(n2:IY K cT sW)(n3:IY K cT DA)(n5:IY K cT Hz)(n6:IY K cT DB)(n7:IY K cT DC)(n8:IY K cT BL)(agE:dI K mg "law" aaI):
  ∃ fd:QY,(∀ (s:Ql) (v:Value),QT s fd ⟨[v],[]⟩ [("_law_script",v)])/\∀ base:Heap,K.In base->base.Ns qG mg->bc l.prog w K mg base eB 9 fa fd ["_law_script"] (Rp K):=by
 refine agE.law hfa (fun _ _ _ _ _ _ _=>rfl) fun base f fd agp=>?_
 have I:Here l.prog w K mg base:=⟨⟩
 have pc:=(show J3 K dU from⟨ir,aj7,aj8,aj9,aka⟩)
 have lc:=(show abr K dv from⟨iU,amy,amz,amA,amB⟩)
 have pb:=wN.g I dM fun _ xi F=>acj F xi ahQ cO aki akj akh
 have iq:=DN.g I fun _ _ F=>L6 F av sP sy
 have cX:=sC.g I fun _ _ F=>aci F iq
 have og:=HL.g I fun _ _ F=>ack F cX
 have DF:=TC.g I fun _ _ F=>Sv F
 have BQ:=RP.g I fun _ _ _ F=>OP F og DF AB aV
 have DH:=ad0.gd I fun _ _ _ F=>acq F
 have MX:=ad1.g I fun _ _ F=>acr F DH
 have wg:=RS.g I fun _ _ F=>OW F MX BQ
 have iq:=DN.g I fun _ _ F=>Il F av sP sy
 have cX:=sC.g I fun _ _ F=>Y2 F iq
 have lL:=N3.g I fun _ _ F=>Z2 F aL
 have iM:=C2.gd I fun _ _ _ F=>OT F mZ
 have oh:=HM.g I fun _ _ F=>Z7 F aV
 have rL:=HK.g I fun _ _ F=>acg F aL aV
 have BP:=RN.g I fun _ _ F=>Y0 F dm
 have BO:=AH.g I T5 ir fun _ _ F=>OQ F pc aZ mZ aL mY dm
 have Ag:=BW.g I ir fun _ _ F=>Sw F pc aZ
 have oZ:=AI.g I ir fun _ _ F=>OX F pc
 have lJ:=rM.g I ir fun _ _ F=>Y9 F pc mZ
 have rD:=Ak.g I ir fun _ _ F=>Z4 F pc oZ aZ mY
 have Ah:=BX.g I ir fun _ _ F=>SE F pc rD aZ
 have iO:=AL.g I fun _ _ F=>aeX F pc rL BP BO Ag lJ Ah mZ mY
 have hX:=abv.g I fun _ _ F=>Y3 F iM oh iO dm mY aZ
 have BR:=RQ.g I fun _ _ F=>OU F aL
 have DG:=TH.g I fun _ _ F=>SG F lL hX BR tF aL aZ aV
 have cJ:=C1.g I fun _ _ F=>aia F cX
 have pd:=wM.g I Oj iU fun _ _ F=>Y4 F lc lL aL
 have DE:=BV.g I iU fun _ _ F=>Sz F
 have HB:=CY.g I iU fun _ _ F=>Y7 F lc
 have HA:=CW.g I iU fun _ _ F=>Y6 F lc
 have AE:=abu.gX2 I fun _ _ _ F=>Su F DE HB HA pb aL aZ aV
 have rF:=HF.g I fun _ _ F=>Y8 F aZ
 have pC:=Fi.g I fun _ _ F=>SI F rF aZ aL Fd
 have aO:=J5.g I fun _ _ F=>ach F
 have rK:=HJ.g I fun _ _ F=>Z6 F aO Hy
 have rH:=HH.g I fun _ _ F=>Z3 F aO aL sP aV
 have eV:=AK.g I fun _ _ F=>Fy F aO rK rH aL aV
 have rG:=HG.g I fun _ _ F=>SH F aZ aL Hy
 have hU:=C0.g I fun _ _ F=>Im F aO rG aL aZ aV
 have di:=Fh.g I fun _ _ F=>Sy F av aV sP sy aZ
 have iL:=AJ.g I fun _ _ F=>Sx F di av aV aZ
 have mL:=CZ.g I fun _ _ F=>Z1 F aZ aL
 have dW:=DM.g I fun _ _ F=>OS F aL
 have rJ:=HI.g I fun _ _ F=>Z5 F aL aZ
 have sY:=J6.g I fun _ _ F=>SA F aO eV hU DG dW
 have Ai:=N2.g I fun _ _ F=>aeW F dW aZ aL
 have oK:=DL.g I fun _ _ F=>SD F abd
 have dw:=wX.gH I fun _ _ F=>acn F xn iA iB pT wq pU pV oC n1.k n2.k n3.k n5.k n6.k n7.k n8.k av
 have dy:=wj.gX I fun _ _ _ F=>Q7 F cJ eU wH
 have cE:=wj.gXd I fun _ _ _ F=>Q7 F cJ eU wH
 have cQ:=tj.g I fun _ _ F=>acp F xn cO eU dM (Oh zf.b zf.o zf.t yf.u) ng.k (W8 kvn) dy cE dw av fJ
 have lK:=BZ.g I fun _ _ F=>Z0 F aO oK cQ aZ aL
 have dw:=wX.gH I fun _ _ F=>acm F xc iA iB pT wq pU pV oC o1.k o2.k o3.k o5.k o6.k o7.k o8.k av
 have dy:=wj.gX2 I fun _ _ _ F=>Y5 F pd cJ AE hX
 have cE:=wj.aks I fun _ _ _ F=>Y5 F pd cJ AE hX
 have we:=(pO.calm dy)
 have sZ:=(pO.calm cE)
 have cQ:=tj.g I fun _ _ F=>aco F xc cO eU dM (Oh zf.b zf.o zf.t xf.u) gn.k (W8 kve) dy cE dw av fJ
 have rE:=HE.g I fun _ _ F=>Y1 F pb.M ahQ dM xm.k dy cE di
 exact aeV agp pC aO sY we sZ iL mL rJ Ai hX wg cQ rE lK
theorem walk{l:Yx}{q:Qj}{XP:(Qm->Option Value)->Heap->Prop}{YP:World->Heap->Prop}{d:DefRec}{K:Params->Wl}(hn:l.most=some 63)(hdf:d.params.defaults=[])(hY:∀ (w:World) (h:Heap),YP w h->(K w.params).In h)(F:∀ (w:World) (mg:Qm->Option Value) (fa:QQ) (h:Heap),(K w.params).In h->h.Ns qG mg->mg d.name=some (.ref fa) ->
   ∃ fd:QY,(∀ (s:Ql) (u:Value),QT s fd ⟨[u],[]⟩ [("_law_script",u)])/\∀ base:Heap,(K w.params).In base->base.Ns qG mg->bc l.prog w (K w.params) mg base eB 9 fa fd ["_law_script"] (Rp (K w.params))):
  Xd q loose XP YP l.row.toRowW d [] (fun f vs=>XX f vs):=
 L2.ac9 (n:=63) (k:=9) (x := "_law_script") (CX:=fun _=>eB) (sp:=fun w=>Rp (K w.params)) hn #[7] hdf ⟨rfl,by decide,by decide⟩ hY F (fun _ _ a ns hl _ hS=>⟨a,ns,rfl,hS,hl,fun _=>rfl⟩) fun _ _ _ _ _ z=>z
end My
def PySem.W.Fast.tw2593459189893507645:=0
def PySem.W.Fast.tw17027631824087487256:=0
def PySem.W.Fast.tw13242864014027960734:=0
def PySem.W.Fast.tw3533956459073309235:=0
def PySem.W.Fast.tw8072871389196624241:=0
def PySem.W.Fast.tw9607944234769708532:=0
def PySem.W.Fast.tw1558403057705427901:=0
def PySem.W.Fast.tw979079949591003830:=0
def PySem.W.Fast.tw908903634102777735:=0
def PySem.W.Fast.tw16074802185797830586:=0
def PySem.W.Fast.tw878346166969035271:=0
def PySem.W.Fast.tw680479238856550085:=0
def PySem.W.Fast.tw8410653069492946962:=0
def PySem.W.Fast.tw13498419863374400390:=0
def PySem.W.Fast.tw14794763192511055476:=0
def PySem.W.Fast.tw15401910753732611598:=0
def PySem.W.Fast.tw9536543097659987166:=0
def PySem.W.Fast.tw15311618921449708598:=0
def PySem.W.Fast.tw11754345205563160031:=0
def PySem.W.Fast.tw326810072861479345:=0
def PySem.W.Fast.tw6749733027140122702:=0
def PySem.W.Fast.tw9975398488187438061:=0
def PySem.W.Fast.tw6500125118975179575:=0
def PySem.W.Fast.tw4004366652237160091:=0
def PySem.W.Fast.tw1375877830016066357:=0
def PySem.W.Fast.tw6782380440475236684:=0
def PySem.W.Fast.tw5674282730401612077:=0
def PySem.W.Fast.tw14406270822684192115:=0
def PySem.W.Fast.tw10964142816181836853:=0
def PySem.W.Fast.tw18102586689899645675:=0
def PySem.W.Fast.tw3327727096562985594:=0
def PySem.W.Fast.tw484367969385120744:=0
def PySem.W.Fast.tw16222609432947920212:=0
def PySem.W.Fast.tw11393997240164174917:=0
def PySem.W.Fast.tw15805600600058562719:=0
def PySem.W.Fast.tw9643333736048024798:=0
def PySem.W.Fast.tw8734169147981037501:=0
def PySem.W.Fast.tw4102021711967395346:=0
def PySem.W.Fast.tw13234446493154347708:=0
def PySem.W.Fast.tw2718450084071002743:=0
def PySem.W.Fast.tw9309418847143005221:=0
def PySem.W.Fast.tw18413564996708909442:=0
def PySem.W.Fast.tw11426431616451897723:=0
def PySem.W.Fast.tw10491228640111533590:=0
def PySem.W.Fast.tw9031142797737494252:=0
def PySem.W.Fast.tw3804057268791698346:=0
def PySem.W.Fast.tw7071994565679377371:=0
def PySem.W.Fast.tw5844821866114077474:=0
def PySem.W.Fast.tw1800055085454982304:=0
def PySem.W.Fast.tw2026605737908773332:=0
def PySem.W.Fast.tw6275413122526695533:=0
def PySem.W.Fast.tw8063128266558860229:=0
def PySem.W.Fast.tw12145206002844945601:=0
def PySem.W.Fast.tw6671851745109778355:=0
def PySem.W.Fast.tw7409918436070408099:=0
def PySem.W.Fast.tw2758696915069815748:=0
def PySem.W.Fast.tw6179839388662699666:=0
def PySem.W.Fast.tw16552719749757784790:=0
def PySem.W.Fast.tw9240381043881717459:=0
def PySem.W.Fast.tw12198757389201625382:=0
def PySem.W.Fast.tw1795578838441042745:=0
def PySem.W.Fast.tw7456636631137832153:=0
def PySem.W.Fast.tw10486780193881947500:=0
def PySem.W.Fast.tw9838111142560423508:=0
def PySem.W.Fast.tw6801538281274047231:=0
def PySem.W.Fast.tw15606935468778765243:=0
def PySem.W.Fast.tw10833291926732863445:=0
def PySem.W.Fast.tw10967498489136741062:=0
def PySem.W.Fast.tw13419741550490912422:=0
def PySem.W.Fast.tw7180392370816706141:=0
def PySem.W.Fast.tw6415240412314904397:=0
def PySem.W.Fast.tw6540840767081712753:=0
def PySem.W.Fast.tw13228540747520357700:=0
def PySem.W.Fast.tw10960357694441511808:=0
def PySem.W.Fast.tw4277445193147538400:=0
def PySem.W.Fast.tw14033885174313940465:=0
def PySem.W.Fast.tw12229785222570364586:=0
def PySem.W.Fast.tw11569936414883621210:=0
def PySem.W.Fast.tw5009191365500573259:=0
def PySem.W.Fast.tw13672337777974811247:=0
def PySem.W.Fast.tw13460811551492020874:=0
def PySem.W.Fast.tw18352823946920523639:=0
def PySem.W.Fast.tw1857922033857661013:=0
def PySem.W.Fast.tw2522511391448316036:=0
def PySem.W.Fast.tw17912558619446252119:=0
def PySem.W.Fast.tw2032990703330614381:=0
def PySem.W.Fast.tw17142162904516205136:=0
def PySem.W.Fast.tw15838406277775683536:=0
def PySem.W.Fast.tw17211818377099861929:=0
def PySem.W.Fast.tw7091378676453937693:=0
def PySem.W.Fast.tw10780948943880452606:=0
def PySem.W.Fast.tw6949237787471728995:=0
def PySem.W.Fast.tw8035386036432171716:=0
def PySem.W.Fast.tw15325067819073780149:=0
def PySem.W.Fast.tw4239444227147137461:=0
def PySem.W.Fast.tw830608001224913825:=0
def PySem.W.Fast.tw2442851771756996865:=0
def PySem.W.Fast.tw14449987719633607903:=0
def PySem.W.Fast.tw18157433771477184294:=0
def PySem.W.Fast.tw14224783415305805377:=0
def PySem.W.Fast.tw11831387850971903621:=0
def PySem.W.Fast.tw15482040885309954243:=0
def PySem.W.Fast.tw2764823305357027738:=0
def PySem.W.Fast.tw8439305809691091777:=0
def PySem.W.Fast.tw12556764942844028843:=0
def PySem.W.Fast.tw3097485260800775869:=0
def PySem.W.Fast.tw13294645095515520862:=0
def PySem.W.Fast.tw10295321251247445019:=0
def PySem.W.Fast.tw1371472730732279892:=0
def PySem.W.Fast.tw12416667847529327937:=0
def PySem.W.Fast.tw1923760041848431500:=0
def PySem.W.Fast.tw5386065513063195803:=0
def PySem.W.Fast.tw2553446430717513132:=0
def PySem.W.Fast.tw1731836598672961981:=0
def PySem.W.Fast.tw4005423094904852141:=0
def PySem.W.Fast.tw2196629460420533085:=0
def PySem.W.Fast.tw11822054960836184838:=0
def PySem.W.Fast.tw5729993798655807742:=0
def PySem.W.Fast.tw18087250237548737676:=0
def PySem.W.Fast.tw982453812071373280:=0
def PySem.W.Fast.tw12696341570909187740:=0
def PySem.W.Fast.tw11020600166862507891:=0
def PySem.W.Fast.tw955855544364999184:=0
def PySem.W.Fast.tw5837192156212685349:=0
def PySem.W.Fast.tw13681444075697498875:=0
def PySem.W.Fast.tw5507045170289594951:=0
def PySem.W.Fast.tw7657533443273831471:=0
def PySem.W.Fast.tw11055764104311468473:=0
def PySem.W.Fast.tw16347595165021347245:=0
def PySem.W.Fast.tw12031393512097720130:=0
def PySem.W.Fast.tw8086262618151294566:=0
def PySem.W.Fast.tw12338628627218798722:=0
def PySem.W.Fast.tw9951809120785486357:=0
def PySem.W.Fast.tw5508445514379062921:=0
def PySem.W.Fast.tw10022687236103130386:=0
def PySem.W.Fast.tw6849230542790780006:=0
def PySem.W.Fast.tw13325894201642252842:=0
def PySem.W.Fast.tw12847195038537124021:=0
def PySem.W.Fast.tw8591883345221457618:=0
def PySem.W.Fast.tw11308097714388426238:=0
def PySem.W.Fast.tw7611618000313955382:=0
def PySem.W.Fast.tw16904947787434095310:=0
def PySem.W.Fast.tw12080298778605160630:=0
def PySem.W.Fast.tw5641674868580710955:=0
def PySem.W.Fast.tw3227477998845309611:=0
def PySem.W.Fast.tw9565298374633004317:=0
def PySem.W.Fast.tw542565967039474221:=0
def PySem.W.Fast.tw2675645909774040508:=0
def PySem.W.Fast.tw10965209337561738828:=0
def PySem.W.Fast.tw9581202251028769431:=0
def PySem.W.Fast.tw559963817634365093:=0
def PySem.W.Fast.tw10701780869606927296:=0
def PySem.W.Fast.tw13943484848178447288:=0
def PySem.W.Fast.tw11317439432505835350:=0
def PySem.W.Fast.tw12749760960126192056:=0
def PySem.W.Fast.tw1756660044275944323:=0
def PySem.W.Fast.tw16714600382272589056:=0
def PySem.W.Fast.tw10554298548927604258:=0
def PySem.W.Fast.tw6372213565677725125:=0
def PySem.W.Fast.tw15420713913324289584:=0
def PySem.W.Fast.tw23570308901763564:=0
def PySem.W.Fast.tw3927383211433953640:=0
def PySem.W.Fast.tw16511322245346690270:=0
def PySem.W.Fast.tw15322726092873301949:=0
def PySem.W.Fast.tw10701745024334529404:=0
def PySem.W.Fast.tw4862250621020702064:=0
def PySem.W.Fast.tw13135533397059535741:=0
def PySem.W.Fast.tw5183255106945235339:=0
def PySem.W.Fast.tw9513620829342490319:=0
def PySem.W.Fast.tw2583881225536156471:=0
def PySem.W.Fast.tw17158763971172110894:=0
def PySem.W.Fast.tw8849240091987822963:=0
def PySem.W.Fast.tw14131308242501106329:=0
def PySem.W.Fast.tw17946301572441042115:=0
open PySem PySem.W PyProof.Rows
set_option maxRecDepth 100000 in
set_option maxHeartbeats 0 in
theorem PySem.Challenge.cw_figuretell_k34_whole_lowered_holds : PySem.Challenge.rw_figuretell_k34_whole_lowered.Holds := by
 w_on; o_law; k_head; (case hw=>w_witness2)
 k_fill
 refine My.walk (l:=PySem.Challenge.rw_figuretell_k34_whole_lowered) rfl rfl (fun w h Y=>PySem.W.kIn_of Y) ?F
 case F =>
  intro w mg fa h KX G hmg
  apply My.all_mk hmg
  all_goals first
   | exact PySem.W.mg_none_of KX G (by k_is)
   | (refine' PySem.W.mg_of KX G ?qa; (case qa=>k_is))
   | (refine' My.amE KX G ?qa ?ql ?qc ?qk; (case qa=>k_is); (case ql=>k_is); (case qc=>k_is); (case qk=>k_is))
   | (refine' My.amD KX G ?qa ?ql ?qc ?qk ?qt ?qr; (case qa=>k_is); (case ql=>k_is); (case qc=>k_is); (case qk=>k_is); (case qt=>k_is); (case qr=>first | rfl | exact ⟨_,rfl⟩))
   | (refine' My.alH ?qa ?ql ?qc ?qk ?qn; (case qa=>k_is); (case ql=>k_is); (case qc=>k_is); (case qk=>k_is); (case qn=>k_is))
   | (refine' My.alr ?qa ?ql ?qc ?qk ?_ ?_ ?_; (case qa=>k_is); (case ql=>k_is); (case qc=>k_is); (case qk=>k_is); all_goals first | k_is | k_exc | decide | kernel_rfl)
   | (refine' My.als ?qa ?ql ?qc ?qk ?qn ?_ ?_ ?_ ?_ ?_ ?qxc; (case qa=>k_is); (case ql=>k_is); (case qc=>k_is); (case qk=>k_is); (case qn=>k_is); (case qxc=>refine' My.aiS ?_ ?_ ?_ ?_ ?_ ?_ ?_ <;> k_is); all_goals first | k_is | k_exc | decide | kernel_rfl)
   | (refine' My.aiS ?_ ?_ ?_ ?_ ?_ ?_ ?_ <;> k_is)
   | k_is
   | k_exc
   | (refine ⟨?_,?_,?_,?_⟩ <;> first | k_is | k_exc | decide | kernel_rfl)
   | decide
   | kernel_rfl
