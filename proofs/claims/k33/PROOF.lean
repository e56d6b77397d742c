import PyProof.Rows.All
import KE.KItemsList
import KE.KSortTup
import KE.RegKIsAll
import Lean
import PySem.Challenge.RW_cellpatches_k33_whole_touching
open PySem renaming wpAny_bind->QL,wpAny_pure->QP,Shared->QT,starEach->Q8,sizeLine->Q_,mainGlobals->Rm,Program->Ru,bootBuiltins->Rv,wpAny_call_entry->RJ,Around->RQ,wpAny_newObj_type->RU,wpAny_dictEntries->RW,behindInMarks->RX,wpAny_mono->R8,compareOp->R_,wpAny_typeNameOfWhole_itemiter->Sd,wpAny_callSpecial?_slot->Sk,DictEntry->Sn,sysModules->So,wpAny_truthy_bool->Ss,wpAny_typeNameOf_itemiter->Sw,sizeLine_eq->SA,mem_of_lookup->SF,wpAny_holding->SH,wpAny_dictEpoch->SM,wpAny_isOneOf_itemiter->SR,wpAny_setField_rec->SW,attributeBase->SX,assignEach->S_,wpAny_field->Tg,wpAny_typeNameOfWhole_keyiter->Tj,tupleKind->Tn,tupleKind_room_in1->Tq,backTo->Tr,wpAny_passesOwn->Tw,builtinLookup_eq_fast->Tx,Builtin->TB,wpAny_attempt->TC,rawInt->TH,Keyword->TN,FuncData->TY,wpAny_of_eq->T1,keywordEach->T2,wpAny_typeNameOf_keyiter->T3,wpAny_specialOf->T_,pyNext->Ug,wpAny_setField->Um,binaryOp->Uo,wpAny_isInstance->Ut,typeLookup_type->UA,sliceBounds->UB,wpAny_Call_Name_kw->UJ,NameKind->UL,wpAny_fieldsOf->UO,isSubtype_type->UP,firstArgMember->UQ,swapsWith->UW,foldedSetIterable->UX,wpAny_newList->U4,storedH->U5,codeAny->U6,backToKw->U7,wpAny_notOrdered_dict->Vi,wpAny_execs_nil->Vj,letOwnedTupleGo->Vk,codeAny_builtin->Vm,IsItemIter->Vw,wpAny_newTuple->VB,swapsWithSole->VJ,plainId_quiet->VL,dictSetHashed->VN,Paired->VQ,wpAny_pyIter_slot->V1,wpAny_pyIter_list->V2,wpAny_assign_Name->V3,wpAny_Call_method->V4,entryOfKey->V5,callerA->V6,call_meets->V7,codeAny_mono->Wg,call_meetsIn->Wh,wpAny_forIn_list->Wo,wpAny_eqBool_int->Wq,noFill_tuple_add->Wr,setField->Ww,wpAny_updateSeq->WB,valueAt->WC,size_of_entries->WD,Fin->WJ,recursionLimit->WU,isSubtype_stop->WV,wpAny_rule->W8,wpAny_comprehension_free->W9,typeLookup->W_,wpAny_handled->Xh,seq_tuple_add->Xi,notedBy->Xj,getItem->Xk,call->Xm,IsItemIterOut->Xu,BindsTo->Xv
open List renaming length_map->QM,getElem?_eq_getElem->QN,mem_cons_of_mem->QQ,mem_cons_self->QR,getD_eq_getElem?_getD->QS,mem_map->QU,length_cons->QV,size_toArray->QW,map_cons->QX,getElem?_map->Q1,length_append->Q2,getElem?_eq_some_iff->Q4,getElem?_set_ne->Q7,mem_cons->Q9,range->Rf,replicate->Rg,getElem?_set_self->Rh,map_map->Rj,mem_of_getElem?->Rn,all_eq_true->Rt,toArray->Rz,getElem?_append_right->RD,Nodup->RE,pairwise_cons->RF,mem_filter->RG,mem_append_right->RH,mem_range->RL,map_congr_left->RM,getElem?_append_left->RN,countP_eq_length_filter->RO,range'->RY,nodup_cons->RZ,mem_append->R0,getElem?_cons_zero->R4,getElem?_cons_succ->R5,pairwise_iff_getElem->Sa,length_nil->Sb,sum_cons->Se,getElem_map->Sf,nil_append->Si,filter_cons->Sj,perm_ext_iff_of_nodup->Sm,pairwise_map->Sq,mem_iff_getElem->Sy,countP_congr->SE,replicate_succ->SG,lookup_cons->SN,getElem_mem->SO,length_filter_le->SS,nodup_append->SY,map_append->S0,length_range->S1,flatMap_cons->S2,append_nil->S3,getElem?_replicate->S8,ext_getElem->Tb,zip_cons_cons->Th,flatten_cons->Ts,any_cons->Tt,getElem?_range->TJ,map_nil->TM,mem_singleton->TU,getElem_range->TV,find?_cons->TX,length_pos_of_mem->T6,nodup_nil->Ua,getElem?_eq_none->Ub,mem_flatMap->Uh,cons_append->Ui,mem_append_left->Uk,mem_zipIdx_iff_getElem?->Uq,all_cons->Ur,getElem_of_mem->Us,all_map->Uw,length_erase_of_mem->UG,append_assoc->UH,length_eq_zero_iff->UM,range'_succ->US,range_succ_eq_map->UT,pairwise_flatMap->UY,length_zip->UZ,length_replicate->U0,foldl_cons->U1,filterMap_cons->Vh,set_cons_zero->Vt,set_cons_succ->Vu,length_range'->Vv,length_take->VI,of_mem_zip->VT,forIn_cons->VU,getElem?_zip_eq_some->Wj,drop_eq_getElem_cons->Wk,pairwise_singleton->Wy,pairwise_lt_range'->Wz,mem_iff_getElem?->WM,getElem?_toArray->WN,getElem?_reverse->WO,any_map->WQ,range_eq_range'->W2,pairwise_append->W3,mem_erase_of_ne->W4,getElem?_mapIdx->W5,length_reverse->Xc,length_flatMap->Xd,mem_filterMap->Xq,contains_cons->Xr,reverse_cons->XC,foldl->XD
open PySem.Heap renaming get?_push_of_some->QO,lt_size->QY,get?_push_size->Q3,get?_update_self->R1,SameBut->R9,get?_update_other->T7,size_push->Uz,ExtBut->UN,get?_none_of_le->W6
open PySem.W renaming Frag->QZ,mg_none_of->Rq,nsIn->RB,kia_one->Sh,fnOf->SI,keepIn->S6,codeIn->T4,mg_of->UD,methodObj->Vn,instObj->VF,lookIn->VO,kitOne->VP,cellsFrom_some->Wi,kitx_list->WY,kitx_dict->WZ,plainGet->Xa,OpenLaw->Xn,findIn->Xz
open Nat renaming le_refl->Q0,ne_of_lt->Rl,lt_of_lt_of_le->Rr,zero_le->Ry,lt_irrefl->RC,le_trans->RI,ne_of_gt->RT,le_of_lt->SV,lt_trans->S7,add_comm->Uc,mul_comm->Uy,le_antisymm->Va,mul_le_mul->Vg,lt_of_le_of_lt->Vy,zero_add->VH,lt_succ_self->VR,le_succ->Wa,div_div_eq_div_mul->WL,succ_pos->W0,mul_le_mul_right->Xb,add_right_comm->XA
open Array renaming length_toList->Q5,getElem?_eq_getElem->RK,getElem?_toList->SQ,append_assoc->Vq,getElem?_eq_some_iff->V0,getElem?_eq_none->WA,isEmpty_iff->Xx,toList_inj->XF
open Bool renaming and_eq_true->Q6,false_ne_true->Ra,false_eq_true->Ro,and_eq_false_iff->SU,not_eq_true'->Tu,or_eq_true->TZ,and_false->Ve,or_false->Vx,eq_iff_iff->VZ,not_false->Wm,false_and->Wn,and_eq_true_iff->W7
open PySem.Value renaming ref->Rc,none->Rp,bool->SD,type->UC,str->WH,int->WI
open PySem.Heap.SameBut renaming update->Rk,refl->U2
open Option.some renaming inj->Rx
open PySem.Obj renaming mapSeq->RA,data_mapFields->Ti,data_mapDictKeys->Up,mapFields->UR,isFreed_of_fields->U_,isFreed_of_dict->Vo
open PySem.PassesOwn renaming never->RP
open PyProof.Rows renaming seqObj->RS,callWith_type1->Sx,envOfC->S5,IntsAre->Ta,lt_int->UK,callWith_builtin1->U8,kindOf->Vc,get?_update_seq->Vl,AllBare->Vr,listUpdate_at->VM,failedOf->Wx,seqEpoch_at->WE,entry_list_sort->WG,slot_list_sort->WT,args_list_sort->WW,subscriptTail_builtinR->Xy
open Ne renaming symm->R3
open PySem.Builtin.Dict_items renaming ownsTuple->R6,ownedTupleIsFree->Sr,pairFromOwner->Sz,ownedTupleFields->Uu
open ForInStep renaming yield->R7
open PySem.F renaming slot_dict_itemiterator_next->Sg,slot_dict_get->SJ,slot_dict_keyiterator_next->To,plainAttrs_list->TK,plainAttrs_dict->TL,plain_extend_loop->TQ,entry_dict_get->TR,args_dict_itemiterator_next_1->Ud,entry_dict_itemiterator_next->Ul,args_tuple_add_2->Uv,entry_tuple_add->UE,slot_tuple_add->UI,slot_dict_update->VS,args_dict_keyiterator_next_1->VW,args_dict_get_3->V9,args_dict_get_2->V_,entry_dict_keyiterator_next->We,type_dict_get->Wv,slot_dict_items_iter->Xf
open PySem.Str renaming ofString->Su
open List.Pairwise renaming imp->Sv,nil->Wb
open PySem.Paired renaming length->SK
open PySem.Builtin.Dict renaming showsAll->S9,entriesForEmpty->Vd,updateFrom->VD,mergeDict->VG
open False renaming elim->Tc
open True renaming intro->Td
open PySem.Calls renaming callWith_builtin->Te,spliced_cons->Tf,spliced_nil->T8,evalArgs_plain->Uj,call_function_entry->Ux,Name_function_global->VY
open PySem.Builtin.List renaming listTooLong->Tp,listExtendWith->T9,listSameRef->VA,listUpdate->VC
open Int renaming toNat_natCast->Tv,emod_lt_of_pos->Vz,emod_nonneg->Wc
open PySem.Builtin.Str renaming occurrences->Tz
open Option renaming isSome_iff_exists->TF,isSome_map->Vs,getD_some->Xo,getD_none->Xp
open PUnit renaming unit->T5
open PySem.Around renaming under_plainId->Ue
open PySem.Builtin.SmallTypes renaming newClass->UU
open PySem.Data renaming dict->U3,fields->Xg
open Prod renaming ext->U9
open Int.ofNat renaming inj->Vb
open PySem.Shared renaming TypeIs->Vf
open PySem.Builtin.Tuple renaming tupleHashOf->Vp
open Sum renaming inl->VE,inr->V8
open PySem.Expr renaming Name->VX
open Classical renaming choose_spec->Wf,not_forall->Wl,not_imp->WK,choose->WS
open PySem.SeqAt.EqAt renaming str_int->Ws,int_str->Wt,int_int->Wu
open PySem.Heap.IsList renaming «at»->WR
open PySem.Value.type renaming inj->WX
open List.Perm renaming refl->Xe
open PySem.SeqAt renaming EqAt->Xl
open List.cons renaming inj->Xs
open PySem.NameKind renaming free->XB
open Function renaming comp->XE
set_option maxHeartbeats 0
set_option Elab.async false
set_option linter.all false
set_option maxRecDepth 100000
abbrev XG:=@if_pos
abbrev XH:=@if_neg
abbrev XI:=@decide_eq_true_eq
abbrev XJ:=@decide_eq_false
abbrev XM:=@decide_eq_true
abbrev XN:=@absurd
abbrev XO:=@of_decide_eq_true
abbrev XQ:=@congrArg
abbrev XR:=@decide_eq_decide
abbrev XS:=@beq_eq_false_iff_ne
namespace L2
open PySem
def d8(s:Stmt):Arguments:=match s with
 | .FunctionDef _ a _ _ _ _ _ _ _ _=>a
 |_=>{posonlyargs:=[],args:=[],vararg:=none,kwonlyargs:=[],kw_defaults:=[],kwarg:=none,defaults:=[]}
def aV(s:Stmt):List Stmt:=match s with
 | .FunctionDef _ _ b _ _ _ _ _ _ _=>b
 |_=>[]
def ah(s:Stmt):Scope:=match s with
 | .FunctionDef _ _ _ _ _ _ sc _ _ _=>sc
 |_=>{kind:= .function,names:=[],isGenerator:=false,isCoroutine:=false}
end L2
namespace K1
open PySem PySem.Spec
def top(i:Nat):Stmt:=PySem.Challenge.pw_cellpatches_k33_whole_touching.main.body.getD i (.Pass ⟨0,0,0,0⟩)
abbrev hS(s:String)(t:Tok):Value:= .str (Su s) t
abbrev hE(P:Params)(s:String)(t:Tok)(v:Value):Sn:={hash:=PyData.keyHash P (Su s),key:=hS s t,val:=v}
abbrev hT(xs:Array Value):Obj:={cls:= .type "tuple",data:=Data.seq xs}
abbrev hF(s:String)(t:Stmt)(m:Value)(c:Addr):Obj:={cls:= .type "function",data:=Data.func {name:=Su s,qualname:=Su s,params:=L2.d8 t,body:=FuncBody.stmts (L2.aV t),scope:=L2.ah t,globals:=3,closure:=[],defaults:= .none,kwdefaults:= .none,pyModule:=m,code:= .ref c} }
abbrev iF(s:String)(t1 t2 t3:Tok)(l n f:Int)(a:Addr)(v:Int)(b:Addr)(x y:Value)(d:Addr)(p:Int)(t4:Tok):Obj:={cls:= .type "code",data:=Xg #[hS s t1,hS s t2,hS "/claim/cut.py" t3, .int l 0, .int n 0, .int 0 0, .int 0 0, .int f 0, .ref a, .bool true, .int v 0, .ref b, .none,x,y, .ref d, .int p 0, .int l 0,hS "/claim/cut.py" t4]}
abbrev xS:Value:=hS "cellpatches.boards" 255
abbrev A7:Value:=hS "cellpatches.measures" 423
abbrev JA:Value:=hS "law_cellpatches_k33_whole_touching" 511
abbrev JB:Value:=hS "cellpatches.patches" 370
abbrev Lp:Value:=hS "cellpatches.errors" 187
abbrev Ma(n:String)(b a ns r:Addr)(t1 t2:Tok):Obj:={cls:= .type "type",data:=Data.cls {name:=Su n,bases:=[.ref b],mro:=[.ref a, .ref b, .type "ValueError", .type "Exception", .type "BaseException", .type "object"],ns:=ns,qualname:=Su n},slots:= #[some (.ref r),none,some (hS n t1),some (hS n t2),some (.builtin "ValueError.__new__"),some (.bool true)]}
def nQ:Params->QZ:=λP=>(nat_lit 2,{cls:= .none,data:=U3 #[]})::
 (nat_lit 3,{cls:= .type "dict",data:=U3 #[hE P "__name__" 165 JA,hE P "__doc__" 166 .none,hE P "__package__" 167 .none,hE P "__loader__" 168 (.builtin "__main__.__loader__#opaque"),hE P "__spec__" 169 .none,hE P "__annotations__" 170 (.ref 6),hE P "__builtins__" 171 (.ref 4),hE P "__file__" 173 (hS "/claim/cut.py" 172),hE P "__cached__" 174 .none,hE P "PatchError" 206 (.ref 24),hE P "NoBoard" 222 (.ref 37),hE P "NoWays" 238 (.ref 49),hE P "NoNumber" 254 (.ref 61),hE P "LETTERS" 258 (hS "abcdef" 257),hE P "MOST_ROWS" 260 (.int 8 259),hE P "MOST_COLUMNS" 262 (.int 8 261),hE P "is_whole" 269 (.ref 70),hE P "is_letter" 276 (.ref 77),hE P "is_row" 282 (.ref 82),hE P "is_board" 288 (.ref 87),hE P "need_board" 295 (.ref 94),hE P "need_ways" 302 (.ref 101),hE P "cells_of_row" 308 (.ref 106),hE P "all_cells" 317 (.ref 113),hE P "letter_of" 325 (.ref 120),hE P "are_next" 336 (.ref 127),hE P "next_cells" 348 (.ref 134),hE P "keyed" 357 (.ref 141),hE P "column_from_below" 363 (.ref 146),hE P "turned" 369 (.ref 151),hE P "like_cells" 377 (.ref 156),hE P "steps_back" 391 (.ref 163),hE P "all_patches" 403 (.ref 170),hE P "numbers_of" 414 (.ref 177),hE P "patches" 422 (.ref 184),hE P "need_number" 432 (.ref 191),hE P "patch_of_number" 442 (.ref 198),hE P "is_at_edge" 450 (.ref 205),hE P "comes_to_edge" 456 (.ref 210),hE P "shared_sides" 469 (.ref 217),hE P "size" 478 (.ref 224),hE P "rim" 484 (.ref 229),hE P "box" 490 (.ref 234),hE P "touching" 498 (.ref 241),hE P "greatest" 504 (.ref 246),hE P "at_edge" 510 (.ref 251),hE P "_law_cell" 520 (.ref 258),hE P "_law_drawn" 530 (.ref 265),hE P "_law_board" 536 (.ref 270),hE P "law" 542 (.ref 275)] 50})::
 (nat_lit 15,hT #[.type "ValueError"])::
 (nat_lit 22,hT #[])::
 (nat_lit 23,{cls:= .type "dict",data:=U3 #[hE P "__module__" 196 Lp,hE P "__firstlineno__" 200 (.int 2 199),hE P "__static_attributes__" 201 (.ref 22),hE P "__weakref__" 203 (.ref 25),hE P "__doc__" 204 .none] 3})::
 (nat_lit 24,{cls:= .type "type",data:=Data.cls {name:=Su "PatchError",bases:=[.type "ValueError"],mro:=[.ref 24, .type "ValueError", .type "Exception", .type "BaseException", .type "object"],ns:=23,qualname:=Su "PatchError",subclasses:=[.ref 37, .ref 49, .ref 61]},slots:= #[some (.ref 15),none,some (hS "PatchError" 189),some (hS "PatchError" 197),some (.builtin "ValueError.__new__"),some (.bool true)]})::
 (nat_lit 25,{cls:= .type "getset_descriptor",data:=Xg #[hS "__weakref__" 202, .ref 24, .builtin "ExceptionGroup.__weakref__", .none]})::
 (nat_lit 28,hT #[.ref 24])::
 (nat_lit 35,hT #[])::
 (nat_lit 36,{cls:= .type "dict",data:=U3 #[hE P "__module__" 214 Lp,hE P "__firstlineno__" 218 (.int 4 217),hE P "__static_attributes__" 219 (.ref 35),hE P "__doc__" 220 .none] 2})::
 (nat_lit 37,Ma "NoBoard" 24 37 36 28 207 215)::
 (nat_lit 40,hT #[.ref 24])::
 (nat_lit 47,hT #[])::
 (nat_lit 48,{cls:= .type "dict",data:=U3 #[hE P "__module__" 230 Lp,hE P "__firstlineno__" 234 (.int 6 233),hE P "__static_attributes__" 235 (.ref 47),hE P "__doc__" 236 .none] 2})::
 (nat_lit 49,Ma "NoWays" 24 49 48 40 223 231)::
 (nat_lit 52,hT #[.ref 24])::
 (nat_lit 59,hT #[])::
 (nat_lit 60,{cls:= .type "dict",data:=U3 #[hE P "__module__" 246 Lp,hE P "__firstlineno__" 250 (.int 8 249),hE P "__static_attributes__" 251 (.ref 59),hE P "__doc__" 252 .none] 2})::
 (nat_lit 61,Ma "NoNumber" 24 61 60 52 239 247)::
 (nat_lit 64,hT #[])::
 (nat_lit 66,hT #[hS "thing" 266])::
 (nat_lit 67,hT #[])::
 (nat_lit 69,iF "is_whole" 263 264 265 14 1 3 64 181 65 (.ref 66) (.ref 67) 68 267 268)::
 (nat_lit 70,hF "is_whole" (top 9) xS 69)::
 (nat_lit 71,hT #[])::
 (nat_lit 73,hT #[hS "thing" 273])::
 (nat_lit 74,hT #[])::
 (nat_lit 76,iF "is_letter" 270 271 272 16 1 3 71 181 72 (.ref 73) (.ref 74) 75 274 275)::
 (nat_lit 77,hF "is_letter" (top 10) xS 76)::
 (nat_lit 78,hT #[])::
 (nat_lit 81,iF "is_row" 277 278 279 18 1 3 78 181 79 .none .none 80 280 281)::
 (nat_lit 82,hF "is_row" (top 11) xS 81)::
 (nat_lit 83,hT #[])::
 (nat_lit 86,iF "is_board" 283 284 285 22 1 3 83 181 84 .none .none 85 286 287)::
 (nat_lit 87,hF "is_board" (top 12) xS 86)::
 (nat_lit 88,hT #[])::
 (nat_lit 90,hT #[hS "thing" 292])::
 (nat_lit 91,hT #[])::
 (nat_lit 93,iF "need_board" 289 290 291 28 1 3 88 181 89 (.ref 90) (.ref 91) 92 293 294)::
 (nat_lit 94,hF "need_board" (top 13) xS 93)::
 (nat_lit 95,hT #[])::
 (nat_lit 97,hT #[hS "thing" 299])::
 (nat_lit 98,hT #[])::
 (nat_lit 100,iF "need_ways" 296 297 298 31 1 3 95 181 96 (.ref 97) (.ref 98) 99 300 301)::
 (nat_lit 101,hF "need_ways" (top 14) xS 100)::
 (nat_lit 102,hT #[])::
 (nat_lit 105,iF "cells_of_row" 303 304 305 34 2 3 102 181 103 .none .none 104 306 307)::
 (nat_lit 106,hF "cells_of_row" (top 15) xS 105)::
 (nat_lit 107,hT #[])::
 (nat_lit 109,hT #[hS "board" 312,hS "found" 313,hS "row" 314])::
 (nat_lit 110,hT #[])::
 (nat_lit 112,iF "all_cells" 309 310 311 36 1 3 107 181 108 (.ref 109) (.ref 110) 111 315 316)::
 (nat_lit 113,hF "all_cells" (top 16) xS 112)::
 (nat_lit 114,hT #[])::
 (nat_lit 116,hT #[hS "board" 321,hS "cell" 322])::
 (nat_lit 117,hT #[])::
 (nat_lit 119,iF "letter_of" 318 319 320 41 2 3 114 181 115 (.ref 116) (.ref 117) 118 323 324)::
 (nat_lit 120,hF "letter_of" (top 17) xS 119)::
 (nat_lit 121,hT #[])::
 (nat_lit 123,hT #[hS "one" 329,hS "other" 330,hS "ways" 331,hS "down" 332,hS "along" 333])::
 (nat_lit 124,hT #[])::
 (nat_lit 126,iF "are_next" 326 327 328 43 3 3 121 181 122 (.ref 123) (.ref 124) 125 334 335)::
 (nat_lit 127,hF "are_next" (top 18) xS 126)::
 (nat_lit 128,hT #[])::
 (nat_lit 130,hT #[hS "board" 340,hS "cell" 341,hS "ways" 342,hS "found" 343,hS "row" 344,hS "column" 345])::
 (nat_lit 131,hT #[])::
 (nat_lit 133,iF "next_cells" 337 338 339 49 3 3 128 181 129 (.ref 130) (.ref 131) 132 346 347)::
 (nat_lit 134,hF "next_cells" (top 19) xS 133)::
 (nat_lit 135,hT #[])::
 (nat_lit 137,hT #[hS "things" 352,hS "found" 353,hS "thing" 354])::
 (nat_lit 138,hT #[])::
 (nat_lit 140,iF "keyed" 349 350 351 56 1 3 135 181 136 (.ref 137) (.ref 138) 139 355 356)::
 (nat_lit 141,hF "keyed" (top 20) xS 140)::
 (nat_lit 142,hT #[])::
 (nat_lit 145,iF "column_from_below" 358 359 360 61 2 3 142 181 143 .none .none 144 361 362)::
 (nat_lit 146,hF "column_from_below" (top 21) xS 145)::
 (nat_lit 147,hT #[])::
 (nat_lit 150,iF "turned" 364 365 366 63 1 3 147 181 148 .none .none 149 367 368)::
 (nat_lit 151,hF "turned" (top 22) xS 150)::
 (nat_lit 152,hT #[])::
 (nat_lit 155,iF "like_cells" 372 373 374 67 3 3 152 181 153 .none .none 154 375 376)::
 (nat_lit 156,hF "like_cells" (top 24) JB 155)::
 (nat_lit 157,hT #[])::
 (nat_lit 159,hT #[hS "board" 381,hS "start" 382,hS "ways" 383,hS "back" 384,hS "ring" 385,hS "further" 386,hS "cell" 387,hS "near" 388])::
 (nat_lit 160,hT #[])::
 (nat_lit 162,iF "steps_back" 378 379 380 70 3 3 157 181 158 (.ref 159) (.ref 160) 161 389 390)::
 (nat_lit 163,hF "steps_back" (top 25) JB 162)::
 (nat_lit 164,hT #[])::
 (nat_lit 166,hT #[hS "board" 395,hS "ways" 396,hS "found" 397,hS "seen" 398,hS "cell" 399,hS "patch" 400])::
 (nat_lit 167,hT #[])::
 (nat_lit 169,iF "all_patches" 392 393 394 82 2 3 164 181 165 (.ref 166) (.ref 167) 168 401 402)::
 (nat_lit 170,hF "all_patches" (top 26) JB 169)::
 (nat_lit 171,hT #[])::
 (nat_lit 173,hT #[hS "found" 407,hS "numbers" 408,hS "number" 409,hS "patch" 410,hS "cell" 411])::
 (nat_lit 174,hT #[])::
 (nat_lit 176,iF "numbers_of" 404 405 406 91 1 3 171 181 172 (.ref 173) (.ref 174) 175 412 413)::
 (nat_lit 177,hF "numbers_of" (top 27) JB 176)::
 (nat_lit 178,hT #[])::
 (nat_lit 180,hT #[hS "board" 418,hS "ways" 419])::
 (nat_lit 181,hT #[])::
 (nat_lit 183,iF "patches" 415 416 417 97 2 3 178 181 179 (.ref 180) (.ref 181) 182 420 421)::
 (nat_lit 184,hF "patches" (top 28) JB 183)::
 (nat_lit 185,hT #[])::
 (nat_lit 187,hT #[hS "many" 428,hS "thing" 429])::
 (nat_lit 188,hT #[])::
 (nat_lit 190,iF "need_number" 425 426 427 102 2 3 185 181 186 (.ref 187) (.ref 188) 189 430 431)::
 (nat_lit 191,hF "need_number" (top 30) A7 190)::
 (nat_lit 192,hT #[])::
 (nat_lit 194,hT #[hS "board" 436,hS "ways" 437,hS "number" 438,hS "found" 439])::
 (nat_lit 195,hT #[])::
 (nat_lit 197,iF "patch_of_number" 433 434 435 105 3 3 192 181 193 (.ref 194) (.ref 195) 196 440 441)::
 (nat_lit 198,hF "patch_of_number" (top 31) A7 197)::
 (nat_lit 199,hT #[])::
 (nat_lit 201,hT #[hS "board" 446,hS "cell" 447])::
 (nat_lit 202,hT #[])::
 (nat_lit 204,iF "is_at_edge" 443 444 445 111 2 3 199 181 200 (.ref 201) (.ref 202) 203 448 449)::
 (nat_lit 205,hF "is_at_edge" (top 32) A7 204)::
 (nat_lit 206,hT #[])::
 (nat_lit 209,iF "comes_to_edge" 451 452 453 113 2 3 206 181 207 .none .none 208 454 455)::
 (nat_lit 210,hF "comes_to_edge" (top 33) A7 209)::
 (nat_lit 211,hT #[])::
 (nat_lit 213,hT #[hS "board" 460,hS "found" 461,hS "numbers" 462,hS "shared" 463,hS "cell" 464,hS "near" 465,hS "pair" 466])::
 (nat_lit 214,hT #[])::
 (nat_lit 216,iF "shared_sides" 457 458 459 115 2 3 211 181 212 (.ref 213) (.ref 214) 215 467 468)::
 (nat_lit 217,hF "shared_sides" (top 34) A7 216)::
 (nat_lit 218,hT #[])::
 (nat_lit 220,hT #[hS "board" 473,hS "ways" 474,hS "number" 475])::
 (nat_lit 221,hT #[])::
 (nat_lit 223,iF "size" 470 471 472 124 3 3 218 181 219 (.ref 220) (.ref 221) 222 476 477)::
 (nat_lit 224,hF "size" (top 35) A7 223)::
 (nat_lit 225,hT #[])::
 (nat_lit 228,iF "rim" 479 480 481 126 3 3 225 181 226 .none .none 227 482 483)::
 (nat_lit 229,hF "rim" (top 36) A7 228)::
 (nat_lit 230,hT #[])::
 (nat_lit 233,iF "box" 485 486 487 133 3 3 230 181 231 .none .none 232 488 489)::
 (nat_lit 234,hF "box" (top 37) A7 233)::
 (nat_lit 235,hT #[])::
 (nat_lit 237,hT #[hS "board" 494,hS "ways" 495])::
 (nat_lit 238,hT #[])::
 (nat_lit 240,iF "touching" 491 492 493 138 2 3 235 181 236 (.ref 237) (.ref 238) 239 496 497)::
 (nat_lit 241,hF "touching" (top 38) A7 240)::
 (nat_lit 242,hT #[])::
 (nat_lit 245,iF "greatest" 499 500 501 142 2 3 242 181 243 .none .none 244 502 503)::
 (nat_lit 246,hF "greatest" (top 39) A7 245)::
 (nat_lit 247,hT #[])::
 (nat_lit 250,iF "at_edge" 505 506 507 147 2 3 247 181 248 .none .none 249 508 509)::
 (nat_lit 251,hF "at_edge" (top 40) A7 250)::
 (nat_lit 252,hT #[])::
 (nat_lit 254,hT #[hS "_law_script" 516,hS "_law_k" 517])::
 (nat_lit 255,hT #[])::
 (nat_lit 257,iF "_law_cell" 513 514 515 152 2 3 252 181 253 (.ref 254) (.ref 255) 256 518 519)::
 (nat_lit 258,hF "_law_cell" (top 42) JA 257)::
 (nat_lit 259,hT #[])::
 (nat_lit 261,hT #[hS "_law_script" 524,hS "_law_k" 525,hS "_law_many" 526,hS "_law_cell_here" 527])::
 (nat_lit 262,hT #[])::
 (nat_lit 264,iF "_law_drawn" 521 522 523 156 3 3 259 181 260 (.ref 261) (.ref 262) 263 528 529)::
 (nat_lit 265,hF "_law_drawn" (top 43) JA 264)::
 (nat_lit 266,hT #[])::
 (nat_lit 269,iF "_law_board" 531 532 533 160 3 3 266 181 267 .none .none 268 534 535)::
 (nat_lit 270,hF "_law_board" (top 44) JA 269)::
 (nat_lit 271,hT #[])::
 (nat_lit 274,iF "law" 537 538 539 169 1 3 271 181 272 .none .none 273 540 541)::
 (nat_lit 275,hF "law" (top 45) JA 274)::[]
def nP:List Nat:=[2,3,15,22,23,24,25,28,35,36,37,40,47,48,49,52,59,60,61,64,66,67,69,70,71,73,74,76,77,78,81,82,83,86,87,88,90,91,93,94,95,97,98,100,101,102,105,106,107,109,110,112,113,114,116,117,119,120,121,123,124,126,127,128,130,131,133,134,135,137,138,140,141,142,145,146,147,150,151,152,155,156,157,159,160,162,163,164,166,167,169,170,171,173,174,176,177,178,180,181,183,184,185,187,188,190,191,192,194,195,197,198,199,201,202,204,205,206,209,210,211,213,214,216,217,218,220,221,223,224,225,228,229,230,233,234,235,237,238,240,241,242,245,246,247,250,251,252,254,255,257,258,259,261,262,264,265,266,269,270,271,274,275]
def vD:Ru:={PySem.Challenge.pw_cellpatches_k33_whole_touching with main:={PySem.Challenge.pw_cellpatches_k33_whole_touching.main with body:=[top 1,top 2,top 3,top 4,top 6,top 7,top 8,top 9,top 10,top 11,top 12,top 13,top 14,top 15,top 16,top 17,top 18,top 19,top 20,top 21,top 22,top 24,top 25,top 26,top 27,top 28,top 30,top 31,top 32,top 33,top 34,top 35,top 36,top 37,top 38,top 39,top 40,top 42,top 43,top 44,top 45]} }
open PySem.W PyProof.Rows in
def JP:LeftO PySem.Challenge.rw_cellpatches_k33_whole_touching.row.prog vD [] (λs=>xlAt vD [] s&&recOk PySem.Challenge.rw_cellpatches_k33_whole_touching.row.records s) (kHook nQ nP (λ_=>by kernel_rfl)).obs (kHook nQ nP (λ_=>by kernel_rfl)).val 3912:=λw=>by kernel_rfl
end K1
namespace L2
open PySem PySem.Spec PyProof.Rows
abbrev Key:=Sum Int Str
def nZ:Key->Value->Bool
 | .inl k,v=>Value.isInt k v
 | .inr x,v=>Value.isStrOf x v
def Ki(w:World):Key->Int
 | .inl k=>hashInt k
 | .inr x=>hashStr w x
def bJ:∀{k:Key}{v:Value},nZ k v=true->(∃i t,k=VE i/\v=WI i t)\/(∃x t,k=V8 x/\v=WH x t)
 | .inl i,v,h=>by
   obtain⟨t,e⟩:=Value.isInt_shape (k:=i) (v:=v) h;exact .inl ⟨i,t,rfl,e⟩
 | .inr x,v,h=>by
   obtain⟨t,e⟩:=Value.isStrOf_shape (x:=x) (v:=v) h;exact .inr ⟨x,t,rfl,e⟩
def zu(i:Int)(t:Tok):nZ (.inl i) (.int i t)=true:=by simp[nZ,Value.isInt]
def zw(x:Str)(t:Tok):nZ (.inr x) (.str x t)=true:=by simp[nZ,Value.isStrOf]
def Hh(a b:Int):decide ((VE a:Key)=VE b)=(a==b):=by
 by_cases e:a=b
 ·subst e;simp
 ·have h:¬(VE a:Key)=VE b:=λq=>e (Sum.inl.inj q);rw[XJ h];exact(XS.mpr e).symm
def Hk(a b:Str):decide ((V8 a:Key)=V8 b)=decide (a=b):=by
 by_cases e:a=b
 ·subst e;simp
 ·have h:¬(V8 a:Key)=V8 b:=λq=>e (Sum.inr.inj q);rw[XJ h,XJ e]
def Hi(a:Int)(b:Str):decide ((VE a:Key)=V8 b)=false:=XJ (λq=>nomatch q)
def Hj(a:Str)(b:Int):decide ((V8 a:Key)=VE b)=false:=XJ (λq=>nomatch q)
def bc(prog:Ru)(w:World):PySem.KeyKind prog w Key where
 is:=nZ
 hash:=Ki w
 inj:=λv a b ha hb=>by
  rcases bJ ha with⟨i,t,rfl,rfl⟩ | ⟨x,t,rfl,rfl⟩
  ·rcases bJ hb with⟨j,u,rfl,e⟩ | ⟨y,u,rfl,e⟩
   ·injection e with e1 _;rw[e1]
   ·exact nomatch e
  ·rcases bJ hb with⟨j,u,rfl,e⟩ | ⟨y,u,rfl,e⟩
   ·exact nomatch e
   ·injection e with e1 _;rw[e1]
 byValue:=λk v h=>by
  rcases bJ h with⟨i,t,rfl,rfl⟩ | ⟨x,t,rfl,rfl⟩<;>rfl
 pyHash:=λhv h=>by
  rcases bJ hv with⟨i,t,rfl,rfl⟩ | ⟨x,t,rfl,rfl⟩
  ·exact wpAny_pyHash_int h
  ·exact wpAny_pyHash_str h
 eqBool:=λhu hv h=>by
  rcases bJ hu with⟨i,t,rfl,rfl⟩ | ⟨x,t,rfl,rfl⟩
  ·rcases bJ hv with⟨j,u,rfl,rfl⟩ | ⟨y,u,rfl,rfl⟩
   ·rw[Hh] at h;exact Wq h
   ·rw[Hi] at h;exact Wt i t y u _ _ _ _ h
  ·rcases bJ hv with⟨j,u,rfl,rfl⟩ | ⟨y,u,rfl,rfl⟩
   ·rw[Hj] at h;exact Ws x t j u _ _ _ _ h
   ·rw[Hk] at h;exact wpAny_eqBool_str h
 «strs» :=λk x t v h=>by
  rcases bJ h with⟨i,u,rfl,e⟩ | ⟨y,u,rfl,e⟩
  ·exact nomatch e
  ·injection e with e1 _
   subst e1;cases v<;>rfl
def uE(prog:Ru)(w:World)(i:Int)(t:Tok):(bc prog w).is (.inl i) (.int i t)=true:=zu i t
def uF(prog:Ru)(w:World)(x:Str)(t:Tok):(bc prog w).is (.inr x) (.str x t)=true:=zw x t
inductive V where
 |non | bl (b:Bool) | int (i:Int) | str (x:Str) | byt (b:Array UInt8) | flt (b:UInt64) | ref (a:Addr) | ty (n:String)
 deriving DecidableEq
def RelV:V->Value->Prop
 | .non,u=>u=Rp
 | .bl b,u=>u=SD b
 | .int i,u=>∃t,u=WI i t
 | .str x,u=>∃t,u=WH x t
 | .byt b,u=>∃t,u=Value.bytes b t
 | .flt b,u=>∃t,u=Value.float b t
 | .ref a,u=>u=Rc a
 | .ty n,u=>u=UC n
abbrev Vals:List V->List Value->Prop:=VQ RelV
def Vals.length{xs:List V}{us:List Value}(r:Vals xs us):xs.length=us.length:=SK r
def Vals.get:∀{xs:List V}{us:List Value}{i:Nat}{x:V},Vals xs us->xs[i]? =some x->∃u,us[i]? =some u/\RelV x u
 |_,_,_,_, .nil,e=>by simp at e
 |_,_,0,_, .cons r _,e=>by simp at e;subst e;exact⟨_,rfl,r⟩
 |_,_,i+1,x, .cons _ t,e=>by
  obtain⟨u,h1,h2⟩:=Vals.get (i:=i) (x:=x) t (by simpa using e);exact⟨u,by simpa using h1,h2⟩
def Vals.append:∀{xs ys:List V}{us ws:List Value},Vals xs us->Vals ys ws->Vals (xs++ys) (us++ws)
 |_,_,_,_, .nil,s=>s
 |_,_,_,_, .cons r t,s=> .cons r (Vals.append t s)
def Vals.take:∀{xs:List V}{us:List Value}(n:Nat),Vals xs us->Vals (xs.take n) (us.take n)
 |_,_,0,_=> .nil
 |_,_,_+1, .nil=> .nil
 |_,_,n+1, .cons r t=> .cons r (Vals.take n t)
def Vals.drop:∀{xs:List V}{us:List Value}(n:Nat),Vals xs us->Vals (xs.drop n) (us.drop n)
 |_,_,0,r=>r
 |_,_,_+1, .nil=> .nil
 |_,_,n+1, .cons _ t=>Vals.drop n t
def RelO:Option V->Option Value->Prop
 |some v,some u=>RelV v u
 |none,none=>True
 |_,_=>False
def KV{κ:Type}:List (κ×V)->List (κ×Value)->Prop:=VQ λ(p:κ×V) (q:κ×Value)=>p.1=q.1/\RelV p.2 q.2
def kV:Key->V
 | .inl i=> .int i
 | .inr x=> .str x
inductive HO where
 |lst (xs:List V)
 |tup (xs:List V)
 |dK (az:List (Key×V)) | dT (az:List (List Key×V))
 |set (S:Int->Bool) (n:Nat)
 |ins (C dx:Addr) (fs:List (Str×V))
 |own (x:Addr)
 |xd (fs:List (Str×V))
 |met (f x:Addr)
 |rng (lo hi:Int)
 |frz (o:Obj) (u:HO)
 |tbl (ps:Array Value)
 |ext (φ:Heap->Prop)
abbrev Hp:=Addr->Option HO
def upd(H:Hp)(a:Addr)(o:HO):Hp:=λb=>if b=a then some o else H b
def aJ{H:Hp}{a:Addr}{o:HO}:upd H a o a=some o:=by unfold upd;rw[XG rfl]
def ay{H:Hp}{a b:Addr}{o:HO}(h:b≠a):upd H a o b=H b:=by unfold upd;rw[XH h]
def BK{H:Hp}{a b:Addr}{o u:HO}(h:H a=some o)(h':H b=some u)(d:o≠u):a≠b:=by
 intro e;subst e;rw[h] at h';exact d (Rx h')
def bf{H:Hp}{a b:Addr}{o:HO}(h:H a=some o)(h':H b=none):a≠b:=by
 intro e;subst e;rw[h] at h';cases h'
section
variable(P:Ru)(w:World)
def ObjOk(H:Hp)(h:Heap)(a:Addr):HO->Prop
 | .lst xs=>xs.length<=Q_/\∃(aE:List Value) (n:Nat),Vals xs aE/\h.get? a=some {cls:= .type "list",data:= .seq aE.toArray n}
 | .tup xs=>xs.length<=Q_/\∃aE:List Value,Vals xs aE/\IsTup h a aE.toArray
 | .dK az=>az.length<=Q_/\(a==So)=false/\∃vs,KV az vs/\h.DictOf (bc P w) a vs
 | .dT az=>az.length<=Q_/\(a==So)=false/\∃xs:List (List Key×Addr×Value),
    VQ (λ(p:List Key×V) (q:List Key×Addr×Value)=>p.1=q.1/\H q.2.1=some (.tup (p.1.map kV))/\RelV p.2 q.2.2) az xs/\
    ∃o es ep,h.get? a=some o/\o.ExactDict/\o.data= .dict es ep/\es.toList=xs.map (V5 (Tn (bc P w)))/\(xs.map (·.1)).Nodup
 | .set S n=>h.SetOf (intKind P w) a S n
 | .ins C dx fs=>H dx=some (.own a)/\fs.length<=1000/\dx≠a/\h.get? a=some (VF C dx)/\
    ∃mA,h.Ns1 dx mA/\(∀f,RelO (fs.lookup f) (mA f))/\PySem.Within mA (fs.map (·.1))
 | .own _=>∃o,h.get? a=some o
 | .xd fs=>∃mA,h.Ns1 a mA/\∀f,RelO (fs.lookup f) (mA f)
 | .rng lo hi=>∃t u v,h.get? a=some {cls:= .type "range",data:= .fields #[.int lo t, .int hi u, .int 1 v]}
 | .frz o u=>h.get? a=some o/\ObjOk H h a u
 | .tbl ps=>h.get? a=some {cls:= .none,data:= .fields ps}
 | .met f x=>h.get? a=some (Vn (.ref f) (.ref x))
 | .ext φ=>φ h/\(∃o,h.get? a=some o)/\∀h1 h2:Heap,φ h1->(∀o,h1.get? a=some o->h2.get? a=some o)->φ h2
def HOk(H:Hp)(h:Heap):Prop:=∀a o,H a=some o->ObjOk P w H h a o
end
section
variable{P:Ru}{w:World}{H H':Hp}{h h':Heap}{a:Addr}{o:HO}
def ObjOk.lt(x:ObjOk P w H h a o):a<h.objs.size:=by
 cases o with
 |lst xs=>obtain⟨_,_,_,_,e⟩:=x;exact QY e
 |tup xs=>obtain⟨_,_,_,p⟩:=x;exact p.lt
 |dK az=>obtain⟨_,_,_,_,o,_,_,e,_⟩:=x;exact QY e
 |dT az=>obtain⟨_,_,_,_,o,_,_,e,_⟩:=x;exact QY e
 |set S n=>obtain⟨o,_,_,_,e,_⟩:=x;exact QY e
 |ins C dx fs=>obtain⟨_,_,_,e,_⟩:=x;exact QY e
 |own y=>obtain⟨_,e⟩:=x;exact QY e
 |xd fs=>obtain⟨_,⟨_,_,_,e,_⟩,_⟩:=x;exact QY e
 |rng lo hi=>obtain⟨_,_,_,e⟩:=x;exact QY e
 |frz ob u=>obtain⟨e,_⟩:=x;exact QY e
 |tbl ps=>exact QY (show h.get? a=some _ from x)
 |met f y=>exact QY (show h.get? a=some _ from x)
 |ext φ=>obtain⟨_,⟨_,e⟩,_⟩:=x;exact QY e
def Paired.mapP{α β:Type}{F G:α->β->Prop}:∀{X4:List α}{X5:List β},VQ F X4 X5->(∀a b,F a b->G a b)->VQ G X4 X5
 |_,_, .nil,_=> .nil
 |_,_, .cons r t,f=> .cons (f _ _ r) (Paired.mapP t f)
def ObjOk.stay(x:ObjOk P w H h a o)(k:∀b u,(b=a\/H b=some (.own a))->h.get? b=some u->h'.get? b=some u)
 (ho:∀b,H b=some (.own a)->H' b=some (.own a))(ht:∀b xs,H b=some (.tup xs)->H' b=some (.tup xs)):ObjOk P w H' h' a o:=by
 induction o with
 |lst xs=>obtain⟨z,aE,n,r,e⟩:=x;exact⟨z,aE,n,r,k _ _ (.inl rfl) e⟩
 |tup xs=>obtain⟨z,aE,r,ob,e,c⟩:=x;exact⟨z,aE,r,ob,k _ _ (.inl rfl) e,c⟩
 |dK az=>obtain⟨z,y,vs,r,ob,es,ep,e,c⟩:=x;exact⟨z,y,vs,r,ob,es,ep,k _ _ (.inl rfl) e,c⟩
 |dT az=>
  obtain⟨z,y,xs,r,ob,es,ep,e,c⟩:=x;exact⟨z,y,xs,Paired.mapP r λp q z=>⟨z.1,ht _ _ z.2.1,z.2.2⟩,ob,es,ep,k _ _ (.inl rfl) e,c⟩
 |set S n=>obtain⟨ob,es,ep,t,e,c⟩:=x;exact⟨ob,es,ep,t,k _ _ (.inl rfl) e,c⟩
 |ins C dx fs=>
  obtain⟨d,z,ne,e,mA,⟨od,es,ep,e2,c⟩,r⟩:=x;exact⟨ho _ d,z,ne,k _ _ (.inl rfl) e,mA,⟨od,es,ep,k _ _ (.inr d) e2,c⟩,r⟩
 |own y=>obtain⟨ob,e⟩:=x;exact⟨ob,k _ _ (.inl rfl) e⟩
 |xd fs=>obtain⟨mA,⟨od,es,ep,e,c⟩,r⟩:=x;exact⟨mA,⟨od,es,ep,k _ _ (.inl rfl) e,c⟩,r⟩
 |rng lo hi=>obtain⟨t,u,v,e⟩:=x;exact⟨t,u,v,k _ _ (.inl rfl) e⟩
 |frz ob u ih=>obtain⟨e,q⟩:=x;exact⟨k _ _ (.inl rfl) e,ih q⟩
 |tbl ps=>
  have e:h.get? a=some {cls:= .none,data:= .fields ps}:=x;show h'.get? a=some {cls:= .none,data:= .fields ps};exact k a _ (.inl rfl) e
 |met f y=>
  have e:h.get? a=some (Vn (.ref f) (.ref y)):=x;show h'.get? a=some (Vn (.ref f) (.ref y));exact k a _ (.inl rfl) e
 |ext φ=>obtain⟨p,⟨o,e⟩,st⟩:=x;exact⟨st _ _ p λo q=>k _ _ (.inl rfl) q,⟨o,k _ _ (.inl rfl) e⟩,st⟩
def HOk.lt(x:HOk P w H h)(e:H a=some o):a<h.objs.size:=(x a o e).lt
def HOk.fresh(x:HOk P w H h)(e:h.objs.size<=a):H a=none:=by
 cases q:H a with
 |none=>rfl
 |some u=>exact XN (Rr (x.lt q) e) (RC _)
def HOk.kept(x:HOk P w H h)(k:∀b u,h.get? b=some u->h'.get? b=some u):HOk P w H h':=λa o e=>
 (x a o e).stay (λb u _ q=>k b u q) (λ_ q=>q) λ_ _ q=>q
def HOk.laid(x:HOk P w H h)(k:∀b u,h.get? b=some u->h'.get? b=some u)(hp:h.objs.size<=a)(new:ObjOk P w (upd H a o) h' a o):HOk P w (upd H a o) h':=λb u e=>by
 have hn:=x.fresh hp;by_cases hb:b=a
 ·subst hb;rw[aJ] at e;cases e;exact new
 ·rw[ay hb] at e;exact(x b u e).stay (λc v _ q=>k c v q) (λc q=>by rw[ay (bf q hn)];exact q) λc xs q=>by rw[ay (bf q hn)];exact q
end
def Rd(H:Hp)(a:Addr)(u:HO):Prop:=H a=some u\/∃o,H a=some (.frz o u)
def Rd.ok{P:Ru}{w:World}{H:Hp}{h:Heap}{a:Addr}{u:HO}(r:Rd H a u)(x:HOk P w H h):ObjOk P w H h a u:=by
 rcases r with r | ⟨o,r⟩
 ·exact x a u r
 ·obtain⟨_,q⟩:=x a _ r;exact q
def Jh:Option HO->Prop
 |some (.lst _)=>True
 |some (.dK _)=>True
 |some (.dT _)=>True
 |some (.set _ _)=>True
 |some (.ins _ _ _)=>True
 |some (.ext _)=>True
 |_=>False
section
variable{P:Ru}{w:World}{H:Hp}{h h':Heap}{x e:Addr}{o':HO}
def HOk.write(ok:HOk P w H h)(mu:Jh (H x))(he:e=x\/H e=some (.own x))(k:∀b u,b≠e->h.get? b=some u->h'.get? b=some u)(An:∃u,h'.get? e=some u)
 (new:ObjOk P w (upd H x o') h' x o'):HOk P w (upd H x o') h':=λb u q=>by
 have Kn:∀c y,H c=some (.own y)->c≠x:=λc y r z=>by subst z;rw[r] at mu;exact mu
 have M4:∀c xs,H c=some (.tup xs)->c≠x:=λc xs r z=>by subst z;rw[r] at mu;exact mu
 by_cases hb:b=x
 ·subst hb;rw[aJ] at q;cases q;exact new
 ·rw[ay hb] at q;by_cases GS:b=e
  ·have q':H b=some (.own x):=by
    rcases he with z | z
    ·exact XN (GS.trans z) hb
    ·rw[GS];exact z
   rw[q] at q';cases q';obtain⟨v,hv⟩:=An;exact⟨v,by rw[GS];exact hv⟩
  ·refine(ok b u q).stay (λc v hc r=>k c v ?_ r) (λc r=>by rw[ay (Kn c b r)];exact r) λc xs r=>by rw[ay (M4 c xs r)];exact r
   rcases hc with rfl | hc
   ·exact GS
   ·rintro rfl;rcases he with z | z
    ·exact Kn c b hc z
    ·rw[hc] at z;cases z;exact hb rfl
end
structure Un (fs ex:List Addr) (H H':Hp) (h h':Heap):Prop where
 keep:∀b o,h.get? b=some o->H b=none->b∉fs->b∉ex->h'.get? b=some o
 slot:∀b o,h.get? b=some o->H b=none->b∈fs->b∉ex->∃sl,h'.get? b=some {o with slots:=sl}
 free:∀b o,h.get? b=some o->H b=none->b∉ex->H' b=none
 there:∀b o,h.get? b=some o->b∉ex->∃o',h'.get? b=some o'
 tups:∀b xs,H b=some (.tup xs)->H' b=some (.tup xs)
 frzs:∀b o u,H b=some (.frz o u)->H' b=some (.frz o u)
 tbls:∀b ps,H b=some (.tbl ps)->∃more,H' b=some (.tbl (ps++more))
section
variable{fs NV ex wb:List Addr}{H H1 H2:Hp}{h h1 h2 h':Heap}{a x e:Addr}{o:HO}
def Un.any(u:Un fs ex H H1 h h1){b:Addr}{ob:Obj}(q:h.get? b=some ob)(n:H b=none)(hx:b∉ex):∃sl,h1.get? b=some {ob with slots:=sl}:=by
 by_cases hb:b∈fs
 ·exact u.slot b ob q n hb hx
 ·exact⟨ob.slots,u.keep b ob q n hb hx⟩
def Un.trans(a:Un fs ex H H1 h h1)(b:Un fs ex H1 H2 h1 h2):Un fs ex H H2 h h2 where
 keep:=λc ob q n hc hx=>b.keep c ob (a.keep c ob q n hc hx) (a.free c ob q n hx) hc hx
 slot:=λc ob q n hc hx=>by
  obtain⟨sl,e1⟩:=a.slot c ob q n hc hx;obtain⟨Ir,e2⟩:=b.slot c _ e1 (a.free c ob q n hx) hc hx;exact⟨Ir,e2⟩
 free:=λc ob q n hx=>by
  obtain⟨o',e1⟩:=a.there c ob q hx;exact b.free c o' e1 (a.free c ob q n hx) hx
 there:=λc ob q hx=>by
  obtain⟨o',e1⟩:=a.there c ob q hx;exact b.there c o' e1 hx
 tups:=λc xs q=>b.tups c xs (a.tups c xs q)
 frzs:=λc ob xs q=>b.frzs c ob xs (a.frzs c ob xs q)
 tbls:=λc ps q=>by
  obtain⟨m1,e1⟩:=a.tbls c ps q;obtain⟨m2,e2⟩:=b.tbls c _ e1;exact⟨m1++m2,by rw[e2,Vq]⟩
def Un.kept(k:∀b u,h.get? b=some u->h'.get? b=some u):Un fs ex H H h h':=
 ⟨λb ob q _ _ _=>k b ob q,λb ob q _ _ _=>⟨ob.slots,k b ob q⟩,λ_ _ _ n _=>n,λb ob q _=>⟨ob,k b ob q⟩,λ_ _ q=>q,λ_ _ _ q=>q,λ_ ps q=>⟨#[],by rw[q];simp⟩⟩
def Un.refl:Un fs ex H H h h:=Un.kept λ_ _ q=>q
def Un.laid(k:∀b u,h.get? b=some u->h'.get? b=some u)(hp:h.objs.size<=a)(hn:H a=none):Un fs ex H (upd H a o) h h' where
 keep:=λb u q _ _ _=>k b u q
 slot:=λb u q _ _ _=>⟨u.slots,k b u q⟩
 free:=λb u q n _=>by rw[ay (Rl (Rr (QY q) hp))];exact n
 there:=λb u q _=>⟨u,k b u q⟩
 tups:=λb xs q=>by rw[ay (bf q hn)];exact q
 frzs:=λb u xs q=>by rw[ay (bf q hn)];exact q
 tbls:=λb ps q=>⟨#[],by rw[ay (bf q hn),q];simp⟩
def Un.write(mu:Jh (H x))(he:e=x\/H e=some (.own x))(k:∀b u,b≠e->h.get? b=some u->h'.get? b=some u)(An:∃u,h'.get? e=some u):Un fs ex H (upd H x o) h h':=by
 have hx:∀b,H b=none->b≠x:=λb n z=>by subst z;rw[n] at mu;exact mu
 have hb:∀b,H b=none->b≠e:=λb n z=>by
  subst z;rcases he with r | r
  ·exact hx b n r
  ·rw[n] at r;cases r
 have hm:∀b u,H b=some u->¬Jh (some u)->b≠x:=λb u q nm z=>by subst z;rw[q] at mu;exact nm mu
 refine⟨λb u q n _ _=>k b u (hb b n) q,λb u q n _ _=>⟨u.slots,k b u (hb b n) q⟩,λb u q n _=>by rw[ay (hx b n)];exact n,λb u q _=>?_,
  λb xs q=>by rw[ay (hm b _ q λz=>z)];exact q,λb u xs q=>by rw[ay (hm b _ q λz=>z)];exact q,λb ps q=>⟨#[],by rw[ay (hm b _ q λz=>z),q];simp⟩⟩
 by_cases GS:b=e
 ·subst GS;exact An
 ·exact⟨u,k b u GS q⟩
def Un.mono(u:Un fs ex H H1 h h1)(hs:∀b∈fs,b∈NV)(hx:∀b∈ex,b∈wb):Un NV wb H H1 h h1:=
 ⟨λb ob q n hb he=>u.keep b ob q n (λz=>hb (hs b z)) λz=>he (hx b z),λ_ _ q n _ he=>u.any q n λz=>he (hx _ z),λb ob q n he=>u.free b ob q n λz=>he (hx b z),λb ob q he=>u.there b ob q λz=>he (hx b z),u.tups,u.frzs,u.tbls⟩
end
def LO(h:Heap)(H:Hp):List Addr:=(Rf h.objs.size).filter λa=>(H a).isSome
def rT(h:Heap)(H:Hp):Heap:=PySem.W.hideAll h (LO h H)
def zk(h:Heap)(H:Hp):(rT h H).objs.size=h.objs.size:=PySem.W.hideAll_size _ _
def Bc{h:Heap}{H:Hp}{b:Addr}{o:Obj}(e:h.get? b=some o)(n:H b=none):(rT h H).get? b=some o:=
 PySem.W.hideAll_get _ e λhm=>by
  have q:(H b).isSome=true:=(RG.mp hm).2;rw[n] at q;simp at q
def Et{h:Heap}{H:Hp}{b:Addr}{o:Obj}(e:(rT h H).get? b=some o):h.get? b=some o/\H b=none:=by
 have e':h.get? b=some o:=PySem.W.of_hideAll (LO h H) e;refine⟨e',?_⟩;cases q:H b with
 |none=>rfl
 |some x=>
  have hm:b∈LO h H:=RG.mpr ⟨RL.mpr (QY e'),by simp[q]⟩;have z:(rT h H).get? b=none:=PySem.W.hideAll_none (LO h H) hm;rw[z] at e;cases e
def Dy(g h:Heap)(L:Addr):List (Addr×Obj):=(Rf h.objs.size).filterMap λa=>if a=L\/(g.get? a).isSome=true then none else(h.get? a).map λo=>(a,o)
def T0(g h:Heap)(L d:Addr):List (Addr×Obj):=(Dy g h L).filter λp=>decide (p.1≠d)
structure Mod (K:QZ) (mg:Str->Option Value) (base:Heap):Prop where
 kin:K.In base
 glob:base.Ns Rm mg
 blt:∃mb,base.Ns builtinsNs mb/\∀x:Str,x≠"__name__"->mb x=Rv x
 nolimit:base.NoLimit
structure Cx where
 prog:Ru
 w:World
 K:QZ
 mg:Str->Option Value
 base:Heap
 A:RQ
 N:List Str
 X9:QT
 X8:Hp
 env:Env
 outer:List Env
 stack:List Env
 ex:List Addr
 fn:Str->Bool
 calm:Bool
 pn:List (Addr×Obj)
 xe:Value->QT->Prop
def mV(l:List Env):List Addr:=l.filterMap (·.frame)
abbrev Cx.fs(X:Cx):List Addr:=mV X.outer
def Li(sc:Scope)(x:Str):Prop:=sc.names.lookup x=some .local\/sc.names.lookup x=some .cell\/sc.names.lookup x=some .free
def Loc(sc:Scope)(x:Str):Prop:=sc.names.lookup x=some .local\/sc.names.lookup x=some .cell
def Look(env:Env)(h:Heap)(m:Str->Option Value)(x:Str)(u:Value):Prop:=
 (env.kindOf x=some .local/\m x=some u)\/((env.kindOf x=some .cell\/env.kindOf x=some .free)/\∃c,env.cells.lookup x=some c/\h.IsCell c (some u))
structure Cx.Ok (X:Cx):Prop where
 mod:Mod X.K X.mg X.base
 kind:X.env.scope.kind= .function
 glob:X.env.globals=Rm
 blt:X.env.builtins=builtinsNs
 above:X.X9.heap.objs.size<=X.env.locals
 inj:∀x y c,X.env.cells.lookup x=some c->X.env.cells.lookup y=some c->x=y
 has:∀x,(X.env.kindOf x=some .cell\/X.env.kindOf x=some .free)->∃c,X.env.cells.lookup x=some c
 cab:∀x c,X.fn x=true->X.env.cells.lookup x=some c->X.X9.heap.objs.size<=c
 hd:X.calm=true->X.A.handled=none
 frames:X.A.frames=some X.stack
 stk:X.stack=X.outer\/(X.stack=X.env::X.outer/\X.env.frame=some X.env.locals)
 exf:∀b∈X.ex,b≠X.env.locals/\∀x c,X.env.cells.lookup x=some c->c≠b
 bs:∀b o,X.base.get? b=some o->X.X9.heap.get? b=some o/\X.X8 b=none
 bsz:X.base.objs.size<=X.X9.heap.objs.size
 noex:∀b o,X.base.get? b=some o->b∉X.ex
 exfs:∀b∈X.ex,b∉X.fs
 funs:X.X9.heap.FunFrames X.base X.outer
 frf:∀b∈X.fs,X.X8 b=none
structure Inv (X:Cx) (f8:List (Addr×Obj)) (σ:List (Option V)) (H:Hp) (s:QT):Prop where
 ok:X.Ok
 os:s.os=X.X9.os
 bare:Vr s.gens
 base:Un X.fs X.ex X.X8 H X.X9.heap s.heap
 loc:∃m,s.heap.Ns X.env.locals m/\∀(i:Nat) (x:Str) (v:V),X.N[i]? =some x->σ[i]? =some (some v)->Li X.env.scope x->∃u,RelV v u/\Look X.env s.heap m x u
 cell:∀x c,X.env.cells.lookup x=some c->∃v,s.heap.IsCell c v
 free:H X.env.locals=none
 freeC:∀x c,X.env.cells.lookup x=some c->H c=none
 pin:∀p∈X.pn++f8,s.heap.get? p.1=some p.2/\H p.1=none/\p.1≠X.env.locals/\p.1∉X.fs/\∀v,p.2.data≠ .cell v
 hok:HOk X.prog X.w H s.heap
 len:σ.length=X.N.length
section
variable{X:Cx}{f8:List (Addr×Obj)}{σ:List (Option V)}{H H':Hp}{s:QT}{h':Heap}
def Cx.Ok.nofr(ok:X.Ok){b:Addr}{o:Obj}(e:X.base.get? b=some o):b∉X.fs:=λhb=>by
 have:=(ok.funs.mem hb).1;rw[e] at this;cases this
def Inv.bs(I:Inv X f8 σ H s):∀b o,X.base.get? b=some o->s.heap.get? b=some o/\H b=none:=λb o e=>
 ⟨I.base.keep b o (I.ok.bs b o e).1 (I.ok.bs b o e).2 (I.ok.nofr e) (I.ok.noex b o e),I.base.free b o (I.ok.bs b o e).1 (I.ok.bs b o e).2 (I.ok.noex b o e)⟩
def Inv.bk(I:Inv X f8 σ H s):∀b o,X.base.get? b=some o->s.heap.get? b=some o:=λb o e=>(I.bs b o e).1
def Inv.mod(I:Inv X f8 σ H s):Mod X.K X.mg X.base:=I.ok.mod
def Inv.kIn(I:Inv X f8 σ H s):X.K.In s.heap:=I.ok.mod.kin.keeps I.bk
def Inv.nolimit(I:Inv X f8 σ H s):s.heap.NoLimit:=I.ok.mod.nolimit.keeps I.bk
def Inv.lt(I:Inv X f8 σ H s):X.env.locals<s.heap.objs.size:=let ⟨_,hn,_⟩:=I.loc;hn.lt
def Inv.sz(I:Inv X f8 σ H s):X.X9.heap.objs.size<=s.heap.objs.size:=RI I.ok.above (SV I.lt)
def Inv.nofs(I:Inv X f8 σ H s){a:Addr}(h:s.heap.objs.size<=a):a∉X.fs:=λhb=>by
 obtain⟨_,o,ho,_⟩:=I.ok.funs.mem hb;exact XN (Rr (QY ho) (RI I.sz h)) (RC _)
def Inv.cne(I:Inv X f8 σ H s):∀x c,X.env.cells.lookup x=some c->c≠X.env.locals:=λx c e z=>by
 obtain⟨v,o,ho,hd⟩:=I.cell x c e;obtain⟨m,⟨o',es,ep,vM,tL,_⟩,_⟩:=I.loc;rw[z,vM] at ho;cases ho;rw[tL] at hd;cases hd
def Inv.funs(I:Inv X f8 σ H s):s.heap.FunFrames X.base X.outer:=by
 have all:∀(l:List Env),(∀b∈mV l,b∈X.fs)->X.X9.heap.FunFrames X.base l->s.heap.FunFrames X.base l:=by
  intro l;induction l with
  |nil=>intro _ _;trivial
  |cons env r ih=>
   intro hs hl;obtain⟨hk,⟨L,o,hf,hn,ho,hd⟩,hr⟩:=hl;have hL:L∈X.fs:=hs L (by unfold mV;rw[Vh,hf];exact QR);obtain⟨sl,e⟩:=I.base.slot L o ho (I.ok.frf L hL) hL λz=>I.ok.exfs L z hL;exact⟨hk,⟨L,_,hf,hn,e,hd⟩,ih (λb hb=>hs b (by unfold mV;rw[Vh,hf];exact QQ _ hb)) hr⟩
 exact all X.outer (λ_ hb=>hb) I.ok.funs
def Inv.stack(I:Inv X f8 σ H s):s.heap.FunFrames X.base X.stack:=by
 rcases I.ok.stk with e | ⟨e,hf⟩
 ·rw[e];exact I.funs
 ·rw[e];obtain⟨m,hn,_⟩:=I.loc;refine .cons (by rw[I.ok.kind];decide) hf hn ?_ I.funs;exact W6 (RI I.ok.bsz I.ok.above)
def Inv.stkSub(I:Inv X f8 σ H s):∀b∈mV X.stack,b∈X.env.locals::X.fs:=λb hb=>by
 rcases I.ok.stk with e | ⟨e,hf⟩
 ·rw[e] at hb;exact QQ _ hb
 ·rw[e] at hb;unfold mV at hb;rw[Vh,hf] at hb;exact hb
def Inv.stkFree(I:Inv X f8 σ H s):∀b∈mV X.stack,H b=none:=λb hb=>by
 rcases Q9.mp (I.stkSub b hb) with e | hb
 ·rw[e];exact I.free
 ·obtain⟨_,o,ho,_⟩:=I.ok.funs.mem hb;exact I.base.free b o ho (I.ok.frf b hb) λz=>I.ok.exfs b z hb
def Inv.step{g':Array GenState}{t':Nat}{d':Drawn}{ch:List Addr}(I:Inv X f8 σ H s)
 (Dp:∀b∈ch,(b∈X.ex\/X.X9.heap.objs.size<=b)/\b≠X.env.locals/\(∀x c,X.env.cells.lookup x=some c->c≠b)/\∀p∈X.pn++f8,p.1≠b)
 (keep:∀b o,b≠X.env.locals->b∉X.fs->b∉ch->s.heap.get? b=some o->H b=none->h'.get? b=some o)
 (slot:∀b o,b≠X.env.locals->b∈X.fs->b∉ch->s.heap.get? b=some o->H b=none->∃sl,h'.get? b=some {o with slots:=sl})(free:∀b o,b∉ch->s.heap.get? b=some o->H b=none->H' b=none)
 (there:∀b o,b∉ch->s.heap.get? b=some o->∃o',h'.get? b=some o')
 (tups:∀b xs,H b=some (.tup xs)->H' b=some (.tup xs))(frzs:∀b o u,H b=some (.frz o u)->H' b=some (.frz o u))(tbls:∀b ps,H b=some (.tbl ps)->∃more,H' b=some (.tbl (ps++more)))
 (ns:∀m,s.heap.Ns X.env.locals m->h'.Ns X.env.locals m)(hok:HOk X.prog X.w H' h')(hg:Vr g'):
 Inv X f8 σ H' {s with heap:=h',gens:=g',drawn:=d',toks:=t'}:=by
 have Oy:∀b o,X.X9.heap.get? b=some o->b≠X.env.locals:=λb o e=>Rl (Rr (QY e) I.ok.above);have LH:∀b o,X.X9.heap.get? b=some o->b∉X.ex->b∉ch:=λb o e hx hb=>by
  rcases(Dp b hb).1 with z | z
  ·exact hx z
  ·exact XN (Rr (QY e) z) (RC _)
 have cellK:∀x c,X.env.cells.lookup x=some c->∀v,s.heap.IsCell c v->h'.IsCell c v:=λx c e v ⟨o,ho,hd⟩=>by
  have Kl:c∉ch:=λz=>(Dp c z).2.2.1 x c e rfl;by_cases hc:c∈X.fs
  ·obtain⟨sl,q⟩:=slot c o (I.cne x c e) hc Kl ho (I.freeC x c e);exact⟨_,q,hd⟩
  ·exact⟨o,keep c o (I.cne x c e) hc Kl ho (I.freeC x c e),hd⟩
 refine⟨I.ok,I.os,hg,⟨λb o e n hb hx=>?_,λb o e n hb hx=>?_,λb o e n hx=>?_,λb o e hx=>?_,λb xs e=>tups b xs (I.base.tups b xs e),λb o xs e=>frzs b o xs (I.base.frzs b o xs e),λb ps e=>?_⟩,?_,λx c e=>?_,?_,λx c e=>?_,λp hp=>?_,hok,I.len⟩
 ·exact keep b o (Oy b o e) hb (LH b o e hx) (I.base.keep b o e n hb hx) (I.base.free b o e n hx)
 ·obtain⟨sl,e1⟩:=I.base.slot b o e n hb hx;obtain⟨Ir,e2⟩:=slot b _ (Oy b o e) hb (LH b o e hx) e1 (I.base.free b o e n hx);exact⟨Ir,e2⟩
 ·obtain⟨o',e1⟩:=I.base.there b o e hx;exact free b o' (LH b o e hx) e1 (I.base.free b o e n hx)
 ·obtain⟨o',e1⟩:=I.base.there b o e hx;exact there b o' (LH b o e hx) e1
 ·obtain⟨m1,e1⟩:=I.base.tbls b ps e;obtain⟨m2,e2⟩:=tbls b _ e1;exact⟨m1++m2,by rw[e2,Vq]⟩
 ·obtain⟨m,hn,hl⟩:=I.loc;refine⟨m,ns m hn,λi x v e1 e2 e3=>?_⟩;obtain⟨u,r,l⟩:=hl i x v e1 e2 e3;refine⟨u,r,?_⟩;rcases l with l | ⟨k,c,e,z⟩
  ·exact .inl l
  ·exact .inr ⟨k,c,e,cellK x c e _ z⟩
 ·obtain⟨v,z⟩:=I.cell x c e;exact⟨v,cellK x c e v z⟩
 ·obtain⟨m,⟨o,_,_,ho,_⟩,_⟩:=I.loc;exact free _ o (λz=>(Dp _ z).2.1 rfl) ho I.free
 ·obtain⟨v,o,ho,hd⟩:=I.cell x c e;exact free c o (λz=>(Dp c z).2.2.1 x c e rfl) ho (I.freeC x c e)
 ·obtain⟨e,n,ne,nf,d⟩:=I.pin p hp;have Kl:p.1∉ch:=λz=>(Dp p.1 z).2.2.2 p hp rfl;exact⟨keep p.1 p.2 ne nf Kl e n,free p.1 p.2 Kl e n,ne,nf,d⟩
def Inv.un{t':Nat}(I:Inv X f8 σ H s)(u:Un X.fs [] H H' s.heap h')(hok:HOk X.prog X.w H' h'):Inv X f8 σ H' {s with heap:=h',toks:=t'}:=by
 obtain⟨m,⟨o,es,ep,ho,r⟩,_⟩:=id I.loc;obtain⟨sl,hL⟩:=u.any ho I.free (by simp);exact I.step (g':=s.gens) (d':=s.drawn) (ch:=[]) (λ_ z=>nomatch z) (λb o _ hb _ e n=>u.keep b o e n hb (by simp)) (λb o _ hb _ e n=>u.slot b o e n hb (by simp)) (λb o _ e n=>u.free b o e n (by simp)) (λb o _ e=>u.there b o e (by simp)) u.tups u.frzs u.tbls (λm' hm=>by
  obtain⟨o',IJ,DP,vM,r'⟩:=hm;rw[ho] at vM;cases vM;exact⟨_,IJ,DP,hL,r'⟩) hok I.bare
def Inv.call{g':Array GenState}{t':Nat}{d':Drawn}{ch:List Addr}(I:Inv X f8 σ H s)(u:Un (mV X.stack) ch H H' s.heap h')(hok:HOk X.prog X.w H' h')(hg:Vr g')
 (Dp:∀b∈ch,(b∈X.ex\/X.X9.heap.objs.size<=b)/\b≠X.env.locals/\(∀x c,X.env.cells.lookup x=some c->c≠b)/\∀p∈X.pn++f8,p.1≠b):
 Inv X f8 σ H' {s with heap:=h',gens:=g',drawn:=d',toks:=t'}:=by
 obtain⟨m,⟨o,es,ep,ho,r⟩,_⟩:=id I.loc;obtain⟨sl,hL⟩:=u.any ho I.free λz=>(Dp _ z).2.1 rfl;exact I.step (ch:=ch) Dp (λb o hL hb hc e n=>u.keep b o e n (λz=>(Q9.mp (I.stkSub b z)).elim hL hb) hc) (λb o _ _ hc e n=>u.any e n hc) (λb o hc e n=>u.free b o e n hc) (λb o hc e=>u.there b o e hc) u.tups u.frzs u.tbls (λm' hm=>by
  obtain⟨o',IJ,DP,vM,r'⟩:=hm;rw[ho] at vM;cases vM;exact⟨_,IJ,DP,hL,r'⟩) hok hg
def Inv.turned{t':Nat}{it:Addr}(I:Inv X f8 σ H s)(k:∀b o,b≠it->s.heap.get? b=some o->h'.get? b=some o)(hn:H it=none)(hL:it≠X.env.locals)
 (h1:it∈X.ex\/X.X9.heap.objs.size<=it)(h2:∀x c,X.env.cells.lookup x=some c->c≠it)(h3:∀p∈X.pn++f8,p.1≠it):Inv X f8 σ H {s with heap:=h',toks:=t'}:=by
 have F8:∀b u,H b=some u->b≠it:=λb u e z=>by rw[z,hn] at e;cases e
 refine I.step (g':=s.gens) (d':=s.drawn) (ch:=[it]) (λb hb=>?_) (λb o _ _ hc e _=>k b o (λz=>hc (by simp[z])) e) (λb o _ _ hc e _=>⟨o.slots,k b o (λz=>hc (by simp[z])) e⟩) (λ_ _ _ _ n=>n)
  (λb o hc e=>⟨o,k b o (λz=>hc (by simp[z])) e⟩) (λ_ _ e=>e) (λ_ _ _ e=>e) (λb ps e=>⟨#[],by rw[e];simp⟩) (λm hm=>?_) (λb u e=>?_) I.bare
 ·have e:b=it:=by simpa using hb
  subst e;exact⟨h1,hL,h2,h3⟩
 ·obtain⟨o,es,ep,ho,r⟩:=hm;exact⟨o,es,ep,k _ o (R3 hL) ho,r⟩
 ·refine(I.hok b u e).stay (λc v hc q=>k c v ?_ q) (λ_ q=>q) λ_ _ q=>q;rcases hc with z | z
  ·rw[z];exact F8 b u e
  ·exact F8 c _ z
def Inv.tok(I:Inv X f8 σ H s)(t:Nat):Inv X f8 σ H {s with toks:=t}:=I.un (h':=s.heap) (t':=t) Un.refl I.hok
def Inv.kept{t':Nat}(I:Inv X f8 σ H s)(k:∀b u,s.heap.get? b=some u->h'.get? b=some u):Inv X f8 σ H {s with heap:=h',toks:=t'}:=I.un (Un.kept k) (I.hok.kept k)
def Inv.laid{a:Addr}{o:HO}{t':Nat}(I:Inv X f8 σ H s)(k:∀b u,s.heap.get? b=some u->h'.get? b=some u)(hp:s.heap.objs.size<=a)(new:ObjOk X.prog X.w (upd H a o) h' a o):
 Inv X f8 σ (upd H a o) {s with heap:=h',toks:=t'}:=I.un (Un.laid k hp (I.hok.fresh hp)) (I.hok.laid k hp new)
def Inv.write{x e:Addr}{o:HO}{t':Nat}(I:Inv X f8 σ H s)(mu:Jh (H x))(he:e=x\/H e=some (.own x))(k:∀b u,b≠e->s.heap.get? b=some u->h'.get? b=some u)(An:∃u,h'.get? e=some u)
 (new:ObjOk X.prog X.w (upd H x o) h' x o):Inv X f8 σ (upd H x o) {s with heap:=h',toks:=t'}:=I.un (Un.write mu he k An) (I.hok.write mu he k An new)
def Inv.pins_of{Ge:List (Addr×Obj)}(I:Inv X f8 σ H s)(h:∀p∈Ge,s.heap.get? p.1=some p.2/\H p.1=none/\p.1≠X.env.locals/\p.1∉X.fs/\∀v,p.2.data≠ .cell v):Inv X Ge σ H s:=
 ⟨I.ok,I.os,I.bare,I.base,I.loc,I.cell,I.free,I.freeC,λp hp=>(R0.mp hp).elim (λz=>I.pin p (Uk _ z)) (h p),I.hok,I.len⟩
def uK{N:List Str}(hN:N.Nodup){i j:Nat}{x:Str}(a:N[i]? =some x)(b:N[j]? =some x):i=j:=by
 obtain⟨h1,e1⟩:=Q4.mp a;obtain⟨h2,e2⟩:=Q4.mp b;exact(List.getElem_inj hN).mp (e1.trans e2.symm)
def rh{M:Model}{A:RQ}{E:Value->QT->Prop}{i:Nat}{x:Str}{v:V}{u:Value}{Q:Unit->QT->Prop}(I:Inv X f8 σ H s)(hN:X.N.Nodup)(hi:X.N[i]? =some x)(hx:Loc X.env.scope x)(r:RelV v u)
 (h:∀s',Inv X f8 (σ.set i (some v)) H s'->(∃a,R9 a s.heap s'.heap/\(a=X.env.locals\/X.env.cells.lookup x=some a))->Q () s')(hf:X.fn x=true\/X.env.scope.names.lookup x=some .local:=by first | exact .inl rfl | exact .inr rfl | assumption):wpAny M A (storeName X.env x u) Q E s:=by
 obtain⟨m,hn,hl⟩:=id I.loc;have Mf:(X.env.scope.kind== .class||(X.env.scope.kind== .module&&X.env.locals !=X.env.globals))=false:=by rw[I.ok.kind];rfl
 have Od:i<σ.length:=by rw[I.len];exact(Q4.mp hi).1
 have cne:=I.cne;have tracked:∀{a:Addr}{h':Heap},(∃o,s.heap.get? a=some o/\H a=none)->R9 a s.heap h'->HOk X.prog X.w H h':=λ{a h'} ha hs b ob e=>by
  obtain⟨_,_,FT⟩:=ha;refine(I.hok b ob e).stay (λc w' hc q=>(hs.2 c ?_).trans q) (λ_ q=>q) λ_ _ q=>q;rintro rfl;rcases hc with rfl | hc
  ·rw[FT] at e;cases e
  ·rw[FT] at hc;cases hc
 rcases hx with hk | hk
 ·refine wpAny_storeName_local hk hn (λh' IU hs=>?_) Mf;obtain⟨oL,_,_,Dv,_⟩:=id hn;refine h _ ⟨I.ok,I.os,I.bare,⟨λb o e n hb hx=>?_,λb o e n hb hx=>?_,I.base.free,λb o e hx=>?_,I.base.tups,I.base.frzs,I.base.tbls⟩,⟨_,IU,λj y v' e1 e2 e3=>?_⟩,λy c e=>?_,I.free,I.freeC,λp hp=>?_,tracked ⟨oL,Dv,I.free⟩ hs,by simpa using I.len⟩ ⟨_,hs, .inl rfl⟩
  ·exact(hs.2 b (Rl (Rr (QY e) I.ok.above))).trans (I.base.keep b o e n hb hx)
  ·obtain⟨sl,e1⟩:=I.base.slot b o e n hb hx;exact⟨sl,(hs.2 b (Rl (Rr (QY e) I.ok.above))).trans e1⟩
  ·obtain⟨o',e1⟩:=I.base.there b o e hx;exact⟨o',(hs.2 b (Rl (Rr (QY e) I.ok.above))).trans e1⟩
  ·by_cases hj:j=i
   ·subst hj;rw[hi] at e1;cases e1;rw[Rh Od] at e2;cases e2;exact⟨u,r, .inl ⟨hk,by simp⟩⟩
   ·rw[Q7 (R3 hj)] at e2;obtain⟨u',r',q⟩:=hl j y v' e1 e2 e3;refine⟨u',r',?_⟩;rcases q with⟨k,e⟩ | ⟨k,c,e,z⟩
    ·refine .inl ⟨k,?_⟩;have:y≠x:=λe=>hj (uK hN e1 (e▸hi));simp[this,e]
    ·exact .inr ⟨k,c,e,z.sameBut hs (cne y c e)⟩
  ·obtain⟨w',z⟩:=I.cell y c e;exact⟨w',z.sameBut hs (cne y c e)⟩
  ·obtain⟨e,n,ne,nf,d⟩:=I.pin p hp;exact⟨(hs.2 p.1 ne).trans e,n,ne,nf,d⟩
 ·have Mo:X.fn x=true:=by
   rcases hf with z | z
   ·exact z
   ·rw[z] at hk;cases hk
  obtain⟨c,hc⟩:=I.ok.has x (.inl hk);obtain⟨w',z⟩:=I.cell x c hc;refine wpAny_storeName_cell I.ok.kind hk hc z (λh' FQ hs=>?_);obtain⟨oc,Lz,My⟩:=id z;refine h {s with heap:=h'} ⟨I.ok,I.os,I.bare,⟨λb o e n hb hx=>?_,λb o e n hb hx=>?_,I.base.free,λb o e hx=>?_,I.base.tups,I.base.frzs,I.base.tbls⟩,⟨m,hn.sameBut hs (R3 (cne x c hc)),λj y v' e1 e2 e3=>?_⟩,λy c' e=>?_,I.free,I.freeC,λp hp=>?_,tracked ⟨oc,Lz,I.freeC x c hc⟩ hs,by simpa using I.len⟩ ⟨c,hs, .inr hc⟩
  ·exact(hs.2 b (Rl (Rr (QY e) (I.ok.cab x c Mo hc)))).trans (I.base.keep b o e n hb hx)
  ·obtain⟨sl,e1⟩:=I.base.slot b o e n hb hx;exact⟨sl,(hs.2 b (Rl (Rr (QY e) (I.ok.cab x c Mo hc)))).trans e1⟩
  ·obtain⟨o',e1⟩:=I.base.there b o e hx;exact⟨o',(hs.2 b (Rl (Rr (QY e) (I.ok.cab x c Mo hc)))).trans e1⟩
  ·by_cases hj:j=i
   ·subst hj;rw[hi] at e1;cases e1;rw[Rh Od] at e2;cases e2;exact⟨u,r, .inr ⟨.inl hk,c,hc,FQ⟩⟩
   ·rw[Q7 (R3 hj)] at e2;obtain⟨u',r',q⟩:=hl j y v' e1 e2 e3;refine⟨u',r',?_⟩;rcases q with q | ⟨k,c',e,z'⟩
    ·exact .inl q
    ·refine .inr ⟨k,c',e,z'.sameBut hs ?_⟩;rintro rfl;exact hj (uK hN e1 (I.ok.inj _ _ _ e hc▸hi))
  ·by_cases Ls:c'=c
   ·subst Ls;exact⟨_,FQ⟩
   ·obtain⟨w2,z2⟩:=I.cell y c' e;exact⟨w2,z2.sameBut hs Ls⟩
  ·obtain⟨e,n,ne,nf,d⟩:=I.pin p hp;refine⟨(hs.2 p.1 ?_).trans e,n,ne,nf,d⟩;intro q;rw[q,Lz] at e;have q':oc=p.2:=Rx e;exact d w' (by rw[<-q'];exact My)
def pd{M:Model}{A:RQ}{E:Value->QT->Prop}{i:Nat}{x:Str}{v:V}{u:Value}{Q:Unit->QT->Prop}(I:Inv X f8 σ H s)(hN:X.N.Nodup)(hi:X.N[i]? =some x)(hx:Loc X.env.scope x)(r:RelV v u)
 (h:∀s',Inv X f8 (σ.set i (some v)) H s'->Q () s')(hf:X.fn x=true\/X.env.scope.names.lookup x=some .local:=by first | exact .inl rfl | exact .inr rfl | assumption):wpAny M A (storeName X.env x u) Q E s:=
 rh I hN hi hx r (λs' I' _=>h s' I') hf
def Inv.call'{s':QT}{ch:List Addr}(I:Inv X f8 σ H s)(ho:s'.os=s.os)(u:Un (mV X.stack) ch H H' s.heap s'.heap)(hok:HOk X.prog X.w H' s'.heap)(hg:Vr s'.gens)
 (Dp:∀b∈ch,(b∈X.ex\/X.X9.heap.objs.size<=b)/\b≠X.env.locals/\(∀x c,X.env.cells.lookup x=some c->c≠b)/\∀p∈X.pn++f8,p.1≠b):Inv X f8 σ H' s':=by
 obtain⟨h',g',d',t',o'⟩:=s';have e:o'=s.os:=ho;subst e;exact I.call (g':=g') (t':=t') (d':=d') u hok hg Dp
end
abbrev XK:=Value->Option Addr->Hp->Prop
abbrev St:=List (Option V)
abbrev VK:=V->Hp->Prop
abbrev TE:=St->Hp->VK->Prop
abbrev TT:=St->Hp->(Bool->Hp->Prop)->Prop
abbrev TA:=St->Hp->(List V->Hp->Prop)->Prop
structure Ends where
 nx:St->Hp->Prop
 rt:VK
 bk:St->Hp->Prop:=λ_ _=>False
 ct:St->Hp->Prop:=λ_ _=>False
abbrev TS:=Ends->St->Hp->Prop
def EP(X:Cx)(f8:List (Addr×Obj))(σ:St)(Q:VK)(u:Value)(s':QT):Prop:=∃v H',Inv X f8 σ H' s'/\RelV v u/\Q v H'
def TP(X:Cx)(f8:List (Addr×Obj))(σ:St)(Q:Bool->Hp->Prop)(b:Bool)(s':QT):Prop:=∃H',Inv X f8 σ H' s'/\Q b H'
def AP(X:Cx)(f8:List (Addr×Obj))(σ:St)(Q:List V->Hp->Prop)(us:List Value)(s':QT):Prop:=∃vs H',Inv X f8 σ H' s'/\Vals vs us/\Q vs H'
def SP(X:Cx)(f8:List (Addr×Obj))(D:Ends)(f:Flow)(s':QT):Prop:=
 match f with
 | .next=>∃σ' H',Inv X f8 σ' H' s'/\D.nx σ' H'
 | .brk=>∃σ' H',Inv X f8 σ' H' s'/\D.bk σ' H'
 | .cont=>∃σ' H',Inv X f8 σ' H' s'/\D.ct σ' H'
 | .ret u=>∃v σ' H',Inv X f8 σ' H' s'/\RelV v u/\D.rt v H'
def PE(X:Cx)(e:Expr)(t:TE):Prop:=
 ∀(f8:List (Addr×Obj)) (s:QT) (σ:St) (H:Hp) (Q:VK),Inv X f8 σ H s->t σ H Q->wpAny (model X.prog X.w) X.A (eval e X.env) (EP X f8 σ Q) X.xe s
def PT(X:Cx)(e:Expr)(t:TT):Prop:=
 ∀(f8:List (Addr×Obj)) (s:QT) (σ:St) (H:Hp) (Q:Bool->Hp->Prop),Inv X f8 σ H s->t σ H Q->wpAny (model X.prog X.w) X.A (isTrue e X.env (eval e X.env)) (TP X f8 σ Q) X.xe s
def PW(X:Cx)(e:Expr)(t:TT):Prop:=
 ∀(whole:Sem Value) (f8:List (Addr×Obj)) (s:QT) (σ:St) (H:Hp) (Q:Bool->Hp->Prop),Inv X f8 σ H s->t σ H Q->wpAny (model X.prog X.w) X.A (isTrue e X.env whole) (TP X f8 σ Q) X.xe s
def PW.pt{X:Cx}{e:Expr}{t:TT}(h:PW X e t):PT X e t:=h _
def PA(X:Cx)(es:List Expr)(t:TA):Prop:=
 ∀(pos:Pos) (f8:List (Addr×Obj)) (s:QT) (σ:St) (H:Hp) (Q:List V->Hp->Prop),Inv X f8 σ H s->t σ H Q->wpAny (model X.prog X.w) X.A (spliced (Tr pos (Q8 es X.env))) (AP X f8 σ Q) X.xe s
def PS(X:Cx)(st:Stmt)(t:TS):Prop:=
 ∀(f8:List (Addr×Obj)) (s:QT) (σ:St) (H:Hp) (D:Ends),Inv X f8 σ H s->t D σ H->wpAny (model X.prog X.w) X.A (exec st X.env) (SP X f8 D) X.xe s
def PSs(X:Cx)(st:List Stmt)(t:TS):Prop:=
 ∀(f8:List (Addr×Obj)) (s:QT) (σ:St) (H:Hp) (D:Ends),Inv X f8 σ H s->t D σ H->wpAny (model X.prog X.w) X.A (execs st X.env) (SP X f8 D) X.xe s
def b7{α:Type}{t:Sem α}{Q Q':α->QT->Prop}{M:Model}{A:RQ}{E:Value->QT->Prop}{s:QT}(h:wpAny M A t Q E s)(hQ:∀a s,Q a s->Q' a s):wpAny M A t Q' E s:=R8 h hQ λ_ _ x=>x
section
variable{X:Cx}
def bin{a b:Expr}{ta tb:TE}(ha:PE X a ta)(hb:PE X b tb){f8:List (Addr×Obj)}{s:QT}{σ:St}{H:Hp}{R:V->V->Hp->Prop}(I:Inv X f8 σ H s)(h:ta σ H λx H1=>tb σ H1 λy H2=>R x y H2)
 {α:Type}{Q:α->QT->Prop}{f:Value->Value->Sem α}
 (hf:∀v u s2 x y H2,Inv X f8 σ H2 s2->RelV x v->RelV y u->R x y H2->wpAny (model X.prog X.w) X.A (f v u) Q X.xe s2):
 wpAny (model X.prog X.w) X.A (eval a X.env) (λv v0=>wpAny (model X.prog X.w) X.A (eval b X.env) (λu t0=>wpAny (model X.prog X.w) X.A (f v u) Q X.xe t0) X.xe v0) X.xe s:=by
 refine b7 (ha f8 s σ H _ I h) λv s1 ⟨x,H1,I1,r1,q1⟩=>?_;refine b7 (hb f8 s1 σ H1 _ I1 q1) λu s2 ⟨y,H2,I2,r2,q2⟩=>?_;exact hf v u s2 x y H2 I2 r1 r2 q2
def pf(i:Nat):TE:=λσ H Q=>∃v,σ[i]? =some (some v)/\Q v H
def tC(v:V):TE:=λ_ H Q=>Q v H
def HX{i:Nat}{x:Str}{pos:Pos}(hN:X.N[i]? =some x)(hv:Li X.env.scope x)(hd:(x==("__debug__":Str))=false:=by decide)(vK:(x==("__classdict__":Str))=false:=by decide):PE X (.Name x pos) (pf i):=by
 intro f8 s σ H Q I h;obtain⟨v,e,h⟩:=h;obtain⟨m,hn,hl⟩:=I.loc;obtain⟨u,r,l⟩:=hl i x v hN e hv;have fin:EP X f8 σ Q u s:=⟨v,H,I,r,h⟩
 rcases l with⟨hk,hm⟩ | ⟨hk,c,hc,xT⟩
 ·exact wpAny_Name (wpAny_loadName_local I.ok.kind hk hn hm fin) hd
 ·rcases hk with hk | hk
  ·exact wpAny_Name (wpAny_loadName_cell I.ok.kind hk hc xT fin) hd
  ·exact wpAny_Name (wpAny_loadName_free I.ok.kind hk hc xT fin vK) hd
def HP{i j pos}:PE X (.Constant (.int i) j pos) (tC (.int i)):=λ_ _ _ H _ I h=>wpAny_Constant_int ⟨.int i,H,I.tok _,⟨_,rfl⟩,h⟩
def Ky{b j pos}:PE X (.Constant (.bool b) j pos) (tC (.bl b)):=λ_ _ _ H _ I h=>Constant_bool ⟨.bl b,H,I,rfl,h⟩
def HQ{j pos}:PE X (.Constant .none j pos) (tC .non):=λ_ _ _ H _ I h=>Constant_none ⟨.non,H,I,rfl,h⟩
def HU{x j pos}:PE X (.Constant (.str x) j pos) (tC (.str x)):=λ_ _ _ H _ I h=>Calls.Constant_str ⟨.str x,H,I.tok _,⟨_,rfl⟩,h⟩
def Gl(X:Cx)(x:Str):Prop:=X.env.kindOf x=some .globalImplicit
def yc{E:Value->QT->Prop}{f8:List (Addr×Obj)}{s:QT}{σ:St}{H:Hp}{x:Str}{u:Value}{pos:Pos}{Q:Value->QT->Prop}(I:Inv X f8 σ H s)(hg:Gl X x)(hm:X.mg x=some u)(h:Q u s)
 (hd:(x==("__debug__":Str))=false:=by decide):wpAny (model X.prog X.w) X.A (eval (.Name x pos) X.env) Q E s:=
 VY I.ok.kind hg (Calls.loadGlobal_global (by rw[I.ok.glob];exact I.mod.glob.keeps I.bk) hm h) hd
def g7{E:Value->QT->Prop}{f8:List (Addr×Obj)}{s:QT}{σ:St}{H:Hp}{x:Str}{u:Value}{pos:Pos}{Q:Value->QT->Prop}(I:Inv X f8 σ H s)(hg:Gl X x)(hm:X.mg x=none)(hv:Rv x=some u)(h:Q u s)
 (hn:x≠"__name__":=by decide)(hd:(x==("__debug__":Str))=false:=by decide):wpAny (model X.prog X.w) X.A (eval (.Name x pos) X.env) Q E s:=by
 obtain⟨mb,h1,h2⟩:=I.mod.blt;exact VY I.ok.kind hg (Calls.loadGlobal_builtin (by rw[I.ok.glob];exact I.mod.glob.keeps I.bk) hm (by rw[I.ok.blt];exact h1.keeps I.bk) ((h2 x hn).trans hv) h) hd
def EU{x:Str}{v:V}{u:Value}{pos:Pos}(hg:Gl X x)(hm:X.mg x=some u)(r:RelV v u)(hd:(x==("__debug__":Str))=false:=by decide):PE X (.Name x pos) (tC v):=
 λ_ _ _ H _ I h=>yc I hg hm ⟨v,H,I,r,h⟩ hd
def EO{x:Str}{v:V}{u:Value}{pos:Pos}(hg:Gl X x)(hm:X.mg x=none)(hv:Rv x=some u)(r:RelV v u)(hn:x≠"__name__":=by decide)(hd:(x==("__debug__":Str))=false:=by decide):PE X (.Name x pos) (tC v):=
 λ_ _ _ H _ I h=>g7 I hg hm hv ⟨v,H,I,r,h⟩ hn hd
variable{a b:Expr}{ta tb:TE}{pos:Pos}
def PC(X:Cx)(op:CmpOp)(a b:Expr)(t:TE):Prop:=
 ∀(f8:List (Addr×Obj)) (s:QT) (σ:St) (H:Hp) (Q:VK),Inv X f8 σ H s->t σ H Q->
  wpAny (model X.prog X.w) X.A (eval a X.env) (λv v0=>wpAny (model X.prog X.w) X.A (eval b X.env) (λu t0=>wpAny (model X.prog X.w) X.A (R_ op v u) (EP X f8 σ Q) X.xe t0) X.xe v0) X.xe s
def BO(b:Expr){op:CmpOp}(h:op≠ .In)(h2:op≠ .NotIn):RX op b=false:=by
 have e1:(op==CmpOp.In)=false:=by cases op<;>first | rfl | exact XN rfl h
 have e2:(op==CmpOp.NotIn)=false:=by cases op<;>first | rfl | exact XN rfl h2
 cases b<;>simp[RX,e1,e2]
def HN{op:CmpOp}{t:TE}(h:PC X op a b t)(h1:RX op b=false:=by first | exact BO _ (by decide) (by decide) | rfl):PE X (.Compare a [op] [b] pos) t:=λf8 s σ H Q I hw=>wpAny_Compare1 (h f8 s σ H Q I hw) h1
variable{tA dS:TT}{T0:List Expr}
def Qw(t u:TT):TT:=λσ H Q=>t σ H λc H1=>if c=true then Q true H1 else u σ H1 Q
def Nr(t:TT):TT:=λσ H Q=>t σ H λc H1=>Q (!c) H1
def Ig(ha:PT X a tA):PW X (.BoolOp .Or [a] pos) tA:=by
 intro wh f8 s σ H Q I h;refine isTrue_or (b7 (ha f8 s σ H Q I h) λc s1 e=>?_);cases c with
 |false=>exact isTrue_or_nil e
 |true=>exact e
def KH(ha:PT X a tA)(hb:PW X (.BoolOp .Or (b::T0) pos) dS):PW X (.BoolOp .Or (a::b::T0) pos) (Qw tA dS):=by
 intro wh f8 s σ H Q I h;refine isTrue_or (b7 (ha f8 s σ H _ I h) λc s1 ⟨H1,I1,q1⟩=>?_);cases c with
 |true=>exact⟨H1,I1,q1⟩
 |false=>exact hb wh f8 s1 σ H1 Q I1 q1
def Ic(ha:PT X a tA):PT X (.UnaryOp .Not a pos) (Nr tA):=by
 intro f8 s σ H Q I h;exact isTrue_not (ha f8 s σ H (λc H1=>Q (!c) H1) I h)
def K5(ta tb:TE):TE:=λσ H Q=>ta σ H λx H1=>∃c,x= .bl c/\if c=true then tb σ H1 Q else Q (.bl false) H1
def Nt(ta tb:TE):TE:=λσ H Q=>ta σ H λx H1=>∃c,x= .bl c/\if c=true then Q (.bl true) H1 else tb σ H1 Q
def K9(ta:TE):TE:=λσ H Q=>ta σ H λx H1=>∃c,x= .bl c/\Q (.bl (!c)) H1
def HS{op}{t:TE}(h:PE X a t):PE X (.BoolOp op [a] pos) t:=λf8 s σ H Q I hw=>BoolOp_one (h f8 s σ H Q I hw)
def HM(ha:PE X a ta)(hb:PE X (.BoolOp .And (b::T0) pos) tb):PE X (.BoolOp .And (a::b::T0) pos) (K5 ta tb):=by
 intro f8 s σ H Q I h;refine BoolOp_and (b7 (ha f8 s σ H _ I h) λv s1 ⟨x,H1,I1,r1,q1⟩=>?_);obtain⟨c,rfl,q1⟩:=q1;cases r1;refine Ss ?_;cases c with
 |true=>exact hb f8 s1 σ H1 Q I1 q1
 |false=>exact⟨.bl false,H1,I1,rfl,q1⟩
def KC(ha:PE X a ta)(hb:PE X (.BoolOp .Or (b::T0) pos) tb):PE X (.BoolOp .Or (a::b::T0) pos) (Nt ta tb):=by
 intro f8 s σ H Q I h;refine BoolOp_or (b7 (ha f8 s σ H _ I h) λv s1 ⟨x,H1,I1,r1,q1⟩=>?_);obtain⟨c,rfl,q1⟩:=q1;cases r1;refine Ss ?_;cases c with
 |false=>exact hb f8 s1 σ H1 Q I1 q1
 |true=>exact⟨.bl true,H1,I1,rfl,q1⟩
def HR(ha:PE X a ta):PE X (.UnaryOp .Not a pos) (K9 ta):=by
 intro f8 s σ H Q I h;refine UnaryOp_ (b7 (ha f8 s σ H _ I h) λv s1 ⟨x,H1,I1,r1,q1⟩=>?_);obtain⟨c,rfl,q1⟩:=q1;cases r1;exact not_of (Ss ⟨.bl (!c),H1,I1,rfl,q1⟩)
end
def SqL(K:QZ)(H:Hp)(a:Addr)(xs:List V):Prop:=
 Rd H a (.lst xs)\/
  ∃(o:Obj) (aE:Array Value) (n:Nat),K.lookup a=some o/\o.cls= .type "list"/\o.dict=none/\o.data= .seq aE n/\aE.size<=Q_/\Vals xs aE.toList
def SqT(K:QZ)(H:Hp)(a:Addr)(xs:List V):Prop:=
 Rd H a (.tup xs)\/
  ∃(o:Obj) (aE:Array Value) (n:Nat),K.lookup a=some o/\o.cls= .type "tuple"/\o.data= .seq aE n/\aE.size<=Q_/\Vals xs aE.toList
def L4:Value->Option V
 | .none=>some .non
 | .bool b=>some (.bl b)
 | .int i _=>some (.int i)
 | .str x _=>some (.str x)
 | .bytes b _=>some (.byt b)
 | .float b _=>some (.flt b)
 | .ref a=>some (.ref a)
 | .type n=>some (.ty n)
 |_=>none
def RelV.abs{x:V}{u:Value}(r:RelV x u):L4 u=some x:=by
 cases x with
 |non=>cases r;rfl
 |bl _=>cases r;rfl
 |int _=>obtain⟨t,rfl⟩:=r;rfl
 |str _=>obtain⟨t,rfl⟩:=r;rfl
 |byt _=>obtain⟨t,rfl⟩:=r;rfl
 |flt _=>obtain⟨t,rfl⟩:=r;rfl
 |ref _=>cases r;rfl
 |ty _=>cases r;rfl
def RelV.inj{x y:V}{u:Value}(r:RelV x u)(q:RelV y u):x=y:=Rx (r.abs.symm.trans q.abs)
def Vals.inj:∀{xs ys:List V}{us:List Value},Vals xs us->Vals ys us->xs=ys
 |_,_,_, .nil, .nil=>rfl
 |_,_,_, .cons r t, .cons r' t'=>by rw[r.inj r',Vals.inj t t']
section
variable{X:Cx}{f8:List (Addr×Obj)}{σ:St}{H:Hp}{s:QT}{a:Addr}{xs ys:List V}
def SqL.of{K:QZ}(h:H a=some (.lst xs)):SqL K H a xs:= .inl (.inl h)
def SqT.of{K:QZ}(h:H a=some (.tup xs)):SqT K H a xs:= .inl (.inl h)
def Inv.list(I:Inv X f8 σ H s)(h:SqL X.K H a xs):∃aE:List Value,Vals xs aE/\PlainL s.heap a aE.toArray/\xs.length<=Q_:=by
 rcases h with h | ⟨o,aE,n,hk,hc,hd,hs,hz,r⟩
 ·obtain⟨z,aE,n,r,e⟩:=h.ok I.hok;exact⟨aE,r,⟨_,n,e,rfl,rfl,rfl⟩,z⟩
 ·refine⟨aE.toList,r,⟨o,n,I.kIn a o hk,hc,hd,by simpa using hs⟩,?_⟩;have e:=r.length;simp only[Q5] at e;omega
def Inv.tuple(I:Inv X f8 σ H s)(h:SqT X.K H a xs):∃aE:List Value,Vals xs aE/\IsTup s.heap a aE.toArray/\xs.length<=Q_:=by
 rcases h with h | ⟨o,aE,n,hk,hc,hs,hz,r⟩
 ·obtain⟨z,aE,r,p⟩:=h.ok I.hok;exact⟨aE,r,p,z⟩
 ·refine⟨aE.toList,r,⟨o,I.kIn a o hk,hc,n,by simpa using hs⟩,?_⟩;have e:=r.length;simp only[Q5] at e;omega
def Inv.list_inj(I:Inv X f8 σ H s)(h:SqL X.K H a xs)(h':SqL X.K H a ys):xs=ys:=by
 obtain⟨aE,r,⟨o,n,e,_,_,d⟩,_⟩:=I.list h;obtain⟨its',r',⟨o',n',e',_,_,d'⟩,_⟩:=I.list h';rw[e] at e';cases e';rw[d] at d';injection d' with d1 _
 have:aE=its':=by simpa using XQ Array.toList d1
 subst this;exact r.inj r'
def Inv.tuple_inj(I:Inv X f8 σ H s)(h:SqT X.K H a xs)(h':SqT X.K H a ys):xs=ys:=by
 obtain⟨aE,r,⟨o,e,_,n,d⟩,_⟩:=I.tuple h;obtain⟨its',r',⟨o',e',_,n',d'⟩,_⟩:=I.tuple h';rw[e] at e';cases e';rw[d] at d';injection d' with d1 _
 have:aE=its':=by simpa using XQ Array.toList d1
 subst this;exact r.inj r'
end
abbrev Cx.wish(X:Cx)(E:Value->QT->Prop):Cx:={X with xe:=E}
abbrev Cx.nox(X:Cx):Cx:=X.wish λ_ _=>False
def Cx.Ok.wish{X:Cx}(ok:X.Ok)(E:Value->QT->Prop):(X.wish E).Ok:=
 ⟨ok.mod,ok.kind,ok.glob,ok.blt,ok.above,ok.inj,ok.has,ok.cab,ok.hd,ok.frames,ok.stk,ok.exf,ok.bs,ok.bsz,ok.noex,ok.exfs,ok.funs,ok.frf⟩
def Cx.Ok.unwish{X:Cx}{E:Value->QT->Prop}(ok:(X.wish E).Ok):X.Ok:=
 ⟨ok.mod,ok.kind,ok.glob,ok.blt,ok.above,ok.inj,ok.has,ok.cab,ok.hd,ok.frames,ok.stk,ok.exf,ok.bs,ok.bsz,ok.noex,ok.exfs,ok.funs,ok.frf⟩
section
variable{X:Cx}{f8:List (Addr×Obj)}{σ:St}{H:Hp}{s:QT}{E:Value->QT->Prop}
def Inv.wish(I:Inv X f8 σ H s)(E:Value->QT->Prop):Inv (X.wish E) f8 σ H s:=⟨I.ok.wish E,I.os,I.bare,I.base,I.loc,I.cell,I.free,I.freeC,I.pin,I.hok,I.len⟩
def Inv.unwish(I:Inv (X.wish E) f8 σ H s):Inv X f8 σ H s:=⟨I.ok.unwish,I.os,I.bare,I.base,I.loc,I.cell,I.free,I.freeC,I.pin,I.hok,I.len⟩
def SP.unwish{D:Ends}{f:Flow}{s':QT}(h:SP (X.wish E) f8 D f s'):SP X f8 D f s':=by
 cases f with
 |next=>obtain⟨σ',H',I,q⟩:=h;exact⟨σ',H',I.unwish,q⟩
 |brk=>obtain⟨σ',H',I,q⟩:=h;exact⟨σ',H',I.unwish,q⟩
 |cont=>obtain⟨σ',H',I,q⟩:=h;exact⟨σ',H',I.unwish,q⟩
 |ret u=>obtain⟨v,σ',H',I,r,q⟩:=h;exact⟨v,σ',H',I.unwish,r,q⟩
def PE.nox{e:Expr}{t:TE}(h:PE X.nox e t):PE X e t:=λf8 s σ H Q I hw=>
 R8 (h f8 s σ H Q (I.wish _) hw) (λ_ _ ⟨v,H',I',r,q⟩=>⟨v,H',I'.unwish,r,q⟩) λ_ _ z=>Tc z
def PT.nox{e:Expr}{t:TT}(h:PT X.nox e t):PT X e t:=λf8 s σ H Q I hw=>
 R8 (h f8 s σ H Q (I.wish _) hw) (λ_ _ ⟨H',I',q⟩=>⟨H',I'.unwish,q⟩) λ_ _ z=>Tc z
def PSs.nox{st:List Stmt}{t:TS}(h:PSs X.nox st t):PSs X st t:=λf8 s σ H D I hw=>
 R8 (h f8 s σ H D (I.wish _) hw) (λ_ _ q=>q.unwish) λ_ _ z=>Tc z
end
section
variable{X:Cx}{st:Stmt}{T0:List Stmt}{t u:TS}{e:Expr}{te:TE}{pos:Pos}
def K8:TS:=λD σ H=>D.nx σ H
def Nv(t u:TS):TS:=λD σ H=>t {D with nx:=u D} σ H
def E6:PSs X [] K8:=λ_ _ σ H _ I h=>Vj ⟨σ,H,I,h⟩
def Ck(h1:PS X st t)(h2:PSs X T0 u):PSs X (st::T0) (Nv t u):=by
 intro f8 s σ H D I h;refine wpAny_execs_cons (b7 (h1 f8 s σ H {D with nx:=u D} I h) λf s1 q=>?_);cases f with
 |next=>
  obtain⟨σ',H',I',q⟩:=q;exact h2 f8 s1 σ' H' D I' q
 |ret v=>exact q
 |brk=>exact q
 |cont=>exact q
def E7(h1:PS X st t):PSs X [st] t:=by
 intro f8 s σ H D I h;refine wpAny_execs_cons (b7 (h1 f8 s σ H D I h) λf s1 q=>?_);cases f with
 |next=>exact Vj q
 |ret v=>exact q
 |brk=>exact q
 |cont=>exact q
def Inv.quiet{f8:List (Addr×Obj)}{σ:St}{H:Hp}{s:QT}(I:Inv X f8 σ H s):interactive X.env=false:=by simp[interactive,I.ok.kind]
def C3(te:TE):TS:=λD σ H=>te σ H λ_ H1=>D.nx σ H1
def m6(he:PE X e te)(hs:UW e none pos.line X.env=pure false:=by rfl):PS X (.Expr e pos) (C3 te):=by
 intro f8 s σ H D I h;exact wpAny_Expr_any (b7 (he f8 s σ H _ I h) λv s1 ⟨x,H1,I1,r1,q1⟩=>⟨σ,H1,I1,q1⟩) I.quiet hs
def Nu(te:TE):TS:=λD σ H=>te σ H D.rt
def H_(he:PE X e te):PS X (.Return (some e) pos) (Nu te):=by
 intro f8 s σ H D I h;exact wpAny_Return_some (b7 (he f8 s σ H _ I h) λv s1 ⟨x,H1,I1,r1,q1⟩=>⟨x,σ,H1,I1,r1,q1⟩)
def Np(c:TT)(t u:TS):TS:=λD σ H=>c σ H λb H1=>if b=true then t D σ H1 else u D σ H1
def KD{c:Expr}{a b:List Stmt}{tc:TT}(hc:PT X c tc)(ha:PSs X a t)(hb:PSs X b u):PS X (.If c a b pos) (Np tc t u):=by
 intro f8 s σ H D I h;refine wpAny_If (b7 (hc f8 s σ H _ I h) λd s1 ⟨H1,I1,q1⟩=>?_);cases d with
 |true=>exact ha f8 s1 σ H1 D I1 q1
 |false=>exact hb f8 s1 σ H1 D I1 q1
end
abbrev TG:=V->St->Hp->(St->Hp->Prop)->Prop
abbrev Fz:=List V->St->Hp->(St->Hp->Prop)->Prop
def PG(X:Cx)(target:Expr)(t:TG):Prop:=
 ∀(f8:List (Addr×Obj)) (s:QT) (σ:St) (H:Hp) (v:V) (u:Value) (Q:St->Hp->Prop),Inv X f8 σ H s->RelV v u->t v σ H Q->
  wpAny (model X.prog X.w) X.A (assign target X.env u) (λ_ s'=>∃σ' H',Inv X f8 σ' H' s'/\Q σ' H') X.xe s
def Lg(X:Cx)(ts:List Expr)(t:Fz):Prop:=
 ∀(f8:List (Addr×Obj)) (s:QT) (σ:St) (H:Hp) (vs:List V) (us:List Value) (Q:St->Hp->Prop),Inv X f8 σ H s->Vals vs us->t vs σ H Q->
  wpAny (model X.prog X.w) X.A (assignInOrder ((S_ ts X.env).map (·.2)) us) (λ_ s'=>∃σ' H',Inv X f8 σ' H' s'/\Q σ' H') X.xe s
abbrev LZ:=V->V->V->Hp->(Hp->Prop)->Prop
abbrev Lh:=V->V->Hp->VK->Prop
def NJ(X:Cx)(op:Operator)(t:Lh):Prop:=
 ∀(f8:List (Addr×Obj)) (s:QT) (σ:St) (H:Hp) (x y:V) (v u:Value) (Q:VK),Inv X f8 σ H s->RelV x v->RelV y u->t x y H Q->
  wpAny (model X.prog X.w) X.A (inplaceOp op v u) (EP X f8 σ Q) X.xe s
section
variable{X:Cx}{pos:Pos}
def A3(i:Nat):TG:=λv σ H Q=>Q (σ.set i (some v)) H
def ba{i:Nat}{x:Str}(hN:X.N.Nodup)(hi:X.N[i]? =some x)(hx:Loc X.env.scope x)(hf:X.fn x=true\/X.env.scope.names.lookup x=some .local:=by first | exact .inl rfl | exact .inr rfl | assumption):PG X (.Name x pos) (A3 i):=by
 intro f8 s σ H v u Q I r h;exact V3 (pd I hN hi hx r (λs' I'=>⟨_,H,I',h⟩) hf)
def Jy:Fz:=λvs σ H Q=>vs=[]/\Q σ H
def FO(t:TG)(u:Fz):Fz:=λvs σ H Q=>∃v r,vs=v::r/\t v σ H λσ' H'=>u r σ' H' Q
def mZ:Lg X [] Jy:=by
 intro f8 s σ H vs us Q I r h;obtain⟨e,h⟩:=h;subst e;cases r;exact assignInOrder_nil ⟨σ,H,I,h⟩
def dg{e:Expr}{es:List Expr}{t:TG}{u:Fz}(h1:PG X e t)(h2:Lg X es u)
 (hs:(S_ (e::es) X.env).map (·.2)=assign e X.env::(S_ es X.env).map (·.2):=by rfl):Lg X (e::es) (FO t u):=by
 intro f8 s σ H vs us Q I r h;obtain⟨v,vr,e1,h⟩:=h;subst e1;cases r with
 |cons r rr=>
  rw[hs];refine assignInOrder_cons (b7 (h1 f8 s σ H _ _ _ I r h) λ_ s1 ⟨σ1,H1,I1,q1⟩=>?_);exact h2 f8 s1 σ1 H1 _ _ Q I1 rr q1
def GL(K:QZ)(n:Nat)(t:Fz):TG:=λv σ H Q=>∃a xs,v= .ref a/\SqT K H a xs/\xs.length=n/\t xs σ H Q
def sE{es:List Expr}{k:Nat}{t:Fz}{n:Nat}(hc:X.calm=true)(h:Lg X es t)
 (hn:(S_ es X.env).length=n:=by rfl)(rU:(S_ es X.env).findIdx? (·.1)=none:=by rfl):PG X (.Tuple es k pos) (GL X.K n t):=by
 intro f8 s σ H v u Q I r hw;obtain⟨a,xs,e1,hq,hl,hw⟩:=hw;subst e1;cases r;obtain⟨aE,rv,ht,hz⟩:=I.tuple hq;refine assign_Tuple_tuple (I.ok.hd hc) ht (by simp[hn,<-hl,rv.length]) rU λh' hx=>?_;have I1:Inv X f8 σ H {s with heap:=h'}:=I.kept (t':=s.toks) λb o e=>hx b o (Rl (QY e)) e;exact h f8 _ σ H xs _ Q I1 (by simpa using rv) hw
def gS(to ti:TE)(t:LZ):TG:=λv σ H Q=>to σ H λo H1=>ti σ H1 λi H2=>t o i v H2 λH3=>Q σ H3
def Nh(te:TE)(g:TG):TS:=λD σ H=>te σ H λx H1=>g x σ H1 D.nx
def oW{tg e:Expr}{te:TE}{g:TG}(he:PE X e te)(hg:PG X tg g)(hs:VJ [tg] e pos.line X.env=pure false:=by rfl)(hw:swappedStores [tg] e X.env=pure none:=by rfl)
 (h1:(S_ [tg] X.env).map (·.2)=[assign tg X.env]:=by rfl):PS X (.Assign [tg] e pos) (Nh te g):=by
 intro f8 s σ H D I h;refine wpAny_Assign_stores (b7 (he f8 s σ H _ I h) λv s1 ⟨x,H1,I1,r1,q1⟩=>?_) hs hw;rw[h1];exact b7 (hg f8 s1 σ H1 x v _ I1 r1 q1) λ_ s2 q=>q
def Ni(i:Nat)(te:TE)(ti:Lh):TS:=λD σ H=>∃x,σ[i]? =some (some x)/\te σ H λy H1=>ti x y H1 λz H2=>D.nx (σ.set i (some z)) H2
def H8{i:Nat}{x:Str}{e:Expr}{te:TE}{op:Operator}{ti:Lh}{pos':Pos}(hN:X.N.Nodup)(hi:X.N[i]? =some x)(hx:Loc X.env.scope x)(he:PE X e te)(ho:NJ X op ti)(hf:X.fn x=true\/X.env.scope.names.lookup x=some .local:=by first | exact .inl rfl | exact .inr rfl | assumption):
 PS X (.AugAssign (.Name x pos') op e pos) (Ni i te ti):=by
 intro f8 s σ H D I h;obtain⟨v,e1,h⟩:=h;obtain⟨m,hn,hl⟩:=I.loc;have vis:Li X.env.scope x:=by rcases hx with k | k;exact .inl k;exact .inr (.inl k)
 obtain⟨u,r,l⟩:=hl i x v hi e1 vis;refine wpAny_AugAssign_Name ?_;have go:wpAny (model X.prog X.w) X.A (eval e X.env) (λw t0=>wpAny (model X.prog X.w) X.A (inplaceOp op u w) (λr XX=>wpAny (model X.prog X.w) X.A (storeName X.env x r) (λ_=>SP X f8 D .next) X.xe XX) X.xe t0) X.xe s:=by
  refine b7 (he f8 s σ H _ I h) λw s1 ⟨y,H1,I1,r1,q1⟩=>?_;refine b7 (ho f8 s1 σ H1 v y u w _ I1 r r1 q1) λz s2 ⟨zv,H2,I2,r2,q2⟩=>?_;exact pd I2 hN hi hx r2 (λs3 I3=>⟨_,H2,I3,q2⟩) hf
 rcases l with⟨hk,hm⟩ | ⟨hk,c,hc,xT⟩
 ·exact wpAny_loadName_local I.ok.kind hk hn hm go
 ·rcases hk with hk | hk
  ·exact wpAny_loadName_cell I.ok.kind hk hc xT go
  ·rcases hx with k | k
   ·have:X.env.scope.names.lookup x=some .free:=hk;rw[k] at this;cases this
   ·have:X.env.scope.names.lookup x=some .free:=hk;rw[k] at this;cases this
def Qo(f:Int->Int->Int):Lh:=λx y H Q=>∃i j,x= .int i/\y= .int j/\Q (.int (f i j)) H
def G9:NJ X .Add (Qo λi j=>i+j):=by
 intro f8 s σ H x y v u Q I r1 r2 h;obtain⟨i,j,e1,e2,q⟩:=h;subst e1;subst e2;obtain⟨t,rfl⟩:=r1;obtain⟨t',rfl⟩:=r2;exact iadd_int ⟨.int _,H,I.tok _,⟨_,rfl⟩,q⟩
end
section
variable{X:Cx}{pos:Pos}
def IB(c:TT)(tb:TS):TS:=λD σ H=>∃W:Nat->St->Hp->Prop,(∃m,W m σ H)/\∀m σ H,W m σ H->
 c σ H λb H1=>if b=true then∃N:St->Hp->Prop,(∀σ' H',N σ' H'->∃m',m'<m/\W m' σ' H')/\tb {D with nx:=N,ct:=N,bk:=D.nx} σ H1 else D.nx σ H1
def Ci{c:Expr}{body:List Stmt}{tc:TT}{tb:TS}(hp:PassesOwn (model X.prog X.w) X.A X.env X.xe)(hc:PT X c tc)(hb:PSs X body tb):PS X (.While c body [] pos) (IB tc tb):=by
 intro f8 s σ H D I h;obtain⟨W,⟨m0,w0⟩,turn⟩:=h;refine wpAny_While (codeAny_whileLoop (λn s'=>∃σ' H',Inv X f8 σ' H' s'/\W n σ' H') ?_ m0 ⟨σ,H,I,w0⟩);rintro n s1 ⟨σ1,H1,I1,w1⟩;refine Tw hp (b7 (hc f8 s1 σ1 H1 _ I1 (turn n σ1 H1 w1)) λb s2 ⟨H2,I2,q2⟩=>?_);cases b with
 |true=>
  obtain⟨N,hN,q2⟩:=q2;rw[XG rfl];refine Tw hp (b7 (hb f8 s2 σ1 H2 _ I2 q2) λf s3 q3=>?_);cases f with
  |next=>
   obtain⟨σ3,H3,I3,n3⟩:=q3;obtain⟨m',hm,w3⟩:=hN σ3 H3 n3;exact⟨m',hm,σ3,H3,I3,w3⟩
  |cont=>
   obtain⟨σ3,H3,I3,n3⟩:=q3;obtain⟨m',hm,w3⟩:=hN σ3 H3 n3;exact⟨m',hm,σ3,H3,I3,w3⟩
  |brk=>exact q3
  |ret v=>exact q3
 |false=>
  rw[XH Ra];exact Vj ⟨σ1,H2,I2,q2⟩
end
structure It where
 go:Nat->Hp->Prop
 yld:Nat->Hp->V->Hp->Prop
 stop:Nat->Hp->Prop
def pD(X:Cx)(f8:List (Addr×Obj))(H:Hp)(b:Addr):Prop:=
 H b=none/\b≠X.env.locals/\b∉X.fs/\(b∈X.ex\/X.X9.heap.objs.size<=b)/\(∀x c,X.env.cells.lookup x=some c->c≠b)/\∀p∈X.pn++f8,p.1≠b
def Inv.fpOk{X:Cx}{f8:List (Addr×Obj)}{σ:St}{H H':Hp}{s:QT}{b:Addr}(I:Inv X f8 σ H s)(hb:s.heap.objs.size<=b)(hn:H' b=none):pD X f8 H' b:=by
 refine⟨hn,RT (Rr I.lt hb),I.nofs hb, .inr (RI I.sz hb),λx c e z=>?_,λp hp z=>?_⟩
 ·obtain⟨v,q⟩:=I.cell x c e;exact XN (Rr q.lt (by rw[z];exact hb)) (RC _)
 ·exact XN (Rr (QY (I.pin p hp).1) (by rw[z];exact hb)) (RC _)
structure Turn (P:Ru) (w:World) (K:QZ) (tg:Expr) (J:It) (fp:List Addr) (it:Addr) (tn:Nat->Heap->Prop):Prop where
 mem:it∈fp
 obj:∀i h,tn i h->∀b∈fp,∃o,h.get? b=some o/\∀v,o.data≠ .cell v
 keep:∀i h h',tn i h->(∀b∈fp,∀o,h.get? b=some o->h'.get? b=some o)->tn i h'
 item:∀(X:Cx),X.prog=P->X.w=w->X.K=K->X.calm=true->∀(i:Nat) (f8:List (Addr×Obj)) (s:QT) (σ:St) (H:Hp) (E:Value->QT->Prop),Inv X f8 σ H s->(∀b∈fp,pD X f8 H b)->tn i s.heap->J.go i H->
  wpAny (model P w) X.A (Ug (.ref it)) (λr s1=>∃u,r=some u/\
   wpAny (model P w) X.A (Vk tg (.ref it) u) (λ_ s2=>∃x H',Inv X f8 σ H' s2/\RelV x u/\J.yld i H x H'/\tn (i+1) s2.heap/\∀b∈fp,H' b=none) E s1) E s
 done:∀(X:Cx),X.prog=P->X.w=w->X.K=K->X.calm=true->∀(i:Nat) (f8:List (Addr×Obj)) (s:QT) (σ:St) (H:Hp) (E:Value->QT->Prop),Inv X f8 σ H s->(∀b∈fp,pD X f8 H b)->tn i s.heap->J.stop i H->
  wpAny (model P w) X.A (Ug (.ref it)) (λr s1=>r=none/\Inv X f8 σ H s1) E s
 self:∀(A:RQ) (i:Nat) (s:QT) (Q:Value->QT->Prop) (E:Value->QT->Prop),tn i s.heap->Q (.ref it) s->wpAny (model P w) A (pyIter (.ref it)) Q E s
abbrev TI:=St->Hp->(It->Hp->Prop)->Prop
def NI(X:Cx)(f8:List (Addr×Obj))(σ:St)(tg:Expr)(R:It->Hp->Prop)(Ou:Value)(s2:QT):Prop:=
 ∃(it:Addr) (fp:List Addr) (tn:Nat->Heap->Prop) (J:It) (H':Hp),Ou= .ref it/\Inv X f8 σ H' s2/\Turn X.prog X.w X.K tg J fp it tn/\tn 0 s2.heap/\(∀b∈fp,pD X f8 H' b)/\R J H'
def PI(X:Cx)(tg iter:Expr)(wi:TI):Prop:=
 ∀(f8:List (Addr×Obj)) (s:QT) (σ:St) (H:Hp) (R:It->Hp->Prop),Inv X f8 σ H s->wi σ H R->
  wpAny (model X.prog X.w) X.A (eval iter X.env) (λv s1=>wpAny (model X.prog X.w) X.A (pyIter v) (NI X f8 σ tg R) X.xe s1) X.xe s
def nM{M:Model}{A:RQ}{E:Value->QT->Prop}{s:QT}{tg:Expr}{it:Addr}{u:Value}{o:Obj}{n:String}{vs:Array Value}{Q:Unit->QT->Prop}(ho:s.heap.get? it=some o)(hc:o.cls= .type n)(hd:o.data= .fields vs)
 (hn:["enumerate","zip","dict_itemiterator","dict_reverseitemiterator","odict_iterator","itertools.zip_longest","itertools.pairwise"].contains n=false)(hQ:Q () s):wpAny M A (Vk tg (.ref it) u) Q E s:=by
 unfold Vk;cases tg<;>first
  |exact QP hQ
  |(cases u<;>first
    |exact QP hQ
    |(refine QL (wpAny_load ho ?_)
      rw[hc,hd];show wpAny M A (if (["enumerate","zip","dict_itemiterator","dict_reverseitemiterator","odict_iterator","itertools.zip_longest","itertools.pairwise"].contains n&&vs[0]? ==some (TH _))=true then _ else _) Q E s;rw[XH (by intro h;rw[hn,Wn] at h;cases h)];exact QP hQ))
def LV(K:QZ)(a:Addr):It:=
 ⟨λi H=>∃xs x,SqL K H a xs/\xs[i]? =some x,λi H x H'=>H'=H/\∀xs,SqL K H a xs->xs[i]? =some x,λi H=>∃xs,SqL K H a xs/\xs.length<=i⟩
def LW(K:QZ)(a:Addr):It:=
 ⟨λi H=>∃xs x,SqT K H a xs/\xs[i]? =some x,λi H x H'=>H'=H/\∀xs,SqT K H a xs->xs[i]? =some x,λi H=>∃xs,SqT K H a xs/\xs.length<=i⟩
def Je(lo:Int)(n:Nat):It:=⟨λi _=>i<n,λi H x H'=>H'=H/\x= .int (lo+i),λi _=>n<=i⟩
def Ab{P:Ru}{w:World}{K:QZ}{tg:Expr}(a it:Addr):Turn P w K tg (LV K a) [it] it (λi h=>h.IsListIter it a i) where
 mem:=by simp
 obj:=λi h st b hb=>by
  have e:b=it:=by simpa using hb
  subst e;obtain⟨o,e,c,d⟩:=st;exact⟨o,e,λv z=>by rw[d] at z;cases z⟩
 keep:=λi h h' st k=>st.at λo e=>k it (by simp) o e
 item:=by
  intro X hP hw hK hc i f8 s σ H E I hf st hg;subst hP hw hK;obtain⟨xs,x,hq,hx⟩:=hg;obtain⟨aE,rv,p,hz⟩:=I.list hq;obtain⟨u,hu,ru⟩:=rv.get hx;obtain⟨f0,f1,f2,f3,f4,f5⟩:=hf it (by simp);refine wpAny_pyNext_list_item st p.isList (x:=u) (by simpa using hu) λh' jJ sb=>?_;have I1:Inv X f8 σ H {s with heap:=h'}:=I.turned (t':=s.toks) (λb o hb e=>(sb.2 b hb).trans e) f0 f1 f3 f4 f5;obtain⟨o,e,c,d⟩:=id jJ;exact⟨u,rfl,nM (s:={s with heap:=h'}) e c d (by decide) ⟨x,H,I1,ru,⟨rfl,λys hy=>by rw[I.list_inj hy hq];exact hx⟩,jJ,λb hb=>(hf b hb).1⟩⟩
 done:=by
  intro X hP hw hK hc i f8 s σ H E I hf st hg;subst hP hw hK;obtain⟨xs,hq,hx⟩:=hg;obtain⟨aE,rv,p,hz⟩:=I.list hq;obtain⟨f0,f1,f2,f3,f4,f5⟩:=hf it (by simp);have hl:=rv.length;exact wpAny_pyNext_list_end (I.ok.hd hc) st p.isList (by simp;omega) λh' eb=>⟨rfl,I.turned (t':=s.toks) (λb o hb e=>eb b o hb e) f0 f1 f3 f4 f5⟩
 self:=λ_ _ _ _ _ st h=>wpAny_pyIter_listiter st h
def xm{P:Ru}{w:World}{K:QZ}{tg:Expr}(a it:Addr):Turn P w K tg (LW K a) [it] it (λi h=>h.IsTupleIter it a i) where
 mem:=by simp
 obj:=λi h st b hb=>by
  have e:b=it:=by simpa using hb
  subst e;obtain⟨o,e,c,d⟩:=st;exact⟨o,e,λv z=>by rw[d] at z;cases z⟩
 keep:=λi h h' st k=>st.at λo e=>k it (by simp) o e
 item:=by
  intro X hP hw hK hc i f8 s σ H E I hf st hg;subst hP hw hK;obtain⟨xs,x,hq,hx⟩:=hg;obtain⟨aE,rv,p,hz⟩:=I.tuple hq;obtain⟨u,hu,ru⟩:=rv.get hx;obtain⟨f0,f1,f2,f3,f4,f5⟩:=hf it (by simp);refine wpAny_pyNext_tuple_item st (show s.heap.IsTuple a aE.toArray from p) (x:=u) (by simpa using hu) λh' jJ sb=>?_;have I1:Inv X f8 σ H {s with heap:=h'}:=I.turned (t':=s.toks) (λb o hb e=>(sb.2 b hb).trans e) f0 f1 f3 f4 f5;obtain⟨o,e,c,d⟩:=id jJ;exact⟨u,rfl,nM (s:={s with heap:=h'}) e c d (by decide) ⟨x,H,I1,ru,⟨rfl,λys hy=>by rw[I.tuple_inj hy hq];exact hx⟩,jJ,λb hb=>(hf b hb).1⟩⟩
 done:=by
  intro X hP hw hK hc i f8 s σ H E I hf st hg;subst hP hw hK;obtain⟨xs,hq,hx⟩:=hg;obtain⟨aE,rv,p,hz⟩:=I.tuple hq;obtain⟨f0,f1,f2,f3,f4,f5⟩:=hf it (by simp);have hl:=rv.length;exact wpAny_pyNext_tuple_end (I.ok.hd hc) st (show s.heap.IsTuple a aE.toArray from p) (by simp;omega) λh' eb=>⟨rfl,I.turned (t':=s.toks) (λb o hb e=>eb b o hb e) f0 f1 f3 f4 f5⟩
 self:=λ_ _ _ _ _ st h=>wpAny_pyIter_tupleiter st h
def xl{P:Ru}{w:World}{K:QZ}{tg:Expr}(it:Addr)(lo:Int)(n:Nat):Turn P w K tg (Je lo n) [it] it (λi h=>IsRangeIter h it (lo+(i:Nat)*1) ((n:Int) - (i:Nat)) 1) where
 mem:=by simp
 obj:=λi h st b hb=>by
  have e:b=it:=by simpa using hb
  subst e;exact⟨_,st,λv z=>by
   have z':Xg _=Data.cell v:=z;cases z'⟩
 keep:=λi h h' st k=>k it (by simp) _ st
 item:=by
  intro X hP hw hK hc i f8 s σ H E I hf st hg;subst hP hw hK;obtain⟨f0,f1,f2,f3,f4,f5⟩:=hf it (by simp);have W:=Walks.range (prog:=X.prog) (w:=X.w) (I.ok.hd hc) it lo 1 n;refine W.item i s _ _ hg st λv h' tk hv jJ kk=>?_;obtain⟨t,rfl⟩:=hv;have I1:Inv X f8 σ H {s with heap:=h',toks:=tk}:=I.turned (λb o hb e=>kk b o (by simpa using hb) e) f0 f1 f3 f4 f5;refine⟨_,rfl,nM (s:={s with heap:=h',toks:=tk}) (n:="range_iterator") jJ rfl rfl (by decide) ⟨.int (lo+i),H,I1,⟨t,?_⟩,⟨rfl,rfl⟩,jJ,λb hb=>(hf b hb).1⟩⟩;rw[Int.mul_one]
 done:=by
  intro X hP hw hK hc i f8 s σ H E I hf st hg;subst hP hw hK;obtain⟨f0,f1,f2,f3,f4,f5⟩:=hf it (by simp);exact wpAny_pyNext_range_end (I.ok.hd hc) st (by have:n<=i:=hg;omega) λh' eb=>⟨rfl,I.turned (t':=s.toks) (λb o hb e=>eb b o hb e) f0 f1 f3 f4 f5⟩
 self:=λ_ _ _ _ _ st h=>wpAny_pyIter_rangeiter st h
section
variable{X:Cx}{tg:Expr}
def Ke(K:QZ)(tl:TE):TI:=λσ H R=>tl σ H λx H1=>∃a,x= .ref a/\(∃xs,SqL K H1 a xs)/\R (LV K a) H1
def MT(K:QZ)(tl:TE):TI:=λσ H R=>tl σ H λx H1=>∃a,x= .ref a/\(∃xs,SqT K H1 a xs)/\R (LW K a) H1
def EV{l:Expr}{tl:TE}(hl:PE X l tl):PI X tg l (Ke X.K tl):=by
 intro f8 s σ H R I h;refine b7 (hl f8 s σ H _ I h) λv s1 ⟨x,H1,I1,r1,q1⟩=>?_;obtain⟨a,e,⟨xs,hq⟩,q⟩:=q1;subst e;cases r1;obtain⟨aE,rv,p,hz⟩:=I1.list hq;refine V2 p.isList ?_;refine⟨s1.heap.objs.size,[s1.heap.objs.size],_,_,H1,rfl,I1.kept (t':=s1.toks) λb o e=>QO _ e,Ab a _,⟨_,Q3 _ rfl,rfl,rfl⟩,λb hb=>?_,q⟩;have e:b=s1.heap.objs.size:=by simpa using hb
 subst e;exact I1.fpOk (Q0 _) (I1.hok.fresh (Q0 _))
def HZ{l:Expr}{tl:TE}(hl:PE X l tl):PI X tg l (MT X.K tl):=by
 intro f8 s σ H R I h;refine b7 (hl f8 s σ H _ I h) λv s1 ⟨x,H1,I1,r1,q1⟩=>?_;obtain⟨a,e,⟨xs,hq⟩,q⟩:=q1;subst e;cases r1;obtain⟨aE,rv,p,hz⟩:=I1.tuple hq;refine wpAny_pyIter_tuple (show s1.heap.IsTuple a aE.toArray from p) ?_;refine⟨s1.heap.objs.size,[s1.heap.objs.size],_,_,H1,rfl,I1.kept (t':=s1.toks) λb o e=>QO _ e,xm a _,⟨_,Q3 _ rfl,rfl,rfl⟩,λb hb=>?_,q⟩;have e:b=s1.heap.objs.size:=by simpa using hb
 subst e;exact I1.fpOk (Q0 _) (I1.hok.fresh (Q0 _))
def u9{f8:List (Addr×Obj)}{σ:St}{H:Hp}{s:QT}{R:It->Hp->Prop}{E:Value->QT->Prop}{lo hi:Int}{t u v:Tok}{tk:Nat}(I:Inv X f8 σ H s)(h1: -(2 ^ 62)<=lo)(h2:lo<2 ^ 62)(h3: -(2 ^ 62)<=hi)(h4:hi<2 ^ 62)
 (q:R (Je lo (hi - lo).toNat) H):wpAny (model X.prog X.w) X.A (pyIter (.ref s.heap.objs.size)) (NI X f8 σ tg R) E {s with heap:=s.heap.push {cls:= .type "range",data:= .fields #[.int lo t, .int hi u, .int 1 v]},toks:=tk}:=by
 refine wpAny_pyIter_range (IsRange.new ..) (small_one h1 h2 h3 h4) ?_;have I1:Inv X f8 σ H {s with heap:=s.heap.push {cls:= .type "range",data:= .fields #[.int lo t, .int hi u, .int 1 v]},toks:=tk}:=I.kept λb o e=>QO _ e;refine⟨(s.heap.push {cls:= .type "range",data:= .fields #[.int lo t, .int hi u, .int 1 v]}).objs.size,[(s.heap.push {cls:= .type "range",data:= .fields #[.int lo t, .int hi u, .int 1 v]}).objs.size],_,_,H,rfl,
  I1.kept (t':=tk) λb o e=>QO _ e,xl _ lo (hi - lo).toNat,?_,λb hb=>?_,q⟩
 ·have e1:lo+((0:Nat):Int)*1=lo:=by simp
  have e2:(((hi - lo).toNat:Nat):Int) - ((0:Nat):Int)=Builtin.Range.rangeSize lo hi 1:=by rw[rangeSize_one];split<;>omega
  show IsRangeIter _ _ (lo+((0:Nat):Int)*1) ((((hi - lo).toNat:Nat):Int) - ((0:Nat):Int)) 1;rw[e1,e2];exact Q3 _ rfl
 ·have e:b=(s.heap.push {cls:= .type "range",data:= .fields #[.int lo t, .int hi u, .int 1 v]}).objs.size:=by simpa using hb
  subst e;exact I1.fpOk (Q0 _) (I1.hok.fresh (Q0 _))
def Kf(ta:TA):TI:=λσ H R=>ta σ H λvs H1=>∃j:Int,vs=[.int j]/\ -(2 ^ 62)<=j/\j<2 ^ 62/\R (Je 0 j.toNat) H1
def Kg(ta:TA):TI:=λσ H R=>ta σ H λvs H1=>∃i j:Int,vs=[.int i, .int j]/\(-(2 ^ 62)<=i/\i<2 ^ 62/\ -(2 ^ 62)<=j/\j<2 ^ 62)/\R (Je i (j - i).toNat) H1
def zR{a:Expr}{ta:TA}{p pos:Pos}(hg:Gl X "range")(hm:X.mg "range"=none)(ha:PA X [a] ta)(hs:Q8 [a] X.env=[(false,eval a X.env)]:=by rfl):PI X tg (.Call (.Name "range" p) [a] [] pos) (Kf ta):=by
 intro f8 s σ H R I h;refine Call_ (g7 I hg hm boot_range (Sx (b7 (ha pos f8 s σ H _ I h) λus s1 ⟨vs,H1,I1,r1,q1⟩=>?_) hs rfl));obtain⟨j,e,q1,q2,q⟩:=q1;subst e;cases r1 with
 |cons r rr=>
  cases rr;obtain⟨t,rfl⟩:=r;exact call_range_1 (u9 I1 (by omega) (by omega) q1 q2 (by simpa using q))
def zS{a b:Expr}{ta:TA}{p pos:Pos}(hg:Gl X "range")(hm:X.mg "range"=none)(ha:PA X [a,b] ta)(hs:Q8 [a,b] X.env=[(false,eval a X.env),(false,eval b X.env)]:=by rfl)(IW:Q8 [b] X.env=[(false,eval b X.env)]:=by rfl):
 PI X tg (.Call (.Name "range" p) [a,b] [] pos) (Kg ta):=by
 intro f8 s σ H R I h;refine Call_ (g7 I hg hm boot_range (Sx (b7 (ha pos f8 s σ H _ I h) λus s1 ⟨vs,H1,I1,r1,q1⟩=>?_) (by rw[hs,IW]) (by rw[IW];rfl)));obtain⟨i,j,e,⟨q1,q2,q3,q4⟩,q⟩:=q1;subst e;cases r1 with
 |cons r rr=>
  cases rr with
  |cons r' rr=>
   cases rr;obtain⟨t,rfl⟩:=r;obtain⟨t',rfl⟩:=r';exact call_range_2 (u9 I1 q1 q2 q3 q4 q)
def Nn(wi:TI)(g:TG)(tb:TS):TS:=λD σ H=>wi σ H λJ H1=>∃W:Nat->Nat->St->Hp->Prop,(∃m,W 0 m σ H1)/\∀i m σ H,W i m σ H->
 (J.stop i H/\D.nx σ H)\/(J.go i H/\∃N:St->Hp->Prop,(∀σ' H',N σ' H'->∃m',m'<m/\W (i+1) m' σ' H')/\∀x H',J.yld i H x H'->g x σ H' λσ2 H2=>tb {D with nx:=N,ct:=N,bk:=D.nx} σ2 H2)
def oU(fp:List Addr)(h:Heap):List (Addr×Obj):=fp.filterMap λb=>(h.get? b).map λo=>(b,o)
def gw{fp:List Addr}{h:Heap}{b:Addr}{o:Obj}(hb:b∈fp)(e:h.get? b=some o):(b,o)∈oU fp h:=Xq.mpr ⟨b,hb,by rw[e];rfl⟩
def zI{fp:List Addr}{h:Heap}{p:Addr×Obj}(hp:p∈oU fp h):p.1∈fp/\h.get? p.1=some p.2:=by
 obtain⟨b,hb,e⟩:=Xq.mp hp;cases q:h.get? b with
 |none=>rw[q] at e;cases e
 |some o=>
  rw[q] at e;have e':(b,o)=p:=Rx e;subst e';exact⟨hb,q⟩
def Inv.pinned{f8:List (Addr×Obj)}{σ:St}{H:Hp}{s:QT}{fp:List Addr}(I:Inv X f8 σ H s)(hf:∀b∈fp,pD X f8 H b)(ho:∀b∈fp,∃o,s.heap.get? b=some o/\∀v,o.data≠ .cell v):Inv X (f8++oU fp s.heap) σ H s:=
 I.pins_of λp hp=>(R0.mp hp).elim (λz=>I.pin p (RH _ z)) λz=>by
  obtain⟨hb,e⟩:=zI z;obtain⟨f0,f1,f2,_⟩:=hf p.1 hb;obtain⟨o,e',d⟩:=ho p.1 hb;rw[e] at e';cases e';exact⟨e,f0,f1,f2,d⟩
def Inv.unpinned{f8 pl:List (Addr×Obj)}{σ:St}{H:Hp}{s:QT}(I:Inv X (f8++pl) σ H s):Inv X f8 σ H s:=I.pins_of λp hp=>I.pin p (RH _ (Uk _ hp))
def H9{iter:Expr}{body:List Stmt}{wi:TI}{g:TG}{tb:TS}{pos:Pos}(hp:PassesOwn (model X.prog X.w) X.A X.env X.xe)(hc:X.calm=true)(hi:PI X tg iter wi)(hg:PG X tg g)(hb:PSs X body tb)
 (hs:∀x,UX iter X.env x=pure x:=by intro _;rfl):PS X (.For tg iter body [] pos) (Nn wi g tb):=by
 intro f8 s σ H D I h;refine wpAny_For (b7 (hi f8 s σ H _ I h) λv s1 h1=>b7 h1 λOu s2 h2=>?_) hs;obtain⟨it,fp,tn,J,H2,e,I2,T,xi,f2,W,⟨m0,w0⟩,turn⟩:=h2;subst e;have Iv:∀{H':Hp},(∀b∈fp,H' b=none)->∀b∈fp,pD X f8 H' b:=λhn b hb=>⟨hn b hb,(f2 b hb).2⟩
 refine codeAny_forLoop_any (λn s'=>∃i σ' H',Inv X f8 σ' H' s'/\tn i s'.heap/\(∀b∈fp,H' b=none)/\W i n σ' H') ?_ m0 ⟨0,σ,H2,I2,xi,λb hb=>(f2 b hb).1,w0⟩;rintro n s3 ⟨i,σ3,H3,I3,I9,Lm,w3⟩;rcases turn i n σ3 H3 w3 with⟨stop,qn⟩ | ⟨go,N,hN,step⟩
 ·refine Tw hp (b7 (T.done X rfl rfl rfl hc i f8 s3 σ3 H3 X.xe I3 (Iv Lm) I9 stop) λr s4 ⟨hr,I4⟩=>?_);subst hr;exact Vj ⟨σ3,H3,I4,qn⟩
 ·refine Tw hp (b7 (T.item X rfl rfl rfl hc i f8 s3 σ3 H3 X.xe I3 (Iv Lm) I9 go) λr s4 ⟨u,hr,h4⟩=>?_);subst hr;refine Tw hp (b7 h4 λ_ s5 ⟨x,H5,I5,r5,y5,Ng,O5⟩=>?_);have I5':=I5.pinned (Iv O5) (T.obj _ _ Ng);refine Tw hp (b7 (hg _ s5 σ3 H5 x u _ I5' r5 (step x H5 y5)) λ_ s6 ⟨σ6,H6,I6,q6⟩=>?_);refine Tw hp (b7 (hb _ s6 σ6 H6 _ I6 q6) λf s7 q7=>?_);have again:∀{σ7:St}{H7:Hp},Inv X (f8++oU fp s5.heap) σ7 H7 s7->N σ7 H7->∃m,m<n/\∃i σ' H',Inv X f8 σ' H' s7/\tn i s7.heap/\(∀b∈fp,H' b=none)/\W i m σ' H':=λ{σ7 H7} I7 n7=>by
   obtain⟨m',hm,w7⟩:=hN σ7 H7 n7;refine⟨m',hm,i+1,σ7,H7,I7.unpinned,T.keep _ _ _ Ng λb hb o e=>(I7.pin (b,o) (RH _ (RH _ (gw hb e)))).1,λb hb=>?_,w7⟩;obtain⟨o,e,d⟩:=T.obj _ _ Ng b hb;exact(I7.pin (b,o) (RH _ (RH _ (gw hb e)))).2.1
  cases f with
  |next=>obtain⟨σ7,H7,I7,n7⟩:=q7;exact again I7 n7
  |cont=>obtain⟨σ7,H7,I7,n7⟩:=q7;exact again I7 n7
  |brk=>obtain⟨σ7,H7,I7,q7⟩:=q7;exact⟨σ7,H7,I7.unpinned,q7⟩
  |ret v=>obtain⟨x7,σ7,H7,I7,r7,q7⟩:=q7;exact⟨x7,σ7,H7,I7.unpinned,r7,q7⟩
end
abbrev R2:=V->V->Hp->VK->Prop
def OpR(X:Cx)(f:Value->Value->Sem Value)(r:R2):Prop:=
 ∀(f8:List (Addr×Obj)) (s:QT) (σ:St) (H:Hp) (x y:V) (v u:Value) (Q:VK),Inv X f8 σ H s->RelV x v->RelV y u->r x y H Q->
  wpAny (model X.prog X.w) X.A (f v u) (EP X f8 σ Q) X.xe s
def CallR(X:Cx)(f:Value)(r:List V->Hp->VK->Prop):Prop:=
 ∀(f8:List (Addr×Obj)) (s:QT) (σ:St) (H:Hp) (xs:List V) (us:List Value) (Q:VK),Inv X f8 σ H s->Vals xs us->r xs H Q->
  wpAny (model X.prog X.w) X.A (call f us) (EP X f8 σ Q) X.xe s
def L0(X:Cx)(r:V->Hp->(Bool->Hp->Prop)->Prop):Prop:=
 ∀(f8:List (Addr×Obj)) (s:QT) (σ:St) (H:Hp) (x:V) (v:Value) (Q:Bool->Hp->Prop),Inv X f8 σ H s->RelV x v->r x H Q->
  wpAny (model X.prog X.w) X.A (truthy v) (TP X f8 σ Q) X.xe s
def K_(r:R2)(ta tb:TE):TE:=λσ H Q=>ta σ H λx H1=>tb σ H1 λy H2=>r x y H2 Q
def rI(C:Int->Int->Prop)(g:Int->Int->V):R2:=λx y H Q=>∃i j,x= .int i/\y= .int j/\C i j/\Q (g i j) H
def Ap(g:Int->Int->V):R2:=λx y H Q=>∃i j,x= .int i/\y= .int j/\Q (g i j) H
section
variable{X:Cx}{a b:Expr}{ta tb:TE}{pos:Pos}
def Gs(ha:PE X a ta)(hb:PE X b tb){f8:List (Addr×Obj)}{s:QT}{σ:St}{H:Hp}{R:V->V->Hp->Prop}(I:Inv X f8 σ H s)
 (h:ta σ H λx H1=>tb σ H1 λy H2=>R x y H2){Q:Value->QT->Prop}{f:Value->Value->Sem Value}
 (hf:∀v u s2 x y H2,Inv X f8 σ H2 s2->RelV x v->RelV y u->R x y H2->wpAny (model X.prog X.w) X.A (f v u) Q X.xe s2):
 wpAny (model X.prog X.w) X.A (eval a X.env) (λv v0=>wpAny (model X.prog X.w) X.A (eval b X.env) (λu t0=>wpAny (model X.prog X.w) X.A (f v u) Q X.xe t0) X.xe v0) X.xe s:=by
 refine b7 (ha f8 s σ H _ I h) λv s1 ⟨x,H1,I1,r1,q1⟩=>?_;refine b7 (hb f8 s1 σ H1 _ I1 q1) λu s2 ⟨y,H2,I2,r2,q2⟩=>?_;exact hf v u s2 x y H2 I2 r1 r2 q2
def KA{op:Operator}{r:R2}(ho:OpR X (Uo op) r)(ha:PE X a ta)(hb:PE X b tb):PE X (.BinOp a op b pos) (K_ r ta tb):=by
 intro f8 s σ H Q I h;exact wpAny_BinOp (Gs ha hb I h λv u s2 x y H2 I2 rx ry q=>ho f8 s2 σ H2 x y v u Q I2 rx ry q)
def M5{f:Value->Value->Sem Value}{C:Int->Int->Prop}{g:Int->Int->Int}
 (rule:∀(i j:Int) (t u:Tok) (s:QT) (Q:Value->QT->Prop) (E:Value->QT->Prop),C i j->Q (.int (g i j) s.toks) {s with toks:=s.toks+1}->wpAny (model X.prog X.w) X.A (f (.int i t) (.int j u)) Q E s):
 OpR X f (rI C λi j=> .int (g i j)):=by
 intro f8 s σ H x y v u Q I rx ry h;obtain⟨i,j,rfl,rfl,hc,q⟩:=h;obtain⟨t,rfl⟩:=rx;obtain⟨t',rfl⟩:=ry;exact rule i j t t' s _ _ hc ⟨.int (g i j),H,I.tok _,⟨_,rfl⟩,q⟩
def Kt{f:Value->Value->Sem Value}{g:Int->Int->Int}
 (rule:∀(i j:Int) (t u:Tok) (s:QT) (Q:Value->QT->Prop) (E:Value->QT->Prop),Q (.int (g i j) s.toks) {s with toks:=s.toks+1}->wpAny (model X.prog X.w) X.A (f (.int i t) (.int j u)) Q E s):
 OpR X f (Ap λi j=> .int (g i j)):=by
 intro f8 s σ H x y v u Q I rx ry h;obtain⟨i,j,rfl,rfl,q⟩:=h;obtain⟨t,rfl⟩:=rx;obtain⟨t',rfl⟩:=ry;exact rule i j t t' s _ _ ⟨.int (g i j),H,I.tok _,⟨_,rfl⟩,q⟩
def Ht{f:Value->Value->Sem Value}{g:Int->Int->Bool}
 (rule:∀(i j:Int) (t u:Tok) (s:QT) (Q:Value->QT->Prop) (E:Value->QT->Prop),Q (.bool (g i j)) s->wpAny (model X.prog X.w) X.A (f (.int i t) (.int j u)) Q E s):
 OpR X f (Ap λi j=> .bl (g i j)):=by
 intro f8 s σ H x y v u Q I rx ry h;obtain⟨i,j,rfl,rfl,q⟩:=h;obtain⟨t,rfl⟩:=rx;obtain⟨t',rfl⟩:=ry;exact rule i j t t' s _ _ ⟨.bl (g i j),H,I,rfl,q⟩
def Jb(i j:Int):Prop:=0<j/\j<1073741824
def CMul(i j:Int):Prop:=(-(2 ^ 64)<i/\i<2 ^ 64)\/(-(2 ^ 64)<j/\j<2 ^ 64)
def CMul.ok{i j:Int}(h:CMul i j):IntMulOk i j:=by
 rcases h with⟨h1,h2⟩ | ⟨h1,h2⟩
 ·exact .of_left (intBits_le_64 h1 h2)
 ·exact .of_right (intBits_le_64 h1 h2)
def Hu:OpR X (Uo .Add) (Ap λi j=> .int (i+j)):=Kt λ_ _ _ _ _ _ _ q=>add_int q
def HB:OpR X (Uo .Sub) (Ap λi j=> .int (i - j)):=Kt λ_ _ _ _ _ _ _ q=>sub_int q
def Hy:OpR X (Uo .Mult) (rI CMul λi j=> .int (i*j)):=M5 λ_ _ _ _ _ _ _ hc q=>mul_int q hc.ok
def Ex:OpR X (Uo .FloorDiv) (rI Jb λi j=> .int (i / j)):=M5 λi j _ _ _ _ _ hc q=>by
 have h1:(0:Int)<j:=hc.1;have h2:j<1073741824:=hc.2;exact floordiv_int (by omega) (by rw[Int.fdiv_eq_ediv_of_nonneg i (by omega)];exact q) (.inl (PyProof.noPylong_small (by omega)))
def Hx:OpR X (Uo .Mod) (rI (λ_ j=>0<j) λi j=> .int (i % j)):=M5 λi j _ _ _ _ _ hc q=>by
 have h1:(0:Int)<j:=hc;exact mod_int' (by omega) (by rw[Int.fmod_eq_emod_of_nonneg i (by omega)];exact q)
end
section
variable{X:Cx}{a b c:Expr}{ta tb tc:TE}{pos:Pos}
def GG{f8:List (Addr×Obj)}{σ:St}{H:Hp}{s:QT}{Q:VK}{k k':Bool}(I:Inv X f8 σ H s)(q:Q (.bl k) H)(e:k=k'):EP X f8 σ Q (.bool k') s:=by
 subst e;exact⟨.bl k,H,I,rfl,q⟩
def F_:OpR X (R_ .Lt) (Ap λi j=> .bl (decide (i<j))):=Ht λ_ _ _ _ _ _ _ q=>lt_int q
def uW:OpR X (R_ .LtE) (Ap λi j=> .bl (decide (i<=j))):=Ht λ_ _ _ _ _ _ _ q=>le_int q
def Ku:OpR X (R_ .GtE) (Ap λi j=> .bl (decide (j<=i))):=Ht λ_ _ _ _ _ _ _ q=>ge_int q
def zL:OpR X (R_ .In) (λx y H Q=>∃i j,x= .str i/\y= .str j/\Q (.bl (!(Tz j i 0 j.length 1).isEmpty)) H):=by
 intro f8 s σ H x y v u Q I rx ry h;obtain⟨i,j,rfl,rfl,q⟩:=h;obtain⟨t,rfl⟩:=rx;obtain⟨t',rfl⟩:=ry;exact in_str (GG I q rfl)
def OpR.or{f:Value->Value->Sem Value}{r r':R2}(h:OpR X f r)(h':OpR X f r'):OpR X f (λx y H Q=>r x y H Q\/r' x y H Q):=by
 intro f8 s σ H x y v u Q I rx ry q;rcases q with q | q
 ·exact h f8 s σ H x y v u Q I rx ry q
 ·exact h' f8 s σ H x y v u Q I rx ry q
def BQ(b:Expr){op:CmpOp}(h:op≠ .In:=by decide)(h2:op≠ .NotIn:=by decide):RX op b=false:=by
 have e1:(op==CmpOp.In)=false:=by cases op<;>first | rfl | exact XN rfl h
 have e2:(op==CmpOp.NotIn)=false:=by cases op<;>first | rfl | exact XN rfl h2
 cases b<;>simp[RX,e1,e2]
def ES{op:CmpOp}{r:R2}(ho:OpR X (R_ op) r)(ha:PE X a ta)(hb:PE X b tb)(hm:RX op b=false):PE X (.Compare a [op] [b] pos) (K_ r ta tb):=by
 intro f8 s σ H Q I h;exact wpAny_Compare1 (Gs ha hb I h λv u s2 x y H2 I2 rx ry q=>ho f8 s2 σ H2 x y v u Q I2 rx ry q) hm
def Gk(t:TE):TT:=λσ H Q=>t σ H λx H'=>∃k,x= .bl k/\Q k H'
def E8{op:CmpOp}{r:R2}(ho:OpR X (R_ op) r)(ha:PE X a ta)(hb:PE X b tb)(hm:RX op b=false):PT X (.Compare a [op] [b] pos) (Gk (K_ r ta tb)):=by
 intro f8 s σ H Q I h;refine wpAny_isTrue_Compare1 (b7 (ha f8 s σ H _ I h) λv s1 ⟨x,H1,I1,r1,q1⟩=>b7 (hb f8 s1 σ H1 _ I1 q1) λu s2 ⟨y,H2,I2,r2,q2⟩=>
  b7 (ho f8 s2 σ H2 x y v u _ I2 r1 r2 q2) λc s3 ⟨z,H3,I3,r3,k,e,q3⟩=>?_) hm
 subst e;cases r3;exact Ss ⟨H3,I3,q3⟩
def C1(r r':R2)(ta tb tc:TE):TE:=λσ H Q=>ta σ H λx H1=>tb σ H1 λy H2=>r x y H2 λz H3=>∃k,z= .bl k/\
 (if k=true then tc σ H3 λw' H4=>r' y w' H4 Q else Q (.bl false) H3)
def Cm{op IZ:CmpOp}{r r':R2}(ho:OpR X (R_ op) r)(vM:OpR X (R_ IZ) r')(ha:PE X a ta)(hb:PE X b tb)(hc:PE X c tc)
 (hm:lastMarks [op,IZ] [b,c]=false:=by with_unfolding_all rfl):PT X (.Compare a [op,IZ] [b,c] pos) (Gk (C1 r r' ta tb tc)):=by
 intro f8 s σ H Q I h;refine isTrue_chain (b7 (ha f8 s σ H _ I h) λv s1 ⟨x,H1,I1,r1,q1⟩=>test_link (b7 (hb f8 s1 σ H1 _ I1 q1) λu s2 ⟨y,H2,I2,r2,q2⟩=>
  b7 (ho f8 s2 σ H2 x y v u _ I2 r1 r2 q2) λd s3 ⟨z,H3,I3,r3,k,e,q3⟩=>?_)) hm
 subst e;cases r3;refine Ss ?_;cases k with
 |false=>
  obtain⟨k',e',q'⟩:=q3;cases e';exact ite_ff ⟨H3,I3,q'⟩
 |true=>
  refine ite_tt (test_last (b7 (hc f8 s3 σ H3 _ I3 q3) λw' s4 ⟨z',H4,I4,r4,q4⟩=>b7 (vM f8 s4 σ H4 y z' u w' _ I4 r2 r4 q4) λd' s5 ⟨z2,H5,I5,r5,k2,e2,q5⟩=>?_));subst e2;cases r5;exact Ss ⟨H5,I5,q5⟩
def Ji(K:QZ)(x:V)(H:Hp)(k:Bool):Prop:=
 match x with
 | .non=>k=false
 | .bl b=>k=b
 | .int i=>k=(i !=0)
 | .str y=>y.length<=Q_/\k=((y.length:Int) !=0)
 | .byt y=>y.size<=Q_/\k=((y.size:Int) !=0)
 | .ref p=>(∃xs,SqL K H p xs/\k=!xs.isEmpty)\/(∃xs,SqT K H p xs/\k=!xs.isEmpty)\/∃az,H p=some (.dK az)/\k=!az.isEmpty
 |_=>False
def wt{κ:Type}{az:List (κ×V)}{vs:List (κ×Value)}(r:KV az vs):(!vs.isEmpty)=!az.isEmpty:=by
 cases r<;>rfl
def nV{xs:List V}{aE:List Value}(r:Vals xs aE):(!aE.toArray.isEmpty)=!xs.isEmpty:=by
 cases r<;>simp
def lb:(Q_:Nat)<2 ^ 63:=by rw[SA];decide
def IC:L0 X (λx H Q=>∃k,Ji X.K x H k/\Q k H):=by
 intro f8 s σ H x v Q I rx h;obtain⟨k,e,q⟩:=h;have hl:=lb;have hs:Q_=16777216:=SA;cases x with
 |non=>
  cases rx;have e':k=false:=e;subst e';exact truthy_none ⟨H,I,q⟩
 |bl b=>
  cases rx;have e':k=b:=e;subst e';exact Ss ⟨H,I,q⟩
 |int i=>
  obtain⟨t,rfl⟩:=rx;have e':k=(i !=0):=e;subst e';exact PySem.P.truthy_int ⟨H,I,q⟩
 |str y=>
  obtain⟨t,rfl⟩:=rx;obtain⟨hy,e'⟩:y.length<=Q_/\k=((y.length:Int) !=0):=e;subst e';exact PySem.P.truthy_str (by omega) ⟨H,I.tok _,q⟩
 |byt y=>
  obtain⟨t,rfl⟩:=rx;obtain⟨hy,e'⟩:y.size<=Q_/\k=((y.size:Int) !=0):=e;subst e';exact PySem.W.truthy_bytes (by omega) ⟨H,I.tok _,q⟩
 |ref p=>
  cases rx;have e':(∃xs,SqL X.K H p xs/\k=!xs.isEmpty)\/(∃xs,SqT X.K H p xs/\k=!xs.isEmpty)\/∃az,H p=some (.dK az)/\k=!az.isEmpty:=e;rcases e' with⟨xs,hx,e'⟩ | ⟨xs,hx,e'⟩ | ⟨az,hx,e'⟩
  ·subst e';obtain⟨aE,r,pl,hz⟩:=I.list hx;have v6:=r.length;exact wpAny_truthy_list pl.isList (by simp only[QW];omega) ⟨H,I.tok _,by rw[nV r];exact q⟩
  ·subst e';obtain⟨aE,r,pl,hz⟩:=I.tuple hx;have v6:=r.length;exact truthy_tuple pl (by simp only[QW];omega) ⟨H,I.tok _,by rw[nV r];exact q⟩
  ·subst e';obtain⟨hz,hS,vs,r,m⟩:az.length<=Q_/\(p==So)=false/\∃vs,KV az vs/\s.heap.DictOf (bc X.prog X.w) p vs:=I.hok p _ hx;have v6:az.length=vs.length:=SK r;exact wpAny_truthy_dict hS m (by omega) ⟨H,I.tok _,by rw[wt r];exact q⟩
 |_=>exact(show False from e).elim
def Cq(ha:PE X a ta)(he:∀whole,isTrue a X.env whole=(do let v<-whole;standAt a.pos;holding [v] (truthy v))):
 PT X a (λσ H Q=>ta σ H λx H'=>∃k,Ji X.K x H' k/\Q k H'):=by
 intro f8 s σ H Q I h;exact isTrue_plain (b7 (ha f8 s σ H _ I h) λv s1 ⟨x,H1,I1,r1,q1⟩=>IC f8 s1 σ H1 x v Q I1 r1 q1) (he _)
def vals1{x:V}{us:List Value}(r:Vals [x] us):∃u,us=[u]/\RelV x u:=by
 cases r with
 |cons r1 r2=>cases r2;exact⟨_,rfl,r1⟩
def vals2{x y:V}{us:List Value}(r:Vals [x,y] us):∃u w',us=[u,w']/\RelV x u/\RelV y w':=by
 cases r with
 |cons r1 r2=>
  cases r2 with
  |cons r3 r4=>cases r4;exact⟨_,_,rfl,r1,r3⟩
def Az:CallR X (.builtin "abs") (λxs H Q=>∃i,xs=[.int i]/\Q (.int (if i<0 then -i else i)) H):=by
 intro f8 s σ H xs us Q I r h;obtain⟨i,rfl,q⟩:=h;obtain⟨u,rfl,t,rfl⟩:=vals1 r;exact call_abs_int λu tk=>⟨.int (if i<0 then -i else i),H,I.tok _,⟨_,rfl⟩,q⟩
def yX(hc:X.calm=true):CallR X (.builtin "max") (λxs H Q=>∃i j,xs=[.int i, .int j]/\Q (.int (if j>i then j else i)) H):=by
 intro f8 s σ H xs us Q I r h;obtain⟨i,j,rfl,q⟩:=h;obtain⟨u,w',rfl,⟨t,rfl⟩,⟨t',rfl⟩⟩:=vals2 r;refine max_two_ints (I.ok.hd hc) λh' tk k=>⟨_,H,I.kept k,?_,q⟩
 by_cases hj:j>i
 ·rw[XG hj,XG hj];exact⟨_,rfl⟩
 ·rw[XH hj,XH hj];exact⟨_,rfl⟩
def yZ(hc:X.calm=true):CallR X (.builtin "min") (λxs H Q=>∃i j,xs=[.int i, .int j]/\Q (.int (if j<i then j else i)) H):=by
 intro f8 s σ H xs us Q I r h;obtain⟨i,j,rfl,q⟩:=h;obtain⟨u,w',rfl,⟨t,rfl⟩,⟨t',rfl⟩⟩:=vals2 r;refine min_two_ints (I.ok.hd hc) λh' tk k=>⟨_,H,I.kept k,?_,q⟩
 by_cases hj:j<i
 ·rw[XG hj,XG hj];exact⟨_,rfl⟩
 ·rw[XH hj,XH hj];exact⟨_,rfl⟩
def qi:CallR X (.type "int") (λxs H Q=>(∃i,xs=[.int i]/\Q (.int i) H)\/∃k,xs=[.bl k]/\Q (.int (if k then 1 else 0)) H):=by
 intro f8 s σ H xs us Q I r h;rcases h with⟨i,rfl,q⟩ | ⟨k,rfl,q⟩
 ·obtain⟨u,rfl,t,rfl⟩:=vals1 r;exact call_int_int ⟨.int i,H,I,⟨_,rfl⟩,q⟩
 ·obtain⟨u,rfl,r1⟩:=vals1 r;cases r1;exact call_int_bool ⟨.int (if k then 1 else 0),H,I.tok _,⟨_,rfl⟩,q⟩
end
structure ObjM (h:Heap) (x dx C:Addr) (mA:Str->Option Value):Prop where
 obj:h.get? x=some (VF C dx)
 ns:h.Ns1 dx mA
 ne:dx≠x
def zB{h:Heap}{dx:Addr}{mA:Str->Option Value}(n:h.Ns1 dx mA):∃od,h.get? dx=some od/\∀name,VO name od=some (mA name):=by
 obtain⟨o,es,ep,ho,hd,hk,_,hm⟩:=n;refine⟨o,ho,λname=>?_⟩;have e:=hm name;unfold nsFind findBy at e;rw[<-Array.find?_toList] at e;unfold VO;rw[hd]
 dsimp only
 split
 ·rename_i y q;rw[q] at e;exact XQ some e
 ·rename_i q;rw[q] at e;have a:es.toList.any (·.refKey)=false:=by
   rw[List.any_eq_false];intro y hy;obtain⟨z,t,wj⟩:=hk y (Array.mem_toList_iff.mp hy);simp[DictEntry.refKey,wj]
  have a':¬es.toList.any (·.refKey)=true:=by rw[a];exact Ra
  rw[XH a'];exact XQ some e
def ObjM.look{h:Heap}{x dx C:Addr}{mA:Str->Option Value}(I:ObjM h x dx C mA):∃od,PySem.W.InstAt h x (VF C dx) C (some od)/\∀name,VO name od=some (mA name):=
 let ⟨od,ho,hl⟩:=zB I.ns
 ⟨od,⟨I.obj,rfl,rfl,ho⟩,hl⟩
def RelO.some_of{v:V}{o:Option Value}(r:RelO (some v) o):∃u,o=some u/\RelV v u:=by
 cases o with
 |none=>exact(show False from r).elim
 |some u=>exact⟨u,rfl,r⟩
section
variable{P:Ru}{w:World}{H:Hp}{h:Heap}{a C dx:Addr}{fs:List (Str×V)}
def D7(hok:HOk P w H h)(e:H a=some (.ins C dx fs)):∃mA,ObjM h a dx C mA/\(∀f,RelO (fs.lookup f) (mA f))/\PySem.Within mA (fs.map (·.1))/\fs.length<=1000/\H dx=some (.own a):=by
 obtain⟨d,z,ne,ob,mA,n,r,q⟩:=(show ObjOk P w H h a (.ins C dx fs) from hok a _ e)
 exact⟨mA,⟨ob,n,ne⟩,r,q,z,d⟩
end
structure Cls (K:QZ) (C:Addr):Prop where
 pg:Xa K C Str.empty=true
 hd:PySem.W.hasDictIn K C=true
 po:PySem.W.plainOver K C=true
 sa:Xz K (.ref C) "__setattr__"=some (some (.builtin "object.__setattr__"))
def Cls.get{K:QZ}{C:Addr}(c:Cls K C)(f:Str):Xa K C f=true:=c.pg
section
variable{X:Cx}{f8:List (Addr×Obj)}{σ:St}{H:Hp}{s:QT}{A:RQ}{E:Value->QT->Prop}{Q:Value->QT->Prop}{c:Value}{b:Bool}
inductive TyOf (K:QZ) (H:Hp):V->Value->Prop where
 |non:TyOf K H .non (.type "NoneType")
 |bl (x:Bool):TyOf K H (.bl x) (.type "bool")
 |int (i:Int):TyOf K H (.int i) (.type "int")
 |str (x:Str):TyOf K H (.str x) (.type "str")
 |flt (x:UInt64):TyOf K H (.flt x) (.type "float")
 |lst {a:Addr}{xs:List V}(e:H a=some (.lst xs)):TyOf K H (.ref a) (.type "list")
 |frz {a:Addr}{o:Obj}{xs:List V}(e:H a=some (.frz o (.lst xs))):TyOf K H (.ref a) (.type "list")
 |tup {a:Addr}{xs:List V}(e:H a=some (.tup xs)):TyOf K H (.ref a) (.type "tuple")
 |dK {a:Addr}{az:List (Key×V)}(e:H a=some (.dK az)):TyOf K H (.ref a) (.type "dict")
 |dT {a:Addr}{az:List (List Key×V)}(e:H a=some (.dT az)):TyOf K H (.ref a) (.type "dict")
 |ins {a C dx:Addr}{fs:List (Str×V)}(e:H a=some (.ins C dx fs)) (cl:Cls K C) (ha:Xz K (.ref C) "__class__"=some (some (.builtin "object.__class__")))
   (hn:PySem.W.specialIn K (.builtin "object.__class__") "__get__"=some (some (.builtin "getset_descriptor.__get__"))) (Oi:PySem.W.takesIn K (.builtin "object.__class__")=some true)
   (hm:PySem.W.mroIn K C (.type "object")=some true):TyOf K H (.ref a) (.ref C)
def zq{x:V}{u t:Value}(I:Inv X f8 σ H s)(rx:RelV x u)(ty:TyOf X.K H x t)(e:VP X.K t c=some b)(h:∀tk,Q (.bool b) {s with toks:=tk}):
 wpAny (model X.prog X.w) A (call (.builtin "isinstance") [u,c]) Q E s:=by
 cases ty with
 |non=>cases (show u=Rp from rx);exact Sh PySem.W.kitx_none I.kIn Td e (λz=>nomatch z) h
 |bl y=>cases (show u=SD y from rx);exact Sh PySem.W.kitx_bool I.kIn Td e (λz=>nomatch z) h
 |int i=>obtain⟨t,q⟩:=(show∃t,u=WI i t from rx);cases q;exact Sh PySem.W.kitx_int I.kIn Td e (λz=>nomatch z) h
 |str y=>obtain⟨t,q⟩:=(show∃t,u=WH y t from rx);cases q;exact Sh PySem.W.kitx_str I.kIn Td e (λz=>nomatch z) h
 |flt y=>obtain⟨t,q⟩:=(show∃t,u=Value.float y t from rx);cases q;exact Sh PySem.W.kitx_float I.kIn Td e (λz=>nomatch z) h
 | @lst a xs ea=>
   cases (show u=Rc a from rx);obtain⟨_,_,n,_,h1⟩:=(show ObjOk X.prog X.w H s.heap a (.lst xs) from I.hok a _ ea)
   exact Sh WY I.kIn ⟨_,h1,rfl⟩ e (λz=>nomatch z) h
 | @frz a ob xs ea=>
   cases (show u=Rc a from rx);obtain⟨_,_,_,n,_,h1⟩:=(show ObjOk X.prog X.w H s.heap a (.frz ob (.lst xs)) from I.hok a _ ea)
   exact Sh WY I.kIn ⟨_,h1,rfl⟩ e (λz=>nomatch z) h
 | @tup a xs ea=>
   cases (show u=Rc a from rx);obtain⟨_,_,_,p⟩:=(show ObjOk X.prog X.w H s.heap a (.tup xs) from I.hok a _ ea)
   obtain⟨o,h1,h2,_⟩:=p;exact Sh PySem.W.kitx_tuple I.kIn ⟨o,h1,h2⟩ e (λz=>nomatch z) h
 | @dK a az ea=>
   cases (show u=Rc a from rx);obtain⟨_,_,vs,_,p⟩:=(show ObjOk X.prog X.w H s.heap a (.dK az) from I.hok a _ ea)
   obtain⟨o,es,ep,h1,h2,_⟩:=p;exact Sh WZ I.kIn ⟨o,h1,h2.1⟩ e (λz=>nomatch z) h
 | @dT a az ea=>
   cases (show u=Rc a from rx);obtain⟨_,_,xs,_,o,es,ep,h1,h2,_⟩:=(show ObjOk X.prog X.w H s.heap a (.dT az) from I.hok a _ ea)
   exact Sh WZ I.kIn ⟨o,h1,h2.1⟩ e (λz=>nomatch z) h
 | @ins a C dx fs ea cl ha hn Oi hm=>
   cases (show u=Rc a from rx);obtain⟨mA,O,_⟩:=D7 I.hok ea;obtain⟨od,J,_⟩:=O.look;exact Sh (PySem.W.kitx_own (cl.get _) cl.hd ha hn Oi hm) I.kIn J e (λz=>nomatch z) h
end
structure Room (k:Nat) (A:RQ):Prop where
 hd:A.handled=none
 dp:A.depth+3*k+5<WU
 un:A.units+16*k+200<cLine
def Room.mono{j k:Nat}{A:RQ}(r:Room k A)(h:j<=k):Room j A:=⟨r.hd,by have:=r.dp;omega,by have:=r.un;omega⟩
def Room.deeper{k:Nat}{A:RQ}(r:Room (k+1) A)(env:Env):Room k (A.deeper env):=
 ⟨r.hd,by have:=r.dp;show A.depth+1+3*k+5<_;omega,by have:=r.un;show A.units+3+16*k+200<_;omega⟩
def Room.depth{k:Nat}{A:RQ}(r:Room k A):A.depth<WU:=by have:=r.dp;omega
def Room.units{k:Nat}{A:RQ}(r:Room k A):A.units+64<cLine:=by have:=r.un;omega
def IA:TA:=λ_ H Q=>Q [] H
def C2(ta:TE)(tr:TA):TA:=λσ H Q=>ta σ H λx H1=>tr σ H1 λxs H2=>Q (x::xs) H2
section
variable{X:Cx}{e:Expr}{es:List Expr}{te:TE}{t:TA}{pos:Pos}
def sv:PA X [] IA:=λ_ _ _ _ H Q I h=>T8 ⟨[],H,I, .nil,h⟩
def su(ha:PE X e te)(hr:PA X es t)(hs:Q8 (e::es) X.env=(false,eval e X.env)::Q8 es X.env:=by rfl):PA X (e::es) (C2 te t):=by
 intro pos f8 s σ H Q I h;rw[hs];show wpAny _ _ (spliced ((false,eval e X.env)::Tr pos (Q8 es X.env))) _ _ s;refine Tf (b7 (ha f8 s σ H _ I h) λu s1 ⟨x,H1,I1,r1,q1⟩=>?_);exact b7 (hr pos f8 s1 σ H1 _ I1 q1) λus s2 ⟨xs,H2,I2,r2,q2⟩=>⟨x::xs,H2,I2, .cons r1 r2,q2⟩
def Nw(t:TA):TE:=λσ H Q=>t σ H λxs H1=>xs.length<=Q_/\∀p,H1 p=none->Q (.ref p) (upd H1 p (.tup xs))
def Nq(t:TA):TE:=λσ H Q=>t σ H λxs H1=>xs.length<=Q_/\∀p,H1 p=none->Q (.ref p) (upd H1 p (.lst xs))
def HV{x1}(h:PA X es t):PE X (.Tuple es x1 pos) (Nw t):=by
 intro f8 s σ H Q I hq;refine wpAny_Tuple_spliced (b7 (h pos f8 s σ H _ I hq) λus s1 ⟨xs,H1,I1,r,z,q⟩=>⟨by rw[<-r.length];exact z,?_⟩);have hf:H1 s1.heap.objs.size=none:=I1.hok.fresh (Q0 _);refine⟨.ref s1.heap.objs.size,upd H1 s1.heap.objs.size (.tup xs),I1.laid (t':=s1.toks) (λb u e=>QO _ e) (Q0 _) ?_,rfl,q _ hf⟩;exact⟨z,us,r,⟨_,Q3 _ rfl,rfl,_,rfl⟩⟩
def Cf(h:PA X es t):PE X (.List es pos) (Nq t):=by
 intro f8 s σ H Q I hq;refine wpAny_List_spliced (b7 (h pos f8 s σ H _ I hq) λus s1 ⟨xs,H1,I1,r,z,q⟩=>⟨by rw[<-r.length];exact z,?_⟩);have hf:H1 s1.heap.objs.size=none:=I1.hok.fresh (Q0 _);refine⟨.ref s1.heap.objs.size,upd H1 s1.heap.objs.size (.lst xs),I1.laid (t':=s1.toks) (λb u e=>QO _ e) (Q0 _) ?_,rfl,q _ hf⟩;exact⟨z,us,0,r,Q3 _ rfl⟩
end
abbrev Sp:=List V->Hp->VK->XK->Prop
abbrev xx:=List Env->Hp->QT->XK->Value->QT->Prop
structure Env0 (P:Ru) (w:World) (K:QZ) (mg:Str->Option Value) (base:Heap) (A:RQ) (outer:List Env) (s:QT) (H:Hp):Prop where
 frames:A.frames=some outer
 mod:Mod K mg base
 bs:∀b o,base.get? b=some o->s.heap.get? b=some o/\H b=none
 bsz:base.objs.size<=s.heap.objs.size
 funs:s.heap.FunFrames base outer
 frf:∀b∈mV outer,H b=none
 hok:HOk P w H s.heap
 bare:Vr s.gens
def CE(outer:List Env)(P:Ru)(w:World)(H:Hp)(s:QT)(Q:VK)(u:Value)(s':QT):Prop:=
 ∃v H',s'.os=s.os/\Vr s'.gens/\Un (mV outer) [] H H' s.heap s'.heap/\HOk P w H' s'.heap/\RelV v u/\Q v H'
def CR(CX:xx)(outer:List Env)(P:Ru)(w:World)(H:Hp)(s:QT)(Q:VK)(E:XK)(r:Result)(s':QT):Prop:=
 match r with
 | .ok (.ret u)=>CE outer P w H s Q u s'
 | .ok _=>False
 | .error e=>CX outer H s E e s'
structure FnOk (P:Ru) (w:World) (K:QZ) (mg:Str->Option Value) (base:Heap) (CX:xx) (k:Nat) (f:Addr) (fd:TY) (ps:List Str) (sp:Sp):Prop where
 len:∀vs H Q E,sp vs H Q E->vs.length=ps.length
 run:∀(A:RQ) (outer:List Env) (s:QT) (H:Hp) (args:Args) (us:List Value) (vs:List V) (Q:VK) (E:XK),Room k A->Env0 P w K mg base A outer s H->Xv s fd args (ps.zip us)->Vals vs us->sp vs H Q E->
  U6 (model P w) A (.call (.ref f) args) (CR CX outer P w H s Q E) s
def FnOk.mono{P:Ru}{w:World}{K:QZ}{mg:Str->Option Value}{base:Heap}{CX:xx}{j k:Nat}{f:Addr}{fd:TY}{ps:List Str}{sp:Sp}(F:FnOk P w K mg base CX j f fd ps sp)(h:j<=k):
 FnOk P w K mg base CX k f fd ps sp:=⟨F.len,λA outer s H args us vs Q E hr=>F.run A outer s H args us vs Q E (hr.mono h)⟩
section
variable{X:Cx}{f8:List (Addr×Obj)}{σ:St}{H:Hp}{s s':QT}
def Inv.env0(I:Inv X f8 σ H s):Env0 X.prog X.w X.K X.mg X.base X.A X.stack s H:=
 ⟨I.ok.frames,I.ok.mod,I.bs,RI I.ok.bsz I.sz,I.stack,I.stkFree,I.hok,I.bare⟩
def Inv.after{Q:VK}{u:Value}(I:Inv X f8 σ H s)(h:CE X.stack X.prog X.w H s Q u s'):EP X f8 σ Q u s':=by
 obtain⟨v,H',os,bare,un,hok,r,q⟩:=h;obtain⟨hh,g,d,t,Qs⟩:=s';obtain rfl:Qs=s.os:=os;exact⟨v,H',I.call (h':=hh) (g':=g) (d':=d) (t':=t) (ch:=[]) un hok bare (λb z=>XN z (by simp)),r,q⟩
end
def K6(sp:Sp)(FJ:List V)(E:XK)(t:TA):TE:=λσ H Q=>t σ H λvs H1=>sp (vs++FJ) H1 Q E
def Binds(K:QZ)(fd:TY)(ps:List Str)(ds:List Value):Prop:=
 ∀(s:QT) (us:List Value),K.In s.heap->(us++ds).length=ps.length->Xv s fd ⟨us,[]⟩ (ps.zip (us++ds))
def Binds.all{K:QZ}{fd:TY}{ps:List Str}(h:∀us:List Value,us.length=ps.length->bindArgs fd ⟨us,[]⟩=pure (ps.zip us)):Binds K fd ps []:=λs us _ hl=>by
 rw[S3] at hl⊢;exact .of_eq (h us hl)
def Passes(CX:xx)(X:Cx)(E:XK):Prop:=∀(f8:List (Addr×Obj)) (σ:St) (H:Hp) (s:QT) (e:Value) (s':QT),Inv X f8 σ H s->CX X.stack H s E e s'->X.xe e s'
section
variable{X:Cx}{CX:xx}{k:Nat}{f:Addr}{fd:TY}{ps:List Str}{sp:Sp}{FJ:List V}{ds:List Value}{E:XK}{x:Str}{p pos:Pos}{e:Expr}{es:List Expr}{t:TA}
def Il{f8:List (Addr×Obj)}{σ:St}{H:Hp}{s:QT}{Q:VK}{us:List Value}{vs:List V}(F:FnOk X.prog X.w X.K X.mg X.base CX k f fd ps sp)(hr:Room k X.A)(hb:Binds X.K fd ps ds)(hd:Vals FJ ds)(hx:Passes CX X E)
 (I:Inv X f8 σ H s)(r:Vals vs us)(h:sp (vs++FJ) H Q E):wpAny (model X.prog X.w) X.A (call (.ref f) us) (EP X f8 σ Q) X.xe s:=by
 have r2:Vals (vs++FJ) (us++ds):=r.append hd;have hl:(us++ds).length=ps.length:=by rw[<-r2.length];exact F.len _ _ _ _ h
 refine wpAny_call (Wg (F.run X.A X.stack s H ⟨us,[]⟩ (us++ds) (vs++FJ) Q E hr I.env0 (hb s us I.kIn hl) r2 h) λr s' hq=>?_);cases r with
 |error e=>exact hx f8 σ H s e s' I hq
 |ok fl=>
  cases fl with
  |ret u=>exact I.after hq
  |next=>exact Tc hq
  |brk=>exact Tc hq
  |cont=>exact Tc hq
def ER(F:FnOk X.prog X.w X.K X.mg X.base CX k f fd ps sp)(hr:Room k X.A)(hg:Gl X x)(hm:X.mg x=some (.ref f))(hk:S6 X.K (.ref f)=true)(hb:Binds X.K fd ps ds)(hd:Vals FJ ds)(hx:Passes CX X E)
 (ha:PA X (e::es) t)(rS:(x==("__debug__":Str))=false:=by decide)(he:Q8 (e::es) X.env=(false,eval e X.env)::Q8 es X.env:=by rfl)(pK:(Tr pos (Q8 es X.env)).any (·.1)=false:=by rfl):
 PE X (.Call (.Name x p) (e::es) [] pos) (K6 sp FJ E t):=by
 intro f8 s σ H Q I h;refine UJ (yc I hg hm ?_ rS);refine PySem.W.callWith_K (h₀:=X.base) I.ok.mod.kin hk (b7 (ha pos f8 s σ H _ I h) λus s1 ⟨vs,H1,I1,r,q⟩=>⟨I1.kIn,?_⟩) he pK;exact Il F hr hb hd hx I1 r q
end
section
variable{ks:List Str}
end
structure FnScope (N P:List Str) (sc:Scope):Prop where
 kind:sc.kind= .function
 co:sc.isCoroutine=false
 gen:sc.isGenerator=false
 nd:N.Nodup
 pre:N.take P.length=P
 par:∀x∈P,sc.names.lookup x=some .local\/sc.names.lookup x=some .cell
 nofree:∀y∈sc.names,y.2≠ .free
def qg{Vc:Str->Option UL}{x:Str}:∀{binds:List (Str×Value)}{m:Str->Option Value},(∀v,(x,v)∉binds)->bindL Vc binds m x=m x
 |[],_,_=>rfl
 |(n,v)::r,m,h=>by
  unfold bindL;rw[qg λw hw=>h w (QQ _ hw)];split
  ·have:x≠n:=by rintro rfl;exact h v QR
   simp[this]
  ·rfl
def qe{Vc:Str->Option UL}{x:Str}:∀{binds:List (Str×Value)}{m:Str->Option Value},(∀v,(x,v)∉binds)->bindC Vc binds m x=m x
 |[],_,_=>rfl
 |(n,v)::r,m,h=>by
  unfold bindC;rw[qe λw hw=>h w (QQ _ hw)];split
  ·rfl
  ·have:x≠n:=by rintro rfl;exact h v QR
   simp[this]
def qf{Vc:Str->Option UL}{x:Str}{v:Value}:∀{P:List Str}{vs:List Value}{i:Nat}{m:Str->Option Value},P.Nodup->P[i]? =some x->vs[i]? =some v->Vc x=some .local->
 bindL Vc (P.zip vs) m x=some v
 |[],_,_,_,_,h,_,_=>by simp at h
 |_::_,[],_,_,_,_,h,_=>by simp at h
 |p::P,w::vs,0,m,nd,h1,h2,hk=>by
  simp at h1 h2;subst h1;subst h2;show bindL Vc ((p,w)::P.zip vs) m p=_;unfold bindL;rw[qg λv hv=>(RZ.mp nd).1 (VT hv).1,XG hk];simp
 |p::P,w::vs,i+1,m,nd,h1,h2,hk=>by
  show bindL Vc ((p,w)::P.zip vs) m x=_;unfold bindL;exact qf (i:=i) (RZ.mp nd).2 (by simpa using h1) (by simpa using h2) hk
def qd{Vc:Str->Option UL}{x:Str}{v:Value}:∀{P:List Str}{vs:List Value}{i:Nat}{m:Str->Option Value},P.Nodup->P[i]? =some x->vs[i]? =some v->Vc x≠some .local->
 bindC Vc (P.zip vs) m x=some v
 |[],_,_,_,_,h,_,_=>by simp at h
 |_::_,[],_,_,_,_,h,_=>by simp at h
 |p::P,w::vs,0,m,nd,h1,h2,hk=>by
  simp at h1 h2;subst h1;subst h2;show bindC Vc ((p,w)::P.zip vs) m p=_;unfold bindC;rw[qe λv hv=>(RZ.mp nd).1 (VT hv).1,XH hk];simp
 |p::P,w::vs,i+1,m,nd,h1,h2,hk=>by
  show bindC Vc ((p,w)::P.zip vs) m x=_;unfold bindC;exact qd (i:=i) (RZ.mp nd).2 (by simpa using h1) (by simpa using h2) hk
def start(N:List Str)(vs:List V):St:=vs.map some++Rg (N.length - vs.length) none
def c6(CX:xx)(P:Ru)(w:World)(K:QZ)(mg:Str->Option Value)(base:Heap)(N:List Str)(qual:Str)(scope:Scope)(f:Addr)(cd:Value)(A:RQ)(outer:List Env)(s:QT)(H:Hp)(E:XK):Cx where
 prog:=P
 w:=w
 K:=K
 mg:=mg
 base:=base
 A:=A.deeper (S5 qual scope s.heap.objs.size f cd)
 N:=N
 X9:=s
 X8:=H
 env:=S5 qual scope s.heap.objs.size f cd
 outer:=outer
 stack:=S5 qual scope s.heap.objs.size f cd::outer
 ex:=[]
 calm:=true
 fn:=λ_=>true
 pn:=[]
 xe:=λe s'=>wpAny (model P w) (A.deeper (S5 qual scope s.heap.objs.size f cd)) (leaving (S5 qual scope s.heap.objs.size f cd) e) (λ_ Nd=>CX outer H s E e Nd) (λe' Nd=>CX outer H s E e' Nd) s'
def tX{sc:Scope}{n:Nat}{x:Str}(h:sc.names.lookup x=some .cell):∃c,(cellsFrom n sc.names []).lookup x=some c:=by
 have q:=Wi sc.names n [] (.inl h);exact TF.mp q
def zo{CX:xx}{P:Ru}{w:World}{K:QZ}{mg:Str->Option Value}{base:Heap}{N ps:List Str}{qual:Str}{scope:Scope}{f:Addr}{cd:Value}{A:RQ}{outer:List Env}{s s1:QT}{H:Hp}{E:XK}{us:List Value}{vs:List V}
 (S:FnScope N ps scope)(hd:A.handled=none)(e0:Env0 P w K mg base A outer s H)(hl:vs.length=ps.length)(r:Vals vs us)
 (x:InCallC s s.heap.objs.size (bindL (S5 qual scope s.heap.objs.size f cd).kindOf (ps.zip us) λ_=>none) (cellsFrom (s.heap.objs.size+1) scope.names []) (bindC (S5 qual scope s.heap.objs.size f cd).kindOf (ps.zip us) λ_=>none) s1):
 Inv (c6 CX P w K mg base N qual scope f cd A outer s H E) [] (start N vs) H s1:=by
 have pK:ps.length<=N.length:=by have:=XQ List.length S.pre;rw[VI] at this;omega
 obtain⟨h1,tk,rfl,hk⟩:=x.done;have Km:∀b:Addr,b∉(c6 CX P w K mg base N qual scope f cd A outer s H E).ex:=λb z=>XN (show b∈([]:List Addr) from z) (by simp);refine⟨⟨e0.mod,S.kind,rfl,rfl,Q0 _,λy z c h1 h2=>?_,λy hy=>?_,λy c _ h=>?_,λ_=>hd,Around.frames_deeper e0.frames, .inr ⟨rfl,rfl⟩,λb z=>XN z (Km b),e0.bs,e0.bsz,λb _ _=>Km b,λb z=>XN z (Km b),e0.funs,e0.frf⟩,
  rfl,e0.bare,Un.kept hk,⟨_,x.toInCall.ns,λi y v h1 h2 h3=>?_⟩,λy c h=>⟨_,x.cell y c h⟩,e0.hok.fresh (Q0 _),λy c h=>?_,λp hp=>XN (show p∈([]:List (Addr×Obj)) from hp) (by simp),e0.hok.kept hk,?_⟩
 ·exact name_of_addr x.apart (SF h1) (SF h2)
 ·have hy:scope.names.lookup y=some .cell\/scope.names.lookup y=some .free:=hy;rcases hy with hy | hy
  ·exact tX hy
  ·exact XN rfl (S.nofree _ (SF hy))
 ·exact SV (x.above y c (SF h))
 ·have hi:i<vs.length:=by
   unfold start at h2;by_cases hi:i<vs.length
   ·exact hi
   ·rw[RD (by simpa using hi)] at h2;rw[S8] at h2;split at h2<;>cases h2
  have ha:vs[i]? =some v:=by
   unfold start at h2;rw[RN (by simpa using hi),Q1] at h2;cases e:vs[i]? with
   |none=>rw[e] at h2;cases h2
   |some a=>rw[e] at h2;cases h2;rfl
  obtain⟨u,hu,rv⟩:=r.get ha;have hp:ps[i]? =some y:=by
   rw[<-S.pre,List.getElem?_take_of_lt (by omega)];exact h1
  have Ox:ps.Nodup:=by rw[<-S.pre];exact S.nd.sublist (List.take_sublist _ _)
  refine⟨u,rv,?_⟩;rcases S.par y (Rn hp) with k | k
  ·exact .inl ⟨k,qf Ox hp hu k⟩
  ·obtain⟨c,e⟩:=tX (n:=s.heap.objs.size+1) k;refine .inr ⟨.inl k,c,e,?_⟩;have q:=x.cell y c e;rw[qd Ox hp hu (by show scope.names.lookup y≠_;rw[k];decide)] at q;exact q
 ·exact e0.hok.fresh (SV (x.above y c (SF h)))
 ·unfold start;show _=N.length;rw[Q2,QM,U0];omega
def FL{CX:xx}{P:Ru}{w:World}{K:QZ}{mg:Str->Option Value}{base:Heap}{k:Nat}{f:Addr}{name qual:Str}{params:Arguments}{body:List Stmt}{scope:Scope}{dV kV doc pm bY ct oc:Value}{an od:Option Addr}
 {ED:Array (Option Value)}{N ps:List Str}{sp:Sp}(lk:K.lookup f=some ⟨oc,od, .func (SI name qual params body scope dV kV doc pm an bY ct),ED⟩)(vK:T4 K bY qual=true)(S:FnScope N ps scope)
 (len:∀vs H Q E,sp vs H Q E->vs.length=ps.length)
 (nO:∀(A:RQ) (outer:List Env) (s:QT) (H:Hp) (vs:List V) (Q:VK) (E:XK),Room k (A.deeper (S5 qual scope s.heap.objs.size f bY))->sp vs H Q E->
  ∃t,PSs (c6 CX P w K mg base N qual scope f bY A outer s H E) body t/\t {nx:=λ_ H'=>Q .non H',rt:=Q} (start N vs) H):
 FnOk P w K mg base CX (k+1) f (SI name qual params body scope dV kV doc pm an bY ct) ps sp:=by
 refine⟨len,λA outer s H args us vs Q E hr e0 hb r Dw=>?_⟩;have hl:=len _ _ _ _ Dw;have KX:K.In s.heap:=e0.mod.kin.keeps λb o e=>(e0.bs b o e).1;have lim:s.heap.NoLimit:=e0.mod.nolimit.keeps λb o e=>(e0.bs b o e).1;have uq:∀y∈ps.zip us,scope.names.lookup y.1=some .local\/(scope.names.lookup y.1=some .cell/\((cellsFrom (s.heap.objs.size+1) scope.names []).lookup y.1).isSome=true):=λ⟨n,v⟩ hy=>by
  rcases S.par n (VT hy).1 with q | q
  ·exact .inl q
  ·exact .inr ⟨q,Wi _ _ _ (.inl q)⟩
 refine codeAny_call_function hr.depth (KX _ _ lk) rfl S.co S.gen rfl (PySem.W.codeRec_of KX vK) (hb _ _ _ _ ?_);refine wpAny_newFunctionEnv_cells S.kind uq λenv he s1 x=>?_;subst he;refine⟨lim.keeps x.toInCall.keep,codeAny_func ?_⟩;obtain⟨t,ht,hq⟩:=nO A outer s H vs Q E (hr.deeper _) Dw;have I:Inv (c6 CX P w K mg base N qual scope f bY A outer s H E) [] (start N vs) H s1:=zo S hr.hd e0 hl r x;refine R8 (ht [] s1 (start N vs) H _ I hq) (λfl s' hs=>?_) λe s' hs=>hs;have fin:∀{σ':St}{H':Hp}{v:V}{u:Value},Inv (c6 CX P w K mg base N qual scope f bY A outer s H E) [] σ' H' s'->RelV v u->Q v H'->CE outer P w H s Q u s':=
  λ{σ' H' v u} J rv q=>⟨v,H',J.os,J.bare,J.base,J.hok,rv,q⟩
 cases fl with
 |ret u=>
  obtain⟨v,σ',H',J,rv,q⟩:=hs;exact fin J rv q
 |next=>
  obtain⟨σ',H',J,q⟩:=hs;exact fin (v:=V.non) (u:=Rp) J rfl q
 |brk=>
  obtain⟨_,_,_,q⟩:=hs;exact Tc q
 |cont=>
  obtain⟨_,_,_,q⟩:=hs;exact Tc q
section
variable{X:Cx}{x:Str}{p pos:Pos}{e:Expr}{es:List Expr}{t:TA}{id T:String}{r:List V->Hp->VK->Prop}
def Nk(r:List V->Hp->VK->Prop)(t:TA):TE:=λσ H Q=>t σ H λvs H1=>r vs H1 Q
def Cb(hc:CallR X (.builtin id) r)(hg:Gl X x)(hm:X.mg x=none)(hv:Rv x=some (.builtin id))(ha:PA X (e::es) t)(hn:x≠"__name__":=by decide)(rS:(x==("__debug__":Str))=false:=by decide)
 (he:Q8 (e::es) X.env=(false,eval e X.env)::Q8 es X.env:=by rfl)(pK:(Tr pos (Q8 es X.env)).any (·.1)=false:=by rfl):PE X (.Call (.Name x p) (e::es) [] pos) (Nk r t):=by
 intro f8 s σ H Q I h;refine UJ (g7 I hg hm hv ?_ hn rS);exact U8 (b7 (ha pos f8 s σ H _ I h) λus s1 ⟨vs,H1,I1,r1,q1⟩=>hc f8 s1 σ H1 vs us Q I1 r1 q1) he pK
def zQ(hc:CallR X (.type T) r)(hg:Gl X x)(hm:X.mg x=none)(hv:Rv x=some (.type T))(ha:PA X (e::es) t)(hn:x≠"__name__":=by decide)(rS:(x==("__debug__":Str))=false:=by decide)
 (he:Q8 (e::es) X.env=(false,eval e X.env)::Q8 es X.env:=by rfl)(pK:(Tr pos (Q8 es X.env)).any (·.1)=false:=by rfl):PE X (.Call (.Name x p) (e::es) [] pos) (Nk r t):=by
 intro f8 s σ H Q I h;refine UJ (g7 I hg hm hv ?_ hn rS);exact Sx (b7 (ha pos f8 s σ H _ I h) λus s1 ⟨vs,H1,I1,r1,q1⟩=>hc f8 s1 σ H1 vs us Q I1 r1 q1) he pK
end
end L2
namespace HT
open PySem PyProof.Rows
def lexLt:List Int->List Int->Bool
 |[],[]=>false
 |[],_::_=>true
 |_::_,[]=>false
 |x::xs,y::ys=>if x=y then lexLt xs ys else decide (x<y)
def lexLt_cons(x y:Int)(xs ys:List Int):lexLt (x::xs) (y::ys)=if x=y then lexLt xs ys else decide (x<y):=rfl
def lexLt_nil_nil:lexLt [] []=false:=rfl
def lexLt_nil_cons(y:Int)(ys:List Int):lexLt [] (y::ys)=true:=rfl
def lexLt_cons_nil(x:Int)(xs:List Int):lexLt (x::xs) []=false:=rfl
def eqAt_int(A:RQ)(s:QT)(a:Int)(t:Tok)(c:Int)(u:Tok):∃e,Xl A s (.int a t) (.int c u) e/\(e=true↔a=c):=
 ⟨(a==c),Wu a t c u,by simp⟩
def rcLt_int(A:RQ)(s:QT)(a:Int)(t:Tok)(c:Int)(u:Tok)(prog:Ru)(w:World)(E:Value->QT->Prop)(Q:Value->QT->Prop)(h:Q (.bool (decide (a<c))) s):
 wpAny (model prog w) A (richCompare .Lt (.int a t) (.int c u)) Q E s:=
 (UK h:wpAny (model prog w) A (R_ .Lt (.int a t) (.int c u)) Q E s)
section
open PySem.SeqAt
open PySem.AutoSeq1 (wpAny_loadPart')
open PySem.MeetsSeq PySem.MeetsSeq2 PySem.MeetsSeq3
def tuple_lt_ints(l b:Addr)(items fL:Array Value)(n n2:Nat)(dd ze:Option Addr)(sl Gi:Array (Option Value))(ns ms:List Int)(hi:Ta items.toList ns)(hj:Ta fL.toList ms):
 Meets (TB.«tuple.__lt__» ⟨[.ref l, .ref b],[]⟩)
  (λ_ R s=>s.heap.get? l=some {cls:= .type "tuple",dict:=dd,data:= .seq items n,slots:=sl}/\s.heap.get? b=some {cls:= .type "tuple",dict:=ze,data:= .seq fL n2,slots:=Gi}/\
   R (.ok (.ret (.bool (lexLt ns ms)))) s):=
 .of_wp λprog w A R s h=>by
  obtain⟨hp,g,d,tk,os⟩:=s;obtain⟨hl,hb,h⟩:=h;have f2:=AutoSeq1.sub_tuple_tuple;have z1:items.size=ns.length:=by rw[<-hi.length];simp
  have z2:fL.size=ms.length:=by rw[<-hj.length];simp
  wp_walk using wpAny_loadPart' hl,wpAny_loadPart' hb,Wo _ (λT0 b s'=>b.1=none/\s'=⟨hp,g,d,tk,os⟩/\∃(vs ws:List Value) (IY IX:List Int),T0=vs.zip ws/\
   Ta vs IY/\Ta ws IX/\IY.length+fL.size=IX.length+items.size/\R (.ok (.ret (.bool (lexLt IY IX)))) ⟨hp,g,d,tk,os⟩) _
  case turn=>
   rintro⟨y,x⟩ T0 b s' ⟨JG,rfl,vs,ws,IY,IX,hz,MJ,LC,v6,hR⟩;cases MJ with
   |nil=>rw[List.zip_nil_left] at hz;cases hz
   |cons a t MK=>
    cases LC with
    |nil=>rw[List.zip_nil_right] at hz;cases hz
    |cons c u MN=>
     rw[Th] at hz;injection hz with Qj J2
     injection Qj with hy hx
     subst hy hx;rw[lexLt_cons] at hR;simp only[QV] at v6;obtain⟨e,he,JN⟩:=eqAt_int A.in1 ⟨hp,g,d,tk,os⟩ a t c u;refine QL (he prog w _ _ ?_);cases e with
     |true=>
      rw[XG (JN.mp rfl)] at hR
      wp_walk
      exact⟨rfl,rfl,_,_,_,_,J2,MK,MN,by omega,hR⟩
     |false=>
      rw[XH (λq=>XN (JN.mpr q) Ra)] at hR;have P8:=rcLt_int A.in1 ⟨hp,g,d,tk,os⟩ a t c u prog w
      wp_walk using P8
      exact⟨_,rfl,by simpa using hR⟩
  case fin=>
   rintro⟨b1,b2⟩ s' ⟨JG,rfl,vs,ws,IY,IX,hz,MJ,LC,v6,hR⟩;simp only at JG;subst JG;have hv:lexLt IY IX=decide (items.size<fL.size):=by
    cases MJ with
    |nil=>
     cases LC with
     |nil=>
      simp only[Sb] at v6;rw[lexLt_nil_nil];exact(XJ (by omega)).symm
     |cons c u hw=>
      simp only[Sb,QV] at v6;rw[lexLt_nil_cons];exact(XM (by omega)).symm
    |cons a t hv=>
     cases LC with
     |nil=>
      simp only[Sb,QV] at v6;rw[lexLt_cons_nil];exact(XJ (by omega)).symm
     |cons c u hw=>
      rw[Th] at hz;cases hz
   rw[hv] at hR
   wp_walk
   exact⟨_,rfl,by simpa[Builtin.Tuple.tupleCompareSizes] using hR⟩
  case h=>
   exact⟨rfl,rfl,items.toList,fL.toList,ns,ms,rfl,hi,hj,by omega,h⟩
end
section
variable{prog:Ru}{w:World}{A:RQ}{E:Value->QT->Prop}{s:QT}
def lt_tupInts{l b:Addr}{items fL:Array Value}{ns ms:List Int}{Q:Value->QT->Prop}(hl:IsTup s.heap l items)(hb:IsTup s.heap b fL)(hi:Ta items.toList ns)(hj:Ta fL.toList ms)
 (hu:A.units<cLine)(h:Q (.bool (lexLt ns ms)) s):wpAny (model prog w) A (R_ .Lt (.ref l) (.ref b)) Q E s:=by
 obtain⟨⟨cls,dd,data,sl⟩,ho,hc,n,hd⟩:=id hl;obtain⟨⟨Jk,ze,data2,Gi⟩,Du,Dm,n2,hd2⟩:=id hb;simp only at hc hd Dm hd2;subst hc hd Dm hd2;exact richCompare_meets_room (op:= .Lt) ⟨_,ho,rfl⟩ ⟨_,Du,rfl⟩ PySem.F.slot_tuple_lt PySem.F.entry_tuple_lt (PySem.F.args_tuple_lt_2 _ _) (tuple_lt_ints l b items fL n n2 dd ze sl Gi ns ms hi hj)
  ⟨ho,Du,show SD (lexLt ns ms)≠Value.notImplemented/\Q (.bool (lexLt ns ms)) s from⟨(λx=>nomatch x),h⟩⟩ hu
def cat_tup{t b:Addr}{vs ws:List Value}{Q:Value->QT->Prop}(ht:IsTup s.heap t vs.toArray)(hb:IsTup s.heap b ws.toArray)(hv:vs≠[])
 (h1:ws=[]->Q (.ref t) s)(h2:ws≠[]->Q (.ref s.heap.objs.size) {s with heap:=s.heap.push {cls:= .type "tuple",data:= .seq (vs++ws).toArray} })
 (hsz:vs.length+ws.length<=Q_):wpAny (model prog w) A (Uo .Add (.ref t) (.ref b)) Q E s:=by
 obtain⟨⟨cls,dd,data,sl⟩,ho,hc,n,hd⟩:=id ht;obtain⟨⟨Jk,ze,data2,Gi⟩,Du,Dm,n2,hd2⟩:=id hb;simp only at hc hd Dm hd2;subst hc hd Dm hd2;have e:vs.toArray++ws.toArray=(vs++ws).toArray:=by simp
 by_cases hw:ws=[]
 ·exact concat_meets ⟨_,ho,rfl⟩ ⟨_,Du,rfl⟩ Wr Xi UI UE (Uv _ _)
   (tuple_addW1 t b vs.toArray ws.toArray n n2 dd ze sl Gi (by simpa using hv) (by simp[hw])) ⟨ho,Du,h1 hw⟩
 ·refine concat_meets ⟨_,ho,rfl⟩ ⟨_,Du,rfl⟩ Wr Xi UI UE (Uv _ _)
   (tuple_addW2 t b vs.toArray ws.toArray n n2 dd ze sl Gi (by simpa using hv) (by simpa using hw) (by rw[QW,QW];exact hsz)) ⟨ho,Du,?_⟩
  rw[e];exact h2 hw
def sIx(n d:Nat):Option Int->Nat
 |none=>d
 |some v=>if v<0 then(v+(n:Int)).toNat else min v.toNat n
end
end HT
namespace L2
open PySem PySem.Spec PyProof.Rows
abbrev TO:=St->Hp->(Option Int->Hp->Prop)->Prop
def intsAre_of{ns:List Int}:∀{us:List Value},Vals (ns.map V.int) us->Ta us ns:=by
 induction ns with
 |nil=>intro us r;rw[TM] at r;cases r;exact .nil
 |cons n ns ih=>
  intro us r;rw[QX] at r;cases r with
  |cons r1 r2=>
   obtain⟨t,e⟩:=r1;subst e;exact .cons n t (ih r2)
section
variable{X:Cx}{lo hi:Option Expr}{p2:Pos}
def OJ(X:Cx)(r:V->Option Int->Option Int->Hp->VK->Prop):Prop:=
 ∀(f8:List (Addr×Obj)) (s:QT) (σ:St) (H:Hp) (x:V) (v vl vu:Value) (lo hi:Option Int) (sl:Addr) (Q:VK),Inv X f8 σ H s->RelV x v->s.heap.IsSliceOf sl vl vu .none->IsPart vl lo->IsPart vu hi->r x lo hi H Q->
  ∃T id,W_ (.type T) "__getitem__"=pure (some (.builtin id))/\s.TypeIs v T/\wpAny (model X.prog X.w) X.A (Xk v (.ref sl)) (EP X f8 σ Q) X.xe s
def DK(xs:List V)(lo hi:Option Int):List V:=(xs.drop (HT.sIx xs.length 0 lo)).take (HT.sIx xs.length xs.length hi - HT.sIx xs.length 0 lo)
def t5(xs:List V)(lo hi:Option Int):(DK xs lo hi).length<=xs.length:=by
 unfold DK;rw[VI,List.length_drop];omega
def KJ(K:QZ):R2:=λx y H Q=>∃a b xs ys,x= .ref a/\y= .ref b/\SqT K H a xs/\SqT K H b ys/\xs≠[]/\xs.length+ys.length<=Q_/\
 (ys=[]->Q (.ref a) H)/\(ys≠[]->∀p,H p=none->Q (.ref p) (upd H p (.tup (xs++ys))))
def Vals.nil_iff{xs:List V}{us:List Value}(r:Vals xs us):us=[]↔xs=[]:=by
 cases r with
 |nil=>simp
 |cons _ _=>simp
def Ew:OpR X (Uo .Add) (KJ X.K):=by
 intro f8 s σ H x y v u Q I rx ry h;obtain⟨a,b,xs,ys,rfl,rfl,ha,hb,hx,hz,q1,q2⟩:=h;cases rx;cases ry;obtain⟨aE,r1,p1,_⟩:=I.tuple ha;obtain⟨fY,r2,p2,_⟩:=I.tuple hb;refine HT.cat_tup p1 p2 (λz=>hx (r1.nil_iff.mp z)) (λz=>⟨.ref a,H,I,rfl,q1 (r2.nil_iff.mp z)⟩) (λz=>?_) (by rw[<-r1.length,<-r2.length];exact hz);refine⟨.ref s.heap.objs.size,_,I.laid (t':=s.toks) (o:= .tup (xs++ys)) (λb ob q=>QO _ q) (Q0 _) ?_,rfl,q2 (λw=>z (r2.nil_iff.mpr w)) _ (I.hok.fresh (Q0 _))⟩;exact⟨by rw[Q2];exact hz,_,r1.append r2,IsTup.new _ _⟩
end
def Hc(n:Nat)(i:Int):Option Nat:=if 0<=i then(if i<n then some i.toNat else none) else if -(n:Int)<=i then some (i+n).toNat else none
def atI{α:Type}(xs:List α)(i:Int):Option α:=(Hc xs.length i).bind λj=>xs[j]?
def Eb{n:Nat}{i:Int}{j:Nat}(h:Hc n i=some j):seqIndex? i n=some j/\j<n/\ -(n:Int)<=i/\i<n:=by
 unfold Hc at h;by_cases h0:0<=i
 ·rw[XG h0] at h;by_cases h1:i<n
  ·rw[XG h1] at h;have e:i.toNat=j:=Rx h;exact⟨by rw[seqIndex_of h0 h1,e],by omega,by omega,h1⟩
  ·rw[XH h1] at h;cases h
 ·rw[XH h0] at h;by_cases h1: -(n:Int)<=i
  ·rw[XG h1] at h;have e:(i+n).toNat=j:=Rx h;exact⟨by rw[seqIndex_neg (by omega) h1,e],by omega,h1,by omega⟩
  ·rw[XH h1] at h;cases h
def rp{α:Type}{xs:List α}{i:Int}{v:α}(h:atI xs i=some v):∃j,seqIndex? i xs.length=some j/\xs[j]? =some v/\j<xs.length/\ -(xs.length:Int)<=i/\i<xs.length:=by
 unfold atI at h;cases e:Hc xs.length i with
 |none=>rw[e] at h;cases h
 |some j=>
  rw[e] at h;obtain⟨h1,h2,h3,h4⟩:=Eb e;exact⟨j,h1,h,h2,h3,h4⟩
def iz(b:Expr):Prop:=∀o i,subscripted b false o i=operate [o,i] (Xk o i)
def Jf(X:Cx)(r:R2):Prop:=
 ∀(value slice:Expr) (f8:List (Addr×Obj)) (s:QT) (σ:St) (H:Hp) (x y:V) (v u:Value) (Q:VK),Inv X f8 σ H s->RelV x v->RelV y u->r x y H Q->
  subscripted slice false v u=operate [v,u] (Xk v u)->wpAny (model X.prog X.w) X.A (subscriptTail value slice v u) (EP X f8 σ Q) X.xe s
def Jg(X:Cx)(id:String)(r:V->List V->Hp->VK->Prop):Prop:=
 ∀(f8:List (Addr×Obj)) (s:QT) (σ:St) (H:Hp) (x:V) (xs:List V) (v:Value) (us:List Value) (Q:VK),Inv X f8 σ H s->RelV x v->Vals xs us->r x xs H Q->
  wpAny (model X.prog X.w) X.A (call (.builtin id) (v::us)) (EP X f8 σ Q) X.xe s
section
variable{X:Cx}{a b:Expr}{ta tb:TE}{pos:Pos}
def Kz{r:R2}(hr:Jf X r)(ha:PE X a ta)(hb:PE X b tb)(hs:iz b):PE X (.Subscript a b pos) (K_ r ta tb):=by
 intro f8 s σ H Q I h;exact Subscript_ (Gs ha hb I h λv u s2 x y H2 I2 rx ry q=>hr a b f8 s2 σ H2 x y v u Q I2 rx ry q (hs _ _))
def Ij(K:QZ):R2:=λx y H Q=>∃p xs i v,x= .ref p/\y= .int i/\SqL K H p xs/\atI xs i=some v/\Q v H
def KR(K:QZ):R2:=λx y H Q=>∃p xs i v,x= .ref p/\y= .int i/\SqT K H p xs/\atI xs i=some v/\Q v H
def KQ:R2:=λx y H Q=>∃z i c,x= .str z/\y= .int i/\z.length<=Q_/\atI z.cps.toList i=some c/\Q (.str ⟨#[c]⟩) H
def ya:Jf X (Ij X.K):=by
 intro value slice f8 s σ H x y v u Q I rx ry h hs;obtain⟨p,xs,i,z,rfl,rfl,hq,he,q⟩:=h;cases rx;obtain⟨t,rfl⟩:=ry;obtain⟨aE,r,pl,hz⟩:=I.list hq;obtain⟨j,h1,h2,h3,h4,h5⟩:=rp he;obtain⟨w,ew,vN⟩:=r.get h2;have hl:=r.length;have hn:=lb;have fin:EP X f8 σ Q w s:=⟨z,H,I,vN,q⟩
 by_cases h0:0<=i
 ·have hj:i.toNat=j:=by
   rw[seqIndex_of h0 h5] at h1;exact Rx h1
  exact item_listR pl.isList h0 (by omega) (by rw[hj];simpa using ew) fin hs
 ·have hj:(i+(aE.toArray.size:Int)).toNat=j:=by
   rw[seqIndex_neg (by omega) h4] at h1;rw[QW,<-hl];exact Rx h1
  exact Xy (x:=w) pl.isList.typeIs slot_list_getitem.lookup
   (wpAny_getItem_list_neg (Q:=λr s'=>r=w/\EP X f8 σ Q r s') pl.isList (by omega) (by rw[QW]<;>omega) (by omega) (by rw[hj];simpa using ew) ⟨rfl,fin⟩) hs
def Hf:Jf X (KR X.K):=by
 intro value slice f8 s σ H x y v u Q I rx ry h hs;obtain⟨p,xs,i,z,rfl,rfl,hq,he,q⟩:=h;cases rx;obtain⟨t,rfl⟩:=ry;obtain⟨aE,r,pl,hz⟩:=I.tuple hq;obtain⟨j,h1,h2,h3,h4,h5⟩:=rp he;obtain⟨w,ew,vN⟩:=r.get h2;have hl:=r.length;have hn:=lb;have fin:EP X f8 σ Q w s:=⟨z,H,I,vN,q⟩
 exact Xy (x:=w) pl.typeIs slot_tuple_getitem.lookup
  (getItem_tuple (j:=j) (Q:=λr s'=>r=w/\EP X f8 σ Q r s') pl (by omega) (by omega) (by rw[QW,<-hl];exact h1) (by simpa using ew) ⟨rfl,fin⟩) hs
def He:Jf X KQ:=by
 intro value slice f8 s σ H x y v u Q I rx ry h hs;obtain⟨z,i,c,rfl,rfl,hz,he,q⟩:=h;obtain⟨t,rfl⟩:=rx;obtain⟨t',rfl⟩:=ry;obtain⟨j,h1,h2,h3,h4,h5⟩:=rp he;have hl:z.cps.toList.length=z.length:=by simp[Str.length]
 rw[hl] at h1 h4 h5;have hn:=lb;exact tail_any (typeIs_str s z t) slot_str_getitem.lookup (getItem_str (c:=c) (by
  have e1:decide (i< -(2 ^ 63:Int))=false:=XJ (by omega);have e2:decide (i>=2 ^ 63)=false:=XJ (by omega);rw[e1,e2,Vx]) (by rw[h1];simpa using h2) ⟨.str ⟨#[c]⟩,H,I.tok _,⟨_,rfl⟩,q⟩) hs
def Inv.lst{f8:List (Addr×Obj)}{σ:St}{H:Hp}{s:QT}{p:Addr}{xs:List V}(I:Inv X f8 σ H s)(h:H p=some (.lst xs)):
 ∃(aE:List Value) (n:Nat),Vals xs aE/\s.heap.get? p=some {cls:= .type "list",data:= .seq aE.toArray n}/\xs.length<=Q_:=by
 obtain⟨z,aE,n,r,e⟩:=I.hok p _ h;exact⟨aE,n,r,e,z⟩
def sV(lo hi:Option Int)(n:Nat):(UB lo hi none n).1=((HT.sIx n 0 lo:Nat):Int)/\(UB lo hi none n).2.1=((HT.sIx n n hi:Nat):Int)/\(UB lo hi none n).2.2=1:=by
 refine⟨?_,?_,rfl⟩
 ·cases lo with
  |none=>simp[UB,HT.sIx]
  |some i=>
   simp only[UB,HT.sIx,Xp,show (1:Int)>0 by decide,if_true];by_cases h:i<0
   ·simp only[h,if_true]<;>omega
   ·simp only[h,if_false]<;>omega
 ·cases hi with
  |none=>simp[UB,HT.sIx]
  |some i=>
   simp only[UB,HT.sIx,Xp,show (1:Int)>0 by decide,if_true];by_cases h:i<0
   ·simp only[h,if_true]<;>omega
   ·simp only[h,if_false]<;>omega
def pX(aE:List Value)(lo hi:Option Int):slicePick aE.toArray lo hi none=((aE.drop (HT.sIx aE.length 0 lo)).take (HT.sIx aE.length aE.length hi - HT.sIx aE.length 0 lo)).toArray:=by
 obtain⟨h1,h2,h3⟩:=sV lo hi aE.toArray.size;unfold slicePick;rw[h1,h2,h3];simp only[sliceRange_one,pick_run,QW]<;>rfl
def Nc(K:QZ):V->Option Int->Option Int->Hp->VK->Prop:=λx lo hi H Q=>∃a xs,x= .ref a/\SqL K H a xs/\∀p,H p=none->Q (.ref p) (upd H p (.lst (DK xs lo hi)))
def LM:OJ X (Nc X.K):=by
 intro f8 s σ H x v vl vu lo hi sl Q I rx hs pl pu h;obtain⟨a,xs,rfl,hx,q⟩:=h;cases rx;obtain⟨aE,r,ht,hz⟩:=I.list hx;have v6:=r.length;refine⟨"list",_,slot_list_getitem.lookup,ht.isList.typeIs,?_⟩;refine wpAny_getItem_list_slice ht.isList hs pl pu .none (by simp) ?_ (by rw[QW]<;>omega);rw[pX,<-v6];refine⟨.ref s.heap.objs.size,_,I.laid (t':=s.toks) (o:= .lst (DK xs lo hi)) (λb ob q=>QO _ q) (Q0 _) ?_,rfl,q _ (I.hok.fresh (Q0 _))⟩;exact⟨RI (t5 xs lo hi) hz,_,0,(r.drop (HT.sIx xs.length 0 lo)).take (HT.sIx xs.length xs.length hi - HT.sIx xs.length 0 lo),Q3 _ rfl⟩
def lU:V->Bool
 | .non=>true
 | .bl _=>true
 | .int _=>true
 | .str _=>true
 |_=>false
def Dj:V->V->Bool
 | .non, .non=>true
 | .bl a, .bl b=>a==b
 | .bl a, .int b=>(if a then 1 else 0)==b
 | .int a, .bl b=>a==(if b then 1 else 0)
 | .int a, .int b=>a==b
 | .str a, .str b=>a==b
 |_,_=>false
def GD{A:RQ}{s:QT}{y x:V}{u v:Value}(ry:RelV y u)(rx:RelV x v)(fy:lU y=true)(fx:lU x=true):Xl A s u v (Dj y x):=by
 cases y with
 |non=>
  cases ry;cases x with
  |non=>cases rx;exact SeqAt.EqAt.same _
  |bl b=>cases rx;exact SeqAt.EqAt.none_bool b
  |int b=>obtain⟨t,rfl⟩:=rx;exact SeqAt.EqAt.none_int b t
  |str b=>obtain⟨t,rfl⟩:=rx;exact SeqAt.EqAt.none_str b t
  |_=>exact XN (show false=true from fx) Ra
 |bl a=>
  cases ry;cases x with
  |non=>cases rx;exact SeqAt.EqAt.bool_none a
  |bl b=>cases rx;exact SeqAt.EqAt.bool_bool a b
  |int b=>obtain⟨t,rfl⟩:=rx;exact SeqAt.EqAt.bool_int a b t
  |str b=>obtain⟨t,rfl⟩:=rx;exact SeqAt.EqAt.bool_str a b t
  |_=>exact XN (show false=true from fx) Ra
 |int a=>
  obtain⟨t',rfl⟩:=ry;cases x with
  |non=>cases rx;exact SeqAt.EqAt.int_none a t'
  |bl b=>cases rx;exact SeqAt.EqAt.int_bool a t' b
  |int b=>obtain⟨t,rfl⟩:=rx;exact Wu a t' b t
  |str b=>obtain⟨t,rfl⟩:=rx;exact Wt a t' b t
  |_=>exact XN (show false=true from fx) Ra
 |str a=>
  obtain⟨t',rfl⟩:=ry;cases x with
  |non=>cases rx;exact SeqAt.EqAt.str_none a t'
  |bl b=>cases rx;exact SeqAt.EqAt.str_bool a t' b
  |int b=>obtain⟨t,rfl⟩:=rx;exact Ws a t' b t
  |str b=>obtain⟨t,rfl⟩:=rx;exact SeqAt.EqAt.str_str a t' b t
  |_=>exact XN (show false=true from fx) Ra
 |_=>exact XN (show false=true from fy) Ra
def v_(x:V)(u:Value):Bool:=match u with
 | .none=>Dj .non x
 | .bool b=>Dj (.bl b) x
 | .int i _=>Dj (.int i) x
 | .str z _=>Dj (.str z) x
 |_=>false
def AV{x y:V}{u:Value}(r:RelV y u)(f:lU y=true):v_ x u=Dj y x:=by
 cases y with
 |non=>cases r;rfl
 |bl b=>cases r;rfl
 |int i=>obtain⟨t,rfl⟩:=r;rfl
 |str z=>obtain⟨t,rfl⟩:=r;rfl
 |_=>exact XN (show false=true from f) Ra
def jL{x:V}:∀{xs:List V}{us:List Value},Vals xs us->xs.all lU=true->us.any (v_ x)=xs.any λy=>Dj y x
 |_,_, .nil,_=>rfl
 |y::xs,u::us, .cons r t,f=>by
  rw[Ur,Q6] at f;rw[Tt,Tt,AV r f.1,jL t f.2]
def g8{A:RQ}{s:QT}{x:V}{v:Value}(rx:RelV x v)(fx:lU x=true):∀{xs:List V}{us:List Value},Vals xs us->xs.all lU=true->∀u∈us,Xl A s u v (v_ x u)
 |_,_, .nil,_=>λu hu=>by cases hu
 |y::xs,u::us, .cons r t,f=>λu' hu=>by
  rw[Ur,Q6] at f;rcases Q9.mp hu with rfl | hu
  ·rw[AV r f.1];exact GD r rx f.1 fx
  ·exact g8 rx fx t f.2 u' hu
def LF(x:V)(xs:List V):Bool:=xs.any λy=>Dj y x
def Na(K:QZ)(neg:Bool):R2:=λx y H Q=>∃p xs,y= .ref p/\(SqL K H p xs\/SqT K H p xs)/\lU x=true/\xs.all lU=true/\Q (.bl (if neg then !LF x xs else LF x xs)) H
def qK:OpR X (R_ .In) (Na X.K false):=by
 intro f8 s σ H x y v u Q I rx ry h;obtain⟨p,xs,rfl,hq,fx,fs,q⟩:=h;cases ry;rcases hq with hq | hq
 ·obtain⟨aE,r,pl,hz⟩:=I.list hq;refine SeqAt.in_listAt (v_ x) pl.isList (λw hw=>g8 rx fx r fs w (by simpa using hw)) ⟨.bl _,H,I,rfl,?_⟩;rw[show aE.toArray.any (v_ x)=aE.any (v_ x) by simp,jL r fs];exact q
 ·obtain⟨aE,r,pl,hz⟩:=I.tuple hq;refine SeqAt.in_tupleAt (v_ x) pl (λw hw=>g8 rx fx r fs w (by simpa using hw)) ⟨.bl _,H,I,rfl,?_⟩;rw[show aE.toArray.any (v_ x)=aE.any (v_ x) by simp,jL r fs];exact q
def sr:OpR X (R_ .NotIn) (Na X.K true):=by
 intro f8 s σ H x y v u Q I rx ry h;obtain⟨p,xs,rfl,hq,fx,fs,q⟩:=h;cases ry;rcases hq with hq | hq
 ·obtain⟨aE,r,pl,hz⟩:=I.list hq;refine SeqAt.notIn_listAt (v_ x) pl.isList (λw hw=>g8 rx fx r fs w (by simpa using hw)) ⟨.bl _,H,I,rfl,?_⟩;rw[show aE.toArray.any (v_ x)=aE.any (v_ x) by simp,jL r fs];exact q
 ·obtain⟨aE,r,pl,hz⟩:=I.tuple hq;refine SeqAt.notIn_tupleAt (v_ x) pl (λw hw=>g8 rx fx r fs w (by simpa using hw)) ⟨.bl _,H,I,rfl,?_⟩;rw[show aE.toArray.any (v_ x)=aE.any (v_ x) by simp,jL r fs];exact q
def rF:CallR X (.builtin "len") (λxs H Q=>∃p ys,xs=[.ref p]/\(SqL X.K H p ys\/SqT X.K H p ys)/\Q (.int ys.length) H):=by
 intro f8 s σ H xs us Q I r h;obtain⟨p,ys,rfl,hq,q⟩:=h;obtain⟨u,rfl,rx⟩:=vals1 r;cases rx;have hn:=lb;rcases hq with hq | hq
 ·obtain⟨aE,r',pl,hz⟩:=I.list hq;have v6:=r'.length;exact Calls.call_len_list pl.isList (by simp only[QW]<;>omega) ⟨.int ys.length,H,I.tok _,⟨s.toks+1,by rw[QW,v6]⟩,q⟩
 ·obtain⟨aE,r',pl,hz⟩:=I.tuple hq;have v6:=r'.length;exact len_tuple pl (by simp only[QW]<;>omega) ⟨.int ys.length,H,I.tok _,⟨s.toks+1,by rw[QW,v6]⟩,q⟩
def rG:CallR X (.builtin "len") (λxs H Q=>∃z,xs=[.str z]/\z.length<=Q_/\Q (.int z.length) H):=by
 intro f8 s σ H xs us Q I r h;obtain⟨z,rfl,hz,q⟩:=h;obtain⟨u,rfl,t,rfl⟩:=vals1 r;have hn:=lb;exact len_str (by omega) ⟨.int z.length,H,I.tok _,⟨_,rfl⟩,q⟩
def CallR.or{f:Value}{r r':List V->Hp->VK->Prop}(h:CallR X f r)(h':CallR X f r'):CallR X f (λxs H Q=>r xs H Q\/r' xs H Q):=by
 intro f8 s σ H xs us Q I rs q;rcases q with q | q
 ·exact h f8 s σ H xs us Q I rs q
 ·exact h' f8 s σ H xs us Q I rs q
def pG:CallR X (.type "tuple") (λxs H Q=>∃p ys,xs=[.ref p]/\((SqL X.K H p ys/\∀l,H l=none->Q (.ref l) (upd H l (.tup ys)))\/(SqT X.K H p ys/\Q (.ref p) H))):=by
 intro f8 s σ H xs us Q I r h;obtain⟨p,ys,rfl,h⟩:=h;obtain⟨u,rfl,rx⟩:=vals1 r;cases rx;rcases h with⟨hq,q⟩ | ⟨hq,q⟩
 ·obtain⟨aE,r',pl,hz⟩:=I.list hq;have v6:=r'.length;refine call_tuple_list pl.isList (λh' kp=>?_) (by simp only[QW]<;>omega);have I1:Inv X f8 σ H {s with heap:=h'}:=I.kept (t':=s.toks) kp;have I2:Inv X f8 σ (upd H h'.objs.size (.tup ys)) {s with heap:=h'.push {cls:= .type "tuple",data:= .seq aE.toArray} }:=
   I1.laid (t':=s.toks) (λb o e=>QO _ e) (Q0 _) (show ObjOk X.prog X.w _ _ _ (.tup ys) from⟨hz,aE,r',IsTup.new _ _⟩)
  exact⟨.ref h'.objs.size,_,I2,rfl,q _ (I1.hok.fresh (Q0 _))⟩
 ·obtain⟨aE,r',pl,hz⟩:=I.tuple hq;exact call_tuple_same pl ⟨.ref p,H,I,rfl,q⟩
def La(K:QZ)(T:String)(x:V)(H:Hp):Prop:=match x with
 | .str _=>T="str"
 | .int _=>T="int"
 | .ref p=>(T="list"/\∃xs,SqL K H p xs)\/(T="tuple"/\∃o,K.lookup p=some o/\o.cls= .type "tuple"/\o.dict=none)\/
    (T="dict"/\((∃az,H p=some (.dK az))\/∃az,H p=some (.dT az)))\/(T="set"/\∃S n,H p=some (.set S n))
 |_=>False
def ID{f8:List (Addr×Obj)}{σ:St}{H:Hp}{s:QT}{T:String}{x:V}{v:Value}(I:Inv X f8 σ H s)(r:RelV x v)(ty:La X.K T x H):
 s.TypeIs v T/\∀a,v= .ref a->∃ob,s.heap.get? a=some ob/\ob.dict=none:=by
 cases x with
 |str z=>
  obtain⟨t,rfl⟩:=r;cases (show T="str" from ty);exact⟨typeIs_str s z t,λ_ e=>nomatch e⟩
 |int i=>
  obtain⟨t,rfl⟩:=r;cases (show T="int" from ty);exact⟨typeIs_int s i t,λ_ e=>nomatch e⟩
 |ref p=>
  cases r;rcases ty with⟨rfl,xs,hq⟩ | ⟨rfl,o,hk,hc,hd⟩ | ⟨rfl,hk⟩ | ⟨rfl,S,n,hk⟩
  ·obtain⟨aE,_,pl,_⟩:=I.list hq;refine⟨pl.isList.typeIs,λa e=>?_⟩;cases e;obtain⟨o,n,e,c,hd,_⟩:=pl;exact⟨o,e,hd⟩
  ·refine⟨⟨o,I.kIn p o hk,hc⟩,λa e=>?_⟩;cases e;exact⟨o,I.kIn _ o hk,hd⟩
  ·have z:∃o,s.heap.get? p=some o/\o.ExactDict:=by
    rcases hk with⟨az,hk⟩ | ⟨az,hk⟩
    ·obtain⟨_,_,_,_,o,_,_,e,ex,_⟩:=I.hok p _ hk;exact⟨o,e,ex⟩
    ·obtain⟨_,_,_,_,o,_,_,e,ex,_⟩:=I.hok p _ hk;exact⟨o,e,ex⟩
   obtain⟨o,e,ex⟩:=z;refine⟨⟨o,e,ex.1⟩,λa e2=>?_⟩;cases e2;exact⟨o,e,ex.2.1⟩
  ·obtain⟨o,_,_,_,e,ex,_⟩:=I.hok p _ hk;refine⟨⟨o,e,ex.1⟩,λa e2=>?_⟩;cases e2;exact⟨o,e,ex.2.1⟩
 |_=>exact Tc ty
def Nj(K:QZ)(T:String)(r:V->List V->Hp->VK->Prop)(to:TE)(t:TA):TE:=λσ H Q=>to σ H λx H1=>La K T x H1/\t σ H1 λxs H2=>r x xs H2 Q
variable{o e:Expr}{es:List Expr}{to:TE}{t:TA}{name:Str}{v4 a6:Pos}{T id:String}{r:V->List V->Hp->VK->Prop}
def Ca(pa:PlainAttrs T)(slot:Slot T name id)(MH:typeOf (.builtin id)=pure (.type "method_descriptor"))(hm:Jg X id r)(ho:PE X o to)(ha:PA X (e::es) t)
 (eX:SX o name X.env (eval o X.env)=eval o X.env:=by rfl)
 (k9:((Tr a6 (Q8 (e::es) X.env)).all (λx=>!x.1)&&(U7 a6 (T2 [] X.env)).all (λx=>x.1.isSome)
  &&decide ((e::es).length+([]:List TN).length+(if ([]:List TN).isEmpty then 0 else 1)<30))=true:=by rfl)
 (eY:(v4.endLine==a6.line)=true:=by rfl) (hs:Q8 (e::es) X.env=(false,eval e X.env)::Q8 es X.env:=by rfl) (wk:(Tr a6 (Q8 es X.env)).any (·.1)=false:=by rfl):
 PE X (.Call (.Attribute o name v4) (e::es) [] a6) (Nj X.K T r to t):=by
 intro f8 s σ H Q I h;refine wpAny_Call_method_late eX k9 eY rfl (b7 (ho f8 s σ H _ I h) λv s1 ⟨x,H1,I1,r1,ty,q1⟩=>?_);obtain⟨h1,h2⟩:=ID I1 r1 ty;refine⟨T,id,pa,slot,MH,h1,h2,?_⟩;have hA:=ha a6 f8 s1 σ H1 _ I1 q1;rw[hs] at hA⊢;refine Te (by show (false||(Tr a6 (Q8 es X.env)).any (·.1))=false;rw[wk]<;>rfl) (Uj ?_);exact b7 hA λus s2 ⟨vs,H2,I2,r2,q2⟩=>hm f8 s2 σ H2 x vs v us Q I2 r1 r2 q2
end
def NG(X:Cx)(id:String)(r:V->List V->Hp->VK->Prop):Prop:=
 ∀(f8:List (Addr×Obj)) (s:QT) (σ:St) (H:Hp) (x:V) (xs:List V) (v:Value) (us:List Value) (Q:VK),Inv X f8 σ H s->RelV x v->Vals xs us->r x xs H Q->
  wpAny (model X.prog X.w) X.A (call (.builtin id) (v::us)) (EP X f8 σ Q) X.xe s
def Vals.one:∀{x:V}{us:List Value},Vals [x] us->∃u,us=[u]/\RelV x u
 |_,_, .cons r .nil=>⟨_,rfl,r⟩
def Vals.rep{xs:List V}{us:List Value}(h:Vals xs us):∀k:Nat,Vals (Rg k xs).flatten (Rg k us).flatten
 |0=> .nil
 |k+1=>by
  rw[SG,SG,Ts,Ts];exact Vals.append h (Vals.rep h k)
def foldl_rep(aE:List Value):∀(k:Nat) (u8:List Value),
 XD (λx1 x2=>x1++x2) u8.toArray (Rg k aE.toArray)=(u8++(Rg k aE).flatten).toArray
 |0,u8=>by simp
 |k+1,u8=>by
  have e:u8.toArray++aE.toArray=(u8++aE).toArray:=by simp
  have e2:(u8++aE)++(Rg k aE).flatten=u8++(Rg (k+1) aE).flatten:=by
   rw[SG,Ts,UH]
  rw[<-e2,<-foldl_rep aE k (u8++aE),<-e,SG,U1]
section
variable{X:Cx}{f8:List (Addr×Obj)}{σ:St}{H:Hp}{s:QT}{l:Addr}{xs ys:List V}
def Inv.lset{aE its':List Value}{n:Nat}{f:Array Value->Array Value}{t':Nat}(I:Inv X f8 σ H s)(hH:H l=some (.lst xs))
 (e:s.heap.get? l=some {cls:= .type "list",data:= .seq aE.toArray n})(hf:f aE.toArray=its'.toArray)(hv:Vals ys its')(hz:ys.length<=Q_):
 Inv X f8 σ (upd H l (.lst ys)) {s with heap:=s.heap.update l (RA f),toks:=t'}:=by
 have q:=PySem.IsL.update e f;rw[hf] at q;refine I.write (x:=l) (e:=l) (by rw[hH];exact trivial) (.inl rfl) (λb' u hb hu=>(T7 s.heap (RA f) (R3 hb)).trans hu) ⟨_,q⟩ ?_;exact⟨hz,its',_,hv,q⟩
def Inv.lnew{aE:List Value}{t':Nat}(I:Inv X f8 σ H s)(hv:Vals ys aE)(hz:ys.length<=Q_):
 Inv X f8 σ (upd H s.heap.objs.size (.lst ys)) {s with heap:=s.heap.push {cls:= .type "list",data:= .seq aE.toArray},toks:=t'}:=
 I.laid (λ_ _ q=>QO _ q) (Q0 _) ⟨hz,aE,0,hv,Q3 _ rfl⟩
def Inv.fresh(I:Inv X f8 σ H s):H s.heap.objs.size=none:=I.hok.fresh (Q0 _)
def Inv.lstM(I:Inv X f8 σ H s)(hH:H l=some (.lst xs)):xs.length<=Q_/\∃(aE:List Value) (n:Nat),Vals xs aE/\xs.length=aE.length/\s.heap.get? l=some {cls:= .type "list",data:= .seq aE.toArray n}:=by
 obtain⟨z,aE,n,r,e⟩:=I.hok l _ hH;exact⟨z,aE,n,r,r.length,e⟩
def uL{n:Nat}(h:n<=Q_):Tp n=false:=by
 unfold Tp;exact XJ (by omega)
end
section
variable{X:Cx}
def yA:V->List V->Hp->VK->Prop:=λx vs H Q=>∃l xs y,x= .ref l/\vs=[y]/\H l=some (.lst xs)/\xs.length<Q_/\Q .non (upd H l (.lst (xs++[y])))
def qG:NG X "list.append" yA:=by
 intro f8 s σ H x vs v us Q I rx rv h;obtain⟨l,xs,y,rfl,rfl,hH,hz,q⟩:=h;cases rx;obtain⟨u,rfl,ru⟩:=rv.one;obtain⟨z,aE,n,r,hl,e⟩:=I.lstM hH;refine V7 F.slot_list_append ⟨_,e,rfl⟩ F.entry_list_append (F.args_list_append_2 _ _) (PySem.list_append l aE.toArray n u (by rw[QW];omega)) ⟨e,?_⟩;refine⟨.non,_,I.lset (its':=aE++[u]) hH e (by simp) (r.append (.cons ru .nil)) ?_,rfl,q⟩;rw[Q2,List.length_singleton];omega
def yB:V->List V->Hp->VK->Prop:=λx vs H Q=>∃l b xs zs,x= .ref l/\vs=[.ref b]/\H l=some (.lst xs)/\H b=some (.lst zs)/\xs.length+zs.length<=Q_/\Q .non (upd H l (.lst (xs++zs)))
def zF:NG X "list.extend" yB:=by
 intro f8 s σ H x vs v us Q I rx rv h;obtain⟨l,b,xs,zs,rfl,rfl,hH,hB,hz,q⟩:=h;cases rx;obtain⟨u,rfl,ru⟩:=rv.one;cases ru;obtain⟨z,aE,n,r,hl,e⟩:=I.lstM hH;obtain⟨z2,fY,n2,r2,vL,e2⟩:=I.lstM hB;have hsz:aE.toArray.size+fY.toArray.size<=Q_:=by rw[QW,QW];omega
 have Bd:¬(!aE.toArray.isEmpty&&Tp (aE.toArray.size+fY.toArray.size))=true:=by
  rw[uL hsz,Ve];exact Ra
 refine V7 F.slot_list_extend ⟨_,e,rfl⟩ F.entry_list_extend (F.args_list_extend_2 _ _)
  (AutoSeq1.list_extend_list_list_0 l aE.toArray n b fY.toArray n2 Bd (by rw[QW];omega) (by omega)) ⟨e,e2,?_⟩
 refine⟨.non,_,I.lset (its':=aE++fY) hH e (by simp) (r.append r2) ?_,rfl,q⟩;rw[Q2];omega
def M_:R2:=λx y H Q=>∃l b xs zs,x= .ref l/\y= .ref b/\H l=some (.lst xs)/\H b=some (.lst zs)/\xs.length+zs.length<=Q_/\∀p,H p=none->Q (.ref p) (upd H p (.lst (xs++zs)))
def Hv:OpR X (Uo .Add) M_:=by
 intro f8 s σ H x y v u Q I rx ry h;obtain⟨l,b,xs,zs,rfl,rfl,hH,hB,hz,q⟩:=h;cases rx;cases ry;obtain⟨z,aE,n,r,hl,e⟩:=I.lstM hH;obtain⟨z2,fY,n2,r2,vL,e2⟩:=I.lstM hB;refine PySem.P.add_list e e2 ?_ (by rw[QW,QW];omega);have ea:aE.toArray++fY.toArray=(aE++fY).toArray:=by simp
 rw[ea];exact⟨.ref _,_,I.lnew (t':=s.toks) (r.append r2) (by rw[Q2];omega),rfl,q _ I.fresh⟩
def Nb:R2:=λx y H Q=>∃l k xs,x= .ref l/\y= .int k/\H l=some (.lst xs)/\ -(2 ^ 63)<=k/\k<2 ^ 63/\xs.length*k.toNat<=Q_/\
 ∀p,H p=none->Q (.ref p) (upd H p (.lst (Rg k.toNat xs).flatten))
def len_rep{α:Type}(xs:List α)(k:Nat):(Rg k xs).flatten.length=k*xs.length:=by
 induction k with
 |zero=>simp
 |succ k ih=>rw[SG,Ts,Q2,ih,Nat.succ_mul,Uc]
def HA:OpR X (Uo .Mult) Nb:=by
 intro f8 s σ H x y v u Q I rx ry h;obtain⟨l,k,xs,rfl,rfl,hH,h1,h2,hz,q⟩:=h;cases rx;obtain⟨t,rfl⟩:=ry;obtain⟨z,aE,n,r,hl,e⟩:=I.lstM hH;have v6:aE.toArray.size*k.toNat<=Q_:=by rw[QW,<-hl];exact hz
 have Me:¬aE.toArray.size*k.toNat>(2 ^ 63 - 1) / 8:=by
  have:(Q_:Nat)<=(2 ^ 63 - 1) / 8:=by decide
  omega
 have Mn:¬(!Builtin.List.listFitsIndex k)=true:=by
  rw[fitsIndex_both h1 h2];exact Ra
 have Bd:¬Tp (aE.toArray.size*k.toNat)=true:=by
  rw[uL v6];exact Ra
 have DZ:XD (λx1 x2=>x1++x2) #[] (Rg (if aE.toArray.isEmpty=true then 0 else k.toNat) aE.toArray)=(Rg k.toNat aE).flatten.toArray:=by
  have f0:∀m:Nat,XD (λx1 x2=>x1++x2) #[] (Rg m aE.toArray)=(Rg m aE).flatten.toArray:=λm=>by
   have:=foldl_rep aE m [];rw[Si] at this;exact this
  rw[f0];cases aE with
  |nil=>simp
  |cons a r'=>rw[XH (by simp)]
 refine wpAny_binaryOp_repeat_ref (T:="list") (U:="int") (by decide) ⟨_,e,rfl⟩ (λs'=>typeIs_int s' k t) noFill_list_mul F.fills_int_mul F.slot_int_rmul repeat_list F.slot_int_index.lookup
  (V7 F.slot_int_rmul (typeIs_int s k t) F.entry_int_rmul (F.args_int_rmul_2 _ _) (int___rmul___int_list k t l aE.toArray n)
   ⟨e,rfl,⟨_,e,rfl⟩,V7 F.slot_list_mul ⟨_,e,rfl⟩ F.entry_list_mul (F.args_list_mul_2 _ _) (AutoListH.list___mul___list_int_3 l aE.toArray n k t Mn Me Bd) ⟨e,?_⟩⟩)
 rw[DZ];exact⟨.ref _,_,I.lnew (t':=s.toks) (r.rep k.toNat) (by rw[len_rep,Uy];exact hz),rfl,q _ I.fresh⟩
end
end L2
namespace Att
open PySem PySem.W PySem.Calls PyProof.Rows
def ints_of_wellAll{P:Params}{h:Heap}:∀(ns:List Int) (vs:List Value),WellAll P h vs (ns.map WData.int)->Ta vs ns:=by
 intro ns;induction ns with
 |nil=>
  intro vs w;rw[TM] at w;cases w;exact .nil
 |cons n ns ih=>
  intro vs w;rw[QX] at w;cases w with
  |cons a b=>
   cases a;exact .cons _ _ (ih _ b)
def script_of{l:OpenLaw}{n:Nat}(hn:l.most=some n){P:Params}{h:Heap}{args:List WData}{vals:List Value}
 (D1:l.row.toRowW.claim.pre args=true)(MO:WellAll P h vals args):
 ∃a vs ns,vals=[Rc a]/\args=[WData.list (ns.map WData.int)]/\h.get? a=some {cls:= .type "list",data:= .seq vs.toArray}/\Ta vs ns/\ns.length<=n:=by
 have P_:WShape.hasAll [] args [.list .int]=true:=(pre_splitW D1).1;have hc:l.pre.holds [] {args:=args}=true:=(pre_splitW D1).2;obtain⟨d,r,rfl,h1,h2⟩:=hasAllW_cons P_;obtain rfl:=hasAllW_nil h2;obtain⟨xs,rfl,h3⟩:=hasW_list h1;obtain⟨ns,rfl⟩:=items_int h3;have v6:ns.length<=n:=by
  unfold OpenLaw.pre at hc;have h4:(WTm.not (.lt (.lit (.int (n:Int))) (.len (.arg 0)))).holds [] {args:=[.list (ns.map .int)]}=true:=by
   have h4:=(holds_andW hc).1;rw[hn] at h4;exact h4
  have h5:=condW_of h4 (w_not (w_lt w_lit (w_len_list (w_arg rfl))));rw[QM] at h5;refine Nat.le_of_not_lt λq=>?_;have q':(n:Int)<((ns.length:Nat):Int):=by omega
  first
   |(rw [XM q'] at h5;exact XN h5 (by decide))
   |(simp at h5;omega)
 cases MO with
 |cons w1 w2=>
  cases w2;cases w1 with
  |list ho Mc=>exact⟨_,_,ns,rfl,rfl,ho,ints_of_wellAll ns _ Mc,v6⟩
def post_true(l:OpenLaw)(args:List WData):l.row.toRowW.claim.post args (.bool true) args=true:=
 postW_of (r:=l.row.toRowW) (X:=(true==true))
  (show WShape.has [] (.bool true) .bool=true by first | rfl | decide | simp[WShape.has,WShape.arms,WShape.armsAll])
  (show (WTm.eq .res (.lit (.bool true))).value [] {args:=args,res:=some (.bool true),after:=args}=some (.bool (true==true)) from w_eq_bool (w_res rfl) w_lit) rfl
def attach_call{l:OpenLaw}{n:Nat}{q:Ru}{loose:List Str}{XP:(Str->Option Value)->Heap->Prop}{YP:World->Heap->Prop}{d:DefRec}
 (hn:l.most=some n)(JK:d.params.defaults=[])
 (call:∀(w:World) (X9 v0:QT) (mg mb:Str->Option Value) (fa:Addr) (o:Obj) (pm cd doc:Value) (a:Addr) (vs:List Value) (ns:List Int),
  Ground q loose [] XP w X9 mg mb v0.heap->YP w v0.heap->
  v0.heap.get? fa=some o->o.data= .func (docDef d.name d.params d.body d.scope pm cd doc)->v0.heap.CodeRec cd d.name->mg d.name=some (.ref fa)->
  v0.heap.get? a=some {cls:= .type "list",data:= .seq vs.toArray}->Ta vs ns->ns.length<=n->v0.gens= #[]->
  U6 (model l.prog w) V6 (.call (.ref fa) ⟨[.ref a],[]⟩) (λr s'=>r= .ok (.ret (.bool true))/\OldK v0.heap s'.heap/\s'.os=v0.os/\Vr s'.gens) v0):
 WalkO q loose XP YP l.row.toRowW d [] (λf vs=>Xm f vs):=by
 intro w X9 v0 mg mb G Y fa o pm cd doc dV kV ho hd vK hD GX hg args vals as D1 PQ Of MO QH;obtain rfl:dV= .none:=Dflts.none hD JK;obtain rfl:kV= .none:=Dflts.noKw hD;obtain⟨a,vs,ns,rfl,rfl,Be,hints,v6⟩:=script_of hn D1 MO;refine enter_call (Wg (call w X9 v0 mg mb fa o pm cd doc a vs ns G Y ho (fd_plain hd) vK GX Be hints v6 hg) λr s' hq=>?_);obtain⟨rfl,h2,h3,h4⟩:=hq;exact⟨.inl ⟨.bool true, .bool true,[],rfl,λ_=>rfl, .bool true,post_true l _,λ_=>⟨Wb,λ_ hm=>(nomatch hm)⟩⟩,h2,h3,h4⟩
def ledger(h:Heap)(L d:Addr):List (Addr×Obj):=(Rf h.objs.size).filterMap λa=>if a=L\/a=d then none else(h.get? a).map λo=>(a,o)
end Att
namespace L2
open PySem PySem.Spec PyProof.Rows
def rj:∀{vs:List Value}{ns:List Int},Ta vs ns->Vals (ns.map V.int) vs
 |_,_, .nil=> .nil
 |_,_, .cons n t h=> .cons ⟨t,rfl⟩ (rj h)
def Gp(H:Hp):Prop:=∀b,H b=none\/∃o xs,H b=some (.frz o (.lst xs))
def uy{P:Ru}{w:World}{K:QZ}{mg mb:Str->Option Value}{CX:xx}{k:Nat}{fa a:Addr}{fd:TY}{x:Str}{sp:Sp}{v0:QT}{vs:List Value}{ns:List Int}
 (KX:K.In v0.heap)(Dt:v0.heap.Ns Rm mg)(hb:v0.heap.Ns builtinsNs mb)(Ph:∀x:Str,x≠"__name__"->mb x=Rv x)(JQ:v0.heap.NoLimit)(hg:v0.gens= #[])
 (ha:v0.heap.get? a=some {cls:= .type "list",data:= .seq vs.toArray})(hi:Ta vs ns)(hl:ns.length<=Q_)(hr:Room k V6)
 (F:∀base:Heap,K.In base->base.Ns Rm mg->FnOk P w K mg base CX k fa fd [x] sp)(JH:∀(s:QT) (u:Value),Xv s fd ⟨[u],[]⟩ [(x,u)])
 (Dw:∀H:Hp,Gp H->SqL K H a (ns.map V.int)->sp [.ref a] H (λv _=>v= .bl true) λ_ _ _=>False)
 (L8:∀H e s',CX [] H v0 (λ_ _ _=>False) e s'->False):
 U6 (model P w) V6 (.call (.ref fa) ⟨[.ref a],[]⟩) (λr s'=>r= .ok (.ret (.bool true))/\OldK v0.heap s'.heap/\s'.os=v0.os/\Vr s'.gens) v0:=by
 have rv:=rj hi;have MZ:=hi.length;have core:∀H:Hp,Gp H->SqL K H a (ns.map V.int)->HOk P w H v0.heap->(∀b,H b≠none->b=a)->(H a≠none->K.lookup a=none)->
  U6 (model P w) V6 (.call (.ref fa) ⟨[.ref a],[]⟩) (λr s'=>r= .ok (.ret (.bool true))/\OldK v0.heap s'.heap/\s'.os=v0.os/\Vr s'.gens) v0:=by
  intro H hO hS hok hA hK;have xD:∀{b:Addr}{o:Obj},v0.heap.get? b=some o->H b=none->(rT v0.heap H).get? b=some o:=λe n=>Bc e n;have Km:∀{b:Addr}{o:Obj}{es:Array Sn}{ep:Nat},v0.heap.get? b=some o->o.data= .dict es ep->H b=none:=λ{b o es ep} e d=>by
   cases q:H b with
   |none=>rfl
   |some u=>
    have e':b=a:=hA b (by rw[q];simp);subst e';rw[ha] at e;cases e;have d':Data.seq vs.toArray _=U3 es ep:=d;cases d'
  have LJ:∀{b:Addr}{m:Str->Option Value},v0.heap.Ns b m->(rT v0.heap H).Ns b m:=λ{b m} ⟨o,es,ep,e,d,r⟩=>⟨o,es,ep,xD e (Km e d),d,r⟩
  have N0:K.In (rT v0.heap H):=λb o e=>xD (KX b o e) (by
   cases q:H b with
   |none=>rfl
   |some u=>
    have e':b=a:=hA b (by rw[q];simp);subst e';rw[hK (by rw[q];simp)] at e;cases e)
  have hM:Mod K mg (rT v0.heap H):=⟨N0,LJ Dt,⟨mb,LJ hb,Ph⟩,let ⟨mc,h1,h2⟩:=JQ;⟨mc,LJ h1,h2⟩⟩
  have e0:Env0 P w K mg (rT v0.heap H) V6 [] v0 H:=⟨rfl,hM,λb o e=>Et e,Nat.le_of_eq (zk _ _),trivial,λb hb=>XN (show b∈([]:List Addr) from hb) (by simp),hok, .of_eq hg⟩
  refine Wg ((F _ N0 (LJ Dt)).run V6 [] v0 H ⟨[.ref a],[]⟩ [.ref a] [.ref a] _ _ hr e0 (JH v0 (.ref a)) (.cons rfl .nil) (Dw H hO hS)) λr s' h=>?_;cases r with
  |error e=>exact(L8 H e s' h).elim
  |ok fl=>
   cases fl with
   |next=>exact Tc h
   |brk=>exact Tc h
   |cont=>exact Tc h
   |ret u=>
    obtain⟨v,H',os,bare,un,JX,r',q⟩:=h;have q':v= .bl true:=q;subst q';obtain rfl:u=SD true:=r';refine⟨rfl,OldK.of_keep λb o e=>?_,os,bare⟩;cases q:H b with
    |none=>exact un.keep b o e q (by intro z;exact XN (show b∈([]:List Addr) from z) (by simp)) (by simp)
    |some u=>
     rcases hO b with z | ⟨ob,xs,z⟩
     ·rw[q] at z;cases z
     ·have z2:=un.frzs b ob _ z;obtain⟨e1,_⟩:=hok b _ z;obtain⟨e2,_⟩:=JX b _ z2;rw[e] at e1;cases e1;exact e2
 cases hk:K.lookup a with
 |some o=>
  have e:=KX a o hk;rw[ha] at e;cases e;refine core (λ_=>none) (λ_=> .inl rfl) (.inr ⟨_,vs.toArray,_,hk,rfl,rfl,rfl,by rw[QW,MZ];exact hl,by simpa using rv⟩) (λb u z=>by have z':(none:Option HO)=some u:=z;cases z') (λb z=>XN rfl z) λz=>XN rfl z
 |none=>
  refine core (λb=>if b=a then some (.frz {cls:= .type "list",data:= .seq vs.toArray} (.lst (ns.map V.int))) else none) (λb=>?_) (.inl (.inr ⟨{cls:= .type "list",data:= .seq vs.toArray},XG rfl⟩)) (λb u z=>?_) (λb z=>?_) λ_=>hk
  ·by_cases hb:b=a
   ·exact .inr ⟨_,_,XG hb⟩
   ·exact .inl (XH hb)
  ·by_cases hb:b=a
   ·have z':=(XG hb).symm.trans z;cases z';subst hb;exact⟨ha,by rw[QM];exact hl,vs,_,rv,ha⟩
   ·have z':=(XH hb).symm.trans z;cases z'
  ·by_cases hb:b=a
   ·exact hb
   ·exact XN (XH hb) z
abbrev Qz{K:QZ}{h:Heap}(_:K.In h):QZ:=K
def LU{l:Xn}{n k:Nat}{q:Ru}{loose:List Str}{XP:(Str->Option Value)->Heap->Prop}{YP:World->Heap->Prop}{d:DefRec}{K:Params->QZ}{CX:World->xx}{sp:World->Sp}{x:Str}
 (hn:l.most=some n)(Ly:n<=Q_)(JK:d.params.defaults=[])(hr:Room k V6)
 (hY:∀(w:World) (h:Heap),YP w h->(K w.params).In h)
 (F:∀(w:World) (mg:Str->Option Value) (fa:Addr) (h:Heap),(K w.params).In h->h.Ns Rm mg->mg d.name=some (.ref fa)->
  ∃fd:TY,(∀(s:QT) (u:Value),Xv s fd ⟨[u],[]⟩ [(x,u)])/\
   ∀base:Heap,(K w.params).In base->base.Ns Rm mg->FnOk l.prog w (K w.params) mg base (CX w) k fa fd [x] (sp w))
 (Dw:∀(w:World) (H:Hp) (a:Addr) (ns:List Int),ns.length<=n->Gp H->SqL (K w.params) H a (ns.map V.int)->sp w [.ref a] H (λv _=>v= .bl true) λ_ _ _=>False)
 (L8:∀(w:World) (H:Hp) (s:QT) (e:Value) (s':QT),CX w [] H s (λ_ _ _=>False) e s'->False):
 PySem.W.WalkO q loose XP YP l.row.toRowW d [] (λf vs=>Xm f vs):=by
 refine Att.attach_call hn JK λw X9 v0 mg mb fa o pm cd doc a vs ns G Y ho hd vK GX Be hints v6 hg=>?_;have KX:=hY w _ Y;obtain⟨fd,hb,hF⟩:=F w mg fa _ KX G.T.g GX;exact uy KX G.T.g G.T.b G.T.builtins G.T.nolimit hg Be hints (RI v6 Ly) hr hF hb (λH hO hS=>Dw w H a ns v6 hO hS) λH e s'=>L8 w H v0 e s'
abbrev NB:xx:=λ_ _ _ _ _ _=>False
structure Fun (K:QZ) (x qual:Str) (st:Stmt) (f:Addr) (fd:TY):Prop where
 ex:∃(oc:Value) (od:Option Addr) (kV doc pm:Value) (an:Option Addr) (bY ct:Value) (ED:Array (Option Value)),
  fd=SI x qual (d8 st) (aV st) (ah st) .none kV doc pm an bY ct/\K.lookup f=some ⟨oc,od, .func fd,ED⟩/\T4 K bY qual=true
 kp:S6 K (.ref f)=true
section
variable{P:Ru}{w:World}{K:QZ}{mg:Str->Option Value}{base:Heap}
def Fun.ok{x qual:Str}{st:Stmt}{f:Addr}{fd:TY}{N ps:List Str}{k:Nat}{sp:Sp}(F:Fun K x qual st f fd)(S:FnScope N ps (ah st))(len:∀vs H Q E,sp vs H Q E->vs.length=ps.length)
 (nO:∀(bY:Value) (A:RQ) (outer:List Env) (s:QT) (H:Hp) (vs:List V) (Q:VK) (E:XK),Room k (A.deeper (S5 qual (ah st) s.heap.objs.size f bY))->sp vs H Q E->
  ∃t,PSs (c6 NB P w K mg base N qual (ah st) f bY A outer s H E).nox (aV st) t/\t {nx:=λ_ H'=>Q .non H',rt:=Q} (start N vs) H):FnOk P w K mg base NB (k+1) f fd ps sp:=by
 obtain⟨oc,od,kV,doc,pm,an,bY,ct,ED,rfl,lk,vK⟩:=F.ex;refine FL lk vK S len λA outer s H vs Q E hr Dw=>?_;obtain⟨t,h,q⟩:=nO bY A outer s H vs Q E hr Dw;exact⟨t,h.nox,q⟩
def Fun.binds{x qual:Str}{st:Stmt}{f:Addr}{fd:TY}{ps:List Str}(F:Fun K x qual st f fd)
 (h:∀(kV doc pm:Value) (an:Option Addr) (bY ct:Value) (us:List Value),us.length=ps.length->bindArgs (SI x qual (d8 st) (aV st) (ah st) .none kV doc pm an bY ct) ⟨us,[]⟩=pure (ps.zip us)):Binds K fd ps []:=by
 obtain⟨oc,od,kV,doc,pm,an,bY,ct,ED,rfl,lk,vK⟩:=F.ex;exact .all (h kV doc pm an bY ct)
def AY{x qual:Str}{st:Stmt}{f:Addr}{oc:Value}{od an:Option Addr}{ED:Array (Option Value)}{kV doc pm bY ct:Value}(l:K.lookup f=some ⟨oc,od, .func (SI x qual (d8 st) (aV st) (ah st) .none kV doc pm an bY ct),ED⟩)
 (c:T4 K bY qual=true)(k:S6 K (.ref f)=true):Fun K x qual st f (SI x qual (d8 st) (aV st) (ah st) .none kV doc pm an bY ct):=⟨⟨oc,od,kV,doc,pm,an,bY,ct,ED,rfl,l,c⟩,k⟩
end
section
variable{X:Cx}
def pv(i:Nat){x:Str}{pos:Pos}(hN:X.N[i]? =some x:=by rfl)(hv:Li X.env.scope x:=by first | exact Or.inl rfl | exact Or.inr (Or.inl rfl) | exact Or.inr (Or.inr rfl))(hd:(x==("__debug__":Str))=false:=by decide)
 (vK:(x==("__classdict__":Str))=false:=by decide):PE X (.Name x pos) (pf i):=HX hN hv hd vK
end
def Same(H H':Hp):Prop:=∀b o,H b=some o->H' b=some o
def Same.refl(H:Hp):Same H H:=λ_ _ h=>h
def Same.trans{H H1 H2:Hp}(a:Same H H1)(b:Same H1 H2):Same H H2:=λc o h=>b c o (a c o h)
def Same.free{H H':Hp}(e:Same H H'){l:Addr}(h:H' l=Option.none):H l=Option.none:=by
 cases q:H l with
 |none=>rfl
 |some o=>
  rw[e l o q] at h;cases h
def Same.seq{K:QZ}{H H':Hp}{a:Addr}{xs:List V}(e:Same H H')(h:SqL K H a xs):SqL K H' a xs:=by
 rcases h with(h | ⟨o,h⟩) | h
 ·exact .inl (.inl (e _ _ h))
 ·exact .inl (.inr ⟨o,e _ _ h⟩)
 ·exact .inr h
section
variable{κ:Type}[DecidableEq κ]
def kJ(az:List (κ×V))(k:κ):Option V:=(az.find? λkv=>decide (kv.1=k)).map (·.2)
def putK(az:List (κ×V))(k:κ)(v:V):List (κ×V):=
 if (az.any λkv=>decide (kv.1=k))=true then az.map (λkv=>if kv.1=k then(kv.1,v) else kv) else az++[(k,v)]
def FI(az:List (κ×V))(k:κ):List (κ×V):=az.filter λkv=>decide (kv.1≠k)
def kL{p:κ×V}{r:List (κ×V)}{k:κ}(e:p.1=k):kJ (p::r) k=some p.2:=by simp[kJ,TX,e]
def kK{p:κ×V}{r:List (κ×V)}{k:κ}(e:¬p.1=k):kJ (p::r) k=kJ r k:=by simp[kJ,TX,e]
def pk(k:κ):∀az:List (κ×V),(az.any λkv=>decide (kv.1=k))=(kJ az k).isSome
 |[]=>rfl
 |p::r=>by
  rw[Tt];by_cases e:p.1=k
  ·simp only[kL e,XM e,Bool.true_or,Option.isSome_some]
  ·rw[kK e,XJ e,Bool.false_or];exact pk k r
def eh(az:List (κ×V))(k:κ)(v:V):(putK az k v).length<=az.length+1:=by
 unfold putK;split
 ·rw[QM];omega
 ·rw[Q2,QV,Sb];omega
def RelO.isSome_eq{o:Option V}{u:Option Value}(r:RelO o u):o.isSome=u.isSome:=by
 cases o with
 |none=>cases u with
  |none=>rfl
  |some _=>exact(show False from r).elim
 |some _=>cases u with
  |none=>exact(show False from r).elim
  |some _=>rfl
def RelO.getD{o:Option V}{u:Option Value}{d:V}{d':Value}(r:RelO o u)(rd:RelV d d'):RelV (o.getD d) (u.getD d'):=by
 cases o with
 |none=>cases u with
  |none=>exact rd
  |some _=>exact(show False from r).elim
 |some _=>cases u with
  |none=>exact(show False from r).elim
  |some _=>exact r
def KV.val{az:List (κ×V)}{vs:List (κ×Value)}(r:KV az vs)(k:κ):RelO (kJ az k) (WC vs k):=by
 unfold KV at r;induction r with
 |nil=>exact Td
 | @cons p q ps qs h t ih=>
   obtain⟨h1,h2⟩:=h;by_cases e:p.1=k
   ·have e':q.1=k:=h1.symm.trans e;have b:WC (q::qs) k=some q.2:=by simp[WC,TX,e']
    rw[kL e,b];exact h2
   ·have e':¬q.1=k:=λz=>e (h1.trans z);have b:WC (q::qs) k=WC qs k:=by simp[WC,TX,e']
    rw[kK e,b];exact ih
def KV.any{az:List (κ×V)}{vs:List (κ×Value)}(r:KV az vs)(k:κ):(az.any λkv=>decide (kv.1=k))=vs.any λkv=>decide (kv.1=k):=by
 unfold KV at r;induction r with
 |nil=>rfl
 |cons h t ih=>rw[Tt,Tt,ih,h.1]
def KV.repl{az:List (κ×V)}{vs:List (κ×Value)}(r:KV az vs)(k:κ){y:V}{u:Value}(ry:RelV y u):
 KV (az.map λkv=>if kv.1=k then(kv.1,y) else kv) (vs.map λkv=>if kv.1=k then(kv.1,u) else kv):=by
 unfold KV at r⊢;induction r with
 |nil=>exact .nil
 | @cons p q ps qs h t ih=>
   rw[QX,QX];refine .cons ?_ ih;obtain⟨h1,h2⟩:=h;by_cases e:p.1=k
   ·rw[XG e,XG (h1.symm.trans e)];exact⟨h1,ry⟩
   ·rw[XH e,XH (λz=>e (h1.trans z))];exact⟨h1,h2⟩
def KV.put{az:List (κ×V)}{vs:List (κ×Value)}(r:KV az vs)(k:κ){y:V}{u:Value}(ry:RelV y u):KV (putK az k y) (stored vs k u):=by
 unfold putK stored;rw[r.any k];by_cases e:(vs.any λkv=>decide (kv.1=k))=true
 ·rw[XG e,XG e];exact r.repl k ry
 ·rw[XH e,XH e];exact Paired.snoc r ⟨rfl,ry⟩
def KV.drop{az:List (κ×V)}{vs:List (κ×Value)}(r:KV az vs)(k:κ):KV (FI az k) (without vs k):=by
 unfold KV at r⊢;unfold FI without;induction r with
 |nil=>exact .nil
 | @cons p q ps qs h t ih=>
   obtain⟨h1,h2⟩:=h;rw[Sj,Sj];by_cases e:p.1=k
   ·have a:¬decide (p.1≠k)=true:=by simp[e]
    have b:¬decide (q.1≠k)=true:=by simp[h1.symm.trans e]
    rw[XH a,XH b];exact ih
   ·have e':¬q.1=k:=λz=>e (h1.trans z);have a:decide (p.1≠k)=true:=by simp[e]
    have b:decide (q.1≠k)=true:=by simp[e']
    rw[XG a,XG b];exact .cons ⟨h1,h2⟩ ih
def KV.length{az:List (κ×V)}{vs:List (κ×Value)}(r:KV az vs):az.length=vs.length:=SK r
end
def lW{P:Ru}{w:World}{k:Key}{u:Value}(r:RelV (kV k) u):(bc P w).is k u=true:=by
 cases k with
 |inl i=>obtain⟨t,e⟩:=(show∃t,u=WI i t from r);subst e;exact uE P w i t
 |inr x=>obtain⟨t,e⟩:=(show∃t,u=WH x t from r);subst e;exact uF P w x t
def qy{P:Ru}{w:World}:∀{ks:List Key}{us:List Value},Vals (ks.map kV) us->ItemsAre (bc P w) ks us
 |[],_,r=>by rw[TM] at r;cases r;exact .nil
 |k::ks,_,r=>by
  rw[QX] at r;cases r with
  |cons h t=>exact .cons (lW h) (qy t)
abbrev KT(H:Hp):List (List Key×V)->List (List Key×Addr×Value)->Prop:=VQ λp q=>p.1=q.1/\H q.2.1=some (.tup (p.1.map kV))/\RelV p.2 q.2.2
def KT.val{H:Hp}{az:List (List Key×V)}{xs:List (List Key×Addr×Value)}(r:KT H az xs)(k:List Key):RelO (kJ az k) ((atKey xs k).map (·.2)):=by
 induction r with
 |nil=>exact Td
 | @cons p q ps qs h t ih=>
   obtain⟨h1,_,h2⟩:=h;by_cases e:p.1=k
   ·have e':q.1=k:=h1.symm.trans e;have b:atKey (q::qs) k=some q.2:=by simp[atKey,TX,e']
    rw[kL e,b];exact h2
   ·have e':¬q.1=k:=λz=>e (h1.trans z);have b:atKey (q::qs) k=atKey qs k:=by simp[atKey,TX,e']
    rw[kK e,b];exact ih
def KT.repl{H:Hp}{az:List (List Key×V)}{xs:List (List Key×Addr×Value)}(r:KT H az xs)(k:List Key){y:V}{u:Value}(ry:RelV y u):
 KT H (az.map λkv=>if kv.1=k then(kv.1,y) else kv) (xs.map (putAt k u)):=by
 induction r with
 |nil=>exact .nil
 | @cons p q ps qs h t ih=>
   rw[QX,QX];refine .cons ?_ ih;obtain⟨h1,h2,h3⟩:=h;unfold putAt;by_cases e:p.1=k
   ·rw[XG e,XG (h1.symm.trans e)];exact⟨h1,h2,ry⟩
   ·rw[XH e,XH (λz=>e (h1.trans z))];exact⟨h1,h2,h3⟩
def KT.put{H:Hp}{az:List (List Key×V)}{xs:List (List Key×Addr×Value)}(r:KT H az xs)(k:List Key){b:Addr}{y:V}{u:Value}(hb:H b=some (.tup (k.map kV)))(ry:RelV y u):
 KT H (putK az k y) (U5 xs k b u):=by
 have e:(az.any λkv=>decide (kv.1=k))=(atKey xs k).isSome:=by
  rw[pk,(r.val k).isSome_eq,Vs]
 unfold putK U5;rw[e];by_cases q:(atKey xs k).isSome=true
 ·rw[XG q,XG q];exact r.repl k ry
 ·rw[XH q,XH q];exact Paired.snoc r ⟨rfl,hb,ry⟩
def KT.keeps{H H':Hp}{az:List (List Key×V)}{xs:List (List Key×Addr×Value)}(r:KT H az xs)(ht:∀b ys,H b=some (.tup ys)->H' b=some (.tup ys)):KT H' az xs:=
 Paired.mapP r λ_ _ z=>⟨z.1,ht _ _ z.2.1,z.2.2⟩
section
variable{P:Ru}{w:World}{H:Hp}{h:Heap}{a:Addr}
def Gg{u:HO}(ok:HOk P w H h)(e:Rd H a u):ObjOk P w H h a u:=e.ok ok
def lT{az:List (Key×V)}(ok:HOk P w H h)(e:Rd H a (.dK az)):az.length<=Q_/\(a==So)=false/\∃vs,KV az vs/\h.DictOf (bc P w) a vs:=
 show ObjOk P w H h a (.dK az) from Gg ok e
def FH{az:List (Key×V)}(ok:HOk P w H h)(e:H a=some (.dK az)):az.length<=Q_/\(a==So)=false/\∃vs,KV az vs/\h.DictOf (bc P w) a vs:=lT ok (.inl e)
def g0{ks:List Key}(ok:HOk P w H h)(e:H a=some (.tup (ks.map kV))):(Tn (bc P w)).is h ks a:=by
 obtain⟨_,aE,r,o,h1,h2,n,h3⟩:=(show ObjOk P w H h a (.tup (ks.map kV)) from ok a _ e)
 exact⟨o,aE.toArray,n,h1,h2,h3,by simpa using qy r⟩
def jR{az:List (List Key×V)}(ok:HOk P w H h)(e:Rd H a (.dT az)):az.length<=Q_/\(a==So)=false/\
 ∃xs,KT H az xs/\h.DictOfH (Tn (bc P w)) a xs:=by
 obtain⟨z,y,xs,r,o,es,ep,h1,h2,h3,h4,h5⟩:=(show ObjOk P w H h a (.dT az) from Gg ok e)
 refine⟨z,y,xs,r,o,es,ep,h1,h2,h3,h4,λx hx=>?_,h5⟩;have all:∀{l:List (List Key×V)}{m:List (List Key×Addr×Value)},KT H l m->∀x∈m,(Tn (bc P w)).is h x.1 x.2.1:=by
  intro l m q;induction q with
  |nil=>intro x hx;exact nomatch hx
  | @cons p q ps qs hq t ih=>
    intro x hx;rcases Q9.mp hx with e | hx
    ·subst e;exact g0 ok (by rw[<-hq.1];exact hq.2.1)
    ·exact ih x hx
 exact all r x hx
def AQ{az:List (List Key×V)}(ok:HOk P w H h)(e:H a=some (.dT az)):az.length<=Q_/\(a==So)=false/\
 ∃xs,KT H az xs/\h.DictOfH (Tn (bc P w)) a xs:=jR ok (.inl e)
end
def jk(H:Hp)(a:Addr)(y:V)(r:Option V):Prop:=
 (∃az k,Rd H a (.dK az)/\y=kV k/\r=kJ az k)\/∃az k b,Rd H a (.dT az)/\y= .ref b/\H b=some (.tup (k.map kV))/\r=kJ az k
def DPut(H:Hp)(a:Addr)(y v:V)(H':Hp):Prop:=
 (∃az k,H a=some (.dK az)/\y=kV k/\az.length<Q_/\H'=upd H a (.dK (putK az k v)))\/
 ∃az k b,H a=some (.dT az)/\y= .ref b/\H b=some (.tup (k.map kV))/\az.length<Q_/\H'=upd H a (.dT (putK az k v))
def DPut.k{H:Hp}{a:Addr}{az:List (Key×V)}{k:Key}{v:V}(e:H a=some (.dK az))(hl:az.length<Q_):DPut H a (kV k) v (upd H a (.dK (putK az k v))):= .inl ⟨az,k,e,rfl,hl,rfl⟩
def DPut.t{H:Hp}{a b:Addr}{az:List (List Key×V)}{k:List Key}{v:V}(e:H a=some (.dT az))(eb:H b=some (.tup (k.map kV)))(hl:az.length<Q_):
 DPut H a (.ref b) v (upd H a (.dT (putK az k v))):= .inr ⟨az,k,b,e,rfl,eb,hl,rfl⟩
section
variable{X:Cx}{f8:List (Addr×Obj)}{σ:St}{H:Hp}{s:QT}{a:Addr}{y v:V}{u r:Value}{o:Option V}{A:RQ}{E:Value->QT->Prop}
def Inv.big(I:Inv X f8 σ H s):So<s.heap.objs.size:=by
 have h:Rm<s.heap.objs.size:=(I.mod.glob.keeps I.bk).lt;exact S7 (by decide) h
def zc{Q:Value->QT->Prop}(hu:A.units+1<cLine)(I:Inv X f8 σ H s)(g:jk H a y (some v))(ry:RelV y u)(h:∀w' s',Inv X f8 σ H s'->RelV v w'->Q w' s'):
 wpAny (model X.prog X.w) A (Xk (.ref a) u) Q E s:=by
 rcases g with⟨az,k,e,ey,l⟩ | ⟨az,k,b,e,ey,eb,l⟩
 ·subst ey;obtain⟨z,hd,vs,rel,dd⟩:=lT I.hok e;obtain⟨w',hw,vN⟩:=RelO.some_of (v:=v) (o:=WC vs k) (by rw[l];exact rel.val k);exact wpAny_getItem_of (lW ry) dd.mapOf hw (h w' _ (I.tok _) vN)
 ·subst ey;cases (show u=Rc b from ry);obtain⟨z,hd,xs,rel,dd⟩:=jR I.hok e;obtain⟨w',hw,vN⟩:=RelO.some_of (v:=v) (o:=(atKey xs k).map (·.2)) (by rw[l];exact rel.val k);obtain⟨p,hp,MB⟩:=Option.map_eq_some_iff.mp hw;refine wpAny_getItem_heap (Tq hu) (g0 I.hok eb) dd hp ?_;rw[MB];exact h w' _ (I.tok _) vN
def Jp{Q:Value->QT->Prop}(hu:A.units+1<cLine)(I:Inv X f8 σ H s)(g:jk H a y o)(ry:RelV y u)(h:∀s',Inv X f8 σ H s'->Q (.bool o.isSome) s'):
 wpAny (model X.prog X.w) A (R_ .In u (.ref a)) Q E s:=by
 rcases g with⟨az,k,e,ey,l⟩ | ⟨az,k,b,e,ey,eb,l⟩
 ·subst ey;obtain⟨z,hd,vs,rel,dd⟩:=lT I.hok e;refine wpAny_in_of (lW ry) hd dd.mapOf ?_;rw[<-(rel.val k).isSome_eq,<-l];exact h _ (I.tok _)
 ·subst ey;cases (show u=Rc b from ry);obtain⟨z,hd,xs,rel,dd⟩:=jR I.hok e;refine wpAny_in_heap (Tq hu) (g0 I.hok eb) hd dd ?_;have q:=(rel.val k).isSome_eq;rw[Vs] at q;rw[<-q,<-l];exact h _ (I.tok _)
def DL{Q:Value->QT->Prop}(hu:A.units+1<cLine)(I:Inv X f8 σ H s)(g:jk H a y o)(ry:RelV y u)(h:∀s',Inv X f8 σ H s'->Q (.bool (!o.isSome)) s'):
 wpAny (model X.prog X.w) A (R_ .NotIn u (.ref a)) Q E s:=by
 rcases g with⟨az,k,e,ey,l⟩ | ⟨az,k,b,e,ey,eb,l⟩
 ·subst ey;obtain⟨z,hd,vs,rel,dd⟩:=lT I.hok e;refine wpAny_notIn_of (lW ry) hd dd.mapOf ?_;rw[<-(rel.val k).isSome_eq,<-l];exact h _ (I.tok _)
 ·subst ey;cases (show u=Rc b from ry);obtain⟨z,hd,xs,rel,dd⟩:=jR I.hok e;refine wpAny_notIn_heap (Tq hu) (g0 I.hok eb) hd dd ?_;have q:=(rel.val k).isSome_eq;rw[Vs] at q;rw[<-q,<-l];exact h _ (I.tok _)
def jQ{h':Heap}{t':Nat}{ob:HO}(I:Inv X f8 σ H s)(mu:Jh (H a))(hs:R9 a s.heap h')(he:∃q,h'.get? a=some q)(new:ObjOk X.prog X.w (upd H a ob) h' a ob):
 Inv X f8 σ (upd H a ob) {s with heap:=h',toks:=t'}:=
 I.write (x:=a) (e:=a) mu (.inl rfl) (λb q hb z=>(hs.2 b hb).trans z) he new
def AO{P:Ru}{w:World}{H':Hp}{h':Heap}{az:List (Key×V)}{vs:List (Key×Value)}(z:az.length<=Q_)(hd:(a==So)=false)(rel:KV az vs)(dd:h'.DictOf (bc P w) a vs):
 ObjOk P w H' h' a (.dK az):=⟨z,hd,vs,rel,dd⟩
def zd{H':Hp}{Q:Unit->QT->Prop}(hu:A.units+1<cLine)(I:Inv X f8 σ H s)(g:DPut H a y v H')(ry:RelV y u)(rv:RelV v r)(h:∀s',Inv X f8 σ H' s'->Q () s'):
 wpAny (model X.prog X.w) A (setItem (.ref a) u r) Q E s:=by
 rcases g with⟨az,k,e,ey,l,eH⟩ | ⟨az,k,b,e,ey,eb,l,eH⟩
 ·subst ey eH;obtain⟨z,hd,vs,rel,dd⟩:=FH I.hok e;have hz:vs.length<=Q_:=by rw[<-rel.length];exact z
  have hl:(putK az k v).length<=Q_:=by have:=eh az k v;omega
  refine wpAny_setItem_pairs (hsz:=hz) (lW ry) dd λh' AJ hs=>h _ ?_;have he:∃q,h'.get? a=some q:=let ⟨q,_,_,hq,_⟩:=AJ;⟨q,hq⟩
  exact jQ I (by rw[e];exact Td) hs he (AO hl hd (rel.put k rv) AJ)
 ·subst ey eH;cases (show u=Rc b from ry);obtain⟨z,hd,xs,rel,dd⟩:=AQ I.hok e;have hz:xs.length<=Q_:=by rw[<-SK rel];exact z
  have hl:(putK az k v).length<=Q_:=by have:=eh az k v;omega
  refine wpAny_setItem_heap (hsz:=hz) (Tq hu) (g0 I.hok eb) dd λh' AJ hs=>h _ ?_;obtain⟨q,es,ep,hq,h2,h3,h4,_,h5⟩:=AJ;refine jQ I (by rw[e];exact Td) hs ⟨q,hq⟩ ⟨hl,hd,_,(rel.put k eb rv).keeps λc ys ec=>?_,q,es,ep,hq,h2,h3,h4,h5⟩;rw[ay (BK ec e (λz=>nomatch z))];exact ec
end
def Gn(i:Expr):Prop:=∀ov iv,subscripted i false ov iv=operate [ov,iv] (Xk ov iv)
def Fm{prog:Ru}{w:World}{A:RQ}{E:Value->QT->Prop}{s:QT}{env:Env}{value slice:Expr}{pos:Pos}{T id:String}{Q:Value->QT->Prop}
 (hl:W_ (.type T) "__getitem__"=pure (some (.builtin id)))(hs:Gn slice)
 (h:wpAny (model prog w) A (eval value env) (λo v0=>wpAny (model prog w) A (eval slice env) (λi t0=>t0.TypeIs o T/\wpAny (model prog w) A (Xk o i) Q E t0) E v0) E s):
 wpAny (model prog w) A (eval (.Subscript value slice pos) env) Q E s:=by
 refine Subscript_ (R8 h (λo v0 h₁=>R8 h₁ (λi t0 XT=>?_) λ_ _ x=>x) λ_ _ x=>x);obtain⟨hT,XT⟩:=XT;unfold subscriptTail;refine QL ?_;rw[getitemInPython_of_ne hT.not_modules];refine QL (T_ hT hl ?_);have fin:wpAny (model prog w) A (subscripted slice false o i) (λr XX=>wpAny (model prog w) A (letTemporaryGo value o r>>=λ_=>pure r) Q E XX) E t0:=by
  rw[hs o i];exact wpAny_operating (R8 XT (λr XX XU=>QL (wpAny_letTemporaryGo (QP XU))) λ_ _ x=>x)
 first
  |exact QP (QL fin)
  |exact QL (QP (QL fin))
  |exact QL fin
def t9{X:Cx}{f8:List (Addr×Obj)}{σ:St}{H:Hp}{s:QT}{a:Addr}{y:V}{o:Option V}(I:Inv X f8 σ H s)(g:jk H a y o):s.TypeIs (.ref a) "dict":=by
 rcases g with⟨az,k,e,_,_⟩ | ⟨az,k,b,e,_,_,_⟩
 ·obtain⟨_,_,vs,_,dd⟩:=lT I.hok e;exact dd.typeIs
 ·obtain⟨_,_,xs,_,dd⟩:=jR I.hok e;exact dd.typeIs
def K7(td ty:TE):TE:=λσ H Q=>td σ H λx H1=>ty σ H1 λy H2=>∃a v,x= .ref a/\jk H2 a y (some v)/\Q v H2
def Nl(ty td:TE):TE:=λσ H Q=>ty σ H λy H1=>td σ H1 λx H2=>∃a o,x= .ref a/\jk H2 a y o/\Q (.bl o.isSome) H2
def K2(td ty tv:TE):TS:=λD σ H=>tv σ H λv H1=>td σ H1 λx H2=>ty σ H2 λy H3=>∃a H4,x= .ref a/\DPut H3 a y v H4/\D.nx σ H4
section
variable{X:Cx}{o i value:Expr}{pos pos':Pos}{td ty tv:TE}
def ET(hu:X.A.units+1<cLine)(ho:PE X o td)(hi:PE X i ty)(hs:Gn i):PE X (.Subscript o i pos) (K7 td ty):=by
 intro f8 s σ H Q I h;refine Fm PySem.F.slot_dict_getitem.lookup hs (b7 (ho f8 s σ H _ I h) λu s1 ⟨x,H1,I1,rx,q1⟩=>b7 (hi f8 s1 σ H1 _ I1 q1) λiv s2 ⟨y,H2,I2,ry,a,v,ex,g,q2⟩=>?_);subst ex;obtain rfl:u=Rc a:=rx;exact⟨t9 I2 g,zc hu I2 g ry λw' s3 I3 vN=>⟨v,H2,I3,vN,q2⟩⟩
def HE(hu:X.A.units+1<cLine)(hi:PE X i ty)(ho:PE X o td):PC X .In i o (Nl ty td):=by
 intro f8 s σ H Q I h;refine b7 (hi f8 s σ H _ I h) λiv s1 ⟨y,H1,I1,ry,q1⟩=>b7 (ho f8 s1 σ H1 _ I1 q1) λu s2 ⟨x,H2,I2,rx,a,ov,ex,g,q2⟩=>?_;subst ex;obtain rfl:u=Rc a:=rx;exact Jp hu I2 g ry λs3 I3=>⟨.bl ov.isSome,H2,I3,rfl,q2⟩
def E0(hu:X.A.units+1<cLine)(ho:PE X o td)(hi:PE X i ty)(hv:PE X value tv)(hs:UW value (some (.Subscript o i pos')) pos.line X.env=pure false):
 PS X (.Assign [.Subscript o i pos'] value pos) (K2 td ty tv):=by
 intro f8 s σ H D I h;refine wpAny_Assign_Subscript (b7 (hv f8 s σ H _ I h) λr s1 ⟨v,H1,I1,rv,q1⟩=>b7 (ho f8 s1 σ H1 _ I1 q1) λu s2 ⟨x,H2,I2,rx,q2⟩=>b7 (hi f8 s2 σ H2 _ I2 q2) λiv s3 ⟨y,H3,I3,ry,a,H4,ex,g,q3⟩=>?_) hs;subst ex;obtain rfl:u=Rc a:=rx;exact zd hu I3 g ry rv λs4 I4=>⟨σ,H4,I4,q3⟩
end
def t_{P:Ru}{w:World}{H:Hp}(h:Heap)(hb:So<h.objs.size):ObjOk P w H (h.push {cls:= .type "dict",data:= .dict #[]}) h.objs.size (.dT []):=
 ⟨Ry _,XS.mpr (R3 (Rl hb)),[], .nil,_,#[],0,Q3 _ rfl,⟨rfl,rfl,rfl⟩,rfl,rfl,Ua⟩
def Iz:TE:=λ_ H Q=>∀p,H p=none->Q (.ref p) (upd H p (.dT []))
section
variable{X:Cx}{pos:Pos}
def Ce:PE X (.Dict [] [] pos) Iz:=λf8 s σ H Q I h=>
 wpAny_Dict_empty ⟨.ref s.heap.objs.size,_,I.laid (a:=s.heap.objs.size) (o:= .dT []) (t':=s.toks) (λ_ _ q=>QO _ q) (Q0 _) (t_ s.heap I.big),rfl,h _ (I.hok.fresh (Q0 _))⟩
end
def C4:List (TE×TE)->St->Hp->(List (V×V)->Hp->Prop)->Prop
 |[],_,H,Q=>Q [] H
 |(tk,tv)::r,σ,H,Q=>tk σ H λx H1=>tv σ H1 λy H2=>C4 r σ H2 λps H3=>Q ((x,y)::ps) H3
abbrev VV:List (V×V)->List (Value×Value)->Prop:=VQ λp q=>RelV p.1 q.1/\RelV p.2 q.2
def LY(X:Cx)(pos:Pos)(keys:List (Option Expr))(values:List Expr)(LP:List (TE×TE)):Prop:=
 ∀(f8:List (Addr×Obj)) (s:QT) (σ:St) (H:Hp) (Q:List (V×V)->Hp->Prop),Inv X f8 σ H s->C4 LP σ H Q->
  wpAny (model X.prog X.w) X.A (evalPairs (pairTrees keys values X.env pos)) (λvs s'=>∃ps H',Inv X f8 σ H' s'/\VV ps vs/\Q ps H') X.xe s
def EY{X:Cx}{pos:Pos}:LY X pos [] [] []:=λf8 s σ H Q I h=>pairTrees_nil_walk ⟨[],H,I, .nil,h⟩
def Cg{X:Cx}{pos:Pos}{k v:Expr}{ks:List (Option Expr)}{vs:List Expr}{tk tv:TE}{LP:List (TE×TE)}(hk:PE X k tk)(hv:PE X v tv)(hr:LY X pos ks vs LP):
 LY X pos (some k::ks) (v::vs) ((tk,tv)::LP):=λf8 s σ H Q I h=>
 pairTrees_cons_walk (b7 (hk f8 s σ H _ I h) λu s1 ⟨x,H1,I1,rx,q1⟩=>b7 (hv f8 s1 σ H1 _ I1 q1) λw2 s2 ⟨y,H2,I2,ry,q2⟩=>
  b7 (hr f8 s2 σ H2 _ I2 q2) λws s3 ⟨ps,H3,I3,rel,q3⟩=>⟨(x,y)::ps,H3,I3, .cons ⟨rx,ry⟩ rel,q3⟩)
structure M1 (X:Cx) (o:Expr) (m:Str) (v4:Pos) (e:Expr) (a6:Pos):Prop where
 base:SX o m X.env (eval o X.env)=eval o X.env
 few:((Tr a6 (Q8 [e] X.env)).all (λx=>!x.1)&&(U7 a6 (T2 [] X.env)).all (λx=>x.1.isSome)
  &&decide (([e]:List Expr).length+([]:List TN).length+(if ([]:List TN).isEmpty then 0 else 1)<30))=true
 line:(v4.endLine==a6.line)=true
 trees:Tr a6 (Q8 [e] X.env)=[(false,eval e X.env)]
structure M2 (X:Cx) (o:Expr) (m:Str) (v4:Pos) (e f:Expr) (a6:Pos):Prop where
 base:SX o m X.env (eval o X.env)=eval o X.env
 few:((Tr a6 (Q8 [e,f] X.env)).all (λx=>!x.1)&&(U7 a6 (T2 [] X.env)).all (λx=>x.1.isSome)
  &&decide (([e,f]:List Expr).length+([]:List TN).length+(if ([]:List TN).isEmpty then 0 else 1)<30))=true
 line:(v4.endLine==a6.line)=true
 trees:Tr a6 (Q8 [e,f] X.env)=[(false,eval e X.env),(false,eval f X.env)]
def Jc(H:Hp)(a:Addr):Prop:=(∃az,Rd H a (.dK az))\/∃az,Rd H a (.dT az)
def wq{X:Cx}{f8:List (Addr×Obj)}{σ:St}{H:Hp}{s:QT}{a:Addr}(I:Inv X f8 σ H s)(d:Jc H a):
 s.TypeIs (.ref a) "dict"/\(∀b,Rc a= .ref b->∃ob,s.heap.get? b=some ob/\ob.dict=none)/\(a==So)=false:=by
 rcases d with⟨az,e⟩ | ⟨az,e⟩
 ·obtain⟨_,hd,vs,_,dd⟩:=lT I.hok e;refine⟨dd.typeIs,λb q=>?_,hd⟩;cases q;obtain⟨ob,_,_,h1,h2,_⟩:=dd;exact⟨ob,h1,h2.2.1⟩
 ·obtain⟨_,hd,xs,_,dd⟩:=jR I.hok e;refine⟨dd.typeIs,λb q=>?_,hd⟩;cases q;obtain⟨ob,_,_,h1,h2,_⟩:=dd;exact⟨ob,h1,h2.2.1⟩
section
variable{X:Cx}{f8:List (Addr×Obj)}{σ:St}{H:Hp}{s:QT}{a:Addr}{y d:V}{u r:Value}{o:Option V}{A:RQ}{E:Value->QT->Prop}
def Gz{Q:Value->QT->Prop}(hu:A.units+1<cLine)(I:Inv X f8 σ H s)(g:jk H a y o)(ry:RelV y u)(h:∀w' s',Inv X f8 σ H s'->RelV (o.getD .non) w'->Q w' s'):
 wpAny (model X.prog X.w) A (call (.builtin "dict.get") [.ref a,u]) Q E s:=by
 rcases g with⟨az,k,e,ey,l⟩ | ⟨az,k,b,e,ey,eb,l⟩
 ·subst ey;obtain⟨z,hd,vs,rel,dd⟩:=lT I.hok e;refine Wh SJ dd.typeIs TR (V_ _ _) (meets_dict_get (bc X.prog X.w) a (lW ry) hd) ⟨_,dd.mapOf,h _ _ (I.tok _) ?_⟩;rw[l];exact(rel.val k).getD rfl
 ·subst ey;cases (show u=Rc b from ry);obtain⟨z,hd,xs,rel,dd⟩:=jR I.hok e;refine Wh SJ dd.typeIs TR (V_ _ _) (meetsH_dict_get (Tn (bc X.prog X.w)) a b hd) ⟨Tq hu,k,xs,g0 I.hok eb,dd,h _ _ (I.tok _) ?_⟩;rw[l];exact(rel.val k).getD rfl
def GA{Q:Value->QT->Prop}(hu:A.units+1<cLine)(I:Inv X f8 σ H s)(g:jk H a y o)(ry:RelV y u)(rd:RelV d r)(h:∀w' s',Inv X f8 σ H s'->RelV (o.getD d) w'->Q w' s'):
 wpAny (model X.prog X.w) A (call (.builtin "dict.get") [.ref a,u,r]) Q E s:=by
 rcases g with⟨az,k,e,ey,l⟩ | ⟨az,k,b,e,ey,eb,l⟩
 ·subst ey;obtain⟨z,hd,vs,rel,dd⟩:=lT I.hok e;refine Wh SJ dd.typeIs TR (V9 _ _ _) (meets_dict_get_default (bc X.prog X.w) a (lW ry) hd r) ⟨_,dd.mapOf,h _ _ (I.tok _) ?_⟩;rw[l];exact(rel.val k).getD rd
 ·subst ey;cases (show u=Rc b from ry);obtain⟨z,hd,xs,rel,dd⟩:=jR I.hok e;refine Wh SJ dd.typeIs TR (V9 _ _ _) (meetsH_dict_get_default (Tn (bc X.prog X.w)) a b hd r) ⟨Tq hu,k,xs,g0 I.hok eb,dd,h _ _ (I.tok _) ?_⟩;rw[l];exact(rel.val k).getD rd
end
def Iw(td ty:TE):TE:=λσ H Q=>td σ H λx H1=>∃a,x= .ref a/\Jc H1 a/\ty σ H1 λy H2=>∃o,jk H2 a y o/\Q (o.getD .non) H2
def Iy(td ty tx:TE):TE:=λσ H Q=>td σ H λx H1=>∃a,x= .ref a/\Jc H1 a/\ty σ H1 λy H2=>tx σ H2 λz H3=>∃o,jk H3 a y o/\Q (o.getD z) H3
section
variable{X:Cx}{o e f:Expr}{v4 a6:Pos}{td ty tx:TE}
def Cc(hu:X.A.units+1<cLine)(ho:PE X o td)(he:PE X e ty)(m:M1 X o "get" v4 e a6):PE X (.Call (.Attribute o "get" v4) [e] [] a6) (Iw td ty):=by
 intro f8 s σ H Q I h;refine V4 m.base m.few m.line TL SJ Wv (b7 (ho f8 s σ H _ I h) λu s1 ⟨x,H1,I1,rx,a,ex,d,q1⟩=>?_);subst ex;obtain rfl:u=Rc a:=rx;obtain⟨t1,t2,_⟩:=wq I1 d;refine⟨t1,t2,?_⟩;rw[m.trees];refine Te rfl (Uj (Tf (b7 (he f8 s1 σ H1 _ I1 q1) λiv s2 ⟨y,H2,I2,ry,ov,g,q2⟩=>T8 ?_)));exact Gz hu I2 g ry λw' s3 I3 vN=>⟨_,H2,I3,vN,q2⟩
def Cd(hu:X.A.units+1<cLine)(ho:PE X o td)(he:PE X e ty)(hf:PE X f tx)(m:M2 X o "get" v4 e f a6):PE X (.Call (.Attribute o "get" v4) [e,f] [] a6) (Iy td ty tx):=by
 intro f8 s σ H Q I h;refine V4 m.base m.few m.line TL SJ Wv (b7 (ho f8 s σ H _ I h) λu s1 ⟨x,H1,I1,rx,a,ex,d,q1⟩=>?_);subst ex;obtain rfl:u=Rc a:=rx;obtain⟨t1,t2,_⟩:=wq I1 d;refine⟨t1,t2,?_⟩;rw[m.trees];refine Te rfl (Uj (Tf (b7 (he f8 s1 σ H1 _ I1 q1) λiv s2 ⟨y,H2,I2,ry,q2⟩=>
  Tf (b7 (hf f8 s2 σ H2 _ I2 q2) λfv s3 ⟨z,H3,I3,rz,ov,g,q3⟩=>T8 ?_))))
 exact GA hu I3 g ry rz λw' s4 I4 vN=>⟨_,H3,I4,vN,q3⟩
end
end L2
namespace L3
open PySem PySem.Spec L2
open PyProof.Rows hiding St
inductive Rs (α:Type) where
 |ok (a:α) | ex (n:Nat)
def M(α:Type):=Option (Rs α)
def aa(a:α):M α:=some (.ok a)
def M.bind(m:M α)(k:α->M β):M β:=match m with
 |none=>none
 |some (.ex n)=>some (.ex n)
 |some (.ok a)=>k a
def af:M α:=none
def mW(n:Nat):M α:=some (.ex n)
instance:Monad M where
 pure:=aa
 bind:=M.bind
@[simp] def au{α β:Type}(a:α)(k:α->M β):(aa a>>=k)=k a:=rfl
@[simp] def Gu{α β:Type}(a:α)(k:α->M β):((pure a:M α)>>=k)=k a:=rfl
@[simp] def Gv{α β:Type}(n:Nat)(k:α->M β):(mW n>>=k)=mW n:=rfl
@[simp] def Gw{α β:Type}(k:α->M β):((af:M α)>>=k)=af:=rfl
def M.cs(m:M α):m=af\/(∃n,m=mW n)\/∃a,m=aa a:=by
 match m with
 |none=>exact .inl rfl
 |some (.ex n)=>exact .inr (.inl ⟨n,rfl⟩)
 |some (.ok a)=>exact .inr (.inr ⟨a,rfl⟩)
def eL(h:aa a=aa b):a=b:=by
 have h:some (Rs.ok a)=some (Rs.ok b):=h;cases h;rfl
def fk(h:af=aa a):False:=by
 have h:none=some (Rs.ok a):=h;cases h
def Cw(h:mW n=aa a):False:=by
 have h:some (Rs.ex n)=some (Rs.ok a):=h;cases h
def gn(h:(m>>=k)=aa r):∃a,m=aa a/\k a=aa r:=by
 rcases m.cs with e | ⟨n,e⟩ | ⟨a,e⟩
 ·subst e;exact(fk h).elim
 ·subst e;exact(Cw h).elim
 ·subst e;exact⟨a,rfl,h⟩
def Jd(h:Heap)(ea D:Addr):Prop:=∃ox,h.get? ea=some ox/\ox.cls= .ref D
def OH(ea D:Addr):HO:= .ext λh=>Jd h ea D
inductive D where
 |non | bl (b:Bool) | int (i:Int) | str (x:Str) | raw (v:V) | exc (C:Addr) | scr (l:List Int) | tup (l:List D) | lst (l:List D)
 |dct (ks:List (List Key)) (l:List D) | dci (ks:List Key) (l:List D)
instance:Inhabited D:=⟨.non⟩
def lim:Nat:=4096
def d3:lim<Q_:=by rw[SA];decide
mutual
def Den(K:QZ)(F:Hp):D->V->Prop
 | .non,v=>v= .non
 | .bl b,v=>v= .bl b
 | .int i,v=>v= .int i
 | .str x,v=>v= .str x/\x.length<=lim
 | .raw u,v=>v=u
 | .exc C,v=>∃ea,v= .ref ea/\F ea=some (OH ea C)
 | .scr ns,v=>∃a,v= .ref a/\SqL K F a (ns.map V.int)/\ns.length<=lim
 | .tup ds,v=>∃a vs,v= .ref a/\F a=some (.tup vs)/\DenL K F ds vs/\ds.length<=lim
 | .lst ds,v=>∃a vs,v= .ref a/\F a=some (.lst vs)/\DenL K F ds vs/\ds.length<=lim
 | .dct ks ds,v=>∃a ob vs,v= .ref a/\F a=some (.frz ob (.dT (ks.zip vs)))/\DenL K F ds vs/\ks.length=ds.length/\ds.length<=lim
 | .dci ks ds,v=>∃a ob vs,v= .ref a/\F a=some (.frz ob (.dK (ks.zip vs)))/\DenL K F ds vs/\ks.length=ds.length/\ds.length<=lim
def DenL(K:QZ)(F:Hp):List D->List V->Prop
 |[],vs=>vs=[]
 |d::ds,vs=>∃v r,vs=v::r/\Den K F d v/\DenL K F ds r
end
def Same.rd(e:Same H H')(h:Rd H a u):Rd H' a u:=by
 rcases h with h | ⟨o,h⟩
 ·exact .inl (e _ _ h)
 ·exact .inr ⟨o,e _ _ h⟩
def Same.tup{K:QZ}(e:Same H H')(h:SqT K H a xs):SqT K H' a xs:=by
 rcases h with h | h
 ·exact .inl (Same.rd e h)
 ·exact .inr h
section
variable{K:QZ}{F F':Hp}
mutual
def Den.mono(e:Same F F'):∀{d:D}{v:V},Den K F d v->Den K F' d v
 | .non,_,h=>h
 | .bl _,_,h=>h
 | .int _,_,h=>h
 | .str _,_,h=>h
 | .raw _,_,h=>h
 | .exc _,_,⟨a,h1,h2⟩=>⟨a,h1,e _ _ h2⟩
 | .scr _,_,⟨a,h1,h2,h3⟩=>⟨a,h1,Same.seq e h2,h3⟩
 | .tup _,_,⟨a,vs,h1,h2,h3,h4⟩=>⟨a,vs,h1,e _ _ h2,DenL.mono e h3,h4⟩
 | .lst _,_,⟨a,vs,h1,h2,h3,h4⟩=>⟨a,vs,h1,e _ _ h2,DenL.mono e h3,h4⟩
 | .dct _ _,_,⟨a,ob,vs,h1,h2,h3,h4⟩=>⟨a,ob,vs,h1,e _ _ h2,DenL.mono e h3,h4⟩
 | .dci _ _,_,⟨a,ob,vs,h1,h2,h3,h4⟩=>⟨a,ob,vs,h1,e _ _ h2,DenL.mono e h3,h4⟩
def DenL.mono(e:Same F F'):∀{ds:List D}{vs:List V},DenL K F ds vs->DenL K F' ds vs
 |[],_,h=>h
 |_::_,_,⟨v,r,h1,h2,h3⟩=>⟨v,r,h1,Den.mono e h2,DenL.mono e h3⟩
end
def DenL.nil:DenL K F [] []:=rfl
def DenL.cons(h:Den K F d v)(r:DenL K F ds vs):DenL K F (d::ds) (v::vs):=⟨v,vs,rfl,h,r⟩
def DenL.len:∀{ds:List D}{vs:List V},DenL K F ds vs->ds.length=vs.length
 |[],_,h=>by cases (show _=_ from h);rfl
 |_::ds,_,⟨v,r,h1,_,h3⟩=>by subst h1;rw[QV,QV,DenL.len h3]
def DenL.get:∀{ds:List D}{vs:List V}{i:Nat}{d:D},DenL K F ds vs->ds[i]? =some d->∃v,vs[i]? =some v/\Den K F d v
 |[],_,_,_,_,e=>by simp at e
 |d::ds,_,0,_,⟨v,r,h1,h2,h3⟩,e=>by subst h1;simp at e;subst e;exact⟨v,rfl,h2⟩
 |d::ds,_,i+1,_,⟨v,r,h1,h2,h3⟩,e=>by
  subst h1;obtain⟨w,e1,e2⟩:=DenL.get h3 (by simpa using e);exact⟨w,by simpa using e1,e2⟩
def DenL.at:∀{ds:List D}{vs:List V}{i:Nat}{v:V},DenL K F ds vs->vs[i]? =some v->∃d,ds[i]? =some d/\Den K F d v
 |[],_,_,_,h,e=>by cases (show _=_ from h);simp at e
 |d::ds,_,0,_,⟨v,r,h1,h2,h3⟩,e=>by subst h1;simp at e;subst e;exact⟨d,rfl,h2⟩
 |d::ds,_,i+1,_,⟨v,r,h1,h2,h3⟩,e=>by
  subst h1;obtain⟨w,e1,e2⟩:=DenL.at h3 (by simpa using e);exact⟨w,by simpa using e1,e2⟩
def DenL.append:∀{ds es:List D}{vs ws:List V},DenL K F ds vs->DenL K F es ws->DenL K F (ds++es) (vs++ws)
 |[],_,_,_,h,h'=>by cases (show _=_ from h);exact h'
 |d::ds,_,_,_,⟨v,r,h1,h2,h3⟩,h'=>by subst h1;exact⟨v,_,rfl,h2,DenL.append h3 h'⟩
def DenL.take:∀{ds:List D}{vs:List V}(n:Nat),DenL K F ds vs->DenL K F (ds.take n) (vs.take n)
 |_,_,0,_=>by simp[List.take];rfl
 |[],_,_+1,h=>by cases (show _=_ from h);rfl
 |d::ds,_,n+1,⟨v,r,h1,h2,h3⟩=>by subst h1;exact⟨v,_,rfl,h2,DenL.take n h3⟩
def DenL.drop:∀{ds:List D}{vs:List V}(n:Nat),DenL K F ds vs->DenL K F (ds.drop n) (vs.drop n)
 |_,_,0,h=>by simpa using h
 |[],_,_+1,h=>by cases (show _=_ from h);rfl
 |d::ds,_,n+1,⟨v,r,h1,h2,h3⟩=>by subst h1;exact DenL.drop n h3
def DenL.reverse:∀{ds:List D}{vs:List V},DenL K F ds vs->DenL K F ds.reverse vs.reverse
 |[],_,h=>by cases (show _=_ from h);rfl
 |d::ds,_,⟨v,r,h1,h2,h3⟩=>by
  subst h1;rw[XC,XC];exact DenL.append (DenL.reverse h3) (.cons h2 .nil)
def DenL.ints(ns:List Int):DenL K F (ns.map D.int) (ns.map V.int):=by
 induction ns with
 |nil=>rfl
 |cons n ns ih=>exact .cons rfl ih
end
structure Ext (F H F' H':Hp):Prop where
 hh:Same H H'
 ff:Same F F'
 fh:Same F' H'
 new:∀a,H a≠none->F' a=F a\/∃ts,H a=some (.tup ts)
def Ext.old(e:Ext F H F' H')(h:H a=some o)(hn:∀ts,o≠ .tup ts):F' a=F a:=by
 rcases e.new a (by rw[h];exact λz=>nomatch z) with q | ⟨ts,q⟩
 ·exact q
 ·rw[h] at q;cases q;exact XN rfl (hn ts)
def Ext.refl(h:Same F H):Ext F H F H:=⟨Same.refl _,Same.refl _,h,λ_ _=> .inl rfl⟩
def Ext.trans(a:Ext F H F' H')(b:Ext F' H' F'' H''):Ext F H F'' H'':=
 ⟨a.hh.trans b.hh,a.ff.trans b.ff,b.fh,λc hc=>by
  have:H' c≠none:=by
   cases q:H c with
   |none=>exact XN q hc
   |some o=>rw[a.hh c o q];exact λz=>nomatch z
  rcases a.new c hc with p | p
  ·rcases b.new c this with q | ⟨ts,q⟩
   ·exact .inl (q.trans p)
   ·cases z:H c with
    |none=>exact XN z hc
    |some o=>
     rw[a.hh c o z] at q;exact .inr ⟨ts,q⟩
  ·exact .inr p⟩
def Ext.lay(h:Same F H)(n:H a=none):Ext F H (upd F a o) (upd H a o):=by
 have nf:F a=none:=Same.free h n;refine⟨λb u e=>?_,λb u e=>?_,λb u e=>?_,λb hb=>?_⟩
 ·rw[ay (bf e n)];exact e
 ·rw[ay (bf e nf)];exact e
 ·by_cases q:b=a
  ·subst q;rw[aJ] at e⊢;exact e
  ·rw[ay q] at e⊢;exact h b u e
 ·exact .inl (ay λz=>hb (by rw[z];exact n))
def Ext.free(h:Same F H)(n:H a=none):Ext F H F (upd H a o):=
 ⟨λb u e=>by rw[ay (bf e n)];exact e,Same.refl _,λb u e=>by rw[ay (bf (h b u e) n)];exact h b u e,λ_ _=> .inl rfl⟩
def Ext.tup(h:Same F H)(e:H a=some (.tup ts)):Ext F H (upd F a (.tup ts)) H:=by
 refine⟨Same.refl _,λb u q=>?_,λb u q=>?_,λb hb=>?_⟩
 ·by_cases z:b=a
  ·subst z;rw[aJ,<-e];exact h b u q
  ·rw[ay z];exact q
 ·by_cases z:b=a
  ·subst z;rw[aJ] at q;rw[e];exact q
  ·rw[ay z] at q;exact h b u q
 ·by_cases z:b=a
  ·subst z;exact .inr ⟨ts,e⟩
  ·exact .inl (ay z)
def WP(K:QZ)(Xw:Nat->Hp->Prop)(F H:Hp)(m:M D)(Q:VK):Prop:=
 match m with
 |none=>False
 |some (.ok d)=>∀v H' F',Ext F H F' H'->Den K F' d v->Q v H'
 |some (.ex n)=>∀F' H',Ext F H F' H'->Xw n H'
def WPL(K:QZ)(Xw:Nat->Hp->Prop)(F H:Hp)(m:M (List D))(Q:List V->Hp->Prop):Prop:=
 match m with
 |none=>False
 |some (.ok ds)=>∀vs H' F',Ext F H F' H'->DenL K F' ds vs->Q vs H'
 |some (.ex n)=>∀F' H',Ext F H F' H'->Xw n H'
def WPB(Xw:Nat->Hp->Prop)(F H:Hp)(m:M Bool)(Q:Bool->Hp->Prop):Prop:=
 match m with
 |none=>False
 |some (.ok b)=>∀H' F',Ext F H F' H'->Q b H'
 |some (.ex n)=>∀F' H',Ext F H F' H'->Xw n H'
section
variable{K:QZ}{Xw:Nat->Hp->Prop}{F F' H H':Hp}{Q:VK}
def WP.ext(e:Ext F H F' H')(h:WP K Xw F H m Q):WP K Xw F' H' m Q:=by
 match m,h with
 |none,h=>exact h
 |some (.ok d),h=>exact λv H2 F2 e2 q=>h v H2 F2 (e.trans e2) q
 |some (.ex n),h=>exact λF2 H2 e2=>h F2 H2 (e.trans e2)
def WPL.ext{Q:List V->Hp->Prop}(e:Ext F H F' H')(h:WPL K Xw F H m Q):WPL K Xw F' H' m Q:=by
 match m,h with
 |none,h=>exact h
 |some (.ok d),h=>exact λv H2 F2 e2 q=>h v H2 F2 (e.trans e2) q
 |some (.ex n),h=>exact λF2 H2 e2=>h F2 H2 (e.trans e2)
def WPB.ext{Q:Bool->Hp->Prop}(e:Ext F H F' H')(h:WPB Xw F H m Q):WPB Xw F' H' m Q:=by
 match m,h with
 |none,h=>exact h
 |some (.ok d),h=>exact λH2 F2 e2=>h H2 F2 (e.trans e2)
 |some (.ex n),h=>exact λF2 H2 e2=>h F2 H2 (e.trans e2)
def WP.fin(h:WP K Xw F H (aa d) Q)(e:Ext F H F' H')(q:Den K F' d v):Q v H':=h v H' F' e q
def WP.now(h:WP K Xw F H (aa d) Q)(s:Same F H)(q:Den K F d v):Q v H:=h v H F (Ext.refl s) q
def WP.bind(h:WP K Xw F H (m>>=k) Q):WP K Xw F H m λv H1=>∃F1 d,Ext F H F1 H1/\Den K F1 d v/\WP K Xw F1 H1 (k d) Q:=by
 match m,h with
 |none,h=>exact h
 |some (.ok d),h=>exact λv H2 F2 e2 q=>⟨F2,d,e2,q,WP.ext e2 (show WP K Xw F H (k d) Q from h)⟩
 |some (.ex n),h=>exact h
def WP.bindL(h:WP K Xw F H (m>>=k) Q):WPL K Xw F H m λvs H1=>∃F1 ds,Ext F H F1 H1/\DenL K F1 ds vs/\WP K Xw F1 H1 (k ds) Q:=by
 match m,h with
 |none,h=>exact h
 |some (.ok d),h=>exact λv H2 F2 e2 q=>⟨F2,d,e2,q,WP.ext e2 (show WP K Xw F H (k d) Q from h)⟩
 |some (.ex n),h=>exact h
def WPB.bind{Q:Bool->Hp->Prop}(h:WPB Xw F H (m>>=k) Q):WP K Xw F H m λv H1=>∃F1 d,Ext F H F1 H1/\Den K F1 d v/\WPB Xw F1 H1 (k d) Q:=by
 match m,h with
 |none,h=>exact h
 |some (.ok d),h=>exact λv H2 F2 e2 q=>⟨F2,d,e2,q,WPB.ext e2 (show WPB Xw F H (k d) Q from h)⟩
 |some (.ex n),h=>exact h
def WPB.bindB{Q:Bool->Hp->Prop}(h:WPB Xw F H (m>>=k) Q):WPB Xw F H m λb H1=>∃F1,Ext F H F1 H1/\WPB Xw F1 H1 (k b) Q:=by
 match m,h with
 |none,h=>exact h
 |some (.ok d),h=>exact λH2 F2 e2=>⟨F2,e2,WPB.ext e2 (show WPB Xw F H (k d) Q from h)⟩
 |some (.ex n),h=>exact h
def WPL.bind{Q:List V->Hp->Prop}(h:WPL K Xw F H (m>>=k) Q):WP K Xw F H m λv H1=>∃F1 d,Ext F H F1 H1/\Den K F1 d v/\WPL K Xw F1 H1 (k d) Q:=by
 match m,h with
 |none,h=>exact h
 |some (.ok d),h=>exact λv H2 F2 e2 q=>⟨F2,d,e2,q,WPL.ext e2 (show WPL K Xw F H (k d) Q from h)⟩
 |some (.ex n),h=>exact h
def WPL.bindL{Q:List V->Hp->Prop}(h:WPL K Xw F H (m>>=k) Q):WPL K Xw F H m λvs H1=>∃F1 ds,Ext F H F1 H1/\DenL K F1 ds vs/\WPL K Xw F1 H1 (k ds) Q:=by
 match m,h with
 |none,h=>exact h
 |some (.ok d),h=>exact λv H2 F2 e2 q=>⟨F2,d,e2,q,WPL.ext e2 (show WPL K Xw F H (k d) Q from h)⟩
 |some (.ex n),h=>exact h
def WP.mono(h:WP K Xw F H m Q)(k:∀v H',Q v H'->Q' v H'):WP K Xw F H m Q':=by
 match m,h with
 |none,h=>exact h
 |some (.ok d),h=>exact λv H2 F2 e2 q=>k _ _ (h v H2 F2 e2 q)
 |some (.ex n),h=>exact h
def WPL.mono{Q Q':List V->Hp->Prop}(h:WPL K Xw F H m Q)(k:∀v H',Q v H'->Q' v H'):WPL K Xw F H m Q':=by
 match m,h with
 |none,h=>exact h
 |some (.ok d),h=>exact λv H2 F2 e2 q=>k _ _ (h v H2 F2 e2 q)
 |some (.ex n),h=>exact h
def WPB.mono{Q Q':Bool->Hp->Prop}(h:WPB Xw F H m Q)(k:∀v H',Q v H'->Q' v H'):WPB Xw F H m Q':=by
 match m,h with
 |none,h=>exact h
 |some (.ok d),h=>exact λH2 F2 e2=>k _ _ (h H2 F2 e2)
 |some (.ex n),h=>exact h
end
inductive C where
 |lst (l:List D) | dct (ks:List (List Key)) (l:List D) | dci (ks:List Key) (l:List D)
def C.d:C->D
 | .lst ds=> .lst ds
 | .dct ks ds=> .dct ks ds
 | .dci ks ds=> .dci ks ds
inductive Sl where
 |fz (d:D) | ow (c:C)
abbrev cp:=List (Option Sl)
def DenC(K:QZ)(F:Hp):C->HO->Prop
 | .lst ds,o=>∃vs,o= .lst vs/\DenL K F ds vs/\ds.length<=lim
 | .dct ks ds,o=>∃vs,o= .dT (ks.zip vs)/\DenL K F ds vs/\ks.length=ds.length/\ds.length<=lim
 | .dci ks ds,o=>∃vs,o= .dK (ks.zip vs)/\DenL K F ds vs/\ks.length=ds.length/\ds.length<=lim
def DenC.mono{K:QZ}(e:Same F F'):∀{c:C}{o:HO},DenC K F c o->DenC K F' c o
 | .lst _,_,⟨vs,h1,h2,h3⟩=>⟨vs,h1,DenL.mono e h2,h3⟩
 | .dct _ _,_,⟨vs,h1,h2,h3⟩=>⟨vs,h1,DenL.mono e h2,h3⟩
 | .dci _ _,_,⟨vs,h1,h2,h3⟩=>⟨vs,h1,DenL.mono e h2,h3⟩
def DenC.notup{K:QZ}:∀{c:C}{o:HO},DenC K F c o->∀ts,o≠ .tup ts
 | .lst _,_,⟨_,h1,_⟩,ts,z=>by rw[h1] at z;cases z
 | .dct _ _,_,⟨_,h1,_⟩,ts,z=>by rw[h1] at z;cases z
 | .dci _ _,_,⟨_,h1,_⟩,ts,z=>by rw[h1] at z;cases z
def mI(ob:Obj):HO->HO
 | .dT az=> .frz ob (.dT az)
 | .dK az=> .frz ob (.dK az)
 |o=>o
def DenC.den{K:QZ}:∀{c:C}{o:HO},DenC K F c o->Same F F'->F' a=some (mI ob o)->Den K F' c.d (.ref a)
 | .lst _,_,⟨vs,h1,h2,h3⟩,e,q=>by subst h1;exact⟨a,vs,rfl,q,DenL.mono e h2,h3⟩
 | .dct _ _,_,⟨vs,h1,h2,h3⟩,e,q=>by subst h1;exact⟨a,ob,vs,rfl,q,DenL.mono e h2,h3⟩
 | .dci _ _,_,⟨vs,h1,h2,h3⟩,e,q=>by subst h1;exact⟨a,ob,vs,rfl,q,DenL.mono e h2,h3⟩
def DenO(K:QZ)(F H:Hp):Sl->V->Prop
 | .fz d,v=>Den K F d v
 | .ow c,v=>∃a o,v= .ref a/\H a=some o/\F a=none/\DenC K F c o
structure StE (K:QZ) (F H:Hp) (σ:St) (ρ:cp):Prop where
 fh:Same F H
 den:∀(i:Nat) (sl:Sl),ρ[i]? =some (some sl)->∃v,σ[i]? =some (some v)/\DenO K F H sl v
def DenO.ext{K:QZ}(e:Ext F H F' H'):∀{sl:Sl}{v:V},DenO K F H sl v->DenO K F' H' sl v
 | .fz _,_,h=>Den.mono e.ff h
 | .ow _,_,⟨a,o,h1,h2,h3,h4⟩=>⟨a,o,h1,e.hh _ _ h2,by rw[e.old h2 h4.notup];exact h3,DenC.mono e.ff h4⟩
def StE.ext{K:QZ}(s:StE K F H σ ρ)(e:Ext F H F' H'):StE K F' H' σ ρ:=
 ⟨e.fh,λi sl q=>let ⟨v,h1,h2⟩:=s.den i sl q;⟨v,h1,h2.ext e⟩⟩
abbrev DE:=cp->M D
abbrev DT:=cp->M Bool
abbrev DA:=cp->M (List D)
def tD(K:QZ)(Xw:Nat->Hp->Prop)(δ:DE):TE:=λσ H Q=>∃F ρ,StE K F H σ ρ/\WP K Xw F H (δ ρ) Q
def Nm(K:QZ)(Xw:Nat->Hp->Prop)(δ:DT):TT:=λσ H Q=>∃F ρ,StE K F H σ ρ/\WPB Xw F H (δ ρ) Q
def OE(K:QZ)(Xw:Nat->Hp->Prop)(δ:DA):TA:=λσ H Q=>∃F ρ,StE K F H σ ρ/\WPL K Xw F H (δ ρ) Q
def PD(X:Cx)(Xw:Nat->Hp->Prop)(e:Expr)(δ:DE):Prop:=PE X e (tD X.K Xw δ)
def pE(X:Cx)(Xw:Nat->Hp->Prop)(e:Expr)(δ:DT):Prop:=PT X e (Nm X.K Xw δ)
def jl(X:Cx)(Xw:Nat->Hp->Prop)(es:List Expr)(δ:DA):Prop:=PA X es (OE X.K Xw δ)
def PE.weak(h:PE X e t)(k:∀σ H Q,t' σ H Q->t σ H Q):PE X e t':=λf8 s σ H Q I w=>h f8 s σ H Q I (k σ H Q w)
def PT.weak(h:PT X e t)(k:∀σ H Q,t' σ H Q->t σ H Q):PT X e t':=λf8 s σ H Q I w=>h f8 s σ H Q I (k σ H Q w)
def PA.weak(h:PA X e t)(k:∀σ H Q,t' σ H Q->t σ H Q):PA X e t':=λpos f8 s σ H Q I w=>h pos f8 s σ H Q I (k σ H Q w)
def dV(i:Nat):DE:=λρ=>match ρ[i]? with
 |some (some (.fz d))=>aa d
 |_=>af
def dC(d:D):DE:=λ_=>aa d
def d1(g:D->M D)(a:DE):DE:=λρ=>a ρ>>=g
def d2(g:D->D->M D)(a b:DE):DE:=λρ=>a ρ>>=λx=>b ρ>>=λy=>g x y
def aN:DA:=λ_=>aa []
def aC(a:DE)(r:DA):DA:=λρ=>a ρ>>=λx=>r ρ>>=λxs=>aa (x::xs)
def dA(g:List D->M D)(a:DA):DE:=λρ=>a ρ>>=g
def Ai:D->M Bool
 | .bl b=>aa b
 |_=>af
def dS(a:DE):DT:=λρ=>a ρ>>=Ai
def tK(a b:DT):DT:=λρ=>a ρ>>=λx=>if x then aa true else b ρ
def eT(a:DT):DT:=λρ=>a ρ>>=λx=>aa (!x)
def gP(a b:DE):DE:=λρ=>a ρ>>=λx=>Ai x>>=λc=>if c then b ρ else aa (.bl false)
def v8(a b:DE):DE:=λρ=>a ρ>>=λx=>Ai x>>=λc=>if c then aa (.bl true) else b ρ
def FE(a:DE):DE:=λρ=>a ρ>>=λx=>Ai x>>=λc=>aa (.bl (!c))
section
variable{X:Cx}{Xw:Nat->Hp->Prop}{a b:Expr}{δa δb:DE}{pos:Pos}
def ae(h:PE X (.Name x pos) (pf i)):PD X Xw (.Name x pos) (dV i):=PE.weak h λσ H Q ⟨F,ρ,s,w⟩=>by
 unfold dV at w;split at w
 ·rename_i d e;obtain⟨v,h1,h2⟩:=s.den i _ e;exact⟨v,h1,WP.now w s.fh h2⟩
 ·exact w.elim
def gc(h:PE X e (tC v))(hd:∀F,Den X.K F d v):PD X Xw e (dC d):=PE.weak h λσ H Q ⟨F,ρ,s,w⟩=>WP.now w s.fh (hd F)
def av:PD X Xw (.Constant (.int i) j pos) (dC (.int i)):=gc HP λ_=>rfl
def gR:PD X Xw (.Constant (.bool i) j pos) (dC (.bl i)):=gc Ky λ_=>rfl
def HI:PD X Xw (.Constant .none j pos) (dC .non):=gc HQ λ_=>rfl
def lx(h:x.length<=lim:=by decide):PD X Xw (.Constant (.str x) j pos) (dC (.str x)):=gc HU λ_=>⟨rfl,h⟩
def vO(K:QZ)(r:R2)(g:D->D->M D):Prop:=∀(Xw:Nat->Hp->Prop) (F H:Hp) (x y:V) (dx dy:D) (Q:VK),Same F H->Den K F dx x->Den K F dy y->WP K Xw F H (g dx dy) Q->r x y H Q
def tq(hg:vO X.K r g):∀σ H Q,tD X.K Xw (d2 g δa δb) σ H Q->K_ r (tD X.K Xw δa) (tD X.K Xw δb) σ H Q:=λσ H Q ⟨F,ρ,s,w⟩=>by
 refine⟨F,ρ,s,WP.mono (WP.bind w) λv H1 ⟨F1,d,e1,q1,w1⟩=>?_⟩;refine⟨F1,ρ,s.ext e1,WP.mono (WP.bind w1) λu H2 ⟨F2,d',e2,q2,w2⟩=>?_⟩;exact hg Xw F2 H2 v u d d' Q e2.fh (Den.mono e2.ff q1) q2 w2
def ml(ho:OpR X (Uo op) r)(hg:vO X.K r g)(ha:PD X Xw a δa)(hb:PD X Xw b δb):PD X Xw (.BinOp a op b pos) (d2 g δa δb):=
 PE.weak (KA ho ha hb) (tq hg)
def wX(ho:OpR X (R_ op) r)(hg:vO X.K r g)(ha:PD X Xw a δa)(hb:PD X Xw b δb)(hm:RX op b=false:=by first | exact BQ _ | rfl):PD X Xw (.Compare a [op] [b] pos) (d2 g δa δb):=
 PE.weak (ES ho ha hb hm) (tq hg)
def fF(ho:OpR X (R_ op) r)(hg:vO X.K r g)(ha:PD X Xw a δa)(hb:PD X Xw b δb)(hm:RX op b=false:=by first | exact BQ _ | rfl):pE X Xw (.Compare a [op] [b] pos) (dS (d2 g δa δb)):=
 PT.weak (E8 ho ha hb hm) λσ H Q ⟨F,ρ,s,w⟩=>by
  refine tq hg σ H _ ⟨F,ρ,s,WP.mono (WPB.bind w) λv H1 ⟨F1,d,e1,q1,w1⟩=>?_⟩;cases d with
  |bl k=>exact⟨k,q1,w1 _ _ (Ext.refl e1.fh)⟩
  |_=>exact w1.elim
def yr(hr:Jf X r)(hg:vO X.K r g)(ha:PD X Xw a δa)(hb:PD X Xw b δb)(hs:iz b:=by intro _ _;rfl):PD X Xw (.Subscript a b pos) (d2 g δa δb):=
 PE.weak (Kz hr ha hb hs) (tq hg)
def ag:jl X Xw [] aN:=PA.weak sv λσ H Q ⟨F,ρ,s,w⟩=>w [] H F (Ext.refl s.fh) rfl
def ab(ha:PD X Xw a δa)(hr:jl X Xw es δs)(hs:Q8 (a::es) X.env=(false,eval a X.env)::Q8 es X.env:=by rfl):jl X Xw (a::es) (aC δa δs):=
 PA.weak (su ha hr hs) λσ H Q ⟨F,ρ,s,w⟩=>by
  refine⟨F,ρ,s,WP.mono (WPL.bind w) λv H1 ⟨F1,d,e1,q1,w1⟩=>?_⟩;refine⟨F1,ρ,s.ext e1,WPL.mono (WPL.bindL w1) λvs H2 ⟨F2,ds,e2,q2,w2⟩=>?_⟩;exact w2 _ _ _ (Ext.refl e2.fh) (.cons (Den.mono e2.ff q1) q2)
def cf(ds:List D):M D:=if ds.length<=lim then aa (.tup ds) else af
def ft(ds:List D):M D:=if ds.length<=lim then aa (.lst ds) else af
def wD{f:List D->D}(w:WP X.K Xw F H (if ds.length<=lim then aa (f ds) else af) Q):ds.length<=lim/\WP X.K Xw F H (aa (f ds)) Q:=by
 split at w
 ·rename_i h;exact⟨h,w⟩
 ·exact w.elim
def c7(h:jl X Xw es δs):PD X Xw (.Tuple es x1 pos) (dA cf δs):=PE.weak (HV h) λσ H Q ⟨F,ρ,s,w⟩=>by
 refine⟨F,ρ,s,WPL.mono (WP.bindL w) λvs H1 ⟨F1,ds,e1,q1,w1⟩=>?_⟩;obtain⟨hl,w1⟩:=wD w1;have hv:=q1.len;refine⟨by have:=d3;omega,λp hp=>WP.fin w1 (Ext.lay e1.fh hp) ⟨p,vs,rfl,aJ,DenL.mono (Ext.lay e1.fh hp).ff q1,hl⟩⟩
def jA(h:jl X Xw es δs):PD X Xw (.List es pos) (dA ft δs):=PE.weak (Cf h) λσ H Q ⟨F,ρ,s,w⟩=>by
 refine⟨F,ρ,s,WPL.mono (WP.bindL w) λvs H1 ⟨F1,ds,e1,q1,w1⟩=>?_⟩;obtain⟨hl,w1⟩:=wD w1;have hv:=q1.len;refine⟨by have:=d3;omega,λp hp=>WP.fin w1 (Ext.lay e1.fh hp) ⟨p,vs,rfl,aJ,DenL.mono (Ext.lay e1.fh hp).ff q1,hl⟩⟩
end
def ItD(K:QZ)(F:Hp)(J:It)(ds:List D):Prop:=∀(F' H':Hp) (i:Nat),Same F F'->Same F' H'->
 (∀d,ds[i]? =some d->J.go i H'/\∀x H'',J.yld i H' x H''->∃F'',Ext F' H' F'' H''/\Den K F'' d x)/\(ds.length<=i->J.stop i H')
def ItD.mono{K:QZ}(h:ItD K F J ds)(e:Same F F1):ItD K F1 J ds:=λF' H' i s1 s2=>h F' H' i (e.trans s1) s2
def WPI(K:QZ)(Xw:Nat->Hp->Prop)(F H:Hp)(m:M (List D))(R:It->Hp->Prop):Prop:=
 match m with
 |none=>False
 |some (.ok ds)=>∀J H' F',Ext F H F' H'->ItD K F' J ds->R J H'
 |some (.ex n)=>∀F' H',Ext F H F' H'->Xw n H'
def Qv(K:QZ)(Xw:Nat->Hp->Prop)(δ:DA):TI:=λσ H R=>∃F ρ,StE K F H σ ρ/\WPI K Xw F H (δ ρ) R
def vP(X:Cx)(Xw:Nat->Hp->Prop)(tg iter:Expr)(δ:DA):Prop:=PI X tg iter (Qv X.K Xw δ)
def PI.weak{X:Cx}(h:PI X tg e t)(k:∀σ H Q,t' σ H Q->t σ H Q):PI X tg e t':=λf8 s σ H Q I w=>h f8 s σ H Q I (k σ H Q w)
def WPI.bind{K:QZ}(h:WPI K Xw F H (m>>=k) R):
 WP K Xw F H m λv H1=>∃F1 d,Ext F H F1 H1/\Den K F1 d v/\WPI K Xw F1 H1 (k d) R:=by
 match m,h with
 |none,h=>exact h
 |some (.ok d),h=>
  refine λv H2 F2 e2 q=>⟨F2,d,e2,q,?_⟩
  have h:WPI K Xw F H (k d) R:=h;show WPI K Xw F2 H2 (k d) R
  match k d,h with
  |none,h=>exact h
  |some (.ok ds),h=>exact λJ H3 F3 e3 q3=>h J H3 F3 (e2.trans e3) q3
  |some (.ex n),h=>exact λF3 H3 e3=>h F3 H3 (e2.trans e3)
 |some (.ex n),h=>exact h
def WPI.bindL{K:QZ}(h:WPI K Xw F H (m>>=k) R):
 WPL K Xw F H m λv H1=>∃F1 d,Ext F H F1 H1/\DenL K F1 d v/\WPI K Xw F1 H1 (k d) R:=by
 match m,h with
 |none,h=>exact h
 |some (.ok d),h=>
  refine λv H2 F2 e2 q=>⟨F2,d,e2,q,?_⟩
  have h:WPI K Xw F H (k d) R:=h;show WPI K Xw F2 H2 (k d) R
  match k d,h with
  |none,h=>exact h
  |some (.ok ds),h=>exact λJ H3 F3 e3 q3=>h J H3 F3 (e2.trans e3) q3
  |some (.ex n),h=>exact λF3 H3 e3=>h F3 H3 (e2.trans e3)
 |some (.ex n),h=>exact h
def lstM:D->M (List D)
 | .lst ds=>aa ds
 |_=>af
def Ny:D->M (List D)
 | .tup ds=>aa ds
 |_=>af
def bV(a:DE):DA:=λρ=>a ρ>>=lstM
def v5(a:DE):DA:=λρ=>a ρ>>=Ny
def Bs{K:QZ}(h:SqL K F a vs)(hd:DenL K F ds vs):ItD K F (LV K a) ds:=λF' H' i s1 s2=>by
 have hs:=Same.seq s2 (Same.seq s1 h);refine⟨λd e=>?_,λhl=>⟨vs,hs,by rw[<-hd.len];exact hl⟩⟩;obtain⟨v,e1,q⟩:=hd.get e;refine⟨⟨vs,v,hs,e1⟩,λx H'' y=>?_⟩;obtain⟨e2,y⟩:=y;subst e2;have:=y vs hs;rw[e1] at this;cases this;exact⟨F',Ext.refl s2,Den.mono s1 q⟩
def Ea{K:QZ}(h:SqT K F a vs)(hd:DenL K F ds vs):ItD K F (LW K a) ds:=λF' H' i s1 s2=>by
 have hs:=Same.tup s2 (Same.tup s1 h);refine⟨λd e=>?_,λhl=>⟨vs,hs,by rw[<-hd.len];exact hl⟩⟩;obtain⟨v,e1,q⟩:=hd.get e;refine⟨⟨vs,v,hs,e1⟩,λx H'' y=>?_⟩;obtain⟨e2,y⟩:=y;subst e2;have:=y vs hs;rw[e1] at this;cases this;exact⟨F',Ext.refl s2,Den.mono s1 q⟩
def gi(lo:Int)(n:Nat):List D:=(Rf n).map λ(i:Nat)=>D.int (lo+(i:Int))
def qx{K:QZ}{F:Hp}(lo:Int)(n:Nat):ItD K F (Je lo n) (gi lo n):=λF' H' i s1 s2=>by
 refine⟨λd e=>?_,λhl=>show n<=i by simpa[gi] using hl⟩;unfold gi at e;rw[Q1] at e;have hi:i<n:=by
  by_cases hi:i<n
  ·exact hi
  ·rw[Ub (by simpa using hi)] at e;cases e
 rw[TJ hi] at e;cases e;refine⟨hi,λx H'' y=>?_⟩;obtain⟨e2,y⟩:=y;subst e2 y;exact⟨F',Ext.refl s2,rfl⟩
section
variable{X:Cx}{Xw:Nat->Hp->Prop}{tg l:Expr}{δ:DE}{pos:Pos}
def bb(h:PD X Xw l δ):vP X Xw tg l (bV δ):=PI.weak (EV h) λσ H R ⟨F,ρ,s,w⟩=>by
 refine⟨F,ρ,s,WP.mono (WPI.bind w) λv H1 ⟨F1,d,e1,q1,w1⟩=>?_⟩;cases d with
 |lst ds=>
  obtain⟨a,vs,h1,h2,h3,h4⟩:=q1;exact⟨a,h1,⟨vs,Same.seq e1.fh (SqL.of h2)⟩,w1 _ _ _ (Ext.refl e1.fh) (Bs (SqL.of h2) h3)⟩
 |_=>exact w1.elim
def yx(h:PD X Xw l δ):vP X Xw tg l (v5 δ):=PI.weak (HZ h) λσ H R ⟨F,ρ,s,w⟩=>by
 refine⟨F,ρ,s,WP.mono (WPI.bind w) λv H1 ⟨F1,d,e1,q1,w1⟩=>?_⟩;cases d with
 |tup ds=>
  obtain⟨a,vs,h1,h2,h3,h4⟩:=q1;exact⟨a,h1,⟨vs,Same.tup e1.fh (SqT.of h2)⟩,w1 _ _ _ (Ext.refl e1.fh) (Ea (SqT.of h2) h3)⟩
 |_=>exact w1.elim
def fc:List D->M (List D)
 |[.int j]=>if -4096<=j/\j<=4096 then aa (gi 0 j.toNat) else af
 |_=>af
def q0:List D->M (List D)
 |[.int i, .int j]=>if (-4096<=i/\i<=4096)/\(-4096<=j/\j<=4096) then aa (gi i (j - i).toNat) else af
 |_=>af
def DenL.one{K:QZ}(h:DenL K F [d] vs):∃v,vs=[v]/\Den K F d v:=by
 obtain⟨v,r,h1,h2,h3⟩:=h;cases (show r=[] from h3);exact⟨v,h1,h2⟩
def DenL.two{K:QZ}(h:DenL K F [d,d'] vs):∃v v',vs=[v,v']/\Den K F d v/\Den K F d' v':=by
 obtain⟨v,r,h1,h2,h3⟩:=h;obtain⟨v',h4,h5⟩:=h3.one;subst h4;exact⟨v,v',h1,h2,h5⟩
def cR{a:Expr}(hg:Gl X "range")(hm:X.mg "range"=none)(ha:jl X Xw [a] δs)(hs:Q8 [a] X.env=[(false,eval a X.env)]:=by rfl):vP X Xw tg (.Call (.Name "range" p) [a] [] pos) (λρ=>δs ρ>>=fc):=
 PI.weak (zR hg hm ha hs) λσ H R ⟨F,ρ,s,w⟩=>by
  refine⟨F,ρ,s,WPL.mono (WPI.bindL w) λvs H1 ⟨F1,ds,e1,q1,w1⟩=>?_⟩;unfold fc at w1;split at w1
  ·rename_i j;obtain⟨v,h1,h2⟩:=q1.one;cases (show v=_ from h2);split at w1
   ·exact⟨j,h1,by omega,by omega,w1 _ _ _ (Ext.refl e1.fh) (qx 0 _)⟩
   ·exact w1.elim
  ·exact w1.elim
def oS{a b:Expr}(hg:Gl X "range")(hm:X.mg "range"=none)(ha:jl X Xw [a,b] δs)(hs:Q8 [a,b] X.env=[(false,eval a X.env),(false,eval b X.env)]:=by rfl)
 (IW:Q8 [b] X.env=[(false,eval b X.env)]:=by rfl):vP X Xw tg (.Call (.Name "range" p) [a,b] [] pos) (λρ=>δs ρ>>=q0):=
 PI.weak (zS hg hm ha hs IW) λσ H R ⟨F,ρ,s,w⟩=>by
  refine⟨F,ρ,s,WPL.mono (WPI.bindL w) λvs H1 ⟨F1,ds,e1,q1,w1⟩=>?_⟩;unfold q0 at w1;split at w1
  ·rename_i i j;obtain⟨v,v',h1,h2,h3⟩:=q1.two;cases (show v=_ from h2);cases (show v'=_ from h3);split at w1
   ·exact⟨i,j,h1,⟨by omega,by omega,by omega,by omega⟩,w1 _ _ _ (Ext.refl e1.fh) (qx i _)⟩
   ·exact w1.elim
  ·exact w1.elim
end
def bH(tg N:List Str):List Str:=N.map λy=>if tg.contains y then y++(" ":Str) else y
def i_(X:Cx)(scope:Scope)(tn:List Str)(f8:List (Addr×Obj))(cl:List (Str×Addr))(C:Addr)(fp:List Addr)(t0:QT)(H:Hp):Cx:=
 {X with N:=tn++bH tn X.N,X9:=t0,X8:=H,env:=compEnvC scope cl C X.env,outer:=X.stack,ex:=fp,fn:=λ_=>false,pn:=X.pn++f8,xe:=λ_ _=>False}
structure CompSc (X:Cx) (scope:Scope) (tn:List Str):Prop where
 kind:scope.kind= .function
 nocell:∀y∈scope.names,y.2≠ .cell
 names:∀y∈scope.names,y.2= .local->scope.names.lookup y.1=some .local
 frees:∀y∈scope.names,y.2= .free->X.env.kindOf y.1=some .cell\/X.env.kindOf y.1=some .free
 vis:∀p∈(bH tn X.N).zip X.N,scope.names.lookup p.1=none\/(p.1=p.2/\scope.names.lookup p.1=some .free)
def js{env:Env}:∀(names:List (Str×UL)) (u8:List (Str×Addr)),(∀y∈names,y.2= .free->∃c,env.cells.lookup y.1=some c)->
 (∀x c,u8.lookup x=some c->env.cells.lookup x=some c)->
 ∃cl,(forIn names u8 (λ(x:Str×UL) (r:List (Str×Addr))=>do
   let __x:=x
   if (__x.2==XB)=true then do let c<-cellOf env __x.1;pure (R7 ((__x.1,c)::r)) else pure (R7 r)):Sem (List (Str×Addr)))=pure cl/\
  (∀x c,cl.lookup x=some c->env.cells.lookup x=some c)/\(∀x c,u8.lookup x=some c->∃c',cl.lookup x=some c')/\(∀x,names.lookup x=some .free->∃c,cl.lookup x=some c)
 |[],u8,_,h2=>⟨u8,rfl,h2,λx c e=>⟨c,e⟩,λx e=>by simp at e⟩
 |(n,k)::r,u8,h1,h2=>by
  by_cases hk:k= .free
  ·subst hk;obtain⟨c,hc⟩:=h1 (n, .free) QR rfl;obtain⟨cl,e,a1,a2,a3⟩:=js r ((n,c)::u8) (λy hy=>h1 y (QQ _ hy)) (λx c' q=>by
    rw[SN] at q;split at q
    ·rename_i hx;cases q;rw[show x=n from by simpa using hx];exact hc
    ·exact h2 x c' q)
   refine⟨cl,?_,a1,λx c' q=>?_,λx q=>?_⟩
   ·rw[VU];have:cellOf env n=pure c:=by unfold cellOf;rw[hc]
    simp only[beq_self_eq_true,if_true,this,pure_bind];exact e
   ·by_cases hx:x=n
    ·subst hx;exact a2 x c (by simp[SN])
    ·exact a2 x c' (by rw[SN,show (x==n)=false from by simpa using hx];exact q)
   ·rw[SN] at q;split at q
    ·rename_i hx;exact a2 x c (by rw[SN,hx])
    ·exact a3 x q
  ·obtain⟨cl,e,a1,a2,a3⟩:=js r u8 (λy hy=>h1 y (QQ _ hy)) h2;refine⟨cl,?_,a1,a2,λx q=>?_⟩
   ·rw[VU];have:((k==XB)=true)=False:=by simpa using hk
    simp only[this,if_false,pure_bind];exact e
   ·rw[SN] at q;split at q
    ·cases q;exact XN rfl hk
    ·exact a3 x q
def ny{scope:Scope}(h:∀y∈scope.names,y.2= .free->∃c,env.cells.lookup y.1=some c):
 ∃cl,closureFor scope env=pure cl/\(∀x c,cl.lookup x=some c->env.cells.lookup x=some c)/\(∀x,scope.names.lookup x=some .free->∃c,cl.lookup x=some c):=by
 obtain⟨cl,e,a1,_,a3⟩:=js scope.names [] h (λx c q=>by simp at q);refine⟨cl,?_,a1,a3⟩;unfold closureFor;show (forIn scope.names [] _>>=λr=>pure r)=_;rw[bind_pure];exact e
def noex:M α->M α
 |some (.ok a)=>some (.ok a)
 |_=>none
def c_(f:D->M (Option D)):List D->M (List D)
 |[]=>aa []
 |d::ds=>f d>>=λo=>c_ f ds>>=λr=>aa (match o with | some y=>y::r | none=>r)
def OF(n:Nat):D->M (List D):=λd=>match n,d with
 |0,d=>aa [d]
 |n, .tup ds=>if ds.length=n then aa ds else af
 |_,_=>af
def eS(n:Nat)(δt:DT)(δe:DE)(ρ:cp):D->M (Option D):=λd=>
 OF n d>>=λts=>δt (ts.map (λt=>some (Sl.fz t))++ρ)>>=λb=>if b then δe (ts.map (λt=>some (Sl.fz t))++ρ)>>=λy=>aa (some y) else aa none
def aS(n:Nat)(δi:DA)(δt:DT)(δe:DE):DE:=λρ=>δi ρ>>=λds=>noex (c_ (eS n δt δe ρ) ds)>>=ft
def bp:DT:=λ_=>aa true
def dX(f:D->M (Option D))(d:D)(ds:List D):c_ f (d::ds)=(f d>>=λo=>c_ f ds>>=λr=>aa (match o with | some y=>y::r | none=>r)):=rfl
def v3(hd:ds[i]? =some d)
 (h:c_ f ds=(c_ f (ds.drop i)>>=λr=>aa (ys++r)))(hR:c_ f ds=aa R):
 ∃o,f d=aa o/\c_ f ds=(c_ f (ds.drop (i+1))>>=λr=>aa ((match o with | some y=>ys++[y] | none=>ys)++r)):=by
 have e:ds.drop i=d::ds.drop (i+1):=by
  obtain⟨hi,e⟩:=Q4.mp hd;rw[Wk hi,e]
 rw[e,dX] at h;have h':=h.symm.trans hR;obtain⟨r,h1,h2⟩:=gn h';obtain⟨o,h3,h4⟩:=gn h1;refine⟨o,h3,?_⟩;obtain⟨r',h5,h6⟩:=gn h4;rw[h5,hR];rw[<-h2,<-eL h6];show aa _=aa _;cases o with
 |none=>rfl
 |some y=>simp
def za(I:Nat->QT->Prop)
 (turn:∀n s,I n s->wpAny (model prog w) A (Ug it) (λr v0=>match r with
  |none=>R (.ok .next) v0
  |some v=>wpAny (model prog w) A (Vk target it v) (λ_ OD=>wpAny (model prog w) A (assign target env v) (λ_ t0=>
    wpAny (model prog w) A (forIn ifs true λc r=>if r=true then do let ok<-isTrue c env (eval c env);pure (R7 ok) else pure (R7 r)) (λok XX=>
     if ok=true then wpAny (model prog w) A (eval XY env) (λx X1=>
      wpAny (model prog w) A (call (.builtin "list.append") [u8,x]) (λ_ X6=>∃m,m<n/\I m X6) (Xj (model prog w) A env λe s'=>R (.error e) s') X1) (Xj (model prog w) A env λe s'=>R (.error e) s') XX
     else∃m,m<n/\I m XX) (Xj (model prog w) A env λe s'=>R (.error e) s') t0) (Xj (model prog w) A env λe s'=>R (.error e) s') OD) (Xj (model prog w) A env λe s'=>R (.error e) s') v0) (Xj (model prog w) A env λe s'=>R (.error e) s') s)
 (n:Nat) (h:I n s):
 U6 (model prog w) A (.compLoop (.ListComp XY [⟨target,iter,ifs,0⟩] scope pos) 0 it u8 env) R s:=by
 refine codeAny_loop rfl I (λn s hI=>?_) n h;show wpAny _ A ((compTurn (.ListComp XY [⟨target,iter,ifs,0⟩] scope pos) 0 it u8 env).onRaise (λx=>do noteFrame x env;theTreesLotGoes x)) _ _ s;refine wpAny_noted ?_;rw[compTurn_list];refine QL (wpAny_standAt (QL (R8 (turn n s hI) (λr v0 h₁=>?_) λ_ _ h'=>h')));cases r with
 |none=>exact QP h₁
 |some v=>
  refine QL (R8 h₁ (λ_ OD h₁=>?_) λ_ _ h'=>h');refine QL (R8 h₁ (λ_ t0 XT=>QL (R8 XT (λok XX XU=>?_) λ_ _ h'=>h')) λ_ _ h'=>h');cases ok with
  |false=>exact QP ⟨rfl,XU⟩
  |true=>
   exact QL (QL (R8 XU (λx X1 XZ=>QL (R8 XZ (λ_ X6 X0=>QP (QP ⟨rfl,X0⟩)) λ_ _ h'=>h')) λ_ _ h'=>h'))
def yQ(X:Cx)(tg:Expr)(n:Nat)(σ:St):Prop:=∀(f8:List (Addr×Obj)) (s:QT) (σ':St) (F H:Hp) (d:D) (ts:List D) (v:V) (u:Value),Inv X f8 σ' H s->Same F H->σ'.drop (max n 1)=σ->RelV v u->Den X.K F d v->OF n d=aa ts->
 wpAny (model X.prog X.w) X.A (assign tg X.env u) (λ_ s'=>∃vs,Inv X f8 (vs.map some++σ) H s'/\DenL X.K F ts vs) X.xe s
def kT(X:Cx)(ifs:List Expr)(δt:DT):Prop:=∀(f8:List (Addr×Obj)) (s:QT) (σ:St) (H:Hp) (Q:Bool->Hp->Prop),Inv X f8 σ H s->Nm X.K (λ_ _=>False) δt σ H Q->
 wpAny (model X.prog X.w) X.A (forIn ifs true λc r=>if r=true then do let ok<-isTrue c X.env (eval c X.env);pure (R7 ok) else pure (R7 r)) (TP X f8 σ Q) X.xe s
def br:kT X [] bp:=λf8 s σ H Q I ⟨F,ρ,S,w⟩=>wpAny_tests_nil ⟨H,I,w H F (Ext.refl S.fh)⟩
def ix(h:pE X (λ_ _=>False) c δ):kT X [c] δ:=λf8 s σ H Q I w=>wpAny_tests_one (h f8 s σ H Q I w)
def StE.cons{K:QZ}(s:StE K F H σ ρ)(h:DenL K F ts vs):StE K F H (vs.map some++σ) (ts.map (λt=>some (Sl.fz t))++ρ):=by
 refine⟨s.fh,λi sl e=>?_⟩;have hl:=h.len;by_cases hi:i<ts.length
 ·rw[RN (by simpa using hi),Q1] at e;cases q:ts[i]? with
  |none=>rw[q] at e;cases e
  |some t=>
   rw[q] at e;cases e;obtain⟨v,e1,e2⟩:=h.get q;exact⟨v,by rw[RN (by simp;omega),Q1,e1];rfl,e2⟩
 ·rw[RD (by simpa using hi)] at e;obtain⟨v,e1,e2⟩:=s.den _ _ e;refine⟨v,?_,e2⟩;rw[RD (by simp;omega)];simpa[hl] using e1
def WPB.take:WPB Xw F H (aa b) λb' H'=>b'=b/\∃F',Ext F H F' H':=λH' F' e=>⟨rfl,F',e⟩
def WP.take{K:QZ}:WP K Xw F H (aa d) λv H'=>∃F',Ext F H F' H'/\Den K F' d v:=λv H' F' e q=>⟨F',e,q⟩
def lD(env:Env)(p:Str×UL):Str×UL:=if (p.2== .free&&env.scope.kind== .function&&env.kindOf p.1==some .cell) then(p.1, .cell) else(p.1,p.2)
def fN(scope:Scope)(env:Env):(relabel scope env).names=scope.names.map (lD env):=rfl
def Cy(env:Env)(p:Str×UL):(lD env p).1=p.1:=by unfold lD;split<;>rfl
def gu(env:Env)(x:Str):∀ns:List (Str×UL),(ns.map (lD env)).lookup x=(ns.lookup x).map λk=>(lD env (x,k)).2
 |[]=>rfl
 |(m,k)::r=>by
  rw[QX,SN,SN];have e:lD env (m,k)=(m,(lD env (m,k)).2):=U9 (Cy env (m,k)) rfl;rw[e]
  dsimp only
  by_cases hx:(x==m)=true
  ·have hm:x=m:=by simpa using hx
   subst hm;rw[hx];rfl
  ·have hx:(x==m)=false:=by simpa using hx
   rw[hx];exact gu env x r
def sN(h:scope.names.lookup x=none):(relabel scope env).names.lookup x=none:=by
 rw[fN,gu,h];rfl
def sM(hc:∀y∈scope.names,y.2≠ .cell)(h:(relabel scope env).names.lookup x=some .cell\/(relabel scope env).names.lookup x=some .free):scope.names.lookup x=some .free:=by
 rw[fN,gu] at h;cases q:scope.names.lookup x with
 |none=>rw[q] at h;rcases h with h | h<;>cases h
 |some k=>
  rw[q] at h;have hk:k≠ .cell:=hc _ (SF q);have h:(lD env (x,k)).2= .cell\/(lD env (x,k)).2= .free:=by simpa using h
  by_cases hf:k= .free
  ·rw[hf]
  ·have:(lD env (x,k)).2=k:=by
    unfold lD;rw[XH];simp[hf]
   rw[this] at h;rcases h with h | h
   ·exact XN h hk
   ·exact XN h hf
def lF(h:scope.names.lookup x=some .free):¬(relabel scope env).names.lookup x=some .local:=by
 rw[fN,gu,h];intro z;have z:(lD env (x, .free)).2= .local:=by simpa using z
 unfold lD at z;split at z<;>cases z
structure BlockEnd (X:Cx) (f8:List (Addr×Obj)) (C:Addr) (H':Hp) (s1:QT):Prop where
 ns:∃m,s1.heap.Ns C m
 free:H' C=none
 nl:C≠X.env.locals
 nw:X.X9.heap.objs.size<=C
 nc:∀x c,X.env.cells.lookup x=some c->c≠C
 np:∀p∈X.pn++f8,p.1≠C
def tZ{RR:Value->Addr->Result->QT->Prop}
 (sc:CompSc X scope tn)(hn:tn.length=max n 1)(hc:X.calm=true)(hi:vP X Xw tg iter δi)
 (hg:∀f8 cl C fp t0 H σ,yQ (i_ X scope tn f8 cl C fp t0 H) tg n σ)
 (ht:∀f8 cl C fp t0 H,kT (i_ X scope tn f8 cl C fp t0 H) ifs δt)
 (he:∀f8 cl C fp t0 H,PD (i_ X scope tn f8 cl C fp t0 H) (λ_ _=>False) XY δe)
 (I:Inv X f8 σ H s)(S:StE X.K F H σ ρ)(w:WP X.K Xw F H (aS n δi δt δe ρ) Q)
 (AE:∀x c,cl.lookup x=some c->X.env.cells.lookup x=some c)(IG:∀x,scope.names.lookup x=some .free->∃c,cl.lookup x=some c)
 (Pd:∀(s1:QT) (C D:Addr) (H':Hp),Inv X f8 σ H' s1->Q (.ref D) H'->BlockEnd X f8 C H' s1->RR (.ref D) C (.ok .next) s1):
 wpAny (model X.prog X.w) X.A (eval iter X.env) (λx v0=>wpAny (model X.prog X.w) X.A (pyIter x) (λit t0=>wpAny (model X.prog X.w) X.A (newList []) (λu8 XX=>
  wpAny (model X.prog X.w) X.A (newFunctionEnv scope X.env.globals cl [] X.env.qual none .none (some X.env)) (λJj X1=>
   U6 (model X.prog X.w) X.A (.compStart (.ListComp XY [⟨tg,iter,ifs,0⟩] scope pos) 0 it u8 {Jj with scope:=relabel scope X.env}) (RR u8 Jj.locals) X1) X.xe XX) X.xe t0) X.xe v0) X.xe s:=by
 refine b7 (hi f8 s σ H (λJ H2=>∃F2 ds,Ext F H F2 H2/\ItD X.K F2 J ds/\WP X.K Xw F2 H2 (noex (c_ (eS n δt δe ρ) ds)>>=ft) Q) I ⟨F,ρ,S,?_⟩) λxv v0 h₁=>b7 h₁ λit t0 XT=>?_
 ·unfold aS at w;rcases(δi ρ).cs with hq | ⟨m,hq⟩ | ⟨ds,hq⟩
  ·rw[hq] at w;exact w.elim
  ·rw[hq] at w⊢;exact w
  ·rw[hq] at w⊢;exact λJ H' F' e q=>⟨F',ds,e,q,WP.ext e w⟩
 obtain⟨ia,fp,OG,J,H2,rfl,I2,T,xi,f2,F2,ds,e2,Oq,w2⟩:=XT;obtain⟨R,hR,N2,w2⟩:∃R,c_ (eS n δt δe ρ) ds=aa R/\R.length<=lim/\WP X.K Xw F2 H2 (aa (.lst R)) Q:=by
  rcases(c_ (eS n δt δe ρ) ds).cs with hq | ⟨m,hq⟩ | ⟨R,hq⟩
  ·rw[hq] at w2;exact w2.elim
  ·rw[hq] at w2;exact w2.elim
  ·rw[hq] at w2;obtain⟨h1,h2⟩:=wD (show WP X.K Xw F2 H2 (ft R) Q from w2);exact⟨R,hq,h1,h2⟩
 refine RU (wpAny_newFunctionEnv sc.nocell (by intro y hy;simp at hy) (λh₁ GZ D2=>?_) sc.kind)
 dsimp only at GZ D2⊢
 generalize L_:t0.heap.push {cls:= .type "list",dict:=none,data:= .seq ([]:List Value).toArray}=HL at GZ D2⊢;have hC:HL.objs.size=t0.heap.objs.size+1:=by rw[<-L_,Uz]
 have zi:t0.heap.objs.size<HL.objs.size:=by rw[hC];exact VR _
 have old:∀b o,t0.heap.get? b=some o->h₁.get? b=some o:=λb o e=>D2.extBut b o (Rl (S7 (QY e) zi)) (QO _ (L_▸QO _ e));have i3:h₁.get? t0.heap.objs.size=some {cls:= .type "list",data:= .seq ([]:List Value).toArray}:=D2.extBut _ _ (Rl zi) (QO _ (L_▸Q3 _ rfl));have nD:H2 t0.heap.objs.size=none:=I2.hok.fresh (Q0 _);have nC:H2 HL.objs.size=none:=I2.hok.fresh (SV zi);have gC:t0.heap.get? HL.objs.size=none:=W6 (SV zi);have fl:∀b∈fp,b<t0.heap.objs.size:=λb hb=>by
  obtain⟨o,e,_⟩:=T.obj 0 _ xi b hb;exact QY e
 generalize uo:i_ X scope tn f8 cl HL.objs.size fp t0 H2=X';have OA:X'.Ok:=by
  subst uo;refine⟨I2.ok.mod,sc.kind,I2.ok.glob,I2.ok.blt,SV zi,λx y c h1 h2=>I2.ok.inj x y c (AE _ _ h1) (AE _ _ h2),λx hx=>?_,λ_ _ h=>(by cases h),I2.ok.hd,I2.ok.frames, .inl rfl,
   λb hb=>⟨Rl (S7 (fl b hb) zi),λx c h=>(f2 b hb).2.2.2.2.1 x c (AE _ _ h)⟩,I2.bs,RI I2.ok.bsz I2.sz,λb o e hb=>?_,λb hb z=>?_,I2.stack,I2.stkFree⟩
  ·have hx:(relabel scope X.env).names.lookup x=some .cell\/(relabel scope X.env).names.lookup x=some .free:=hx;exact IG x (sM sc.nocell hx)
  ·rcases(f2 b hb).2.2.2.1 with z | z
   ·exact I2.ok.noex b o e z
   ·exact XN (Rr (QY (I2.ok.bs b o e).1) z) (RC _)
  ·rcases Q9.mp (I2.stkSub b z) with q | q
   ·exact(f2 b hb).2.1 q
   ·exact(f2 b hb).2.2.1 q
 have M0:∀b o,H2 b=some o->b≠t0.heap.objs.size:=λb o e=>bf e nD;have GI:∀{H':Hp},(∀b∈fp,H' b=none)->∀b∈fp,pD X' [] H' b:=λPZ b hb=>by
  subst uo;refine⟨PZ b hb,Rl (S7 (fl b hb) zi),λz=>OA.exfs b hb z, .inl hb,λx c h=>(f2 b hb).2.2.2.2.1 x c (AE _ _ h),λp hp=>?_⟩;rw[S3] at hp;exact(f2 b hb).2.2.2.2.2 p hp
 have I0:Inv X' [] (Rg (max n 1) none++σ) (upd H2 t0.heap.objs.size (.lst [])) {t0 with heap:=h₁,toks:=t0.toks+([]:List (Str×Value)).length}:=by
  subst uo;have Mz:HOk X.prog X.w (upd H2 t0.heap.objs.size (.lst [])) h₁:=I2.hok.laid old (Q0 _) ⟨Ry _,[],_, .nil,i3⟩;refine⟨OA,rfl,I2.bare,Un.laid old (Q0 _) nD,⟨_,GZ,λi x v h1 h2 h3=>?_⟩,λx c h=>?_,?_,λx c h=>?_,λp hp=>?_,Mz,?_⟩
  ·by_cases hi:i<max n 1
   ·rw[RN (by simpa using hi),S8,XG hi] at h2;cases h2
   ·have DW:tn.length<=i:=by omega
    have h1:(tn++bH tn X.N)[i]? =some x:=h1;rw[RD DW] at h1;rw[RD (by simpa using hi),U0,<-hn] at h2;have hN:∃y,X.N[i - tn.length]? =some y/\(x,y)∈(bH tn X.N).zip X.N:=by
     have eE:=(Q4.mp h1).1;have DY:i - tn.length<X.N.length:=by simpa[bH] using eE
     refine⟨X.N[i - tn.length],QN DY,?_⟩;refine WM.mpr ⟨i - tn.length,?_⟩;rw[Wj];exact⟨h1,QN DY⟩
    obtain⟨y,hy,hm⟩:=hN;have hV:(relabel scope X.env).names.lookup x=some .local\/(relabel scope X.env).names.lookup x=some .cell\/(relabel scope X.env).names.lookup x=some .free:=h3;rcases sc.vis _ hm with D0 | ⟨Ka,Dq⟩
    ·have D0:scope.names.lookup x=none:=D0;have:(relabel scope X.env).names.lookup x=none:=sN D0;rw[this] at hV;rcases hV with z | z | z<;>cases z
    ·have Ka:x=y:=Ka;subst Ka;have Dq:scope.names.lookup x=some .free:=Dq;have hk:=sc.frees (x, .free) (SF Dq) rfl;obtain⟨m,JS,vL⟩:=I2.loc;obtain⟨u,ru,lk⟩:=vL _ x v hy h2 (by rcases hk with z | z;exact .inr (.inl z);exact .inr (.inr z));refine⟨u,ru, .inr ⟨?_,?_⟩⟩
     ·rcases hV with z | z | z
      ·exact XN z (lF Dq)
      ·exact .inl z
      ·exact .inr z
     ·rcases lk with⟨z,_⟩ | ⟨_,c,Pk,Dm⟩
      ·rcases hk with q | q
       ·rw[show X.env.kindOf x=some .local from z] at q;cases q
       ·rw[show X.env.kindOf x=some .local from z] at q;cases q
      ·obtain⟨c',FQ⟩:=IG x Dq;have:=AE _ _ FQ;rw[Pk] at this;cases this;obtain⟨o,ho,hd⟩:=Dm;exact⟨c,FQ,o,old _ _ ho,hd⟩
  ·obtain⟨v,o,ho,hd⟩:=I2.cell x c (AE _ _ h);exact⟨v,o,old _ _ ho,hd⟩
  ·show upd H2 t0.heap.objs.size (.lst []) HL.objs.size=none;rw[ay (RT zi)];exact nC
  ·have N6:=AE _ _ h;obtain⟨v,q⟩:=I2.cell x c N6;rw[ay (Rl q.lt)];exact I2.freeC x c N6
  ·rw[S3] at hp;obtain⟨e,nn,ne,nf,d⟩:=I2.pin p hp;have eE:=QY e;refine⟨old _ _ e,by rw[ay (Rl eE)];exact nn,Rl (S7 eE zi),λz=>?_,d⟩;rcases Q9.mp (I2.stkSub p.1 z) with q | q
   ·exact ne q
   ·exact nf q
  ·show (Rg (max n 1) none++σ).length=(tn++bH tn X.N).length;rw[Q2,Q2,U0,hn,show (bH tn X.N).length=X.N.length from by simp[bH],I2.len]
 have loop:∀XX:QT,XX={t0 with heap:=h₁,toks:=t0.toks+([]:List (Str×Value)).length}->
  U6 (model X.prog X.w) X.A (.compLoop (.ListComp XY [⟨tg,iter,ifs,0⟩] scope pos) 0 (.ref ia) (.ref t0.heap.objs.size) (compEnvC scope cl HL.objs.size X.env))
   (RR (.ref t0.heap.objs.size) HL.objs.size) XX:=by
  intro XX zl;have AU:X'.env=compEnvC scope cl HL.objs.size X.env:=by subst uo;rfl
  have hA:X'.A=X.A:=by subst uo;rfl
  have hP:X'.prog=X.prog:=by subst uo;rfl
  have hw:X'.w=X.w:=by subst uo;rfl
  have hK:X'.K=X.K:=by subst uo;rfl
  have Qi:X'.xe=λ_ _=>False:=by subst uo;rfl
  have FR:X'.calm=true:=by subst uo;exact hc
  have Pu:X'.fs=mV X.stack:=by subst uo;rfl
  have hex:X'.ex=fp:=by subst uo;rfl
  have Pb:X'.X8=H2:=by subst uo;rfl
  have Oh:X'.X9=t0:=by subst uo;rfl
  have pass:∀{α:Type}{t:Sem α}{P:α->QT->Prop}{E':Value->QT->Prop}{s:QT},wpAny (model X'.prog X'.w) X'.A t P X'.xe s->wpAny (model X.prog X.w) X.A t P E' s:=λ{α t P E' s} h=>by
   rw[hP,hw,hA,Qi] at h;exact R8 h (λ_ _ q=>q) λ_ _ q=>q.elim
  refine za (λm s'=>∃(i:Nat) (F' H':Hp) (vs:List V) (ys:List D) (σt:St),m=ds.length - i/\i<=ds.length/\σt.length=max n 1/\Inv X' [] (σt++σ) H' s'/\OG i s'.heap/\(∀b∈fp,H' b=none)/\Ext F2 H2 F' H'/\
   H' t0.heap.objs.size=some (.lst vs)/\F' t0.heap.objs.size=none/\DenL X.K F' ys vs/\c_ (eS n δt δe ρ) ds=(c_ (eS n δt δe ρ) (ds.drop i)>>=λr=>aa (ys++r))) ?_ ds.length ?_
  ·rintro m s' ⟨i,F',H',vs,ys,σt,rfl,Mr,Ql,I',jJ,NU,wb,hD,fD,LD,heq⟩;by_cases eE:i<ds.length
   ·
    obtain⟨d,hd⟩:∃d,ds[i]? =some d:=⟨_,QN eE⟩
    obtain⟨Mp,G3⟩:=(Oq F' H' i wb.ff wb.fh).1 d hd;obtain⟨o,ho,JL⟩:=v3 hd heq hR;have MQ:ys.length<=lim:=by
     rw[heq] at hR;obtain⟨r,_,hr⟩:=gn hR;rw[<-eL hr,Q2] at N2;omega
    obtain⟨ts,Qe,ho⟩:=gn ho;refine pass ?_;rw[hP,hw];refine b7 (T.item X' hP hw hK FR i [] s' (σt++σ) H' X'.xe I' (GI NU) jJ Mp) ?_;rintro r s1 ⟨u,rfl,h1⟩;refine pass ?_;rw[hP,hw];refine b7 h1 ?_;rintro _ s2 ⟨x,H3,I3,rx,y3,I9,Lm⟩;obtain⟨F3,Dk,q3⟩:=G3 x H3 y3;have NY:H3 t0.heap.objs.size=some (.lst vs):=Dk.hh _ _ hD;have O4:F3 t0.heap.objs.size=none:=by rw[Dk.old hD (λ_ z=>nomatch z)];exact fD
    have I3':=I3.pinned (GI Lm) (T.obj _ _ I9);have yb:∀{σ7:St}{H7:Hp}{s7:QT},Inv X' ([]++oU fp s2.heap) σ7 H7 s7->OG (i+1) s7.heap/\∀b∈fp,H7 b=none:=λ{σ7 H7 s7} I7=>
     ⟨T.keep _ _ _ I9 λb hb o e=>(I7.pin (b,o) (RH _ (RH _ (gw hb e)))).1,λb hb=>by
      obtain⟨o,e,_⟩:=T.obj _ _ I9 b hb;exact(I7.pin (b,o) (RH _ (RH _ (gw hb e)))).2.1⟩
    have Pw:yQ X' tg n σ:=by subst uo;exact hg _ _ _ _ _ _ _
    have Qc:kT X' ifs δt:=by subst uo;exact ht _ _ _ _ _ _
    have Po:PD X' (λ_ _=>False) XY δe:=by subst uo;exact he _ _ _ _ _ _
    refine pass ?_;rw[<-AU];refine b7 (Pw _ s2 (σt++σ) F3 H3 d ts x u I3' Dk.fh (by rw[<-Ql];simp) rx (by rw[hK];exact q3) Qe) ?_;rintro _ s4 ⟨vt,I4,dt⟩;rw[hK] at dt;have S4:StE X.K F3 H3 (vt.map some++σ) (ts.map (λt=>some (Sl.fz t))++ρ):=StE.cons ((S.ext e2).ext (wb.trans Dk)) dt;obtain⟨b,hb,ho⟩:=gn ho;refine pass ?_
    try rw[<-AU]
    refine b7 (Qc _ s4 _ H3 (λb' H5=>b'=b/\∃F5,Ext F3 H3 F5 H5) I4 ⟨F3,_,by rw[hK];exact S4,by rw[hb];exact WPB.take⟩) ?_;rintro b' s5 ⟨H5,I5,rfl,F5,GF⟩;have L9:H5 t0.heap.objs.size=some (.lst vs):=GF.hh _ _ NY;have NR:F5 t0.heap.objs.size=none:=by rw[GF.old NY (λ_ z=>nomatch z)];exact O4
    cases b' with
    |false=>
     rw[XH Ra] at ho⊢;obtain rfl:=eL ho;refine⟨ds.length - (i+1),by omega,i+1,F5,H5,vs,ys,vt.map some,rfl,eE,?_,I5.unpinned,(yb I5).1,(yb I5).2,wb.trans (Dk.trans GF),L9,NR,DenL.mono (Dk.trans GF).ff LD,JL⟩;have h1:=I5.len;have h2:=I3.len;rw[Q2] at h1 h2;omega
    |true=>
     rw[XG rfl] at ho⊢;obtain⟨yv,hy,ho⟩:=gn ho;obtain rfl:=eL ho;refine pass ?_
     try rw[<-AU]
     refine b7 (Po _ s5 _ H5 (λv H6=>∃F6,Ext F5 H5 F6 H6/\Den X.K F6 yv v) I5 ⟨F5,_,by rw[hK];exact S4.ext GF,by rw[hy,hK];exact WP.take⟩) ?_;rintro xv s6 ⟨v,H6,I6,rv,F6,Ll,qv⟩;have O_:H6 t0.heap.objs.size=some (.lst vs):=Ll.hh _ _ L9;have NS:F6 t0.heap.objs.size=none:=by rw[Ll.old L9 (λ_ z=>nomatch z)];exact NR
     have ML:vs.length<Q_:=by
      have:=LD.len;have:=d3;omega
     refine pass ?_;refine b7 (qG _ s6 _ H6 (.ref t0.heap.objs.size) [v] (.ref t0.heap.objs.size) [xv] (λ_ H7=>H7=upd H6 t0.heap.objs.size (.lst (vs++[v]))) I6 rfl (.cons rv .nil) ⟨_,vs,v,rfl,rfl,O_,ML,rfl⟩) ?_;rintro _ s7 ⟨_,H7,I7,_,rfl⟩;have O3:Ext F2 H2 F6 (upd H6 t0.heap.objs.size (.lst (vs++[v]))):=by
      have e:=wb.trans (Dk.trans (GF.trans Ll));refine⟨λb u q=>?_,e.ff,λb u q=>?_,e.new⟩
      ·rw[ay (M0 b u q)];exact e.hh b u q
      ·rw[ay (λz=>by rw[z,NS] at q;cases q)];exact e.fh b u q
     refine⟨ds.length - (i+1),by omega,i+1,F6,_,vs++[v],ys++[yv],vt.map some,rfl,eE,?_,I7.unpinned,(yb I7).1,(yb I7).2,O3,aJ,NS,
      DenL.append (DenL.mono (Dk.trans (GF.trans Ll)).ff LD) (.cons qv .nil),JL⟩
     have h1:=I5.len;have h2:=I3.len;rw[Q2] at h1 h2;omega
   ·
    have hi:i=ds.length:=by omega
    subst hi;rw[List.drop_length] at heq;have Pe:R=ys:=by
     rw[heq] at hR;have hR:aa (ys++[])=aa R:=hR;rw[<-eL hR,S3]
    subst Pe;refine pass ?_;rw[hP,hw];refine b7 (T.done X' hP hw hK FR ds.length [] s' (σt++σ) H' X'.xe I' (GI NU) jJ ((Oq F' H' ds.length wb.ff wb.fh).2 (Q0 _))) ?_;rintro r s1 ⟨rfl,I1⟩;obtain⟨m,hm,_⟩:=I1.loc;rw[AU] at hm;have O9:H' HL.objs.size=none:=by
     have:=I1.free;rw[AU] at this;exact this
    have u:=I1.base;rw[Pu,hex,Pb,Oh] at u;have MA:s1.os=t0.os:=by have:=I1.os;rw[Oh] at this;exact this
    have JM:=I1.hok;rw[hP,hw] at JM;refine Pd s1 HL.objs.size t0.heap.objs.size H' (I2.call' MA u JM I1.bare (λb hb=>⟨(f2 b hb).2.2.2.1,(f2 b hb).2.1,(f2 b hb).2.2.2.2.1,(f2 b hb).2.2.2.2.2⟩)) ?_
     ⟨⟨m,hm⟩,O9,RT (S7 I2.lt zi),RI I2.sz (SV zi),λx c q z=>?_,λp hp z=>?_⟩
    rotate_left
    ·obtain⟨v,q'⟩:=I2.cell x c q;exact XN (S7 q'.lt zi) (by rw[z];exact RC _)
    ·exact XN (S7 (QY (I2.pin p hp).1) zi) (by rw[z];exact RC _)
    refine WP.fin w2 (F':=upd F' t0.heap.objs.size (.lst vs)) ⟨wb.hh,λb u q=>?_,λb u q=>?_,λa ha=>?_⟩ ⟨_,vs,rfl,aJ,DenL.mono (λb u q=>?_) LD,N2⟩
    ·rw[ay (λz=>by have:=wb.ff b u q;rw[z,fD] at this;cases this)];exact wb.ff b u q
    ·by_cases z:b=t0.heap.objs.size
     ·rw[z,aJ] at q;rw[z,hD];exact q
     ·rw[ay z] at q;exact wb.fh b u q
    ·rcases wb.new a ha with q | q
     ·exact .inl (by rw[ay (λz=>ha (by rw[z];exact nD))];exact q)
     ·exact .inr q
    ·rw[ay (λz=>by rw[z,fD] at q;cases q)];exact q
  ·rw[zl];refine⟨0,F2,_,[],[],Rg (max n 1) none,by simp,Ry _,by simp,I0,T.keep _ _ _ xi (λb hb o e=>old b o e),λb hb=>?_,⟨λb u q=>?_,Same.refl _,λb u q=>?_,λ_ _=> .inl rfl⟩,aJ,Same.free e2.fh nD,rfl,?_⟩
   ·rw[ay (Rl (fl b hb))];exact(f2 b hb).1
   ·rw[ay (M0 b u q)];exact q
   ·rw[ay (M0 b u (e2.fh b u q))];exact e2.fh b u q
   ·rw[List.drop_zero];rcases(c_ (eS n δt δe ρ) ds).cs with hq | ⟨m,hq⟩ | ⟨R,hq⟩<;>rw[hq]<;>rfl
 exact codeAny_compStart_list (loop _ rfl) (T.self X.A 0 _ _ _ (T.keep _ _ _ xi (λb hb o e=>old b o e)) (loop _ rfl))
def Inv.block{C:Addr}(I:Inv X f8 σ H' s1)(b:BlockEnd X f8 C H' s1)(J4:R9 C s1.heap h'):Inv X f8 σ H' {s1 with heap:=h'}:=
 I.turned (λa o ha e=>(J4.2 a ha).trans e) b.free b.nl (.inr b.nw) b.nc b.np
section
variable{X:Cx}{Xw:Nat->Hp->Prop}{XY iter tg:Expr}{ifs:List Expr}{scope:Scope}{pos:Pos}{tn:List Str}{n:Nat}{δi:DA}{δt:DT}{δe:DE}
def bQ(sc:CompSc X scope tn)(hn:tn.length=max n 1)(hc:X.calm=true)(hi:vP X Xw tg iter δi)
 (hg:∀f8 cl C fp t0 H σ,yQ (i_ X scope tn f8 cl C fp t0 H) tg n σ)
 (ht:∀f8 cl C fp t0 H,kT (i_ X scope tn f8 cl C fp t0 H) ifs δt)
 (he:∀f8 cl C fp t0 H,PD (i_ X scope tn f8 cl C fp t0 H) (λ_ _=>False) XY δe)
 (hs:∀x,UX iter X.env x=pure x:=by intro _;rfl):
 PD X Xw (.ListComp XY [⟨tg,iter,ifs,0⟩] scope pos) (aS n δi δt δe):=by
 intro f8 s σ H Q I ⟨F,ρ,S,w⟩;obtain⟨cl,A9,AE,IG⟩:=ny λy hy hf=>I.ok.has y.1 (sc.frees y hy hf);rw[eval_ListComp];refine W9 rfl hs A9 sc.kind sc.names (tZ (RR:=λu8 C=>compPost (model X.prog X.w) X.A X.xe none (EP X f8 σ Q) u8 C) sc hn hc hi hg ht he I S w AE IG λs1 C D H' I1 q b=>?_);obtain⟨m,hm⟩:=b.ns;exact⟨m,hm,λh' J4=>⟨.ref D,H',Inv.block I1 b J4,rfl,q⟩⟩
end
inductive Out where
 |nx (ρ:cp) | rt (d:D)
abbrev DS:=cp->M Out
structure StOk (K:QZ) (s0 X8 F H:Hp) (σ:St) (ρ:cp):Prop where
 ext:Ext s0 X8 F H
 st:StE K F H σ ρ
 len:ρ.length=σ.length
 own:∀(i:Nat) (c:C) (a:Addr),ρ[i]? =some (some (.ow c))->σ[i]? =some (some (.ref a))->X8 a=none
 sep:∀(i j:Nat) (c c':C) (a:Addr),ρ[i]? =some (some (.ow c))->ρ[j]? =some (some (.ow c'))->σ[i]? =some (some (.ref a))->σ[j]? =some (some (.ref a))->i=j
def WPS(K:QZ)(Xw:Nat->Hp->Prop)(s0 X8:Hp)(m:M Out)(Dn:Ends):Prop:=
 match m with
 |none=>False
 |some (.ok (.nx ρ))=>∀σ F H,StOk K s0 X8 F H σ ρ->Dn.nx σ H
 |some (.ok (.rt d))=>∀v F H,Ext s0 X8 F H->Den K F d v->Dn.rt v H
 |some (.ex n)=>∀F H,Ext s0 X8 F H->Xw n H
def tS(K:QZ)(Xw:Nat->Hp->Prop)(s0 X8:Hp)(τ:DS):TS:=λDn σ H=>∃F ρ,StOk K s0 X8 F H σ ρ/\WPS K Xw s0 X8 (τ ρ) Dn
def fQ(X:Cx)(Xw:Nat->Hp->Prop)(st:Stmt)(τ:DS):Prop:=∀s0 X8,PS X st (tS X.K Xw s0 X8 τ)
def PSDs(X:Cx)(Xw:Nat->Hp->Prop)(st:List Stmt)(τ:DS):Prop:=∀s0 X8,PSs X st (tS X.K Xw s0 X8 τ)
def PS.weak{st:Stmt}(h:PS X st t)(k:∀D σ H,t' D σ H->t D σ H):PS X st t':=λf8 s σ H D I w=>h f8 s σ H D I (k D σ H w)
def PSs.weak{st:List Stmt}(h:PSs X st t)(k:∀D σ H,t' D σ H->t D σ H):PSs X st t':=λf8 s σ H D I w=>h f8 s σ H D I (k D σ H w)
section
variable{K:QZ}{s0 X8 F H F' H':Hp}{σ:St}{ρ:cp}
def StOk.ext'(s:StOk K s0 X8 F H σ ρ)(e:Ext F H F' H'):StOk K s0 X8 F' H' σ ρ:=⟨s.ext.trans e,s.st.ext e,s.len,s.own,s.sep⟩
def StOk.set(s:StOk K s0 X8 F H σ ρ){d:D}(h:Den K F d v):StOk K s0 X8 F H (σ.set i (some v)) (ρ.set i (some (.fz d))):=by
 have hl:=s.len;have get:∀(j:Nat) (sl:Sl),(ρ.set i (some (.fz d)))[j]? =some (some sl)->(j=i/\i<ρ.length/\sl= .fz d)\/(j≠i/\ρ[j]? =some (some sl)):=λj sl e=>by
  by_cases hj:j=i
  ·subst hj;have hi:j<ρ.length:=by
    have:=(Q4.mp e).1;simpa using this
   rw[Rh hi] at e;cases e;exact .inl ⟨rfl,hi,rfl⟩
  ·rw[Q7 (R3 hj)] at e;exact .inr ⟨hj,e⟩
 refine⟨s.ext,⟨s.st.fh,λj sl e=>?_⟩,by simp[hl],λj c a e e'=>?_,λj k c c' a e1 e2 e3 e4=>?_⟩
 ·rcases get j sl e with⟨rfl,hi,rfl⟩ | ⟨hj,e⟩
  ·exact⟨v,by rw[Rh (by omega)],h⟩
  ·obtain⟨u,h1,h2⟩:=s.st.den j sl e;exact⟨u,by rw[Q7 (R3 hj)];exact h1,h2⟩
 ·rcases get j _ e with⟨_,_,z⟩ | ⟨hj,e⟩
  ·cases z
  ·rw[Q7 (R3 hj)] at e';exact s.own j c a e e'
 ·rcases get j _ e1 with⟨_,_,z⟩ | ⟨hj,e1⟩
  ·cases z
  ·rcases get k _ e2 with⟨_,_,z⟩ | ⟨hk,e2⟩
   ·cases z
   ·rw[Q7 (R3 hj)] at e3;rw[Q7 (R3 hk)] at e4;exact s.sep j k c c' a e1 e2 e3 e4
def StOk.setNew(s:StOk K s0 X8 F H σ ρ){o:HO}(n:H a=none)(h:DenC K F c₀ o):
 StOk K s0 X8 F (upd H a o) (σ.set i (some (.ref a))) (ρ.set i (some (.ow c₀))):=by
 have hle:=s.len;have e0:=Ext.free (o:=o) s.st.fh n;have nF:F a=none:=Same.free s.st.fh n;have get:∀(j:Nat) (sl:Sl),(ρ.set i (some (.ow c₀)))[j]? =some (some sl)->(j=i/\i<ρ.length/\sl= .ow c₀)\/(j≠i/\ρ[j]? =some (some sl)):=λj sl e=>by
  by_cases hj:j=i
  ·subst hj;have hi:j<ρ.length:=by
    have:=(Q4.mp e).1;simpa using this
   rw[Rh hi] at e;cases e;exact .inl ⟨rfl,hi,rfl⟩
  ·rw[Q7 (R3 hj)] at e;exact .inr ⟨hj,e⟩
 have old:∀(j:Nat) (c:C) (b:Addr),ρ[j]? =some (some (.ow c))->σ[j]? =some (some (.ref b))->b≠a:=λj c b e e' z=>by
  obtain⟨u,h1,b',o,h2,h3,_⟩:=s.st.den j _ e;rw[h1] at e';cases e';cases h2;rw[z,n] at h3;cases h3
 refine⟨s.ext.trans e0,⟨e0.fh,λj sl e=>?_⟩,by simp[hle],λj c b e e'=>?_,λj k c c' b e1 e2 e3 e4=>?_⟩
 ·rcases get j sl e with⟨rfl,hi,rfl⟩ | ⟨hj,e⟩
  ·exact⟨.ref a,by rw[Rh (by omega)],a,_,rfl,aJ,nF,h⟩
  ·obtain⟨u,h1,h2⟩:=s.st.den j sl e;exact⟨u,by rw[Q7 (R3 hj)];exact h1,h2.ext e0⟩
 ·rcases get j _ e with⟨rfl,hi,_⟩ | ⟨hj,e⟩
  ·rw[Rh (by omega)] at e';cases e';exact Same.free s.ext.hh n
  ·rw[Q7 (R3 hj)] at e';exact s.own j c b e e'
 ·rcases get j _ e1 with⟨rfl,hi,_⟩ | ⟨hj,e1⟩
  ·rw[Rh (by omega)] at e3;cases e3;rcases get k _ e2 with⟨rfl,_,_⟩ | ⟨hk,e2⟩
   ·rfl
   ·rw[Q7 (R3 hk)] at e4;exact XN rfl (old k c' a e2 e4)
  ·rcases get k _ e2 with⟨Mw,hi,_⟩ | ⟨hk,e2⟩
   ·rw[Mw,Rh (by omega)] at e4;cases e4;rw[Q7 (R3 hj)] at e3;exact XN rfl (old j c a (by assumption) e3)
   ·rw[Q7 (R3 hj)] at e3;rw[Q7 (R3 hk)] at e4;exact s.sep j k c c' b e1 e2 e3 e4
def StOk.chg(s:StOk K s0 X8 F H σ ρ){c c₀:C}(hi:ρ[i]? =some (some (.ow c)))(ha:σ[i]? =some (some (.ref a)))(h:DenC K F c₀ X7):
 StOk K s0 X8 F (upd H a X7) σ (ρ.set i (some (.ow c₀))):=by
 have hle:=s.len;have h0:=s.own i c a hi ha;obtain⟨u,q1,a',o,q2,q3,q4,q5⟩:=s.st.den i _ hi;rw[ha] at q1;cases q1;cases q2;have Dr:i<ρ.length:=(Q4.mp hi).1;have get:∀(j:Nat) (sl:Sl),(ρ.set i (some (.ow c₀)))[j]? =some (some sl)->(j=i/\sl= .ow c₀)\/(j≠i/\ρ[j]? =some (some sl)):=λj sl e=>by
  by_cases hj:j=i
  ·subst hj;rw[Rh Dr] at e;cases e;exact .inl ⟨rfl,rfl⟩
  ·rw[Q7 (R3 hj)] at e;exact .inr ⟨hj,e⟩
 have fh:Same F (upd H a X7):=λb o e=>by
  rw[ay (λz=>by rw[z,q4] at e;cases e)];exact s.st.fh b o e
 refine⟨⟨λb o e=>?_,s.ext.ff,fh,s.ext.new⟩,⟨fh,λj sl e=>?_⟩,by simp[hle],λj c' b e e'=>?_,λj k c1 c2 b e1 e2 e3 e4=>?_⟩
 ·rw[ay (λz=>by rw[z,h0] at e;cases e)];exact s.ext.hh b o e
 ·rcases get j sl e with⟨rfl,rfl⟩ | ⟨hj,e⟩
  ·exact⟨.ref a,ha,a,_,rfl,aJ,q4,h⟩
  ·obtain⟨u,h1,h2⟩:=s.st.den j sl e;refine⟨u,h1,?_⟩;cases sl with
   |fz d=>exact h2
   |ow c'=>
    obtain⟨b,o',r1,r2,r3,r4⟩:=h2;refine⟨b,o',r1,?_,r3,r4⟩;rw[ay (λz=>hj (s.sep j i c' c a e hi (by rw[h1,r1,z]) ha))];exact r2
 ·rcases get j _ e with⟨rfl,_⟩ | ⟨hj,e⟩
  ·rw[ha] at e';cases e';exact h0
  ·exact s.own j c' b e e'
 ·have k1:∃c,ρ[j]? =some (some (.ow c)):=by
   rcases get j _ e1 with⟨rfl,_⟩ | ⟨_,e⟩
   ·exact⟨c,hi⟩
   ·exact⟨_,e⟩
  have k2:∃c,ρ[k]? =some (some (.ow c)):=by
   rcases get k _ e2 with⟨rfl,_⟩ | ⟨_,e⟩
   ·exact⟨c,hi⟩
   ·exact⟨_,e⟩
  obtain⟨_,k1⟩:=k1;obtain⟨_,k2⟩:=k2;exact s.sep j k _ _ b k1 k2 e3 e4
def frz(i:Nat)(ρ:cp):cp:=match ρ[i]? with
 |some (some (.ow c))=>ρ.set i (some (.fz c.d))
 |_=>ρ
def StOk.frz(s:StOk K s0 X8 F H σ ρ)(i:Nat)(obj:Addr->Obj):(∃a o,H a=some o/\DenC K F (ρ[i]?.elim (.lst []) λx=>x.elim (.lst []) λy=>match y with | .ow c=>c | _=> .lst []) o/\σ[i]? =some (some (.ref a))/\StOk K s0 X8 (upd F a (mI (obj a) o)) (upd H a (mI (obj a) o)) σ (frz i ρ))\/frz i ρ=ρ:=by
 unfold L3.frz;split
 ·rename_i c₀ hi;have hle:=s.len;obtain⟨u,ha,a,o,rfl,q3,q4,N_⟩:=s.st.den i _ hi;refine .inl ⟨a,o,q3,by rw[hi];exact N_,ha,?_⟩;have h0:=s.own i _ a hi ha;have Dr:i<ρ.length:=(Q4.mp hi).1;have ff:Same F (upd F a (mI (obj a) o)):=λb o e=>by rw[ay (λz=>by rw[z,q4] at e;cases e)];exact e
  have fh:Same (upd F a (mI (obj a) o)) (upd H a (mI (obj a) o)):=λb o e=>by
   by_cases z:b=a
   ·rw[z,aJ] at e⊢;exact e
   ·rw[ay z] at e⊢;exact s.st.fh b o e
  have get:∀(j:Nat) (sl:Sl),(ρ.set i (some (.fz c₀.d)))[j]? =some (some sl)->(j=i/\sl= .fz c₀.d)\/(j≠i/\ρ[j]? =some (some sl)):=λj sl e=>by
   by_cases hj:j=i
   ·subst hj;rw[Rh Dr] at e;cases e;exact .inl ⟨rfl,rfl⟩
   ·rw[Q7 (R3 hj)] at e;exact .inr ⟨hj,e⟩
  refine⟨⟨λb u q=>?_,s.ext.ff.trans ff,fh,λb hb=>?_⟩,⟨fh,λj sl e=>?_⟩,by simp[hle],λj c' b e e'=>?_,λj k c1 c2 b e1 e2 e3 e4=>?_⟩
  ·rw[ay (λz=>by rw[z,h0] at q;cases q)];exact s.ext.hh b u q
  ·rcases s.ext.new b hb with q | q
   ·exact .inl (by rw[ay (λz=>hb (by rw[z];exact h0))];exact q)
   ·exact .inr q
  ·rcases get j sl e with⟨rfl,rfl⟩ | ⟨hj,e⟩
   ·exact⟨.ref a,ha,DenC.den N_ ff aJ⟩
   ·obtain⟨u,h1,h2⟩:=s.st.den j sl e;refine⟨u,h1,?_⟩;cases sl with
    |fz d=>exact Den.mono ff h2
    |ow c'=>
     obtain⟨b,o',r1,r2,r3,r4⟩:=h2;have jv:b≠a:=λz=>hj (s.sep j i c' _ a e hi (by rw[h1,r1,z]) ha);exact⟨b,o',r1,by rw[ay jv];exact r2,by rw[ay jv];exact r3,DenC.mono ff r4⟩
  ·rcases get j _ e with⟨_,z⟩ | ⟨hj,e⟩
   ·cases z
   ·exact s.own j c' b e e'
  ·rcases get j _ e1 with⟨_,z⟩ | ⟨_,e1⟩
   ·cases z
   ·rcases get k _ e2 with⟨_,z⟩ | ⟨_,e2⟩
    ·cases z
    ·exact s.sep j k _ _ b e1 e2 e3 e4
 ·exact .inr rfl
end
def join(F H:Hp):Hp:=λa=>match F a with
 |some o=>some o
 |none=>H a
def StOk.rebase{K:QZ}{s0 X8 F H:Hp}(s:StOk K s0 X8 F H σ ρ):StOk K F (join F X8) F H σ ρ/\∀F' H',Ext F (join F X8) F' H'->Ext s0 X8 F' H':=by
 have hj:Same (join F X8) H:=λb o e=>by
  unfold join at e;cases q:F b with
  |some u=>rw[q] at e;cases e;exact s.st.fh b _ q
  |none=>rw[q] at e;exact s.ext.hh b o e
 have h0:Same X8 (join F X8):=λb o e=>by
  unfold join;cases q:F b with
  |some u=>
   have h1:=s.st.fh b u q;rw[s.ext.hh b o e] at h1;exact h1.symm
  |none=>exact e
 refine⟨⟨⟨hj,Same.refl _,s.st.fh,λ_ _=> .inl rfl⟩,s.st,s.len,λi c a e e'=>?_,s.sep⟩,λF' H' x=>⟨h0.trans x.hh,s.ext.ff.trans x.ff,x.fh,λa ha=>?_⟩⟩
 ·have h1:=s.own i c a e e';obtain⟨v,q1,a',o,q2,q3,q4,_⟩:=s.st.den i _ e;rw[e'] at q1;cases q1;cases q2;unfold join;rw[q4];exact h1
 ·have:join F X8 a≠none:=by
   cases q:X8 a with
   |none=>exact XN q ha
   |some o=>rw[h0 a o q];exact λz=>nomatch z
  rcases s.ext.new a ha with p | p
  ·rcases x.new a this with q | ⟨ts,q⟩
   ·exact .inl (q.trans p)
   ·cases z:X8 a with
    |none=>exact XN z ha
    |some o=>
     rw[h0 a o z] at q;exact .inr ⟨ts,q⟩
  ·exact .inr p
def StOk.unbase{K:QZ}{s0 X8 F U F' H':Hp}(k:∀F' H',Ext F U F' H'->Ext s0 X8 F' H')(s:StOk K F U F' H' σ ρ)(h:Same X8 U):StOk K s0 X8 F' H' σ ρ:=
 ⟨k _ _ s.ext,s.st,s.len,λi c a e e'=>Same.free h (s.own i c a e e'),s.sep⟩
def zt{K:QZ}{s0 X8 F H:Hp}(s:StOk K s0 X8 F H σ ρ):Same X8 (join F X8):=λb o e=>by
 unfold join;cases q:F b with
 |some u=>
  have h1:=s.st.fh b u q;rw[s.ext.hh b o e] at h1;exact h1.symm
 |none=>exact e
def Inv.refrz(I:Inv X f8 σ H s)(e:H a=some o)
 (ho:o'=o\/∃u,o'= .frz ((s.heap.get? a).getD {cls:= .none,data:= .fields #[]}) u/\((∃k,o= .dT k/\u= .dT k)\/∃k,o= .dK k/\u= .dK k)):Inv X f8 σ (upd H a o') s:=by
 rcases ho with rfl | ⟨u,rfl,hu⟩
 ·have:upd H a o'=H:=by
   funext b;by_cases z:b=a
   ·rw[z,aJ,e]
   ·rw[ay z]
  rw[this];exact I
 have P2:o=u:=by rcases hu with⟨k,h1,h2⟩ | ⟨k,h1,h2⟩<;>rw[h1,h2]
 subst P2;have nt:∀ts,o≠ .tup ts:=λts z=>by rcases hu with⟨k,h1,_⟩ | ⟨k,h1,_⟩<;>rw[h1] at z<;>cases z
 have nf:∀ob v,o≠ .frz ob v:=λob v z=>by rcases hu with⟨k,h1,_⟩ | ⟨k,h1,_⟩<;>rw[h1] at z<;>cases z
 have nb:∀p,o≠ .tbl p:=λp z=>by rcases hu with⟨k,h1,_⟩ | ⟨k,h1,_⟩<;>rw[h1] at z<;>cases z
 have no:∀p,o≠ .own p:=λp z=>by rcases hu with⟨k,h1,_⟩ | ⟨k,h1,_⟩<;>rw[h1] at z<;>cases z
 have ne:∀b,H b=none->b≠a:=λb hb z=>by rw[z,e] at hb;cases hb
 have hk:=I.hok a o e;have eE:=hk.lt;obtain⟨ob,JW⟩:∃ob,s.heap.get? a=some ob:=by
  rcases hu with⟨k,h1,_⟩ | ⟨k,h1,_⟩
  ·subst h1;obtain⟨_,_,_,_,ob,_,_,q,_⟩:=hk;exact⟨ob,q⟩
  ·subst h1;obtain⟨_,_,_,_,ob,_,_,q,_⟩:=hk;exact⟨ob,q⟩
 rw[JW];refine⟨I.ok,I.os,I.bare,⟨I.base.keep,I.base.slot,λb q h1 h2 h3=>?_,I.base.there,λb xs q=>?_,λb q1 v q=>?_,λb ps q=>?_⟩,I.loc,I.cell,?_,λx c q=>?_,λp hp=>?_,λb v q=>?_,I.len⟩
 ·have:=I.base.free b q h1 h2 h3;rw[ay (ne b this)];exact this
 ·have:=I.base.tups b xs q;rw[ay (λz=>by rw[z,e] at this;exact nt xs (Rx this))];exact this
 ·have:=I.base.frzs b q1 v q;rw[ay (λz=>by rw[z,e] at this;exact nf _ _ (Rx this))];exact this
 ·obtain⟨m,this⟩:=I.base.tbls b ps q;exact⟨m,by rw[ay (λz=>by rw[z,e] at this;exact nb _ (Rx this))];exact this⟩
 ·rw[ay (ne _ I.free)];exact I.free
 ·rw[ay (ne _ (I.freeC x c q))];exact I.freeC x c q
 ·obtain⟨h1,h2,h3⟩:=I.pin p hp;exact⟨h1,by rw[ay (ne _ h2)];exact h2,h3⟩
 ·have st:∀{c:Addr}{v:HO},ObjOk X.prog X.w H s.heap c v->ObjOk X.prog X.w (upd H a (.frz ob o)) s.heap c v:=λ{c v} k=>k.stay (λ_ _ _ q=>q)
   (λc' q=>by rw[ay (λz=>by rw[z,e] at q;exact no _ (Rx q))];exact q) λc' xs q=>by rw[ay (λz=>by rw[z,e] at q;exact nt _ (Rx q))];exact q
  by_cases z:b=a
  ·subst z;rw[show (some ob).getD _=ob from rfl,aJ] at q;cases q;exact⟨JW,st hk⟩
  ·rw[ay z] at q;exact st (I.hok b v q)
def aI(a b:DS):DS:=λρ=>a ρ>>=λo=>match o with | .nx ρ'=>b ρ' | .rt d=>aa (.rt d)
def eM:DS:=λρ=>aa (.nx ρ)
def bF(δ:DE):DS:=λρ=>δ ρ>>=λd=>aa (.rt d)
def ig(δ:DE):DS:=λρ=>δ ρ>>=λ_=>aa (.nx ρ)
def bL(i:Nat)(δ:DE):DS:=λρ=>δ ρ>>=λd=>aa (.nx (ρ.set i (some (.fz d))))
def kB(c:DT)(a b:DS):DS:=λρ=>c ρ>>=λx=>if x then a ρ else b ρ
def CK(i:Nat)(a:DS):DS:=λρ=>a (frz i ρ)
def zV(i:Nat):DS:=λρ=>aa (.nx (ρ.set i (some (.ow (.lst [])))))
def zN(ρ:cp)(i:Nat):Option (List D):=match ρ[i]? with
 |some (some (.ow (.lst ds)))=>some ds
 |_=>none
def qM{i:Nat}(h:zN ρ i=some ds):ρ[i]? =some (some (.ow (.lst ds))):=by
 unfold zN at h;split at h
 ·rename_i ds' e;cases h;exact e
 ·cases h
def vf(i:Nat)(δ:DE):DS:=λρ=>match zN ρ i with
 |some ds=>δ ρ>>=λd=>if ds.length<lim then aa (.nx (ρ.set i (some (.ow (.lst (ds++[d])))))) else af
 |none=>af
def CI(i:Nat)(δ:DE):DS:=λρ=>match zN ρ i with
 |some ds=>δ ρ>>=λd=>lstM d>>=λes=>if ds.length+es.length<=lim then aa (.nx (ρ.set i (some (.ow (.lst (ds++es)))))) else af
 |none=>af
def forL(put:D->cp->Option cp)(body:DS):List D->DS
 |[],ρ=>aa (.nx ρ)
 |d::ds,ρ=>(match put d ρ with | none=>af | some ρ1=>body ρ1>>=λo=>match o with | .nx ρ2=>forL put body ds ρ2 | .rt v=>aa (.rt v))
def putN(i:Nat):D->cp->Option cp:=λd ρ=>some (ρ.set i (some (.fz d)))
def ez(put:D->cp->Option cp)(δi:DA)(body:DS):DS:=λρ=>δi ρ>>=λds=>forL put body ds ρ
section
variable{X:Cx}{Xw:Nat->Hp->Prop}{s0 X8:Hp}{st:Stmt}{T0:List Stmt}{τ τ':DS}{e:Expr}{δ:DE}{pos:Pos}
def bA:PSDs X Xw [] eM:=λs0 X8=>PSs.weak E6 λD σ H ⟨F,ρ,s,w⟩=>w σ F H s
def aj(h1:fQ X Xw st τ)(h2:PSDs X Xw T0 τ'):PSDs X Xw (st::T0) (aI τ τ'):=λs0 X8=>PSs.weak (Ck (h1 s0 X8) (h2 s0 X8)) λD σ H ⟨F,ρ,s,w⟩=>by
 refine⟨F,ρ,s,?_⟩;unfold aI at w
 match τ ρ,w with
 |none,w=>exact w
 |some (.ok (.nx ρ')),w=>exact λσ' F' H' s'=>⟨F',ρ',s',w⟩
 |some (.ok (.rt d)),w=>exact w
 |some (.ex n),w=>exact w
def ar(h1:fQ X Xw st τ):PSDs X Xw [st] τ:=λs0 X8=>E7 (h1 s0 X8)
def fE{i:Nat}(h:fQ X Xw st τ):fQ X Xw st (CK i τ):=λs0 X8 f8 sh σ H D I ⟨F,ρ,s,w⟩=>by
 rcases s.frz i (λa=>(sh.heap.get? a).getD {cls:= .none,data:= .fields #[]}) with⟨a,o,ha,hc,hσ,s'⟩ | e
 ·refine h s0 X8 f8 sh σ _ D (L3.Inv.refrz I ha ?_) ⟨_,_,s',w⟩;generalize (ρ[i]?.elim (C.lst []) λx=>x.elim (.lst []) λy=>match y with | .ow c=>c | _=> .lst [])=c at hc;cases c with
  |lst ds=>obtain⟨vs,rfl,_⟩:=hc;exact .inl rfl
  |dct ks ds=>obtain⟨vs,rfl,_⟩:=hc;exact .inr ⟨_,rfl, .inl ⟨_,rfl,rfl⟩⟩
  |dci ks ds=>obtain⟨vs,rfl,_⟩:=hc;exact .inr ⟨_,rfl, .inr ⟨_,rfl,rfl⟩⟩
 ·exact h s0 X8 f8 sh σ H D I ⟨F,ρ,s,by unfold CK at w;rw[e] at w;exact w⟩
def aD(h:PD X Xw e δ):fQ X Xw (.Return (some e) pos) (bF δ):=λs0 X8=>PS.weak (H_ h) λD σ H ⟨F,ρ,s,w⟩=>by
 refine⟨F,ρ,s.st,?_⟩;unfold bF at w
 match δ ρ,w with
 |none,w=>exact w
 |some (.ok d),w=>exact λv H' F' e' q=>w v F' H' (s.ext.trans e') q
 |some (.ex n),w=>exact λF' H' e'=>w F' H' (s.ext.trans e')
def dj(h:PD X Xw e δ)(hs:UW e none pos.line X.env=pure false:=by rfl):fQ X Xw (.Expr e pos) (ig δ):=λs0 X8=>PS.weak (m6 h hs) λD σ H ⟨F,ρ,s,w⟩=>by
 refine⟨F,ρ,s.st,?_⟩;unfold ig at w
 match δ ρ,w with
 |none,w=>exact w
 |some (.ok d),w=>exact λv H' F' e' q=>w σ F' H' (s.ext' e')
 |some (.ex n),w=>exact λF' H' e'=>w F' H' (s.ext.trans e')
def aQ{x:Str}(hN:X.N.Nodup)(hi:X.N[i]? =some x)(hx:Loc X.env.scope x)(he:PD X Xw e δ)(hf:X.fn x=true\/X.env.scope.names.lookup x=some .local:=by first | exact .inl rfl | exact .inr rfl)
 (hs:VJ [.Name x pos'] e pos.line X.env=pure false:=by rfl):
 fQ X Xw (.Assign [.Name x pos'] e pos) (bL i δ):=λs0 X8=>PS.weak (oW he (ba hN hi hx hf) hs) λD σ H ⟨F,ρ,s,w⟩=>by
 refine⟨F,ρ,s.st,?_⟩;unfold bL at w
 match δ ρ,w with
 |none,w=>exact w
 |some (.ok d),w=>exact λv H' F' e' q=>w _ F' H' ((s.ext' e').set q)
 |some (.ex n),w=>exact λF' H' e'=>w F' H' (s.ext.trans e')
def dD(hN:X.N.Nodup)(DW:X.N[i]? =some x)(hx:Loc X.env.scope x)
 (sc:CompSc X scope tn)(hn:tn.length=max n 1)(hc:X.calm=true)(hi:vP X Xw tg iter δi)
 (hg:∀f8 cl C fp t0 H σ,yQ (i_ X scope tn f8 cl C fp t0 H) tg n σ)
 (ht:∀f8 cl C fp t0 H,kT (i_ X scope tn f8 cl C fp t0 H) ifs δt)
 (he:∀f8 cl C fp t0 H,PD (i_ X scope tn f8 cl C fp t0 H) (λ_ _=>False) XY δe)
 (hf:X.fn x=true\/X.env.scope.names.lookup x=some .local:=by first | exact .inl rfl | exact .inr rfl)
 (Qb:UW (.ListComp XY [⟨tg,iter,ifs,0⟩] scope a6) (some (.Name x pos')) pos.line X.env=pure true:=by rfl)
 (hs:∀x,UX iter X.env x=pure x:=by intro _;rfl):
 fQ X Xw (.Assign [.Name x pos'] (.ListComp XY [⟨tg,iter,ifs,0⟩] scope a6) pos) (bL i (aS n δi δt δe)):=λs0 X8 f8 s σ H D I ⟨F,ρ,S,w⟩=>by
 obtain⟨cl,A9,AE,IG⟩:=ny λy hy hf=>I.ok.has y.1 (sc.frees y hy hf);have w':WP X.K Xw F H (aS n δi δt δe ρ) (λv H'=>D.nx (σ.set i (some v)) H'):=by
  have w:WPS X.K Xw s0 X8 (aS n δi δt δe ρ>>=λd=>aa (.nx (ρ.set i (some (.fz d))))) D:=w
  match aS n δi δt δe ρ,w with
  |none,w=>exact w
  |some (.ok d),w=>exact λv H' F' e' q=>w _ F' H' ((S.ext' e').set q)
  |some (.ex n),w=>exact λF' H' e'=>w F' H' (S.ext.trans e')
 rw[exec_Assign_Name_used _ _ _ _ Qb];refine QL (wpAny_standAt (QL ?_));show wpAny _ X.A (do let _<-comprehension (.ListComp XY [⟨tg,iter,ifs,0⟩] scope a6) scope X.env _ (newList []) false (eval iter X.env) (some (assign (.Name x pos') X.env))) _ _ s;refine QL (R8 (W9 rfl hs A9 sc.kind sc.names
  (tZ sc hn hc hi hg ht he I S.st w' AE IG λs1 C D' H' I1 q b=>?_)) (λ_ s' hq=>QP (QP hq)) λ_ _ e=>e)
 show wpAny _ X.A (assign (.Name x pos') X.env (.ref D')) _ _ _;refine V3 (rh I1 hN DW hx (v:= .ref D') rfl (λs2 I2 ⟨a,sb,ha⟩=>?_) hf);have O8:C≠a:=by
  rcases ha with z | z
  ·rw[z];exact b.nl
  ·exact R3 (b.nc x a z)
 obtain⟨m,hm⟩:=b.ns;have JS:s2.heap.Ns C m:=hm.sameBut sb O8;refine⟨m,JS,λh' J4=>⟨_,H',Inv.block I2 ⟨⟨m,JS⟩,b.free,b.nl,b.nw,b.nc,b.np⟩ J4,q⟩⟩
def cj{a b:List Stmt}(hc:pE X Xw c tc)(ha:PSDs X Xw a τ)(hb:PSDs X Xw b τ'):fQ X Xw (.If c a b pos) (kB tc τ τ'):=λs0 X8=>PS.weak (KD hc (ha s0 X8) (hb s0 X8)) λD σ H ⟨F,ρ,s,w⟩=>by
 refine⟨F,ρ,s.st,?_⟩;unfold kB at w
 match tc ρ,w with
 |none,w=>exact w
 |some (.ok true),w=>exact λH' F' e'=>⟨F',ρ,s.ext' e',w⟩
 |some (.ok false),w=>exact λH' F' e'=>⟨F',ρ,s.ext' e',w⟩
 |some (.ex n),w=>exact λF' H' e'=>w F' H' (s.ext.trans e')
def m7{pos' H0:Pos}(hN:X.N.Nodup)(hi:X.N[i]? =some x)(hx:Loc X.env.scope x)(hf:X.fn x=true\/X.env.scope.names.lookup x=some .local:=by first | exact .inl rfl | exact .inr rfl):
 fQ X Xw (.Assign [.Name x pos'] (.List [] H0) pos) (zV i):=λs0 X8=>PS.weak (oW (Cf sv) (ba hN hi hx hf) rfl) λD σ H ⟨F,ρ,s,w⟩=>by
 refine⟨Ry _,λp hp=>?_⟩;exact w _ F _ (s.setNew hp ⟨[],rfl,rfl,Ry _⟩)
def xy(K:QZ)(g:TG)(put:D->cp->Option cp):Prop:=∀(s0 X8 F H:Hp) (σ:St) (ρ ρ':cp) (d:D) (v:V) (Q:St->Hp->Prop),StOk K s0 X8 F H σ ρ->Den K F d v->put d ρ=some ρ'->
 (∀σ',StOk K s0 X8 F H σ' ρ'->Q σ' H)->g v σ H Q
def cG{K:QZ}{i:Nat}:xy K (A3 i) (putN i):=λs0 X8 F H σ ρ ρ' d v Q s q e k=>by
 cases e;exact k _ (s.set q)
def Qx(K:QZ)(Xw:Nat->Hp->Prop)(τ:DS):TS:=λD σ H=>∃s0 X8,tS K Xw s0 X8 τ D σ H
def PSDs.ex{body:List Stmt}(h:PSDs X Xw body τ):PSs X body (Qx X.K Xw τ):=λf8 s σ H D I ⟨s0,X8,w⟩=>h s0 X8 f8 s σ H D I w
def cM{tg iter:Expr}{body:List Stmt}(hp:PassesOwn (model X.prog X.w) X.A X.env X.xe)(hc:X.calm=true)(hi:vP X Xw tg iter δi)(hg:PG X tg g)(G2:xy X.K g put)(hb:PSDs X Xw body τ)
 (hs:∀x,UX iter X.env x=pure x:=by intro _;rfl):fQ X Xw (.For tg iter body [] pos) (ez put δi τ):=λs0 X8=>PS.weak (H9 hp hc hi hg hb.ex hs) λD σ H ⟨F,ρ,s,w⟩=>by
 refine⟨F,ρ,s.st,?_⟩;unfold ez at w
 match δi ρ,w with
 |none,w=>exact w
 |some (.ex n),w=>exact λF' H' e'=>w F' H' (s.ext.trans e')
 |some (.ok ds),w=>
  have w:WPS X.K Xw s0 X8 (forL put τ ds ρ) D:=w;intro J H1 F1 e1 Ot;obtain⟨s1,back⟩:=(s.ext' e1).rebase;have hU:=zt (s.ext' e1);generalize join F1 X8=U at s1 back hU;refine⟨λi m σ H=>m=ds.length - i/\i<=ds.length/\∃F ρ,StOk X.K F1 U F H σ ρ/\WPS X.K Xw s0 X8 (forL put τ (ds.drop i) ρ) D,⟨ds.length,by simp,Ry _,F1,ρ,s1,by simpa using w⟩,?_⟩;rintro i m σ2 H2 ⟨rfl,Mr,F2,ρ2,s2,w2⟩;by_cases eE:i<ds.length
  ·obtain⟨d,hd⟩:∃d,ds[i]? =some d:=⟨_,QN eE⟩
   obtain⟨Mp,G3⟩:=(Ot F2 H2 i s2.ext.ff s2.st.fh).1 d hd;have ed:ds.drop i=d::ds.drop (i+1):=by
    obtain⟨hi,e⟩:=Q4.mp hd;rw[Wk hi,e]
   rw[ed] at w2;unfold forL at w2;refine .inr ⟨Mp,λσ' H'=>∃F' ρ',StOk X.K F1 U F' H' σ' ρ'/\WPS X.K Xw s0 X8 (forL put τ (ds.drop (i+1)) ρ') D,λσ' H' ⟨F',ρ',h2,h3⟩=>⟨ds.length - (i+1),by omega,rfl,eE,F',ρ',h2,h3⟩,λx H3 y3=>?_⟩;obtain⟨F3,Dk,q3⟩:=G3 x H3 y3
   match P5:put d ρ2,w2 with
   |none,w2=>exact w2.elim
   |some ρ3,w2=>
    refine G2 F1 U F3 H3 σ2 ρ2 ρ3 d x _ (s2.ext' Dk) q3 P5 λσ3 s3=>⟨F1,U,F3,ρ3,s3,?_⟩
    have w2:WPS X.K Xw s0 X8 (τ ρ3>>=λo=>match o with | .nx ρ2=>forL put τ (ds.drop (i+1)) ρ2 | .rt v=>aa (.rt v)) D:=w2
    match τ ρ3,w2 with
    |none,w2=>exact w2
    |some (.ok (.nx ρ')),w2=>exact λσ' F' H' s'=>⟨F',ρ',s',w2⟩
    |some (.ok (.rt d)),w2=>exact λv F' H' e q=>w2 v F' H' (back _ _ e) q
    |some (.ex n),w2=>exact λF' H' e=>w2 F' H' (back _ _ e)
  ·have hi:i=ds.length:=by omega
   subst hi;rw[List.drop_length] at w2;exact .inl ⟨(Ot F2 H2 ds.length s2.ext.ff s2.st.fh).2 (Q0 _),w2 σ2 F2 H2 (s2.unbase back hU)⟩
end
def gI(f:Int->Int->D):D->D->M D
 | .int i, .int j=>aa (f i j)
 |_,_=>af
def Jx(c:Int->Int->Bool)(f:Int->Int->D):D->D->M D
 | .int i, .int j=>if c i j then aa (f i j) else af
 |_,_=>af
def uX{K:QZ}{gd:Int->Int->D}(h:∀F i j,Den K F (gd i j) (gv i j)):vO K (Ap gv) (gI gd):=λXw F H x y dx dy Q s hx hy w=>by
 unfold gI at w;split at w
 ·rename_i i j;exact⟨i,j,hx,hy,WP.now w s (h F i j)⟩
 ·exact w.elim
def wO{K:QZ}{C:Int->Int->Prop}(h:∀F i j,Den K F (gd i j) (gv i j))(hc:∀i j,c i j=true->C i j):vO K (rI C gv) (Jx c gd):=λXw F H x y dx dy Q s hx hy w=>by
 unfold Jx at w;split at w
 ·rename_i i j;split at w
  ·rename_i Ls;exact⟨i,j,hx,hy,hc i j Ls,WP.now w s (h F i j)⟩
  ·exact w.elim
 ·exact w.elim
def dE:=gI λi j=> .int (i+j)
def gS:=gI λi j=> .int (i - j)
def i2:=Jx (λi j=>decide ((-(2 ^ 64)<i/\i<2 ^ 64)\/(-(2 ^ 64)<j/\j<2 ^ 64))) λi j=> .int (i*j)
def pI:=Jx (λ_ j=>decide (0<j/\j<1073741824)) λi j=> .int (i / j)
def jZ:=Jx (λ_ j=>decide (0<j)) λi j=> .int (i % j)
def GJ:=gI λi j=> .bl (decide (i<j))
def Jw:=gI λi j=> .bl (decide (j<=i))
section
variable{X:Cx}{Xw:Nat->Hp->Prop}{a b:Expr}{δa δb:DE}{pos:Pos}
def cg(ha:PD X Xw a δa)(hb:PD X Xw b δb):PD X Xw (.BinOp a .Add b pos) (d2 dE δa δb):=ml Hu (uX λ_ _ _=>rfl) ha hb
def fb(ha:PD X Xw a δa)(hb:PD X Xw b δb):PD X Xw (.BinOp a .Sub b pos) (d2 gS δa δb):=ml HB (uX λ_ _ _=>rfl) ha hb
def jB(ha:PD X Xw a δa)(hb:PD X Xw b δb):PD X Xw (.BinOp a .Mult b pos) (d2 i2 δa δb):=ml Hy (wO (λ_ _ _=>rfl) λi j h=>by unfold CMul;exact XO h) ha hb
def sx(ha:PD X Xw a δa)(hb:PD X Xw b δb):PD X Xw (.BinOp a .FloorDiv b pos) (d2 pI δa δb):=ml Ex (wO (λ_ _ _=>rfl) λi j h=>by unfold Jb;exact XO h) ha hb
def lu(ha:PD X Xw a δa)(hb:PD X Xw b δb):PD X Xw (.BinOp a .Mod b pos) (d2 jZ δa δb):=ml Hx (wO (λ_ _ _=>rfl) λi j h=>XO h) ha hb
def Gf(ha:PD X Xw a δa)(hb:PD X Xw b δb):pE X Xw (.Compare a [.Lt] [b] pos) (dS (d2 GJ δa δb)):=fF F_ (uX λ_ _ _=>rfl) ha hb
def nK:D->D->M D
 | .lst ds, .int i=>match atI ds i with | some d=>aa d | none=>af
 |_,_=>af
def bD:D->D->M D
 | .tup ds, .int i=>match atI ds i with | some d=>aa d | none=>af
 |_,_=>af
def A1:D->D->M D
 | .scr ns, .int i=>match atI ns i with | some n=>aa (.int n) | none=>af
 |_,_=>af
def nL:D->D->M D
 | .str x, .int i=>match atI x.cps.toList i with | some c=>aa (.str ⟨#[c]⟩) | none=>af
 |_,_=>af
def DenL.atI{K:QZ}(h:DenL K F ds vs){d:D}(e:L2.atI ds i=some d):∃v,L2.atI vs i=some v/\Den K F d v:=by
 unfold L2.atI at e⊢;rw[<-h.len];cases q:Hc ds.length i with
 |none=>rw[q] at e;cases e
 |some j=>
  rw[q] at e;exact h.get e
def Ey{K:QZ}:vO K (Ij K) nK:=λXw F H x y dx dy Q s hx hy w=>by
 unfold nK at w;split at w
 ·rename_i ds i;obtain⟨a,vs,h1,h2,h3,h4⟩:=hx;split at w
  ·rename_i d e;obtain⟨v,e1,q⟩:=h3.atI e;exact⟨a,vs,i,v,h1,hy,SqL.of (s _ _ h2),e1,WP.now w s q⟩
  ·exact w.elim
 ·exact w.elim
def EB{K:QZ}:vO K (KR K) bD:=λXw F H x y dx dy Q s hx hy w=>by
 unfold bD at w;split at w
 ·rename_i ds i;obtain⟨a,vs,h1,h2,h3,h4⟩:=hx;split at w
  ·rename_i d e;obtain⟨v,e1,q⟩:=h3.atI e;exact⟨a,vs,i,v,h1,hy,SqT.of (s _ _ h2),e1,WP.now w s q⟩
  ·exact w.elim
 ·exact w.elim
def Ez{K:QZ}:vO K (Ij K) A1:=λXw F H x y dx dy Q s hx hy w=>by
 unfold A1 at w;split at w
 ·rename_i ns i;obtain⟨a,h1,h2,h3⟩:=hx;split at w
  ·rename_i n e;refine⟨a,_,i, .int n,h1,hy,Same.seq s h2,?_,WP.now w s rfl⟩;unfold L2.atI at e⊢;rw[QM];cases q:Hc ns.length i with
   |none=>rw[q] at e;cases e
   |some j=>
    rw[q] at e;have e:ns[j]? =some n:=e;show (ns.map V.int)[j]? =some (.int n);rw[Q1,e];rfl
  ·exact w.elim
 ·exact w.elim
def EA{K:QZ}:vO K KQ nL:=λXw F H x y dx dy Q s hx hy w=>by
 unfold nL at w;split at w
 ·rename_i z i;obtain⟨h1,h2⟩:=hx;split at w
  ·rename_i c e;exact⟨z,i,c,h1,hy,by have:=d3;omega,e,WP.now w s ⟨rfl,by show 1<=lim;decide⟩⟩
  ·exact w.elim
 ·exact w.elim
def sA(ha:PD X Xw a δa)(hb:PD X Xw b δb)(hs:iz b:=by intro _ _;rfl):PD X Xw (.Subscript a b pos) (d2 nK δa δb):=yr ya Ey ha hb hs
def HH(ha:PD X Xw a δa)(hb:PD X Xw b δb)(hs:iz b:=by intro _ _;rfl):PD X Xw (.Subscript a b pos) (d2 A1 δa δb):=yr ya Ez ha hb hs
def bO(ha:PD X Xw a δa)(hb:PD X Xw b δb)(hs:iz b:=by intro _ _;rfl):PD X Xw (.Subscript a b pos) (d2 bD δa δb):=yr Hf EB ha hb hs
def wY(ha:PD X Xw a δa)(hb:PD X Xw b δb)(hs:iz b:=by intro _ _;rfl):PD X Xw (.Subscript a b pos) (d2 nL δa δb):=yr He EA ha hb hs
def AZ:D->D->M D
 | .lst x, .lst y=>if x.length+y.length<=lim then aa (.lst (x++y)) else af
 |_,_=>af
def GK:D->D->M D
 | .lst x, .int k=>if (0<=k/\k<=64)/\x.length*k.toNat<=lim then aa (.lst (Rg k.toNat x).flatten) else af
 |_,_=>af
def iw(x y:Str):(x++y).length=x.length+y.length:=by
 show (x.cps++y.cps).size=_;simp[Str.length]
def EF(ha:PD X Xw a δa)(hb:PD X Xw b δb):PD X Xw (.BinOp a .Add b pos) (d2 AZ δa δb):=ml Hv (λXw F H x y dx dy Q s hx hy w=>by
 unfold AZ at w;split at w
 ·rename_i i j;obtain⟨a,vs,h1,h2,h3,h4⟩:=hx;obtain⟨a',tO,k1,k2,k3,k4⟩:=hy;split at w
  ·rename_i hl;have e1:=h3.len;have e2:=k3.len;have:=d3;refine⟨a,a',vs,tO,h1,k1,s _ _ h2,s _ _ k2,by omega,λp hp=>?_⟩;exact WP.fin w (Ext.lay s hp) ⟨p,_,rfl,aJ,DenL.mono (Ext.lay s hp).ff (h3.append k3),by rw[Q2];exact hl⟩
  ·exact w.elim
 ·exact w.elim) ha hb
def DenL.rep{K:QZ}{vs:List V}(h:DenL K F ds vs):∀n:Nat,DenL K F (Rg n ds).flatten (Rg n vs).flatten
 |0=>rfl
 |n+1=>by
  rw[SG,SG,Ts,Ts];exact h.append (DenL.rep h n)
def HK(ha:PD X Xw a δa)(hb:PD X Xw b δb):PD X Xw (.BinOp a .Mult b pos) (d2 GK δa δb):=ml HA (λXw F H x y dx dy Q s hx hy w=>by
 unfold GK at w;split at w
 ·rename_i i k;obtain⟨a,vs,h1,h2,h3,h4⟩:=hx;split at w
  ·rename_i hl;obtain⟨⟨l1,l2⟩,l3⟩:=hl;have e1:=h3.len;have:=d3;refine⟨a,k,vs,h1,hy,s _ _ h2,by omega,by omega,by rw[<-e1];omega,λp hp=>?_⟩;exact WP.fin w (Ext.lay s hp) ⟨p,_,rfl,aJ,DenL.mono (Ext.lay s hp).ff (h3.rep _),by rw[len_rep,Uy];exact l3⟩
  ·exact w.elim
 ·exact w.elim) ha hb
end
end L3
namespace L3
open PySem PySem.Spec L2 SeqAt
open PyProof.Rows hiding St
def pH(f:D->D->Option Bool):List D->List D->Option Bool
 |[],[]=>some true
 |x::xs,y::ys=>match f x y,pH f xs ys with
  |some b,some r=>some (b&&r)
  |_,_=>none
 |[],_::_=>some false
 |_::_,[]=>some false
def v9:D->D->Option Bool
 | .non, .non=>some true
 | .bl a, .bl b=>some (a==b)
 | .bl a, .int j=>some ((if a then 1 else 0)==j)
 | .int i, .bl b=>some (i==(if b then 1 else 0))
 | .int i, .int j=>some (i==j)
 | .str x, .str y=>some (x==y)
 | .non, .bl _=>some false
 | .non, .int _=>some false
 | .non, .str _=>some false
 | .non, .lst _=>some false
 | .non, .tup _=>some false
 | .bl _, .non=>some false
 | .bl _, .str _=>some false
 | .bl _, .lst _=>some false
 | .bl _, .tup _=>some false
 | .int _, .non=>some false
 | .int _, .str _=>some false
 | .int _, .lst _=>some false
 | .int _, .tup _=>some false
 | .str _, .non=>some false
 | .str _, .bl _=>some false
 | .str _, .int _=>some false
 | .str _, .lst _=>some false
 | .str _, .tup _=>some false
 | .lst _, .non=>some false
 | .lst _, .bl _=>some false
 | .lst _, .int _=>some false
 | .lst _, .str _=>some false
 | .lst _, .tup _=>some false
 | .tup _, .non=>some false
 | .tup _, .bl _=>some false
 | .tup _, .int _=>some false
 | .tup _, .str _=>some false
 | .tup _, .lst _=>some false
 |_,_=>none
def nG:Nat->D->D->Option Bool
 |n+1, .tup xs, .tup ys=>pH (nG n) xs ys
 |n+1, .lst xs, .lst ys=>pH (nG n) xs ys
 |n+1, .scr xs, .lst ys=>pH (nG n) (xs.map D.int) ys
 |_,x,y=>v9 x y
structure EqAll (A:RQ) (s:QT) (u v:Value) (b:Bool):Prop where
 rc:RcAt A s u v b
 ne:RcNeAt A s u v (!b)
 eq:EqAt A s u v b
section
variable{X:Cx}{f8:List (Addr×Obj)}{σ:St}{F H:Hp}{s:QT}{A:RQ}
def eA(I:Inv X f8 σ H s)(hs:Same F H)(h:Den X.K F (.tup ds) v)(r:RelV v u):∃a vs aE,u= .ref a/\v= .ref a/\F a=some (.tup vs)/\DenL X.K F ds vs/\Vals vs aE/\s.heap.IsTuple a aE.toArray:=by
 obtain⟨a,vs,rfl,h2,h3,h4⟩:=h;obtain⟨aE,r1,p1,_⟩:=I.tuple (SqT.of (hs _ _ h2));exact⟨a,vs,aE,r,rfl,h2,h3,r1,p1⟩
def d4(I:Inv X f8 σ H s)(hs:Same F H)(h:Den X.K F (.lst ds) v)(r:RelV v u):∃a vs aE,u= .ref a/\v= .ref a/\F a=some (.lst vs)/\DenL X.K F ds vs/\Vals vs aE/\s.heap.IsList a aE.toArray:=by
 obtain⟨a,vs,rfl,h2,h3,h4⟩:=h;obtain⟨aE,r1,p1,_⟩:=I.list (SqL.of (hs _ _ h2));exact⟨a,vs,aE,r,rfl,h2,h3,r1,p1.isList⟩
def Io(I:Inv X f8 σ H s)(hs:Same F H)(h:Den X.K F (.scr ns) v)(r:RelV v u):∃a aE,u= .ref a/\v= .ref a/\SqL X.K F a (ns.map V.int)/\Vals (ns.map V.int) aE/\s.heap.IsList a aE.toArray:=by
 obtain⟨a,rfl,h2,h3⟩:=h;obtain⟨aE,r1,p1,_⟩:=I.list (Same.seq hs h2);exact⟨a,aE,r,rfl,h2,r1,p1.isList⟩
def ud(I:Inv X f8 σ H s)(hs:Same F H)(hu:A.units<cLine)(hx:Den X.K F x v)(hy:Den X.K F y w)(rx:RelV v u)(ry:RelV w t)(e:v9 x y=some b):EqAll A s u t b:=by
 cases x with
 |non=>
  cases y with
  |non=>
   cases e;cases (show _=_ from hx);cases rx;cases (show _=_ from hy);cases ry;exact⟨RcAt.none_none,RcNeAt.none_none,EqAt.same _⟩
  |bl d=>
   cases e;cases (show _=_ from hx);cases rx;cases (show _=_ from hy);cases ry;exact⟨RcAt.none_bool _,RcNeAt.none_bool _,EqAt.none_bool _⟩
  |int d=>
   cases e;cases (show _=_ from hx);cases rx;cases (show _=_ from hy);obtain⟨t2,rfl⟩:=ry;exact⟨RcAt.none_int _ _,RcNeAt.none_int _ _,EqAt.none_int _ _⟩
  |str d=>
   cases e;cases (show _=_ from hx);cases rx;cases (show _=_ from hy.1);obtain⟨t2,rfl⟩:=ry;exact⟨RcAt.none_str _ _,RcNeAt.none_str _ _,EqAt.none_str _ _⟩
  |raw d=>cases e
  |dct _ _=>cases e
  |dci _ _=>cases e
  |exc d=>cases e
  |scr d=>cases e
  |tup d=>
   cases e;cases (show _=_ from hx);cases rx;obtain⟨a2,_,_,rfl,_,_,_,_,p2⟩:=eA I hs hy ry;exact⟨RcAt.none_tuple p2 hu,RcNeAt.none_tuple p2 hu,EqAt.none_tuple p2 hu⟩
  |lst d=>
   cases e;cases (show _=_ from hx);cases rx;obtain⟨a2,_,_,rfl,_,_,_,_,p2⟩:=d4 I hs hy ry;exact⟨RcAt.none_list p2 hu,RcNeAt.none_list p2 hu,EqAt.none_list p2 hu⟩
 |bl c=>
  cases y with
  |non=>
   cases e;cases (show _=_ from hx);cases rx;cases (show _=_ from hy);cases ry;exact⟨RcAt.bool_none _,RcNeAt.bool_none _,EqAt.bool_none _⟩
  |bl d=>
   cases e;cases (show _=_ from hx);cases rx;cases (show _=_ from hy);cases ry;exact⟨RcAt.bool_bool _ _,RcNeAt.bool_bool _ _,EqAt.bool_bool _ _⟩
  |int d=>
   cases e;cases (show _=_ from hx);cases rx;cases (show _=_ from hy);obtain⟨t2,rfl⟩:=ry;exact⟨RcAt.bool_int _ _ _,RcNeAt.bool_int _ _ _,EqAt.bool_int _ _ _⟩
  |str d=>
   cases e;cases (show _=_ from hx);cases rx;cases (show _=_ from hy.1);obtain⟨t2,rfl⟩:=ry;exact⟨RcAt.bool_str _ _ _,RcNeAt.bool_str _ _ _,EqAt.bool_str _ _ _⟩
  |raw d=>cases e
  |dct _ _=>cases e
  |dci _ _=>cases e
  |exc d=>cases e
  |scr d=>cases e
  |tup d=>
   cases e;cases (show _=_ from hx);cases rx;obtain⟨a2,_,_,rfl,_,_,_,_,p2⟩:=eA I hs hy ry;exact⟨RcAt.bool_tuple _ p2 hu,RcNeAt.bool_tuple _ p2 hu,EqAt.bool_tuple _ p2 hu⟩
  |lst d=>
   cases e;cases (show _=_ from hx);cases rx;obtain⟨a2,_,_,rfl,_,_,_,_,p2⟩:=d4 I hs hy ry;exact⟨RcAt.bool_list _ p2 hu,RcNeAt.bool_list _ p2 hu,EqAt.bool_list _ p2 hu⟩
 |int c=>
  cases y with
  |non=>
   cases e;cases (show _=_ from hx);obtain⟨t1,rfl⟩:=rx;cases (show _=_ from hy);cases ry;exact⟨RcAt.int_none _ _,RcNeAt.int_none _ _,EqAt.int_none _ _⟩
  |bl d=>
   cases e;cases (show _=_ from hx);obtain⟨t1,rfl⟩:=rx;cases (show _=_ from hy);cases ry;exact⟨RcAt.int_bool _ _ _,RcNeAt.int_bool _ _ _,EqAt.int_bool _ _ _⟩
  |int d=>
   cases e;cases (show _=_ from hx);obtain⟨t1,rfl⟩:=rx;cases (show _=_ from hy);obtain⟨t2,rfl⟩:=ry;exact⟨RcAt.int_int _ _ _ _,RcNeAt.int_int _ _ _ _,EqAt.int_int _ _ _ _⟩
  |str d=>
   cases e;cases (show _=_ from hx);obtain⟨t1,rfl⟩:=rx;cases (show _=_ from hy.1);obtain⟨t2,rfl⟩:=ry;exact⟨RcAt.int_str _ _ _ _,RcNeAt.int_str _ _ _ _,EqAt.int_str _ _ _ _⟩
  |raw d=>cases e
  |dct _ _=>cases e
  |dci _ _=>cases e
  |exc d=>cases e
  |scr d=>cases e
  |tup d=>
   cases e;cases (show _=_ from hx);obtain⟨t1,rfl⟩:=rx;obtain⟨a2,_,_,rfl,_,_,_,_,p2⟩:=eA I hs hy ry;exact⟨RcAt.int_tuple _ _ p2 hu,RcNeAt.int_tuple _ _ p2 hu,EqAt.int_tuple _ _ p2 hu⟩
  |lst d=>
   cases e;cases (show _=_ from hx);obtain⟨t1,rfl⟩:=rx;obtain⟨a2,_,_,rfl,_,_,_,_,p2⟩:=d4 I hs hy ry;exact⟨RcAt.int_list _ _ p2 hu,RcNeAt.int_list _ _ p2 hu,EqAt.int_list _ _ p2 hu⟩
 |str c=>
  cases y with
  |non=>
   cases e;cases (show _=_ from hx.1);obtain⟨t1,rfl⟩:=rx;cases (show _=_ from hy);cases ry;exact⟨RcAt.str_none _ _,RcNeAt.str_none _ _,EqAt.str_none _ _⟩
  |bl d=>
   cases e;cases (show _=_ from hx.1);obtain⟨t1,rfl⟩:=rx;cases (show _=_ from hy);cases ry;exact⟨RcAt.str_bool _ _ _,RcNeAt.str_bool _ _ _,EqAt.str_bool _ _ _⟩
  |int d=>
   cases e;cases (show _=_ from hx.1);obtain⟨t1,rfl⟩:=rx;cases (show _=_ from hy);obtain⟨t2,rfl⟩:=ry;exact⟨RcAt.str_int _ _ _ _,RcNeAt.str_int _ _ _ _,EqAt.str_int _ _ _ _⟩
  |str d=>
   cases e;cases (show _=_ from hx.1);obtain⟨t1,rfl⟩:=rx;cases (show _=_ from hy.1);obtain⟨t2,rfl⟩:=ry;exact⟨RcAt.str_str _ _ _ _,RcNeAt.str_str _ _ _ _,EqAt.str_str _ _ _ _⟩
  |raw d=>cases e
  |dct _ _=>cases e
  |dci _ _=>cases e
  |exc d=>cases e
  |scr d=>cases e
  |tup d=>
   cases e;cases (show _=_ from hx.1);obtain⟨t1,rfl⟩:=rx;obtain⟨a2,_,_,rfl,_,_,_,_,p2⟩:=eA I hs hy ry;exact⟨RcAt.str_tuple _ _ p2 hu,RcNeAt.str_tuple _ _ p2 hu,EqAt.str_tuple _ _ p2 hu⟩
  |lst d=>
   cases e;cases (show _=_ from hx.1);obtain⟨t1,rfl⟩:=rx;obtain⟨a2,_,_,rfl,_,_,_,_,p2⟩:=d4 I hs hy ry;exact⟨RcAt.str_list _ _ p2 hu,RcNeAt.str_list _ _ p2 hu,EqAt.str_list _ _ p2 hu⟩
 |raw _=>cases y<;>cases e
 |dct _ _=>cases y<;>cases e
 |dci _ _=>cases y<;>cases e
 |exc _=>cases y<;>cases e
 |scr c=>cases y<;>cases e
 |tup c=>
  cases y with
  |non=>
   cases e;obtain⟨a1,_,_,rfl,_,_,_,_,p1⟩:=eA I hs hx rx;cases (show _=_ from hy);cases ry;exact⟨RcAt.tuple_none p1 hu,RcNeAt.tuple_none p1 hu,EqAt.tuple_none p1 hu⟩
  |bl d=>
   cases e;obtain⟨a1,_,_,rfl,_,_,_,_,p1⟩:=eA I hs hx rx;cases (show _=_ from hy);cases ry;exact⟨RcAt.tuple_bool _ p1 hu,RcNeAt.tuple_bool _ p1 hu,EqAt.tuple_bool _ p1 hu⟩
  |int d=>
   cases e;obtain⟨a1,_,_,rfl,_,_,_,_,p1⟩:=eA I hs hx rx;cases (show _=_ from hy);obtain⟨t2,rfl⟩:=ry;exact⟨RcAt.tuple_int _ _ p1 hu,RcNeAt.tuple_int _ _ p1 hu,EqAt.tuple_int _ _ p1 hu⟩
  |str d=>
   cases e;obtain⟨a1,_,_,rfl,_,_,_,_,p1⟩:=eA I hs hx rx;cases (show _=_ from hy.1);obtain⟨t2,rfl⟩:=ry;exact⟨RcAt.tuple_str _ _ p1 hu,RcNeAt.tuple_str _ _ p1 hu,EqAt.tuple_str _ _ p1 hu⟩
  |raw d=>cases e
  |dct _ _=>cases e
  |dci _ _=>cases e
  |exc d=>cases e
  |scr d=>cases e
  |tup d=>cases e
  |lst d=>
   cases e;obtain⟨a1,_,_,rfl,_,_,_,_,p1⟩:=eA I hs hx rx;obtain⟨a2,_,_,rfl,_,_,_,_,p2⟩:=d4 I hs hy ry;exact⟨RcAt.tuple_list p1 p2 hu,RcNeAt.tuple_list p1 p2 hu,EqAt.tuple_list p1 p2 hu⟩
 |lst c=>
  cases y with
  |non=>
   cases e;obtain⟨a1,_,_,rfl,_,_,_,_,p1⟩:=d4 I hs hx rx;cases (show _=_ from hy);cases ry;exact⟨RcAt.list_none p1 hu,RcNeAt.list_none p1 hu,EqAt.list_none p1 hu⟩
  |bl d=>
   cases e;obtain⟨a1,_,_,rfl,_,_,_,_,p1⟩:=d4 I hs hx rx;cases (show _=_ from hy);cases ry;exact⟨RcAt.list_bool _ p1 hu,RcNeAt.list_bool _ p1 hu,EqAt.list_bool _ p1 hu⟩
  |int d=>
   cases e;obtain⟨a1,_,_,rfl,_,_,_,_,p1⟩:=d4 I hs hx rx;cases (show _=_ from hy);obtain⟨t2,rfl⟩:=ry;exact⟨RcAt.list_int _ _ p1 hu,RcNeAt.list_int _ _ p1 hu,EqAt.list_int _ _ p1 hu⟩
  |str d=>
   cases e;obtain⟨a1,_,_,rfl,_,_,_,_,p1⟩:=d4 I hs hx rx;cases (show _=_ from hy.1);obtain⟨t2,rfl⟩:=ry;exact⟨RcAt.list_str _ _ p1 hu,RcNeAt.list_str _ _ p1 hu,EqAt.list_str _ _ p1 hu⟩
  |raw d=>cases e
  |dct _ _=>cases e
  |dci _ _=>cases e
  |exc d=>cases e
  |scr d=>cases e
  |tup d=>
   cases e;obtain⟨a1,_,_,rfl,_,_,_,_,p1⟩:=d4 I hs hx rx;obtain⟨a2,_,_,rfl,_,_,_,_,p2⟩:=eA I hs hy ry;exact⟨RcAt.list_tuple p1 p2 hu,RcNeAt.list_tuple p1 p2 hu,EqAt.list_tuple p1 p2 hu⟩
  |lst d=>cases e
end
def ev(f:D->D->Option Bool)(xs ys:List D)(j:Nat):Bool:=match xs[j]?,ys[j]? with
 |some x,some y=>(f x y).getD false
 |_,_=>false
def ua:∀{xs ys:List D}{b:Bool},pH f xs ys=some b->∀(j:Nat) (x y:D),xs[j]? =some x->ys[j]? =some y->∃c,f x y=some c
 |[],_,_,_,_,_,_,h,_=>by simp at h
 |_::_,[],_,_,_,_,_,_,h=>by simp at h
 |x::xs,y::ys,b,e,j,x',y',hx,hy=>by
  unfold pH at e;split at e
  ·rename_i b1 r1 e1 e2;cases j with
   |zero=>simp at hx hy;subst hx hy;exact⟨_,e1⟩
   |succ j=>exact ua e2 j x' y' (by simpa using hx) (by simpa using hy)
  ·cases e
def rO:∀{xs ys:List D}{b:Bool},pH f xs ys=some b->b=((Rf (min xs.length ys.length)).all (ev f xs ys)&&xs.length==ys.length)
 |[],[],_,e=>by cases e;rfl
 |[],_::_,_,e=>by cases e;simp
 |_::_,[],_,e=>by cases e;simp
 |x::xs,y::ys,b,e=>by
  unfold pH at e;split at e
  ·rename_i b1 r1 e1 e2;cases e;have h:=rO e2;rw[QV,QV,Nat.succ_min_succ,UT,Ur,Uw];have e0:ev f (x::xs) (y::ys) 0=b1:=by unfold ev;simp[e1]
   have e3:(ev f (x::xs) (y::ys)∘Nat.succ)=ev f xs ys:=by funext j;simp[ev,XE]
   have e4:(xs.length+1==ys.length+1)=(xs.length==ys.length):=by simp
   rw[e0,e3,e4,h,Bool.and_assoc]
  ·cases e
section
variable{X:Cx}{f8:List (Addr×Obj)}{σ:St}{F H:Hp}{s:QT}
def jU(h:∀x y v b,Den X.K F x v->Den X.K F y v->f x y=some b->b=true):∀{xs ys:List D}{vs:List V}{b:Bool},DenL X.K F xs vs->DenL X.K F ys vs->pH f xs ys=some b->b=true
 |[],[],_,_,_,_,e=>by cases e;rfl
 |[],_::_,_,_,h1,h2,_=>by
  cases (show _=_ from h1);obtain⟨v,r,z,_⟩:=h2;cases z
 |_::_,[],_,_,h1,h2,_=>by
  cases (show _=_ from h2);obtain⟨v,r,z,_⟩:=h1;cases z
 |x::xs,y::ys,_,b,⟨v,r,e1,q1,q2⟩,⟨v',r',e2,q3,q4⟩,e=>by
  subst e1;cases e2;unfold pH at e;split at e
  ·rename_i b1 r1 f1 f2;cases e;rw[h x y v b1 q1 q3 f1,jU h q2 q4 f2];rfl
  ·cases e
def qp(hx:Den X.K F x v)(hy:Den X.K F y v)(e:v9 x y=some b):b=true:=by
 cases x<;>cases y<;>first
  |(cases e;done)
  |(cases e;cases (show _=_ from hx);cases (show _=_ from hy);first | rfl | simp)
  |(cases e;cases (show _=_ from hx.1);cases (show _=_ from hy.1);simp)
  |(cases e;cases (show _=_ from hx);cases (show _=_ from hy.1))
  |(cases e;cases (show _=_ from hx.1);cases (show _=_ from hy))
  |(cases e;obtain⟨_,_,z,_⟩:=hx;subst z;cases (show _=_ from hy);done)
  |(cases e;obtain⟨_,_,z,_⟩:=hx;subst z;cases (show _=_ from hy.1);done)
  |(cases e;obtain⟨_,z,_⟩:=hx;subst z;cases (show _=_ from hy);done)
  |(cases e;obtain⟨_,z,_⟩:=hx;subst z;cases (show _=_ from hy.1);done)
  |(cases e;obtain⟨_,_,z,_⟩:=hy;subst z;cases (show _=_ from hx);done)
  |(cases e;obtain⟨_,_,z,_⟩:=hy;subst z;cases (show _=_ from hx.1);done)
  |(cases e;obtain⟨_,z,_⟩:=hy;subst z;cases (show _=_ from hx);done)
  |(cases e;obtain⟨_,z,_⟩:=hy;subst z;cases (show _=_ from hx.1);done)
  |(cases e;obtain⟨_,_,z,h2,_⟩:=hx;obtain⟨_,_,z',Jz,_⟩:=hy;subst z;cases z';rw[h2] at Jz;cases Jz;done)
  |(cases e;cases (show _=_ from hx);cases (show _=_ from hy);done)
  |(cases e;cases (show _=_ from hx.1);cases (show _=_ from hy.1);done)
def jS(I:Inv X f8 σ H s)(hs:Same F H):∀(n:Nat) (x y:D) (v:V) (b:Bool),Den X.K F x v->Den X.K F y v->nG n x y=some b->b=true
 |0,x,y,v,b,hx,hy,e=>qp hx hy (by unfold nG at e;exact e)
 |n+1,x,y,v,b,hx,hy,e=>by
  unfold nG at e;split at e
  ·rename_i xs ys _;obtain⟨a,vs,rfl,h2,h3,_⟩:=hx;obtain⟨a',tO,z,k2,k3,_⟩:=hy;cases z;rw[h2] at k2;cases k2;exact jU (jS I hs _) h3 k3 (by simpa using e)
  ·rename_i xs ys _;obtain⟨a,vs,rfl,h2,h3,_⟩:=hx;obtain⟨a',tO,z,k2,k3,_⟩:=hy;cases z;rw[h2] at k2;cases k2;exact jU (jS I hs _) h3 k3 (by simpa using e)
  ·rename_i xs ys _;obtain⟨a,rfl,h2,_⟩:=hx;obtain⟨a',tO,z,k2,k3,_⟩:=hy;cases z;have hv:=I.list_inj (Same.seq hs h2) (SqL.of (hs _ _ k2));rw[<-hv] at k3;exact jU (jS I hs _) (DenL.ints xs) k3 (by simpa using e)
  ·exact qp hx hy e
def Vals.at(r:Vals vs aE)(h:j<aE.toArray.size):∃v,vs[j]? =some v/\RelV v aE.toArray[j]:=by
 have hl:=r.length;have hj:j<vs.length:=by rw[QW] at h;omega
 obtain⟨u,e1,e2⟩:=r.get (QN hj);refine⟨vs[j],QN hj,?_⟩;have:aE.toArray[j]=u:=by
  have:=(Q4.mp e1).2;simpa using this
 rw[this];exact e2
def mU(h1:DenL X.K F xs vs)(h2:DenL X.K F ys ws)(r1:Vals vs aE)(r2:Vals ws fY)(e:pH f xs ys=some b)
 (ih:∀x y v w u t c,Den X.K F x v->Den X.K F y w->RelV v u->RelV w t->f x y=some c->EqAt A s u t c):
 ∀j (k1:j<aE.toArray.size) (k2:j<fY.toArray.size),EqAt A s aE.toArray[j] fY.toArray[j] (ev f xs ys j):=λj k1 k2=>by
 obtain⟨v,e1,q1⟩:=Vals.at r1 k1;obtain⟨w,e2,q2⟩:=Vals.at r2 k2;obtain⟨x,e3,q3⟩:=h1.at e1;obtain⟨y,e4,q4⟩:=h2.at e2;obtain⟨c,hc⟩:=ua e j x y e3 e4;have:ev f xs ys j=c:=by unfold ev;rw[e3,e4];simp[hc]
 rw[this];exact ih x y v w _ _ c q3 q4 q1 q2 hc
def qF(hu:A.units<cLine)(h1:DenL X.K F xs vs)(h2:DenL X.K F ys ws)(r1:Vals vs aE)(r2:Vals ws fY)
 (p1:s.heap.IsList a aE.toArray)(p2:s.heap.IsList a' fY.toArray)(e:pH f xs ys=some b)(hr:a=a'->b=true)
 (ih:∀x y v w u t c,Den X.K F x v->Den X.K F y w->RelV v u->RelV w t->f x y=some c->EqAt A.in1 s u t c):EqAll A s (.ref a) (.ref a') b:=by
 have l1:=h1.len;have l2:=h2.len;have l3:=r1.length;have l4:=r2.length;have hv:=rO e;have core:RcAt A s (.ref a) (.ref a') b/\RcNeAt A s (.ref a) (.ref a') (!b):=by
  by_cases hl:xs.length=ys.length
  ·have hsz:aE.toArray.size=fY.toArray.size:=by rw[QW,QW];omega
   have hb:b=(Rf aE.toArray.size).all (ev f xs ys):=by
    rw[hv,hl,Nat.min_self,beq_self_eq_true,Bool.and_true];congr 2;rw[QW];omega
   rw[hb];exact⟨RcAt.lists p1 p2 hsz hu (mU h1 h2 r1 r2 e ih),RcNeAt.lists p1 p2 hsz hu (mU h1 h2 r1 r2 e ih)⟩
  ·have hb:b=false:=by rw[hv,show (xs.length==ys.length)=false from by simpa using hl,Ve]
   have hsz:(aE.toArray.size !=fY.toArray.size)=true:=by
    rw[QW,QW];simp;omega
   rw[hb];exact⟨RcAt.lists_lengths p1 p2 hsz hu,RcNeAt.lists_lengths p1 p2 hsz hu⟩
 refine⟨core.1,core.2,?_⟩;by_cases hq:a=a'
 ·rw[hr hq];subst hq;exact EqAt.same _
 ·exact EqAt.of_refs hq core.1
def xk(hu:A.units<cLine)(h1:DenL X.K F xs vs)(h2:DenL X.K F ys ws)(r1:Vals vs aE)(r2:Vals ws fY)
 (p1:s.heap.IsTuple a aE.toArray)(p2:s.heap.IsTuple a' fY.toArray)(e:pH f xs ys=some b)(hr:a=a'->b=true)
 (ih:∀x y v w u t c,Den X.K F x v->Den X.K F y w->RelV v u->RelV w t->f x y=some c->EqAt A.in1 s u t c):EqAll A s (.ref a) (.ref a') b:=by
 have l1:=h1.len;have l2:=h2.len;have l3:=r1.length;have l4:=r2.length;have hb:b=((Rf (min aE.toArray.size fY.toArray.size)).all (ev f xs ys)&&aE.toArray.size==fY.toArray.size):=by
  rw[rO e,QW,QW,<-l3,<-l4,<-l1,<-l2]
 have core:RcAt A s (.ref a) (.ref a') b/\RcNeAt A s (.ref a) (.ref a') (!b):=by
  rw[hb];exact⟨RcAt.tuples p1 p2 hu (mU h1 h2 r1 r2 e ih),RcNeAt.tuples p1 p2 hu (mU h1 h2 r1 r2 e ih)⟩
 refine⟨core.1,core.2,?_⟩;by_cases hq:a=a'
 ·rw[hr hq];subst hq;exact EqAt.same _
 ·exact EqAt.of_refs hq core.1
def rP(I:Inv X f8 σ H s)(hs:Same F H):∀(n:Nat) (A:RQ) (x y:D) (v w:V) (u t:Value) (b:Bool),A.units+n<cLine->Den X.K F x v->Den X.K F y w->RelV v u->RelV w t->nG n x y=some b->EqAll A s u t b
 |0,A,x,y,v,w,u,t,b,hu,hx,hy,rx,ry,e=>ud I hs (by omega) hx hy rx ry (by unfold nG at e;exact e)
 |n+1,A,x,y,v,w,u,t,b,hu,hx,hy,rx,ry,e=>by
  have LB:A.units<cLine:=by omega
  have Qf:A.in1.units+n<cLine:=by show A.units+1+n<cLine;omega
  have hrefl:=jS I hs (n+1) x y;have ih:∀x y v w u t c,Den X.K F x v->Den X.K F y w->RelV v u->RelV w t->nG n x y=some c->EqAt A.in1 s u t c:=λx y v w u t c q1 q2 q3 q4 q5=>(rP I hs n A.in1 x y v w u t c Qf q1 q2 q3 q4 q5).eq;have e0:=e;unfold nG at e;split at e
  ·rename_i xs ys heq;cases heq;obtain⟨a,vs,aE,rfl,Jt,h2,h3,r1,p1⟩:=eA I hs hx rx;obtain⟨a',tO,its',rfl,Ju,k2,k3,KI,Kw⟩:=eA I hs hy ry;exact xk LB h3 k3 r1 KI p1 Kw e (λz=>by subst z;exact hrefl v b hx (by rw[Jt,<-Ju];exact hy) e0) ih
  ·rename_i xs ys heq;cases heq;obtain⟨a,vs,aE,rfl,Jt,h2,h3,r1,p1⟩:=d4 I hs hx rx;obtain⟨a',tO,its',rfl,Ju,k2,k3,KI,Kw⟩:=d4 I hs hy ry;exact qF LB h3 k3 r1 KI p1 Kw e (λz=>by subst z;exact hrefl v b hx (by rw[Jt,<-Ju];exact hy) e0) ih
  ·rename_i xs ys heq;cases heq;obtain⟨a,aE,rfl,Jt,h2,r1,p1⟩:=Io I hs hx rx;obtain⟨a',tO,its',rfl,Ju,k2,k3,KI,Kw⟩:=d4 I hs hy ry;exact qF LB (DenL.ints _) k3 r1 KI p1 Kw e (λz=>by subst z;exact hrefl v b hx (by rw[Jt,<-Ju];exact hy) e0) ih
  ·exact ud I hs LB hx hy rx ry e
end
def mJ(x y:D):M D:=match nG 6 x y with | some b=>aa (.bl b) | none=>af
def xR(x y:D):M D:=match nG 6 x y with | some b=>aa (.bl (!b)) | none=>af
def KN(K:QZ):R2:=λx y H Q=>∃F dx dy b,Same F H/\Den K F dx x/\Den K F dy y/\nG 6 dx dy=some b/\Q (.bl b) H
def KS(K:QZ):R2:=λx y H Q=>∃F dx dy b,Same F H/\Den K F dx x/\Den K F dy y/\nG 6 dx dy=some b/\Q (.bl (!b)) H
section
variable{X:Cx}{Xw:Nat->Hp->Prop}{a b:Expr}{δa δb:DE}{pos:Pos}
def BY(hu:X.A.units+64<cLine):OpR X (R_ .Eq) (KN X.K):=by
 intro f8 s σ H x y v u Q I rx ry h;obtain⟨F,dx,dy,b,hs,hx,hy,e,q⟩:=h;exact(rP I hs 6 X.A dx dy x y v u b (by omega) hx hy rx ry e).rc _ _ _ _ ⟨.bl b,H,I,rfl,q⟩
def Hz(hu:X.A.units+64<cLine):OpR X (R_ .NotEq) (KS X.K):=by
 intro f8 s σ H x y v u Q I rx ry h;obtain⟨F,dx,dy,b,hs,hx,hy,e,q⟩:=h;exact(rP I hs 6 X.A dx dy x y v u b (by omega) hx hy rx ry e).ne _ _ _ _ ⟨.bl (!b),H,I,rfl,q⟩
def BZ{K:QZ}:vO K (KN K) mJ:=λXw F H x y dx dy Q s hx hy w=>by
 unfold mJ at w;split at w
 ·rename_i b e;exact⟨F,dx,dy,b,s,hx,hy,e,WP.now w s rfl⟩
 ·exact w.elim
def HC{K:QZ}:vO K (KS K) xR:=λXw F H x y dx dy Q s hx hy w=>by
 unfold xR at w;split at w
 ·rename_i b e;exact⟨F,dx,dy,b,s,hx,hy,e,WP.now w s rfl⟩
 ·exact w.elim
def Co(hu:X.A.units+64<cLine)(ha:PD X Xw a δa)(hb:PD X Xw b δb):pE X Xw (.Compare a [.Eq] [b] pos) (dS (d2 mJ δa δb)):=fF (BY hu) BZ ha hb
def mm(hu:X.A.units+64<cLine)(ha:PD X Xw a δa)(hb:PD X Xw b δb):pE X Xw (.Compare a [.NotEq] [b] pos) (dS (d2 xR δa δb)):=fF (Hz hu) HC ha hb
def kq(hu:X.A.units+64<cLine)(ha:PD X Xw a δa)(hb:PD X Xw b δb):PD X Xw (.Compare a [.Eq] [b] pos) (d2 mJ δa δb):=wX (BY hu) BZ ha hb
end
def PDW(X:Cx)(Xw:Nat->Hp->Prop)(e:Expr)(δ:DT):Prop:=PW X e (Nm X.K Xw δ)
def PW.weak(h:PW X e t)(k:∀σ H Q,t' σ H Q->t σ H Q):PW X e t':=λwh f8 s σ H Q I w=>h wh f8 s σ H Q I (k σ H Q w)
section
variable{X:Cx}{Xw:Nat->Hp->Prop}{a b c:Expr}{T0:List Expr}{δa δb δc:DE}{τa τb:DT}{pos:Pos}
def kr(ha:pE X Xw a τa):PDW X Xw (.BoolOp .Or [a] pos) τa:=Ig ha
def oT(ha:pE X Xw a τa)(hb:PDW X Xw (.BoolOp .Or (b::T0) pos) τb):PDW X Xw (.BoolOp .Or (a::b::T0) pos) (tK τa τb):=PW.weak (KH ha hb) λσ H Q ⟨F,ρ,s,w⟩=>by
 refine⟨F,ρ,s,WPB.mono (WPB.bindB w) λv H1 ⟨F1,e1,w1⟩=>?_⟩;cases v with
 |false=>exact⟨F1,ρ,s.ext e1,w1⟩
 |true=>exact w1 _ _ (Ext.refl e1.fh)
def PDW.t(h:PDW X Xw a τa):pE X Xw a τa:=PW.pt h
def eJ(ha:pE X Xw a τa):pE X Xw (.UnaryOp .Not a pos) (eT τa):=PT.weak (Ic ha) λσ H Q ⟨F,ρ,s,w⟩=>
 ⟨F,ρ,s,WPB.mono (WPB.bindB w) λv H1 ⟨F1,e1,w1⟩=>w1 _ _ (Ext.refl e1.fh)⟩
def C8:D->M Bool
 | .non=>aa false
 | .bl b=>aa b
 | .lst ds=>aa (!ds.isEmpty)
 | .tup ds=>aa (!ds.isEmpty)
 |_=>af
def dJ(δ:DE):DT:=λρ=>δ ρ>>=C8
def DenL.isEmpty{K:QZ}(h:DenL K F ds vs):ds.isEmpty=vs.isEmpty:=by
 have:=h.len;cases ds<;>cases vs<;>simp_all
def eK(ha:PD X Xw a δa)(he:∀whole,isTrue a X.env whole=(do let v<-whole;standAt a.pos;holding [v] (truthy v)):=by intro _;rfl):pE X Xw a (dJ δa):=PT.weak (Cq ha he) λσ H Q ⟨F,ρ,s,w⟩=>by
 refine⟨F,ρ,s,WP.mono (WPB.bind (K:=X.K) w) λv H1 ⟨F1,d,e1,q1,w1⟩=>?_⟩;cases d with
 |non=>cases (show _=_ from q1);exact⟨false,rfl,w1 _ _ (Ext.refl e1.fh)⟩
 |bl b=>cases (show _=_ from q1);exact⟨b,rfl,w1 _ _ (Ext.refl e1.fh)⟩
 |lst ds=>
  obtain⟨a,vs,rfl,h2,h3,_⟩:=q1;exact⟨!ds.isEmpty, .inl ⟨vs,SqL.of (e1.fh _ _ h2),by rw[h3.isEmpty]⟩,w1 _ _ (Ext.refl e1.fh)⟩
 |tup ds=>
  obtain⟨a,vs,rfl,h2,h3,_⟩:=q1;exact⟨!ds.isEmpty, .inr (.inl ⟨vs,SqT.of (e1.fh _ _ h2),by rw[h3.isEmpty]⟩),w1 _ _ (Ext.refl e1.fh)⟩
 |_=>exact w1.elim
def sC(h:PD X Xw a δa):PD X Xw (.BoolOp op [a] pos) δa:=HS h
def wW(ha:PD X Xw a δa)(hb:PD X Xw (.BoolOp .And (b::T0) pos) δb):PD X Xw (.BoolOp .And (a::b::T0) pos) (gP δa δb):=PE.weak (HM ha hb) λσ H Q ⟨F,ρ,s,w⟩=>by
 refine⟨F,ρ,s,WP.mono (WP.bind w) λv H1 ⟨F1,d,e1,q1,w1⟩=>?_⟩;cases d with
 |bl k=>
  refine⟨k,q1,?_⟩;cases k with
  |true=>exact⟨F1,ρ,s.ext e1,w1⟩
  |false=>exact WP.now w1 e1.fh rfl
 |_=>exact w1.elim
def yu(ha:PD X Xw a δa)(hb:PD X Xw (.BoolOp .Or (b::T0) pos) δb):PD X Xw (.BoolOp .Or (a::b::T0) pos) (v8 δa δb):=PE.weak (KC ha hb) λσ H Q ⟨F,ρ,s,w⟩=>by
 refine⟨F,ρ,s,WP.mono (WP.bind w) λv H1 ⟨F1,d,e1,q1,w1⟩=>?_⟩;cases d with
 |bl k=>
  refine⟨k,q1,?_⟩;cases k with
  |false=>exact⟨F1,ρ,s.ext e1,w1⟩
  |true=>exact WP.now w1 e1.fh rfl
 |_=>exact w1.elim
def HJ(ha:PD X Xw a δa):PD X Xw (.UnaryOp .Not a pos) (FE δa):=PE.weak (HR ha) λσ H Q ⟨F,ρ,s,w⟩=>by
 refine⟨F,ρ,s,WP.mono (WP.bind w) λv H1 ⟨F1,d,e1,q1,w1⟩=>?_⟩;cases d with
 |bl k=>exact⟨k,q1,WP.now w1 e1.fh rfl⟩
 |_=>exact w1.elim
def DI(p q:Int->Int->Bool)(a b c:DE):DE:=λρ=>a ρ>>=λx=>b ρ>>=λy=>match x,y with
 | .int i, .int j=>if p i j then c ρ>>=λz=>gI (λi j=> .bl (q i j)) y z else aa (.bl false)
 |_,_=>af
def z6{p q:Int->Int->Bool}:∀σ H Q,tD X.K Xw (DI p q δa δb δc) σ H Q->C1 (Ap λi j=> .bl (p i j)) (Ap λi j=> .bl (q i j)) (tD X.K Xw δa) (tD X.K Xw δb) (tD X.K Xw δc) σ H Q:=λσ H Q ⟨F,ρ,s,w⟩=>by
 refine⟨F,ρ,s,WP.mono (WP.bind w) λv H1 ⟨F1,d,e1,q1,w1⟩=>?_⟩;refine⟨F1,ρ,s.ext e1,WP.mono (WP.bind w1) λu H2 ⟨F2,d',e2,q2,w2⟩=>?_⟩;cases d with
 |int i=>
  cases d' with
  |int j=>
   refine⟨i,j,q1,q2,p i j,rfl,?_⟩;have w2:WP X.K Xw F2 H2 (if p i j then δc ρ>>=λz=>gI (λi j=> .bl (q i j)) (.int j) z else aa (.bl false)) Q:=w2;cases hp:p i j with
   |false=>
    rw[hp] at w2;exact WP.now w2 e2.fh rfl
   |true=>
    rw[hp] at w2;refine⟨F2,ρ,(s.ext e1).ext e2,WP.mono (WP.bind w2) λu' H3 ⟨F3,OW,e3,q3,w3⟩=>?_⟩;exact uX (gd:=λi j=> .bl (q i j)) (λ_ _ _=>rfl) Xw F3 H3 u u' (.int j) OW Q e3.fh q2 q3 w3
  |_=>exact w2.elim
 |_=>exact w2.elim
def w4(ho:OpR X (R_ op) (Ap λi j=> .bl (p i j)))(vM:OpR X (R_ IZ) (Ap λi j=> .bl (q i j)))(ha:PD X Xw a δa)(hb:PD X Xw b δb)(hc:PD X Xw c δc)
 (hm:lastMarks [op,IZ] [b,c]=false:=by with_unfolding_all rfl):pE X Xw (.Compare a [op,IZ] [b,c] pos) (dS (DI p q δa δb δc)):=PT.weak (Cm ho vM ha hb hc hm) λσ H Q ⟨F,ρ,s,w⟩=>by
 refine z6 σ H _ ⟨F,ρ,s,WP.mono (WPB.bind w) λv H1 ⟨F1,d,e1,q1,w1⟩=>?_⟩;cases d with
 |bl k=>exact⟨k,q1,w1 _ _ (Ext.refl e1.fh)⟩
 |_=>exact w1.elim
def tP(K:QZ)(r:List V->Hp->VK->Prop)(g:List D->M D):Prop:=∀(Xw:Nat->Hp->Prop) (F H:Hp) (vs:List V) (ds:List D) (Q:VK),Same F H->DenL K F ds vs->WP K Xw F H (g ds) Q->r vs H Q
variable{x:Str}{p:Pos}{e:Expr}{es:List Expr}{δs:DA}{id T:String}{r:List V->Hp->VK->Prop}{g:List D->M D}
def C0(h:tP X.K r g):∀σ H Q,tD X.K Xw (dA g δs) σ H Q->Nk r (OE X.K Xw δs) σ H Q:=λσ H Q ⟨F,ρ,s,w⟩=>
 ⟨F,ρ,s,WPL.mono (WP.bindL w) λvs H1 ⟨F1,ds,e1,q1,w1⟩=>h Xw F1 H1 vs ds Q e1.fh q1 w1⟩
def cF(hc:CallR X (.builtin id) r)(hd:tP X.K r g)(hg:Gl X x)(hm:X.mg x=none)(hv:Rv x=some (.builtin id))(ha:jl X Xw (e::es) δs)(hn:x≠"__name__":=by decide)(rS:(x==("__debug__":Str))=false:=by decide)
 (he:Q8 (e::es) X.env=(false,eval e X.env)::Q8 es X.env:=by rfl)(pK:(Tr pos (Q8 es X.env)).any (·.1)=false:=by rfl):PD X Xw (.Call (.Name x p) (e::es) [] pos) (dA g δs):=
 PE.weak (Cb hc hg hm hv ha hn rS he pK) (C0 hd)
def qT(hc:CallR X (.type T) r)(hd:tP X.K r g)(hg:Gl X x)(hm:X.mg x=none)(hv:Rv x=some (.type T))(ha:jl X Xw (e::es) δs)(hn:x≠"__name__":=by decide)(rS:(x==("__debug__":Str))=false:=by decide)
 (he:Q8 (e::es) X.env=(false,eval e X.env)::Q8 es X.env:=by rfl)(pK:(Tr pos (Q8 es X.env)).any (·.1)=false:=by rfl):PD X Xw (.Call (.Name x p) (e::es) [] pos) (dA g δs):=
 PE.weak (zQ hc hg hm hv ha hn rS he pK) (C0 hd)
def bw:List D->M D
 |[.lst ds]=>aa (.int ds.length)
 |[.tup ds]=>aa (.int ds.length)
 |[.str x]=>aa (.int x.length)
 |[.scr ns]=>aa (.int ns.length)
 |_=>af
def zx:tP X.K (λxs H Q=>(∃p ys,xs=[.ref p]/\(SqL X.K H p ys\/SqT X.K H p ys)/\Q (.int ys.length) H)\/∃z,xs=[.str z]/\z.length<=Q_/\Q (.int z.length) H) bw:=λXw F H vs ds Q s h w=>by
 unfold bw at w;split at w
 ·obtain⟨v,rfl,h1⟩:=h.one;obtain⟨a,vs,rfl,h2,h3,_⟩:=h1;exact .inl ⟨a,vs,rfl, .inl (SqL.of (s _ _ h2)),by rw[<-h3.len];exact WP.now w s rfl⟩
 ·obtain⟨v,rfl,h1⟩:=h.one;obtain⟨a,vs,rfl,h2,h3,_⟩:=h1;exact .inl ⟨a,vs,rfl, .inr (SqT.of (s _ _ h2)),by rw[<-h3.len];exact WP.now w s rfl⟩
 ·obtain⟨v,rfl,h1⟩:=h.one;cases (show _=_ from h1.1);exact .inr ⟨_,rfl,by have:=h1.2;have:=d3;omega,WP.now w s rfl⟩
 ·obtain⟨v,rfl,h1⟩:=h.one;obtain⟨a,rfl,h2,_⟩:=h1;exact .inl ⟨a,_,rfl, .inl (Same.seq s h2),by rw[QM];exact WP.now w s rfl⟩
 ·exact w.elim
def bE(hg:Gl X "len")(hm:X.mg "len"=none)(ha:jl X Xw [e] δs)(he:Q8 [e] X.env=[(false,eval e X.env)]:=by rfl):PD X Xw (.Call (.Name "len" p) [e] [] pos) (dA bw δs):=
 cF (rF.or rG) zx hg hm PySem.boot_len ha (by decide) (by decide) he rfl
def As:List D->M D
 |[.int i]=>aa (.int (if i<0 then -i else i))
 |_=>af
def wC:List D->M D
 |[.int i, .int j]=>aa (.int (if j>i then j else i))
 |_=>af
def zD:List D->M D
 |[.int i, .int j]=>aa (.int (if j<i then j else i))
 |_=>af
def B3(hg:Gl X "abs")(hm:X.mg "abs"=none)(ha:jl X Xw [e] δs)(hb:Rv "abs"=some (.builtin "abs"))(he:Q8 [e] X.env=[(false,eval e X.env)]:=by rfl):PD X Xw (.Call (.Name "abs" p) [e] [] pos) (dA As δs):=
 cF Az (λXw F H vs ds Q s h w=>by
  unfold As at w;split at w
  ·obtain⟨v,rfl,h1⟩:=h.one;cases (show _=_ from h1);exact⟨_,rfl,WP.now w s rfl⟩
  ·exact w.elim) hg hm hb ha (by decide) (by decide) he rfl
end
def WP.xw{K:QZ}(h:WP K Xw F H m Q)(k:∀n H,Xw n H->Xw' n H):WP K Xw' F H m Q:=by
 match m,h with
 |none,h=>exact h
 |some (.ok d),h=>exact h
 |some (.ex n),h=>exact λF' H' e=>k n H' (h F' H' e)
def d9{X:Cx}{st:Stmt}(h:fQ X.nox (λ_ _=>False) st τ):fQ X Xw st (λρ=>noex (τ ρ)):=λs0 X8 f8 s σ H D I ⟨F,ρ,S,w⟩=>by
 have w:WPS X.K Xw s0 X8 (noex (τ ρ)) D:=w;have w':tS X.K (λ_ _=>False) s0 X8 τ D σ H:=by
  refine⟨F,ρ,S,?_⟩;rcases(τ ρ).cs with e | ⟨n,e⟩ | ⟨o,e⟩
  ·rw[e] at w;exact w.elim
  ·rw[e] at w;exact w.elim
  ·rw[e] at w⊢;cases o with
   |nx ρ'=>exact w
   |rt d=>exact w
 refine R8 (h s0 X8 f8 s σ H D (I.wish _) w') (λf s' q=>SP.unwish q) λ_ _ z=>z.elim
def EX(cv:Nat->Value)(Xw:Nat->Hp->Prop):XK:=λc _ H=>∃n,c=cv n/\Xw n H
def I8(K:QZ)(cv:Nat->Value)(k:Nat)(f:List D->M D):Sp:=λvs H Q E=>∃F ds,Same F H/\DenL K F ds vs/\vs.length=k/\WP K (λn H'=>E (cv n) none H') F H (f ds) Q
def b6(n:Nat)(τ:DS):List D->M D:=λds=>τ (ds.map (λd=>some (Sl.fz d))++Rg (n - ds.length) none)>>=λo=>match o with
 | .nx _=>aa .non
 | .rt d=>aa d
section
variable{P:Ru}{w:World}{K:QZ}{mg:Str->Option Value}{base:Heap}{CX:xx}{cv:Nat->Value}
def Jv{x qual:Str}{st:Stmt}(Fn:Fun K x qual st f fd)(S:FnScope N ps (ah st))
 (nO:∀(bY:Value) (A:RQ) (outer:List Env) (s:QT) (H:Hp) (E:XK),Room k (A.deeper (S5 qual (ah st) s.heap.objs.size f bY))->
  PSDs (c6 CX P w K mg base N qual (ah st) f bY A outer s H E) (λn H'=>E (cv n) none H') (aV st) τ):FnOk P w K mg base CX (k+1) f fd ps (I8 K cv ps.length (b6 N.length τ)):=by
 obtain⟨oc,od,kV,doc,pm,an,bY,ct,ED,rfl,lk,vK⟩:=Fn.ex;refine FL lk vK S (λvs H Q E ⟨_,_,_,_,hl,_⟩=>hl) λA outer s H vs Q E hr Dw=>?_;obtain⟨F,ds,fh,hd,hl,hw⟩:=Dw;refine⟨_,nO bY A outer s H E hr F H,F,ds.map (λd=>some (Sl.fz d))++Rg (N.length - ds.length) none,⟨Ext.refl fh,⟨fh,λi sl e=>?_⟩,?_,λi c a e=>?_,λi j c c' a e=>?_⟩,?_⟩
 ·have v6:=hd.len;by_cases hi:i<ds.length
  ·rw[RN (by simpa using hi),Q1] at e;cases q:ds[i]? with
   |none=>rw[q] at e;cases e
   |some d=>
    rw[q] at e;cases e;obtain⟨v,e1,e2⟩:=hd.get q;refine⟨v,?_,e2⟩;unfold L2.start;rw[RN (by simp;omega),Q1,e1];rfl
  ·rw[RD (by simpa using hi),S8] at e;split at e<;>cases e
 ·have v6:=hd.len;unfold L2.start;simp[v6]
 ·exfalso
  by_cases hi:i<ds.length
  ·rw[RN (by simpa using hi),Q1] at e;cases q:ds[i]? with
   |none=>rw[q] at e;cases e
   |some d=>rw[q] at e;cases e
  ·rw[RD (by simpa using hi),S8] at e;split at e<;>cases e
 ·exfalso
  by_cases hi:i<ds.length
  ·rw[RN (by simpa using hi),Q1] at e;cases q:ds[i]? with
   |none=>rw[q] at e;cases e
   |some d=>rw[q] at e;cases e
  ·rw[RD (by simpa using hi),S8] at e;split at e<;>cases e
 ·have hw:WP K (λn H'=>E (cv n) none H') F H (τ (ds.map (λd=>some (Sl.fz d))++Rg (N.length - ds.length) none)>>=λo=>match o with | .nx _=>aa .non | .rt d=>aa d) Q:=hw;rcases(τ (ds.map (λd=>some (Sl.fz d))++Rg (N.length - ds.length) none)).cs with e | ⟨n,e⟩ | ⟨o,e⟩
  ·rw[e] at hw;exact hw.elim
  ·rw[e] at hw⊢;exact hw
  ·rw[e] at hw⊢;cases o with
   |nx ρ'=>exact λσ' F' H' s'=>hw .non H' F' s'.ext rfl
   |rt d=>exact λv F' H' e' q=>hw v H' F' e' q
end
section
variable{X:Cx}{Xw:Nat->Hp->Prop}{CX:xx}{cv:Nat->Value}{k m:Nat}{f:Addr}{fd:TY}{ps:List Str}{g:List D->M D}{x:Str}{p pos:Pos}{e:Expr}{es:List Expr}{δs:DA}
def EE(F:FnOk X.prog X.w X.K X.mg X.base CX k f fd ps (I8 X.K cv m g))(hr:Room k X.A)(hg:Gl X x)(hm:X.mg x=some (.ref f))(hk:S6 X.K (.ref f)=true)(hb:Binds X.K fd ps [])(hx:Passes CX X (EX cv Xw))
 (ha:jl X Xw (e::es) δs)(hl:(e::es).length=m)(rS:(x==("__debug__":Str))=false:=by decide)(he:Q8 (e::es) X.env=(false,eval e X.env)::Q8 es X.env:=by rfl)(pK:(Tr pos (Q8 es X.env)).any (·.1)=false:=by rfl):
 PD X Xw (.Call (.Name x p) (e::es) [] pos) (λρ=>δs ρ>>=λds=>if ds.length=m then g ds else af):=PE.weak (ER F hr hg hm hk hb .nil hx ha rS he pK) λσ H Q ⟨F,ρ,s,w⟩=>by
 refine⟨F,ρ,s,WPL.mono (WP.bindL w) λvs H1 ⟨F1,ds,e1,q1,w1⟩=>?_⟩;split at w1
 ·rename_i FW;refine⟨F1,ds,e1.fh,by simpa using q1,by rw[S3,<-q1.len];exact FW,WP.xw w1 λn H h=>⟨n,rfl,h⟩⟩
 ·exact w1.elim
def yo{x:Str}(hg:Gl X x)(hm:X.mg x=some u)(r:RelV v u)(hd:∀F,Den X.K F d v)(rS:(x==("__debug__":Str))=false:=by decide):PD X Xw (.Name x pos) (dC d):=
 gc (EU hg hm r rS) hd
end
def obj_some(x:ObjOk P w H h a o):∃ob,h.get? a=some ob:=by
 cases o with
 |lst xs=>obtain⟨_,_,_,_,e⟩:=x;exact⟨_,e⟩
 |tup xs=>obtain⟨_,_,_,ob,e,_⟩:=x;exact⟨_,e⟩
 |dK az=>obtain⟨_,_,_,_,o,_,_,e,_⟩:=x;exact⟨_,e⟩
 |dT az=>obtain⟨_,_,_,_,o,_,_,e,_⟩:=x;exact⟨_,e⟩
 |set S n=>obtain⟨o,_,_,_,e,_⟩:=x;exact⟨_,e⟩
 |ins C dx fs=>obtain⟨_,_,_,e,_⟩:=x;exact⟨_,e⟩
 |own y=>obtain⟨_,e⟩:=x;exact⟨_,e⟩
 |xd fs=>obtain⟨_,⟨_,_,_,e,_⟩,_⟩:=x;exact⟨_,e⟩
 |rng lo hi=>obtain⟨_,_,_,e⟩:=x;exact⟨_,e⟩
 |frz ob u=>obtain⟨e,_⟩:=x;exact⟨_,e⟩
 |tbl ps=>exact⟨_,(show h.get? a=some _ from x)⟩
 |met f y=>exact⟨_,(show h.get? a=some _ from x)⟩
 |ext φ=>obtain⟨_,⟨_,e⟩,_⟩:=x;exact⟨_,e⟩
def iV(P:Ru)(w:World)(cv:Nat->Value):xx:=λouter H s E e s'=>∃(ea:Addr) (n:Nat) (a0:Value) (B:Heap) (H':Hp),e= .ref ea/\s'.os=s.os/\Vr s'.gens/\HOk P w H' s'.heap/\Un (mV outer) [] H H' s.heap s'.heap/\
 Heap.FlyingW B outer ea (cv n) a0 s'.heap/\(∀b o,s'.heap.get? b=some o->(H' b≠none\/(s.heap.get? b).isSome=true)->b∉mV outer->B.get? b=some o)/\E (cv n) none H'
section
variable{P:Ru}{w:World}{fs:List Addr}{X8 H:Hp}{h₀ h h':Heap}
def Fu(u:Un fs [] X8 H h₀ h)(ka:∀b o,h.get? b=some o->b∉fs->(H b≠none\/(h₀.get? b).isSome=true)->h'.get? b=some o)(kb:∀b o,h.get? b=some o->b∈fs->∃sl,h'.get? b=some {o with slots:=sl}):Un fs [] X8 H h₀ h' where
 keep:=λb o e n hb hx=>ka b o (u.keep b o e n hb hx) hb (.inr (by rw[e];rfl))
 slot:=λb o e n hb hx=>by
  obtain⟨sl,q⟩:=u.slot b o e n hb hx;obtain⟨Ir,q'⟩:=kb b _ q hb;exact⟨Ir,q'⟩
 free:=u.free
 there:=λb o e hx=>by
  obtain⟨o',q⟩:=u.there b o e hx;by_cases hb:b∈fs
  ·obtain⟨sl,q'⟩:=kb b _ q hb;exact⟨_,q'⟩
  ·exact⟨o',ka b o' q hb (.inr (by rw[e];rfl))⟩
 tups:=u.tups
 frzs:=u.frzs
 tbls:=u.tbls
def Bf(x:HOk P w H h)(hf:∀b∈fs,H b=none)(ka:∀b o,h.get? b=some o->b∉fs->H b≠none->h'.get? b=some o):HOk P w H h':=λa o e=>by
 refine(x a o e).stay (λb u hb q=>ka b u q (λz=>?_) ?_) (λ_ q=>q) λ_ _ q=>q
 ·have hz:=hf b z;rcases hb with rfl | hb
  ·rw[hz] at e;cases e
  ·rw[hz] at hb;cases hb
 ·rcases hb with rfl | hb
  ·rw[e];exact λz=>nomatch z
  ·rw[hb];exact λz=>nomatch z
end
section
variable{P:Ru}{w:World}{K:QZ}{mg:Str->Option Value}{base:Heap}{N:List Str}{qual:Str}{scope:Scope}{f:Addr}{cd:Value}{A:RQ}{outer:List Env}{X9:QT}{X8:Hp}{E:XK}{cv:Nat->Value}
def bj:Passes (iV P w cv) (c6 (iV P w cv) P w K mg base N qual scope f cd A outer X9 X8 E) (EX cv λn H'=>E (cv n) none H'):=by
 intro f8 σ H s e s' I ⟨ea,n,a0,B,H',he,MA,hg,hok,un,NT,hB,m,hm,hE⟩;subst he;have GW:((c6 (iV P w cv) P w K mg base N qual scope f cd A outer X9 X8 E)).env.locals=X9.heap.objs.size:=rfl;have D3:mV ((c6 (iV P w cv) P w K mg base N qual scope f cd A outer X9 X8 E)).stack=X9.heap.objs.size::mV outer:=rfl;show wpAny (model P w) (A.deeper (S5 qual scope X9.heap.objs.size f cd)) (leaving (S5 qual scope X9.heap.objs.size f cd) (.ref ea)) _ _ s';refine wpAny_leaves_onW I.ok.frames rfl NT λh' GH ups=>?_;have Dq:∀b∈mV ((c6 (iV P w cv) P w K mg base N qual scope f cd A outer X9 X8 E)).stack,H' b=none:=λb hb=>by
  obtain⟨o,ho⟩:∃o,s.heap.get? b=some o:=by
   obtain⟨_,o,ho,_⟩:=I.stack.mem hb;exact⟨o,ho⟩
  exact un.free b o ho (I.stkFree b hb) (by simp)
 have F4:∀b o,s'.heap.get? b=some o->b∉mV ((c6 (iV P w cv) P w K mg base N qual scope f cd A outer X9 X8 E)).stack->(H' b≠none\/(s.heap.get? b).isSome=true)->h'.get? b=some o:=λb o e hb hc=>GH.1 b o (hB b o e hc hb);have unA:Un (mV outer) [] X8 H' X9.heap s'.heap:=by
  have u1:Un (mV outer) [] X8 H X9.heap s.heap:=I.base;refine⟨λb o e nn hb hx=>?_,λb o e nn hb hx=>?_,λb o e nn hx=>?_,λb o e hx=>?_,λb xs q=>un.tups b xs (u1.tups b xs q),λb o u q=>un.frzs b o u (u1.frzs b o u q),λb ps q=>?_⟩
  ·refine un.keep b o (u1.keep b o e nn hb hx) (u1.free b o e nn hx) (λz=>?_) (by simp);rw[D3] at z;rcases Q9.mp z with z | z
   ·exact XN (QY e) (by rw[z];exact RC _)
   ·exact hb z
  ·obtain⟨sl,q⟩:=u1.slot b o e nn hb hx;obtain⟨Ir,q'⟩:=un.slot b _ q (u1.free b o e nn hx) (by rw[D3];exact QQ _ hb) (by simp);exact⟨Ir,q'⟩
  ·obtain⟨o',q⟩:=u1.there b o e hx;exact un.free b o' q (u1.free b o e nn hx) (by simp)
  ·obtain⟨o',q⟩:=u1.there b o e hx;exact un.there b o' q (by simp)
  ·obtain⟨m1,q1⟩:=u1.tbls b ps q;obtain⟨m2,q2⟩:=un.tbls b _ q1;exact⟨m1++m2,by rw[q2,Vq]⟩
 have Om:∀b,(X9.heap.get? b).isSome=true->(s.heap.get? b).isSome=true:=λb hb=>by
  obtain⟨o,ho⟩:=TF.mp hb;obtain⟨o',q⟩:=(show Un (mV outer) [] X8 H X9.heap s.heap from I.base).there b o ho (by simp);rw[q];rfl
 have M3:∀b,(X9.heap.get? b).isSome=true->b≠X9.heap.objs.size:=λb hb z=>by
  obtain⟨o,ho⟩:=TF.mp hb;exact XN (QY ho) (by rw[z];exact RC _)
 have Ko:∀b,b∉mV outer->(H' b≠none\/(X9.heap.get? b).isSome=true)->b∉mV ((c6 (iV P w cv) P w K mg base N qual scope f cd A outer X9 X8 E)).stack:=λb hb hc z=>by
  rcases hc with hc | hc
  ·exact hc (Dq b z)
  ·rw[D3] at z;rcases Q9.mp z with z | z
   ·exact M3 b hc z
   ·exact hb z
 refine⟨ea,n,a0,B,H',rfl,MA.trans I.os,hg,Bf hok Dq (λb o e hb hc=>F4 b o e hb (.inl hc)),Fu unA (λb o e hb hc=>F4 b o e (Ko b hb hc) (hc.imp id (Om b))) (λb o e hb=>?_),GH,λb o e hc hb=>?_,?_⟩
 ·obtain⟨_,o',vM,hd⟩:=NT.2.2.1.mem (show b∈mV ((c6 (iV P w cv) P w K mg base N qual scope f cd A outer X9 X8 E)).stack by rw[D3];exact QQ _ hb);rw[e] at vM;cases vM;exact ups b o e hd
 ·have JG:=Ko b hb hc;obtain⟨o',vM⟩:∃o',s'.heap.get? b=some o':=by
   rcases hc with hc | hc
   ·cases q:H' b with
    |none=>exact XN q hc
    |some u=>
     exact obj_some (hok b u q)
   ·obtain⟨o1,h1⟩:=TF.mp hc;exact unA.there b o1 h1 (by simp)
  have:=hB b o' vM (hc.imp id (Om b)) JG;rw[GH.1 b o' this] at e;cases e;exact this
 ·rw[hm];exact hE
end
def F7:D->Option String
 | .non=>some "NoneType"
 | .bl _=>some "bool"
 | .int _=>some "int"
 | .str _=>some "str"
 | .tup _=>some "tuple"
 | .lst _=>some "list"
 |_=>none
def Hb(k T:String):Option Bool:=if T="str"\/T="int"\/T="bool"\/T="tuple"\/T="list" then some (decide (k=T)||(decide (k="bool")&&decide (T="int"))) else none
def jw:List D->M D
 |[d, .raw (.ty T)]=>match F7 d with
  |some k=>match Hb k T with
   |some b=>aa (.bl b)
   |none=>af
  |none=>af
 |_=>af
def Hl{K:QZ}(hk:k="NoneType"\/k="bool"\/k="int"\/k="str"\/k="tuple"\/k="list")(h:Hb k T=some b):VP K (.type k) (.type T)=some b:=by
 unfold Hb at h;split at h
 ·rename_i hT;cases h;rcases hk with rfl | rfl | rfl | rfl | rfl | rfl<;>rcases hT with rfl | rfl | rfl | rfl | rfl<;>with_unfolding_all rfl
 ·cases h
section
variable{X:Cx}{Xw:Nat->Hp->Prop}{a b e e2:Expr}{δs:DA}{pos p:Pos}
def KP(K:QZ):List V->Hp->VK->Prop:=λxs H Q=>∃x T t b,xs=[x, .ty T]/\TyOf K H x t/\VP K t (.type T)=some b/\Q (.bl b) H
def AA:CallR X (.builtin "isinstance") (KP X.K):=by
 intro f8 s σ H xs us Q I r h;obtain⟨x,T,t,b,rfl,ty,e,q⟩:=h;obtain⟨u,w',rfl,r1,r2⟩:=vals2 r;cases (show w'=_ from r2);exact zq I r1 ty e λtk=>⟨.bl b,H,I.tok tk,rfl,q⟩
def Dd{K:QZ}(s:Same F H)(h:Den K F d v)(hk:F7 d=some k):TyOf K H v (.type k)/\(k="NoneType"\/k="bool"\/k="int"\/k="str"\/k="tuple"\/k="list"):=by
 cases d with
 |non=>cases hk;cases (show _=_ from h);exact⟨.non, .inl rfl⟩
 |bl x=>cases hk;cases (show _=_ from h);exact⟨.bl x, .inr (.inl rfl)⟩
 |int x=>cases hk;cases (show _=_ from h);exact⟨.int x, .inr (.inr (.inl rfl))⟩
 |str x=>cases hk;cases (show _=_ from h.1);exact⟨.str x, .inr (.inr (.inr (.inl rfl)))⟩
 |tup x=>cases hk;obtain⟨a,vs,rfl,h2,_⟩:=h;exact⟨.tup (s _ _ h2), .inr (.inr (.inr (.inr (.inl rfl))))⟩
 |lst x=>cases hk;obtain⟨a,vs,rfl,h2,_⟩:=h;exact⟨.lst (s _ _ h2), .inr (.inr (.inr (.inr (.inr rfl))))⟩
 |_=>cases hk
def zp{K:QZ}:tP K (KP K) jw:=λXw F H vs ds Q s h w=>by
 unfold jw at w;split at w
 ·rename_i d T;obtain⟨v,v',rfl,h1,h2⟩:=h.two;cases (show _=_ from h2);split at w
  ·rename_i k hk;split at w
   ·rename_i b hb;obtain⟨ty,pJ⟩:=Dd s h1 hk;exact⟨v,T, .type k,b,rfl,ty,Hl pJ hb,WP.now w s rfl⟩
   ·exact w.elim
  ·exact w.elim
 ·exact w.elim
def oQ(hg:Gl X "isinstance")(hm:X.mg "isinstance"=none)(hb:Rv "isinstance"=some (.builtin "isinstance"))(ha:jl X Xw [e,e2] δs)(he:Q8 [e,e2] X.env=(false,eval e X.env)::Q8 [e2] X.env:=by rfl)
 (pK:(Tr pos (Q8 [e2] X.env)).any (·.1)=false:=by rfl):PD X Xw (.Call (.Name "isinstance" p) [e,e2] [] pos) (dA jw δs):=
 cF AA zp hg hm hb ha (by decide) (by decide) he pK
def u6{x:Str}(hg:Gl X x)(hm:X.mg x=none)(hv:Rv x=some (.type T))(hn:x≠"__name__":=by decide)(hd:(x==("__debug__":Str))=false:=by decide):PD X Xw (.Name x pos) (dC (.raw (.ty T))):=
 gc (EO hg hm hv (show RelV (.ty T) (.type T) from rfl) hn hd) λ_=>rfl
def bools:List D->Option (List Bool)
 |[]=>some []
 | .bl b::r=>(bools r).map (b:: ·)
 |_=>none
def allM:List D->M D
 |[.lst ds]=>match bools ds with
  |some bs=>aa (.bl (bs.all id))
  |none=>af
 |_=>af
def kW{K:QZ}:∀{ds:List D}{vs:List V}{bs:List Bool},bools ds=some bs->DenL K F ds vs->vs=bs.map V.bl
 |[],_,_,e,h=>by cases e;exact h
 | .bl b::r,_,_,e,⟨v,r',h1,h2,h3⟩=>by
   unfold bools at e;cases q:bools r with
   |none=>rw[q] at e;cases e
   |some bs=>rw[q] at e;cases e;subst h1;rw[kW q h3,show v= .bl b from h2];rfl
 | .non::_,_,_,e,_=>by cases e
 | .int _::_,_,_,e,_=>by cases e
 | .str _::_,_,_,e,_=>by cases e
 | .raw _::_,_,_,e,_=>by cases e
 | .exc _::_,_,_,e,_=>by cases e
 | .scr _::_,_,_,e,_=>by cases e
 | .tup _::_,_,_,e,_=>by cases e
 | .lst _::_,_,_,e,_=>by cases e
def tB:∀{bs:List Bool}{aE:List Value},Vals (bs.map V.bl) aE->aE=bs.map SD
 |[],_,r=>by cases r;rfl
 |b::bs,_,r=>by
  cases r with
  |cons r1 r2=>cases (show _=_ from r1);rw[tB r2];rfl
def M8:List V->Hp->VK->Prop:=λxs H Q=>∃(a:Addr) (bs:List Bool),xs=[.ref a]/\H a=some (.lst (bs.map V.bl))/\Q (.bl (bs.all id)) H
def all_range{bs:List Bool}:(Rf bs.length).all (λi=>bs.getD i false)=bs.all id:=by
 induction bs with
 |nil=>rfl
 |cons b bs ih=>
  rw[QV,UT,Ur,Uw,Ur];congr 1
def yV(hc:X.calm=true):CallR X (.builtin "all") M8:=by
 intro f8 s σ H xs us Q I r h;obtain⟨a,bs,rfl,hH,q⟩:=h;obtain⟨u,rfl,r1⟩:=vals1 r;cases (show u=_ from r1);obtain⟨aE,r2,pl,hz⟩:=I.list (SqL.of hH);obtain rfl:=tB r2;have jv:a≠s.heap.objs.size:=Rl (I.hok.lt hH);refine call_all_walk (V2 pl.isList ?_);refine⟨s.heap.objs.size,_,_,_,_,_,λi=>bs.getD i false,rfl,Walks.list (show X.A.in1.handled=none from I.ok.hd hc) s.heap.objs.size a jv (bs.map SD).toArray,⟨⟨_,Q3 _ rfl,rfl,rfl⟩,WR pl.isList λo e=>QO _ e⟩,?_,λh' tk k=>?_⟩
 ·intro i v s' Q' E' hv hq;have hv:(bs.map SD).toArray[i]? =some v:=hv;rw[WN,Q1] at hv;cases q':bs[i]? with
  |none=>rw[q'] at hv;cases hv
  |some b=>
   rw[q'] at hv;cases hv;have:bs.getD i false=b:=by rw[QS,q'];rfl
   have hq:Q' (bs.getD i false) s':=hq;rw[this] at hq;exact Ss hq
 ·have e:(Rf (bs.map SD).toArray.size).all (λi=>bs.getD i false)=bs.all id:=by
   rw[QW,QM];exact all_range
  rw[e];refine⟨.bl (bs.all id),H,I.kept λb o e'=>k b o (λz=>?_) (QO _ e'),rfl,q⟩;have z:b=s.heap.objs.size:=by simpa using z
  exact XN (QY e') (by rw[z];exact RC _)
def wV(hc:X.calm=true)(hg:Gl X "all")(hm:X.mg "all"=none)(hb:Rv "all"=some (.builtin "all"))(ha:jl X Xw [e] δs)(he:Q8 [e] X.env=[(false,eval e X.env)]:=by rfl):PD X Xw (.Call (.Name "all" p) [e] [] pos) (dA allM δs):=
 cF (yV hc) (λXw F H vs ds Q s h w=>by
  unfold allM at w;split at w
  ·rename_i ds;obtain⟨v,rfl,h1⟩:=h.one;obtain⟨a,ws,rfl,h2,h3,_⟩:=h1;split at w
   ·rename_i bs hb;exact⟨a,bs,rfl,by rw[<-kW hb h3];exact s _ _ h2,WP.now w s rfl⟩
   ·exact w.elim
  ·exact w.elim) hg hm hb ha (by decide) (by decide) he rfl
end
section
variable{X:Cx}{Xw:Nat->Hp->Prop}{a b e e2:Expr}{es:List Expr}{δ δa δb:DE}{pos p v4 a6:Pos}
def Fp:∀s0 X8 D σ H,tS X.K Xw s0 X8 (vf i δ) D σ H->C3 (Nj X.K "list" yA (pf i) (C2 (tD X.K Xw δ) IA)) D σ H:=λs0 X8 D σ H ⟨F,ρ,s,w⟩=>by
 unfold vf at w;cases ho:zN ρ i with
 |none=>rw[ho] at w;exact w.elim
 |some ds=>
  rw[ho] at w;have hi:=qM ho;obtain⟨v,hv,a,o,rfl,hH,hF,vs,rfl,hd,hl⟩:=s.st.den i _ hi;have w:WPS X.K Xw s0 X8 (δ ρ>>=λd=>if ds.length<lim then aa (.nx (ρ.set i (some (.ow (.lst (ds++[d])))))) else af) D:=w;refine⟨.ref a,hv, .inl ⟨rfl,vs,SqL.of hH⟩,F,ρ,s.st,?_⟩;rcases(δ ρ).cs with q | ⟨n,q⟩ | ⟨d,q⟩
  ·rw[q] at w;exact w.elim
  ·rw[q] at w⊢;exact λF' H' e'=>w F' H' (s.ext.trans e')
  ·rw[q] at w⊢;intro u H1 F1 e1 hq;have w:WPS X.K Xw s0 X8 (if ds.length<lim then aa (.nx (ρ.set i (some (.ow (.lst (ds++[d])))))) else af) D:=w;split at w
   ·rename_i eE;have v6:=hd.len;refine⟨a,vs,u,rfl,rfl,e1.hh _ _ hH,by have:=d3;omega,?_⟩;exact w σ F1 _ ((s.ext' e1).chg hi hv ⟨_,rfl,DenL.append (DenL.mono e1.ff hd) (.cons hq .nil),by rw[Q2];exact eE⟩)
   ·exact w.elim
def Fq:∀s0 X8 D σ H,tS X.K Xw s0 X8 (CI i δ) D σ H->C3 (Nj X.K "list" yB (pf i) (C2 (tD X.K Xw δ) IA)) D σ H:=λs0 X8 D σ H ⟨F,ρ,s,w⟩=>by
 unfold CI at w;cases ho:zN ρ i with
 |none=>rw[ho] at w;exact w.elim
 |some ds=>
  rw[ho] at w;have hi:=qM ho;obtain⟨v,hv,a,o,rfl,hH,hF,vs,rfl,hd,hl⟩:=s.st.den i _ hi;have w:WPS X.K Xw s0 X8 (δ ρ>>=λd=>lstM d>>=λes=>if ds.length+es.length<=lim then aa (.nx (ρ.set i (some (.ow (.lst (ds++es)))))) else af) D:=w;refine⟨.ref a,hv, .inl ⟨rfl,vs,SqL.of hH⟩,F,ρ,s.st,?_⟩;rcases(δ ρ).cs with q | ⟨n,q⟩ | ⟨d,q⟩
  ·rw[q] at w;exact w.elim
  ·rw[q] at w⊢;exact λF' H' e'=>w F' H' (s.ext.trans e')
  ·rw[q] at w⊢;intro u H1 F1 e1 hq;cases d with
   |lst es=>
    obtain⟨b,ws,rfl,k2,k3,k4⟩:=hq;have w:WPS X.K Xw s0 X8 (if ds.length+es.length<=lim then aa (.nx (ρ.set i (some (.ow (.lst (ds++es)))))) else af) D:=w;split at w
    ·rename_i eE;have v6:=hd.len;have Oe:=k3.len;refine⟨a,b,vs,ws,rfl,rfl,e1.hh _ _ hH,e1.fh _ _ k2,by have:=d3;omega,?_⟩;exact w σ F1 _ ((s.ext' e1).chg hi hv ⟨_,rfl,DenL.append (DenL.mono e1.ff hd) k3,by rw[Q2];exact eE⟩)
    ·exact w.elim
   |_=>exact w.elim
def sH(hv:PE X (.Name x p) (pf i))(he:PD X Xw e δ)(hs:UW (.Call (.Attribute (.Name x p) "append" v4) [e] [] a6) none pos.line X.env=pure false:=by rfl)
 (eX:SX (.Name x p) "append" X.env (eval (.Name x p) X.env)=eval (.Name x p) X.env:=by rfl)
 (k9:((Tr a6 (Q8 [e] X.env)).all (λx=>!x.1)&&(U7 a6 (T2 [] X.env)).all (λx=>x.1.isSome)&&decide ([e].length+([]:List TN).length+(if ([]:List TN).isEmpty then 0 else 1)<30))=true:=by rfl)
 (eY:(v4.endLine==a6.line)=true:=by rfl)(rU:Q8 [e] X.env=[(false,eval e X.env)]:=by rfl):fQ X Xw (.Expr (.Call (.Attribute (.Name x p) "append" v4) [e] [] a6) pos) (vf i δ):=λs0 X8=>
 PS.weak (m6 (Ca TK PySem.F.slot_list_append PySem.F.type_list_append qG hv (su he sv rU) eX k9 eY rU rfl) hs) λD σ H w=>Fp s0 X8 D σ H w
def E4(hv:PE X (.Name x p) (pf i))(he:PD X Xw e δ)(hs:UW (.Call (.Attribute (.Name x p) "extend" v4) [e] [] a6) none pos.line X.env=pure false:=by rfl)
 (eX:SX (.Name x p) "extend" X.env (eval (.Name x p) X.env)=eval (.Name x p) X.env:=by rfl)
 (k9:((Tr a6 (Q8 [e] X.env)).all (λx=>!x.1)&&(U7 a6 (T2 [] X.env)).all (λx=>x.1.isSome)&&decide ([e].length+([]:List TN).length+(if ([]:List TN).isEmpty then 0 else 1)<30))=true:=by rfl)
 (eY:(v4.endLine==a6.line)=true:=by rfl)(rU:Q8 [e] X.env=[(false,eval e X.env)]:=by rfl):fQ X Xw (.Expr (.Call (.Attribute (.Name x p) "extend" v4) [e] [] a6) pos) (CI i δ):=λs0 X8=>
 PS.weak (m6 (Ca TK PySem.F.slot_list_extend PySem.F.type_list_extend zF hv (su he sv rU) eX k9 eY rU rfl) hs) λD σ H w=>Fq s0 X8 D σ H w
def BX:OpR X (Uo .Add) (λx y H Q=>∃a b ys,x= .ref a/\y= .ref b/\SqT X.K H a []/\SqT X.K H b ys/\Q (.ref b) H):=by
 intro f8 s σ H x y v u Q I rx ry h;obtain⟨a,b,ys,rfl,rfl,ha,hb,q⟩:=h;cases rx;cases ry;obtain⟨aE,r1,p1,_⟩:=I.tuple ha;obtain⟨fY,r2,p2,_⟩:=I.tuple hb;cases r1;obtain⟨⟨cls,dd,data,sl⟩,ho,hc,n,hd⟩:=id p1;obtain⟨⟨Jk,ze,data2,Gi⟩,Du,Dm,n2,hd2⟩:=id p2;simp only at hc hd Dm hd2;subst hc hd Dm hd2;exact concat_meets ⟨_,ho,rfl⟩ ⟨_,Du,rfl⟩ Wr Xi UI UE (Uv _ _)
  (tuple_addW0 a b _ _ n n2 dd ze sl Gi (by simp)) ⟨ho,Du,⟨.ref b,H,I,rfl,q⟩⟩
def xQ:D->D->M D
 | .tup x, .tup y=>if x.length+y.length<=lim then aa (.tup (x++y)) else af
 |_,_=>af
def EG(ha:PD X Xw a δa)(hb:PD X Xw b δb):PD X Xw (.BinOp a .Add b pos) (d2 xQ δa δb):=ml (BX.or Ew) (λXw F H x y dx dy Q s hx hy w=>by
 unfold xQ at w;split at w
 ·rename_i i j;obtain⟨a,vs,h1,h2,h3,h4⟩:=hx;obtain⟨a',tO,k1,k2,k3,k4⟩:=hy;split at w
  ·rename_i hl;have e1:=h3.len;have e2:=k3.len;have:=d3;by_cases hv:vs=[]
   ·subst hv;have:i=[]:=by cases i with | nil=>rfl | cons _ _=>simp at e1
    subst this;exact .inl ⟨a,a',tO,h1,k1,SqT.of (s _ _ h2),SqT.of (s _ _ k2),WP.now w s ⟨a',tO,k1▸rfl,k2,k3,k4⟩⟩
   ·refine .inr ⟨a,a',vs,tO,h1,k1,SqT.of (s _ _ h2),SqT.of (s _ _ k2),hv,by omega,λz=>?_,λz p hp=>?_⟩
    ·subst z;have:j=[]:=by cases j with | nil=>rfl | cons _ _=>simp at e2
     subst this;rw[S3] at w;exact WP.now w s ⟨a,vs,rfl,h2,h3,h4⟩
    ·exact WP.fin w (Ext.lay s hp) ⟨p,_,rfl,aJ,DenL.mono (Ext.lay s hp).ff (h3.append k3),by rw[Q2];exact hl⟩
  ·exact w.elim
 ·exact w.elim) ha hb
end
section
variable{X:Cx}{Xw:Nat->Hp->Prop}{a b e e2 o:Expr}{es:List Expr}{δa δb δo:DE}{δs:DA}{pos p v4 a6:Pos}
def dM(kd:D->Bool)(g:D->List D->M D)(o:DE)(s:DA):DE:=λρ=>o ρ>>=λd=>if kd d then s ρ>>=λds=>g d ds else af
def B4{id:String}(pa:PlainAttrs T)(slot:Slot T name id)(MH:typeOf (.builtin id)=pure (.type "method_descriptor"))(hm:Jg X id r)
 (hk:∀(F H:Hp) (x:V) (d:D),kd d=true->Same F H->Den X.K F d x->La X.K T x H)
 (hd:∀(Xw:Nat->Hp->Prop) (F H:Hp) (x:V) (vs:List V) (d:D) (ds:List D) (Q:VK),Same F H->Den X.K F d x->DenL X.K F ds vs->WP X.K Xw F H (g d ds) Q->r x vs H Q)
 (ho:PD X Xw o δo)(ha:jl X Xw (e::es) δs)
 (eX:SX o name X.env (eval o X.env)=eval o X.env:=by rfl)
 (k9:((Tr a6 (Q8 (e::es) X.env)).all (λx=>!x.1)&&(U7 a6 (T2 [] X.env)).all (λx=>x.1.isSome)
  &&decide ((e::es).length+([]:List TN).length+(if ([]:List TN).isEmpty then 0 else 1)<30))=true:=by rfl)
 (eY:(v4.endLine==a6.line)=true:=by rfl) (hs:Q8 (e::es) X.env=(false,eval e X.env)::Q8 es X.env:=by rfl) (wk:(Tr a6 (Q8 es X.env)).any (·.1)=false:=by rfl):
 PD X Xw (.Call (.Attribute o name v4) (e::es) [] a6) (dM kd g δo δs):=PE.weak (Ca pa slot MH hm ho ha eX k9 eY hs wk) λσ H Q ⟨F,ρ,s,w⟩=>by
 refine⟨F,ρ,s,WP.mono (WP.bind w) λv H1 ⟨F1,d,e1,q1,w1⟩=>?_⟩;split at w1
 ·rename_i PK;refine⟨hk F1 H1 v d PK e1.fh q1,F1,ρ,s.ext e1,WPL.mono (WP.bindL w1) λvs H2 ⟨F2,ds,e2,q2,w2⟩=>?_⟩;exact hd Xw F2 H2 v vs d ds Q e2.fh (Den.mono e2.ff q1) q2 w2
 ·exact w1.elim
def G_:D->Bool
 | .str _=>true
 |_=>false
def eZ:D->Bool
 | .lst _=>true
 |_=>false
def Ha{K:QZ}(F H:Hp)(x:V)(d:D)(h:G_ d=true)(s:Same F H)(q:Den K F d x):La K "str" x H:=by
 cases d with
 |str z=>cases (show _=_ from q.1);exact rfl
 |_=>cases h
def uu{K:QZ}(F H:Hp)(x:V)(d:D)(h:eZ d=true)(s:Same F H)(q:Den K F d x):La K "list" x H:=by
 cases d with
 |lst z=>obtain⟨a,vs,rfl,h2,_⟩:=q;exact .inl ⟨rfl,vs,SqL.of (s _ _ h2)⟩
 |_=>cases h
def mS:List D->Option (List Str)
 |[]=>some []
 | .str x::r=>(mS r).map (x:: ·)
 |_=>none
def pj{K:QZ}:∀{ds:List D}{vs:List V}{xs:List Str},mS ds=some xs->DenL K F ds vs->vs=xs.map V.str
 |[],_,_,e,h=>by cases e;exact h
 | .str b::r,_,_,e,⟨v,r',h1,h2,h3⟩=>by
   unfold mS at e;cases q:mS r with
   |none=>rw[q] at e;cases e
   |some bs=>rw[q] at e;cases e;subst h1;rw[pj q h3,show v= .str b from h2.1];rfl
 | .non::_,_,_,e,_=>by cases e
 | .int _::_,_,_,e,_=>by cases e
 | .bl _::_,_,_,e,_=>by cases e
 | .raw _::_,_,_,e,_=>by cases e
 | .exc _::_,_,_,e,_=>by cases e
 | .scr _::_,_,_,e,_=>by cases e
 | .tup _::_,_,_,e,_=>by cases e
 | .lst _::_,_,_,e,_=>by cases e
def pq:∀{xs:List Str}{aE:List Value},Vals (xs.map V.str) aE->StrsAre aE xs
 |[],_,r=>by cases r;exact .nil
 |b::bs,_,r=>by
  cases r with
  |cons r1 r2=>obtain⟨t,rfl⟩:=r1;exact .cons b t (pq r2)
def dI:List Str->Str
 |[]=>⟨#[]⟩
 |x::r=>x++dI r
def joinM:D->List D->M D
 | .str sep,[.lst ds]=>match mS ds with
   |some xs=>if sep.length=0/\(xs.map (·.length)).sum<=lim then aa (.str (dI xs)) else af
   |none=>af
 | .str sep,[.tup ds]=>match mS ds with
   |some xs=>if sep.length=0/\(xs.map (·.length)).sum<=lim then aa (.str (dI xs)) else af
   |none=>af
 |_,_=>af
def nu:∀xs:List Str,(dI xs).length=(xs.map (·.length)).sum
 |[]=>rfl
 |x::r=>by
  show (x++dI r).length=_;rw[iw,nu r,QX,Se]
def Fl{x:Str}(h:x.length=0):x=⟨#[]⟩:=by
 obtain⟨⟨l⟩⟩:=x;have:l.length=0:=h;cases l with
 |nil=>rfl
 |cons _ _=>simp at this
def mq(x:Str):x++(⟨#[]⟩:Str)=x:=by
 obtain⟨c⟩:=x;show (⟨c++ #[]⟩:Str)=⟨c⟩
 simp
def lV(sep:Str)(h:sep.length=0):∀xs:List Str,Txt.join sep xs=dI xs:=by
 have e:=Fl h;subst e;intro xs;show Builtin.Str.glued _ xs=_;rw[StrLaws.glued_eq_join];induction xs with
 |nil=>rfl
 |cons x r ih=>
  cases r with
  |nil=>show x=x++(⟨#[]⟩:Str);rw[mq]
  |cons y r=>show x++(⟨#[]⟩:Str)++Str.join _ (y::r)=x++dI (y::r);rw[mq,ih]
def rJoin(K:QZ):V->List V->Hp->VK->Prop:=λx vs H Q=>∃(sep:Str) (a:Addr) (xs:List Str),x= .str sep/\vs=[.ref a]/\(H a=some (.lst (xs.map V.str))\/H a=some (.tup (xs.map V.str)))/\sep.length=0/\(xs.map (·.length)).sum<=lim/\Q (.str (dI xs)) H
def Er:Jg X "str.join" (rJoin X.K):=by
 intro f8 s σ H x vs v us Q I rx rv h;obtain⟨sep,a,xs,rfl,rfl,hH,hs,hl,q⟩:=h;obtain⟨t,rfl⟩:=rx;obtain⟨u,rfl,r1⟩:=rv.one;cases (show u=_ from r1);have hok:(xs.map (·.length)).sum+xs.length*sep.length<=16777216:=by
  rw[hs,Nat.mul_zero];unfold lim at hl;omega
 rcases hH with hH | hH
 ·obtain⟨aE,r2,pl,hz⟩:=I.list (SqL.of (K:=X.K) hH);refine join_list pl.isList (by simpa using pq r2) hok λt' k=>⟨.str (dI xs),H,I.tok k,⟨t',by rw[lV sep hs]⟩,q⟩
 ·obtain⟨aE,r2,pl,hz⟩:=I.tuple (SqT.of hH);refine join_tuple pl (by simpa using pq r2) hok λt' k=>⟨.str (dI xs),H,I.tok k,⟨t',by rw[lV sep hs]⟩,q⟩
def yt(ho:PD X Xw o δo)(ha:jl X Xw [e] δs)(eX:SX o "join" X.env (eval o X.env)=eval o X.env:=by rfl)
 (k9:((Tr a6 (Q8 [e] X.env)).all (λx=>!x.1)&&(U7 a6 (T2 [] X.env)).all (λx=>x.1.isSome)&&decide ([e].length+([]:List TN).length+(if ([]:List TN).isEmpty then 0 else 1)<30))=true:=by rfl)
 (eY:(v4.endLine==a6.line)=true:=by rfl)(rU:Q8 [e] X.env=[(false,eval e X.env)]:=by rfl):PD X Xw (.Call (.Attribute o "join" v4) [e] [] a6) (dM G_ joinM δo δs):=
 B4 PySem.F.plainAttrs_str PySem.F.slot_str_join PySem.F.type_str_join Er Ha (λXw F H x vs d ds Q s hx hv w=>by
  unfold joinM at w;split at w
  ·rename_i sep ds;obtain⟨v,rfl,h1⟩:=hv.one;obtain⟨a,ws,rfl,h2,h3,_⟩:=h1;split at w
   ·rename_i xs J_;split at w
    ·rename_i hc;exact⟨sep,a,xs,hx.1,rfl, .inl (by rw[<-pj J_ h3];exact s _ _ h2),hc.1,hc.2,WP.now w s ⟨rfl,by rw[nu];exact hc.2⟩⟩
    ·exact w.elim
   ·exact w.elim
  ·rename_i sep ds;obtain⟨v,rfl,h1⟩:=hv.one;obtain⟨a,ws,rfl,h2,h3,_⟩:=h1;split at w
   ·rename_i xs J_;split at w
    ·rename_i hc;exact⟨sep,a,xs,hx.1,rfl, .inr (by rw[<-pj J_ h3];exact s _ _ h2),hc.1,hc.2,WP.now w s ⟨rfl,by rw[nu];exact hc.2⟩⟩
    ·exact w.elim
   ·exact w.elim
  ·exact w.elim) ho ha eX k9 eY rU rfl
def C9:List D->M D
 |[.lst ds]=>aa (.tup ds)
 |[.tup ds]=>aa (.tup ds)
 |_=>af
def B8(hg:Gl X "tuple")(hm:X.mg "tuple"=none)(hb:Rv "tuple"=some (.type "tuple"))(ha:jl X Xw [e] δs)(he:Q8 [e] X.env=[(false,eval e X.env)]:=by rfl):PD X Xw (.Call (.Name "tuple" p) [e] [] pos) (dA C9 δs):=
 qT pG (λXw F H vs ds Q s h w=>by
  unfold C9 at w;split at w
  ·rename_i ds;obtain⟨v,rfl,h1⟩:=h.one;obtain⟨a,ws,rfl,h2,h3,h4⟩:=h1;exact⟨a,ws,rfl, .inl ⟨SqL.of (s _ _ h2),λl hl=>WP.fin w (Ext.lay s hl) ⟨l,ws,rfl,aJ,DenL.mono (Ext.lay s hl).ff h3,h4⟩⟩⟩
  ·rename_i ds;obtain⟨v,rfl,h1⟩:=h.one;obtain⟨a,ws,rfl,h2,h3,h4⟩:=h1;exact⟨a,ws,rfl, .inr ⟨SqT.of (s _ _ h2),WP.now w s ⟨a,ws,rfl,h2,h3,h4⟩⟩⟩
  ·exact w.elim) hg hm hb ha (by decide) (by decide) he rfl
def wZ(hc:X.calm=true)(hg:Gl X "max")(hm:X.mg "max"=none)(hb:Rv "max"=some (.builtin "max"))(ha:jl X Xw [e,e2] δs)(he:Q8 [e,e2] X.env=(false,eval e X.env)::Q8 [e2] X.env:=by rfl)
 (pK:(Tr pos (Q8 [e2] X.env)).any (·.1)=false:=by rfl):PD X Xw (.Call (.Name "max" p) [e,e2] [] pos) (dA wC δs):=
 cF (yX hc) (λXw F H vs ds Q s h w=>by
  unfold wC at w;split at w
  ·obtain⟨v,v',rfl,h1,h2⟩:=h.two;cases (show _=_ from h1);cases (show _=_ from h2);exact⟨_,_,rfl,WP.now w s rfl⟩
  ·exact w.elim) hg hm hb ha (by decide) (by decide) he pK
def B6(hc:X.calm=true)(hg:Gl X "min")(hm:X.mg "min"=none)(hb:Rv "min"=some (.builtin "min"))(ha:jl X Xw [e,e2] δs)(he:Q8 [e,e2] X.env=(false,eval e X.env)::Q8 [e2] X.env:=by rfl)
 (pK:(Tr pos (Q8 [e2] X.env)).any (·.1)=false:=by rfl):PD X Xw (.Call (.Name "min" p) [e,e2] [] pos) (dA zD δs):=
 cF (yZ hc) (λXw F H vs ds Q s h w=>by
  unfold zD at w;split at w
  ·obtain⟨v,v',rfl,h1,h2⟩:=h.two;cases (show _=_ from h1);cases (show _=_ from h2);exact⟨_,_,rfl,WP.now w s rfl⟩
  ·exact w.elim) hg hm hb ha (by decide) (by decide) he pK
def nums:List D->Option (List Int)
 |[]=>some []
 | .int x::r=>(nums r).map (x:: ·)
 |_=>none
def de{K:QZ}:∀{ds:List D}{vs:List V}{xs:List Int},nums ds=some xs->DenL K F ds vs->vs=xs.map V.int
 |[],_,_,e,h=>by cases e;exact h
 | .int b::r,_,_,e,⟨v,r',h1,h2,h3⟩=>by
   unfold nums at e;cases q:nums r with
   |none=>rw[q] at e;cases e
   |some bs=>rw[q] at e;cases e;subst h1;rw[de q h3,show v= .int b from h2];rfl
 | .non::_,_,_,e,_=>by cases e
 | .str _::_,_,_,e,_=>by cases e
 | .bl _::_,_,_,e,_=>by cases e
 | .raw _::_,_,_,e,_=>by cases e
 | .exc _::_,_,_,e,_=>by cases e
 | .scr _::_,_,_,e,_=>by cases e
 | .tup _::_,_,_,e,_=>by cases e
 | .lst _::_,_,_,e,_=>by cases e
def iZ(neg:Bool):D->D->M D
 | .int i, .tup ds=>match nums ds with | some ns=>aa (.bl (if neg then !ns.contains i else ns.contains i)) | none=>af
 |_,_=>af
def Bi(i:Int)(ns:List Int):LF (.int i) (ns.map V.int)=ns.contains i:=by
 unfold LF;rw[WQ];induction ns with
 |nil=>rfl
 |cons n ns ih=>
  rw[Tt,Xr,ih];congr 1;show Dj (.int n) (.int i)=(i==n)
  unfold Dj;exact Bool.beq_comm
def wo{neg:Bool}{K:QZ}:vO K (Na K neg) (iZ neg):=λXw F H x y dx dy Q s hx hy w=>by
 unfold iZ at w;split at w
 ·rename_i i ds;obtain⟨a,vs,h1,h2,h3,h4⟩:=hy;split at w
  ·rename_i ns hn;have hv:=de hn h3;subst hv;cases (show _=_ from hx);refine⟨a,ns.map V.int,h1, .inr (SqT.of (s _ _ h2)),rfl,?_,?_⟩
   ·rw[Uw];exact Rt.mpr λ_ _=>rfl
   ·rw[Bi];exact WP.now w s rfl
  ·exact w.elim
 ·exact w.elim
def zU(ha:PD X Xw a δa)(hb:PD X Xw b δb)(hm:RX .NotIn b=false:=by rfl):pE X Xw (.Compare a [.NotIn] [b] pos) (dS (d2 (iZ true) δa δb)):=fF sr wo ha hb hm
def A0(neg:Bool):D->D->M D
 | .str x, .str y=>aa (.bl (if neg then !(!(Tz y x 0 y.length 1).isEmpty) else !(Tz y x 0 y.length 1).isEmpty))
 |_,_=>af
def HG(ha:PD X Xw a δa)(hb:PD X Xw b δb)(hm:RX .In b=false:=by rfl):PD X Xw (.Compare a [.In] [b] pos) (d2 (A0 false) δa δb):=wX zL (λXw F H x y dx dy Q s hx hy w=>by
 unfold A0 at w;split at w
 ·exact⟨_,_,hx.1,hy.1,WP.now w s rfl⟩
 ·exact w.elim) ha hb hm
end
end L3
namespace L3
open PySem PySem.Spec L2 SeqAt HT
open PyProof.Rows hiding St
section
variable{Xw:Nat->Hp->Prop}{b:Expr}
def WPO(Xw:Nat->Hp->Prop)(F H:Hp)(m:M (Option Int))(Q:Option Int->Hp->Prop):Prop:=
 match m with
 |none=>False
 |some (.ok b)=>∀H' F',Ext F H F' H'->Q b H'
 |some (.ex n)=>∀F' H',Ext F H F' H'->Xw n H'
def WPO.mono{Xw:Nat->Hp->Prop}{F H:Hp}{m:M (Option Int)}{Q Q':Option Int->Hp->Prop}(h:WPO Xw F H m Q)(k:∀v H',Q v H'->Q' v H'):WPO Xw F H m Q':=by
 match m,h with
 |none,h=>exact h
 |some (.ok d),h=>exact λH2 F2 e2=>k _ _ (h H2 F2 e2)
 |some (.ex n),h=>exact h
end
def Le(x:Str):It:=⟨λi _=>i<x.cps.size,λi H v H'=>H'=H/\∃c,x.cps[i]? =some c/\v= .str ⟨#[c]⟩,λi _=>x.cps.size<=i⟩
def Ac{P:Ru}{K:QZ}(it:Addr)(x:Str)(t:Tok):Turn P w K tg (Le x) [it] it (λi h=>i<=x.cps.size/\h.IsStrIter it "str_ascii_iterator" x t i) where
 mem:=by simp
 obj:=λi h st b hb=>by
  have e:b=it:=by simpa using hb
  subst e;obtain⟨_,o,e,c,d⟩:=st;exact⟨o,e,λv z=>by rw[d] at z;cases z⟩
 keep:=λi h h' st k=>⟨st.1,let ⟨o,e,r⟩:=st.2;⟨o,k it (by simp) o e,r⟩⟩
 item:=by
  intro X hP hw hK hc i f8 s σ H E I hf st hg;subst hP hw hK;obtain⟨f0,f1,f2,f3,f4,f5⟩:=hf it (by simp);have hi:i<x.cps.size:=hg;refine(Walks.strAscii (I.ok.hd hc) it x t).item i s _ _ hi st.2 λv h' tk hv jJ kk=>?_;obtain⟨c,u,Mg,rfl⟩:=hv;have I1:Inv X f8 σ H {s with heap:=h',toks:=tk}:=I.turned (λb o hb e=>kk b o (by simpa using hb) e) f0 f1 f3 f4 f5;obtain⟨o,e,cc,dd⟩:=id jJ;exact⟨_,rfl,nM e cc dd (by decide) ⟨.str ⟨#[c]⟩,H,I1,⟨u,rfl⟩,⟨rfl,c,Mg,rfl⟩,⟨hi,jJ⟩,λb hb=>(hf b hb).1⟩⟩
 done:=by
  intro X hP hw hK hc i f8 s σ H E I hf st hg;subst hP hw hK;obtain⟨f0,f1,f2,f3,f4,f5⟩:=hf it (by simp);have hi:i=x.cps.size:=Va st.1 hg;subst hi;exact(Walks.strAscii (I.ok.hd hc) it x t).done s _ _ st.2 λh' tk kk=>⟨rfl,I.turned (λb o hb e=>kk b o (by simpa using hb) e) f0 f1 f3 f4 f5⟩
 self:=λ_ _ _ _ _ st h=>wpAny_pyIter_striter_ascii st.2 h
def Ad{P:Ru}{K:QZ}(it:Addr)(x:Str)(t:Tok):Turn P w K tg (Le x) [it] it (λi h=>i<=x.cps.size/\h.IsStrIter it "str_iterator" x t i) where
 mem:=by simp
 obj:=λi h st b hb=>by
  have e:b=it:=by simpa using hb
  subst e;obtain⟨_,o,e,c,d⟩:=st;exact⟨o,e,λv z=>by rw[d] at z;cases z⟩
 keep:=λi h h' st k=>⟨st.1,let ⟨o,e,r⟩:=st.2;⟨o,k it (by simp) o e,r⟩⟩
 item:=by
  intro X hP hw hK hc i f8 s σ H E I hf st hg;subst hP hw hK;obtain⟨f0,f1,f2,f3,f4,f5⟩:=hf it (by simp);have hi:i<x.cps.size:=hg;refine(Walks.strWide (I.ok.hd hc) it x t).item i s _ _ hi st.2 λv h' tk hv jJ kk=>?_;obtain⟨c,u,Mg,rfl⟩:=hv;have I1:Inv X f8 σ H {s with heap:=h',toks:=tk}:=I.turned (λb o hb e=>kk b o (by simpa using hb) e) f0 f1 f3 f4 f5;obtain⟨o,e,cc,dd⟩:=id jJ;exact⟨_,rfl,nM e cc dd (by decide) ⟨.str ⟨#[c]⟩,H,I1,⟨u,rfl⟩,⟨rfl,c,Mg,rfl⟩,⟨hi,jJ⟩,λb hb=>(hf b hb).1⟩⟩
 done:=by
  intro X hP hw hK hc i f8 s σ H E I hf st hg;subst hP hw hK;obtain⟨f0,f1,f2,f3,f4,f5⟩:=hf it (by simp);have hi:i=x.cps.size:=Va st.1 hg;subst hi;exact(Walks.strWide (I.ok.hd hc) it x t).done s _ _ st.2 λh' tk kk=>⟨rfl,I.turned (λb o hb e=>kk b o (by simpa using hb) e) f0 f1 f3 f4 f5⟩
 self:=λ_ _ _ _ _ st h=>wpAny_pyIter_striter_wide st.2 h
section
variable{X:Cx}{Xw:Nat->Hp->Prop}{tg a b e l o:Expr}{δ:DE}
def MS(tl:TE):TI:=λσ H R=>tl σ H λx H1=>∃z,x= .str z/\R (Le z) H1
def HY{tl:TE}(hl:PE X l tl):PI X tg l (MS tl):=by
 intro f8 s σ H R I h;refine b7 (hl f8 s σ H _ I h) λv s1 ⟨x,H1,I1,r1,q1⟩=>?_;obtain⟨z,e,q⟩:=q1;subst e;obtain⟨t,rfl⟩:=r1;have fp:∀b∈[s1.heap.objs.size],pD X f8 H1 b:=λb hb=>by
  have e:b=s1.heap.objs.size:=by simpa using hb
  subst e;exact I1.fpOk (Q0 _) (I1.hok.fresh (Q0 _))
 cases ha:z.cps.all (· <128)
 ·exact wpAny_pyIter_wide ha ⟨s1.heap.objs.size,[s1.heap.objs.size],_,_,H1,rfl,I1.kept (t':=s1.toks) λb o e=>QO _ e,Ad _ z t,⟨Ry _,_,Q3 _ rfl,rfl,rfl⟩,fp,q⟩
 ·exact wpAny_pyIter_ascii ha ⟨s1.heap.objs.size,[s1.heap.objs.size],_,_,H1,rfl,I1.kept λb o e=>QO _ e,Ac _ z t,⟨Ry _,_,Q3 _ rfl,rfl,rfl⟩,fp,q⟩
def signs(x:Str):List D:=x.cps.toList.map λc=>D.str ⟨#[c]⟩
def Iq:D->M (List D)
 | .str x=>aa (signs x)
 |_=>af
def D_{K:QZ}{F:Hp}(x:Str):ItD K F (Le x) (signs x):=λF' H' i s1 s2=>by
 refine⟨λd e=>?_,λhl=>show x.cps.size<=i by simpa[signs] using hl⟩;unfold signs at e;rw[Q1] at e;cases q:x.cps.toList[i]? with
 |none=>rw[q] at e;cases e
 |some c=>
  rw[q] at e;cases e;have hi:i<x.cps.size:=by
   have:=(Q4.mp q).1;simpa using this
  refine⟨hi,λv H'' y=>?_⟩;obtain⟨e2,c',FQ,rfl⟩:=y;subst e2;have:c'=c:=by
   have q':x.cps[i]? =some c:=by simpa using q
   rw[q'] at FQ;exact(Rx FQ).symm
  subst this;exact⟨F',Ext.refl s2,rfl,by show 1<=lim;decide⟩
def EN(h:PD X Xw l δ):vP X Xw tg l (λρ=>δ ρ>>=Iq):=PI.weak (HY h) λσ H R ⟨F,ρ,s,w⟩=>by
 refine⟨F,ρ,s,WP.mono (WPI.bind w) λv H1 ⟨F1,d,e1,q1,w1⟩=>?_⟩;cases d with
 |str z=>exact⟨z,q1.1,w1 _ _ _ (Ext.refl e1.fh) (D_ z)⟩
 |_=>exact w1.elim
end
end L3
namespace L3
open PySem PySem.Spec L2 SeqAt HT
open PyProof.Rows hiding St
open PySem.W (Frag Looks InstAt findIn mroIn)
open PySem.Builtin PySem.Builtin.ObjectAttr PySem.Builtin.Getset_descriptor
end L3
namespace L3
open PySem PySem.Spec L2 SeqAt HT
open PyProof.Rows hiding St
structure RoomH (k:Nat) (A:RQ):Prop where
 dp:A.depth+3*k+5<WU
 un:A.units+16*k+200<cLine
def RoomH.deeper(r:RoomH (k+1) A)(env:Env):RoomH k (A.deeper env):=
 ⟨by have:=r.dp;show A.depth+1+3*k+5<_;omega,by have:=r.un;show A.units+3+16*k+200<_;omega⟩
def RoomH.units(r:RoomH k A):A.units+64<cLine:=by have:=r.un;omega
def xG(N:List Str)(osc scope:Scope)(tn:List Str):Bool:=
 decide (scope.kind= .function)&&scope.names.all (λy=>decide (y.2≠ .cell))&&scope.names.all (λy=>decide (y.2= .local->scope.names.lookup y.1=some .local))&&
 scope.names.all (λy=>decide (y.2= .free->(osc.names.lookup y.1=some .cell\/osc.names.lookup y.1=some .free)))&&
 ((bH tn N).zip N).all (λp=>decide (scope.names.lookup p.1=none\/(p.1=p.2/\scope.names.lookup p.1=some .free)))
def aP(hN:X.N=N)(ho:X.env.scope=osc)(h:xG N osc scope tn=true):CompSc X scope tn:=by
 unfold xG at h;simp only[Q6,Rt,XI] at h;obtain⟨⟨⟨⟨h1,h2⟩,h3⟩,h4⟩,h5⟩:=h;refine⟨h1,h2,h3,λy hy hf=>?_,?_⟩
 ·have:=h4 y hy hf;rw[<-ho] at this;exact this
 ·rw[hN];exact h5
def bX(hN:X.N.Nodup)(h0:X.N[0]? =some x)(GW:X.env.scope.names.lookup x=some .local):yQ X (.Name x px) 0 σ:=λf8 s σ' F H d ts v u I fh hd rv q e=>by
 have e:aa [d]=aa ts:=e;have e:=eL e;subst e;refine V3 (pd I hN h0 (.inl GW) rv (λs' I'=>⟨[v],?_, .cons q .nil⟩) (.inr GW));have hl:0<σ'.length:=by rw[I.len];exact(Q4.mp h0).1
 have:σ'.set 0 (some v)=[v].map some++σ:=by
  cases σ' with
  |nil=>simp at hl
  |cons a r=>
   have hd:r=σ:=by simpa using hd
   subst hd;rfl
 rw[<-this];exact I'
def cZ:Passes (iV P w cv) X (EX cv λ_ _=>False):=λ_ _ _ _ _ _ _ ⟨_,_,_,_,_,_,_,_,_,_,_,_,_,_,z⟩=>z.elim
def bz(K:QZ)(mg:Str->Option Value)(x:Str)(st:Stmt)(f:Addr):Prop:=mg x=some (.ref f)/\∃fd,Fun K x x st f fd
def ak(P:Ru)(w:World)(K:QZ)(mg:Str->Option Value)(base:Heap)(cv:Nat->Value)(k:Nat)(x:Str)(m:Nat)(g:List D->M D):Prop:=
 ∃f fd ps,mg x=some (.ref f)/\S6 K (.ref f)=true/\Binds K fd ps []/\FnOk P w K mg base (iV P w cv) k f fd ps (I8 K cv m g)
section
variable{X:Cx}{Xw:Nat->Hp->Prop}{cv:Nat->Value}{k m:Nat}{g:List D->M D}{x:Str}{p pos:Pos}{e:Expr}{es:List Expr}{δs:DA}
def aw(m:Nat)(g:List D->M D)(δs:DA):DE:=λρ=>δs ρ>>=λds=>if ds.length=m then g ds else af
def bg(F:ak X.prog X.w X.K X.mg X.base cv k x m g)(hr:Room k X.A)(hg:Gl X x)(hx:Passes (iV X.prog X.w cv) X (EX cv Xw))
 (ha:jl X Xw (e::es) δs)(hl:(e::es).length=m)(rS:(x==("__debug__":Str))=false:=by decide)(he:Q8 (e::es) X.env=(false,eval e X.env)::Q8 es X.env:=by rfl)(pK:(Tr pos (Q8 es X.env)).any (·.1)=false:=by rfl):
 PD X Xw (.Call (.Name x p) (e::es) [] pos) (aw m g δs):=by
 obtain⟨f,fd,ps,h1,h2,h3,h4⟩:=F;exact EE h4 hr hg h1 h2 h3 hx ha hl rS he pK
end
def aB{K:QZ}{st:Stmt}(T:bz K mg x st f)(S:FnScope N ps (ah st))
 (Pj:∀(kV doc pm:Value) (an:Option Addr) (bY ct:Value) (us:List Value),us.length=ps.length->bindArgs (SI x x (d8 st) (aV st) (ah st) .none kV doc pm an bY ct) ⟨us,[]⟩=pure (ps.zip us))
 (nO:∀(bY:Value) (A:RQ) (outer:List Env) (s:QT) (H:Hp) (E:XK),Room k (A.deeper (S5 x (ah st) s.heap.objs.size f bY))->
  PSDs (c6 (iV P w cv) P w K mg base N x (ah st) f bY A outer s H E) (λn H'=>E (cv n) none H') (aV st) τ):ak P w K mg base cv (k+1) x ps.length (b6 N.length τ):=by
 obtain⟨h1,fd,Fn⟩:=T;exact⟨f,fd,ps,h1,Fn.kp,Fn.binds Pj,Jv Fn S nO⟩
section
variable{X:Cx}{Xw:Nat->Hp->Prop}{e:Expr}{δ:DE}{pos:Pos}
def CF(put:D->cp->Option cp)(δ:DE):DS:=λρ=>δ ρ>>=λd=>match put d ρ with
 |some ρ'=>aa (.nx ρ')
 |none=>af
def E2{tg:Expr}{g:TG}{put:D->cp->Option cp}(he:PD X Xw e δ)(hg:PG X tg g)(G2:xy X.K g put)(hs:VJ [tg] e pos.line X.env=pure false:=by rfl)(hw:swappedStores [tg] e X.env=pure none:=by rfl)
 (h1:(S_ [tg] X.env).map (·.2)=[assign tg X.env]:=by rfl):fQ X Xw (.Assign [tg] e pos) (CF put δ):=λs0 X8=>PS.weak (oW he hg hs hw h1) λD σ H ⟨F,ρ,s,w⟩=>by
 refine⟨F,ρ,s.st,?_⟩;unfold CF at w
 match δ ρ,w with
 |none,w=>exact w
 |some (.ex n),w=>exact λF' H' e'=>w F' H' (s.ext.trans e')
 |some (.ok d),w=>
  intro v H' F' e' q;have w:WPS X.K Xw s0 X8 (match put d ρ with | some ρ'=>aa (.nx ρ') | none=>af) D:=w
  match hp:put d ρ,w with
  |none,w=>exact w.elim
  |some ρ',w=>exact G2 s0 X8 F' H' σ ρ ρ' d v _ (s.ext' e') q hp λσ' s'=>w σ' F' H' s'
end
section
variable{X:Cx}{Xw:Nat->Hp->Prop}{pos:Pos}
def EK{x z:Str}(hg:Gl X x)(h:∃t,X.mg x=some (.str z t))(hz:z.length<=lim)(rS:(x==("__debug__":Str))=false:=by decide):PD X Xw (.Name x pos) (dC (.str z)):=by
 obtain⟨t,h⟩:=h;exact yo (v:= .str z) hg h ⟨t,rfl⟩ (λ_=>⟨rfl,hz⟩) rS
def yq{x:Str}{i:Int}(hg:Gl X x)(h:∃t,X.mg x=some (.int i t))(rS:(x==("__debug__":Str))=false:=by decide):PD X Xw (.Name x pos) (dC (.int i)):=by
 obtain⟨t,h⟩:=h;exact yo (v:= .int i) hg h ⟨t,rfl⟩ (λ_=>rfl) rS
end
def E_(sc osc:Scope):Scope:={sc with names:=sc.names.map λ(n,k)=>if (k== .free&&osc.kind== .function&&osc.names.lookup n==some .cell) then(n, .cell) else(n,k)}
structure Box (p:Prop):Prop where
 out:p
section
variable{X:Cx}{Xw:Nat->Hp->Prop}
def c5{st:Stmt}{T0:List Stmt}{τ τ':DS}(h1:Box (fQ X Xw st τ))(h2:Box (PSDs X Xw T0 τ')):Box (PSDs X Xw (st::T0) (aI τ τ')):=⟨aj h1.out h2.out⟩
def Gy{st:Stmt}{τ:DS}(h1:Box (fQ X Xw st τ)):Box (PSDs X Xw [st] τ):=⟨ar h1.out⟩
end
def Lb{l:Xn}{n k:Nat}{q:Ru}{loose:List Str}{XP:(Str->Option Value)->Heap->Prop}{YP:World->Heap->Prop}{d:DefRec}{K:Params->QZ}{x:Str}{g:List D->M D}
 (hn:l.most=some n)(Ly:n<=lim)(JK:d.params.defaults=[])(hr:Room k V6)
 (hY:∀(w:World) (h:Heap),YP w h->(K w.params).In h)(hg:∀ns:List Int,ns.length<=n->g [.scr ns]=aa (.bl true))
 (F:∀(w:World) (mg:Str->Option Value) (fa:Addr) (h:Heap),(K w.params).In h->h.Ns Rm mg->mg d.name=some (.ref fa)->
  ∃(cv:Nat->Value) (fd:TY),(∀(s:QT) (u:Value),Xv s fd ⟨[u],[]⟩ [(x,u)])/\
   ∀base:Heap,(K w.params).In base->base.Ns Rm mg->FnOk l.prog w (K w.params) mg base (iV l.prog w cv) k fa fd [x] (I8 (K w.params) cv 1 g)):
 PySem.W.WalkO q loose XP YP l.row.toRowW d [] (λf vs=>Xm f vs):=by
 refine Att.attach_call hn JK λw X9 v0 mg mb fa o pm cd doc a vs ns G Y ho hd vK GX Be hints v6 Pz=>?_;have KX:=hY w _ Y;obtain⟨cv,fd,hb,hF⟩:=F w mg fa _ KX G.T.g GX;refine uy KX G.T.g G.T.b G.T.builtins G.T.nolimit Pz Be hints (RI v6 (RI Ly (SV d3))) hr hF hb (λH hO hS=>?_) λH e s' z=>?_
 ·refine⟨H,[.scr ns],λ_ _ e=>e,⟨_,_,rfl,⟨a,rfl,hS,RI v6 Ly⟩,rfl⟩,rfl,?_⟩;rw[hg ns v6];exact λv H' F' e q=>q
 ·obtain⟨_,_,_,_,_,_,_,_,_,_,_,_,_,_,y⟩:=z
namespace RV
def mro_rev:mroOf (.type "reversed")=pure [.type "reversed", .type "object"]:=by rw[mroOf_type];kernel_rfl
def new_rev:W_ (.type "reversed") "__new__"=pure (some (.builtin "reversed.__new__")):=by rw[UA,Tx];kernel_rfl
def owner_rev:Manifest.owners.lookup (String.ofList ['d', 'e', 's', 'r', 'e', 'v', 'e', 'r'].reverse)=some Manifest.sig_reversed:=by kernel_rfl
def slot_rev_next:Slot "reversed" "__next__" "reversed.__next__":=
 .of (owner:="reversed") (n:="__next__") (by rw[UA,Tx];kernel_rfl) (by decide+kernel) (by decide+kernel) (by decide+kernel)
  (by first | exact .inl (by decide+kernel) | exact .inr (by decide+kernel)) (by rw[UP];kernel_rfl)
def slot_rev_iter:Slot "reversed" "__iter__" "reversed.__iter__":=
 .of (owner:="reversed") (n:="__iter__") (by rw[UA,Tx];kernel_rfl) (by decide+kernel) (by decide+kernel) (by decide+kernel)
  (by first | exact .inl (by decide+kernel) | exact .inr (by decide+kernel)) (by rw[UP];kernel_rfl)
def slot_rev_init:Slot "reversed" "__init__" "object.__init__":=
 .of (owner:="object") (n:="__init__") (by rw[UA,Tx];kernel_rfl) (by decide+kernel) (by decide+kernel) (by decide+kernel)
  (by first | exact .inl (by decide+kernel) | exact .inr (by decide+kernel)) (by rw[UP];kernel_rfl)
def entry_rev_next:entryFor table "reversed.__next__"=some TB.«reversed.__next__» :=entryFor_of_tree (by kernel_rfl)
def entry_rev_new:entryFor table "reversed.__new__"=some TB.«reversed.__new__» :=entryFor_of_tree (by kernel_rfl)
def entry_rev_iter:entryFor table "reversed.__iter__"=some TB.«dict_keyiterator.__iter__» :=
 entryFor_alias (id':="dict_keyiterator.__iter__") (by kernel_rfl) (by first | rfl | decide+kernel | (unfold String.splitOn;simp+decide [String.splitOnAux])) (by decide+kernel) (by kernel_rfl)
def args_rev_next(a:Value):argsOk "reversed.__next__" ⟨[a],[]⟩:=by
 unfold argsOk;rw[signature?_of (id:="reversed.__next__") (n:=['_', '_', 't', 'x', 'e', 'n', '_', '_']) (o:=['d', 'e', 's', 'r', 'e', 'v', 'e', 'r']) (by kernel_rfl) owner_rev];kernel_rfl
def args_rev_iter(a:Value):argsOk "reversed.__iter__" ⟨[a],[]⟩:=by
 unfold argsOk;rw[signature?_of (id:="reversed.__iter__") (n:=['_', '_', 'r', 'e', 't', 'i', '_', '_']) (o:=['d', 'e', 's', 'r', 'e', 'v', 'e', 'r']) (by kernel_rfl) owner_rev];kernel_rfl
def called_rev:TypeCalled "reversed" "reversed.__new__" "object.__init__":=
 ⟨by decide+kernel,by decide+kernel,⟨_,_,mro_rev⟩,madeBy_type mro_rev new_rev (by decide+kernel),by decide+kernel,by rw[UP];kernel_rfl,slot_rev_init⟩
def typeCall_rev(a:Value):checkTypeCall "reversed" ⟨[a],[]⟩=pure ():=by kernel_rfl
def newCall_rev(a:Value):checkBuiltinCall "reversed.__new__" ⟨[.type "reversed",a],[]⟩=pure ():=by kernel_rfl
def no_rev_tuple:W_ (.type "tuple") "__reversed__"=pure none:=by rw[UA,Tx];kernel_rfl
def tuple_not_dict:isSubtype (.type "tuple") (.type "dict")=pure false:=by rw[UP];kernel_rfl
def newClass_rev(a:Value):UU "reversed" ⟨[.type "reversed",a],[]⟩=pure (.type "reversed",[a]):=by
 unfold UU;simp only[isType,called_rev.sub,pure_bind,Bool.not_true,Ro,if_false]
end RV
def tw(t:Addr)(i:Int):Obj:={cls:= .type "reversed",data:= .fields #[.ref t,TH i]}
def IsTupRev(h:Heap)(it t:Addr)(i:Int):Prop:=∃o,h.get? it=some o/\o.cls= .type "reversed"/\o.data= .fields #[.ref t,TH i]
def zZ{i n:Nat}(h:i<n):seqIndex? (i:Int) n=some i:=by
 have h1:¬((i:Int)<0):=by omega
 have h2:(decide (0<=(i:Int))&&decide ((i:Int)<(n:Int)))=true:=by simp;omega
 unfold seqIndex?;simp only[h1,if_false];rw[XG h2];simp
section
variable{prog:Ru}{w:World}{A:RQ}{E:Value->QT->Prop}{s:QT}
def zC(t:Addr)(items:Array Value)(hsz:items.size<2 ^ 62):
 Meets (TB.«reversed.__new__» ⟨[.type "reversed", .ref t],[]⟩) (λ_ R s=>IsTup s.heap t items/\∀tk,R (.ok (.ret (.ref s.heap.objs.size))) {s with heap:=s.heap.push (tw t ((items.size:Int) - 1)),toks:=tk}):=
 .of_wp λprog w A R s h=>by
  obtain⟨ht,h⟩:=h;unfold TB.«reversed.__new__»;refine QL (T1 (RV.newClass_rev _) ?_)
  try dsimp only
  refine QL (T1 (a:=()) (by first | rfl | kernel_rfl) ?_);refine QL (T1 (a:=()) (by first | rfl | kernel_rfl) ?_)
  try dsimp only
  refine QL (T_ ht.typeIs RV.no_rev_tuple ?_)
  try dsimp only
  refine QL ?_;refine QL (m:=isInstance (.ref t) (.type "dict")) (Ut (T:="tuple") (b:=false) ht.typeIs RV.tuple_not_dict ?_);refine QL (m:=specialOf (.ref t) "__getitem__") (T_ ht.typeIs slot_tuple_getitem.lookup ?_);refine QP ?_;refine QL (m:=call (.builtin "len") [.ref t]) (len_tuple ht (by omega) ?_);refine QL (T1 (a:=some (items.size:Int)) (by first | rfl | kernel_rfl) ?_);refine QL (m:=newObj (.type "reversed") (.fields #[.ref t,TH ((items.size:Int) - 1)])) (RU ?_ (by size_fits));exact QP ⟨_,rfl,h _⟩
def iY{t:Addr}{items:Array Value}{Q:Value->QT->Prop}(ht:IsTup s.heap t items)(hsz:items.size<2 ^ 62)
 (h:∀tk,Q (.ref s.heap.objs.size) {s with heap:=s.heap.push (tw t ((items.size:Int) - 1)),toks:=tk}):wpAny (model prog w) A (call (.type "reversed") [.ref t]) Q E s:=
 callType_new RV.called_rev (by decide) (RV.typeCall_rev _) (RV.newCall_rev _) (λobj=>F.args_object_init_2 obj _) RV.entry_rev_new (zC t items hsz) ⟨ht,λtk=>⟨⟨_,Q3 _ rfl,rfl⟩,h tk⟩⟩
def IsTupRev.typeIs{it t:Addr}{i:Int}(x:IsTupRev s.heap it t i):s.TypeIs (.ref it) "reversed":=let ⟨o,ho,hc,_⟩:=x;⟨o,ho,hc⟩
def IsTupRev.at{h h':Heap}{it t:Addr}{i:Int}(x:IsTupRev h it t i)(e:∀o,h.get? it=some o->h'.get? it=some o):IsTupRev h' it t i:=let ⟨o,ho,r⟩:=x;⟨o,e _ ho,r⟩
def pM{it t:Addr}{i:Nat}{items:Array Value}{x:Value}{Q:Option Value->QT->Prop}(W1:IsTupRev s.heap it t (i:Int))(ht:IsTup s.heap t items)(hx:items[i]? =some x)(hb:items.size<2 ^ 62)
 (hQ:∀h' tk,IsTupRev h' it t ((i:Int) - 1)->R9 it s.heap h'->Q (some x) {s with heap:=h',toks:=tk}):wpAny (model prog w) A (Ug (.ref it)) Q E s:=by
 obtain⟨o,ho,hc,hd⟩:=id W1;have hi:i<items.size:=(V0.mp hx).1;unfold Ug;refine QL (TC (Sk (name:=Su "__next__") W1.typeIs RV.slot_rev_next
  (RJ RV.slot_rev_next W1.typeIs RV.entry_rev_next ?_ (RV.args_rev_next _))))
 unfold TB.«reversed.__next__»;refine QL (T1 (a:=(Rc it,[])) rfl ?_)
 try dsimp only
 refine QL (Tg ho hd (x:= .ref t) rfl ?_);refine QL (Tg ho hd (x:=TH (i:Int)) rfl ?_);show wpAny _ _ (if (i:Int)<0 then _ else _) _ _ s;rw[XH (by omega)];refine QL (m:=specialOf (.ref t) "__getitem__") (T_ ht.typeIs slot_tuple_getitem.lookup ?_);refine QL (wpAny_mkInt ?_);refine QL (TC (getItem_tuple (s:={s with toks:=s.toks+1}) ht (by omega) (by omega) (j:=i) (zZ hi) hx ?_))
 try dsimp only
 refine QL (Tg (s:={s with toks:=s.toks+1}) ho hd (x:=TH (i:Int)) rfl ?_);refine QL (Um (s:={s with toks:=s.toks+1}) ho hd (by simp) ?_)
 first
 |refine QP ⟨x,rfl,QP (hQ _ _ ?_ (Rk ..))⟩
 |refine QL (QP (QP ⟨x,rfl,QP (hQ _ _ ?_ (Rk ..))⟩))
 exact⟨_,R1 _ ho (U_ (Ti hd _)),(Obj.cls_mapFields ..).trans hc,by
  rw[Ti hd];simp⟩
def r0{it t:Addr}{k:Int}{Q:Option Value->QT->Prop}(hh:A.handled=none)(W1:IsTupRev s.heap it t k)(hk:k<0)
 (hQ:∀h',UN it s.heap h'->Q none {s with heap:=h'}):wpAny (model prog w) A (Ug (.ref it)) Q E s:=by
 obtain⟨o,ho,hc,hd⟩:=id W1;unfold Ug;refine QL (TC (Sk (name:=Su "__next__") W1.typeIs RV.slot_rev_next
  (RJ RV.slot_rev_next W1.typeIs RV.entry_rev_next ?_ (RV.args_rev_next _))))
 unfold TB.«reversed.__next__»;refine QL (T1 (a:=(Rc it,[])) rfl ?_)
 try dsimp only
 refine QL (Tg ho hd (x:= .ref t) rfl ?_);refine QL (Tg ho hd (x:=TH k) rfl ?_);show wpAny _ _ (if k<0 then _ else _) _ _ s;rw[XG hk];refine QL (W8 ?_);refine QL ?_;refine QL (m:=Ww (.ref it) 1 (TH (-1))) (Um ho hd (by simp) ?_);refine Um (R1 _ ho (U_ (Ti hd _))) (Ti hd _) (by simp) ?_
 dsimp only
 have hx:UN it s.heap ((s.heap.update it (UR λx=>x.setIfInBounds 1 (TH (-1)))).update it (UR λx=>x.setIfInBounds 0 Rp)):=λb ob hb e=>
  ((Rk ..).2 b hb).trans (((Rk ..).2 b hb).trans e)
 revert hx;generalize (s.heap.update it (UR λx=>x.setIfInBounds 1 (TH (-1)))).update it (UR λx=>x.setIfInBounds 0 Rp)=h2;intro hx;refine QL ?_;show wpAny _ _ (newExc (.type "StopIteration") []>>=_) _ _ _;refine QL ?_;simp only[newExc,newTuple];refine QL (RU ?_ (by size_fits));refine QL (m:=UQ _ _) (T1 (a:=Rp) (by first | rfl | (simp only[UQ];rfl)) ?_);refine RU ?_ (by size_fits);simp only[raiseNew];refine QL (Xh ?_)
 first | rw[show A.in1.handled=none from hh] | rw[hh]
 refine QL (QP (wpAny_throw ?_));refine QL (Ut (T:="StopIteration") (b:=true) ⟨_,Q3 _ rfl,rfl⟩ WV ?_);exact QP (hQ _ ((hx.push _).push _))
def uw{it t:Addr}{i:Int}{Q:Value->QT->Prop}(W1:IsTupRev s.heap it t i)(h:Q (.ref it) s):wpAny (model prog w) A (pyIter (.ref it)) Q E s:=by
 refine V1 W1.typeIs RV.slot_rev_iter (RJ RV.slot_rev_iter W1.typeIs RV.entry_rev_iter ?_ (RV.args_rev_iter _));show wpAny _ _ (ret (.ref it)) _ _ s;exact QP ⟨_,rfl,"reversed",_,W1.typeIs,RV.slot_rev_next.lookup,h⟩
end
def NF(K:QZ)(a:Addr)(n:Nat):It:=
 ⟨λi H=>∃xs x,SqT K H a xs/\xs.length=n/\xs.reverse[i]? =some x,λi H x H'=>H'=H/\∀xs,SqT K H a xs->xs.reverse[i]? =some x,λi H=>n<=i⟩
def C_{P:Ru}{w:World}{K:QZ}{tg:Expr}(a it:Addr)(n:Nat):Turn P w K tg (NF K a n) [it] it (λi h=>IsTupRev h it a ((n:Int) - 1 - (i:Int))) where
 mem:=by simp
 obj:=λi h st b hb=>by
  have e:b=it:=by simpa using hb
  subst e;obtain⟨o,e,c,d⟩:=st;exact⟨o,e,λv z=>by rw[d] at z;cases z⟩
 keep:=λi h h' st k=>st.at λo e=>k it (by simp) o e
 item:=by
  intro X hP hw hK hc i f8 s σ H E I hf st hg;subst hP hw hK;obtain⟨xs,x,hq,hn,hx⟩:=hg;obtain⟨aE,rv,p,hz⟩:=I.tuple hq;have hi:i<n:=by
   have:=(Q4.mp hx).1;rw[Xc] at this;omega
  rw[WO (by omega)] at hx;obtain⟨u,hu,ru⟩:=rv.get hx;obtain⟨f0,f1,f2,f3,f4,f5⟩:=hf it (by simp);have hl:=rv.length;have hs:Q_=16777216:=SA;have e:(n:Int) - 1 - (i:Int)=((xs.length - 1 - i:Nat):Int):=by omega
  have st:=st;rw[e] at st;refine pM st p (x:=u) (by simpa using hu) (by rw[QW];omega) λh' tk jJ sb=>?_;have I1:Inv X f8 σ H {s with heap:=h',toks:=tk}:=I.turned (λb o hb e=>(sb.2 b hb).trans e) f0 f1 f3 f4 f5;obtain⟨o,e1,c,d⟩:=id jJ;refine⟨u,rfl,nM (s:={s with heap:=h',toks:=tk}) e1 c d (by decide) ⟨x,H,I1,ru,⟨rfl,λys hy=>?_⟩,?_,λb hb=>(hf b hb).1⟩⟩
  ·rw[I.tuple_inj hy hq,WO (by omega)];exact hx
  ·have e2:((xs.length - 1 - i:Nat):Int) - 1=(n:Int) - 1 - ((i+1:Nat):Int):=by omega
   rw[e2] at jJ;exact jJ
 done:=by
  intro X hP hw hK hc i f8 s σ H E I hf st hg;subst hP hw hK;obtain⟨f0,f1,f2,f3,f4,f5⟩:=hf it (by simp);have hg:n<=i:=hg;exact r0 (I.ok.hd hc) st (by omega) λh' eb=>⟨rfl,I.turned (t':=s.toks) (λb o hb e=>eb b o hb e) f0 f1 f3 f4 f5⟩
 self:=λ_ _ _ _ _ st h=>uw st h
def D9{K:QZ}{F:Hp}{a:Addr}{vs:List V}{ds:List D}(h:SqT K F a vs)(hd:DenL K F ds vs):ItD K F (NF K a vs.length) ds.reverse:=λF' H' i s1 s2=>by
 have hs:=Same.tup s2 (Same.tup s1 h);refine⟨λd e=>?_,λhl=>by rw[Xc,hd.len] at hl;exact hl⟩;obtain⟨v,e1,q⟩:=hd.reverse.get e;refine⟨⟨vs,v,hs,rfl,e1⟩,λx H'' y=>?_⟩;obtain⟨e2,y⟩:=y;subst e2;have:=y vs hs;rw[e1] at this;cases this;exact⟨F',Ext.refl s2,Den.mono s1 q⟩
section
variable{X:Cx}{Xw:Nat->Hp->Prop}{tg e:Expr}{δs:DA}{pos p:Pos}
def Cz:List D->M (List D)
 |[.tup ds]=>aa ds.reverse
 |_=>af
def EM(hg:Gl X "reversed")(hm:X.mg "reversed"=none)(ha:jl X Xw [e] δs)(hs:Q8 [e] X.env=[(false,eval e X.env)]:=by rfl):vP X Xw tg (.Call (.Name "reversed" p) [e] [] pos) (λρ=>δs ρ>>=Cz):=by
 intro f8 s σ H R I ⟨F,ρ,S,w⟩;refine Call_ (g7 I hg hm boot_reversed (Sx (b7 (ha pos f8 s σ H (λvs H1=>∃F1 ds,Ext F H F1 H1/\DenL X.K F1 ds vs/\WPI X.K Xw F1 H1 (Cz ds) R) I ⟨F,ρ,S,WPI.bindL w⟩) λus s1 ⟨vs,H1,I1,r1,F1,ds,e1,q1,w1⟩=>?_) hs rfl));unfold Cz at w1;split at w1
 ·rename_i ds;obtain⟨v,rfl,h1⟩:=q1.one;obtain⟨a,xs,rfl,h2,h3,h4⟩:=h1;obtain⟨u,rfl,r2⟩:=r1.one;cases (show u=_ from r2);obtain⟨aE,rv,pt,hz⟩:=I1.tuple (SqT.of (K:=X.K) (e1.fh _ _ h2));have hl:=rv.length;have pC:Q_=16777216:=SA;refine iY pt (by rw[QW];omega) λtk=>?_;have en:((aE.toArray.size:Nat):Int) - 1=(xs.length:Int) - 1 - ((0:Nat):Int):=by rw[QW];omega
  have OB:IsTupRev (s1.heap.push (tw a (((aE.toArray.size:Nat):Int) - 1))) s1.heap.objs.size a ((xs.length:Int) - 1 - ((0:Nat):Int)):=⟨_,Q3 _ rfl,rfl,by rw[<-en];rfl⟩
  refine uw (s:={s1 with heap:=s1.heap.push (tw a (((aE.toArray.size:Nat):Int) - 1)),toks:=tk}) OB ?_;refine⟨s1.heap.objs.size,[s1.heap.objs.size],_,_,H1,rfl,I1.kept (t':=tk) λb o e=>QO _ e,C_ a _ xs.length,OB,λb hb=>?_,w1 _ _ _ (Ext.refl e1.fh) (D9 (SqT.of h2) h3)⟩;have e:b=s1.heap.objs.size:=by simpa using hb
  subst e;exact I1.fpOk (Q0 _) (I1.hok.fresh (Q0 _))
 ·exact w1.elim
end
end L3
namespace L3
open PySem PySem.Spec L2 SeqAt HT
open PyProof.Rows hiding St
def Bv:D->Option Key
 | .int i=>some (.inl i)
 | .str x=>some (.inr x)
 |_=>none
def Ee:List D->Option (List Key)
 |[]=>some []
 |d::ds=>match Bv d,Ee ds with
  |some k,some ks=>some (k::ks)
  |_,_=>none
def i6:D->Option (List Key)
 | .tup ds=>Ee ds
 |_=>none
def n0{K:QZ}{F:Hp}(e:Bv d=some k)(h:Den K F d v):v=kV k:=by
 cases d<;>first | cases e | skip
 ·exact h
 ·exact h.1
def j3{K:QZ}{F:Hp}:∀{ds:List D}{vs:List V}{ks:List Key},Ee ds=some ks->DenL K F ds vs->vs=ks.map kV
 |[],_,_,e,h=>by cases e;exact h
 |d::ds,_,_,e,⟨v,r,h1,h2,h3⟩=>by
  unfold Ee at e;split at e
  ·rename_i k ks e1 e2;cases e;subst h1;rw[QX,n0 e1 h2,j3 e2 h3]
  ·cases e
section
variable{κ:Type}[DecidableEq κ]
def er:List κ->List D->κ->Option D
 |k'::ks,d::ds,k=>if k'=k then some d else er ks ds k
 |_,_,_=>none
def lG:List κ->List D->κ->D->List D
 |k'::ks,d'::ds,k,d=>(if k'=k then d else d')::lG ks ds k d
 |_,_,_,_=>[]
def kH{K:QZ}{F:Hp}:∀{ks:List κ}{ds:List D}{vs:List V}(k:κ),DenL K F ds vs->ks.length=ds.length->
 (match er ks ds k with | some d=>∃v,kJ (ks.zip vs) k=some v/\Den K F d v | none=>kJ (ks.zip vs) k=none)
 |[],[],_,_,_,_=>rfl
 |k'::ks,d::ds,_,k,⟨v,r,h1,h2,h3⟩,hl=>by
  subst h1;unfold er;rw[Th];by_cases e:k'=k
  ·rw[XG e,kL e];exact⟨v,rfl,h2⟩
  ·rw[XH e,kK e];exact kH k h3 (by simpa using hl)
 |[],_::_,_,_,_,hl=>by simp at hl
 |_::_,[],_,_,_,hl=>by simp at hl
def iy{K:QZ}{F:Hp}(k:κ)(h:DenL K F ds vs)(hl:ks.length=ds.length):(kJ (ks.zip vs) k).isSome=(er ks ds k).isSome:=by
 have:=kH k h hl;split at this
 ·rename_i d e;obtain⟨v,e1,_⟩:=this;rw[e1,e];rfl
 ·rename_i e;rw[this,e];rfl
def vc{K:QZ}{F:Hp}(hd:Den K F d v):∀{ks:List κ}{ds:List D}{vs:List V}(k:κ),DenL K F ds vs->ks.length=ds.length->
 ∃ws,(ks.zip vs).map (λkv=>if kv.1=k then(kv.1,v) else kv)=ks.zip ws/\DenL K F (lG ks ds k d) ws
 |[],[],_,_,h,_=>⟨[],rfl,rfl⟩
 |k'::ks,d'::ds,_,k,⟨v',r,h1,h2,h3⟩,hl=>by
  subst h1;obtain⟨ws,e1,e2⟩:=vc hd k h3 (by simpa using hl);by_cases e:k'=k
  ·refine⟨v::ws,?_,?_⟩
   ·rw[Th,QX,e1,XG e];rfl
   ·unfold lG;rw[XG e];exact .cons hd e2
  ·refine⟨v'::ws,?_,?_⟩
   ·rw[Th,QX,e1,XH e];rfl
   ·unfold lG;rw[XH e];exact .cons h2 e2
 |[],_::_,_,_,_,hl=>by simp at hl
 |_::_,[],_,_,_,hl=>by simp at hl
def ib:∀(ks:List κ) (ds:List D) (k:κ) (d:D),ks.length=ds.length->(lG ks ds k d).length=ds.length
 |[],[],_,_,_=>rfl
 |_::ks,_::ds,k,d,h=>by unfold lG;rw[QV,QV,ib ks ds k d (by simpa using h)]
 |[],_::_,_,_,h=>by simp at h
 |_::_,[],_,_,h=>by simp at h
def c0(ks:List κ)(ds:List D)(k:κ):List κ:=if (er ks ds k).isSome then ks else ks++[k]
def cw(ks:List κ)(ds:List D)(k:κ)(d:D):List D:=if (er ks ds k).isSome then lG ks ds k d else ds++[d]
def sI{K:QZ}(hd:Den K F d v)(k:κ)(h:DenL K F ds vs)(hl:ks.length=ds.length):
 ∃ws,putK (ks.zip vs) k v=(c0 ks ds k).zip ws/\DenL K F (cw ks ds k d) ws/\(c0 ks ds k).length=(cw ks ds k d).length:=by
 have hs:=iy k h hl;unfold putK c0 cw;have ha:((ks.zip vs).any λkv=>decide (kv.1=k))=(kJ (ks.zip vs) k).isSome:=pk ..;rw[ha,hs];cases e:(er ks ds k).isSome with
 |true=>
  rw[XG rfl,XG rfl,XG rfl];obtain⟨ws,e1,e2⟩:=vc hd k h hl;exact⟨ws,e1,e2,by rw[ib ks ds k d hl];exact hl⟩
 |false=>
  rw[XH Ra,XH Ra,XH Ra];refine⟨vs++[v],?_,h.append (.cons hd .nil),by simp[hl]⟩;rw[List.zip_append (by rw[hl];exact h.len)];rfl
end
def yP{κ:Type}{K:QZ}{ks:List κ}(h:DenL K F ds vs)(hl:ks.length=ds.length):(ks.zip vs).length=ds.length:=by
 rw[UZ,hl,<-h.len];omega
def o_(ρ:cp)(i:Nat):Option D:=match ρ[i]? with
 |some (some (.fz d))=>some d
 |some (some (.ow c))=>some c.d
 |_=>none
def CQ{K:QZ}(s:StE K F H σ ρ)(e:o_ ρ i=some (.dct ks ds)):
 ∃a vs,σ[i]? =some (some (.ref a))/\Rd H a (.dT (ks.zip vs))/\DenL K F ds vs/\ks.length=ds.length/\ds.length<=lim:=by
 unfold o_ at e;split at e
 ·rename_i d e1;cases e;obtain⟨v,h1,a,ob,vs,rfl,h2,h3,h4,h5⟩:=s.den i _ e1;exact⟨a,vs,h1, .inr ⟨ob,s.fh _ _ h2⟩,h3,h4,h5⟩
 ·rename_i c e1;cases c<;>cases e
  obtain⟨v,h1,a,o,rfl,h2,_,vs,rfl,h3,h4,h5⟩:=s.den i _ e1;exact⟨a,vs,h1, .inl h2,h3,h4,h5⟩
 ·cases e
def CP{K:QZ}(s:StE K F H σ ρ)(e:o_ ρ i=some (.dci ks ds)):
 ∃a vs,σ[i]? =some (some (.ref a))/\Rd H a (.dK (ks.zip vs))/\DenL K F ds vs/\ks.length=ds.length/\ds.length<=lim:=by
 unfold o_ at e;split at e
 ·rename_i d e1;cases e;obtain⟨v,h1,a,ob,vs,rfl,h2,h3,h4,h5⟩:=s.den i _ e1;exact⟨a,vs,h1, .inr ⟨ob,s.fh _ _ h2⟩,h3,h4,h5⟩
 ·rename_i c e1;cases c<;>cases e
  obtain⟨v,h1,a,o,rfl,h2,_,vs,rfl,h3,h4,h5⟩:=s.den i _ e1;exact⟨a,vs,h1, .inl h2,h3,h4,h5⟩
 ·cases e
def Ah:D->D->Option (Option D)
 | .dct ks ds,k=>(i6 k).map (er ks ds)
 | .dci ks ds,k=>(Bv k).map (er ks ds)
 |_,_=>none
def xC{K:QZ}(s:StE K F H σ ρ)(hi:o_ ρ i=some d)(hk:Den K F k y)(e:Ah d k=some o):
 ∃a ov,σ[i]? =some (some (.ref a))/\jk H a y ov/\ov.isSome=o.isSome/\∀d',o=some d'->∃v,ov=some v/\Den K F d' v:=by
 unfold Ah at e;split at e
 ·rename_i ks ds;cases q:i6 k with
  |none=>rw[q] at e;cases e
  |some kk=>
   rw[q] at e;cases e;obtain⟨a,vs,h1,h2,h3,h4,h5⟩:=CQ s hi;unfold i6 at q;split at q
   ·rename_i es;obtain⟨b,ws,rfl,k2,k3,_⟩:=hk;have e1:=j3 q k3;subst e1;refine⟨a,_,h1, .inr ⟨_,kk,b,h2,rfl,s.fh _ _ k2,rfl⟩,iy kk h3 h4,λd' tL=>?_⟩;have:=kH kk h3 h4;rw[tL] at this;exact this
   ·cases q
 ·rename_i ks ds;cases q:Bv k with
  |none=>rw[q] at e;cases e
  |some kk=>
   rw[q] at e;cases e;obtain⟨a,vs,h1,h2,h3,h4,h5⟩:=CP s hi;have e1:=n0 q hk;subst e1;refine⟨a,_,h1, .inl ⟨_,kk,h2,rfl,rfl⟩,iy kk h3 h4,λd' tL=>?_⟩;have:=kH kk h3 h4;rw[tL] at this;exact this
 ·cases e
section
variable{X:Cx}{Xw:Nat->Hp->Prop}{a e:Expr}{δ δk δv:DE}{pos p pos' H0:Pos}{x:Str}{i:Nat}
def Jn(neg:Bool)(i:Nat)(δ:DE):DE:=λρ=>δ ρ>>=λk=>match o_ ρ i with
 |some d=>match Ah d k with
  |some o=>aa (.bl (if neg then !o.isSome else o.isSome))
  |none=>af
 |none=>af
def G6{neg:Bool}{σ:St}(h:tD X.K Xw (Jn neg i δ) σ H Q):(λσ H Q=>tD X.K Xw δ σ H λy H1=>pf i σ H1 λx H2=>∃a o,x= .ref a/\jk H2 a y o/\Q (.bl (if neg then !o.isSome else o.isSome)) H2) σ H Q:=by
 obtain⟨F,ρ,s,w⟩:=h;refine⟨F,ρ,s,WP.mono (WP.bind w) λy H1 ⟨F1,k,e1,q1,w1⟩=>?_⟩;have s1:=s.ext e1;cases hi:o_ ρ i with
 |none=>rw[hi] at w1;exact w1.elim
 |some d=>
  rw[hi] at w1;have w1:WP X.K Xw F1 H1 (match Ah d k with | some o=>aa (.bl (if neg then !o.isSome else o.isSome)) | none=>af) Q:=w1;cases he:Ah d k with
  |none=>rw[he] at w1;exact w1.elim
  |some o=>
   rw[he] at w1;obtain⟨a,ov,h1,h2,h3,_⟩:=xC s1 hi q1 he;refine⟨.ref a,h1,a,ov,rfl,h2,?_⟩;rw[h3];exact WP.now w1 e1.fh rfl
def M7(hu:X.A.units+64<cLine)(ha:PD X Xw a δ)(hv:PE X (.Name x p) (pf i))(hm:RX .In (.Name x p)=false:=by rfl):PD X Xw (.Compare a [.In] [.Name x p] pos) (Jn false i δ):=
 PE.weak (HN (HE (by omega) ha hv) hm) λσ H Q h=>G6 (neg:=false) h
def vg(i:Nat):DS:=λρ=>aa (.nx (ρ.set i (some (.ow (.dct [] [])))))
def ku(hN:X.N.Nodup)(hi:X.N[i]? =some x)(hx:Loc X.env.scope x)(hf:X.fn x=true\/X.env.scope.names.lookup x=some .local:=by first | exact .inl rfl | exact .inr rfl):
 fQ X Xw (.Assign [.Name x pos'] (.Dict [] [] H0) pos) (vg i):=λs0 X8=>PS.weak (oW Ce (ba hN hi hx hf) rfl) λD σ H ⟨F,ρ,s,w⟩=>λq hq=>
 w _ F _ (s.setNew (c₀:= .dct [] []) hq ⟨[],rfl,rfl,rfl,Ry _⟩)
def lA:C->D->D->Option C
 | .dct ks ds,k,d=>match i6 k with
   |some kk=>if ds.length<lim then some (.dct (c0 ks ds kk) (cw ks ds kk d)) else none
   |none=>none
 | .dci ks ds,k,d=>match Bv k with
   |some kk=>if ds.length<lim then some (.dci (c0 ks ds kk) (cw ks ds kk d)) else none
   |none=>none
 |_,_,_=>none
def wU(ρ:cp)(i:Nat):Option C:=match ρ[i]? with
 |some (some (.ow c))=>some c
 |_=>none
def qL{ρ:cp}{i:Nat}(h:wU ρ i=some c):ρ[i]? =some (some (.ow c)):=by
 unfold wU at h;split at h
 ·rename_i c' e;cases h;exact e
 ·cases h
def jh(i:Nat)(δk δv:DE):DS:=λρ=>match wU ρ i with
 |some c=>δv ρ>>=λv=>δk ρ>>=λk=>match lA c k v with
  |some c'=>aa (.nx (ρ.set i (some (.ow c'))))
  |none=>af
 |none=>af
def qV{κ:Type}[DecidableEq κ]{ks:List κ}{k:κ}(hl:ks.length=ds.length)(h:ds.length<lim):(cw ks ds k d).length<=lim:=by
 unfold cw;split
 ·rw[ib ks ds k d hl];omega
 ·rw[Q2];exact h
def Cr{K:QZ}{F H:Hp}(hs:Same F H)(hb:H b=some o)(hc:DenC K F c o)(hk:Den K F k y)(hd:Den K F d v)(e:lA c k d=some c'):∃o',DPut H b y v (upd H b o')/\DenC K F c' o':=by
 have JQ:=d3;unfold lA at e;split at e
 ·rename_i ks ds k d;obtain⟨vs,rfl,h3,h4,h5⟩:=hc;split at e
  ·rename_i kk q;split at e
   ·rename_i eE;cases e;unfold i6 at q;split at q
    ·rename_i es;obtain⟨b2,ws,rfl,k2,k3,_⟩:=hk;have e1:=j3 q k3;subst e1;obtain⟨us,e2,e3,e4⟩:=sI hd kk h3 h4;refine⟨_,DPut.t hb (hs _ _ k2) (by rw[yP h3 h4];omega),us,?_,e3,e4,qV h4 eE⟩;rw[e2]
    ·cases q
   ·cases e
  ·cases e
 ·rename_i ks ds k d;obtain⟨vs,rfl,h3,h4,h5⟩:=hc;split at e
  ·rename_i kk q;split at e
   ·rename_i eE;cases e;have e1:=n0 q hk;subst e1;obtain⟨us,e2,e3,e4⟩:=sI hd kk h3 h4;refine⟨_,DPut.k hb (by rw[yP h3 h4];omega),us,?_,e3,e4,qV h4 eE⟩;rw[e2]
   ·cases e
  ·cases e
 ·cases e
def kx(hu:X.A.units+64<cLine)(hv:PE X (.Name x p) (pf i))(hk:PD X Xw a δk)(he:PD X Xw e δv)(hs:UW e (some (.Subscript (.Name x p) a pos')) pos.line X.env=pure false:=by rfl):
 fQ X Xw (.Assign [.Subscript (.Name x p) a pos'] e pos) (jh i δk δv):=λs0 X8=>PS.weak (E0 (by omega) hv hk he hs) λD σ H ⟨F,ρ,s,w⟩=>by
 unfold jh at w;cases ho:wU ρ i with
 |none=>rw[ho] at w;exact w.elim
 |some c=>
  rw[ho] at w;have hi:=qL ho;have w:WPS X.K Xw s0 X8 (δv ρ>>=λv=>δk ρ>>=λk=>match lA c k v with | some c'=>aa (.nx (ρ.set i (some (.ow c')))) | none=>af) D:=w;refine⟨F,ρ,s.st,?_⟩;rcases(δv ρ).cs with q | ⟨n,q⟩ | ⟨dv,q⟩
  ·rw[q] at w;exact w.elim
  ·rw[q] at w⊢;exact λF' H' e'=>w F' H' (s.ext.trans e')
  ·rw[q] at w⊢;intro v H1 F1 e1 hq;have s1:=s.ext' e1;obtain⟨u,h1,b,o,rfl,h2,h3,h4⟩:=s1.st.den i _ hi;have w:WPS X.K Xw s0 X8 (δk ρ>>=λk=>match lA c k dv with | some c'=>aa (.nx (ρ.set i (some (.ow c')))) | none=>af) D:=w;refine⟨.ref b,h1,F1,ρ,s1.st,?_⟩;rcases(δk ρ).cs with q2 | ⟨n,q2⟩ | ⟨dk,q2⟩
   ·rw[q2] at w;exact w.elim
   ·rw[q2] at w⊢;exact λF' H' e'=>w F' H' (s1.ext.trans e')
   ·rw[q2] at w⊢;intro y H2 F2 e2 hy;have w:WPS X.K Xw s0 X8 (match lA c dk dv with | some c'=>aa (.nx (ρ.set i (some (.ow c')))) | none=>af) D:=w;cases hp:lA c dk dv with
    |none=>rw[hp] at w;exact w.elim
    |some c'=>
     rw[hp] at w;have s2:=s1.ext' e2;obtain⟨u2,k1,b2,o2,Md,k2,k3,k4⟩:=s2.st.den i _ hi;rw[h1] at k1;cases k1;cases Md;obtain⟨o',g,hc⟩:=Cr s2.st.fh k2 k4 hy (Den.mono e2.ff hq) hp;exact⟨b,_,rfl,g,w σ F2 _ (s2.chg hi h1 hc)⟩
end
def eB(c:DT)(body:DS):Nat->DS
 |0,_=>af
 |n+1,ρ=>c ρ>>=λb=>if b then body ρ>>=λo=>match o with | .nx ρ'=>eB c body n ρ' | .rt d=>aa (.rt d) else aa (.nx ρ)
def CN(c:DT)(body:DS):DS:=λρ=>eB c body lim ρ
section
variable{X:Cx}{Xw:Nat->Hp->Prop}{τ:DS}{tc:DT}{pos:Pos}
def zT(hp:PassesOwn (model X.prog X.w) X.A X.env X.xe)(hc:pE X Xw c tc)(hb:PSDs X Xw body τ):fQ X Xw (.While c body [] pos) (CN tc τ):=λs0 X8=>PS.weak (Ci hp hc hb.ex) λD σ H ⟨F,ρ,s,w⟩=>by
 refine⟨λm σ H=>∃F ρ,StOk X.K s0 X8 F H σ ρ/\WPS X.K Xw s0 X8 (eB tc τ m ρ) D,⟨lim,F,ρ,s,w⟩,?_⟩;rintro m σ H ⟨F,ρ,s,w⟩;cases m with
 |zero=>exact w.elim
 |succ m=>
  refine⟨F,ρ,s.st,?_⟩;unfold eB at w
  match tc ρ,w with
  |none,w=>exact w
  |some (.ex n),w=>exact λF' H' e'=>w F' H' (s.ext.trans e')
  |some (.ok false),w=>exact λH' F' e'=>w σ F' H' (s.ext' e')
  |some (.ok true),w=>
   intro H' F' e';have w:WPS X.K Xw s0 X8 (τ ρ>>=λo=>match o with | .nx ρ'=>eB tc τ m ρ' | .rt d=>aa (.rt d)) D:=w;refine⟨λσ' H'=>∃F' ρ',StOk X.K s0 X8 F' H' σ' ρ'/\WPS X.K Xw s0 X8 (eB tc τ m ρ') D,λσ' H' h=>⟨m,VR m,h⟩,s0,X8,F',ρ,s.ext' e',?_⟩
   match τ ρ,w with
   |none,w=>exact w
   |some (.ok (.nx ρ')),w=>exact λσ' F' H' s'=>⟨F',ρ',s',w⟩
   |some (.ok (.rt d)),w=>exact w
   |some (.ex n),w=>exact w
end
end L3
namespace L3
open PySem PySem.W PyProof.Rows
def bh(b:Nat->Nat->Bool):KasT α->α
 | .ret a=>a
 | .ask i j k=>bh b (k (b i j))
def ck(b:Nat->Nat->Bool)(f:α->KasT β):∀t:KasT α,bh b (t.bind f)=bh b (f (bh b t))
 | .ret _=>rfl
 | .ask i j k=>ck b f (k (b i j))
structure Lt (n:Nat) (b:Nat->Nat->Bool):Prop where
 tr:∀i j k,b i j=true->b j k=true->b i k=true
 QB:∀i j,b i j=true->b j i=false
 tot:∀i j,i<n->j<n->i≠j->b i j=true\/b j i=true
abbrev at'(p:Array Nat)(i:Nat):Nat:=p.getD i 0
def Ri(b:Nat->Nat->Bool)(p:Array Nat)(k:Nat):Prop:=∀i j,i<j->j<k->b (at' p i) (at' p j)=true
def Fa(b:Nat->Nat->Bool)(p:Array Nat)(k:Nat):Prop:=∀i j,i<j->j<k->b (at' p j) (at' p i)=true
structure PN (n:Nat) (p:Array Nat):Prop where
 sz:p.size=n
 lt:∀i,i<n->at' p i<n
 inj:∀i j,i<n->j<n->at' p i=at' p j->i=j
section
variable{n:Nat}{b:Nat->Nat->Bool}(L:Lt n b)
include L
theorem Ri.more(h:Ri b p k)(h1:1<=k)(e:b (at' p (k - 1)) (at' p k)=true):Ri b p (k+1):=λi j gZ hj=>by
 by_cases hk:j<k
 ·exact h i j gZ hk
 ·have:j=k:=by omega
  subst this;by_cases hi:i=j - 1
  ·subst hi;exact e
  ·exact L.tr _ _ _ (h i (j - 1) (by omega) (by omega)) e
theorem Fa.more(h:Fa b p k)(h1:1<=k)(e:b (at' p k) (at' p (k - 1))=true):Fa b p (k+1):=λi j gZ hj=>by
 by_cases hk:j<k
 ·exact h i j gZ hk
 ·have:j=k:=by omega
  subst this;by_cases hi:i=j - 1
  ·subst hi;exact e
  ·exact L.tr _ _ _ e (h i (j - 1) (by omega) (by omega))
theorem rn(P:PN n p):∀(f k:Nat),1<=k->k+f<=n->Ri b p k->k<=bh b (kas_asc p f k)/\bh b (kas_asc p f k)<=k+f/\Ri b p (bh b (kas_asc p f k))/\(bh b (kas_asc p f k)<k+f->b (at' p (bh b (kas_asc p f k))) (at' p (bh b (kas_asc p f k) - 1))=true)
 |0,k,h1,hn,h=>⟨Q0 _,Q0 _,h,λz=>XN z (RC _)⟩
 |f+1,k,h1,hn,h=>by
  have e:bh b (kas_asc p (f+1) k)=bh b (if b (at' p k) (at' p (k - 1))=true then KasT.ret k else kas_asc p f (k+1)):=rfl;rw[e];by_cases hb:b (at' p k) (at' p (k - 1))=true
  ·rw[XG hb];exact⟨Q0 _,by show k<=_;omega,h,λ_=>hb⟩
  ·rw[XH hb];have hr:b (at' p (k - 1)) (at' p k)=true:=by
    rcases L.tot (at' p (k - 1)) (at' p k) (P.lt _ (by omega)) (P.lt _ (by omega)) (λz=>by have:=P.inj _ _ (by omega) (by omega) z;omega) with q | q
    ·exact q
    ·exact XN q hb
   obtain⟨a1,a2,a3,a4⟩:=rn P f (k+1) (by omega) (by omega) (Ri.more L h h1 hr);exact⟨by omega,by omega,a3,λz=>a4 (by omega)⟩
theorem t8(P:PN n p):∀(f k:Nat),1<=k->k+f<=n->Fa b p k->∃m,bh b (kas_desc f p k 0)=(p,m,0)/\k<=m/\m<=k+f/\Fa b p m
 |0,k,h1,hn,h=>⟨k,rfl,Q0 _,Q0 _,h⟩
 |f+1,k,h1,hn,h=>by
  have e:bh b (kas_desc (f+1) p k 0)=bh b (if b (at' p k) (at' p (k - 1))=true then(if 0>0 then kas_desc f (kas_rev p (k - (0+1)) k) (k+1) 0 else kas_desc f p (k+1) 0)
   else .ask (p.getD (k - 1) 0) (p.getD k 0) λd=>if d=true then .ret (p,k,0) else kas_desc f p (k+1) (0+1)):=rfl
  rw[e];by_cases hb:b (at' p k) (at' p (k - 1))=true
  ·rw[XG hb,XH (by omega)];obtain⟨m,e1,e2,e3,e4⟩:=t8 P f (k+1) (by omega) (by omega) (Fa.more L h h1 hb);exact⟨m,e1,by omega,by omega,e4⟩
  ·rw[XH hb];have hr:b (at' p (k - 1)) (at' p k)=true:=by
    rcases L.tot (at' p (k - 1)) (at' p k) (P.lt _ (by omega)) (P.lt _ (by omega)) (λz=>by have:=P.inj _ _ (by omega) (by omega) z;omega) with q | q
    ·exact q
    ·exact XN q hb
   refine⟨k,?_,Q0 _,by omega,h⟩;show bh b (if b (at' p (k - 1)) (at' p k)=true then KasT.ret (p,k,0) else kas_desc f p (k+1) (0+1))=_;rw[XG hr];rfl
end
def bZ(p:Array Nat)(k:Nat):at' p k=(p[k]?).getD 0:=by
 unfold at';rw[Array.getD_eq_getD_getElem?]
def w6(hm:m<=p.size)(k:Nat):at' (kas_rev p 0 m) k=if k<m then at' p (m - 1 - k) else at' p k:=by
 have e:=getElem?_mirror_all (i:=0) hm k;rw[bZ];show (((mirror p 0 m ((m - 0) / 2))[k]?).getD 0)=_;rw[e];by_cases h:k<m
 ·rw[XG ⟨Ry _,h⟩,XG h,bZ,VH]
 ·rw[XH (λz=>h z.2),XH h,bZ]
def vV(hk:k<p.size)(hl:l<=k)(j:Nat):at' (bubble p k (k - l)) j=if j=l then at' p k else if l<j/\j<=k then at' p (j - 1) else at' p j:=by
 have e:=getElem?_bubble hk (k - l) (by omega) j;have e2:k - (k - l)=l:=by omega
 rw[e2] at e;rw[bZ (bubble p k (k - l)),e,bZ p k,bZ p (j - 1),bZ p j];by_cases c1:j=l
 ·rw[XG c1,XG c1]
 ·rw[XH c1,XH c1];by_cases c2:l<j/\j<=k
  ·rw[XG c2,XG c2]
  ·rw[XH c2,XH c2]
section
variable{n:Nat}{b:Nat->Nat->Bool}
def PN.rev(P:PN n p)(hm:m<=n):PN n (kas_rev p 0 m):=by
 have ha:=w6 (by rw[P.sz];exact hm);refine⟨(mirror_size ..).trans P.sz,λi hi=>?_,λi j hi hj e=>?_⟩
 ·rw[ha];split
  ·exact P.lt _ (by omega)
  ·exact P.lt _ hi
 ·rw[ha,ha] at e;split at e<;>split at e
  ·have:=P.inj _ _ (by omega) (by omega) e;omega
  ·have:=P.inj _ _ (by omega) hj e;omega
  ·have:=P.inj _ _ hi (by omega) e;omega
  ·exact P.inj _ _ hi hj e
def PN.bub(P:PN n p)(hk:k<n)(hl:l<=k):PN n (bubble p k (k - l)):=by
 have ha:=vV (by rw[P.sz];exact hk) hl;refine⟨(bubble_size ..).trans P.sz,λi hi=>?_,λi j hi hj e=>?_⟩
 ·rw[ha];split
  ·exact P.lt _ hk
  ·split
   ·exact P.lt _ (by omega)
   ·exact P.lt _ hi
 ·rw[ha,ha] at e;split at e
  ·split at e
   ·omega
   ·split at e
    ·have:=P.inj _ _ hk (by omega) e;omega
    ·have:=P.inj _ _ hk hj e;omega
  ·split at e
   ·split at e
    ·have:=P.inj _ _ (by omega) hk e;omega
    ·split at e
     ·have:=P.inj _ _ (by omega) (by omega) e;omega
     ·have:=P.inj _ _ (by omega) hj e;omega
   ·split at e
    ·have:=P.inj _ _ hi hk e;omega
    ·split at e
     ·have:=P.inj _ _ hi (by omega) e;omega
     ·exact P.inj _ _ hi hj e
def Fa.rev(P:PN n p)(hm:m<=n)(h:Fa b p m):Ri b (kas_rev p 0 m) m:=λi j gZ hj=>by
 have ha:=w6 (by rw[P.sz];exact hm);rw[ha,ha,XG (by omega),XG hj];exact h _ _ (by omega) (by omega)
variable(L:Lt n b)
include L
theorem C5(P:PN n p)(h1:1<=m)(hm:m<=n)(h:Fa b p m):∃k q,bh b (kas_tail3 m n p)=(k,q)/\PN n q/\1<=k/\k<=n/\Ri b q k:=by
 unfold kas_tail3;rw[ck];obtain⟨a1,a2,a3,_⟩:=rn L (P.rev hm) (n - m) m h1 (by omega) (Fa.rev P hm h);exact⟨_,_,rfl,P.rev hm,by omega,by omega,a3⟩
theorem zb(P:PN n p)(h2:2<=n):∃k q,bh b (kas_count n p)=(k,q)/\PN n q/\1<=k/\k<=n/\Ri b q k:=by
 unfold kas_count;rw[ck];obtain⟨a1,a2,a3,a4⟩:=rn L P (n - 1) 1 (Q0 _) (by omega) (λi j gZ hj=>by omega);generalize bh b (kas_asc p (n - 1) 1)=m at a1 a2 a3 a4;by_cases he:m=n
 ·subst he;rw[XG (by simp)];exact⟨m,p,rfl,P,by omega,Q0 _,a3⟩
 ·rw[XH (by simpa using he)];by_cases hg:m>1
  ·rw[XG hg];have hb:b (p.getD 0 0) (p.getD (m - 1) 0)=true:=a3 0 (m - 1) (by omega) (by omega);show∃k q,bh b (if b (p.getD 0 0) (p.getD (m - 1) 0)=true then KasT.ret (m,p) else kas_descPart m n (kas_rev p 0 m))=(k,q)/\_;rw[XG hb];exact⟨m,p,rfl,P,by omega,by omega,a3⟩
  ·rw[XH hg];have hm:m=1:=by omega
   subst hm;have hb:=a4 (by omega);unfold kas_descPart;rw[ck];obtain⟨m,e1,e2,e3,e4⟩:=t8 L P (n - (1+1)) (1+1) (by omega) (by omega) (λi j gZ hj=>by
    have hi:i=0:=by omega
    have hj:j=1:=by omega
    subst hi hj;exact hb)
   rw[e1]
   dsimp only
   rw[XH (by omega)];exact C5 L P (by omega) (by omega) e4
theorem ly(P:PN n p)(hk:k<n)(h:Ri b p k):∀(f l r:Nat),l<=r->r<=k->r - l<=f->(∀i,i<l->b (at' p i) (at' p k)=true)->(∀i,r<=i->i<k->b (at' p k) (at' p i)=true)->
 bh b (kas_place p k f l r)<=k/\(∀i,i<bh b (kas_place p k f l r)->b (at' p i) (at' p k)=true)/\∀i,bh b (kas_place p k f l r)<=i->i<k->b (at' p k) (at' p i)=true
 |0,l,r,h1,h2,h3,h4,h5=>by
  have:r=l:=by omega
  subst this;exact⟨h2,h4,h5⟩
 |f+1,l,r,h1,h2,h3,h4,h5=>by
  unfold kas_place;by_cases JR:l>=r
  ·rw[XG JR];have:r=l:=by omega
   subst this;exact⟨h2,h4,h5⟩
  ·rw[XH JR];have hm:(l+r) / 2<r:=by omega
   have JS:l<=(l+r) / 2:=by omega
   show bh b (if b (at' p k) (at' p ((l+r) / 2))=true then kas_place p k f l ((l+r) / 2) else kas_place p k f ((l+r) / 2+1) r)<=k/\(∀i,i<bh b (if b (at' p k) (at' p ((l+r) / 2))=true then kas_place p k f l ((l+r) / 2) else kas_place p k f ((l+r) / 2+1) r)->_)/\∀i,bh b (if b (at' p k) (at' p ((l+r) / 2))=true then kas_place p k f l ((l+r) / 2) else kas_place p k f ((l+r) / 2+1) r)<=i->_;by_cases hb:b (at' p k) (at' p ((l+r) / 2))=true
   ·rw[XG hb];refine ly P hk h f l ((l+r) / 2) JS (by omega) (by omega) h4 λi hi Mq=>?_;by_cases e:i=(l+r) / 2
    ·rw[e];exact hb
    ·exact L.tr _ _ _ hb (h _ _ (by omega) Mq)
   ·rw[XH hb];have hr:b (at' p ((l+r) / 2)) (at' p k)=true:=by
     rcases L.tot (at' p ((l+r) / 2)) (at' p k) (P.lt _ (by omega)) (P.lt _ hk) (λz=>by have:=P.inj _ _ (by omega) hk z;omega) with q | q
     ·exact q
     ·exact XN q hb
    refine ly P hk h f ((l+r) / 2+1) r (by omega) h2 (by omega) (λi hi=>?_) h5;by_cases e:i=(l+r) / 2
    ·rw[e];exact hr
    ·exact L.tr _ _ _ (h i ((l+r) / 2) (by omega) (by omega)) hr
theorem xE:∀(f:Nat) {p:Array Nat}{k:Nat},PN n p->k+f<=n->Ri b p k->PN n (bh b (kas_bin f p k))/\Ri b (bh b (kas_bin f p k)) (k+f)
 |0,p,k,P,_,h=>⟨P,h⟩
 |f+1,p,k,P,hn,h=>by
  have hk:k<n:=by omega
  unfold kas_bin;rw[ck];obtain⟨a1,a2,a3⟩:=ly L P hk h k 0 k (Ry _) (Q0 _) (by omega) (λi hi=>by omega) (λi h1 h2=>by omega);generalize bh b (kas_place p k k 0 k)=l at a1 a2 a3;have ha:=vV (by rw[P.sz];exact hk) a1;have hR:Ri b (bubble p k (k - l)) (k+1):=λi j gZ hj=>by
   rw[ha,ha];by_cases c1:i=l
   ·rw[XG c1,XH (by omega),XG ⟨by omega,by omega⟩];exact a3 _ (by omega) (by omega)
   ·rw[XH c1];by_cases c2:j=l
    ·rw[XG c2,XH (by omega)];exact a2 _ (by omega)
    ·rw[XH c2];by_cases c3:l<i/\i<=k
     ·rw[XG c3,XG ⟨by omega,by omega⟩];exact h _ _ (by omega) (by omega)
     ·rw[XH c3];by_cases c4:l<j/\j<=k
      ·rw[XG c4];exact h _ _ (by omega) (by omega)
      ·rw[XH c4];exact h _ _ gZ (by omega)
  have:=xE f (P.bub hk a1) (by omega) hR;rw[show k+(f+1)=k+1+f by omega];exact this
theorem vq(h2:2<=n):PN n (bh b (kas_sort n))/\Ri b (bh b (kas_sort n)) n:=by
 have P0:PN n (Rz (Rf n)):=by
  have e:∀i,i<n->at' (Rz (Rf n)) i=i:=λi hi=>by rw[bZ];simp[hi]
  exact⟨by simp,λi hi=>by rw[e i hi];exact hi,λi j hi hj z=>by rw[e i hi,e j hj] at z;exact z⟩
 unfold kas_sort;rw[ck];obtain⟨k,q,e,P,k1,kn,hR⟩:=zb L P0 h2;rw[e]
 dsimp only
 by_cases eE:k<n
 ·rw[XG eE];have:=xE L (n - max k 1) (k:=max k 1) P (by omega) (by rw[show max k 1=k by omega];exact hR);rw[show max k 1+(n - max k 1)=n by omega] at this;exact this
 ·rw[XH eE];have:k=n:=by omega
  subst this;exact⟨P,hR⟩
end
def Asks{α:Type}(n:Nat)(P:α->Prop):KasT α->Prop
 | .ret a=>P a
 | .ask i j k=>i<n/\j<n/\∀c,Asks n P (k c)
def Asks.bind{α β:Type}{n:Nat}{P:α->Prop}{Q:β->Prop}{f:α->KasT β}:∀{t:KasT α},Asks n P t->(∀a,P a->Asks n Q (f a))->Asks n Q (t.bind f)
 | .ret a,h,hf=>hf a h
 | .ask i j k,h,hf=>⟨h.1,h.2.1,λc=>Asks.bind (h.2.2 c) hf⟩
def wp_run{α:Type}{n:Nat}{P:α->Prop}{b:Nat->Nat->Bool}{cmp:Nat->Nat->(Bool->QT->Prop)->QT->Prop}{Q:α->QT->Prop}{s:QT}(hc:∀i j C,i<n->j<n->C (b i j) s->cmp i j C s):∀{t:KasT α},Asks n P t->Q (bh b t) s->t.kasWp cmp Q s
 | .ret a,_,h=>h
 | .ask i j k,ha,h=>hc i j _ ha.1 ha.2.1 (wp_run hc (ha.2.2 _) h)
def Below(n:Nat)(p:Array Nat):Prop:=∀x∈p,x<n
section
variable{n:Nat}(hn:0<n)
include hn
theorem Below.at{p:Array Nat}(h:Below n p)(i:Nat):at' p i<n:=by
 rw[bZ];cases e:p[i]? with
 |none=>exact hn
 |some x=>exact h x (Array.mem_of_getElem? e)
theorem Below.rev{p:Array Nat}(h:Below n p)(i j:Nat):Below n (kas_rev p i j):=λx hx=>h x ((mirror_perm p i j ((j - i) / 2)).mem_iff.mp hx)
theorem Below.bub{p:Array Nat}(h:Below n p)(k d:Nat):Below n (bubble p k d):=λx hx=>h x ((bubble_perm p k d).mem_iff.mp hx)
theorem ng{p:Array Nat}(h:Below n p):∀f k,Asks n (λ_=>True) (kas_asc p f k)
 |0,k=>trivial
 |f+1,k=>⟨Below.at hn h _,Below.at hn h _,λc=>by
  show Asks n _ (if c=true then KasT.ret k else kas_asc p f (k+1));cases c
  ·exact ng h f (k+1)
  ·exact trivial⟩
theorem iA:∀f {p:Array Nat} k q,Below n p->Asks n (λr=>Below n r.1) (kas_desc f p k q)
 |0,p,k,q,h=>h
 |f+1,p,k,q,h=>⟨Below.at hn h _,Below.at hn h _,λc=>by
  cases c
  ·refine⟨Below.at hn h _,Below.at hn h _,λd=>?_⟩;cases d
   ·exact iA f _ _ h
   ·exact h
  ·show Asks n _ (if q>0 then kas_desc f (kas_rev p (k - (q+1)) k) (k+1) 0 else kas_desc f p (k+1) 0);split
   ·exact iA f _ _ (Below.rev hn h _ _)
   ·exact iA f _ _ h⟩
theorem qc{p:Array Nat}(h:Below n p)(m r:Nat):Asks n (λx=>Below n x.2) (kas_tail3 m r p):=Asks.bind (ng hn (Below.rev hn h 0 m) _ _) λ_ _=>Below.rev hn h 0 m
theorem nh{p:Array Nat}(h:Below n p)(m r:Nat):Asks n (λx=>Below n x.2) (kas_descPart m r p):=Asks.bind (iA hn _ _ _ h) λx hx=>by
 split
 ·exact qc hn (Below.rev hn hx _ _) _ _
 ·exact qc hn hx _ _
theorem vR{p:Array Nat}(h:Below n p)(r:Nat):Asks n (λx=>Below n x.2) (kas_count r p):=Asks.bind (ng hn h _ _) λm _=>by
 split
 ·exact h
 ·split
  ·refine⟨Below.at hn h _,Below.at hn h _,λc=>?_⟩;cases c
   ·exact nh hn (Below.rev hn h _ _) _ _
   ·exact h
  ·exact nh hn h _ _
theorem jm{p:Array Nat}(h:Below n p)(k:Nat):∀f l r,Asks n (λ_=>True) (kas_place p k f l r)
 |0,l,r=>trivial
 |f+1,l,r=>by
  unfold kas_place;split
  ·exact trivial
  ·refine⟨Below.at hn h _,Below.at hn h _,λc=>?_⟩;cases c
   ·exact jm h k f _ _
   ·exact jm h k f _ _
theorem tT:∀f {p:Array Nat} k,Below n p->Asks n (λ_=>True) (kas_bin f p k)
 |0,p,k,h=>trivial
 |f+1,p,k,h=>Asks.bind (jm hn h k _ _ _) λl _=>tT f _ (Below.bub hn h _ _)
theorem qb:Asks n (λ_=>True) (kas_sort n):=by
 have h0:Below n (Rz (Rf n)):=λx hx=>by simpa using hx
 refine Asks.bind (vR hn h0 n) λx hx=>?_;split
 ·exact tT hn _ _ hx
 ·exact trivial
end
def cy:List Int->List Int->Bool
 |[],[]=>false
 |[],_::_=>true
 |_::_,[]=>false
 |x::xs,y::ys=>if x=y then cy xs ys else decide (x<y)
def iL:∀a b c:List Int,cy a b=true->cy b c=true->cy a c=true
 |[],[],_,h,_=>by cases h
 |[],_::_,[],_,h=>by cases h
 |[],_::_,_::_,_,_=>rfl
 |_::_,[],_,h,_=>by cases h
 |_::_,_::_,[],_,h=>by cases h
 |x::a,y::b,z::c,h1,h2=>by
  unfold cy at h1 h2⊢;by_cases e1:x=y
  ·subst e1;rw[XG rfl] at h1;by_cases e2:x=z
   ·subst e2;rw[XG rfl] at h2⊢;exact iL a b c h1 h2
   ·rw[XH e2] at h2⊢;exact h2
  ·rw[XH e1] at h1;have h1:=XO h1;by_cases e2:y=z
   ·subst e2;rw[XH e1];exact XM h1
   ·rw[XH e2] at h2;have h2:=XO h2;rw[XH (by omega)];exact XM (by omega)
def ei:∀a b:List Int,cy a b=true->cy b a=false
 |[],[],h=>by cases h
 |[],_::_,_=>rfl
 |_::_,[],h=>by cases h
 |x::a,y::b,h=>by
  unfold cy at h⊢;by_cases e:x=y
  ·subst e;rw[XG rfl] at h⊢;exact ei a b h
  ·rw[XH e] at h;have h:=XO h;rw[XH (λz=>e z.symm)];exact XJ (by omega)
def fZ:∀a b:List Int,a≠b->cy a b=true\/cy b a=true
 |[],[],h=>XN rfl h
 |[],_::_,_=> .inl rfl
 |_::_,[],_=> .inr rfl
 |x::a,y::b,h=>by
  unfold cy;by_cases e:x=y
  ·subst e;rw[XG rfl,XG rfl];exact fZ a b λz=>h (by rw[z])
  ·rw[XH e,XH (λz=>e z.symm)];by_cases q:x<y
   ·exact .inl (XM q)
   ·exact .inr (XM (by omega))
section
variable{prog:Ru}{w:World}{A:RQ}{E:Value->QT->Prop}{s:QT}
def uB{Q:Bool->QT->Prop}:∀{us vs:List Value}{xs ys:List Int}(i:Nat) {fin:Bool},Ta us xs->Ta vs ys->fin=decide (xs.length<ys.length)->Q (cy xs ys) s->KatLex prog w A true fin Q (us.zip vs) i s
 |_,_,_,_,i,_, .nil, .nil,e,h=>by subst e;exact kat_nil h
 |_,_,_,_,i,_, .nil, .cons y t r,e,h=>by subst e;exact kat_nil h
 |_,_,_,_,i,_, .cons x t r, .nil,e,h=>by subst e;exact kat_nil h
 |_,_,_,_,i,_, .cons (vs:=us) (ns:=xs) x t r, .cons (vs:=vs) (ns:=ys) y u r',e,h=>by
  refine kat_cons (Wq ?_);by_cases q:x=y
  ·subst q;rw[show (x==x)=true by simp];refine kat_yes (uB (i+1) r r' (by rw[e];simp) ?_);unfold cy at h;rw[XG rfl] at h;exact h
  ·rw[show (x==y)=false by simpa using q];unfold cy at h;rw[XH q] at h;refine kat_no ?_;by_cases hi:(i==0)=true
   ·rw[hi];exact oneLt_int h
   ·rw[show (i==0)=false by simpa using hi];exact kat_one _ _ (UK h)
def TupsAt(h:Heap):List Value->List (List Int)->Prop
 |[],[]=>True
 |v::vs,k::ks=>(∃a o us m,v= .ref a/\h.get? a=some o/\o.cls= .type "tuple"/\o.data= .seq (Rz us) m/\Ta us k/\k≠[])/\TupsAt h vs ks
 |_,_=>False
def TupsAt.len{h:Heap}:∀{vs:List Value}{ks:List (List Int)},TupsAt h vs ks->vs.length=ks.length
 |[],[],_=>rfl
 |v::vs,k::ks,t=>by rw[QV,QV,TupsAt.len t.2]
 |[],_::_,t=>t.elim
 |_::_,[],t=>t.elim
def TupsAt.get{h:Heap}:∀{vs:List Value}{ks:List (List Int)}{i:Nat},TupsAt h vs ks->i<vs.length->∃a o us m,vs.getD i Rp= .ref a/\h.get? a=some o/\o.cls= .type "tuple"/\o.data= .seq (Rz us) m/\Ta us (ks.getD i [])/\ks.getD i []≠[]
 |v::vs,k::ks,0,t,_=>t.1
 |v::vs,k::ks,i+1,t,hi=>TupsAt.get (i:=i) t.2 (by simpa using hi)
 |[],_,_,_,hi=>by simp at hi
 |_::_,[],_,t,_=>t.elim
def TupsAt.keep{h h':Heap}{a:Addr}(k:∀b o,b≠a->h.get? b=some o->h'.get? b=some o)(ha:∀o,h.get? a=some o->o.cls≠ .type "tuple"):∀{vs:List Value}{ks:List (List Int)},TupsAt h vs ks->TupsAt h' vs ks
 |[],[],_=>trivial
 |v::vs,x::ks,⟨⟨b,o,us,m,e1,e2,e3,e4⟩,t⟩=>⟨⟨b,o,us,m,e1,k b o (λz=>ha o (by rw[<-z];exact e2) e3) e2,e3,e4⟩,TupsAt.keep k ha t⟩
 |[],_::_,t=>t.elim
 |_::_,[],t=>t.elim
def nU:∀{us:List Value}{xs:List Int},Ta us xs->us.length=xs.length
 |_,_, .nil=>rfl
 |_,_, .cons x t r=>by rw[QV,QV,nU r]
def TupsAt.firsts{M:Model}{h:Heap}:∀{vs:List Value}{ks:List (List Int)},TupsAt h vs ks->∃fs,KatTups h vs fs/\fs.length=vs.length/\∀v∈fs,Looks M h (typeOf v) (.type "int")
 |[],[],_=>⟨[],KatTups.nil,rfl,λ_ z=>by cases z⟩
 |v::vs,k::ks,⟨⟨a,o,us,m,e1,e2,e3,e4,e5,e6⟩,t⟩=>by
  obtain⟨fs,q1,q2,q3⟩:=TupsAt.firsts (M:=M) t;subst e1;cases e5 with
  |nil=>exact XN rfl e6
  |cons x t r=>
   refine⟨.int x t::fs,KatTups.cons e2 e3 e4 (by simp) q1,by simp[q2],λv hv=>?_⟩;rcases Q9.mp hv with rfl | hv
   ·exact show Looks M h (pure (UC "int")) (UC "int") from .now
   ·exact q3 v hv
 |[],_::_,t=>t.elim
 |_::_,[],t=>t.elim
def asked{vs:List Value}{ks:List (List Int)}(t:TupsAt s.heap vs ks)(i j:Nat)(C:Bool->QT->Prop)(hi:i<vs.length)(hj:j<vs.length)(h:C (cy (ks.getD i []) (ks.getD j [])) s):kas_ask prog w A (tuples' true) vs i j C s:=by
 obtain⟨a,o,us,m,e1,e2,_,e4,e5,_⟩:=t.get hi;obtain⟨a',o',QK,m',Ak,IH,_,OX,NQ,_⟩:=t.get hj;unfold kas_ask;rw[e1,Ak];refine kat_lt e2 e4 IH OX (uB 0 e5 NQ ?_ h);rw[QW,QW,nU e5,nU NQ]
def uI{α:Type}{l:List α}(h:l.Nodup){i j:Nat}(hi:i<l.length)(hj:j<l.length)(e:l[i]=l[j]):i=j:=by
 rcases Nat.lt_trichotomy i j with q | q | q
 ·exact XN e (Sa.mp h i j hi hj q)
 ·exact q
 ·exact XN e.symm (Sa.mp h j i hj hi q)
def z4{a:Addr}{c:Nat}{vs:List Value}{ks:List (List Int)}{P:WJ->QT->Prop}(ho:s.heap.get? a=some (RS "list" vs.toArray c))(ht:TupsAt s.heap vs ks)(hd:ks.Nodup)(A6:vs.length<64)
 (h:∀(p:Array Nat) (h':Heap) (c':Nat),PN vs.length p->Ri (λi j=>cy (ks.getD i []) (ks.getD j [])) p vs.length->h'.get? a=some (RS "list" (Rz (p.toList.map λi=>vs.getD i Rp)) c')->
  (∀b o,b≠a->s.heap.get? b=some o->h'.get? b=some o)->P (.done (.ret .none)) {s with heap:=h'}):wpAny (model prog w) A (TB.«list.sort» ⟨[.ref a],[]⟩) P E s:=by
 have pC:Q_=16777216:=SA;have s1:=Rk s.heap a (RA λ_=>(#[]:Array Value));obtain⟨e1,JV⟩:∃e1,(s.heap.update a (RA λ_=>(#[]:Array Value))).get? a=some (RS "list" #[] e1):=⟨_,Vl ho λ_=> #[]⟩
 have k1:∀b o,b≠a->s.heap.get? b=some o->(((s.heap.update a (RA λ_=>(#[]:Array Value))).push (RS "tuple" vs.toArray 0)).push (RS "list" #[] 0)).get? b=some o:=λb o hb e=>
  QO _ (QO _ ((s1.2 b hb).trans e))
 have G0:=QO (RS "list" #[] 0) (QO (RS "tuple" vs.toArray 0) JV);have t3:=ht.keep k1 (λo e z=>by rw[ho] at e;cases e;exact XN (WX z) (by decide));have fin:∀(st:SortSt) (p:Array Nat),PN vs.length p->Ri (λi j=>cy (ks.getD i []) (ks.getD j [])) p vs.length->(arrOf st).map (·.2)=Rz (p.toList.map λi=>vs.getD i Rp)->Wx st=none->
  wpAny (model prog w) A (do
   let touched:=(<-seqEpoch a) !=e1
   VC (.ref a) λ_=>(arrOf st).map (·.2)
   if let some e:=Wx st then rule "list.sort.comparison-raised";throw e
   if touched then rule "list.sort.modified";raiseError "ValueError" "list modified during sort"
   ret .none) P E {s with heap:=((s.heap.update a (RA λ_=>(#[]:Array Value))).push (RS "tuple" vs.toArray 0)).push (RS "list" #[] 0)}:=λst p hp hr he hf=>by
  have hz:(Rz (p.toList.map λi=>vs.getD i Rp)).size=vs.length:=by rw[QW,QM,Q5,hp.sz]
  rw[he,hf];refine QL (WE G0 rfl (QL (VM G0 rfl ?_ (Ry _) (by rw[hz,pC];omega))));simp only[bne_self_eq_false,Ro,if_false];have s2:=Rk (((s.heap.update a (RA λ_=>(#[]:Array Value))).push (RS "tuple" vs.toArray 0)).push (RS "list" #[] 0)) a (RA λ_=>Rz (p.toList.map λi=>vs.getD i Rp));exact QP (h p _ _ hp hr (Vl G0 λ_=>Rz (p.toList.map λi=>vs.getD i Rp)) λb o hb e=>(s2.2 b hb).trans (k1 b o hb e))
 rw[list_sort_plain];refine QL (listItems_at ho rfl (QL (VM ho rfl (QL (WE JV rfl ?_)) (by rw[QW,pC];omega) (Ry _))));refine QL (VB (QL (U4 (SH ?_) (Ry _))) (by show vs.length<=_;rw[pC];omega));show wpAny (model prog w) A _ P E {s with heap:=((s.heap.update a (RA λ_=>(#[]:Array Value))).push (RS "tuple" vs.toArray 0)).push (RS "list" #[] 0)}
 dsimp only
 by_cases hs:vs.toArray.size<2
 ·rw[XG hs,XG hs];have vL:vs.length<2:=by simpa using hs
  refine QL (QP (QL (QP ?_)));refine fin (SortSt.mk' general' (vs.toArray.zip vs.toArray) #[] 7 none) (Rz (Rf vs.length)) ⟨by simp,λi hi=>?_,λi j hi hj _=>by omega⟩ (λi j gZ hj=>by omega) ?_ rfl
  ·rw[bZ];simp[hi]
  ·show (vs.toArray.zip vs.toArray).map (·.2)=_;apply XF.mp;refine Tb (by simp) λi a1 a2=>?_;simp at a1;simp[a1]
 ·rw[XH hs,XH hs];have vL:2<=vs.length:=by
   have:¬vs.length<2:=by simpa using hs
   omega
  obtain⟨fs,q1,q2,q3⟩:=t3.firsts (M:=model prog w);refine QL (kat_kind q1 (by omega) q3 rfl ?_);have hb:Lt vs.length (λi j=>cy (ks.getD i []) (ks.getD j [])):=⟨λi j k=>iL _ _ _,λi j=>ei _ _,λi j hi hj gZ=>fZ _ _ λz=>gZ (by
   rw[ht.len] at hi hj;rw[QS,QS,QN hi,QN hj] at z;exact uI hd hi hj (by simpa using z))⟩
  obtain⟨r1,r2⟩:=vq hb vL;have run:=kat_run (prog:=prog) (w:=w) (A:=A) (E:=E) (ks:=vs) (vs:=vs) (κ:=tuples' true) (Q:=λst s'=>s'={s with heap:=((s.heap.update a (RA λ_=>(#[]:Array Value))).push (RS "tuple" vs.toArray 0)).push (RS "list" #[] 0)}/\∃p,PN vs.length p/\Ri (λi j=>cy (ks.getD i []) (ks.getD j [])) p vs.length/\(arrOf st).map (·.2)=Rz (p.toList.map λi=>vs.getD i Rp)/\Wx st=none)
   (G:=λp s'=>s'={s with heap:=((s.heap.update a (RA λ_=>(#[]:Array Value))).push (RS "tuple" vs.toArray 0)).push (RS "list" #[] 0)}/\PN vs.length p/\Ri (λi j=>cy (ks.getD i []) (ks.getD j [])) p vs.length) rfl vL A6
   (λp jJ s' a1 a2 a3 a4=>⟨a4.1,p,a4.2.1,a4.2.2,kat_snds rfl a2,a3⟩)
   (wp_run (s:={s with heap:=((s.heap.update a (RA λ_=>(#[]:Array Value))).push (RS "tuple" vs.toArray 0)).push (RS "list" #[] 0)}) (λi j C hi hj hC=>asked t3 i j C hi hj hC) (qb (by omega)) ⟨rfl,r1,r2⟩)
  refine QL (R8 run ?_ λ_ _ e=>e);rintro⟨⟨⟩,jJ⟩ s' ⟨rfl,p,a1,a2,a3,a4⟩;exact fin jJ p a1 a2 a3 a4
end
section
variable{prog:Ru}{w:World}{A:RQ}{E:Value->QT->Prop}{s:QT}
def qz(lo:(d==So)=false)(ho:s.heap.get? d=some od)(hx:od.ExactDict)(hd:od.data= .dict es ep)
 (hQ:Q (.ref s.heap.objs.size) {s with heap:=s.heap.push {cls:= .type "dict_keyiterator",data:= .fields #[.ref d, .int 0 0, .int es.size 0, .int ep 0]} }):wpAny (model prog w) A (pyIter (.ref d)) Q E s:=by
 have hT:s.TypeIs (.ref d) "dict":=⟨od,ho,hx.1⟩
 refine V1 hT F.slot_dict_iter (RJ F.slot_dict_iter hT F.entry_dict_iter ?_ (F.args_dict_iter_1 _));unfold TB.«dict.__iter__» Builtin.Dict.dictSlotNone;refine QL (QL (Vi hT ?_));show wpAny _ _ (pure (Rc d)) _ _ s;refine QP ?_;show wpAny _ _ (S9 d>>=_) _ _ s;unfold S9;rw[XH (by rw[lo];exact Ra)];refine QL (QP (QL (RW ho hd (QL (SM ho hd ?_)))));refine QL (RU (QP ⟨_,rfl,"dict_keyiterator",_,⟨_,Q3 _ rfl,rfl⟩,F.slot_dict_keyiterator_next.lookup,?_⟩));simpa[TH] using hQ
def uH(W1:s.heap.IsKeyIter it d i es.size ep)(j1:s.heap.get? d=some od)(fo:od.data= .dict es ep)(hx:es[i]? =some e)
 (hQ:∀h',h'.IsKeyIter it d (i+1) es.size ep->R9 it s.heap h'->Q (some e.key) {s with heap:=h'}):wpAny (model prog w) A (Ug (.ref it)) Q E s:=by
 obtain⟨o,ho,hc,hd⟩:=id W1;have eE:i<es.size:=(V0.mp hx).1;have nR:R6 "dict_keyiterator"=false:=by decide
 unfold Ug;refine QL (TC (Sk W1.typeIs To
  (RJ To W1.typeIs We ?_ (VW _))))
 refine QL (QP (QL (QL ?_)))
 first | refine QL (Tj W1.typeIs (QP ?_)) | refine QL (T3 W1.typeIs (QP ?_))
 refine QL (UO ho hd ?_);simp only[nR,Ro,if_false];show wpAny _ _ (if (Rc d==Rp)=true then _ else _) _ _ s;rw[XH (show¬((Rc d==Rp)=true) from Ra)];refine QL (QP (QL (RW j1 fo ?_)));rw[XH (by simp)];refine QL (QP (QL (SM j1 fo ?_)));rw[XH (by simp)];refine QP ?_;simp only[show¬((i:Int)<0) from by omega,if_false,Tv,hx];refine QL ?_
 first | refine QL (Tj W1.typeIs (QP ?_)) | refine QL (T3 W1.typeIs (QP ?_))
 refine QL (wpAny_isOneOf_keyiter W1.typeIs ?_);show wpAny _ _ (Ww (.ref it) 1 (TH ((i:Int)+1))>>=_) _ _ s;refine QL (Um ho hd (by simp) ?_);have DX:(s.heap.update it (UR (·.setIfInBounds 1 (TH ((i:Int)+1))))).IsKeyIter it d (i+1) es.size ep:=
  ⟨_,R1 _ ho (U_ (Ti hd _)),(Obj.cls_mapFields ..).trans hc,by rw[Ti hd];simp[TH]⟩
 refine QL (SH (QL (wpAny_isOneOf_keyiter DX.typeIs ?_)));show wpAny _ _ (pure e.key) _ _ _;exact QP (QP ⟨_,rfl,QP (hQ _ DX (Rk ..))⟩)
def qm(hh:A.handled=none)(W1:s.heap.IsKeyIter it d i es.size ep)(hi:es.size<=i)(j1:s.heap.get? d=some od)(fo:od.data= .dict es ep)
 (hQ:∀h',UN it s.heap h'->Q none {s with heap:=h'}):wpAny (model prog w) A (Ug (.ref it)) Q E s:=by
 obtain⟨o,ho,hc,hd⟩:=id W1;have nR:R6 "dict_keyiterator"=false:=by decide
 unfold Ug;refine QL (TC (Sk W1.typeIs To
  (RJ To W1.typeIs We ?_ (VW _))))
 refine QL (QP (QL (QL ?_)))
 first | refine QL (Tj W1.typeIs (QP ?_)) | refine QL (T3 W1.typeIs (QP ?_))
 refine QL (UO ho hd ?_);simp only[nR,Ro,if_false];show wpAny _ _ (if (Rc d==Rp)=true then _ else _) _ _ s;rw[XH (show¬((Rc d==Rp)=true) from Ra)];refine QL (QP (QL (RW j1 fo ?_)));rw[XH (by simp)];refine QL (QP (QL (SM j1 fo ?_)));rw[XH (by simp)];refine QP ?_;simp only[show¬((i:Int)<0) from by omega,if_false,Tv,WA hi];refine QL ?_
 first | refine QL (Tj W1.typeIs (QP ?_)) | refine QL (T3 W1.typeIs (QP ?_))
 show wpAny _ _ (Ww (.ref it) 0 .none>>=_) _ _ s;refine QL (Um ho hd (by simp) ?_);show wpAny _ _ (newExc (.type "StopIteration") []>>=_) _ _ _;refine QL ?_;simp only[newExc,newTuple];refine QL (RU ?_ (by size_fits));refine QL (T1 (by first | rfl | (simp only[UQ];rfl)) ?_);refine RU ?_ (by size_fits);simp only[raiseNew];refine QL (Xh ?_);rw[show A.in1.handled=none from hh];refine QL (QP (wpAny_throw ?_));refine QL (Ut ⟨_,Q3 _ rfl,rfl⟩ WV ?_);exact QP (hQ _ (((Rk ..).extBut.push _).push _))
def AS(hh:A.handled=none)(W1:s.heap.IsKeyIter it d es.size es.size ep)(j1:s.heap.get? d=some od)(fo:od.data= .dict es ep)
 (hQ:∀h',UN it s.heap h'->Q none {s with heap:=h'}):wpAny (model prog w) A (Ug (.ref it)) Q E s:=qm hh W1 (Q0 _) j1 fo hQ
def Fy(es:Array Sn):Nat->Value->Prop:=λi v=>∃e,es[i]? =some e/\v=e.key
def xp(hh:A.handled=none)(I d:Addr)(jv:d≠I)(fo:od.data= .dict es ep):
 Walks prog w A I [I,d] [I] es.size (Fy es) (λi h=>h.IsKeyIter I d i es.size ep/\h.get? d=some od) where
 sub:=λb hb=>by simp at hb;simp[hb]
 frame:=λ_ _ _ st hk=>⟨st.1.at λo e=>hk I (by simp) o e,hk d (by simp) _ st.2⟩
 item:=λi s Q E hi st hQ=>by
  have hx:es[i]? =some es[i]:=RK hi;exact uH st.1 st.2 fo hx λh' DX wm=>hQ _ h' s.toks ⟨_,hx,rfl⟩ ⟨DX,(wm.2 d jv).trans st.2⟩ λb o hb e=>wm.extBut b o (λh=>hb (by simp[h])) e
 done:=λs Q E st hQ=>AS hh st.1 st.2 fo λh' Pn=>hQ h' s.toks λb o hb e=>Pn b o (λh=>hb (by simp[h])) e
 self:=λ_ _ _ _ st hQ=>wpAny_pyIter_keyiter st.1 hQ
def CT(lo:(d==So)=false)(hx:od.ExactDict)(fo:od.data= .dict es ep):KdlSrc prog w "dict" d d es.size (Fy es) (λh=>h.get? d=some od) where
 type:=λ_ hm=>⟨od,hm,hx.1⟩
 there:=λ_ hm=>⟨QY hm,QY hm⟩
 keep:=λ_ _ hm hk=>hk d (.inl rfl) od hm
 notList:=by decide
 notTuple:=by decide
 hint:=λ_ _ s _ hm hq=>kdl_hint_dict ⟨od,hm,hx.1⟩ hq
 iter:=λ_ _ hh hm=>⟨_,_,(λ_ _ hq=>qz lo hm hx fo hq),xp hh _ d (Rl (QY hm)) fo,⟨⟨_,Q3 _ rfl,rfl,rfl⟩,QO _ hm⟩⟩
end
end L3
namespace L3
open PySem
def insI(k:List Int):List (List Int)->List (List Int)
 |[]=>[k]
 |x::r=>if cy k x then k::x::r else x::insI k r
def sortI:List (List Int)->List (List Int)
 |[]=>[]
 |k::r=>insI k (sortI r)
def tQ(l:List (List Int)):Prop:=l.Pairwise λa b=>cy a b=true
def j2:∀{l:List (List Int)},x∈insI k l↔x=k\/x∈l
 |[]=>by simp[insI]
 |y::r=>by
  unfold insI;split
  ·simp
  ·rw[Q9,j2,Q9];constructor
   ·rintro(h | h | h)<;>simp[h]
   ·rintro(h | h | h)<;>simp[h]
def qr:∀{l:List (List Int)},tQ l->k∉l->tQ (insI k l)
 |[],_,_=>Wy _ _
 |x::r,h,hk=>by
  have h:=RF.mp h;unfold insI;split
  ·rename_i q;refine RF.mpr ⟨λy hy=>?_,RF.mpr h⟩;rcases Q9.mp hy with rfl | hy
   ·exact q
   ·exact iL _ _ _ q (h.1 y hy)
  ·rename_i q;have hx:cy x k=true:=by
    rcases fZ k x (λz=>hk (by rw[z];exact QR ..)) with z | z
    ·exact XN z q
    ·exact z
   refine RF.mpr ⟨λy hy=>?_,qr h.2 λz=>hk (QQ _ z)⟩;rcases j2.mp hy with rfl | hy
   ·exact hx
   ·exact h.1 y hy
def d7:∀{l:List (List Int)},x∈sortI l↔x∈l
 |[]=>Iff.rfl
 |k::r=>by unfold sortI;rw[j2,d7,Q9]
def gM:∀{l:List (List Int)},l.Nodup->tQ (sortI l)
 |[],_=>Wb
 |k::r,h=>by
  have h:=RZ.mp h;exact qr (gM h.2) λz=>h.1 (d7.mp z)
def kA:∀{a b:List (List Int)},tQ a->tQ b->(∀x,x∈a↔x∈b)->a=b
 |[],[],_,_,_=>rfl
 |[],y::b,_,_,h=>by have:=(h y).mpr (QR ..);cases this
 |x::a,[],_,_,h=>by have:=(h x).mp (QR ..);cases this
 |x::a,y::b,ha,hb,h=>by
  have ha:=RF.mp ha;have hb:=RF.mp hb;have e:x=y:=by
   rcases Q9.mp ((h x).mp (QR ..)) with q | q
   ·exact q
   ·rcases Q9.mp ((h y).mpr (QR ..)) with p | p
    ·exact p.symm
    ·have z1:=hb.1 x q;have z2:=ha.1 y p;rw[ei _ _ z1] at z2;cases z2
  subst e;have Oo:∀k,cy k k≠true:=λk z=>by have:=ei _ _ z;rw[z] at this;cases this
  rw[kA ha.2 hb.2 λz=>?_];constructor
  ·intro hz;rcases Q9.mp ((h z).mp (QQ _ hz)) with q | q
   ·subst q;exact XN (ha.1 z hz) (Oo z)
   ·exact q
  ·intro hz;rcases Q9.mp ((h z).mpr (QQ _ hz)) with q | q
   ·subst q;exact XN (hb.1 z hz) (Oo z)
   ·exact q
def sF:∀(n:Nat) (l:List Nat),l.Nodup->(∀x∈l,x<n)->l.length=n->∀k,k<n->k∈l
 |0,_,_,_,_,k,hk=>by omega
 |n+1,l,hd,hl,hn,k,hk=>by
  by_cases h:n∈l
  ·by_cases e:k=n
   ·subst e;exact h
   ·refine List.mem_of_mem_erase (sF n (l.erase n) (hd.erase n) (λx hx=>?_) (by rw[UG h,hn];rfl) k (by omega));have hx:=hd.mem_erase_iff.mp hx;have:=hl x hx.2;have:=hx.1;omega
  ·cases l with
   |nil=>simp at hn
   |cons x r=>
    have hd:=RZ.mp hd;have lt:∀y∈x::r,y<n:=λy hy=>by
     have:=hl y hy;have:y≠n:=λz=>h (by rw[<-z];exact hy);omega
    exact XN (sF n r hd.2 (λy hy=>lt y (QQ _ hy)) (by simpa using hn) x (lt x (QR ..))) hd.1
def rf(hd:ks.Nodup)(P:PN ks.length p)(R:Ri (λi j=>cy (ks.getD i []) (ks.getD j [])) p ks.length):(p.toList.map λi=>ks.getD i [])=sortI ks:=by
 have hsz:p.toList.length=ks.length:=by rw[Q5];exact P.sz
 have nN:∀i (h:i<p.toList.length),p.toList[i]=at' p i:=λi h=>by
  have h':i<p.size:=by rw[Q5] at h;exact h
  rw[bZ,RK h'];simp
 refine kA ?_ (gM hd) λx=>?_
 ·refine Sa.mpr λi j hi hj gZ=>?_;rw[QM] at hi hj;rw[Sf,Sf,nN i hi,nN j hj];exact R i j gZ (by omega)
 ·rw[d7];constructor
  ·intro hx;obtain⟨i,hi,rfl⟩:=QU.mp hx;obtain⟨j,hj,rfl⟩:=Sy.mp hi;have:=P.lt j (by omega);rw[nN j hj,QS,QN this];exact SO this
  ·intro hx;obtain⟨k,hk,rfl⟩:=Sy.mp hx;have JZ:k∈p.toList:=by
    have hn:p.toList.Nodup:=Sa.mpr λi j hi hj gZ z=>by
     rw[nN i hi,nN j hj] at z;have:=P.inj i j (by omega) (by omega) z;omega
    exact sF ks.length p.toList hn (λx hx=>by
     obtain⟨j,hj,rfl⟩:=Sy.mp hx;rw[nN j hj];exact P.lt j (by omega)) hsz k hk
   refine QU.mpr ⟨k,JZ,?_⟩;rw[QS,QN hk];rfl
end L3
namespace L3
open PySem PySem.Spec L2 SeqAt HT
open PyProof.Rows hiding St
def tupI(k:List Int):D:= .tup (k.map D.int)
def F0:D->Option (List Int)
 | .tup ds=>nums ds
 |_=>none
def gq:List D->Option (List (List Int))
 |[]=>some []
 |d::ds=>match F0 d,gq ds with
  |some k,some ks=>some (k::ks)
  |_,_=>none
def eu(ks:List (List Int)):Bool:=decide ks.Nodup&&decide (ks.length<64)&&ks.all λk=>!k.isEmpty
def cN(H:Hp):List V->List (List Int)->Prop:=VQ λv k=>∃a,v= .ref a/\H a=some (.tup (k.map V.int))
def qu{K:QZ}(hs:Same F H):∀{ds:List D}{vs:List V}{ks:List (List Int)},gq ds=some ks->DenL K F ds vs->cN H vs ks/\cN F vs ks
 |[],_,_,e,h=>by cases e;cases (show _=_ from h);exact⟨.nil, .nil⟩
 |d::ds,_,_,e,⟨v,r,h1,h2,h3⟩=>by
  subst h1;unfold gq at e;split at e
  ·rename_i k ks e1 e2;cases e;obtain⟨Qm,Qn⟩:=qu hs e2 h3;cases d with
   |tup es=>
    obtain⟨a,ws,rfl,k2,k3,_⟩:=h2;have:=de e1 k3;subst this;exact⟨.cons ⟨a,rfl,hs _ _ k2⟩ Qm, .cons ⟨a,rfl,k2⟩ Qn⟩
   |_=>cases e1
  ·cases e
def o3{K:QZ}:∀{ws:List V}{ks:List (List Int)},cN F ws ks->(∀k∈ks,k.length<=lim)->DenL K F (ks.map tupI) ws
 |_,_, .nil,_=>rfl
 |_,_, .cons (b:=k) h t,hl=>by
  obtain⟨a,rfl,h⟩:=h;exact .cons ⟨a,_,rfl,h,DenL.ints k,by rw[QM];exact hl k (QR ..)⟩ (o3 t λk hk=>hl k (QQ _ hk))
def lC(I:Inv X f8 σ H s):∀{vs:List V}{aE:List Value}{ks:List (List Int)},cN H vs ks->Vals vs aE->(∀k∈ks,k≠[])->TupsAt s.heap aE ks
 |_,_,_, .nil,r,_=>by cases r;exact trivial
 |_,_,_, .cons (b:=k) h t,r,hn=>by
  obtain⟨a,rfl,h⟩:=h;cases r with
  |cons r1 r2=>
   cases (show _=_ from r1);obtain⟨us,ru,pt,_⟩:=I.tuple (SqT.of h);obtain⟨o,q1,q2,m,q3⟩:=pt;exact⟨⟨a,o,us,m,rfl,q1,q2,q3,intsAre_of ru,hn k (QR ..)⟩,lC I t r2 λk hk=>hn k (QQ _ hk)⟩
def vb:∀{vs:List V}{ks:List (List Int)}{i:Nat},cN H vs ks->i<vs.length->∃a,vs.getD i .non= .ref a/\H a=some (.tup ((ks.getD i []).map V.int))
 |_,_,i, .nil,hi=>by simp at hi
 |_,_,0, .cons h t,_=>h
 |_,_,i+1, .cons h t,hi=>vb (i:=i) t (by simpa using hi)
def ky:∀{vs:List V}{ks:List (List Int)},cN H vs ks->vs.length=ks.length
 |_,_, .nil=>rfl
 |_,_, .cons h t=>by rw[QV,QV,ky t]
def lB(h:cN H vs ks):∀{is:List Nat},(∀i∈is,i<vs.length)->cN H (is.map λi=>vs.getD i .non) (is.map λi=>ks.getD i [])
 |[],_=> .nil
 |i::is,hi=> .cons (vb h (hi i (QR ..))) (lB h λj hj=>hi j (QQ _ hj))
def lN:∀{vs:List V}{us:List Value}(i:Nat),Vals vs us->i<vs.length->RelV (vs.getD i .non) (us.getD i Rp)
 |_,_,i, .nil,hi=>by simp at hi
 |_,_,0, .cons h t,_=>h
 |_,_,i+1, .cons h t,hi=>lN i t (by simpa using hi)
def lO(h:Vals vs us):∀{is:List Nat},(∀i∈is,i<vs.length)->Vals (is.map λi=>vs.getD i .non) (is.map λi=>us.getD i Rp)
 |[],_=> .nil
 |i::is,hi=> .cons (lN i h (hi i (QR ..))) (lO h λj hj=>hi j (QQ _ hj))
section
variable{e:Expr}
def qw{K:QZ}:∀{ds:List D}{vs:List V}{ks:List (List Int)},gq ds=some ks->DenL K F ds vs->∀k∈ks,k.length<=lim
 |[],_,_,e,_=>by cases e;exact λk hk=>by cases hk
 |d::ds,_,_,e,⟨v,r,h1,h2,h3⟩=>by
  unfold gq at e;split at e
  ·rename_i k ks e1 e2;cases e;intro k' pJ;rcases Q9.mp pJ with rfl | pJ
   ·cases d with
    |tup es=>
     obtain⟨a,ws,rfl,k2,k3,k4⟩:=h2;have:=de e1 k3;have hl:=k3.len;rw[this,QM] at hl;omega
    |_=>cases e1
   ·exact qw e2 h3 k' pJ
  ·cases e
def iT:∀l:List (List Int),(sortI l).length=l.length
 |[]=>rfl
 |k::r=>by
  have ins:∀(k:List Int) (l:List (List Int)),(insI k l).length=l.length+1:=by
   intro k l;induction l with
   |nil=>rfl
   |cons x l ih=>
    unfold insI;split
    ·rfl
    ·rw[QV,ih,QV]
  unfold sortI;rw[ins,iT r,QV]
end
def k_(k:List Int):List Key:=k.map VE
def KU:List V->Hp->VK->Prop:=λxs H Q=>∃p az ks,xs=[.ref p]/\Rd H p (.dT az)/\az.map (·.1)=ks.map k_/\eu ks=true/\∀(q:Addr) (ws:List V),H q=none->cN H ws (sortI ks)->Q (.ref q) (upd H q (.lst ws))
def qC:∀{az:List (List Key×V)}{xs:List (List Key×Addr×Value)}{ks:List (List Int)},VQ (λ(p:List Key×V) (q:List Key×Addr×Value)=>p.1=q.1/\H q.2.1=some (.tup (p.1.map kV))/\RelV p.2 q.2.2) az xs->
 az.map (·.1)=ks.map k_->cN H (xs.map λx=>V.ref x.2.1) ks
 |_,_,[], .nil,_=> .nil
 |_,_,_::_, .nil,e=>by simp at e
 |_,_,[], .cons h t,e=>by simp at e
 |_,_,k::ks, .cons h t,e=>by
  rw[QX,QX] at e;injection e with e1 e2
  refine .cons ⟨_,rfl,?_⟩ (qC t e2);have hk:(k_ k).map kV=k.map V.int:=by unfold k_;rw[Rj];rfl
  rw[h.2.1,e1,hk]
section
variable{X:Cx}{Xw:Nat->Hp->Prop}{e:Expr}{δs:DA}{pos p:Pos}
def y7(hc:X.calm=true):CallR X (.builtin "sorted") KU:=by
 intro f8 s σ H xs us Q I r h;obtain⟨a,az,ks,rfl,hH,Ds,hk,q⟩:=h;obtain⟨u,rfl,r1⟩:=r.one;cases (show u=_ from r1);obtain⟨z,lo,xs,rel,o,es,ep,g1,g2,g3,g4,g5⟩:=(show ObjOk X.prog X.w H s.heap a (.dT az) from hH.ok I.hok)
 unfold eu at hk;rw[Q6,Q6] at hk;have hd:ks.Nodup:=XO hk.1.1;have A6:ks.length<64:=XO hk.1.2;have jv:∀k∈ks,k≠[]:=λk pJ z=>by have:=Rt.mp hk.2 k pJ;rw[z] at this;cases this
 have hr:=qC rel Ds;have FW:=ky hr;rw[QM] at FW;have Ob:es.size=xs.length:=by rw[<-Q5,g4,QM]
 have pC:Q_=16777216:=SA;refine Ux kind_sorted plain_sorted entry_sorted (args_sorted1 _) ?_;unfold TB.«sorted»;refine QL (QP (QL (PySem.W.kdu_collect (CT lo g2 g3) (I.ok.hd hc) g1 (by rw[Ob,pC];omega) λh1 tk u8 Bu i3=>?_)));have FP:u8.toList.length=xs.length:=by rw[Q5,<-Ob];exact i3.1
 have I1:Inv X f8 σ H {s with heap:=h1,toks:=tk}:=I.kept λb ob e=>Bu b ob e;have rv:Vals (xs.map λx=>V.ref x.2.1) u8.toList:=by
  have ext:∀{vs:List V}{us:List Value},vs.length=us.length->(∀(i:Nat) (v:V) (u:Value),vs[i]? =some v->us[i]? =some u->RelV v u)->Vals vs us:=by
   intro vs;induction vs with
   |nil=>intro us h _;cases us with | nil=>exact .nil | cons _ _=>simp at h
   |cons v vs ih=>
    intro us h hh;cases us with
    |nil=>simp at h
    |cons u us=>exact .cons (hh 0 v u rfl rfl) (ih (by simpa using h) λi v u h1 h2=>hh (i+1) v u h1 h2)
  refine ext (by rw[QM,FP]) λi v u e1 e2=>?_;rw[SQ] at e2;obtain⟨en,q1,q2⟩:=i3.2 i u e2;rw[<-SQ,g4,Q1] at q1;rw[Q1] at e1;cases w:xs[i]? with
  |none=>rw[w] at e1;cases e1
  |some x=>
   rw[w] at e1 q1;cases e1;cases q1;exact q2
 have ht:=lC I1 hr rv jv;refine QL (U4 ?_ (by rw[pC];omega));have Dv:(h1.push (RS "list" u8.toList.toArray 0)).get? h1.objs.size=some (RS "list" u8.toList.toArray 0):=Q3 _ rfl;refine QL (SH (RJ WT ⟨_,Dv,rfl⟩ WG (z4 Dv
  (ht.keep (λb o _ e=>QO _ e) (λo e=>XN (QY e) (RC _))) hd (by omega) λP h' c' hP hR Bb j0=>?_) (WW _)))
 have Dl:∀i∈P.toList,i<(xs.map λx=>V.ref x.2.1).length:=λi hi=>by
  obtain⟨j,hj,rfl⟩:=Sy.mp hi;have h':j<P.size:=by rw[Q5] at hj;exact hj
  have:=hP.lt j (by rw[hP.sz] at h';exact h');rw[bZ,RK h'] at this;have e:P.toList[j]=P[j]:=by simp
  rw[e,QM];have:P[j]<u8.toList.length:=this;omega
 have IL:PN ks.length P:=by rw[<-FW,<-FP];exact hP
 have Mb:Ri (λi j=>cy (ks.getD i []) (ks.getD j [])) P ks.length:=by rw[<-FW,<-FP];exact hR
 have FY:=rf hd IL Mb;have Oj:=lB hr Dl;rw[FY] at Oj;refine⟨_,rfl,QP ⟨_,rfl,⟨.ref h1.objs.size,_,I1.laid (λb ob e=>j0 b ob (Rl (QY e)) (QO _ e)) (Q0 _) ?_,rfl,q _ _ (I1.hok.fresh (Q0 _)) Oj⟩⟩⟩;exact⟨by rw[QM,Q5,hP.sz,pC];omega,_,c',lO rv Dl,Bb⟩
def qX(e:Same F F'):∀{ws:List V}{ks:List (List Int)},cN F ws ks->cN F' ws ks
 |_,_, .nil=> .nil
 |_,_, .cons ⟨b,q1,q2⟩ t=> .cons ⟨b,q1,e _ _ q2⟩ (qX e t)
def o4(hs:Same F H):∀{ws:List V}{ks:List (List Int)},cN H ws ks->∃F',Ext F H F' H/\cN F' ws ks
 |_,_, .nil=>⟨F,Ext.refl hs, .nil⟩
 |_,_, .cons h t=>by
  obtain⟨a,rfl,h⟩:=h;obtain⟨F1,e1,r1⟩:=o4 hs t;have e2:=Ext.tup e1.fh h;refine⟨_,e1.trans e2, .cons ⟨a,rfl,aJ⟩ ?_⟩;exact qX e2.ff r1
def qt:List Key->Option (List Int)
 |[]=>some []
 | .inl i::r=>(qt r).map (i:: ·)
 |_=>none
def dZ:List (List Key)->Option (List (List Int))
 |[]=>some []
 |k::r=>match qt k,dZ r with
  |some x,some xs=>some (x::xs)
  |_,_=>none
def ur:∀{k:List Key}{x:List Int},qt k=some x->k=k_ x
 |[],_,e=>by cases e;rfl
 | .inl i::r,_,e=>by
   unfold qt at e;cases q:qt r with
   |none=>rw[q] at e;cases e
   |some y=>rw[q] at e;cases e;rw[ur q];rfl
 | .inr _::r,_,e=>by cases e
def iG:∀{kk:List (List Key)}{ks:List (List Int)},dZ kk=some ks->kk=ks.map k_
 |[],_,e=>by cases e;rfl
 |k::r,_,e=>by
  unfold dZ at e;split at e
  ·rename_i x xs e1 e2;cases e;rw[QX,<-ur e1,<-iG e2]
  ·cases e
def vw:List D->M D
 |[.dct kk ds]=>match dZ kk with
  |some ks=>if eu ks&&ks.all (λk=>decide (k.length<=lim)) then aa (.lst ((sortI ks).map tupI)) else af
  |none=>af
 |_=>af
def iU:∀{a:List α}{b:List β},a.length=b.length->(a.zip b).map (·.1)=a
 |[],[],_=>rfl
 |x::a,y::b,h=>by rw[Th,QX,iU (by simpa using h)]
 |[],_::_,h=>by simp at h
 |_::_,[],h=>by simp at h
def EJ(hc:X.calm=true)(hg:Gl X "sorted")(hm:X.mg "sorted"=none)(hb:Rv "sorted"=some (.builtin "sorted"))(ha:jl X Xw [e] δs)(he:Q8 [e] X.env=[(false,eval e X.env)]:=by rfl):PD X Xw (.Call (.Name "sorted" p) [e] [] pos) (dA vw δs):=
 cF (y7 hc) (λXw F H vs ds Q s h w=>by
  unfold vw at w;split at w
  ·rename_i kk ds;obtain⟨v,rfl,h1⟩:=h.one;obtain⟨a,ob,ws,rfl,h2,h3,h4,h5⟩:=h1;split at w
   ·rename_i ks IS;split at w
    ·rename_i hok;rw[Q6] at hok;have hl:∀k∈ks,k.length<=lim:=λk hk=>XO (Rt.mp hok.2 k hk);have A6:ks.length<64:=by
      have:=hok.1;unfold eu at this;rw[Q6,Q6] at this;exact XO this.1.2
     refine⟨a,_,ks,rfl, .inr ⟨ob,s _ _ h2⟩,by rw[iU (by rw[h4];exact h3.len),iG IS],hok.1,λq us hq hr=>?_⟩;obtain⟨F1,e1,r1⟩:=o4 s hr;have e2:=Ext.lay (o:= .lst us) e1.fh hq;exact WP.fin w (e1.trans e2) ⟨q,_,rfl,aJ,DenL.mono e2.ff (o3 r1 λk hk=>hl k (d7.mp hk)),by rw[QM,iT];unfold lim;omega⟩
    ·exact w.elim
   ·exact w.elim
  ·exact w.elim) hg hm hb ha (by decide) (by decide) he rfl
end
end L3
namespace L3
open PySem PySem.Spec L2
open PyProof.Rows hiding St
def orM(a b:M α):M α:=match a with
 |none=>b
 |some r=>some r
def G4(a b:DA):DA:=λρ=>orM (a ρ) (b ρ)
section
variable{X:Cx}{Xw:Nat->Hp->Prop}{e tg:Expr}{δi δi':DA}
def EL(h:vP X Xw tg e δi)(h':vP X Xw tg e δi'):vP X Xw tg e (G4 δi δi'):=λf8 s σ H Q I ⟨F,ρ,S,w⟩=>by
 unfold G4 orM at w;cases q:δi ρ with
 |none=>rw[q] at w;exact h' f8 s σ H Q I ⟨F,ρ,S,w⟩
 |some r=>rw[q] at w;exact h f8 s σ H Q I ⟨F,ρ,S,by rw[q];exact w⟩
def lz{st:Stmt}:fQ X Xw st (λ_=>af):=λs0 X8 f8 s σ H D I ⟨F,ρ,S,w⟩=>w.elim
end
def fgt:List Nat->cp->cp
 |[],ρ=>ρ
 |i::is,ρ=>fgt is (ρ.set i none)
def Kv(f:cp->cp):Out->M Out
 | .nx ρ=>aa (.nx (f ρ))
 | .rt d=>aa (.rt d)
def dF(is:List Nat)(τ:DS):DS:=λρ=>τ ρ>>=Kv (fgt is)
def StOk.fgt1{K:QZ}(s:StOk K s0 X8 F H σ ρ)(i:Nat):StOk K s0 X8 F H σ (ρ.set i none):=by
 have get:∀(j:Nat) (sl:Sl),(ρ.set i none)[j]? =some (some sl)->ρ[j]? =some (some sl):=λj sl e=>by
  by_cases hj:j=i
  ·subst hj;by_cases hl:j<ρ.length
   ·rw[Rh hl] at e;cases e
   ·rw[Ub (by simpa using hl)] at e;cases e
  ·rw[Q7 (R3 hj)] at e;exact e
 exact⟨s.ext,⟨s.st.fh,λj sl e=>s.st.den j sl (get j sl e)⟩,by simp[s.len],λj c a e e'=>s.own j c a (get j _ e) e',λj k c c' a e1 e2 e3 e4=>s.sep j k c c' a (get j _ e1) (get k _ e2) e3 e4⟩
def StOk.fgt{K:QZ}:∀(is:List Nat) {ρ:cp},StOk K s0 X8 F H σ ρ->StOk K s0 X8 F H σ (L3.fgt is ρ)
 |[],_,s=>s
 |i::is,_,s=>StOk.fgt is (s.fgt1 i)
def WPS.fgt{K:QZ}(w:WPS K Xw s0 X8 (m>>=Kv (L3.fgt is)) Dn):WPS K Xw s0 X8 m Dn:=by
 match m,w with
 |none,w=>exact w
 |some (.ok (.nx ρ)),w=>exact λσ F H s=>w σ F H (s.fgt is)
 |some (.ok (.rt d)),w=>exact w
 |some (.ex n),w=>exact w
section
variable{X:Cx}{Xw:Nat->Hp->Prop}{OC:List Stmt}{τ:DS}{is:List Nat}
def bP(h:PSDs X Xw OC τ):PSDs X Xw OC (dF is τ):=λs0 X8=>PSs.weak (h s0 X8) λD σ H ⟨F,ρ,s,w⟩=>⟨F,ρ,s,WPS.fgt w⟩
end
def O6:Option Sl->Option Sl
 |some (.ow c)=>some (.fz c.d)
 |x=>x
def wc(ρ:cp):cp:=ρ.map O6
def refA(h:Heap)(P:Addr->Prop)[DecidablePred P](H:Hp):Hp:=λb=>if P b then(H b).map (mI ((h.get? b).getD {cls:= .none,data:= .fields #[]})) else H b
def we(ob:Obj)(o:HO):mI ob o=o\/((∃k,o= .dT k)\/∃k,o= .dK k)/\mI ob o= .frz ob o:=by
 cases o<;>first | exact .inl rfl | exact .inr ⟨.inl ⟨_,rfl⟩,rfl⟩ | exact .inr ⟨.inr ⟨_,rfl⟩,rfl⟩
section
variable{X:Cx}{f8:List (Addr×Obj)}{σ:St}{H:Hp}{s:QT}{P:Addr->Prop}[DecidablePred P]
def gh(e:H b=none):refA h P H b=none:=by
 unfold refA;split
 ·rw[e];rfl
 ·exact e
def qW(e:H b=some o):refA h P H b=some o\/((∃k,o= .dT k)\/∃k,o= .dK k)/\P b/\refA h P H b=some (.frz ((h.get? b).getD {cls:= .none,data:= .fields #[]}) o):=by
 unfold refA;split
 ·rename_i hp;rw[e];rcases we ((h.get? b).getD {cls:= .none,data:= .fields #[]}) o with q | ⟨q1,q2⟩
  ·exact .inl (by show some _=_;rw[q])
  ·exact .inr ⟨q1,hp,by show some _=_;rw[q2]⟩
 ·exact .inl e
def gg(e:H b=some o)(n1:∀k,o≠ .dT k)(n2:∀k,o≠ .dK k):refA h P H b=some o:=by
 rcases qW (P:=P) e with q | ⟨⟨k,q⟩ | ⟨k,q⟩,_⟩
 ·exact q
 ·exact XN q (n1 k)
 ·exact XN q (n2 k)
def Inv.refA(I:Inv X f8 σ H s):Inv X f8 σ (L3.refA s.heap P H) s:=by
 have obj:∀b o,H b=some o->((∃k,o=HO.dT k)\/∃k,o= .dK k)->∃ob,s.heap.get? b=some ob:=λb o e hu=>by
  have hk:=I.hok b o e;rcases hu with⟨k,h1⟩ | ⟨k,h1⟩
  ·subst h1;obtain⟨_,_,_,_,ob,_,_,q,_⟩:=hk;exact⟨ob,q⟩
  ·subst h1;obtain⟨_,_,_,_,ob,_,_,q,_⟩:=hk;exact⟨ob,q⟩
 refine⟨I.ok,I.os,I.bare,⟨I.base.keep,I.base.slot,λb q h1 h2 h3=>gh (I.base.free b q h1 h2 h3),I.base.there,λb xs q=>gg (I.base.tups b xs q) (λ_ z=>nomatch z) (λ_ z=>nomatch z),
  λb q1 v q=>gg (I.base.frzs b q1 v q) (λ_ z=>nomatch z) (λ_ z=>nomatch z),λb ps q=>?_⟩,I.loc,I.cell,gh I.free,λx c q=>gh (I.freeC x c q),λp hp=>?_,λb v q=>?_,I.len⟩
 ·obtain⟨m,this⟩:=I.base.tbls b ps q;exact⟨m,gg this (λ_ z=>nomatch z) (λ_ z=>nomatch z)⟩
 ·obtain⟨h1,h2,h3⟩:=I.pin p hp;exact⟨h1,gh h2,h3⟩
 ·have st:∀{c:Addr}{v:HO},ObjOk X.prog X.w H s.heap c v->ObjOk X.prog X.w (L3.refA s.heap P H) s.heap c v:=λ{c v} k=>k.stay (λ_ _ _ q=>q)
   (λc' q=>gg q (λ_ z=>nomatch z) (λ_ z=>nomatch z)) λc' xs q=>gg q (λ_ z=>nomatch z) (λ_ z=>nomatch z)
  cases e:H b with
  |none=>rw[gh e] at q;cases q
  |some o=>
   rcases qW (P:=P) e with z | ⟨hu,hp,z⟩
   ·rw[z] at q;cases q;exact st (I.hok b _ e)
   ·rw[z] at q;cases q;obtain⟨ob,JW⟩:=obj b o e hu;rw[JW];exact⟨JW,st (I.hok b o e)⟩
def unA(P:Addr->Prop)[DecidablePred P](H:Hp):Hp:=λb=>if P b then(match H b with | some (.frz _ u)=>some u | x=>x) else H b
def Inv.unA(I:Inv X f8 σ H s)(hP:∀b,P b->∀o u,X.X8 b≠some (.frz o u))(hQ:∀b,P b->∀o u,H b=some (.frz o u)->(∃k,u= .dT k)\/∃k,u= .dK k):Inv X f8 σ (L3.unA P H) s:=by
 have non:∀b,H b=none->L3.unA P H b=none:=λb e=>by unfold L3.unA;rw[e];split<;>rfl
 have keep:∀b o,H b=some o->(∀q u,o≠ .frz q u)->L3.unA P H b=some o:=λb o e n=>by
  unfold L3.unA;split
  ·rw[e];cases o<;>first | rfl | exact XN rfl (n _ _)
  ·exact e
 refine⟨I.ok,I.os,I.bare,⟨I.base.keep,I.base.slot,λb q h1 h2 h3=>non b (I.base.free b q h1 h2 h3),I.base.there,λb xs q=>keep b _ (I.base.tups b xs q) (λ_ _ z=>nomatch z),
  λb q1 v q=>?_,λb ps q=>?_⟩,I.loc,I.cell,non _ I.free,λx c q=>non _ (I.freeC x c q),λp hp=>?_,λb v q=>?_,I.len⟩
 ·have:=I.base.frzs b q1 v q;unfold L3.unA;rw[XH (λhp=>hP b hp q1 v q)];exact this
 ·obtain⟨m,this⟩:=I.base.tbls b ps q;exact⟨m,keep b _ this (λ_ _ z=>nomatch z)⟩
 ·obtain⟨h1,h2,h3⟩:=I.pin p hp;exact⟨h1,non _ h2,h3⟩
 ·have st:∀{c:Addr}{v:HO},ObjOk X.prog X.w H s.heap c v->ObjOk X.prog X.w (L3.unA P H) s.heap c v:=λ{c v} k=>k.stay (λ_ _ _ q=>q)
   (λc' q=>keep c' _ q (λ_ _ z=>nomatch z)) λc' xs q=>keep c' _ q (λ_ _ z=>nomatch z)
  cases e:H b with
  |none=>rw[non b e] at q;cases q
  |some o=>
   have ko:=I.hok b o e;by_cases hf:∃ob u,o= .frz ob u
   ·obtain⟨ob,u,rfl⟩:=hf;unfold L3.unA at q;split at q
    ·rw[e] at q;cases q;obtain⟨_,k2⟩:=ko;exact st k2
    ·rw[e] at q;cases q;exact st ko
   ·rw[keep b o e (λq u z=>hf ⟨q,u,z⟩)] at q;cases q;exact st ko
end
mutual
def xO:D->Bool
 | .non=>true
 | .bl _=>true
 | .int _=>true
 | .str _=>true
 | .tup ds=>xP ds
 | .raw _=>false
 | .exc _=>false
 | .scr _=>false
 | .lst _=>false
 | .dct _ _=>false
 | .dci _ _=>false
def xP:List D->Bool
 |[]=>true
 |d::ds=>xO d&&xP ds
end
def nH(d:D):M D:=if xO d then aa d else af
def OwnAt(σ:St)(ρ:cp)(b:Addr):Prop:=∃(i:Nat) (c:C),ρ[i]? =some (some (Sl.ow c))/\σ[i]? =some (some (V.ref b))
section
variable{K:QZ}{F H F' H':Hp}{σ:St}{ρ:cp}{h:Heap}{b:Addr}
def OwnAt.obj(S:StE K F H σ ρ)(p:OwnAt σ ρ b):F b=none/\∃o,H b=some o/\((∃x,o= .lst x)\/(∃x,o= .dT x)\/∃x,o= .dK x):=by
 obtain⟨i,c,h1,h2⟩:=p;obtain⟨v,h3,a,o,rfl,h4,h5,h6⟩:=S.den i _ h1;rw[h3] at h2;cases h2;refine⟨h5,o,h4,?_⟩;cases c with
 |lst ds=>obtain⟨vs,rfl,_⟩:=h6;exact .inl ⟨_,rfl⟩
 |dct ks ds=>obtain⟨vs,rfl,_⟩:=h6;exact .inr (.inl ⟨_,rfl⟩)
 |dci ks ds=>obtain⟨vs,rfl,_⟩:=h6;exact .inr (.inr ⟨_,rfl⟩)
open Classical in
noncomputable def fA(σ:St)(ρ:cp)(H1 F:Hp):Hp:=λb=>if OwnAt σ ρ b then H1 b else F b
open Classical in
def xN(S:StE K F H σ ρ):Same F (fA σ ρ H1 F):=λb u e=>by
 unfold fA;rw[XH (λp=>by rw[(OwnAt.obj S p).1] at e;cases e)];exact e
open Classical in
def AX(S:StE K F H σ ρ):StE K (fA σ ρ (refA h (OwnAt σ ρ) H) F) (refA h (OwnAt σ ρ) H) σ (wc ρ):=by
 refine⟨λb u e=>?_,λj sl e=>?_⟩
 ·unfold fA at e;split at e
  ·exact e
  ·rename_i hp;unfold refA;rw[XH hp];exact S.fh b u e
 ·unfold wc at e;rw[Q1] at e;cases q:ρ[j]? with
  |none=>rw[q] at e;cases e
  |some x=>
   rw[q] at e;cases x with
   |none=>cases e
   |some y=>
    cases y with
    |fz d=>
     cases e;obtain⟨v,h1,h2⟩:=S.den j _ q;exact⟨v,h1,Den.mono (xN S) h2⟩
    |ow c=>
     cases e;obtain⟨v,h1,a,o,rfl,h4,h5,h6⟩:=S.den j _ q;refine⟨_,h1,DenC.den (ob:=(h.get? a).getD {cls:= .none,data:= .fields #[]}) h6 (xN S) ?_⟩;have hp:OwnAt σ ρ a:=⟨j,c,q,h1⟩
     unfold fA refA;rw[XG hp,XG hp,h4];rfl
open Classical in
def uh(S:StE K F H σ ρ)(E:Ext (fA σ ρ (refA h (OwnAt σ ρ) H) F) (refA h (OwnAt σ ρ) H) F' H'):
 Ext F H (λb=>if OwnAt σ ρ b then none else F' b) (unA (OwnAt σ ρ) H')/\∀b,OwnAt σ ρ b->∀o u,H' b=some (.frz o u)->(∃k,u= .dT k)\/∃k,u= .dK k:=by
 have NN:∀b,OwnAt σ ρ b->∃o,H b=some o/\H' b=some (mI ((h.get? b).getD {cls:= .none,data:= .fields #[]}) o)/\((∃x,o= .lst x)\/(∃x,o= .dT x)\/∃x,o= .dK x):=λb hp=>by
  obtain⟨_,o,h1,h2⟩:=OwnAt.obj S hp;refine⟨o,h1,E.hh b _ ?_,h2⟩;unfold refA;rw[XG hp,h1];rfl
 refine⟨⟨λb o e=>?_,λb u e=>?_,λb u e=>?_,λb hb=>?_⟩,λb hp o u e=>?_⟩
 ·unfold unA;by_cases hp:OwnAt σ ρ b
  ·obtain⟨o',h1,h2,h3⟩:=NN b hp;rw[e] at h1;cases h1;rw[XG hp,h2];rcases h3 with⟨x,rfl⟩ | ⟨x,rfl⟩ | ⟨x,rfl⟩<;>rfl
  ·rw[XH hp];refine E.hh b o ?_;unfold refA;rw[XH hp];exact e
 ·have hp:¬OwnAt σ ρ b:=λp=>by rw[(OwnAt.obj S p).1] at e;cases e
  show (if OwnAt σ ρ b then none else F' b)=_;rw[XH hp];refine E.ff b u ?_;unfold fA;rw[XH hp];exact e
 ·have e:(if OwnAt σ ρ b then none else F' b)=some u:=e;split at e
  ·cases e
  ·rename_i hp;unfold unA;rw[XH hp];exact E.fh b u e
 ·show (if OwnAt σ ρ b then none else F' b)=F b\/_;by_cases hp:OwnAt σ ρ b
  ·rw[XG hp];exact .inl (OwnAt.obj S hp).1.symm
  ·rw[XH hp];have e1:refA h (OwnAt σ ρ) H b=H b:=by unfold refA;rw[XH hp]
   have e2:fA σ ρ (refA h (OwnAt σ ρ) H) F b=F b:=by unfold fA;rw[XH hp]
   rcases E.new b (by rw[e1];exact hb) with q | q
   ·exact .inl (q.trans e2)
   ·rw[e1] at q;exact .inr q
 ·obtain⟨o',h1,h2,h3⟩:=NN b hp;rw[e] at h2;rcases h3 with⟨x,rfl⟩ | ⟨x,rfl⟩ | ⟨x,rfl⟩
  ·cases h2
  ·cases h2;exact .inl ⟨_,rfl⟩
  ·cases h2;exact .inr ⟨_,rfl⟩
open Classical in
mutual
def ue(S:StE K F H σ ρ)(E:Ext (fA σ ρ (refA h (OwnAt σ ρ) H) F) (refA h (OwnAt σ ρ) H) F' H'):∀{d:D}{v:V},xO d=true->Den K F' d v->Den K (λb=>if OwnAt σ ρ b then none else F' b) d v
 | .non,_,_,q=>q
 | .bl _,_,_,q=>q
 | .int _,_,_,q=>q
 | .str _,_,_,q=>q
 | .tup ds,_,f,⟨a,vs,h1,h2,h3,h4⟩=>by
   refine⟨a,vs,h1,?_,qo S E ?_ h3,h4⟩
   ·show (if OwnAt σ ρ a then none else F' a)=_;rw[XH,h2];intro hp;obtain⟨_,o,k1,k2⟩:=OwnAt.obj S hp;have k3:fA σ ρ (refA h (OwnAt σ ρ) H) F a=some (mI ((h.get? a).getD {cls:= .none,data:= .fields #[]}) o):=by
     unfold fA refA;rw[XG hp,XG hp,k1];rfl
    have k4:=E.ff a _ k3;rw[h2] at k4;rcases k2 with⟨x,rfl⟩ | ⟨x,rfl⟩ | ⟨x,rfl⟩<;>cases k4
   ·exact f
 | .raw _,_,f,_=>by cases f
 | .exc _,_,f,_=>by cases f
 | .scr _,_,f,_=>by cases f
 | .lst _,_,f,_=>by cases f
 | .dct _ _,_,f,_=>by cases f
 | .dci _ _,_,f,_=>by cases f
def qo(S:StE K F H σ ρ)(E:Ext (fA σ ρ (refA h (OwnAt σ ρ) H) F) (refA h (OwnAt σ ρ) H) F' H'):∀{ds:List D}{vs:List V},xP ds=true->DenL K F' ds vs->DenL K (λb=>if OwnAt σ ρ b then none else F' b) ds vs
 |[],_,_,q=>q
 |d::ds,_,f,⟨v,r,h1,h2,h3⟩=>by
  unfold xP at f;rw[Q6] at f;exact⟨v,r,h1,ue S E f.1 h2,qo S E f.2 h3⟩
end
end
section
variable{X:Cx}{Xw:Nat->Hp->Prop}{e:Expr}{δ:DE}{τ:DT}
def qN(I:Inv X f8 σ H s)(S:StE X.K F H σ ρ)(b:Addr)(p:OwnAt σ ρ b)(o:Obj)(u:HO):X.X8 b≠some (.frz o u):=λz=>by
 obtain⟨_,o',k1,k2⟩:=OwnAt.obj S p;have:=I.base.frzs b o u z;rw[k1] at this;rcases k2 with⟨x,rfl⟩ | ⟨x,rfl⟩ | ⟨x,rfl⟩<;>cases this
def oA(m:M α):noex m=af\/∃a,m=aa a/\noex m=aa a:=by
 rcases m.cs with h | ⟨n,h⟩ | ⟨a,h⟩
 ·subst h;exact .inl rfl
 ·subst h;exact .inl rfl
 ·subst h;exact .inr ⟨a,rfl,rfl⟩
def B_(h:pE X Xw e τ):pE X Xw e (λρ=>noex (τ (wc ρ))):=λf8 s σ H Q I ⟨F,ρ,S,w⟩=>by
 classical
 rcases oA (τ (wc ρ)) with q | ⟨b,q,q2⟩
 ·have w:WPB Xw F H (noex (τ (wc ρ))) Q:=w;rw[q] at w;exact w.elim
 ·have w:WPB Xw F H (noex (τ (wc ρ))) Q:=w;rw[q2] at w;refine b7 (h f8 s σ _ (λb' H'=>Q b' (unA (OwnAt σ ρ) H')/\∀c,OwnAt σ ρ c->∀o u,H' c=some (.frz o u)->(∃k,u= .dT k)\/∃k,u= .dK k) (Inv.refA I) ⟨_,_,AX S,?_⟩) λb' s' ⟨H',I',q1,q3⟩=>⟨_,Inv.unA I' (qN I S) q3,q1⟩
  rw[q];intro H' F' E;obtain⟨E1,q3⟩:=uh S E;exact⟨w _ _ E1,q3⟩
def Kx(h:PD X Xw e δ):PD X Xw e (λρ=>noex (δ (wc ρ))>>=nH):=λf8 s σ H Q I ⟨F,ρ,S,w⟩=>by
 classical
 rcases oA (δ (wc ρ)) with q | ⟨d,q,q2⟩
 ·have w:WP X.K Xw F H (noex (δ (wc ρ))>>=nH) Q:=w;rw[q] at w;exact w.elim
 ·have w:WP X.K Xw F H (noex (δ (wc ρ))>>=nH) Q:=w;rw[q2,au] at w;unfold nH at w;split at w
  ·rename_i hf;refine b7 (h f8 s σ _ (λv H'=>Q v (unA (OwnAt σ ρ) H')/\∀c,OwnAt σ ρ c->∀o u,H' c=some (.frz o u)->(∃k,u= .dT k)\/∃k,u= .dK k) (Inv.refA I) ⟨_,_,AX S,?_⟩) λb' s' ⟨v,H',I',rv,q1,q3⟩=>⟨v,_,Inv.unA I' (qN I S) q3,rv,q1⟩
   rw[q];intro v H' F' E dn;obtain⟨E1,q3⟩:=uh S E;exact⟨w _ _ _ E1 (ue S E hf dn),q3⟩
  ·exact w.elim
end
abbrev DF:=cp->M C
def WPF(K:QZ)(Xw:Nat->Hp->Prop)(F H:Hp)(m:M C)(Q:VK):Prop:=
 match m with
 |none=>False
 |some (.ok c)=>∀a o H' F',Ext F H F' H'->H' a=some o->F' a=none->H a=none->DenC K F' c o->Q (.ref a) H'
 |some (.ex n)=>∀F' H',Ext F H F' H'->Xw n H'
def Qu(K:QZ)(Xw:Nat->Hp->Prop)(δ:DF):TE:=λσ H Q=>∃F ρ,StE K F H σ ρ/\WPF K Xw F H (δ ρ) Q
def NH(X:Cx)(Xw:Nat->Hp->Prop)(e:Expr)(δ:DF):Prop:=PE X e (Qu X.K Xw δ)
def CL(i:Nat)(δ:DF):DS:=λρ=>δ ρ>>=λc=>aa (.nx (ρ.set i (some (.ow c))))
def StOk.setFresh{K:QZ}(s:StOk K s0 X8 F H σ ρ)(E:Ext F H F' H')(ho:H' a=some o)(nF:F' a=none)(n:H a=none)(h:DenC K F' c₀ o):
 StOk K s0 X8 F' H' (σ.set i (some (.ref a))) (ρ.set i (some (.ow c₀))):=by
 have hle:=s.len;have get:∀(j:Nat) (sl:Sl),(ρ.set i (some (.ow c₀)))[j]? =some (some sl)->(j=i/\i<ρ.length/\sl= .ow c₀)\/(j≠i/\ρ[j]? =some (some sl)):=λj sl e=>by
  by_cases hj:j=i
  ·subst hj;have hi:j<ρ.length:=by
    have:=(Q4.mp e).1;simpa using this
   rw[Rh hi] at e;cases e;exact .inl ⟨rfl,hi,rfl⟩
  ·rw[Q7 (R3 hj)] at e;exact .inr ⟨hj,e⟩
 have old:∀(j:Nat) (c:C) (b:Addr),ρ[j]? =some (some (.ow c))->σ[j]? =some (some (.ref b))->b≠a:=λj c b e e' z=>by
  obtain⟨u,h1,b',o,h2,h3,_⟩:=s.st.den j _ e;rw[h1] at e';cases e';cases h2;rw[z,n] at h3;cases h3
 refine⟨s.ext.trans E,⟨E.fh,λj sl e=>?_⟩,by simp[hle],λj c b e e'=>?_,λj k c c' b e1 e2 e3 e4=>?_⟩
 ·rcases get j sl e with⟨rfl,hi,rfl⟩ | ⟨hj,e⟩
  ·exact⟨.ref a,by rw[Rh (by omega)],a,_,rfl,ho,nF,h⟩
  ·obtain⟨u,h1,h2⟩:=s.st.den j sl e;exact⟨u,by rw[Q7 (R3 hj)];exact h1,h2.ext E⟩
 ·rcases get j _ e with⟨rfl,hi,_⟩ | ⟨hj,e⟩
  ·rw[Rh (by omega)] at e';cases e';exact Same.free s.ext.hh n
  ·rw[Q7 (R3 hj)] at e';exact s.own j c b e e'
 ·rcases get j _ e1 with⟨rfl,hi,_⟩ | ⟨hj,e1⟩
  ·rw[Rh (by omega)] at e3;cases e3;rcases get k _ e2 with⟨rfl,_,_⟩ | ⟨hk,e2⟩
   ·rfl
   ·rw[Q7 (R3 hk)] at e4;exact XN rfl (old k c' a e2 e4)
  ·rcases get k _ e2 with⟨Mw,hi,_⟩ | ⟨hk,e2⟩
   ·rw[Mw,Rh (by omega)] at e4;cases e4;rw[Q7 (R3 hj)] at e3;exact XN rfl (old j c a (by assumption) e3)
   ·rw[Q7 (R3 hj)] at e3;rw[Q7 (R3 hk)] at e4;exact s.sep j k c c' b e1 e2 e3 e4
def WPF.mono{K:QZ}(h:WPF K Xw F H m Q)(k:∀v H',Q v H'->Q' v H'):WPF K Xw F H m Q':=by
 match m,h with
 |none,h=>exact h
 |some (.ok d),h=>exact λa o H' F' e h1 h2 h3 h4=>k _ _ (h a o H' F' e h1 h2 h3 h4)
 |some (.ex n),h=>exact h
def WPF.ext{K:QZ}(e:Ext F H F1 H1)(h:WPF K Xw F H m Q):WPF K Xw F1 H1 m Q:=by
 match m,h with
 |none,h=>exact h
 |some (.ok d),h=>exact λa o H' F' e' h1 h2 h3 h4=>h a o H' F' (e.trans e') h1 h2 (Same.free e.hh h3) h4
 |some (.ex n),h=>exact λF2 H2 e2=>h F2 H2 (e.trans e2)
def WPF.bind{K:QZ}(h:WPF K Xw F H (m>>=k) Q):WP K Xw F H m λv H1=>∃F1 d,Ext F H F1 H1/\Den K F1 d v/\WPF K Xw F1 H1 (k d) Q:=by
 match m,h with
 |none,h=>exact h
 |some (.ok d),h=>exact λv H2 F2 e2 q=>⟨F2,d,e2,q,WPF.ext e2 (show WPF K Xw F H (k d) Q from h)⟩
 |some (.ex n),h=>exact h
section
variable{X:Cx}{Xw:Nat->Hp->Prop}{e k v a b:Expr}{es:List Expr}{δ:DF}{pos pos':Pos}{x:Str}{i:Nat}
def Cj(hN:X.N.Nodup)(hi:X.N[i]? =some x)(hx:Loc X.env.scope x)(he:NH X Xw e δ)(hf:X.fn x=true\/X.env.scope.names.lookup x=some .local:=by first | exact .inl rfl | exact .inr rfl)
 (hs:VJ [.Name x pos'] e pos.line X.env=pure false:=by rfl):
 fQ X Xw (.Assign [.Name x pos'] e pos) (CL i δ):=λs0 X8=>PS.weak (oW he (ba hN hi hx hf) hs) λD σ H ⟨F,ρ,s,w⟩=>by
 refine⟨F,ρ,s.st,?_⟩;unfold CL at w
 match δ ρ,w with
 |none,w=>exact w
 |some (.ok c),w=>exact λa o H' F' E h1 h2 h3 h4=>w _ F' H' (s.setFresh E h1 h2 h3 h4)
 |some (.ex n),w=>exact λF' H' e'=>w F' H' (s.ext.trans e')
def Jq{a:Addr}{y v:V}(hu:A.units+1<cLine)(I:Inv X f8 σ H s)(g:DPut H a y v H')(ry:RelV y u)(rv:RelV v r)(h:∀s',Inv X f8 σ H' s'->Q () s'):
 wpAny (model X.prog X.w) A (dictSet a u r) Q E s:=by
 rcases g with⟨az,k,e,ey,l,eH⟩ | ⟨az,k,b,e,ey,eb,l,eH⟩
 ·subst ey eH;obtain⟨z,hd,vs,rel,dd⟩:=FH I.hok e;have hz:vs.length<=Q_:=by rw[<-rel.length];exact z
  have hl:(putK az k v).length<=Q_:=by have:=eh az k v;omega
  refine wpAny_dictSet_pairs (lW ry) dd λh' AJ hs=>h _ ?_;have he:∃q,h'.get? a=some q:=let ⟨q,_,_,hq,_⟩:=AJ;⟨q,hq⟩
  exact jQ I (by rw[e];exact Td) hs he (AO hl hd (rel.put k rv) AJ)
 ·subst ey eH;cases (show u=Rc b from ry);obtain⟨z,hd,xs,rel,dd⟩:=AQ I.hok e;have hz:xs.length<=Q_:=by rw[<-SK rel];exact z
  have hl:(putK az k v).length<=Q_:=by have:=eh az k v;omega
  refine wpAny_dictSet_heap (by exact(show A.units<cLine by omega)) (g0 I.hok eb) dd λh' AJ hs=>h _ ?_;obtain⟨q,es,ep,hq,h2,h3,h4,_,h5⟩:=AJ;refine jQ I (by rw[e];exact Td) hs ⟨q,hq⟩ ⟨hl,hd,_,(rel.put k eb rv).keeps λc ys ec=>?_,q,es,ep,hq,h2,h3,h4,h5⟩;rw[ay (BK ec e (λz=>nomatch z))];exact ec
end
section
variable{X:Cx}{Xw:Nat->Hp->Prop}{e k v a b:Expr}{es:List Expr}{δk δv δa δb:DE}{pos p:Pos}{x:Str}{i:Nat}
def AN(hu:X.A.units+1<cLine)(h0:∀(H:Hp) (h:Heap),So<h.objs.size->ObjOk X.prog X.w H (h.push {cls:= .type "dict",data:= .dict #[]}) h.objs.size o0)(hk:PE X k tk)(hv:PE X v tv):
 PE X (.Dict [some k] [v] pos) (λσ H Q=>∀p,H p=none->tk σ (upd H p o0) λy H1=>tv σ H1 λz H2=>∃H3,DPut H2 p y z H3/\Q (.ref p) H3):=by
 intro f8 s σ H Q I q;have hn:=I.hok.fresh (Q0 s.heap.objs.size);have I1:=I.laid (t':=s.toks) (λ_ _ q=>QO _ q) (Q0 _) (h0 _ s.heap I.big);refine wpAny_Dict_any rfl rfl (by simp) (by simp) (b7 (Cg hk hv EY f8 _ σ _ (λps H2=>∃y z H3,ps=[(y,z)]/\DPut H2 s.heap.objs.size y z H3/\Q (.ref s.heap.objs.size) H3) I1 ?_) λws s2 ⟨ps,H2,I2,rel,y,z,H3,ep,g,q2⟩=>?_)
 ·refine ?_;have:=q _ hn;show tk σ _ λy H1=>tv σ H1 λz H2=>∃y' z' H3,[(y,z)]=[(y',z')]/\DPut H2 s.heap.objs.size y' z' H3/\Q (.ref s.heap.objs.size) H3;have e:(λ(y:V) (H1:Hp)=>tv σ H1 λz H2=>∃y' z' H3,[(y,z)]=[(y',z')]/\DPut H2 s.heap.objs.size y' z' H3/\Q (.ref s.heap.objs.size) H3)=(λy H1=>tv σ H1 λz H2=>∃H3,DPut H2 s.heap.objs.size y z H3/\Q (.ref s.heap.objs.size) H3):=by
   funext y H1;congr 1;funext z H2;refine propext ⟨λ⟨y',z',H3,ee,r⟩=>?_,λ⟨H3,r⟩=>⟨y,z,H3,rfl,r⟩⟩;cases ee;exact⟨H3,r⟩
  rw[e];exact this
 ·subst ep;cases rel with
  | @cons a b as bs h t=>
    cases t;obtain⟨r1,r2⟩:=h;unfold storeAll;rw[VU];refine QL (QL (Jq hu I2 g r1 r2 λs3 I3=>?_));refine QP ?_;show wpAny _ _ (forIn ([]:List (Value×Value)) T5 _) _ _ _;rw[List.forIn_nil];exact QP ⟨V.ref s.heap.objs.size,_,I3,rfl,q2⟩
def ql(k v:D):M C:=match i6 k with
 |some kk=>aa (.dct [kk] [v])
 |none=>af
def zP(hu:X.A.units+64<cLine)(hk:PD X Xw k δk)(hv:PD X Xw v δv):NH X Xw (.Dict [some k] [v] pos) (λρ=>δk ρ>>=λx=>δv ρ>>=λy=>ql x y):=
 PE.weak (AN (o0:= .dT []) (by omega) (λH h hb=>t_ h hb) hk hv) λσ H Q ⟨F,ρ,s,w⟩ q hq=>by
  have e0:=Ext.free (o:= .dT []) s.fh hq;refine⟨F,ρ,s.ext e0,?_⟩;have w:WPF X.K Xw F H (δk ρ>>=λx=>δv ρ>>=λy=>ql x y) Q:=w
  match pJ:δk ρ,w with
  |none,w=>exact w
  |some (.ex n),w=>exact λF' H' e'=>w F' H' (e0.trans e')
  |some (.ok kd),w=>
   intro y H1 F1 e1 q1;refine⟨F1,ρ,(s.ext e0).ext e1,?_⟩;have w:WPF X.K Xw F H (δv ρ>>=λy=>ql kd y) Q:=w
   match J9:δv ρ,w with
   |none,w=>exact w
   |some (.ex n),w=>exact λF' H' e'=>w F' H' (e0.trans (e1.trans e'))
   |some (.ok vd),w=>
    intro z H2 F2 e2 q2;have w3:WPF X.K Xw F H (ql kd vd) Q:=w;clear w;unfold ql at w3;cases Ds:i6 kd with
    |none=>rw[Ds] at w3;exact w3.elim
    |some kk=>
     rw[Ds] at w3;have E:=e1.trans e2;have MB:H2 q=some (.dT []):=E.hh _ _ aJ;have NZ:F2 q=none:=by
      have:=E.old aJ (λ_ z=>nomatch z);rw[this];exact Same.free s.fh hq
     unfold i6 at Ds;split at Ds
     ·rename_i es;obtain⟨b,ws,rfl,k2,k3,_⟩:=Den.mono e2.ff q1;have e5:=j3 Ds k3;subst e5;refine⟨_,DPut.t MB (e2.fh _ _ k2) (by rw[SA];decide),?_⟩;refine w3 q (.dT (putK [] kk z)) _ F2 ⟨λc u hc=>?_,(e0.trans E).ff,λc u hc=>?_,(e0.trans E).new⟩ aJ NZ hq ⟨[z],rfl, .cons q2 .nil,rfl,show 1<=lim by decide⟩
      ·rw[ay (λzz=>by rw[zz,hq] at hc;cases hc)];exact(e0.trans E).hh c u hc
      ·rw[ay (λzz=>by rw[zz,NZ] at hc;cases hc)];exact e2.fh c u hc
     ·cases Ds
def ro{K:QZ}{d k:D}{x y:V}(s:Same F H)(hd:Den K F d x)(hk:Den K F k y)(e:Ah d k=some o):
 ∃a ov,x= .ref a/\jk H a y ov/\ov.isSome=o.isSome/\∀d',o=some d'->∃v,ov=some v/\Den K F d' v:=by
 obtain⟨a,ov,h1,h2,h3,h4⟩:=xC (σ:=[some x]) (ρ:=[some (.fz d)]) (i:=0) ⟨s,λi sl q=>by
  match i,q with
  |0,q=>cases q;exact⟨x,rfl,hd⟩
  |i+1,q=>simp at q⟩ rfl hk e
 cases h1;exact⟨a,ov,rfl,h2,h3,h4⟩
def jY(neg:Bool)(k d:D):M D:=match Ah d k with
 |some o=>aa (.bl (if neg then !o.isSome else o.isSome))
 |none=>af
def Ii(neg:Bool):R2:=λy x H Q=>∃a o,x= .ref a/\jk H a y o/\Q (.bl (if neg then !o.isSome else o.isSome)) H
def Hw(hu:X.A.units+64<cLine):OpR X (R_ .In) (Ii false):=λf8 s σ H y x v u Q I ry rx ⟨a,o,ex,g,q⟩=>by
 subst ex;obtain rfl:u=Rc a:=rx;exact Jp (by omega) I g ry λs' I'=>⟨.bl o.isSome,_,I',rfl,q⟩
def zM(hu:X.A.units+64<cLine):OpR X (R_ .NotIn) (Ii true):=λf8 s σ H y x v u Q I ry rx ⟨a,o,ex,g,q⟩=>by
 subst ex;obtain rfl:u=Rc a:=rx;exact DL (by omega) I g ry λs' I'=>⟨.bl (!o.isSome),_,I',rfl,q⟩
def yl{K:QZ}:vO K (Ii neg) (jY neg):=λXw F H y x dk dd Q s hk hd w=>by
 unfold jY at w;cases he:Ah dd dk with
 |none=>rw[he] at w;exact w.elim
 |some o=>
  rw[he] at w;obtain⟨a,ov,h1,h2,h3,_⟩:=ro s hd hk he;refine⟨a,ov,h1,h2,?_⟩;rw[h3];exact WP.now w s rfl
def Ia(hu:X.A.units+64<cLine)(ha:PD X Xw a δa)(hb:PD X Xw b δb)(hm:RX .In b=false:=by rfl):pE X Xw (.Compare a [.In] [b] pos) (dS (d2 (jY false) δa δb)):=fF (Hw hu) yl ha hb hm
def qU(hu:X.A.units+64<cLine)(ha:PD X Xw a δa)(hb:PD X Xw b δb)(hm:RX .NotIn b=false:=by rfl):pE X Xw (.Compare a [.NotIn] [b] pos) (dS (d2 (jY true) δa δb)):=fF (zM hu) yl ha hb hm
def nJ(d k:D):M D:=match Ah d k with
 |some (some v)=>aa v
 |_=>af
def sy(hu:X.A.units+64<cLine)(ha:PD X Xw a δa)(hb:PD X Xw b δb)(hs:Gn b:=by intro _ _;rfl):PD X Xw (.Subscript a b pos) (d2 nJ δa δb):=
 PE.weak (ET (by omega) ha hb hs) λσ H Q ⟨F,ρ,s,w⟩=>by
  refine⟨F,ρ,s,WP.mono (WP.bind w) λx H1 ⟨F1,d,e1,q1,w1⟩=>?_⟩;refine⟨F1,ρ,s.ext e1,WP.mono (WP.bind w1) λy H2 ⟨F2,k,e2,q2,w2⟩=>?_⟩;unfold nJ at w2;cases he:Ah d k with
  |none=>rw[he] at w2;exact w2.elim
  |some o=>
   cases o with
   |none=>rw[he] at w2;exact w2.elim
   |some d'=>
    rw[he] at w2;obtain⟨a,ov,h1,h2,h3,h4⟩:=ro e2.fh (Den.mono e2.ff q1) q2 he;obtain⟨v,rfl,hd⟩:=h4 d' rfl;exact⟨a,v,h1,h2,WP.now w2 e2.fh hd⟩
end
section
variable{X:Cx}{f8:List (Addr×Obj)}{σ:St}{H:Hp}{s:QT}{h':Heap}
def Inv.turnedLaid{ch:List Addr}(I:Inv X f8 σ H s)(k:∀b q,b∉ch->s.heap.get? b=some q->h'.get? b=some q)(hf:∀b∈ch,pD X f8 H b)(hp:s.heap.objs.size<=a)(new:ObjOk X.prog X.w (upd H a o) h' a o):
 Inv X f8 σ (upd H a o) {s with heap:=h',toks:=t'}:=by
 have hn:=I.hok.fresh hp;have F8:∀b u,H b=some u->b∉ch:=λb u e z=>by rw[(hf b z).1] at e;cases e
 refine I.step (λb hb=>?_) (λb q _ _ hc e _=>k b q hc e) (λb q _ _ hc e _=>⟨q.slots,k b q hc e⟩) (λb q hc e n=>?_)
  (λb q hc e=>⟨q,k b q hc e⟩) (λb xs e=>?_) (λb q u e=>?_) (λb ps e=>⟨#[],?_⟩) (λm hm=>?_) (λb u e=>?_) I.bare
 ·obtain⟨f0,f1,f2,f3,f4,f5⟩:=hf b hb;exact⟨f3,f1,f4,f5⟩
 ·rw[ay (λz=>by rw[z] at e;exact XN (QY e) (Nat.not_lt.mpr hp))];exact n
 ·rw[ay (bf e hn)];exact e
 ·rw[ay (bf e hn)];exact e
 ·rw[ay (bf e hn),e];simp
 ·obtain⟨q,es,ep,ho,r⟩:=hm;exact⟨q,es,ep,k _ q (λz=>(hf _ z).2.1 rfl) ho,r⟩
 ·by_cases hb:b=a
  ·subst hb;rw[aJ] at e;cases e;exact new
  ·rw[ay hb] at e;refine(I.hok b u e).stay (λc v hc q=>k c v ?_ q) (λc q=>by rw[ay (bf q hn)];exact q) λc xs q=>by rw[ay (bf q hn)];exact q
   rcases hc with z | z
   ·rw[z];exact F8 b u e
   ·exact F8 c _ z
def Inv.turnedL{ch:List Addr}(I:Inv X f8 σ H s)(k:∀b q,b∉ch->s.heap.get? b=some q->h'.get? b=some q)(hf:∀b∈ch,pD X f8 H b):Inv X f8 σ H {s with heap:=h',toks:=t'}:=by
 have F8:∀b u,H b=some u->b∉ch:=λb u e z=>by rw[(hf b z).1] at e;cases e
 refine I.step (λb hb=>?_) (λb q _ _ hc e _=>k b q hc e) (λb q _ _ hc e _=>⟨q.slots,k b q hc e⟩) (λb q hc e n=>n)
  (λb q hc e=>⟨q,k b q hc e⟩) (λb xs e=>e) (λb q u e=>e) (λb ps e=>⟨#[],by rw[e];simp⟩) (λm hm=>?_) (λb u e=>?_) I.bare
 ·obtain⟨f0,f1,f2,f3,f4,f5⟩:=hf b hb;exact⟨f3,f1,f4,f5⟩
 ·obtain⟨q,es,ep,ho,r⟩:=hm;exact⟨q,es,ep,k _ q (λz=>(hf _ z).2.1 rfl) ho,r⟩
 ·refine(I.hok b u e).stay (λc v hc q=>k c v ?_ q) (λc q=>q) λc xs q=>q;rcases hc with z | z
  ·rw[z];exact F8 b u e
  ·exact F8 c _ z
end
def ND(K:QZ)(a:Addr):It:=
 ⟨λi H=>∃xs x,SqL K H a xs/\xs[i]? =some x,λi H x H'=>∃p,x= .ref p/\H p=none/\∃v,(∀xs,SqL K H a xs->xs[i]? =some v)/\H'=upd H p (.tup [.int (i:Int),v]),λi H=>∃xs,SqL K H a xs/\xs.length<=i⟩
def z9{K:QZ}(l e it:Addr)(Oa:e≠it):
 Turn P w K (.Tuple es x1 tp) (ND K l) [e,it] e (λi h=>∃old,IsEnum h e it (i:Int) old/\h.IsListIter it l i) where
 mem:=by simp
 obj:=λi h ⟨old,CW,xi⟩ b hb=>by
  rcases Q9.mp hb with z | z
  ·subst z;exact⟨_,CW,λv z=>nomatch z⟩
  ·have z:b=it:=by simpa using z
   subst z;obtain⟨o,e1,c,d⟩:=xi;exact⟨o,e1,λv z=>by rw[d] at z;cases z⟩
 keep:=λi h h' ⟨old,CW,xi⟩ k=>⟨old,k e (by simp) _ CW,xi.at λo q=>k it (by simp) o q⟩
 item:=by
  intro X hP hw hK hc i f8 s σ H E I hf st hg;subst hP hw hK;obtain⟨old,CW,xi⟩:=st;obtain⟨xs,x,hq,hx⟩:=hg;obtain⟨aE,rv,p,hz⟩:=I.list hq;obtain⟨u,hu,ru⟩:=rv.get hx;refine wpAny_pyNext_enum_item CW xi p.isList (by simpa using hu) Oa λh1 k1 k2 k3 k4 k5=>?_;refine⟨_,rfl,wpAny_letOwnedTupleGo_enum k1 λh2 m1 m2=>?_⟩;have jv:s.heap.objs.size≠e:=RT (QY CW);have Nx:h2.get? s.heap.objs.size=some {cls:= .type "tuple",data:= .seq #[.int i s.toks,u]}:=(m2.2 _ jv).trans k3;have keep:∀b q,b∉[e,it]->s.heap.get? b=some q->h2.get? b=some q:=λb q hb e1=>by
   have N5:b≠e:=λz=>hb (by simp[z]);have Md:b≠it:=λz=>hb (by simp[z]);exact(m2.2 b N5).trans (k5 b q N5 Md e1)
  have I2:Inv X f8 σ (upd H s.heap.objs.size (.tup [.int (i:Int),x])) {s with heap:=h2,toks:=s.toks+1}:=by
   refine Inv.turnedLaid I keep hf (Q0 _) ⟨?_,[.int i s.toks,u], .cons ⟨_,rfl⟩ (.cons ru .nil),_,Nx,rfl,_,rfl⟩;rw[SA];show 2<=_;decide
  refine⟨.ref s.heap.objs.size,_,I2,rfl,⟨_,rfl,I.hok.fresh (Q0 _),x,λys hy=>by rw[I.list_inj hy hq];exact hx,rfl⟩,⟨u,?_,?_⟩,λb hb=>?_⟩
  ·have:((i+1:Nat):Int)=(i:Int)+1:=by push_cast;rfl
   rw[this];exact m1
  ·exact k2.at λo q=>(m2.2 it (R3 Oa)).trans q
  ·rw[ay (λz=>by
    rcases Q9.mp hb with y | y
    ·exact XN (QY CW) (by rw[<-y,z];exact RC _)
    ·have y:b=it:=by simpa using y
     obtain⟨o,q1,_⟩:=id xi;exact XN (QY q1) (by rw[<-y,z];exact RC _))]
   exact(hf b hb).1
 done:=by
  intro X hP hw hK hc i f8 s σ H E I hf st hg;subst hP hw hK;obtain⟨old,CW,xi⟩:=st;obtain⟨xs,hq,hx⟩:=hg;obtain⟨aE,rv,p,hz⟩:=I.list hq;have hl:=rv.length;exact wpAny_pyNext_enum_end (I.ok.hd hc) CW xi p.isList (by simp;omega) λh' eb=>⟨rfl,Inv.turnedL I (λb q hb e1=>eb b q (λz=>hb (by simp[z])) e1) λb hb=>hf b (QQ _ hb)⟩
 self:=λA i s Q E st h=>by
  obtain⟨old,CW,xi⟩:=st;exact wpAny_pyIter_enum CW h
def Bq{K:QZ}{F:Hp}(h:SqL K F a vs)(hd:DenL K F ds vs):ItD K F (ND K a) (ds.mapIdx λi d=> .tup [.int (i:Int),d]):=λF' H' i s1 s2=>by
 have hs:=Same.seq s2 (Same.seq s1 h);refine⟨λd e=>?_,λhl=>⟨vs,hs,by rw[List.length_mapIdx,hd.len] at hl;exact hl⟩⟩;rw[W5] at e;cases q:ds[i]? with
 |none=>rw[q] at e;cases e
 |some d0=>
  rw[q] at e;cases e;obtain⟨v,e1,q1⟩:=hd.get q;refine⟨⟨vs,v,hs,e1⟩,λx H'' ⟨p,y1,y2,u,y3,y4⟩=>?_⟩;subst y1 y4;have:=y3 vs hs;rw[e1] at this;cases this;have E:=Ext.lay (o:= .tup [.int (i:Int),v]) s2 y2;exact⟨_,E,p,_,rfl,aJ, .cons rfl (.cons (Den.mono E.ff (Den.mono s1 q1)) .nil),by show 2<=lim;decide⟩
section
variable{X:Cx}{Xw:Nat->Hp->Prop}{e:Expr}{es:List Expr}{δs:DA}{pos p tp:Pos}{x1:Nat}
def nE:List D->M (List D)
 |[.lst ds]=>aa (ds.mapIdx λi d=> .tup [.int (i:Int),d])
 |_=>af
def oR(hg:Gl X "enumerate")(hm:X.mg "enumerate"=none)(ha:jl X Xw [e] δs)(hs:Q8 [e] X.env=[(false,eval e X.env)]:=by rfl):vP X Xw (.Tuple es x1 tp) (.Call (.Name "enumerate" p) [e] [] pos) (λρ=>δs ρ>>=nE):=by
 intro f8 s σ H R I ⟨F,ρ,S,w⟩;refine Call_ (g7 I hg hm (show Rv "enumerate"=some (.type "enumerate") from rfl) (Sx (b7 (ha pos f8 s σ H (λvs H1=>∃F1 ds,Ext F H F1 H1/\DenL X.K F1 ds vs/\WPI X.K Xw F1 H1 (nE ds) R) I ⟨F,ρ,S,WPI.bindL w⟩) λus s1 ⟨vs,H1,I1,r1,F1,ds,e1,q1,w1⟩=>?_) hs rfl));unfold nE at w1;split at w1
 ·rename_i ds;obtain⟨v,rfl,h1⟩:=q1.one;obtain⟨a,xs,rfl,h2,h3,h4⟩:=h1;obtain⟨u,rfl,r2⟩:=r1.one;cases (show u=_ from r2);obtain⟨aE,rv,pl,hz⟩:=I1.list (SqL.of (K:=X.K) (e1.fh _ _ h2));refine call_enumerate_list pl.isList λh' k1 k2 k3 k4=>?_;refine wpAny_pyIter_enum k1 ?_;refine⟨s1.heap.objs.size+1,[s1.heap.objs.size+1,s1.heap.objs.size],_,_,H1,rfl,I1.kept λb o e=>k4 b o e,z9 a _ _ (RT (VR _)),⟨.none,k1,k2⟩,λb hb=>?_,w1 _ _ _ (Ext.refl e1.fh) (Bq (SqL.of h2) h3)⟩;have e:s1.heap.objs.size<=b:=by
   rcases Q9.mp hb with z | z
   ·rw[z];exact Wa _
   ·have z:b=s1.heap.objs.size:=by simpa using z
    rw[z];exact Q0 _
  exact I1.fpOk e (I1.hok.fresh e)
 ·exact w1.elim
end
def Ed:Key->D
 | .inl i=> .int i
 | .inr x=> .str x
def Fx(H:Hp)(d:Addr)(od:Obj)(i:Nat)(x:V):Prop:=
 (∃az k b,H d=some (.frz od (.dT az))/\(az.map (·.1))[i]? =some k/\x= .ref b/\H b=some (.tup (k.map kV)))\/
 ∃az k,H d=some (.frz od (.dK az))/\(az.map (·.1))[i]? =some k/\x=kV k
def NC(d:Addr)(od:Obj):It:=
 ⟨λi H=>(∃az,H d=some (.frz od (.dT az))/\i<az.length)\/∃az,H d=some (.frz od (.dK az))/\i<az.length,λi H x H'=>H'=H/\Fx H d od i x,
  λi H=>(∃az,H d=some (.frz od (.dT az))/\az.length<=i)\/∃az,H d=some (.frz od (.dK az))/\az.length<=i⟩
def mj{R:α->β->Prop}(h:∀a b,R a b->f a=g b):∀{l:List α}{m:List β},VQ R l m->l.map f=m.map g
 |_,_, .nil=>rfl
 |_,_, .cons r t=>by rw[QX,QX,h _ _ r,mj h t]
def gA:∀{l:List α}{m:List β}{i:Nat}{a:α},VQ R l m->l[i]? =some a->∃b,m[i]? =some b/\R a b
 |_,_,i,_, .nil,e=>by simp at e
 |_,_,0,_, .cons r t,e=>by simp at e;subst e;exact⟨_,rfl,r⟩
 |_,_,i+1,_, .cons r t,e=>by
  obtain⟨b,e1,e2⟩:=gA t (by simpa using e);exact⟨b,by simpa using e1,e2⟩
def zO{w:World}{κ:Type}[DecidableEq κ]{knd:KeyKind prog w κ}:∀{es:List Sn}{az:List (κ×Value)}{i:Nat}{kv:κ×Value},Pairs knd es az->az[i]? =some kv->∃e,es[i]? =some e/\knd.is kv.1 e.key=true:=by
 intro es az i kv h e;induction h generalizing i with
 |nil=>simp at e
 | @cons en QJ IJ Qp h1 h2 h3 ih=>
   cases i with
   |zero=>simp at e;subst e;exact⟨en,rfl,h1⟩
   |succ i=>
    obtain⟨q,e1,e2⟩:=ih (by simpa using e);exact⟨q,by simpa using e1,e2⟩
def Hg(h:nZ k u=true):RelV (kV k) u:=by
 rcases bJ h with⟨i,t,rfl,rfl⟩ | ⟨x,t,rfl,rfl⟩
 ·exact⟨t,rfl⟩
 ·exact⟨t,rfl⟩
def nB{σ:St}{H:Hp}(I:Inv X f8 σ H s)
 (h:(∃az,H d=some (.frz od (.dT az))/\n=az.length)\/∃az,H d=some (.frz od (.dK az))/\n=az.length):
 ∃es ep,(d==So)=false/\s.heap.get? d=some od/\od.ExactDict/\od.data= .dict es ep/\es.size=n/\∀i,i<n->∃e x,es[i]? =some e/\RelV x e.key/\Fx H d od i x:=by
 rcases h with⟨az,e,rfl⟩ | ⟨az,e,rfl⟩
 ·obtain⟨ho,z,lo,xs,rel,o,es,ep,h1,h2,h3,h4,h5⟩:=(show ObjOk X.prog X.w H s.heap d (.frz od (.dT az)) from I.hok d _ e)
  rw[ho] at h1;cases h1;have hl:es.size=az.length:=by
   rw[<-Q5,h4,QM];exact(SK rel).symm
  refine⟨es,ep,lo,ho,h2,h3,hl,λi hi=>?_⟩;obtain⟨q,e1,e2,e3,e4⟩:=gA rel (QN hi);refine⟨V5 (Tn (bc X.prog X.w)) q, .ref q.2.1,?_,rfl, .inl ⟨az,az[i].1,q.2.1,e,?_,rfl,e3⟩⟩
  ·rw[<-SQ,h4,Q1,e1];rfl
  ·rw[Q1,QN hi];rfl
 ·obtain⟨ho,z,lo,vs,rel,o,es,ep,h1,h2,h3,h4,h5,h6⟩:=(show ObjOk X.prog X.w H s.heap d (.frz od (.dK az)) from I.hok d _ e)
  rw[ho] at h1;cases h1;have hl:es.size=az.length:=by
   rw[<-Q5,h5.length];exact(SK rel).symm
  refine⟨es,ep,lo,ho,h2,h3,hl,λi hi=>?_⟩;obtain⟨q,e1,e2,e3⟩:=gA rel (QN hi);obtain⟨en,e4,e5⟩:=zO h5 e1;refine⟨en,kV az[i].1,by rw[<-SQ];exact e4,?_, .inr ⟨az,az[i].1,e,by rw[Q1,QN hi];rfl,rfl⟩⟩;rw[e2];exact Hg e5
def Aa{K:QZ}(d it:Addr)(od:Obj)(es:Array Sn)(ep:Nat)(fo:od.data= .dict es ep):
 Turn P w K tg (NC d od) [it] it (λi h=>h.IsKeyIter it d i es.size ep) where
 mem:=by simp
 obj:=λi h st b hb=>by
  have e:b=it:=by simpa using hb
  subst e;obtain⟨o,e,c,dd⟩:=st;exact⟨o,e,λv z=>by rw[dd] at z;cases z⟩
 keep:=λi h h' st k=>st.at λo e=>k it (by simp) o e
 item:=by
  intro X hP hw hK hc i f8 s σ H E I hf st hg;subst hP hw hK;obtain⟨n,hn,hi⟩:∃n,((∃az,H d=some (.frz od (.dT az))/\n=az.length)\/∃az,H d=some (.frz od (.dK az))/\n=az.length)/\i<n:=by
   rcases hg with⟨az,e,hi⟩ | ⟨az,e,hi⟩
   ·exact⟨_, .inl ⟨az,e,rfl⟩,hi⟩
   ·exact⟨_, .inr ⟨az,e,rfl⟩,hi⟩
  obtain⟨IJ,DP,lo,ho,hx,tL,hsz,hk⟩:=nB I hn;rw[fo] at tL;cases tL;obtain⟨en,x,e1,rx,ka⟩:=hk i hi;obtain⟨f0,f1,f2,f3,f4,f5⟩:=hf it (by simp);refine uH st ho fo e1 λh' jJ sb=>?_;have I1:Inv X f8 σ H {s with heap:=h'}:=I.turned (λb o hb e=>(sb.2 b hb).trans e) f0 f1 f3 f4 f5;obtain⟨o,e2,c,dd⟩:=id jJ;exact⟨_,rfl,nM e2 c dd (by decide) ⟨x,H,I1,rx,⟨rfl,ka⟩,jJ,λb hb=>(hf b hb).1⟩⟩
 done:=by
  intro X hP hw hK hc i f8 s σ H E I hf st hg;subst hP hw hK;obtain⟨n,hn,hi⟩:∃n,((∃az,H d=some (.frz od (.dT az))/\n=az.length)\/∃az,H d=some (.frz od (.dK az))/\n=az.length)/\n<=i:=by
   rcases hg with⟨az,e,hi⟩ | ⟨az,e,hi⟩
   ·exact⟨_, .inl ⟨az,e,rfl⟩,hi⟩
   ·exact⟨_, .inr ⟨az,e,rfl⟩,hi⟩
  obtain⟨IJ,DP,lo,ho,hx,tL,hsz,hk⟩:=nB I hn;rw[fo] at tL;cases tL;obtain⟨f0,f1,f2,f3,f4,f5⟩:=hf it (by simp);exact qm (I.ok.hd hc) st (by omega) ho fo λh' eb=>⟨rfl,I.turned (λb o hb e=>eb b o hb e) f0 f1 f3 f4 f5⟩
 self:=λ_ _ _ _ _ st h=>wpAny_pyIter_keyiter st h
def tupK(k:List Key):D:= .tup (k.map Ed)
def yk:Key->Bool
 | .inl _=>true
 | .inr x=>decide (x.length<=lim)
def lX:D->M (List D)
 | .dct ks _=>if ks.all (λk=>decide (k.length<=lim)&&k.all yk) then aa (ks.map tupK) else af
 | .dci ks _=>if ks.all yk then aa (ks.map Ed) else af
 |_=>af
def ux{K:QZ}(h:yk k=true):Den K F (Ed k) (kV k):=by
 cases k with
 |inl i=>exact rfl
 |inr x=>exact⟨rfl,XO h⟩
def qA{K:QZ}:∀{k:List Key},k.all yk=true->DenL K F (k.map Ed) (k.map kV)
 |[],_=>rfl
 |x::k,h=>by
  rw[Ur,Q6] at h;exact .cons (ux h.1) (qA h.2)
def Br{K:QZ}(hd:Den K F d (.ref a))(hF:∃u,F a=some (.frz ob u))(e:lX d=aa ds):ItD K F (NC a ob) ds:=λF' H' i s1 s2=>by
 unfold lX at e;split at e
 ·rename_i ks es;split at e
  ·rename_i hok;obtain rfl:=eL e;obtain⟨a',Qr,vs,z,h2,h3,h4,h5⟩:=hd;cases z;obtain⟨u,hu⟩:=hF;rw[h2] at hu;cases hu;have hh:=s2 _ _ (s1 _ _ h2);have hz:=iU (b:=vs) (by rw[h4];exact h3.len);have hl:(ks.zip vs).length=ks.length:=by rw[<-QM,hz]
   refine⟨λd e=>?_,λhle=> .inl ⟨_,hh,by rw[hl];simpa using hle⟩⟩;rw[Q1] at e;cases q:ks[i]? with
   |none=>rw[q] at e;cases e
   |some k=>
    rw[q] at e;cases e;have hi:=(Q4.mp q).1;refine⟨.inl ⟨_,hh,by rw[hl];exact hi⟩,λx H'' ⟨y1,y2⟩=>?_⟩;subst y1;have hk:=Rt.mp hok k (Rn q);rw[Q6] at hk;rcases y2 with⟨az,k',b,q1,q2,rfl,q3⟩ | ⟨az,k',q1,q2,rfl⟩
    ·rw[hh] at q1;cases q1;rw[hz,q] at q2;cases q2;have E:=Ext.tup s2 q3;exact⟨_,E,b,_,rfl,aJ,qA hk.2,by rw[QM];exact XO hk.1⟩
    ·rw[hh] at q1;cases q1
  ·exact(fk e).elim
 ·rename_i ks es;split at e
  ·rename_i hok;obtain rfl:=eL e;obtain⟨a',Qr,vs,z,h2,h3,h4,h5⟩:=hd;cases z;obtain⟨u,hu⟩:=hF;rw[h2] at hu;cases hu;have hh:=s2 _ _ (s1 _ _ h2);have hz:=iU (b:=vs) (by rw[h4];exact h3.len);have hl:(ks.zip vs).length=ks.length:=by rw[<-QM,hz]
   refine⟨λd e=>?_,λhle=> .inr ⟨_,hh,by rw[hl];simpa using hle⟩⟩;rw[Q1] at e;cases q:ks[i]? with
   |none=>rw[q] at e;cases e
   |some k=>
    rw[q] at e;cases e;have hi:=(Q4.mp q).1;refine⟨.inr ⟨_,hh,by rw[hl];exact hi⟩,λx H'' ⟨y1,y2⟩=>?_⟩;subst y1;have hk:=Rt.mp hok k (Rn q);rcases y2 with⟨az,k',b,q1,q2,rfl,q3⟩ | ⟨az,k',q1,q2,rfl⟩
    ·rw[hh] at q1;cases q1
    ·rw[hh] at q1;cases q1;rw[hz,q] at q2;cases q2;exact⟨F',Ext.refl s2,ux hk⟩
  ·exact(fk e).elim
 ·exact(fk e).elim
section
variable{X:Cx}{Xw:Nat->Hp->Prop}{tg l:Expr}{δ:DE}
def B9(h:PD X Xw l δ):vP X Xw tg l (λρ=>δ ρ>>=lX):=by
 intro f8 s σ H R I ⟨F,ρ,S,w⟩;refine b7 (h f8 s σ H (λv H1=>∃F1 d,Ext F H F1 H1/\Den X.K F1 d v/\WPI X.K Xw F1 H1 (lX d) R) I ⟨F,ρ,S,WPI.bind w⟩) λu s1 ⟨v,H1,I1,r1,F1,d,e1,q1,w1⟩=>?_;rcases(lX d).cs with z | ⟨n,z⟩ | ⟨ds,z⟩
 ·rw[z] at w1;exact w1.elim
 ·exfalso
  unfold lX at z;split at z
  ·split at z<;>cases z
  ·split at z<;>cases z
  ·cases z
 ·rw[z] at w1;obtain⟨a,ob,u',rfl,hF,hn⟩:∃a ob u',v= .ref a/\F1 a=some (.frz ob u')/\∃n,((∃az,H1 a=some (.frz ob (.dT az))/\n=az.length)\/∃az,H1 a=some (.frz ob (.dK az))/\n=az.length):=by
   unfold lX at z;split at z
   ·obtain⟨a,ob,vs,e,h2,_⟩:=q1;exact⟨a,ob,_,e,h2,_, .inl ⟨_,e1.fh _ _ h2,rfl⟩⟩
   ·obtain⟨a,ob,vs,e,h2,_⟩:=q1;exact⟨a,ob,_,e,h2,_, .inr ⟨_,e1.fh _ _ h2,rfl⟩⟩
   ·exact(fk z).elim
  obtain⟨n,hn⟩:=hn;cases (show u=_ from r1);obtain⟨es,ep,lo,ho,hx,hd,hsz,hk⟩:=nB I1 hn;refine qz lo ho hx hd ?_;refine⟨s1.heap.objs.size,[s1.heap.objs.size],_,_,H1,rfl,I1.kept (t':=s1.toks) λb o e=>QO _ e,Aa a _ ob es ep hd,⟨_,Q3 _ rfl,rfl,rfl⟩,λb hb=>?_,w1 _ _ _ (Ext.refl e1.fh) (Br q1 ⟨_,hF⟩ z)⟩;have e:b=s1.heap.objs.size:=by simpa using hb
  subst e;exact I1.fpOk (Q0 _) (I1.hok.fresh (Q0 _))
end
end L3
namespace L3
open PySem
section
variable{prog:Ru}{w:World}{K:Type}[DecidableEq K]{knd:HeapKind prog w K}{A:RQ}{E:Value->QT->Prop}{s:QT}
def o9(hu:knd.room A)(wj:knd.is s.heap k a)(hm:s.heap.DictOfH knd d xs)(hsz:xs.length<=Q_)
 (hQ:∀h',h'.DictOfH knd d (U5 xs k a v)->R9 d s.heap h'->Q () {s with heap:=h'}):wpAny (model prog w) A (VN d (.ref a) (knd.hash k) v) Q E s:=by
 obtain⟨o,es,ep,ho,hc,hd,he,Mt,hn⟩:=hm;unfold VN;refine SH (QL (wpAny_dictFind_heap hu wj ho hd he Mt hn (λD0=>?_) λj p hj=>?_))
 ·have e0:=atKey_none_of_get D0;have hz:es.size<=Q_:=by rw[WD he];exact hsz
  refine QL (W8 (wpAny_updateDictKeys ho hd (hQ _ ?_ (Rk ..))));rw[storedH_new e0];refine⟨_,_,ep+1,R1 _ ho (Vo (Up hd _)),hc.mapDictKeys _,Up hd _,by simp[he,V5],λx hx=>?_,?_⟩
  ·rcases R0.mp hx with hx | hx
   ·exact knd.keeps (Mt x hx) ho hd (Rk ..)
   ·obtain rfl:x=(k,a,v):=by simpa using hx
    exact knd.keeps wj ho hd (Rk ..)
  ·rw[S0];refine SY.mpr ⟨hn,by simp,λx hx y hy z=>?_⟩;have hy:y=k:=by simpa using hy
   exact not_mem_keys_of_get D0 (by rw[<-hy,<-z];exact hx)
 ·have e0:=atKey_of_get hn hj;refine QL (W8 (QL (wpAny_updateDict ho hd (wpAny_point (hQ _ ?_ (Rk ..))))));rw[storedH_old e0];refine⟨_,_,ep,R1 _ ho (Vo (Obj.data_mapDict hd _)),hc.mapDict _,Obj.data_mapDict hd _,?_,λx hx=>?_,by rw[keys_map_putAt];exact hn⟩
  ·have:=modify_map_putAt (V5 knd) (λe:Sn=>{e with val:=v}) k v (λ_ _=>rfl) hn hj;rw[<-he] at this;obtain⟨l⟩:=es;simpa using this
  ·obtain⟨y,hy,rfl⟩:=QU.mp hx;unfold putAt;split<;>exact knd.keeps (Mt y hy) ho hd (Rk ..)
def cK(xs ys:List (K×Addr×Value)):List (K×Addr×Value):=ys.foldl (λu8 y=>U5 u8 y.1 y.2.1 y.2.2) xs
def vz(xs:List (K×Addr×Value))(k:K)(a:Addr)(v:Value):(U5 xs k a v).length<=xs.length+1:=by
 unfold U5;split<;>simp
def lY:∀(ys xs:List (K×Addr×Value)),(cK xs ys).length<=xs.length+ys.length
 |[],xs=>Q0 _
 |y::ys,xs=>by
  have h1:=lY ys (U5 xs y.1 y.2.1 y.2.2);have h2:=vz xs y.1 y.2.1 y.2.2;show (cK (U5 xs y.1 y.2.1 y.2.2) ys).length<=_;rw[QV];omega
def rZ{xs ys:List (K×Addr×Value)}(h:ys[i]? =some y):cK xs (ys.take (i+1))=U5 (cK xs (ys.take i)) y.1 y.2.1 y.2.2:=by
 rw[List.take_add_one,h];unfold cK;rw[List.foldl_append];rfl
def lZ:∀(ys u8:List (K×Addr×Value)),((u8++ys).map (·.1)).Nodup->cK u8 ys=u8++ys
 |[],u8,_=>by simp[cK]
 |y::ys,u8,hn=>by
  show cK (U5 u8 y.1 y.2.1 y.2.2) ys=_;have Mx:y.1∉u8.map (·.1):=λh=>by
   rw[S0] at hn;exact(SY.mp hn).2.2 _ h _ (by simp) rfl
  have e0:atKey u8 y.1=none:=atKey_none_of_get λj p hj=>Mx (QU.mpr ⟨_,Rn hj,rfl⟩);rw[storedH_new e0,lZ ys (u8++[(y.1,y.2.1,y.2.2)]) (by simpa using hn)];simp
def rM{id:String}(ho:s.heap.get? o=some ob)(hd:ob.data= .dict es ep)
 (hq:∀e∈es.toList,∃a,e.key= .ref a/\s.TypeIs (.ref a) "tuple")(hh:∀e∈es.toList,(es.filter (·.hash==e.hash)).size<=1)(h:Q es s):wpAny (model prog w) A (Vd id o) Q E s:=by
 unfold Vd;refine QL (RW ho hd ?_);rw[<-Array.forIn_toList];refine QL (Wo _ (λT0 _ s'=>s'=s/\∀e∈T0,e∈es.toList) _ ?_ ?_ _ _ ⟨rfl,λ_ h=>h⟩)
 ·rintro e T0 b s' ⟨rfl,hr⟩;obtain⟨a,ea,ta⟩:=hq e (hr e (QR ..));have hf:=hh e (hr e (QR ..));have eE:¬((es.filter (·.hash==e.hash)).size>1):=by omega
  rw[ea];unfold Builtin.Dict.quietEq;refine QL (QL (T_ ta F.slot_tuple_eq.lookup (QP ?_)));simp only[eE,if_false];have:(some (Value.builtin "tuple.__eq__")==some (Value.builtin "object.__eq__"))=false:=by decide
  simp only[this,Wm,if_true];exact QP ⟨rfl,λx hx=>hr x (QQ _ hx)⟩
 ·rintro b s' ⟨rfl,_⟩;exact QP h
def oi(hu:knd.room A)(N9:d≠o)(P1:(o==So)=false)(hd:s.heap.DictOfH knd d xs)(ho:s.heap.DictOfH knd o ys)
 (PM:∀{h:Heap}{k:K}{a:Addr},knd.is h k a->∃ob,h.get? a=some ob/\ob.cls= .type "tuple")(hh:xs=[]->(ys.map λy=>knd.hash y.1).Nodup)(hsz:xs.length+ys.length<=Q_)
 (hQ:∀h',h'.DictOfH knd d (cK xs ys)->R9 d s.heap h'->Q () {s with heap:=h'}):wpAny (model prog w) A (VG nm d o) Q E s:=by
 obtain⟨od,O1,OZ,j1,vK,fo,Pp,QG,GY⟩:=id hd;obtain⟨oo,wa,O0,JY,QE,zj,An,Ms,D0⟩:=id ho;have v6:=WD An;unfold VG;rw[XH (by simpa using N9)];unfold S9;rw[XH (by rw[P1];exact Ra)];refine QL (QP (QL (RW JY zj ?_)));have loop:∀(body:Nat->PUnit->Sem (ForInStep PUnit)),body=(λi (_:PUnit)=>(do
       let l'<-dictEntries o
       match l'[i]? with
        |some e=>do
         holding [e.key,e.val] (VN d e.key e.hash e.val)
         let DP<-dictEpoch o
         if (DP !=O0)=true then do (unsupported (toString nm++toString ":source-changed-during-callback"):Sem PUnit);pure (R7 T5) else pure (R7 T5)
        |_=>do
         (unsupported "internal:dict-merge":Sem PUnit)
         pure (R7 T5):Sem (ForInStep PUnit)))->wpAny (model prog w) A (forIn [:wa.size] T5 body) (λ_ s'=>Q () s') E s:=by
  rintro _ rfl;rw[Std.Legacy.Range.forIn_eq_forIn_range'];simp only[Std.Legacy.Range.size,Nat.sub_zero,Nat.add_sub_cancel,Nat.div_one];refine Wo _ (λT0 _ s'=>∃h' i,s'={s with heap:=h'}/\T0=RY i (wa.size - i)/\i<=wa.size/\h'.DictOfH knd d (cK xs (ys.take i))/\h'.get? o=some oo/\R9 d s.heap h') _ ?_ ?_ _ _
   ⟨s.heap,0,rfl,by simp,Ry _,by simpa[cK] using hd,JY,U2 _ _⟩
  ·rintro x T0 b s' ⟨h',i,rfl,hr,hi,tL,G1,wm⟩;have eE:i<wa.size:=by
    by_cases h:i<wa.size
    ·exact h
    ·rw[show wa.size - i=0 by omega] at hr;simp at hr
   rw[show wa.size - i=(wa.size - (i+1))+1 by omega,US] at hr;injection hr with h1 h2
   subst h1;refine QL (RW G1 zj ?_);obtain⟨y,hy⟩:∃y,ys[x]? =some y:=⟨_,QN (by omega)⟩
   rw[entry_at An x,hy];have PX:(cK xs (ys.take x)).length<=Q_:=by
    have e1:=lY (ys.take x) xs;rw[VI] at e1;omega
   have PO:knd.is h' y.1 y.2.1:=knd.keeps (Ms y (Rn hy)) j1 fo wm;refine QL (SH (o9 hu PO tL PX λIK Mh J3=>?_));have FX:IK.get? o=some oo:=(J3.2 o (R3 N9)).trans G1;refine QL (SM FX zj ?_);rw[XH (by simp)];exact QP ⟨IK,x+1,rfl,h2,eE,by rw[rZ hy];exact Mh,FX,wm.trans J3⟩
  ·rintro b s' ⟨h',i,rfl,hr,hi,tL,G1,wm⟩;have FU:i=wa.size:=by
    by_cases h:i<wa.size
    ·rw[show wa.size - i=(wa.size - (i+1))+1 by omega,US] at hr;exact nomatch hr
    ·omega
   refine hQ h' ?_ wm;rw[FU,v6,List.take_length] at tL;exact tL
 have go:wpAny (model prog w) A (do
  let Jr<-dictEpoch o
  let l<-dictEntries o
  forIn [:l.size] T5 λi (_:PUnit)=>(do
   let l'<-dictEntries o
   match l'[i]? with
    |some e=>do
     holding [e.key,e.val] (VN d e.key e.hash e.val)
     let DP<-dictEpoch o
     if (DP !=Jr)=true then do (unsupported (toString nm++toString ":source-changed-during-callback"):Sem PUnit);pure (R7 T5) else pure (R7 T5)
    |_=>do
     (unsupported "internal:dict-merge":Sem PUnit)
     pure (R7 T5):Sem (ForInStep PUnit))
  pure ()) Q E s:=by
  refine QL (SM JY zj (QL (RW JY zj (QL ?_))));exact R8 (loop _ rfl) (λ_ _ h=>QP h) λ_ _ h=>h
 dsimp only
 split
 ·refine QL (RW j1 fo ?_);split
  ·rename_i Mi;have J_:xs=[]:=by
    have h0:O1= #[]:=Xx.mp Mi;have:=WD Pp;rw[h0] at this;exact UM.mp (by simpa using this.symm)
   subst J_;have PY:=hh rfl;refine QL (rM JY zj (λe he=>?_) (λe he=>?_) ?_)
   ·rw[An] at he;obtain⟨y,hy,rfl⟩:=QU.mp he;obtain⟨ob,h1,h2⟩:=PM (Ms y hy);exact⟨y.2.1,rfl,ob,h1,h2⟩
   ·have:(wa.filter (·.hash==e.hash)).size=((ys.map λy=>knd.hash y.1).filter (· ==e.hash)).length:=by
     rw[<-Q5,Array.toList_filter,An,List.filter_map,List.filter_map,QM,QM];rfl
    rw[this];have hc:=List.nodup_iff_count.mp PY e.hash;rw[List.count_eq_countP,RO] at hc;exact hc
   ·have hm:cK ([]:List (K×Addr×Value)) ys=ys:=by
     rw[lZ ys [] (by simpa using D0)];rfl
    rw[hm] at hQ;split
    ·have Qd:wa.size<=Q_+1:=by simp at hsz;omega
     refine QL (wpAny_updateDictKeysTo j1 fo (QP (hQ _ ⟨_,_,OZ+1,R1 _ j1 (Vo (Up fo _)),vK.mapDictKeys _,Up fo _,An,λx hx=>?_,D0⟩ (Rk ..))) Qd);exact knd.keeps (Ms x hx) j1 fo (Rk ..)
    ·rename_i jv;have h0:wa= #[]:=Xx.mp (by simpa using jv);have PU:ys=[]:=UM.mp (by rw[<-v6,h0];rfl);subst PU;exact QP (hQ _ hd (U2 _ _))
  ·exact go
 ·exact go
end
end L3
namespace L3
open PySem PySem.Spec L2
open PyProof.Rows hiding St
def Ft(h1:(Tn (bc P w)).is h k a):∃ob,h.get? a=some ob/\ob.cls= .type "tuple":=by
 obtain⟨ob,aE,n,q1,q2,_⟩:=h1;exact⟨ob,q1,q2⟩
def g9(az more:List (List Key×V)):List (List Key×V):=more.foldl (λu8 kv=>putK u8 kv.1 kv.2) az
def yf:∀{more:List (List Key×V)}{ys:List (List Key×Addr×Value)},KT H more ys->∀{az:List (List Key×V)}{xs:List (List Key×Addr×Value)},KT H az xs->KT H (g9 az more) (cK xs ys)
 |_,_, .nil,_,_,q=>q
 |_,_, .cons h t,az,xs,r=>by
  refine yf t ?_;have:=KT.put r _ h.2.1 h.2.2;rw[h.1] at this;show KT H (putK az _ _) (U5 xs _ _ _);rw[h.1];exact this
def n6:∀(more az:List (List Key×V)),(g9 az more).length<=az.length+more.length
 |[],az=>Q0 _
 |p::r,az=>by
  have h1:=n6 r (putK az p.1 p.2);have h2:=eh az p.1 p.2;show (g9 (putK az p.1 p.2) r).length<=_;rw[QV];omega
def fm(k:List Int):Int:=reduceHash (Vp (k.map hashInt))
def A8(k:List Int):(Tn (bc P w)).hash (k_ k)=fm k:=by
 show reduceHash (Vp ((k_ k).map (Ki w)))=_;unfold fm k_;rw[Rj];rfl
section
variable{X:Cx}{f8:List (Addr×Obj)}{σ:St}{H:Hp}{s:QT}{a b:Addr}{A:RQ}{E:Value->QT->Prop}
def AI{ks:List (List Int)}(hu:A.units+2<cLine)(I:Inv X f8 σ H s)(ha:H a=some (.dT az))(hb:Rd H b (.dT more))(Lr:a≠b)(hk:more.map (·.1)=ks.map k_)
 (hh:az=[]->(ks.map fm).Nodup)(hz:az.length+more.length<=Q_)(h:∀s',Inv X f8 σ (upd H a (.dT (g9 az more))) s'->Q .none s'):
 wpAny (model X.prog X.w) A (call (.builtin "dict.update") [.ref a, .ref b]) Q E s:=by
 obtain⟨z1,lo1,xs,KY,NP⟩:=AQ I.hok ha;obtain⟨z2,Qq,ys,E_,ze⟩:=jR I.hok hb;have l1:=SK KY;have l2:=SK E_;have hT:=NP.typeIs;refine RJ VS hT PySem.F.entry_dict_update ?_ (PySem.F.args_dict_update_2 _ _);unfold TB.«dict.update»;refine QL ?_;unfold Builtin.Dict.selfAndRest;refine QL (Vi hT ?_);show wpAny _ _ (pure (a,[Rc b])) _ _ s;refine QP ?_;show wpAny _ _ (VD "dict.update" a (.ref b) [] .none) _ _ s;unfold VD;refine QL (wpAny_typeOf ze.typeIs ?_);rw[XH (by decide)];refine QL ?_;unfold Builtin.Dict.merge;refine QL ?_;unfold Builtin.Dict.readDirectly;refine QL (Ut ze.typeIs isSubtype_dict_dict ?_);simp only[Bool.not_true,Ro,if_false];refine QL (T_ ze.typeIs PySem.F.slot_dict_iter.lookup (QP ?_));simp only[beq_self_eq_true,if_true];refine QL (QP ?_);refine oi (show A.in1.units<cLine by show A.units+1<cLine;omega) Lr Qq NP ze Ft (λe0=>?_) (by omega) λh' AJ wm=>?_
 ·have e1:az=[]:=UM.mp (by rw[l1,e0];rfl);have:=hh e1;have e2:(ys.map λy=>(Tn (bc X.prog X.w)).hash y.1)=ks.map fm:=by
   have e3:more.map (·.1)=ys.map (·.1):=mj (λ_ _ r=>r.1) E_;rw[show (λy:List Key×Addr×Value=>(Tn (bc X.prog X.w)).hash y.1)=(Tn (bc X.prog X.w)).hash∘(·.1) from rfl,<-Rj,<-e3,hk,Rj];exact RM λk _=>A8 k
  rw[e2];exact this
 ·show wpAny _ _ (Builtin.Dict.addKeywords a []>>=_) _ _ _;refine QL (QP (QP ⟨.none,rfl,h _ ?_⟩));obtain⟨q,es,ep,hq,h2,h3,h4,_,h5⟩:=AJ;have hl:(g9 az more).length<=Q_:=by have:=n6 more az;omega
  refine jQ I (by rw[ha];exact Td) wm ⟨q,hq⟩ ⟨hl,lo1,_,(yf E_ KY).keeps λc ys ec=>?_,q,es,ep,hq,h2,h3,h4,h5⟩;rw[ay (BK ec ha (λz=>nomatch z))];exact ec
end
def cz(ks:List (List Key))(ds:List D):List (List Key)->List D->List (List Key)×List D
 |k::ks',d::ds'=>cz (c0 ks ds k) (cw ks ds k d) ks' ds'
 |_,_=>(ks,ds)
def De(ks:List (List Key))(ds:List D):D->Option C
 | .dct ks' ds'=>match dZ ks' with
   |some ns=>if ds.length+ds'.length<=lim/\(ks.isEmpty=true->(ns.map fm).Nodup) then some (.dct (cz ks ds ks' ds').1 (cz ks ds ks' ds').2) else none
   |none=>none
 |_=>none
def oe{K:QZ}:∀{ks':List (List Key)}{ds':List D}{tO:List V}{ks:List (List Key)}{ds:List D}{vs:List V},DenL K F ds' tO->ks'.length=ds'.length->DenL K F ds vs->ks.length=ds.length->
 ∃ws,g9 (ks.zip vs) (ks'.zip tO)=(cz ks ds ks' ds').1.zip ws/\DenL K F (cz ks ds ks' ds').2 ws/\(cz ks ds ks' ds').1.length=(cz ks ds ks' ds').2.length
 |[],[],tO,ks,ds,vs,h',_,h,hl=>⟨vs,rfl,h,hl⟩
 |k::ks',d::ds',tO,ks,ds,vs,⟨v,r,e,h1,h2⟩,FV,h,hl=>by
  subst e;obtain⟨ws,e1,e2,e3⟩:=sI h1 k h hl;obtain⟨us,q1,q2,q3⟩:=oe h2 (by simpa using FV) e2 e3;refine⟨us,?_,q2,q3⟩;show g9 (putK (ks.zip vs) k v) (ks'.zip r)=_;rw[e1];exact q1
 |[],_::_,_,_,_,_,_,FV,_,_=>by simp at FV
 |_::_,[],_,_,_,_,_,FV,_,_=>by simp at FV
def Ct[DecidableEq κ]{k:κ}(hl:ks.length=ds.length):(cw ks ds k d).length<=ds.length+1:=by
 unfold cw;split
 ·rw[ib ks ds k d hl];omega
 ·simp
def Cu[DecidableEq κ]{k:κ}(hl:ks.length=ds.length):(c0 ks ds k).length=(cw ks ds k d).length:=by
 unfold cw c0;split
 ·rw[ib ks ds k d hl];exact hl
 ·simp[hl]
def og:∀{ks':List (List Key)}{ds':List D}{ks:List (List Key)}{ds:List D},ks.length=ds.length->(cz ks ds ks' ds').2.length<=ds.length+ds'.length
 |[],ds',ks,ds,_=>by show ds.length<=_;omega
 |_::_,[],ks,ds,_=>by show ds.length<=_;simp
 |k::ks',d::ds',ks,ds,hl=>by
  have h1:=og (ks':=ks') (ds':=ds') (ks:=c0 ks ds k) (ds:=cw ks ds k d) (Cu hl);have h2:=Ct (k:=k) (d:=d) hl;show (cz (c0 ks ds k) (cw ks ds k d) ks' ds').2.length<=_;rw[QV];omega
section
variable{X:Cx}{Xw:Nat->Hp->Prop}{o e:Expr}{δ:DE}{pos p v4 a6:Pos}{x:Str}{i:Nat}
def CM(i:Nat)(δ:DE):DS:=λρ=>match wU ρ i with
 |some (.dct ks ds)=>δ ρ>>=λd=>match De ks ds d with
  |some c'=>aa (.nx (ρ.set i (some (.ow c'))))
  |none=>af
 |_=>af
def HW(hu:X.A.units+2<cLine)(ho:PE X o td)(he:PE X e ty)(m:M1 X o "update" v4 e a6):
 PE X (.Call (.Attribute o "update" v4) [e] [] a6) (λσ H Q=>td σ H λx H1=>∃a,x= .ref a/\Jc H1 a/\ty σ H1 λy H2=>∃(b:Addr) (az more:List (List Key×V)) (ks:List (List Int)),y= .ref b/\H2 a=some (.dT az)/\Rd H2 b (.dT more)/\a≠b/\more.map (·.1)=ks.map k_/\(az=[]->(ks.map fm).Nodup)/\az.length+more.length<=Q_/\Q .non (upd H2 a (.dT (g9 az more)))):=by
 intro f8 s σ H Q I h;refine V4 m.base m.few m.line TL VS (by rfl) (b7 (ho f8 s σ H _ I h) λu s1 ⟨x,H1,I1,rx,a,ex,d,q1⟩=>?_);subst ex;obtain rfl:u=Rc a:=rx;obtain⟨t1,t2,_⟩:=wq I1 d;refine⟨t1,t2,?_⟩;rw[m.trees];refine Te rfl (Uj (Tf (b7 (he f8 s1 σ H1 _ I1 q1) λiv s2 ⟨y,H2,I2,ry,b,az,more,ks,ey,k1,k2,k3,k4,k5,k6,q2⟩=>T8 ?_)));subst ey;obtain rfl:iv=Rc b:=ry;exact AI hu I2 k1 k2 k3 k4 k5 k6 λs3 I3=>⟨.non,_,I3,rfl,q2⟩
def E5(hu:X.A.units+64<cLine)(hv:PE X (.Name x p) (pf i))(he:PD X Xw e δ)(m:M1 X (.Name x p) "update" v4 e a6)(hs:UW (.Call (.Attribute (.Name x p) "update" v4) [e] [] a6) none pos.line X.env=pure false:=by rfl):
 fQ X Xw (.Expr (.Call (.Attribute (.Name x p) "update" v4) [e] [] a6) pos) (CM i δ):=λs0 X8=>PS.weak (m6 (HW (by omega) hv he m) hs) λD σ H ⟨F,ρ,s,w⟩=>by
 unfold CM at w;split at w
 ·rename_i ks ds Lz;have hi:=qL Lz;obtain⟨v,J9,a,oh,rfl,hH,hF,vs,rfl,hd,hl,hz⟩:=s.st.den i _ hi;refine⟨.ref a,J9,a,rfl, .inr ⟨_, .inl hH⟩,F,ρ,s.st,?_⟩;rcases(δ ρ).cs with q | ⟨n,q⟩ | ⟨d,q⟩
  ·rw[q] at w;exact w.elim
  ·rw[q] at w⊢;exact λF' H' e'=>w F' H' (s.ext.trans e')
  ·rw[q] at w⊢;intro u H1 F1 e1 hq;have w:WPS X.K Xw s0 X8 (match De ks ds d with | some c'=>aa (.nx (ρ.set i (some (.ow c')))) | none=>af) D:=w;cases d with
   |dct ks' ds'=>
    obtain⟨b,ob,tO,rfl,k2,k3,k4,k5⟩:=hq;cases hc:De ks ds (.dct ks' ds') with
    |none=>rw[hc] at w;exact w.elim
    |some c'=>
     rw[hc] at w;have hc:(match dZ ks' with | some ns=>if ds.length+ds'.length<=lim/\(ks.isEmpty=true->(ns.map fm).Nodup) then some (C.dct (cz ks ds ks' ds').1 (cz ks ds ks' ds').2) else none | none=>none)=some c':=hc;cases hn:dZ ks' with
     |none=>rw[hn] at hc;cases hc
     |some ns=>
      rw[hn] at hc;have hc:(if ds.length+ds'.length<=lim/\(ks.isEmpty=true->(ns.map fm).Nodup) then some (C.dct (cz ks ds ks' ds').1 (cz ks ds ks' ds').2) else none)=some c':=hc;split at hc
      ·rename_i JI;cases hc;have N7:=DenL.mono e1.ff hd;have l1:=N7.len;have l2:=k3.len;have Lr:a≠b:=λz=>by
        have:=e1.old hH (λ_ z=>nomatch z);rw[hF,z,k2] at this;cases this
       obtain⟨ws,m1,m2,m3⟩:=oe k3 k4 N7 hl;refine⟨b,ks.zip vs,ks'.zip tO,ns,rfl,e1.hh _ _ hH, .inr ⟨ob,e1.fh _ _ k2⟩,Lr,by rw[iU (by rw[k4];exact l2),iG hn],λz=>JI.2 ?_,?_,?_⟩
       ·have:=iU (a:=ks) (b:=vs) (by rw[hl];exact l1);rw[z] at this;rw[<-this];rfl
       ·rw[UZ,UZ];have:=d3;omega
       ·rw[m1];exact w σ F1 _ ((s.ext' e1).chg hi J9 ⟨ws,rfl,m2,m3,by have:=og (ks':=ks') (ds':=ds') hl;omega⟩)
      ·cases hc
   |_=>exact w.elim
 ·exact w.elim
end
section
variable{X:Cx}{Xw:Nat->Hp->Prop}{o e f:Expr}{δo δe δf:DE}{v4 a6:Pos}{x:Str}
def Bn:D->Bool
 | .dct _ _=>true
 | .dci _ _=>true
 |_=>false
def xZ{K:QZ}{F H:Hp}{d:D}{x:V}(s:Same F H)(hd:Den K F d x)(e:Bn d=true):∃a,x= .ref a/\Jc H a:=by
 cases d with
 |dct ks ds=>obtain⟨a,ob,vs,rfl,h2,_⟩:=hd;exact⟨a,rfl, .inr ⟨_, .inr ⟨ob,s _ _ h2⟩⟩⟩
 |dci ks ds=>obtain⟨a,ob,vs,rfl,h2,_⟩:=hd;exact⟨a,rfl, .inl ⟨_, .inr ⟨ob,s _ _ h2⟩⟩⟩
 |_=>cases e
def getM(d k v:D):M D:=match Ah d k with
 |some (some x)=>aa x
 |some none=>aa v
 |none=>af
def Jm(δo δe:DE):DE:=λρ=>δo ρ>>=λd=>if Bn d then δe ρ>>=λk=>getM d k .non else af
def xH(δo δe δf:DE):DE:=λρ=>δo ρ>>=λd=>if Bn d then δe ρ>>=λk=>δf ρ>>=λv=>getM d k v else af
def uk{F H:Hp}{d k v:D}{a:Addr}{y z:V}{Q:VK}(s:Same F H)(q1:Den X.K F d (.ref a))(q2:Den X.K F k y)(q3:Den X.K F v z)(w:WP X.K Xw F H (getM d k v) Q):∃ov,jk H a y ov/\Q (ov.getD z) H:=by
 unfold getM at w;cases nN:Ah d k with
 |none=>rw[nN] at w;exact w.elim
 |some o'=>
  rw[nN] at w;obtain⟨a',ov,zz,h2,h3,h4⟩:=ro s q1 q2 nN;cases zz;refine⟨ov,h2,?_⟩;cases o' with
  |none=>
   cases ov with
   |none=>exact WP.now w s q3
   |some _=>cases h3
  |some d'=>
   obtain⟨v,rfl,hv⟩:=h4 d' rfl;exact WP.now w s hv
def LK(hu:X.A.units+64<cLine)(ho:PD X Xw o δo)(he:PD X Xw e δe)(m:M1 X o "get" v4 e a6):PD X Xw (.Call (.Attribute o "get" v4) [e] [] a6) (Jm δo δe):=
 PE.weak (Cc (by omega) ho he m) λσ H Q ⟨F,ρ,s,w⟩=>by
  refine⟨F,ρ,s,WP.mono (WP.bind w) λx H1 ⟨F1,d,e1,q1,w1⟩=>?_⟩;split at w1
  ·rename_i hd;obtain⟨a,rfl,MV⟩:=xZ e1.fh q1 hd;refine⟨a,rfl,MV,F1,ρ,s.ext e1,WP.mono (WP.bind w1) λy H2 ⟨F2,k,e2,q2,w2⟩=>?_⟩;exact uk (v:= .non) (z:= .non) e2.fh (Den.mono e2.ff q1) q2 (show V.non=V.non from rfl) w2
  ·exact w1.elim
def EH(hu:X.A.units+64<cLine)(ho:PD X Xw o δo)(he:PD X Xw e δe)(hf:PD X Xw f δf)(m:M2 X o "get" v4 e f a6):PD X Xw (.Call (.Attribute o "get" v4) [e,f] [] a6) (xH δo δe δf):=
 PE.weak (Cd (by omega) ho he hf m) λσ H Q ⟨F,ρ,s,w⟩=>by
  refine⟨F,ρ,s,WP.mono (WP.bind w) λx H1 ⟨F1,d,e1,q1,w1⟩=>?_⟩;split at w1
  ·rename_i hd;obtain⟨a,rfl,MV⟩:=xZ e1.fh q1 hd;refine⟨a,rfl,MV,F1,ρ,s.ext e1,WP.mono (WP.bind w1) λy H2 ⟨F2,k,e2,q2,w2⟩=>?_⟩;refine⟨F2,ρ,(s.ext e1).ext e2,WP.mono (WP.bind w2) λz H3 ⟨F3,v,e3,q3,w3⟩=>?_⟩;exact uk e3.fh (Den.mono e3.ff (Den.mono e2.ff q1)) (Den.mono e3.ff q2) q3 w3
  ·exact w1.elim
end
section
variable{a:Expr}
end
def rQ:List Nat->Fz
 |[]=>Jy
 |i::is=>FO (A3 i) (rQ is)
def xb:List Nat->List D->cp->cp
 |i::is,d::ds,ρ=>xb is ds (ρ.set i (some (.fz d)))
 |_,_,ρ=>ρ
def oX(is:List Nat):D->cp->Option cp
 | .tup ds,ρ=>if ds.length=is.length then some (xb is ds ρ) else none
 |_,_=>none
def q9{K:QZ}{s0 X8 F H:Hp}{Q:St->Hp->Prop}:∀(is:List Nat) (ds:List D) (vs:List V) (σ:St) (ρ:cp),ds.length=is.length->StOk K s0 X8 F H σ ρ->DenL K F ds vs->(∀σ',StOk K s0 X8 F H σ' (xb is ds ρ)->Q σ' H)->rQ is vs σ H Q
 |[],[],vs,σ,ρ,_,s,h,k=>⟨h,k σ s⟩
 |i::is,d::ds,vs,σ,ρ,hl,s,⟨v,r,e,h1,h2⟩,k=>by
  subst e;exact⟨v,r,rfl,q9 is ds r _ _ (by simpa using hl) (s.set h1) h2 k⟩
 |[],_::_,_,_,_,hl,_,_,_=>by simp at hl
 |_::_,[],_,_,_,hl,_,_,_=>by simp at hl
def sJ{K:QZ}{is:List Nat}:xy K (GL K is.length (rQ is)) (oX is):=λs0 X8 F H σ ρ ρ' d v Q s q e k=>by
 unfold oX at e;split at e
 ·rename_i ds;split at e
  ·rename_i hl;cases e;obtain⟨a,vs,rfl,hs,hd,_⟩:=q;exact⟨a,vs,rfl,SqT.of (s.st.fh _ _ hs),by rw[<-hd.len];exact hl,q9 is ds vs σ ρ hl s hd k⟩
  ·cases e
 ·cases e
def Fh:∀{σ' σ:St},1<σ'.length->σ'.drop 2=σ->∀v1 v2:V,(σ'.set 0 (some v1)).set 1 (some v2)=[v1,v2].map some++σ
 |x1::x2::r,_,_,hd,v1,v2=>by subst hd;rfl
 |[],_,h,_,_,_=>by simp at h
 |[_],_,h,_,_,_=>by simp at h
def Ei:∀{ds:List D},ds.length=2->∃a b,ds=[a,b]
 |[a,b],_=>⟨a,b,rfl⟩
 |[],h=>by simp at h
 |[_],h=>by simp at h
 |_::_::_::_,h=>by simp at h
def jH{X:Cx}{x y:Str}{px py pt:Pos}{x1:Nat}{σ:St}(hN:X.N.Nodup)(h0:X.N[0]? =some x)(h1:X.N[1]? =some y)(hx:X.env.scope.names.lookup x=some .local)(hy:X.env.scope.names.lookup y=some .local)(hc:X.calm=true)
 (hn:(S_ [VX x px, .Name y py] X.env).length=2:=by rfl)(rU:(S_ [VX x px, .Name y py] X.env).findIdx? (·.1)=none:=by rfl)
 (hs:(S_ [VX x px, .Name y py] X.env).map (·.2)=assign (.Name x px) X.env::(S_ [VX y py] X.env).map (·.2):=by rfl)(IW:(S_ [VX y py] X.env).map (·.2)=assign (.Name y py) X.env::(S_ [] X.env).map (·.2):=by rfl):yQ X (.Tuple [.Name x px, .Name y py] x1 pt) 2 σ:=λf8 s σ' F H d ts v u I fh hd rv q e=>by
 cases d with
 |tup ds=>
  have e:(if ds.length=2 then aa ds else af)=aa ts:=e;split at e
  ·rename_i hl;obtain rfl:=eL e;obtain⟨d1,d2,rfl⟩:=Ei hl
   ·obtain⟨a,vs,rfl,wm,tL,_⟩:=q;obtain⟨v1,v2,rfl,q1,q2⟩:=tL.two;have G:PG X (.Tuple [.Name x px, .Name y py] x1 pt) (GL X.K 2 (rQ [0,1])):=sE hc (dg (ba hN h0 (.inl hx) (.inr hx)) (dg (ba hN h1 (.inl hy) (.inr hy)) mZ IW) hs) hn rU;refine b7 (G f8 s σ' H (.ref a) u (λσ2 H2=>H2=H/\σ2=(σ'.set 0 (some v1)).set 1 (some v2)) I rv ⟨a,[v1,v2],rfl,SqT.of (fh _ _ wm),rfl,v1,[v2],rfl,v2,[],rfl,rfl,rfl,rfl⟩) λ_ s2 ⟨σ2,H2,I2,e1,e2⟩=>?_;subst e1 e2;refine⟨[v1,v2],?_, .cons q1 (.cons q2 .nil)⟩;have hl:1<σ'.length:=by rw[I.len];exact(Q4.mp h1).1
    have:=Fh hl (show σ'.drop 2=σ from hd) v1 v2;rw[<-this];exact I2
  ·exact(fk e).elim
 |_=>exact(fk e).elim
mutual
def FG:D->Bool
 | .non=>true
 | .bl _=>true
 | .int _=>true
 | .str _=>true
 | .tup ds=>t6 ds
 | .lst ds=>t6 ds
 | .raw _=>false
 | .exc _=>false
 | .scr _=>false
 | .dct _ _=>false
 | .dci _ _=>false
def t6:List D->Bool
 |[]=>true
 |d::ds=>FG d&&t6 ds
end
def uY(ρ:cp):Bool:=ρ.all λx=>match x with
 |some (.ow (.lst _))=>false
 |_=>true
def B0{i:Nat}(h:uY ρ=true)(e:ρ[i]? =some (some (.ow (.lst ds)))):False:=by
 have:=Rt.mp h _ (Rn e);cases this
section
variable{K:QZ}{F H F' H':Hp}{σ:St}{ρ:cp}{h:Heap}{b:Addr}
def OwnAt.dict(S:StE K F H σ ρ)(hd:uY ρ=true)(p:OwnAt σ ρ b):∃o,H b=some o/\((∃x,o= .dT x)\/∃x,o= .dK x):=by
 obtain⟨i,c,h1,h2⟩:=p;obtain⟨v,h3,a,o,rfl,h4,h5,h6⟩:=S.den i _ h1;rw[h3] at h2;cases h2;refine⟨o,h4,?_⟩;cases c with
 |lst ds=>exact(B0 hd h1).elim
 |dct ks ds=>obtain⟨vs,rfl,_⟩:=h6;exact .inl ⟨_,rfl⟩
 |dci ks ds=>obtain⟨vs,rfl,_⟩:=h6;exact .inr ⟨_,rfl⟩
open Classical in
def yi(S:StE K F H σ ρ)(hd:uY ρ=true)(E:Ext (fA σ ρ (refA h (OwnAt σ ρ) H) F) (refA h (OwnAt σ ρ) H) F' H'){o:HO}(e:F' a=some o)(jv:∀q u,o≠ .frz q u):(if OwnAt σ ρ a then none else F' a)=some o:=by
 rw[XH,e];intro hp;obtain⟨o',k1,k2⟩:=OwnAt.dict S hd hp;have k3:fA σ ρ (refA h (OwnAt σ ρ) H) F a=some (mI ((h.get? a).getD {cls:= .none,data:= .fields #[]}) o'):=by
  unfold fA refA;rw[XG hp,XG hp,k1];rfl
 have k4:=E.ff a _ k3;rw[e] at k4;rcases k2 with⟨x,rfl⟩ | ⟨x,rfl⟩<;>cases k4<;>exact jv _ _ rfl
open Classical in
mutual
def AK(S:StE K F H σ ρ)(hd:uY ρ=true)(E:Ext (fA σ ρ (refA h (OwnAt σ ρ) H) F) (refA h (OwnAt σ ρ) H) F' H'):∀{d:D}{v:V},FG d=true->Den K F' d v->Den K (λb=>if OwnAt σ ρ b then none else F' b) d v
 | .non,_,_,q=>q
 | .bl _,_,_,q=>q
 | .int _,_,_,q=>q
 | .str _,_,_,q=>q
 | .tup ds,_,f,⟨a,vs,h1,h2,h3,h4⟩=>⟨a,vs,h1,yi S hd E h2 (λ_ _ z=>nomatch z),k8 S hd E f h3,h4⟩
 | .lst ds,_,f,⟨a,vs,h1,h2,h3,h4⟩=>⟨a,vs,h1,yi S hd E h2 (λ_ _ z=>nomatch z),k8 S hd E f h3,h4⟩
 | .raw _,_,f,_=>by cases f
 | .exc _,_,f,_=>by cases f
 | .scr _,_,f,_=>by cases f
 | .dct _ _,_,f,_=>by cases f
 | .dci _ _,_,f,_=>by cases f
def k8(S:StE K F H σ ρ)(hd:uY ρ=true)(E:Ext (fA σ ρ (refA h (OwnAt σ ρ) H) F) (refA h (OwnAt σ ρ) H) F' H'):∀{ds:List D}{vs:List V},t6 ds=true->DenL K F' ds vs->DenL K (λb=>if OwnAt σ ρ b then none else F' b) ds vs
 |[],_,_,q=>q
 |d::ds,_,f,⟨v,r,h1,h2,h3⟩=>by
  unfold t6 at f;rw[Q6] at f;exact⟨v,r,h1,AK S hd E f.1 h2,k8 S hd E f.2 h3⟩
end
end
def Lj(δ:DE):DE:=λρ=>noex (δ (wc ρ))>>=nH
def Ja(τ:DT):DT:=λρ=>noex (τ (wc ρ))
section
variable{a b:Expr}
def Fj{x y:Str}(h:x.cps.toList=y.cps.toList):x=y:=by
 obtain⟨⟨a⟩⟩:=x;obtain⟨⟨b⟩⟩:=y;cases (show a=b from h);rfl
end
def G7(x:Int):List Int->List Int
 |[]=>[x]
 |y::r=>if x<=y then x::y::r else y::G7 x r
def zm(x:Int):∀l,(G7 x l).Perm (x::l)
 |[]=>Xe _
 |y::r=>by
  unfold G7;split
  ·exact Xe _
  ·exact((zm x r).cons y).trans (List.Perm.swap ..)
def qk{K:QZ}{F:Hp}:∀{xs:List Int},DenL K F (xs.map D.int) (xs.map V.int)
 |[]=> .nil
 |x::r=> .cons rfl qk
section
variable{X:Cx}{Xw:Nat->Hp->Prop}{a b e v:Expr}{δs:DA}{pos p:Pos}
def G8:List D->M D
 |[.bl b]=>aa (.int (if b then 1 else 0))
 |_=>af
def qi:CallR X (.type "int") (λxs H Q=>∃b:Bool,xs=[.bl b]/\Q (.int (if b then 1 else 0)) H):=by
 intro f8 s σ H xs us Q I r h;obtain⟨b,rfl,q⟩:=h;obtain⟨u,rfl,r1⟩:=r.one;cases (show u=_ from r1);exact call_int_bool ⟨.int _,H,I.tok _,⟨_,rfl⟩,q⟩
def EI(hg:Gl X "int")(hm:X.mg "int"=none)(hb:Rv "int"=some (.type "int"))(ha:jl X Xw [e] δs)(he:Q8 [e] X.env=[(false,eval e X.env)]:=by rfl):PD X Xw (.Call (.Name "int" p) [e] [] pos) (dA G8 δs):=
 qT qi (λXw F H vs ds Q s h w=>by
  unfold G8 at w;split at w
  ·obtain⟨v,rfl,h1⟩:=h.one;exact⟨_,by rw[show v=_ from h1],WP.now w s rfl⟩
  ·exact w.elim) hg hm hb ha (by decide) (by decide) he rfl
end
end L3
namespace L3
open PySem PySem.SetTable
def lh[DecidableEq α]:∀{l U:List α},l.Nodup->(∀x∈l,x∈U)->l.length<=U.length
 |[],_,_,_=>Ry _
 |a::l,U,hn,h=>by
  have ha:=h a (QR ..);have IU:=RZ.mp hn;have:=lh IU.2 λx hx=>(W4 (λe:x=a=>IU.1 (e▸hx))).mpr (h x (QQ _ hx));rw[UG ha] at this;have:0<U.length:=T6 ha;rw[QV];omega
def iK(m b:Nat):Nat->Nat×Nat
 |0=>(b % (m+1),b)
 |k+1=>leap m (iK m b k).1 (iK m b k).2
def I_(m i:Nat):Nat:=(i*5+1) % (m+1)
def it(m:Nat):Nat->Nat->Nat
 |0,x=>x
 |n+1,x=>I_ m (it m n x)
def nW(m:Nat):∀a b x,it m (a+b) x=it m a (it m b x)
 |0,b,x=>by rw[VH];rfl
 |a+1,b,x=>by rw[XA];show I_ m _=I_ m _;rw[nW m a b x]
def Kd(m b:Nat):∀k,(iK m b k).2=b / 32 ^ k
 |0=>by simp[iK]
 |k+1=>by
  show (iK m b k).2 / 32=_;rw[Kd m b k,WL,Nat.pow_succ]
def xV{m b:Nat}(hb:b<2 ^ 64):∀k,(iK m b (k+13)).1=it m k (iK m b 13).1
 |0=>by rw[VH];rfl
 |k+1=>by
  rw[XA];have hq:(iK m b (k+13)).2 / 32=0:=by
   rw[Kd];refine Nat.div_eq_of_lt ?_;refine Vy (m:=b / 32 ^ 13) ?_ ?_
   ·rw[Nat.pow_add,Uy,<-WL];exact Nat.div_le_self ..
   ·have:b / 32 ^ 13<1:=Nat.div_lt_of_lt_mul (by omega);omega
  show ((iK m b (k+13)).1*5+1+(iK m b (k+13)).2 / 32) % (m+1)=I_ m _;rw[hq,xV hb k];rfl
def LX(m:Nat):Prop:=m=7\/m=31\/m=127
def M6(m:Nat):Nat->Nat->List Nat
 |0,_=>[]
 |n+1,x=>x::M6 m n (I_ m x)
def wQ(m:Nat):∀(n x j:Nat),j∈M6 m n x->∃a,a<n/\it m a x=j
 |0,x,j,h=>by cases h
 |n+1,x,j,h=>by
  rcases Q9.mp h with rfl | h
  ·exact⟨0,by omega,rfl⟩
  ·obtain⟨a,ha,e⟩:=wQ m n (I_ m x) j h;exact⟨a+1,by omega,by rw[nW m a 1 x];exact e⟩
def EC(hm:LX m):(∀j,j<m+1->j∈M6 m (m+1) 0)/\it m (m+1) 0=0:=by
 rcases hm with rfl | rfl | rfl
 ·exact⟨by decide+kernel,by decide+kernel⟩
 ·exact⟨by decide+kernel,by decide+kernel⟩
 ·exact⟨by decide+kernel,by decide+kernel⟩
def OV(hm:LX m)(hi:i<m+1)(hj:j<m+1):∃n,n<=m/\it m n i=j:=by
 obtain⟨h1,h2⟩:=EC hm;obtain⟨a,ha,rfl⟩:=wQ m _ 0 i (h1 i hi);obtain⟨b,hb,rfl⟩:=wQ m _ 0 j (h1 j hj);by_cases h:a<=b
 ·exact⟨b - a,by omega,by rw[<-nW,Nat.sub_add_cancel h]⟩
 ·refine⟨m+1 - a+b,by omega,?_⟩;rw[<-nW,show m+1 - a+b+a=b+(m+1) by omega,nW,h2]
def Kc(m b k:Nat):(iK m b k).1<m+1:=by
 cases k with
 |zero=>exact Nat.mod_lt _ (by omega)
 |succ k=>exact Nat.mod_lt _ (by omega)
def reach(hm:LX m)(hb:b<2 ^ 64)(hj:j<m+1):∃k,k<=m+13/\(iK m b k).1=j:=by
 obtain⟨n,hn,e⟩:=OV hm (Kc m b 13) hj;exact⟨n+13,by omega,by rw[xV hb,e]⟩
def NK(t:SetTable):Nat->Probe->Probe
 |0,p=>p
 |n+1,p=>NK t n (t.advance p)
def vals(o:Array (Option Nat))(n:Nat):List Nat:=(Rf n).filterMap λj=>o.getD j none
end L3
namespace L3
open PySem PySem.Spec L2 HT
open PyProof.Rows hiding St
def items_int{P:Ru}{w:World}:∀{us:List Value}{ns:List Int},Ta us ns->ItemsAre (intKind P w) ns us
 |_,_, .nil=> .nil
 |_,_, .cons n t h=> .cons (intKind_is _ _ _ _) (items_int h)
end L3
namespace L3
open PySem PySem.SetTable PySem.W PyProof.Rows
def IsSI(h:Heap)(it a:Addr)(sl k n ep:Nat):Prop:=∃o,h.get? it=some o/\o.cls= .type "set_iterator"/\o.data= .fields #[TH sl,TH k, .ref a,TH n,TH ep]
def IsSI.typeIs{s:QT}{it a:Addr}{sl k n ep:Nat}(x:IsSI s.heap it a sl k n ep):s.TypeIs (.ref it) "set_iterator":=let ⟨o,ho,hc,_⟩:=x;⟨o,ho,hc⟩
end L3
namespace L3
open PySem PySem.Spec L2 HT
open PyProof.Rows hiding St
section
variable{X:Cx}{Xw:Nat->Hp->Prop}{e:Expr}{δs:DA}{pos p:Pos}
def mr:List D->M D
 |[.lst ds]=>match nums ds with
  |some ns=>aa (.int ns.sum)
  |none=>af
 |_=>af
def y9(hc:X.calm=true):CallR X (.builtin "sum") (λxs H Q=>∃(p:Addr) (ns:List Int),xs=[.ref p]/\SqL X.K H p (ns.map V.int)/\Q (.int ns.sum) H):=by
 intro f8 s σ H xs us Q I r h;obtain⟨a,ns,rfl,hq,q⟩:=h;obtain⟨u,rfl,r1⟩:=r.one;cases (show u=_ from r1);obtain⟨aE,rv,pl,hz⟩:=I.list hq;have hi:Ta aE ns:=by simpa using intsAre_of rv
 obtain⟨xs,hx⟩:=hi.allInts.items;refine sum_intListG (I.ok.hd hc) (show s.heap.IsList a (intItems xs) from hx▸pl.isList) λh' tk t' hk=>?_;have e1:ns=xs.toList.map (·.1):=by
  rw[<-nums_intItems,<-hx];exact(show numsOf aE.toArray.toList=ns from hi.numsOf).symm
 rw[show preSum (numAt xs) xs.size=ns.sum by rw[preSum_eq,List.take_of_length_le (by simp),e1]];exact⟨.int ns.sum,H,I.kept hk,⟨_,rfl⟩,q⟩
def sD(hc:X.calm=true)(hg:Gl X "sum")(hm:X.mg "sum"=none)(hb:Rv "sum"=some (.builtin "sum"))(ha:jl X Xw [e] δs)(he:Q8 [e] X.env=[(false,eval e X.env)]:=by rfl):PD X Xw (.Call (.Name "sum" p) [e] [] pos) (dA mr δs):=
 cF (y9 hc) (λXw F H vs ds Q s h w=>by
  unfold mr at w;split at w
  ·rename_i ds;obtain⟨v,rfl,h1⟩:=h.one;obtain⟨a,ws,rfl,h2,h3,h4⟩:=h1;split at w
   ·rename_i ns Dt;have e:=de Dt h3;subst e;exact⟨a,ns,rfl,SqL.of (s _ _ h2),WP.now w s rfl⟩
   ·exact w.elim
  ·exact w.elim) hg hm hb ha (by decide) (by decide) he rfl
end
def eF:List Int->Int
 |[]=>0
 |[x]=>x
 |x::r=>max x (eF r)
def fM:List Int->Int
 |[]=>0
 |[x]=>x
 |x::r=>min x (fM r)
def f7:∀{l:List Int},0<l.length->eF l∈l/\∀a∈l,a<=eF l
 |[x],_=>⟨by simp[eF],λa h=>by rw[TU.mp h];exact Int.le_refl _⟩
 |x::y::r,_=>by
  obtain⟨h1,h2⟩:=f7 (l:=y::r) (W0 _);have e:eF (x::y::r)=max x (eF (y::r)):=rfl;rw[e];refine⟨?_,λa ha=>?_⟩
  ·rcases Int.le_total x (eF (y::r)) with q | q
   ·rw[Int.max_eq_right q];exact QQ _ h1
   ·rw[Int.max_eq_left q];exact QR ..
  ·rcases Q9.mp ha with q | q
   ·rw[q];exact Int.le_max_left ..
   ·exact Int.le_trans (h2 a q) (Int.le_max_right ..)
def iN:∀{l:List Int},0<l.length->fM l∈l/\∀a∈l,fM l<=a
 |[x],_=>⟨by simp[fM],λa h=>by rw[TU.mp h];exact Int.le_refl _⟩
 |x::y::r,_=>by
  obtain⟨h1,h2⟩:=iN (l:=y::r) (W0 _);have e:fM (x::y::r)=min x (fM (y::r)):=rfl;rw[e];refine⟨?_,λa ha=>?_⟩
  ·rcases Int.le_total x (fM (y::r)) with q | q
   ·rw[Int.min_eq_left q];exact QR ..
   ·rw[Int.min_eq_right q];exact QQ _ h1
  ·rcases Q9.mp ha with q | q
   ·rw[q];exact Int.min_le_left ..
   ·exact Int.le_trans (Int.min_le_right ..) (h2 a q)
section
variable{X:Cx}{Xw:Nat->Hp->Prop}{e:Expr}{δs:DA}{pos p:Pos}
def f6:List D->M D
 |[.lst ds]=>match nums ds with
  |some ns=>if 0<ns.length then aa (.int (eF ns)) else af
  |none=>af
 |_=>af
def j5:List D->M D
 |[.lst ds]=>match nums ds with
  |some ns=>if 0<ns.length then aa (.int (fM ns)) else af
  |none=>af
 |_=>af
def nX{aE:List Value}{ns:List Int}(hi:Ta aE ns):∃xs:Array (Int×Tok),aE.toArray=intItems xs/\xs.size=ns.length/\∀i,i<xs.size->numAt xs i∈ns/\ns[i]? =some (numAt xs i):=by
 obtain⟨xs,hx⟩:=hi.allInts.items;have e1:ns=xs.toList.map (·.1):=by
  rw[<-nums_intItems,<-hx];exact(show numsOf aE.toArray.toList=ns from hi.numsOf).symm
 refine⟨xs,hx,by rw[e1];simp,λi h=>?_⟩;have:ns[i]? =some (numAt xs i):=by
  rw[e1,Q1,SQ];unfold numAt;rw[RK h];rfl
 exact⟨Rn this,this⟩
def yY(hc:X.calm=true):CallR X (.builtin "max") (λxs H Q=>∃(p:Addr) (ns:List Int),xs=[.ref p]/\SqL X.K H p (ns.map V.int)/\0<ns.length/\Q (.int (eF ns)) H):=by
 intro f8 s σ H xs us Q I r h;obtain⟨a,ns,rfl,hq,h0,q⟩:=h;obtain⟨u,rfl,r1⟩:=r.one;cases (show u=_ from r1);obtain⟨aE,rv,pl,hz⟩:=I.list hq;have hi:Ta aE ns:=by simpa using intsAre_of rv
 obtain⟨xs,hx,hsz,nN⟩:=nX hi;obtain⟨g1,g2⟩:=argBest_gt (numAt xs) (xs.size - 1);refine max_intList (I.ok.hd hc) (show s.heap.IsList a (intItems xs) from hx▸pl.isList) (by omega) λv h' tk hv hk=>?_;obtain⟨t,rfl⟩:=intItems_at hv;have hM:=nN (argBest (λi j=>decide (numAt xs i>numAt xs j)) (xs.size - 1)) (by omega);obtain⟨m1,m2⟩:=f7 h0;have e:numAt xs (argBest (λi j=>decide (numAt xs i>numAt xs j)) (xs.size - 1))=eF ns:=by
  refine Int.le_antisymm (m2 _ hM.1) ?_;obtain⟨j,hj,e⟩:=Us m1;have h2:=(nN j (by omega)).2;rw[QN hj,e] at h2;rw[Rx h2];exact g2 j (by omega)
 rw[e];exact⟨.int (eF ns),H,I.kept hk,⟨_,rfl⟩,q⟩
def y6(hc:X.calm=true):CallR X (.builtin "min") (λxs H Q=>∃(p:Addr) (ns:List Int),xs=[.ref p]/\SqL X.K H p (ns.map V.int)/\0<ns.length/\Q (.int (fM ns)) H):=by
 intro f8 s σ H xs us Q I r h;obtain⟨a,ns,rfl,hq,h0,q⟩:=h;obtain⟨u,rfl,r1⟩:=r.one;cases (show u=_ from r1);obtain⟨aE,rv,pl,hz⟩:=I.list hq;have hi:Ta aE ns:=by simpa using intsAre_of rv
 obtain⟨xs,hx,hsz,nN⟩:=nX hi;obtain⟨g1,g2⟩:=argBest_lt (numAt xs) (xs.size - 1);refine min_intList (I.ok.hd hc) (show s.heap.IsList a (intItems xs) from hx▸pl.isList) (by omega) λv h' tk hv hk=>?_;obtain⟨t,rfl⟩:=intItems_at hv;have hM:=nN (argBest (λi j=>decide (numAt xs i<numAt xs j)) (xs.size - 1)) (by omega);obtain⟨m1,m2⟩:=iN h0;have e:numAt xs (argBest (λi j=>decide (numAt xs i<numAt xs j)) (xs.size - 1))=fM ns:=by
  refine Int.le_antisymm ?_ (m2 _ hM.1);obtain⟨j,hj,e⟩:=Us m1;have h2:=(nN j (by omega)).2;rw[QN hj,e] at h2;rw[Rx h2];exact g2 j (by omega)
 rw[e];exact⟨.int (fM ns),H,I.kept hk,⟨_,rfl⟩,q⟩
def iQ(hc:X.calm=true)(hg:Gl X "max")(hm:X.mg "max"=none)(hb:Rv "max"=some (.builtin "max"))(ha:jl X Xw [e] δs)(he:Q8 [e] X.env=[(false,eval e X.env)]:=by rfl):PD X Xw (.Call (.Name "max" p) [e] [] pos) (dA f6 δs):=
 cF (yY hc) (λXw F H vs ds Q s h w=>by
  unfold f6 at w;split at w
  ·rename_i ds;obtain⟨v,rfl,h1⟩:=h.one;obtain⟨a,ws,rfl,h2,h3,h4⟩:=h1;split at w
   ·rename_i ns Dt;split at w
    ·rename_i h0;have e:=de Dt h3;subst e;exact⟨a,ns,rfl,SqL.of (s _ _ h2),h0,WP.now w s rfl⟩
    ·exact w.elim
   ·exact w.elim
  ·exact w.elim) hg hm hb ha (by decide) (by decide) he rfl
def mY(hc:X.calm=true)(hg:Gl X "min")(hm:X.mg "min"=none)(hb:Rv "min"=some (.builtin "min"))(ha:jl X Xw [e] δs)(he:Q8 [e] X.env=[(false,eval e X.env)]:=by rfl):PD X Xw (.Call (.Name "min" p) [e] [] pos) (dA j5 δs):=
 cF (y6 hc) (λXw F H vs ds Q s h w=>by
  unfold j5 at w;split at w
  ·rename_i ds;obtain⟨v,rfl,h1⟩:=h.one;obtain⟨a,ws,rfl,h2,h3,h4⟩:=h1;split at w
   ·rename_i ns Dt;split at w
    ·rename_i h0;have e:=de Dt h3;subst e;exact⟨a,ns,rfl,SqL.of (s _ _ h2),h0,WP.now w s rfl⟩
    ·exact w.elim
   ·exact w.elim
  ·exact w.elim) hg hm hb ha (by decide) (by decide) he rfl
end
end L3
namespace L3
open PySem PySem.Spec L2
open PyProof.Rows hiding St
section
variable{X:Cx}{Xw:Nat->Hp->Prop}{a b:Expr}{δa δb:DE}{pos:Pos}
def KG(ha:PD X Xw a δa)(hb:PD X Xw b δb):pE X Xw (.Compare a [.GtE] [b] pos) (dS (d2 Jw δa δb)):=fF Ku (uX λ_ _ _=>rfl) ha hb
end
end L3
namespace L3
open PySem PySem.Spec L2 SeqAt HT
open PyProof.Rows hiding St
section
variable{X:Cx}{Xw:Nat->Hp->Prop}{a e o:Expr}{δo:DE}{δs:DA}{p v4 a6:Pos}
def MU(n:Int):Value->Bool
 | .int i _=>i==n
 |_=>false
def qq:D->List D->M D
 | .lst ds,[.int n]=>match nums ds with
   |some ns=>if ns.contains n then aa (.int (ns.idxOf n)) else af
   |none=>af
 |_,_=>af
def KO(K:QZ):V->List V->Hp->VK->Prop:=λx vs H Q=>∃(a:Addr) (ns:List Int) (n:Int),x= .ref a/\vs=[.int n]/\H a=some (.lst (ns.map V.int))/\ns.contains n=true/\Q (.int (ns.idxOf n)) H
def Ep:Jg X "list.index" (KO X.K):=by
 intro f8 s σ H x vs v us Q I rx rv h;obtain⟨a,ns,n,rfl,rfl,hH,hc,q⟩:=h;cases rx;obtain⟨u,rfl,r1⟩:=rv.one;obtain⟨t,rfl⟩:=r1;obtain⟨z,aE,m,r,hl,e⟩:=I.lstM hH;have v6:=r.length;rw[QM] at v6;have at':∀i (h:i<aE.length),∃t,aE[i]= .int (ns[i]'(by omega)) t:=λi h=>by
  have q:=lN i r (by rw[QM];omega);rw[QS,Q1,QN (by omega:i<ns.length),QS,QN h] at q;exact q
 have hm:n∈ns:=by simpa using hc
 have eE:ns.idxOf n<ns.length:=List.idxOf_lt_length_iff.mpr hm;have hz:ns.length<=Q_:=by simpa using z
 have hs:Q_=16777216:=SA;refine V7 F.slot_list_index ⟨_,e,rfl⟩ F.entry_list_index (F.args_list_index_2 _ _) (list_indexAt a _ m none #[] (.int n t) (MU n) (ns.idxOf n) (by simp;omega) (by omega) ?_ ?_) ⟨e,λy hy=>?_,?_⟩
 ·obtain⟨t',e1⟩:=at' (ns.idxOf n) (by omega);have:ns[ns.idxOf n]=n:=List.getElem_idxOf eE;simp[MU,e1,this]
 ·intro k pJ DY;have PJ:k<aE.length:=by simpa using pJ
  obtain⟨t',e1⟩:=at' k PJ;have:ns[k]'(by omega)≠n:=λz=>by
   have:=List.not_of_lt_findIdx (p:=(· ==n)) (xs:=ns) (i:=k) DY;rw[z] at this;simp at this
  simp[MU,e1,this]
 ·have hy:y∈aE:=by simpa using hy
  obtain⟨i,hi,rfl⟩:=Us hy;obtain⟨t',e1⟩:=at' i hi;rw[e1];exact EqAt.int_int _ _ _ _
 ·exact⟨.int (ns.idxOf n),H,I.tok _,⟨_,rfl⟩,q⟩
def yp(ho:PD X Xw o δo)(ha:jl X Xw [e] δs)(eX:SX o "index" X.env (eval o X.env)=eval o X.env:=by rfl)
 (k9:((Tr a6 (Q8 [e] X.env)).all (λx=>!x.1)&&(U7 a6 (T2 [] X.env)).all (λx=>x.1.isSome)&&decide ([e].length+([]:List TN).length+(if ([]:List TN).isEmpty then 0 else 1)<30))=true:=by rfl)
 (eY:(v4.endLine==a6.line)=true:=by rfl)(rU:Q8 [e] X.env=[(false,eval e X.env)]:=by rfl):PD X Xw (.Call (.Attribute o "index" v4) [e] [] a6) (dM eZ qq δo δs):=
 B4 TK PySem.F.slot_list_index PySem.F.type_list_index Ep uu (λXw F H x vs d ds Q s hx hv w=>by
  unfold qq at w;split at w
  ·rename_i ds n;obtain⟨v,rfl,h1⟩:=hv.one;cases (show _=_ from h1);obtain⟨a,ws,rfl,h2,h3,_⟩:=hx;split at w
   ·rename_i ns hb;split at w
    ·rename_i hc;exact⟨a,ns,n,rfl,rfl,by rw[<-de hb h3];exact s _ _ h2,hc,WP.now w s rfl⟩
    ·exact w.elim
   ·exact w.elim
  ·exact w.elim) ho ha eX k9 eY rU rfl
end
section
variable{a:Expr}
end
end L3
namespace L3
open PySem PySem.Spec L2
open PyProof.Rows hiding St
section
variable{prog:Ru}{w:World}{A:RQ}{E:Value->QT->Prop}{s:QT}
def xo{d:Addr}{od:Obj}{es:Array Sn}{ep:Nat}{Q:Value->QT->Prop}(lo:(d==So)=false)(ho:s.heap.get? d=some od)(hx:od.ExactDict)(hd:od.data= .dict es ep)
 (hQ:Q (.ref s.heap.objs.size) {s with heap:=s.heap.push {cls:= .type "dict_items",data:= .fields #[.ref d]} }):wpAny (model prog w) A (call (.builtin "dict.items") [.ref d]) Q E s:=by
 have hT:s.TypeIs (.ref d) "dict":=⟨od,ho,hx.1⟩
 refine RJ F.slot_dict_items hT F.entry_dict_items ?_ (F.args_dict_items_1 _);unfold TB.«dict.items»;refine QL ?_;unfold Builtin.Dict.noArgs;refine QL (Vi hT ?_);show wpAny _ _ (pure d) _ _ s;refine QP ?_;show wpAny _ _ (S9 d>>=_) _ _ s;unfold S9;rw[XH (by rw[lo];exact Ra)];refine QL (QP ?_);exact QL (RU (QP ⟨_,rfl,hQ⟩))
def wy{v d:Addr}{od:Obj}{es:Array Sn}{ep:Nat}{Q:Value->QT->Prop}(hv:s.heap.IsItemsView v d)(ho:s.heap.get? d=some od)(JJ:od.data= .dict es ep)
 (hQ:Q (.ref s.heap.objs.size) {s with heap:=s.heap.push {cls:= .type "dict_itemiterator",data:= .fields #[.none, .bool false, .ref d, .int 0 0, .int es.size 0, .int ep 0, .none, .none]} }):
 wpAny (model prog w) A (pyIter (.ref v)) Q E s:=by
 obtain⟨ov,P4,QF,Pm⟩:=id hv;refine V1 hv.typeIs Xf (RJ Xf hv.typeIs F.entry_dict_items_iter ?_ (F.args_dict_items_iter_1 _));unfold TB.«dict_items.__iter__»;refine QL (QP ?_);refine QL ?_;unfold Builtin.Dict_items.dictOf;refine QL (Tg P4 Pm (x:= .ref d) rfl (QP ?_));refine QL ?_;unfold Builtin.Dict_items.newIterator;refine QL (RW ho JJ ?_);refine QL (SM ho JJ ?_);have nR:R6 "dict_itemiterator"=true:=by decide
 simp only[nR,if_true];refine RU (QP ⟨_,rfl,"dict_itemiterator",_,⟨_,Q3 _ rfl,rfl⟩,F.slot_dict_itemiterator_next.lookup,?_⟩)
  (by simp only[sizeOk,Uu,QW,Q2,QV,Sb,SA];omega)
 simpa[TH,Uu] using hQ
def next_item{it d:Addr}{od:Obj}{es:Array Sn}{i ep:Nat}{e:Sn}{ok ov:Value}{Q:Option Value->QT->Prop}(W1:Vw s.heap it d i es.size ep ok ov)(j1:s.heap.get? d=some od)(fo:od.data= .dict es ep)(hx:es[i]? =some e)
 (hQ:∀h',Xu h' it d (i+1) es.size ep e.key e.val s.heap.objs.size->h'.get? s.heap.objs.size=some {cls:= .type "tuple",data:= .seq #[e.key,e.val]}->h'.objs.size=s.heap.objs.size+1->
  (∀b o,b≠it->s.heap.get? b=some o->h'.get? b=some o)->Q (some (.ref s.heap.objs.size)) {s with heap:=h'}):
 wpAny (model prog w) A (Ug (.ref it)) Q E s:=by
 obtain⟨hp,g,dr,tk,os⟩:=s;have hT:Vf ⟨hp,g,dr,tk,os⟩ (.ref it) "dict_itemiterator":=⟨_,W1,rfl⟩
 unfold Ug;refine QL (TC (Sk (name:=Su "__next__") hT Sg
  (RJ Sg hT Ul ?_ (Ud _))))
 refine QL (QP ?_);refine QL ?_;refine QL ?_
 first | refine QL (Sd hT (QP ?_)) | refine QL (Sw hT (QP ?_))
 refine QL (UO W1 rfl ?_);have nR:R6 "dict_itemiterator"=true:=by decide
 simp only[nR,if_true];show wpAny _ _ (if (Rc d==Rp)=true then _ else _) _ _ _;rw[XH (show¬((Rc d==Rp)=true) from Ra)];refine QL (QP ?_);refine QL (RW j1 fo ?_);rw[XH (by simp)];refine QL (QP ?_);refine QL (SM j1 fo ?_);rw[XH (by simp)];refine QP ?_;simp only[show¬((i:Int)<0) from by omega,if_false,Tv,hx];refine QL ?_
 first | refine QL (Sd hT (QP ?_)) | refine QL (Sw hT (QP ?_))
 refine QL (SR hT ?_);show wpAny _ _ (Ww (.ref it) 3 (TH ((i:Int)+1))>>=_) _ _ ⟨hp,g,dr,tk,os⟩;refine QL (SW W1 (by simp) λh₁ A_ Bh=>?_)
 replace Bh:R9 it hp h₁:=Bh
 replace A_:Vw h₁ it d (i+1) es.size ep ok ov:=by
  have e:((i+1:Nat):Int)=(i:Int)+1:=by omega
  unfold Vw;rw[e];simpa[TH] using A_
 have GP:Vf ⟨h₁,g,dr,tk,os⟩ (.ref it) "dict_itemiterator":=⟨_,A_,rfl⟩
 refine QL (SH ?_);refine QL (SR GP ?_);refine QL (SR GP ?_);show wpAny _ _ (Sz (.ref it) 6 e.key e.val) _ _ ⟨h₁,g,dr,tk,os⟩;unfold Sz;refine QL (VB ?_);have Ba:Vw (h₁.push {cls:= .type "tuple",data:= .seq #[e.key,e.val]}) it d (i+1) es.size ep ok ov:=QO _ A_;generalize DV:h₁.push {cls:= .type "tuple",data:= .seq #[e.key,e.val]}=XT at Ba;have D5:h₁.objs.size=hp.objs.size:=Bh.1;have Dr:it<hp.objs.size:=QY W1;have MI:XT.get? hp.objs.size=some {cls:= .type "tuple",data:= .seq #[e.key,e.val]}:=by rw[<-DV,<-D5];exact Q3 _ rfl
 have MR:XT.objs.size=hp.objs.size+1:=by rw[<-DV,Uz,D5]
 have Lw:∀b o,b≠it->hp.get? b=some o->XT.get? b=some o:=λb o hb e=>by rw[<-DV];exact QO _ (Bh.extBut b o hb e)
 show wpAny _ _ (Sr (.ref it)>>=_) _ _ ⟨XT,g,dr,tk,os⟩;rw[D5];clear DV A_ Bh GP D5 h₁;refine QL ?_;unfold Sr;refine QL (Tg Ba rfl (x:= .none) rfl (QP ?_));simp only[if_true];refine QL (Tg Ba rfl (x:=ok) rfl ?_);refine QL (Tg Ba rfl (x:=ov) rfl ?_);refine QL (SW Ba (by simp) λXU GU zl=>?_)
 replace zl:R9 it XT XU:=zl
 replace GU:Vw XU it d (i+1) es.size ep e.key ov:=GU
 refine QL (SW GU (by simp) λXZ Mj J5=>?_)
 replace J5:R9 it XU XZ:=J5
 replace Mj:Vw XZ it d (i+1) es.size ep e.key e.val:=Mj
 refine QL (SW Mj (by simp) λX0 Mk J6=>?_)
 replace J6:R9 it XZ X0:=J6
 replace Mk:Xu X0 it d (i+1) es.size ep e.key e.val hp.objs.size:=Mk
 refine QL (SW Mk (by simp) λX2 Ml J7=>?_)
 replace J7:R9 it X0 X2:=J7
 replace Ml:Xu X2 it d (i+1) es.size ep e.key e.val hp.objs.size:=Ml
 refine QL (wpAny_letGo (QP (QP ⟨_,rfl,QP (hQ X2 Ml ?_ ?_ ?_)⟩)))
 ·exact J7.extBut _ _ (RT Dr) (J6.extBut _ _ (RT Dr) (J5.extBut _ _ (RT Dr) (zl.extBut _ _ (RT Dr) MI)))
 ·show X2.objs.size=hp.objs.size+1;rw[J7.1,J6.1,J5.1,zl.1,MR]
 ·exact λb o hb e=>J7.extBut b o hb (J6.extBut b o hb (J5.extBut b o hb (zl.extBut b o hb (Lw b o hb e))))
end
def zf{X:Cx}{f8:List (Addr×Obj)}{σ:St}{H:Hp}{s:QT}{d:Addr}{od:Obj}{az:List (List Key×V)}(I:Inv X f8 σ H s)(h:H d=some (.frz od (.dT az))):
 ∃es ep,(d==So)=false/\s.heap.get? d=some od/\od.ExactDict/\od.data= .dict es ep/\es.size=az.length/\∀(i:Nat) (k:List Key) (v:V),az[i]? =some (k,v)->∃(e:Sn) (b:Addr),es[i]? =some e/\e.key= .ref b/\H b=some (.tup (k.map kV))/\RelV v e.val:=by
 obtain⟨ho,z,lo,xs,rel,o,es,ep,h1,h2,h3,h4,h5⟩:=(show ObjOk X.prog X.w H s.heap d (.frz od (.dT az)) from I.hok d _ h)
 rw[ho] at h1;cases h1;have hl:es.size=az.length:=by
  rw[<-Q5,h4,QM];exact(SK rel).symm
 refine⟨es,ep,lo,ho,h2,h3,hl,λi k v hi=>?_⟩;obtain⟨q,e1,e2,e3,e4⟩:=gA rel hi;refine⟨V5 (Tn (bc X.prog X.w)) q,q.2.1,?_,rfl,e3,e4⟩;rw[<-SQ,h4,Q1,e1];rfl
section
variable{X:Cx}{Xw:Nat->Hp->Prop}{a b:Expr}{δa δb:DE}{pos:Pos}
def Ib(ha:PD X Xw a δa)(hb:PD X Xw b δb)(hm:RX .In b=false:=by rfl):pE X Xw (.Compare a [.In] [b] pos) (dS (d2 (iZ false) δa δb)):=fF qK wo ha hb hm
end
end L3
namespace L3
open PySem PySem.Spec L2 HT
open PyProof.Rows hiding St
end L3
namespace L3
open PySem PySem.Spec L2 SeqAt HT
open PyProof.Rows hiding St
abbrev QA:=List (Key×List Key)
def NM(ρ:cp):Bool:=ρ.all λx=>match x with | some (.ow _)=>false | _=>true
end L3
namespace L3
open PySem PySem.SetTable
def tM(m:Nat):SetTable:={mask:=m,place:= #[],dummies:= #[],finger:=0,led:=false,moves:=0,plain:=true}
def pos(m:Nat)(h:Int)(n:Nat):Nat:=(NK (tM m) n ((tM m).probeStart h)).j
end L3
namespace L3
open PySem PySem.Spec L2 SeqAt
open PyProof.Rows hiding St
def anyM:List D->M D
 |[.lst ds]=>match bools ds with
  |some bs=>aa (.bl (bs.any id))
  |none=>af
 |_=>af
section
variable{X:Cx}{Xw:Nat->Hp->Prop}{e:Expr}{δs:DA}{pos p:Pos}
def M9:List V->Hp->VK->Prop:=λxs H Q=>∃(a:Addr) (bs:List Bool),xs=[.ref a]/\H a=some (.lst (bs.map V.bl))/\Q (.bl (bs.any id)) H
def any_range{bs:List Bool}:(Rf bs.length).any (λi=>bs.getD i false)=bs.any id:=by
 induction bs with
 |nil=>rfl
 |cons b bs ih=>
  rw[QV,UT,Tt,WQ,Tt];congr 1
def yW(hc:X.calm=true):CallR X (.builtin "any") M9:=by
 intro f8 s σ H xs us Q I r h;obtain⟨a,bs,rfl,hH,q⟩:=h;obtain⟨u,rfl,r1⟩:=vals1 r;cases (show u=_ from r1);obtain⟨aE,r2,pl,hz⟩:=I.list (SqL.of (K:=X.K) hH);obtain rfl:=tB r2;have jv:a≠s.heap.objs.size:=Rl (I.hok.lt hH);refine call_any_walk (V2 pl.isList ?_);refine⟨s.heap.objs.size,_,_,_,_,_,λi=>bs.getD i false,rfl,Walks.list (A:=X.A.in1) (show X.A.in1.handled=none from I.ok.hd hc) s.heap.objs.size a jv (bs.map SD).toArray,⟨⟨_,Q3 _ rfl,rfl,rfl⟩,WR pl.isList λo e=>QO _ e⟩,?_,λh' tk k=>?_⟩
 ·intro i v s' Q' E' hv hq;have hv:(bs.map SD).toArray[i]? =some v:=hv;rw[WN,Q1] at hv;cases q':bs[i]? with
  |none=>rw[q'] at hv;cases hv
  |some b=>
   rw[q'] at hv;cases hv;have:bs.getD i false=b:=by rw[QS,q'];rfl
   have hq:Q' (bs.getD i false) s':=hq;rw[this] at hq;exact Ss hq
 ·have e:(Rf (bs.map SD).toArray.size).any (λi=>bs.getD i false)=bs.any id:=by
   rw[QW,QM];exact any_range
  rw[e];refine⟨.bl (bs.any id),H,I.kept (h':=h') (t':=tk) λb o e'=>k b o (λz=>?_) (QO _ e'),rfl,q⟩;have z:b=s.heap.objs.size:=by simpa using z
  exact XN (QY e') (by rw[z];exact RC _)
def HF(hc:X.calm=true)(hg:Gl X "any")(hm:X.mg "any"=none)(hb:Rv "any"=some (.builtin "any"))(ha:jl X Xw [e] δs)(he:Q8 [e] X.env=[(false,eval e X.env)]:=by rfl):PD X Xw (.Call (.Name "any" p) [e] [] pos) (dA anyM δs):=
 cF (yW hc) (λXw F H vs ds Q s h w=>by
  unfold anyM at w;split at w
  ·rename_i ds;obtain⟨v,rfl,h1⟩:=h.one;obtain⟨a,ws,rfl,h2,h3,_⟩:=h1;split at w
   ·rename_i bs hb;exact⟨a,bs,rfl,by rw[<-kW hb h3];exact s _ _ h2,WP.now w s rfl⟩
   ·exact w.elim
  ·exact w.elim) hg hm hb ha (by decide) (by decide) he rfl
end
section
variable{X:Cx}{Xw:Nat->Hp->Prop}{a b:Expr}{δa δb:DE}{pos:Pos}
def B5(ha:PD X Xw a δa)(hb:PD X Xw b δb)(hm:RX .In b=false:=by rfl):PD X Xw (.Compare a [.In] [b] pos) (d2 (iZ false) δa δb):=wX qK wo ha hb hm
end
end L3
namespace L3
open PySem PySem.Spec L2 SeqAt HT
open PyProof.Rows hiding St
end L3
namespace L3
open PySem PySem.Spec L2 PySem.W
open PyProof.Rows hiding St
section
variable{prog:Ru}{w:World}{A:RQ}{E:Value->QT->Prop}{s:QT}
def BM{it d a:Addr}{od oa:Obj}{es:Array Sn}{i ep:Nat}{e:Sn}{ok ov:Value}{f:Bool}{Q:Option Value->QT->Prop}(W1:KdxIt s.heap it d i es.size ep ok ov a f)(ha:s.heap.get? a=some oa)(JE:a≠it)
 (j1:s.heap.get? d=some od)(fo:od.data= .dict es ep)(hx:es[i]? =some e)
 (hQ:∀h',KdxIt h' it d (i+1) es.size ep ok ov a true->h'.get? s.heap.objs.size=some {cls:= .type "tuple",data:= .seq #[e.key,e.val]}->h'.objs.size=s.heap.objs.size+1->
  (∀b o,b≠it->s.heap.get? b=some o->h'.get? b=some o)->Q (some (.ref s.heap.objs.size)) {s with heap:=h'}):
 wpAny (model prog w) A (Ug (.ref it)) Q E s:=by
 obtain⟨hp,g,dr,tk,os⟩:=s;have hT:Vf ⟨hp,g,dr,tk,os⟩ (.ref it) "dict_itemiterator":=⟨_,W1,rfl⟩
 unfold Ug;refine QL (TC (Sk (name:=Su "__next__") hT Sg (RJ Sg hT Ul ?_ (Ud _))));refine QL (QP (QL (QL ?_)))
 first | refine QL (Sd hT (QP ?_)) | refine QL (Sw hT (QP ?_))
 refine QL (UO W1 rfl ?_);have nR:R6 "dict_itemiterator"=true:=by decide
 simp only[nR,if_true];show wpAny _ _ (if (Rc d==Rp)=true then _ else _) _ _ _;rw[XH (show¬((Rc d==Rp)=true) from Ra)];refine QL (QP (QL (RW j1 fo ?_)));rw[XH (by simp)];refine QL (QP (QL (SM j1 fo ?_)));rw[XH (by simp)];refine QP ?_;simp only[show¬((i:Int)<0) from by omega,if_false,Tv,hx];refine QL ?_
 first | refine QL (Sd hT (QP ?_)) | refine QL (Sw hT (QP ?_))
 refine QL (SR hT ?_);show wpAny _ _ (Ww (.ref it) 3 (TH ((i:Int)+1))>>=_) _ _ ⟨hp,g,dr,tk,os⟩;refine QL (SW W1 (by simp) λh₁ A_ Bh=>?_)
 replace Bh:R9 it hp h₁:=Bh
 replace A_:KdxIt h₁ it d (i+1) es.size ep ok ov a f:=by
  have e:((i+1:Nat):Int)=(i:Int)+1:=by omega
  unfold KdxIt;rw[e];simpa[TH] using A_
 have GP:Vf ⟨h₁,g,dr,tk,os⟩ (.ref it) "dict_itemiterator":=⟨_,A_,rfl⟩
 refine QL (SH (QL (SR GP (QL (SR GP ?_)))));show wpAny _ _ (Sz (.ref it) 6 e.key e.val) _ _ ⟨h₁,g,dr,tk,os⟩;unfold Sz;refine QL (VB ?_);have Ba:KdxIt (h₁.push {cls:= .type "tuple",data:= .seq #[e.key,e.val]}) it d (i+1) es.size ep ok ov a f:=QO _ A_;generalize DV:h₁.push {cls:= .type "tuple",data:= .seq #[e.key,e.val]}=XT at Ba;have D5:h₁.objs.size=hp.objs.size:=Bh.1;have Dr:it<hp.objs.size:=QY W1;have MI:XT.get? hp.objs.size=some {cls:= .type "tuple",data:= .seq #[e.key,e.val]}:=by rw[<-DV,<-D5];exact Q3 _ rfl
 have MR:XT.objs.size=hp.objs.size+1:=by rw[<-DV,Uz,D5]
 have Lw:∀b o,b≠it->hp.get? b=some o->XT.get? b=some o:=λb o hb e=>by rw[<-DV];exact QO _ (Bh.extBut b o hb e)
 show wpAny _ _ (Sr (.ref it)>>=_) _ _ ⟨XT,g,dr,tk,os⟩;rw[D5];clear DV A_ Bh GP D5 h₁;refine QL ?_;unfold Sr;refine QL (Tg Ba rfl (x:=TH a) rfl ?_);show wpAny _ _ (loadIfAlive ((a:Int).toNat)>>=_) _ _ _;rw[Tv];refine QL (kdx_alive (Lw a oa JE ha) ?_);simp only[Option.isNone_some,Ro,if_false];refine QL (Tg Ba rfl (x:= .bool f) rfl ?_);have fin:∀XU:Heap,KdxIt XU it d (i+1) es.size ep ok ov a true->R9 it XT XU->Q (some (.ref hp.objs.size)) ⟨XU,g,dr,tk,os⟩:=λXU GU zl=>
  hQ XU GU (zl.extBut _ _ (RT Dr) MI) (by show XU.objs.size=hp.objs.size+1;rw[zl.1,MR]) λb o hb e=>zl.extBut b o hb (Lw b o hb e)
 cases f with
 |true=>
  rw[XH (show¬((SD true !=SD true)=true) from Ra)];refine QP ?_;simp only[Ro,if_false];exact QP (QP ⟨_,rfl,QP (fin XT Ba (U2 _ _))⟩)
 |false=>
  rw[XG (show (SD false !=SD true)=true from rfl)];refine QL (SW Ba (by simp) λXU GU zl=>QP ?_);simp only[Ro,if_false];exact QP (QP ⟨_,rfl,QP (fin XU GU zl)⟩)
def xK{it d:Addr}{od:Obj}{es:Array Sn}{i ep:Nat}{y0 y1 ok ov:Value}{Q:Option Value->QT->Prop}(hh:A.handled=none)
 (W1:s.heap.get? it=some {cls:= .type "dict_itemiterator",dict:=none,data:= .fields #[y0,y1, .ref d, .int i 0, .int es.size 0, .int ep 0,ok,ov],slots:= #[]})(Px:es.size<=i)(j1:s.heap.get? d=some od)(fo:od.data= .dict es ep)
 (hQ:∀h',UN it s.heap h'->Q none {s with heap:=h'}):wpAny (model prog w) A (Ug (.ref it)) Q E s:=by
 have hT:s.TypeIs (.ref it) "dict_itemiterator":=⟨_,W1,rfl⟩
 unfold Ug;refine QL (TC (Sk (name:=Su "__next__") hT Sg (RJ Sg hT Ul ?_ (Ud _))));refine QL (QP (QL (QL ?_)))
 first | refine QL (Sd hT (QP ?_)) | refine QL (Sw hT (QP ?_))
 refine QL (UO W1 rfl ?_);have nR:R6 "dict_itemiterator"=true:=by decide
 simp only[nR,if_true];show wpAny _ _ (if (Rc d==Rp)=true then _ else _) _ _ s;rw[XH (show¬((Rc d==Rp)=true) from Ra)];refine QL (QP (QL (RW j1 fo ?_)));rw[XH (by simp)];refine QL (QP (QL (SM j1 fo ?_)));rw[XH (by simp)];refine QP ?_;simp only[show¬((i:Int)<0) from by omega,if_false,Tv,WA Px];refine QL ?_
 first | refine QL (Sd hT (QP ?_)) | refine QL (Sw hT (QP ?_))
 show wpAny _ _ (Ww (.ref it) 2 .none>>=_) _ _ s;refine QL (Um W1 rfl (by simp) ?_);show wpAny _ _ (newExc (.type "StopIteration") []>>=_) _ _ _;refine QL ?_;simp only[newExc,newTuple];refine QL (RU ?_ (by size_fits));refine QL (m:=UQ _ _) (T1 (a:=Rp) (by first | rfl | (simp only[UQ];rfl)) ?_);refine RU ?_ (by size_fits);simp only[raiseNew];refine QL (Xh ?_);rw[show A.in1.handled=none from hh];refine QL (QP (wpAny_throw ?_));refine QL (Ut (T:="StopIteration") (b:=true) ⟨_,Q3 _ rfl,rfl⟩ WV ?_);exact QP (hQ _ (((Rk ..).extBut.push _).push _))
def Prs(es:Array Sn)(lo:Addr)(h:Heap)(n:Nat)(as:List Addr):Prop:=as.length=n/\as.Nodup/\∀(j:Nat) (a:Addr),as[j]? =some a->lo<a/\∃e,es[j]? =some e/\h.get? a=some {cls:= .type "tuple",data:= .seq #[e.key,e.val]}
def Prs.keep{es:Array Sn}{lo Ow:Addr}{h h':Heap}{n:Nat}{as:List Addr}(p:Prs es lo h n as)(hl:Ow<=lo)(hk:∀b o,lo<b->h.get? b=some o->h'.get? b=some o):Prs es Ow h' n as:=⟨p.1,p.2.1,λj a hj=>by
 obtain⟨h1,e,h2,h3⟩:=p.2.2 j a hj;exact⟨Vy hl h1,e,h2,hk a _ h1 h3⟩⟩
variable{R:Result->QT->Prop}
def D8{S I d:Addr}{od:Obj}{es:Array Sn}{ep:Nat}(hh:A.handled=none)(JD:S<I)(Lq:d≠S)(Pc:d≠I)(fo:od.data= .dict es ep)(hn:es.size<=Q_)(res:Value){h₁:Heap}
 (hR:∀h' tk u8 c as,(∀b o,b≠S->b≠I->h₁.get? b=some o->h'.get? b=some o)->h'.get? S=some {cls:= .type "list",dict:=none,data:= .seq u8 c,slots:= #[]}->Prs es I h' es.size as->u8.toList=as.map Rc->R (.ok (.ret res)) {s with heap:=h',toks:=tk}):
 ∀(k i:Nat) (h:Heap) (tk c:Nat) (u8:Array Value) (as:List Addr),es.size - i=k->i<=es.size->KdxSt h I d S i es.size ep->h.get? d=some od->(∀b o,b≠S->b≠I->h₁.get? b=some o->h.get? b=some o)->
  h.get? S=some {cls:= .type "list",dict:=none,data:= .seq u8 c,slots:= #[]}->u8.toList=as.map Rc->Prs es I h i as->I<h.objs.size->
  U6 (model prog w) A (.builtin "list.extend.loop" ⟨[.ref S, .ref I,res],[]⟩) R {s with heap:=h,toks:=tk}:=by
 have jv:S≠I:=Rl JD;intro k;induction k with
 |zero=>
  intro i h tk c u8 as hk hi rU hD j0 hS i3 hP Lo;have FU:i=es.size:=by omega
  subst FU;refine Vm F.entry_extend_loop ?_;rw[Ue TQ _];show wpAny _ A.in1 (Ug (.ref I)>>=_) _ _ _;have last:∀h',UN I h h'->R (.ok (.ret res)) {s with heap:=h',toks:=tk}:=λh' he=>hR h' tk u8 c as (λb o h1 h2 e=>he b o h2 (j0 b o h1 h2 e)) (he S _ jv hS) (hP.keep (Q0 _) λb o hb e=>he b o (RT hb) e) i3;rcases rU with⟨_,ok,ov,W1⟩ | ⟨ok,ov,a,f,oa,W1,_,_,_⟩
  ·rename_i e0;rw[<-e0] at W1;exact QL (xK (s:={s with heap:=h,toks:=tk}) (A:=A.in1) hh W1 (Q0 _) hD fo λh' he=>QP (last h' he))
  ·exact QL (xK (s:={s with heap:=h,toks:=tk}) (A:=A.in1) hh W1 (Q0 _) hD fo λh' he=>QP (last h' he))
 |succ k ih=>
  intro i h tk c u8 as hk hi rU hD j0 hS i3 hP Lo;have eE:i<es.size:=by omega
  obtain⟨e,hx⟩:∃e,es[i]? =some e:=⟨es[i],RK eE⟩
  have hsz:u8.size=i:=by rw[<-Q5,i3,QM,hP.1]
  have N3:S<h.objs.size:=QY hS;refine Vm F.entry_extend_loop ?_;rw[Ue TQ _];show wpAny _ A.in1 (Ug (.ref I)>>=_) _ _ _;have go:∀h':Heap,KdxSt h' I d S (i+1) es.size ep->h'.get? h.objs.size=some {cls:= .type "tuple",data:= .seq #[e.key,e.val]}->(∀b o,b≠I->h.get? b=some o->h'.get? b=some o)->
   wpAny (model prog w) A.in1 (updateSeq S (·.push (Rc h.objs.size))>>=λ_=>again (.builtin "list.extend.loop" ⟨[.ref S, .ref I,res],[]⟩)) (λfin s'=>match fin with | .done f=>R (.ok f) s' | .again c'=>c'.quiet=true/\U6 (model prog w) A c' R s') (λe s'=>R (.error e) s') {s with heap:=h',toks:=tk}:=λh' MG ht Lv=>by
   have Am:=Lv S _ jv hS;have up:∀b o,b≠S->h'.get? b=some o->(h'.update S (RA (·.push (Rc h.objs.size)))).get? b=some o:=λb o hb e=>(T7 _ _ (R3 hb)).trans e;have DZ:=up _ _ (RT N3) ht;refine QL (WB Am rfl (QP ⟨VL TQ _,ih (i+1) _ tk _ (u8.push (Rc h.objs.size)) (as++[h.objs.size]) (by omega) eE (MG.keep up (R3 jv)) (up d _ Lq (Lv d _ Pc hD))
    (λb o h1 h2 e=>up b o h1 (Lv b o h2 (j0 b o h1 h2 e))) (R1 _ Am rfl) (by rw[Array.toList_push,i3,S0];rfl) ⟨by rw[Q2,hP.1];rfl,?_,λj b hj=>?_⟩ (S7 Lo (QY DZ))⟩) (by rw[hsz];omega) (by show (u8.push (Rc h.objs.size)).size<=Q_+1;rw[Array.size_push,hsz];omega))
   ·refine SY.mpr ⟨hP.2.1,by simp,λa ha b hb z=>?_⟩;obtain⟨j,hj⟩:=WM.mp ha;obtain⟨_,e',_,h3⟩:=hP.2.2 j a hj;have:=QY h3;rw[z,TU.mp hb] at this;exact RC _ this
   by_cases Mu:j<as.length
   ·rw[RN Mu] at hj;obtain⟨h1,e',h2,h3⟩:=hP.2.2 j b hj;exact⟨h1,e',h2,up b _ (RT (S7 JD h1)) (Lv b _ (RT h1) h3)⟩
   ·rw[RD (by omega)] at hj;by_cases h0:j - as.length=0
    ·rw[h0] at hj;cases hj;exact⟨Lo,e,by rw[show j=i by have:=hP.1;omega];exact hx,DZ⟩
    ·rw[Ub (by simp;omega)] at hj;cases hj
  rcases rU with⟨e0,ok,ov,W1⟩ | ⟨ok,ov,a,f,oa,W1,ha,JE,Pg⟩
  ·subst e0;refine QL (next_item (s:={s with heap:=h,toks:=tk}) (A:=A.in1) W1 hD fo hx λh' h1 h2 h3 h4=>?_);exact go h' (.inr ⟨e.key,e.val,_,false,_,h1,h2,RT Lo,RT N3⟩) h2 h4
  ·refine QL (BM (s:={s with heap:=h,toks:=tk}) (A:=A.in1) W1 ha JE hD fo hx λh' h1 h2 h3 h4=>?_);exact go h' (.inr ⟨ok,ov,a,true,oa,h1,h4 a oa JE ha,JE,Pg⟩) h2 h4
def zr{r d:Addr}{od:Obj}{es:Array Sn}{ep:Nat}(hh:A.handled=none)(hv:s.heap.IsItemsView r d)(j1:s.heap.get? d=some od)(fo:od.data= .dict es ep)(hn:es.size<=Q_){S:Addr}(Pf:S≠r)(Lq:d≠S)(res:Value){c₀:Nat}(hS:s.heap.get? S=some {cls:= .type "list",data:= .seq #[] c₀})
 (hR:∀h' tk u8 c as,(∀b o,b≠S->s.heap.get? b=some o->h'.get? b=some o)->h'.get? S=some {cls:= .type "list",dict:=none,data:= .seq u8 c,slots:= #[]}->Prs es s.heap.objs.size h' es.size as->u8.toList=as.map Rc->R (.ok (.ret res)) {s with heap:=h',toks:=tk}):
 wpAny (model prog w) A.in1 (T9 (.ref S) (.ref r) res)
  (λfin s'=>match fin with | .done f=>R (.ok f) s' | .again c'=>c'.quiet=true/\U6 (model prog w) A c' R s') (λe s'=>R (.error e) s') s:=by
 have JD:S<s.heap.objs.size:=QY hS;have Pl:d<s.heap.objs.size:=QY j1;have key:∀(h:Heap) (X3 tk:Nat),(∀b o,b≠S->(s.heap.push {cls:= .type "dict_itemiterator",data:= .fields #[.none, .bool false, .ref d, .int 0 0, .int es.size 0, .int ep 0, .none, .none]}).get? b=some o->h.get? b=some o)->
  h.get? S=some {cls:= .type "list",data:= .seq #[] X3}->U6 (model prog w) A (.builtin "list.extend.loop" ⟨[.ref S, .ref s.heap.objs.size,res],[]⟩) R {s with heap:=h,toks:=tk}:=λh X3 tk hk GO=>by
  have hI:=hk s.heap.objs.size _ (RT JD) (Q3 _ rfl);exact D8 (s:=s) (h₁:=s.heap) hh JD Lq (Rl Pl) fo hn res (λh' Qy u8 c as pJ Am hP i3=>hR h' Qy u8 c as (λb o hb e=>pJ b o hb (Rl (QY e)) e) Am hP i3)
   es.size 0 h tk X3 #[] [] (Nat.sub_zero _) (Ry _) (.inl ⟨rfl, .none, .none,hI⟩) (hk d _ Lq (QO _ j1)) (λb o hb _ e=>hk b o hb (QO _ e)) GO rfl ⟨rfl,Ua,λj a hj=>by simp at hj⟩ (QY hI)
 unfold T9;refine QL (wpAny_typeOf (T:="dict_items") hv.typeIs ?_);have h1:VA (.ref S) (.ref r)=false:=by simp[VA,Pf]
 have h2:(UC "dict_items"==UC "list")=false:=by decide
 have h3:(UC "dict_items"==UC "tuple")=false:=by decide
 simp only[h1,h2,h3,Vx,Ro,if_false];refine QL (wy hv j1 fo ?_);have GO:=QO {cls:= .type "dict_itemiterator",data:= .fields #[.none, .bool false, .ref d, .int 0 0, .int es.size 0, .int ep 0, .none, .none]} hS;refine QL (SH (kdx_hint (let ⟨o,ho,hc,_⟩:=hv;⟨o,QO _ ho,hc⟩) ?_));refine wpAny_ite_split (λ_=>?_) (λ_=>QP ⟨VL TQ _,key _ c₀ _ (λb o _ e=>e) GO⟩);refine QL (W8 (QL ?_));show wpAny _ _ (updateSeq S (·.push .none)>>=λ_=>updateSeq S (·.pop)) _ _ _;refine QL (WB GO rfl ?_);have N4:=R1 (RA (·.push Rp)) GO rfl;refine WB (hz:=by seq_fits) N4 rfl ?_;exact QP ⟨VL TQ _,key _ _ _ (λb o hb e=>(T7 _ _ (R3 hb)).trans ((T7 _ _ (R3 hb)).trans e)) (R1 (RA (·.pop)) N4 rfl)⟩
def wx{r d:Addr}{od:Obj}{es:Array Sn}{ep:Nat}{C:List Value->QT->Prop}(hh:A.handled=none)(hv:s.heap.IsItemsView r d)(j1:s.heap.get? d=some od)(fo:od.data= .dict es ep)(hn:es.size<=Q_)
 (h:∀(h':Heap) (tk:Nat) (as:List Addr),(∀b o,s.heap.get? b=some o->h'.get? b=some o)->Prs es s.heap.objs.size h' es.size as->C (as.map Rc) {s with heap:=h',toks:=tk}):
 wpAny (model prog w) A (collect (.ref r)) C E s:=by
 obtain⟨rv,Og,P7,Of⟩:=id hv;have hr:r<s.heap.objs.size:=QY Og;have hd:d<s.heap.objs.size:=QY j1;unfold collect;refine QL (wpAny_runValue (Vm entry_proto_collect' ?_));rw[Ue F.plain_proto_collect _];show wpAny _ A.in1 (newList []>>=λl=>again (.builtin "list.__iadd__" ⟨[l, .ref r],[]⟩)) _ _ s;refine QL (RU (QP ⟨VL F.plain_list_iadd _,Vm entry_list_iadd' ?_⟩));rw[Ue F.plain_list_iadd _];have GO:(s.heap.push {cls:= .type "list",data:= .seq ([]:List Value).toArray}).get? s.heap.objs.size=some {cls:= .type "list",data:= .seq #[]}:=Q3 _ rfl;show wpAny _ A.in1 (T9 (.ref s.heap.objs.size) (.ref r) (.ref s.heap.objs.size)) _ _ _;have fin:∀{Z:Prop}(q:Result) (s':QT),(∃(h':Heap) (tk:Nat) (jK:Array Value) (c':Nat) (as:List Addr),q= .ok (.ret (.ref s.heap.objs.size))/\s'={s with heap:=h',toks:=tk}/\(∀b o,s.heap.get? b=some o->h'.get? b=some o)/\
  h'.get? s.heap.objs.size=some {cls:= .type "list",dict:=none,data:= .seq jK c',slots:= #[]}/\Prs es s.heap.objs.size h' es.size as/\jK.toList=as.map Rc)->
  (∀(h':Heap) (tk:Nat) (jK:Array Value) (c':Nat),q= .ok (.ret (.ref s.heap.objs.size))->s'={s with heap:=h',toks:=tk}->h'.get? s.heap.objs.size=some {cls:= .type "list",dict:=none,data:= .seq jK c',slots:= #[]}->C jK.toList {s with heap:=h',toks:=tk}->Z)->Z:=λq s' ⟨h',tk,jK,c',as,e1,e2,hk,Am,hP,i3⟩ k=>k h' tk jK c' e1 e2 Am (by rw[i3];exact h h' tk as hk hP)
 refine R8 (zr (A:=A) (s:={s with heap:=s.heap.push {cls:= .type "list",data:= .seq ([]:List Value).toArray} })
  (R:=λ(q:Result) (s':QT)=>∃(h':Heap) (tk:Nat) (jK:Array Value) (c':Nat) (as:List Addr),q= .ok (.ret (.ref s.heap.objs.size))/\s'={s with heap:=h',toks:=tk}/\(∀b o,s.heap.get? b=some o->h'.get? b=some o)/\
   h'.get? s.heap.objs.size=some {cls:= .type "list",dict:=none,data:= .seq jK c',slots:= #[]}/\Prs es s.heap.objs.size h' es.size as/\jK.toList=as.map Rc)
  hh ⟨rv,QO _ Og,P7,Of⟩ (QO _ j1) fo hn (RT hr) (Rl hd) (.ref s.heap.objs.size) GO
  (λh' tk jK c' as hk Am hP i3=>⟨h',tk,jK,c',as,rfl,rfl,λb o e=>hk b o (Rl (QY e)) (QO _ e),Am,hP.keep (by show s.heap.objs.size<=(s.heap.push _).objs.size;rw[Uz];exact Wa _) (λ_ _ _ e=>e),i3⟩)) (λfn s' x=>?_) λe s' x=>?_
 ·cases fn with
  |done f=>
   refine fin _ _ x λh' tk jK c' e1 e2 Am hC=>?_;cases e1;subst e2;show wpAny _ A (load s.heap.objs.size>>=_) _ _ _;exact QL (wpAny_load Am (QP hC))
  |again X3=>
   refine⟨x.1,Wg x.2 λq t0 y=>fin _ _ y λh' tk jK c' e1 e2 Am hC=>?_⟩;subst e1 e2;show wpAny _ A (load s.heap.objs.size>>=_) _ _ _;exact QL (wpAny_load Am (QP hC))
 ·obtain⟨_,_,_,_,_,e',_⟩:=x;cases e'
end
end L3
namespace L3
open PySem PySem.Spec L2 PySem.W SeqAt
open PyProof.Rows hiding St
section
variable{prog:Ru}{w:World}{A:RQ}{E:Value->QT->Prop}{s:QT}
def ra{R:Array Nat->Prop}{a:Addr}{c:Nat}{vs:List Value}{bt:Nat->Nat->Bool}{κ:SortKind}{P:WJ->QT->Prop}{G:Heap->Prop}(ho:s.heap.get? a=some (RS "list" vs.toArray c))(A6:vs.length<64)
 (MF:2<=vs.length->PN vs.length (bh bt (kas_sort vs.length))/\R (bh bt (kas_sort vs.length)))(Qa:∀p,vs.length<2->R p)(hG:∀h',(∀b o,b≠a->s.heap.get? b=some o->h'.get? b=some o)->G h')
 (uq:∀(h':Heap) (Q:SortKind->QT->Prop),G h'->2<=vs.length->Q κ {s with heap:=h'}->wpAny (model prog w) A (keyKind' vs.toArray) Q E {s with heap:=h'})
 (GR:∀(h':Heap),G h'->∀i j C,i<vs.length->j<vs.length->C (bt i j) {s with heap:=h'}->kas_ask prog w A κ vs i j C {s with heap:=h'})
 (h:∀(p:Array Nat) (h':Heap) (c':Nat),PN vs.length p->R p->h'.get? a=some (RS "list" (Rz (p.toList.map λi=>vs.getD i Rp)) c')->
  (∀b o,b≠a->s.heap.get? b=some o->h'.get? b=some o)->P (.done (.ret .none)) {s with heap:=h'}):wpAny (model prog w) A (TB.«list.sort» ⟨[.ref a],[]⟩) P E s:=by
 have pC:Q_=16777216:=SA;have s1:=Rk s.heap a (RA λ_=>(#[]:Array Value));obtain⟨e1,JV⟩:∃e1,(s.heap.update a (RA λ_=>(#[]:Array Value))).get? a=some (RS "list" #[] e1):=⟨_,Vl ho λ_=> #[]⟩
 have k1:∀b o,b≠a->s.heap.get? b=some o->(((s.heap.update a (RA λ_=>(#[]:Array Value))).push (RS "tuple" vs.toArray 0)).push (RS "list" #[] 0)).get? b=some o:=λb o hb e=>
  QO _ (QO _ ((s1.2 b hb).trans e))
 have G0:=QO (RS "list" #[] 0) (QO (RS "tuple" vs.toArray 0) JV);have g3:=hG _ k1;have fin:∀(st:SortSt) (p:Array Nat),PN vs.length p->R p->(arrOf st).map (·.2)=Rz (p.toList.map λi=>vs.getD i Rp)->Wx st=none->
  wpAny (model prog w) A (do
   let touched:=(<-seqEpoch a) !=e1
   VC (.ref a) λ_=>(arrOf st).map (·.2)
   if let some e:=Wx st then rule "list.sort.comparison-raised";throw e
   if touched then rule "list.sort.modified";raiseError "ValueError" "list modified during sort"
   ret .none) P E {s with heap:=((s.heap.update a (RA λ_=>(#[]:Array Value))).push (RS "tuple" vs.toArray 0)).push (RS "list" #[] 0)}:=λst p hp hr he hf=>by
  have hz:(Rz (p.toList.map λi=>vs.getD i Rp)).size=vs.length:=by rw[QW,QM,Q5,hp.sz]
  rw[he,hf];refine QL (WE G0 rfl (QL (VM G0 rfl ?_ (Ry _) (by rw[hz,pC];omega))));simp only[bne_self_eq_false,Ro,if_false];have s2:=Rk (((s.heap.update a (RA λ_=>(#[]:Array Value))).push (RS "tuple" vs.toArray 0)).push (RS "list" #[] 0)) a (RA λ_=>Rz (p.toList.map λi=>vs.getD i Rp));exact QP (h p _ _ hp hr (Vl G0 λ_=>Rz (p.toList.map λi=>vs.getD i Rp)) λb o hb e=>(s2.2 b hb).trans (k1 b o hb e))
 rw[list_sort_plain];refine QL (listItems_at ho rfl (QL (VM ho rfl (QL (WE JV rfl ?_)) (by rw[QW,pC];omega) (Ry _))));refine QL (VB (QL (U4 (SH ?_) (Ry _))) (by show vs.length<=_;rw[pC];omega));show wpAny (model prog w) A _ P E {s with heap:=((s.heap.update a (RA λ_=>(#[]:Array Value))).push (RS "tuple" vs.toArray 0)).push (RS "list" #[] 0)}
 dsimp only
 by_cases hs:vs.toArray.size<2
 ·rw[XG hs,XG hs];have vL:vs.length<2:=by simpa using hs
  refine QL (QP (QL (QP ?_)));refine fin (SortSt.mk' general' (vs.toArray.zip vs.toArray) #[] 7 none) (Rz (Rf vs.length)) ⟨by simp,λi hi=>?_,λi j hi hj _=>by omega⟩ (Qa _ vL) ?_ rfl
  ·rw[bZ];simp[hi]
  ·show (vs.toArray.zip vs.toArray).map (·.2)=_;apply XF.mp;refine Tb (by simp) λi a1 a2=>?_;simp at a1;simp[a1]
 ·rw[XH hs,XH hs];have vL:2<=vs.length:=by
   have:¬vs.length<2:=by simpa using hs
   omega
  refine QL (uq _ _ g3 vL ?_);obtain⟨r1,r2⟩:=MF vL;have run:=kat_run (prog:=prog) (w:=w) (A:=A) (E:=E) (ks:=vs) (vs:=vs) (κ:=κ) (Q:=λst s'=>s'={s with heap:=((s.heap.update a (RA λ_=>(#[]:Array Value))).push (RS "tuple" vs.toArray 0)).push (RS "list" #[] 0)}/\∃p,PN vs.length p/\R p/\(arrOf st).map (·.2)=Rz (p.toList.map λi=>vs.getD i Rp)/\Wx st=none)
   (G:=λp s'=>s'={s with heap:=((s.heap.update a (RA λ_=>(#[]:Array Value))).push (RS "tuple" vs.toArray 0)).push (RS "list" #[] 0)}/\PN vs.length p/\R p) rfl vL A6
   (λp jJ s' a1 a2 a3 a4=>⟨a4.1,p,a4.2.1,a4.2.2,kat_snds rfl a2,a3⟩)
   (wp_run (s:={s with heap:=((s.heap.update a (RA λ_=>(#[]:Array Value))).push (RS "tuple" vs.toArray 0)).push (RS "list" #[] 0)}) (λi j C hi hj hC=>GR _ g3 i j C hi hj hC) (qb (by omega)) ⟨rfl,r1,r2⟩)
  refine QL (R8 run ?_ λ_ _ e=>e);rintro⟨⟨⟩,jJ⟩ s' ⟨rfl,p,a1,a2,a3,a4⟩;exact fin jJ p a1 a2 a3 a4
def CS{a:Addr}{c:Nat}{vs:List Value}{bt:Nat->Nat->Bool}{κ:SortKind}{P:WJ->QT->Prop}{G:Heap->Prop}(ho:s.heap.get? a=some (RS "list" vs.toArray c))(A6:vs.length<64)
 (hb:2<=vs.length->Lt vs.length bt)(hG:∀h',(∀b o,b≠a->s.heap.get? b=some o->h'.get? b=some o)->G h')
 (uq:∀(h':Heap) (Q:SortKind->QT->Prop),G h'->2<=vs.length->Q κ {s with heap:=h'}->wpAny (model prog w) A (keyKind' vs.toArray) Q E {s with heap:=h'})
 (GR:∀(h':Heap),G h'->∀i j C,i<vs.length->j<vs.length->C (bt i j) {s with heap:=h'}->kas_ask prog w A κ vs i j C {s with heap:=h'})
 (h:∀(p:Array Nat) (h':Heap) (c':Nat),PN vs.length p->Ri bt p vs.length->h'.get? a=some (RS "list" (Rz (p.toList.map λi=>vs.getD i Rp)) c')->
  (∀b o,b≠a->s.heap.get? b=some o->h'.get? b=some o)->P (.done (.ret .none)) {s with heap:=h'}):wpAny (model prog w) A (TB.«list.sort» ⟨[.ref a],[]⟩) P E s:=
 ra ho A6 (λh2=>vq (hb h2) h2) (λp hl i j gZ hj=>by omega) hG uq GR h
def ye:∀a b:List Int,HT.lexLt a b=cy a b
 |[],[]=>rfl
 |[],_::_=>rfl
 |_::_,[]=>rfl
 |x::a,y::b=>by rw[HT.lexLt_cons,cy,ye a b]
def la(n m:Int):∀{k l:List Int},k.length=l.length->cy (k++[n]) (l++[m])=if k=l then decide (n<m) else cy k l
 |[],[],_=>by
  show (if n=m then false else decide (n<m))=decide (n<m);by_cases h:n=m
  ·rw[XG h,XJ (by omega)]
  ·rw[XH h]
 |[],_::_,h=>by simp at h
 |_::_,[],h=>by simp at h
 |x::k,y::l,h=>by
  show (if x=y then cy (k++[n]) (l++[m]) else decide (x<y))=if x::k=y::l then decide (n<m) else if x=y then cy k l else decide (x<y)
  rw[la n m (by simpa using h)];by_cases e:x=y
  ·subst e;rw[XG rfl,XG rfl];by_cases e2:k=l
   ·subst e2;rw[XG rfl,XG rfl]
   ·rw[XH e2,XH (λz=>e2 (Xs z).2)]
  ·rw[XH e,XH e,XH (λz=>e (Xs z).1)]
def Aw{p p' b b':Addr}{k k':List Int}{n n':Int}{t t':Tok}{C:Bool->QT->Prop}(hp:s.heap.get? p=some {cls:= .type "tuple",data:= .seq #[.ref b, .int n t]})(LA:s.heap.get? p'=some {cls:= .type "tuple",data:= .seq #[.ref b', .int n' t']})
 (heq:EqAt A s (.ref b) (.ref b') (decide (k=k')))(eE:∀(Q:Value->QT->Prop),Q (.bool (cy k k')) s->wpAny (model prog w) A (R_ .Lt (.ref b) (.ref b')) Q (λ_ _=>False) s)(hk:k.length=k'.length)(h:C (cy (k++[n]) (k'++[n'])) s):
 wpAny (model prog w) A (keyLt' (tuples' false) (.ref p) (.ref p')) C E s:=by
 rw[la n n' hk] at h;refine kat_lt hp rfl LA rfl (kat_cons (heq prog w _ _ ?_));by_cases e:k=k'
 ·rw[XG e] at h;rw[XM e];refine kat_yes (kat_cons (Wq ?_));by_cases q:n=n'
  ·subst q;rw[show (n==n)=true by simp];refine kat_yes (kat_nil ?_);rw[XJ (by omega)] at h;exact h
  ·rw[show (n==n')=false by simpa using q];exact kat_no (kat_one _ _ (UK h))
 ·rw[XH e] at h;rw[XJ e];exact kat_no (kat_one _ _ (eE _ h))
def n4{h:Heap}{p b:Nat->Addr}{v:Nat->Value}:∀(l:List Nat),(∀i∈l,h.get? (p i)=some {cls:= .type "tuple",data:= .seq #[.ref (b i),v i]})->KatTups h (l.map λi=> .ref (p i)) (l.map λi=> .ref (b i))
 |[],_=>KatTups.nil
 |i::l,hl=>KatTups.cons (hl i (QR ..)) rfl rfl rfl (n4 l λj hj=>hl j (QQ _ hj))
end
def mL(l:List (Addr×HO))(H:Hp):Hp:=l.foldl (λH p=>upd H p.1 p.2) H
def j4{b:Addr}:∀{l:List (Addr×HO)}{H:Hp},(∀p∈l,p.1≠b)->mL l H b=H b
 |[],_,_=>rfl
 |p::l,H,h=>by
  show mL l (upd H p.1 p.2) b=_;rw[j4 λq hq=>h q (QQ _ hq),ay (R3 (h p (QR ..)))]
def rX:∀{l:List (Addr×HO)}{H:Hp}{p:Addr×HO},(l.map (·.1)).Nodup->p∈l->mL l H p.1=some p.2
 |q::l,H,p,hn,hp=>by
  rw[QX] at hn;have hn:=RZ.mp hn;show mL l (upd H q.1 q.2) p.1=_;rcases Q9.mp hp with rfl | hp
  ·rw[j4 λr hr z=>hn.1 (QU.mpr ⟨r,hr,z⟩),aJ]
  ·exact rX hn.2 hp
def ub:∀{l:List (Addr×HO)}{F H:Hp},Same F H->(l.map (·.1)).Nodup->(∀p∈l,H p.1=none)->Ext F H (mL l F) (mL l H)
 |[],_,_,h,_,_=>Ext.refl h
 |p::l,F,H,h,hn,hp=>by
  rw[QX] at hn;have hn:=RZ.mp hn;have e:=Ext.lay (o:=p.2) h (hp p (QR ..));exact e.trans (ub e.fh hn.2 λq hq=>by
   rw[ay (λz=>hn.1 (QU.mpr ⟨q,hq,z⟩))];exact hp q (QQ _ hq))
def Bm{X:Cx}{f8:List (Addr×Obj)}{σ:St}{H:Hp}{s:QT}{h':Heap}{t':Nat}{l:List (Addr×HO)}(I:Inv X f8 σ H s)(k:∀b u,s.heap.get? b=some u->h'.get? b=some u)(hn:(l.map (·.1)).Nodup)(hp:∀p∈l,s.heap.objs.size<=p.1)
 (new:∀p∈l,ObjOk X.prog X.w (mL l H) h' p.1 p.2):Inv X f8 σ (mL l H) {s with heap:=h',toks:=t'}:=by
 have out:∀b,b<s.heap.objs.size->mL l H b=H b:=λb hb=>j4 λp hq z=>by
  have:=hp p hq;rw[z] at this;exact XN (Rr hb this) (RC _)
 have old:∀b u,H b=some u->mL l H b=some u:=λb u e=>(out b (I.hok.lt e)).trans e;refine I.un ⟨λb u q _ _ _=>k b u q,λb u q _ _ _=>⟨u.slots,k b u q⟩,λb u q n _=>(out b (QY q)).trans n,λb u q _=>⟨u,k b u q⟩,λb xs q=>old b _ q,λb u xs q=>old b _ q,λb ps q=>⟨#[],by rw[old b _ q];simp⟩⟩ λb u e=>?_;by_cases hb:∃p∈l,p.1=b
 ·obtain⟨p,h1,rfl⟩:=hb;rw[rX hn h1] at e;cases e;exact new p h1
 ·rw[j4 λp hq z=>hb ⟨p,hq,z⟩] at e;exact(I.hok b u e).stay (λc v _ q=>k c v q) (λc q=>old c _ q) λc xs q=>old c _ q
def jI(kk:List (List Int))(ns:List Int):List (List Int):=List.zipWith (λk n=>k++[n]) kk ns
def yn:List Int->D
 |[a,b,n]=> .tup [.tup [.int a, .int b], .int n]
 |_=> .non
def lL:D->M D
 | .dct ks ds=>match dZ ks,nums ds with
   |some kk,some ns=>if kk.length=ns.length/\kk.all (λk=>decide (k.length=2))=true/\eu (jI kk ns)=true then aa (.lst ((sortI (jI kk ns)).map yn)) else af
   |_,_=>af
 |_=>af
def xj{kk:List (List Int)}{ns:List Int}(hl:kk.length=ns.length){i:Nat}(hi:i<kk.length):(jI kk ns).getD i []=kk.getD i []++[ns.getD i 0]:=by
 unfold jI;rw[QS,List.getElem?_zipWith,QS,QS,QN hi,QN (by omega:i<ns.length)];rfl
def eP(n:Nat):∀(a b:List Int),pH (nG n) (a.map D.int) (b.map D.int)=some (decide (a=b))
 |[],[]=>rfl
 |[],_::_=>by simp[pH]
 |_::_,[]=>by simp[pH]
 |x::a,y::b=>by
  show (match nG n (.int x) (.int y),pH (nG n) (a.map D.int) (b.map D.int) with | some p,some q=>some (p&&q) | _,_=>none)=_;rw[eP n a b,show nG n (.int x) (.int y)=some (x==y) by cases n<;>rfl];show some ((x==y)&&decide (a=b))=_;congr 1;by_cases h1:x=y<;>by_cases h2:a=b<;>simp[h1,h2]
def yD{H:Hp}{b:Nat->Addr}{k:Nat->List Int}:∀(l:List Nat),(∀i∈l,H (b i)=some (.tup ((k i).map V.int)))->cN H (l.map λi=> .ref (b i)) (l.map k)
 |[],_=> .nil
 |i::l,h=> .cons ⟨b i,rfl,h i (QR ..)⟩ (yD l λj hj=>h j (QQ _ hj))
def va{H:Hp}{b:Nat->Addr}{k:Nat->List Int}:∀{l:List Nat},cN H (l.map λi=> .ref (b i)) (l.map k)->∀i∈l,H (b i)=some (.tup ((k i).map V.int))
 |_::_, .cons ⟨a,e1,e2⟩ t,i,hi=>by
  rcases Q9.mp hi with rfl | hi
  ·cases e1;exact e2
  ·exact va t i hi
def t7{K:QZ}{F:Hp}{g:Nat->D}{p:Nat->Addr}:∀(l:List Nat),(∀i∈l,Den K F (g i) (.ref (p i)))->DenL K F (l.map g) (l.map λi=> .ref (p i))
 |[],_=> .nil
 |i::l,h=> .cons (h i (QR ..)) (t7 l λj hj=>h j (QQ _ hj))
def rk{p:Nat->Addr}:∀(l:List Nat),Vals (l.map λi=>V.ref (p i)) (l.map λi=>Rc (p i))
 |[]=> .nil
 |i::l=> .cons rfl (rk l)
section
variable{X:Cx}{Xw:Nat->Hp->Prop}{o:Expr}{δ:DE}{pos p v4 a6:Pos}
def B7(hc:X.calm=true)(hu:X.A.units+64<cLine)(hg:Gl X "sorted")(hm:X.mg "sorted"=none)(hb:Rv "sorted"=some (.builtin "sorted"))(ha:PD X Xw o δ)(eX:SX o "items" X.env (eval o X.env)=eval o X.env:=by rfl)(eY:(v4.endLine==a6.line)=true:=by rfl)
 (he:Q8 [.Call (.Attribute o "items" v4) [] [] a6] X.env=[(false,eval (.Call (.Attribute o "items" v4) [] [] a6) X.env)]:=by rfl):
 PD X Xw (.Call (.Name "sorted" p) [.Call (.Attribute o "items" v4) [] [] a6] [] pos) (d1 lL δ):=λf8 s σ H Q I ⟨F,ρ,S,w⟩=>by
 have w:WP X.K Xw F H (δ ρ>>=lL) Q:=w;refine UJ (g7 I hg hm hb ?_ (by decide) (by decide));refine U8 ?_ he rfl;rw[he];refine Tf (wpAny_Call_method0_late eX eY (b7 (ha f8 s σ H _ I ⟨F,ρ,S,WP.bind w⟩) λu s1 ⟨v,H1,I1,r,F1,d,e1,q1,w1⟩=>?_));unfold lL at w1;split at w1
 ·rename_i ks ds;split at w1
  ·rename_i kk ns IS Dt;split at w1
   ·rename_i hok;obtain⟨IQ,L7,hok⟩:=hok;obtain⟨a,ob,vs,rfl,h2,h3,h4,h5⟩:=q1;cases (show u=_ from r);obtain⟨es,ep,lo,ho,hx,hd,hsz,hk⟩:=zf I1 (e1.fh _ _ h2);have Qg:=de Dt h3;subst Qg;have Ds:=iG IS;subst Ds;have JX:=hok;unfold eu at hok;rw[Q6,Q6] at hok;have N8:(jI kk ns).Nodup:=XO hok.1.1;have J8:(jI kk ns).length=kk.length:=by unfold jI;rw[List.length_zipWith];omega
    have A6:kk.length<64:=by rw[<-J8];exact XO hok.1.2
    have hn:es.size=kk.length:=by rw[hsz,UZ,QM,QM];omega
    have pC:Q_=16777216:=SA;have hf:∀i,∃q:Sn×Addr×Tok,i<kk.length->es[i]? =some q.1/\q.1.key= .ref q.2.1/\H1 q.2.1=some (.tup ((kk.getD i []).map V.int))/\q.1.val= .int (ns.getD i 0) q.2.2:=λi=>by
     by_cases hi:i<kk.length
     ·have DW:i<ns.length:=by omega
      obtain⟨e,b,q1,q2,q3,t,q4⟩:=hk i (k_ kk[i]) (.int ns[i]) (Wj.mpr ⟨by rw[Q1,QN hi];rfl,by rw[Q1,QN DW];rfl⟩);refine⟨(e,b,t),λ_=>⟨q1,q2,?_,?_⟩⟩
      ·rw[q3,QS,QN hi];unfold k_;rw[Rj];rfl
      ·rw[QS,QN DW];exact q4
     ·exact⟨(default,0,0),λz=>XN z hi⟩
    obtain⟨g,wg⟩:∃g:Nat->Sn×Addr×Tok,∀i,i<kk.length->es[i]? =some (g i).1/\(g i).1.key= .ref (g i).2.1/\H1 (g i).2.1=some (.tup ((kk.getD i []).map V.int))/\(g i).1.val= .int (ns.getD i 0) (g i).2.2:=⟨λi=>WS (hf i),λi hi=>Wf (hf i) hi⟩
    refine⟨"dict","dict.items",TL,PySem.F.slot_dict_items,PySem.F.type_dict_items,⟨ob,ho,hx.1⟩,?_,Te rfl (PySem.evalArgs_none (xo lo ho hx hd (T8 ?_)))⟩
    ·rintro _ ⟨⟩;exact⟨ob,ho,hx.2.1⟩
    refine Ux kind_sorted plain_sorted entry_sorted (args_sorted1 _) ?_;unfold TB.«sorted»;refine QL (m:=checkCount "sorted" 1 1 _) (QP (QL (wx (A:=X.A.in1) (I1.ok.hd hc) ⟨_,Q3 _ rfl,rfl,rfl⟩ (QO _ ho) hd (by rw[hn,pC];omega) λh1 tk as Bu hP=>?_)));have keep:∀b u,s1.heap.get? b=some u->h1.get? b=some u:=λb u e=>Bu b u (QO _ e);have FP:as.length=kk.length:=hP.1.trans hn;have IV:∀i,i<kk.length->s1.heap.objs.size<=as.getD i 0/\h1.get? (as.getD i 0)=some {cls:= .type "tuple",data:= .seq #[.ref (g i).2.1, .int (ns.getD i 0) (g i).2.2]}:=λi hi=>by
     have DW:i<as.length:=by omega
     obtain⟨z1,e,z2,z3⟩:=hP.2.2 i as[i] (QN DW);obtain⟨y1,y2,y3,y4⟩:=wg i hi;rw[y1] at z2;cases z2;rw[y2,y4] at z3;rw[show as.getD i 0=as[i] by rw[QS,QN DW];rfl];refine⟨?_,z3⟩;rw[Uz] at z1;exact SV (Nat.lt_of_succ_lt z1)
    have ML:as.map Rc=(Rf kk.length).map λi=>Rc (as.getD i 0):=by
     refine Tb (by simp[FP]) λi a1 a2=>?_;have hi:i<as.length:=by simpa using a1
     rw[Sf,Sf,TV,QS,QN hi];rfl
    rw[ML];have xU:((Rf kk.length).map λi=>Rc (as.getD i 0)).length=kk.length:=by rw[QM,S1]
    have D4:∀i,i<kk.length->((Rf kk.length).map λi=>Rc (as.getD i 0)).getD i Rp= .ref (as.getD i 0):=λi hi=>by
     rw[QS,Q1,TJ hi];rfl
    generalize hv:(Rf kk.length).map (λi=>Rc (as.getD i 0))=vals at xU D4;have I2:Inv X f8 σ H1 {s1 with heap:=h1,toks:=tk}:=I1.kept keep;refine QL (U4 ?_ (by rw[pC];omega));have Dv:(h1.push (RS "list" vals.toArray 0)).get? h1.objs.size=some (RS "list" vals.toArray 0):=Q3 _ rfl;refine QL (SH (RJ WT ⟨_,Dv,rfl⟩ WG (CS (s:={s1 with heap:=h1.push (RS "list" vals.toArray 0),toks:=tk}) (κ:=tuples' false) (bt:=λi j=>cy ((jI kk ns).getD i []) ((jI kk ns).getD j [])) (G:=λh'=>∀b o,h1.get? b=some o->h'.get? b=some o) Dv (by omega) (λ_=>?_) (λh' kp b o e=>kp b o (Rl (QY e)) (QO _ e)) (λh' Q' gk Jz hq=>?_) (λh' gk i j C hi hj hC=>?_) λP h' c' JC hR Bb j0=>?_) (WW _)))
    ·rw[xU];exact⟨λi j k=>iL _ _ _,λi j=>ei _ _,λi j hi hj gZ=>fZ _ _ λz=>gZ (by
      rw[<-J8] at hi hj;rw[QS,QS,QN hi,QN hj] at z;exact uI N8 hi hj (by simpa using z))⟩
    ·have kt:=n4 (h:=h') (p:=λi=>as.getD i 0) (b:=λi=>(g i).2.1) (v:=λi=> .int (ns.getD i 0) (g i).2.2) (Rf kk.length) λi hi=>gk _ _ (IV i (RL.mp hi)).2;rw[hv] at kt;refine kat_kind (s:={s1 with heap:=h',toks:=tk}) (T:= .type "tuple") kt (by rw[QM,S1];omega) (λv J9=>?_) rfl hq;obtain⟨i,hi,rfl⟩:=QU.mp J9;obtain⟨us,ru,⟨ot,q1,q2,_⟩,_⟩:=I2.tuple (SqT.of (K:=X.K) (wg i (RL.mp hi)).2.2.1);have lk:Looks (model X.prog X.w) h' (typeOf (.ref (g i).2.1)) ot.cls:=(Looks.ld (gk _ _ q1)).andThen .now;rw[q2] at lk;exact lk
    ·rw[xU] at hi hj;have I3:Inv X f8 σ H1 {s1 with heap:=h',toks:=tk}:=I2.kept gk;obtain⟨_,_,a3,_⟩:=wg i hi;obtain⟨_,_,b3,_⟩:=wg j hj;have li:(kk.getD i []).length=2:=XO (Rt.mp L7 _ (by rw[QS,QN hi];exact SO hi));have lj:(kk.getD j []).length=2:=XO (Rt.mp L7 _ (by rw[QS,QN hj];exact SO hj));have dn:∀{m:Nat}{b:Addr},(kk.getD m []).length=2->H1 b=some (.tup ((kk.getD m []).map V.int))->Den X.K H1 (tupI (kk.getD m [])) (.ref b):=λO7 Jz=>⟨_,_,rfl,Jz,qk,by rw[QM,O7];decide⟩
     unfold kas_ask;rw[D4 i hi,D4 j hj];rw[xj IQ hi,xj IQ hj] at hC;refine Aw (s:={s1 with heap:=h',toks:=tk}) (k:=kk.getD i []) (k':=kk.getD j []) (gk _ _ (IV i hi).2) (gk _ _ (IV j hj).2) ?_ (λQ' hq=>?_) (by rw[li,lj]) hC
     ·exact(rP I3 (Same.refl H1) 6 _ _ _ _ _ _ _ _ (by show X.A.units+1+1+6<cLine;omega) (dn li a3) (dn lj b3) rfl rfl (eP 5 _ _)).eq
     ·obtain⟨ui,r1,p1,_⟩:=I3.tuple (SqT.of (K:=X.K) a3);obtain⟨uj,r2,p2,_⟩:=I3.tuple (SqT.of (K:=X.K) b3);exact HT.lt_tupInts p1 p2 (by simpa using intsAre_of r1) (by simpa using intsAre_of r2) (by show X.A.units+1+1<cLine;omega) (by rw[ye];exact hq)
    ·rw[xU] at JC hR;have Dl:∀i∈P.toList,i<kk.length:=λi hi=>by
      obtain⟨j,hj,rfl⟩:=Sy.mp hi;have IK:j<P.size:=by rw[Q5] at hj;exact hj
      have:=JC.lt j (by rw[JC.sz] at IK;exact IK);rw[bZ,RK IK] at this;simpa using this
     have FY:=rf N8 (by rw[J8];exact JC) (by rw[J8];exact hR);have Lx:(((Rf kk.length).map λi=>(as.getD i 0,HO.tup [.ref (g i).2.1, .int (ns.getD i 0)])).map (·.1)).Nodup:=by
      rw[Rj];have:(Rf kk.length).map ((·.1)∘λi=>(as.getD i 0,HO.tup [.ref (g i).2.1, .int (ns.getD i 0)]))=as:=by
       refine Tb (by simp[FP]) λi a1 a2=>?_;rw[Sf,TV];show as.getD i 0=_;rw[QS,QN a2];rfl
      rw[this];exact hP.2.1
     have mem:∀i,i<kk.length->(as.getD i 0,HO.tup [.ref (g i).2.1, .int (ns.getD i 0)])∈(Rf kk.length).map λi=>(as.getD i 0,HO.tup [.ref (g i).2.1, .int (ns.getD i 0)]):=λi hi=>QU.mpr ⟨i,RL.mpr hi,rfl⟩;generalize hL:((Rf kk.length).map λi=>(as.getD i 0,HO.tup [.ref (g i).2.1, .int (ns.getD i 0)]))=L at Lx mem;have of:∀q∈L,∃i,i<kk.length/\q=(as.getD i 0,HO.tup [.ref (g i).2.1, .int (ns.getD i 0)]):=λq hq=>by
      rw[<-hL] at hq;obtain⟨i,hi,rfl⟩:=QU.mp hq;exact⟨i,RL.mp hi,rfl⟩
     have I4:Inv X f8 σ (mL L H1) {s1 with heap:=h1,toks:=tk}:=Bm I1 keep Lx (λq hq=>by obtain⟨i,hi,rfl⟩:=of q hq;exact(IV i hi).1) λq hq=>by
      obtain⟨i,hi,rfl⟩:=of q hq;exact⟨by rw[pC];show 2<=_;decide,[.ref (g i).2.1, .int (ns.getD i 0) (g i).2.2], .cons rfl (.cons ⟨_,rfl⟩ .nil),_,(IV i hi).2,rfl,_,rfl⟩
     have Dq:mL L H1 h1.objs.size=none:=I4.hok.fresh (Q0 _);have I5:=I4.laid (h':=h') (a:=h1.objs.size) (t':=tk) (o:= .lst (P.toList.map λi=>V.ref (as.getD i 0))) (λb ob e=>j0 b ob (Rl (QY e)) (QO _ e)) (Q0 _) ⟨by rw[QM,Q5,JC.sz,pC];omega,P.toList.map λi=>Rc (as.getD i 0),c',rk _,by
      rw[show (P.toList.map λi=>Rc (as.getD i 0))=P.toList.map λi=>vals.getD i Rp from RM λi hi=>(D4 i (Dl i hi)).symm];exact Bb⟩
     refine⟨_,rfl,QP ⟨_,rfl,⟨.ref h1.objs.size,_,I5,rfl,?_⟩⟩⟩;obtain⟨F2,x2,r2⟩:=o4 e1.fh (yD (H:=H1) (b:=λi=>(g i).2.1) (k:=λi=>kk.getD i []) (Rf kk.length) λi hi=>(wg i (RL.mp hi)).2.2.1);have x3:=ub (l:=L) x2.fh Lx λq hq=>by obtain⟨i,hi,rfl⟩:=of q hq;exact I1.hok.fresh (IV i hi).1
     have x4:=Ext.lay (o:= .lst (P.toList.map λi=>V.ref (as.getD i 0))) x3.fh Dq;refine WP.fin w1 (x2.trans (x3.trans x4)) ⟨h1.objs.size,_,rfl,aJ,?_,by rw[QM,iT,J8];unfold lim;omega⟩;rw[<-FY,Rj];refine t7 (g:=yn∘λi=>(jI kk ns).getD i []) (p:=λi=>as.getD i 0) P.toList λi hi=>?_;have hi:=Dl i hi;have li:(kk.getD i []).length=2:=XO (Rt.mp L7 _ (by rw[QS,QN hi];exact SO hi));show Den X.K _ (yn ((jI kk ns).getD i [])) _;rw[xj IQ hi];have wj:=va r2 i (RL.mpr hi);obtain⟨ka,kb,ek⟩:∃ka kb,kk.getD i []=[ka,kb]:=match kk.getD i [],li with | [ka,kb],_=>⟨ka,kb,rfl⟩
     rw[ek] at wj⊢;refine⟨as.getD i 0,[.ref (g i).2.1, .int (ns.getD i 0)],rfl,x4.ff _ _ (rX Lx (mem i hi)), .cons ⟨(g i).2.1,[.int ka, .int kb],rfl,x4.ff _ _ (x3.ff _ _ wj), .cons rfl (.cons rfl .nil),by show 2<=lim;decide⟩ (.cons rfl .nil),by show 2<=lim;decide⟩
   ·exact w1.elim
  ·exact w1.elim
 ·exact w1.elim
end
end L3
namespace L3
open PySem PySem.Spec L2
open PyProof.Rows hiding St
section
variable{X:Cx}{Xw:Nat->Hp->Prop}{e:Expr}{δ:DE}{pos pos':Pos}
def CH(i:Nat)(δ:DE):DS:=λρ=>match ρ[i]? with
 |some (some (.fz (.int a)))=>δ ρ>>=λd=>match d with
  | .int b=>aa (.nx (ρ.set i (some (.fz (.int (a+b))))))
  |_=>af
 |_=>af
def E3{i:Nat}{x:Str}(hN:X.N.Nodup)(hi:X.N[i]? =some x)(hx:Loc X.env.scope x)(he:PD X Xw e δ)(hf:X.fn x=true\/X.env.scope.names.lookup x=some .local:=by first | exact .inl rfl | exact .inr rfl):
 fQ X Xw (.AugAssign (.Name x pos') .Add e pos) (CH i δ):=λs0 X8=>PS.weak (H8 hN hi hx he G9 hf) λD σ H ⟨F,ρ,s,w⟩=>by
 have w:WPS X.K Xw s0 X8 (CH i δ ρ) D:=w;unfold CH at w;split at w
 ·rename_i a ha;obtain⟨v,h1,h2⟩:=s.st.den i _ ha;cases (show v=_ from h2);refine⟨_,h1,F,ρ,s.st,?_⟩
  match δ ρ,w with
  |none,w=>exact w
  |some (.ok (.int b)),w=>exact λu H' F' e' q=>⟨a,b,rfl,q,w _ F' H' ((s.ext' e').set rfl)⟩
  |some (.ex n),w=>exact λF' H' e'=>w F' H' (s.ext.trans e')
 ·exact w.elim
end
end L3
namespace L3
open PySem PySem.W PyProof.Rows
section
variable{κ:Nat->List Int}{n:Nat}
abbrev bK(κ:Nat->List Int)(i j:Nat):Bool:=cy (κ i) (κ j)
def leK(κ:Nat->List Int)(i j:Nat):Prop:=κ i=κ j\/bK κ i j=true
def leK.tr{i j k:Nat}(h:leK κ i j)(h2:leK κ j k):leK κ i k:=by
 rcases h with h | h<;>rcases h2 with h2 | h2
 ·exact .inl (h.trans h2)
 ·exact .inr (by unfold bK at*;rw[h];exact h2)
 ·exact .inr (by unfold bK at*;rw[<-h2];exact h)
 ·exact .inr (iL _ _ _ h h2)
def leK.of{i j:Nat}(h:¬bK κ j i=true):leK κ i j:=by
 by_cases e:κ i=κ j
 ·exact .inl e
 ·rcases fZ _ _ e with q | q
  ·exact .inr q
  ·exact XN q h
def leK.lt{i j:Nat}(h:bK κ i j=true):leK κ i j:= .inr h
def leK.anti{i j:Nat}(h:leK κ i j)(h2:leK κ j i):κ i=κ j:=by
 rcases h with h | h
 ·exact h
 ·rcases h2 with h2 | h2
  ·exact h2.symm
  ·have:=ei _ _ h;unfold bK at h2;rw[h2] at this;cases this
def Rw(κ:Nat->List Int)(p:Array Nat)(k:Nat):Prop:=∀i j,i<j->j<k->leK κ (at' p i) (at' p j)
def Fw(κ:Nat->List Int)(p:Array Nat)(k:Nat):Prop:=∀i j,i<j->j<k->leK κ (at' p j) (at' p i)
def Rw.more{p:Array Nat}{k:Nat}(h:Rw κ p k)(h1:1<=k)(e:leK κ (at' p (k - 1)) (at' p k)):Rw κ p (k+1):=λi j gZ hj=>by
 by_cases hk:j<k
 ·exact h i j gZ hk
 ·have:j=k:=by omega
  subst this;by_cases hi:i=j - 1
  ·subst hi;exact e
  ·exact(h i (j - 1) (by omega) (by omega)).tr e
def Fw.more{p:Array Nat}{k:Nat}(h:Fw κ p k)(h1:1<=k)(e:leK κ (at' p k) (at' p (k - 1))):Fw κ p (k+1):=λi j gZ hj=>by
 by_cases hk:j<k
 ·exact h i j gZ hk
 ·have:j=k:=by omega
  subst this;by_cases hi:i=j - 1
  ·subst hi;exact e
  ·exact e.tr (h i (j - 1) (by omega) (by omega))
def Av{p:Array Nat}:∀(f k:Nat),1<=k->Rw κ p k->k<=bh (bK κ) (kas_asc p f k)/\bh (bK κ) (kas_asc p f k)<=k+f/\Rw κ p (bh (bK κ) (kas_asc p f k))/\(bh (bK κ) (kas_asc p f k)<k+f->bK κ (at' p (bh (bK κ) (kas_asc p f k))) (at' p (bh (bK κ) (kas_asc p f k) - 1))=true)
 |0,k,h1,h=>⟨Q0 _,Q0 _,h,λz=>XN z (RC _)⟩
 |f+1,k,h1,h=>by
  have e:bh (bK κ) (kas_asc p (f+1) k)=bh (bK κ) (if bK κ (at' p k) (at' p (k - 1))=true then KasT.ret k else kas_asc p f (k+1)):=rfl;rw[e];by_cases hb:bK κ (at' p k) (at' p (k - 1))=true
  ·rw[XG hb];exact⟨Q0 _,by show k<=_;omega,h,λ_=>hb⟩
  ·rw[XH hb];obtain⟨a1,a2,a3,a4⟩:=Av f (k+1) (by omega) (h.more h1 (.of hb));exact⟨by omega,by omega,a3,λz=>a4 (by omega)⟩
def yE{p:Array Nat}{i m:Nat}(hm:m<=p.size)(k:Nat):at' (kas_rev p i m) k=if i<=k/\k<m then at' p (i+m - 1 - k) else at' p k:=by
 have e:=getElem?_mirror_all (xs:=p) (i:=i) hm k;rw[bZ];show (((mirror p i m ((m - i) / 2))[k]?).getD 0)=_;rw[e];split
 ·rw[bZ]
 ·rw[bZ]
def PN.revs{p:Array Nat}(P:PN n p){i m:Nat}(hm:m<=n):PN n (kas_rev p i m):=by
 have ha:=yE (p:=p) (i:=i) (m:=m) (by rw[P.sz];exact hm);refine⟨(mirror_size ..).trans P.sz,λa hi=>?_,λa b hi hj e=>?_⟩
 ·rw[ha];split
  ·exact P.lt _ (by omega)
  ·exact P.lt _ hi
 ·rw[ha,ha] at e;split at e<;>split at e
  ·have:=P.inj _ _ (by omega) (by omega) e;omega
  ·have:=P.inj _ _ (by omega) hj e;omega
  ·have:=P.inj _ _ hi (by omega) e;omega
  ·exact P.inj _ _ hi hj e
def Al(κ:Nat->List Int)(p:Array Nat)(k q:Nat):Prop:=q<k/\∀i,k - (q+1)<=i->i<k->κ (at' p i)=κ (at' p (k - 1))
def o5{p:Array Nat}(P:PN n p){k q:Nat}(hk:k<=n)(h:Al κ p k q)(i:Nat):κ (at' (kas_rev p (k - (q+1)) k) i)=κ (at' p i):=by
 rw[yE (by rw[P.sz];exact hk)];split
 ·rename_i c;rw[h.2 _ (by have:=h.1;omega) (by have:=h.1;omega),h.2 i c.1 c.2]
 ·rfl
def leK.congr{i j i' j':Nat}(h:leK κ i j)(e1:κ i'=κ i)(e2:κ j'=κ j):leK κ i' j':=by
 unfold leK bK at*;rw[e1,e2];exact h
def Fw.keys{p p':Array Nat}{k:Nat}(h:Fw κ p k)(e:∀i,κ (at' p' i)=κ (at' p i)):Fw κ p' k:=λi j gZ hj=>(h i j gZ hj).congr (e j) (e i)
def rL:∀(f k q:Nat) {p:Array Nat},PN n p->1<=k->k+f<=n->Fw κ p k->Al κ p k q->∃p' m q',bh (bK κ) (kas_desc f p k q)=(p',m,q')/\PN n p'/\1<=m/\m<=n/\Fw κ p' m/\Al κ p' m q'
 |0,k,q,p,P,h1,hn,h,ha=>⟨p,k,q,rfl,P,h1,by omega,h,ha⟩
 |f+1,k,q,p,P,h1,hn,h,ha=>by
  have e:bh (bK κ) (kas_desc (f+1) p k q)=bh (bK κ) (if bK κ (at' p k) (at' p (k - 1))=true then(if q>0 then kas_desc f (kas_rev p (k - (q+1)) k) (k+1) 0 else kas_desc f p (k+1) 0)
   else .ask (p.getD (k - 1) 0) (p.getD k 0) λd=>if d=true then .ret (p,k,q) else kas_desc f p (k+1) (q+1)):=rfl
  rw[e];by_cases hb:bK κ (at' p k) (at' p (k - 1))=true
  ·rw[XG hb];have NL:∀p':Array Nat,Al κ p' (k+1) 0:=λp'=>⟨by omega,λi a b=>by rw[show i=k by omega];rfl⟩
   by_cases hq:q>0
   ·rw[XG hq];have hk:=o5 P (by omega) ha;exact rL f (k+1) 0 (P.revs (by omega)) (by omega) (by omega) ((h.more h1 (.lt hb)).keys hk) (NL _)
   ·rw[XH hq];exact rL f (k+1) 0 P (by omega) (by omega) (h.more h1 (.lt hb)) (NL _)
  ·rw[XH hb];show∃p' m q',bh (bK κ) (if bK κ (at' p (k - 1)) (at' p k)=true then KasT.ret (p,k,q) else kas_desc f p (k+1) (q+1))=(p',m,q')/\_;by_cases hd:bK κ (at' p (k - 1)) (at' p k)=true
   ·rw[XG hd];exact⟨p,k,q,rfl,P,h1,by omega,h,ha⟩
   ·rw[XH hd];have ee:κ (at' p k)=κ (at' p (k - 1)):=leK.anti (.of hd) (.of hb);refine rL f (k+1) (q+1) P (by omega) (by omega) (h.more h1 (.inl ee)) ⟨by have:=ha.1;omega,λi a b=>?_⟩;show _=κ (at' p k);by_cases hi:i=k
    ·rw[hi]
    ·rw[ee];exact ha.2 i (by omega) (by omega)
def Fw.rev{p:Array Nat}(P:PN n p){m:Nat}(hm:m<=n)(h:Fw κ p m):Rw κ (kas_rev p 0 m) m:=λi j gZ hj=>by
 have ha:=w6 (p:=p) (m:=m) (by rw[P.sz];exact hm);rw[ha,ha,XG (by omega),XG hj];exact h _ _ (by omega) (by omega)
def C6{p:Array Nat}(P:PN n p){m:Nat}(h1:1<=m)(hm:m<=n)(h:Fw κ p m):∃k q,bh (bK κ) (kas_tail3 m n p)=(k,q)/\PN n q/\1<=k/\k<=n/\Rw κ q k:=by
 unfold kas_tail3;rw[ck];obtain⟨a1,a2,a3,_⟩:=Av (p:=kas_rev p 0 m) (n - m) m h1 (Fw.rev P hm h);exact⟨_,_,rfl,P.rev hm,by omega,by omega,a3⟩
def xI{p:Array Nat}(P:PN n p){m:Nat}(h1:1<=m)(hm:m<n)(h:Fw κ p (m+1)):∃k q,bh (bK κ) (kas_descPart m n p)=(k,q)/\PN n q/\1<=k/\k<=n/\Rw κ q k:=by
 unfold kas_descPart;rw[ck];obtain⟨p',m',q',e,P',c1,c2,F',A'⟩:=rL (n - (m+1)) (m+1) 0 P (by omega) (by omega) h ⟨by omega,λi a b=>by rw[show i=m by omega];rfl⟩;rw[e]
 dsimp only
 by_cases hq:q'>0
 ·rw[XG hq];exact C6 (P'.revs c2) c1 c2 (F'.keys (o5 P' c2 A'))
 ·rw[XH hq];exact C6 P' c1 c2 F'
def DJ{p:Array Nat}(P:PN n p)(h2:2<=n):∃k q,bh (bK κ) (kas_count n p)=(k,q)/\PN n q/\1<=k/\k<=n/\Rw κ q k:=by
 unfold kas_count;rw[ck];obtain⟨a1,a2,a3,a4⟩:=Av (κ:=κ) (p:=p) (n - 1) 1 (Q0 _) (λi j gZ hj=>by omega);generalize bh (bK κ) (kas_asc p (n - 1) 1)=m at a1 a2 a3 a4;by_cases he:m=n
 ·subst he;rw[XG (by simp)];exact⟨m,p,rfl,P,by omega,Q0 _,a3⟩
 ·rw[XH (by simpa using he)];have hb:=a4 (by omega);by_cases hg:m>1
  ·rw[XG hg];show∃k q,bh (bK κ) (if bK κ (p.getD 0 0) (p.getD (m - 1) 0)=true then KasT.ret (m,p) else kas_descPart m n (kas_rev p 0 m))=(k,q)/\_;by_cases h0:bK κ (p.getD 0 0) (p.getD (m - 1) 0)=true
   ·rw[XG h0];exact⟨m,p,rfl,P,by omega,by omega,a3⟩
   ·rw[XH h0];have el:κ (at' p 0)=κ (at' p (m - 1)):=leK.anti (a3 0 (m - 1) (by omega) (by omega)) (.of h0);have al:∀i,i<m->κ (at' p i)=κ (at' p (m - 1)):=λi hi=>by
     by_cases i0:i=0
     ·rw[i0];exact el
     ·by_cases i1:i=m - 1
      ·rw[i1]
      ·refine leK.anti (a3 i (m - 1) (by omega) (by omega)) ((leK.congr (a3 0 i (by omega) hi) el.symm rfl))
    have hk:=o5 (κ:=κ) P (k:=m) (q:=m - 1) (by omega) ⟨by omega,λi _ hi=>al i hi⟩;rw[show m - (m - 1+1)=0 by omega] at hk;refine xI (P.rev (by omega)) (by omega) (by omega) (Fw.keys (p:=p) (λi j gZ hj=>?_) hk);by_cases Mu:j<m
    ·exact .inl ((al j Mu).trans (al i (by omega)).symm)
    ·have:j=m:=by omega
     subst this;exact(leK.lt hb).congr rfl (al i gZ)
  ·rw[XH hg];have hm:m=1:=by omega
   subst hm;refine xI P (by omega) (by omega) λi j gZ hj=>?_;have hi:i=0:=by omega
   have hj:j=1:=by omega
   subst hi hj;exact .lt hb
def sG{p:Array Nat}{k:Nat}(h:Rw κ p k):∀(f l r:Nat),l<=r->r<=k->r - l<=f->(∀i,i<l->leK κ (at' p i) (at' p k))->(∀i,r<=i->i<k->leK κ (at' p k) (at' p i))->
 bh (bK κ) (kas_place p k f l r)<=k/\(∀i,i<bh (bK κ) (kas_place p k f l r)->leK κ (at' p i) (at' p k))/\∀i,bh (bK κ) (kas_place p k f l r)<=i->i<k->leK κ (at' p k) (at' p i)
 |0,l,r,h1,h2,h3,h4,h5=>by
  have:r=l:=by omega
  subst this;exact⟨h2,h4,h5⟩
 |f+1,l,r,h1,h2,h3,h4,h5=>by
  unfold kas_place;by_cases JR:l>=r
  ·rw[XG JR];have:r=l:=by omega
   subst this;exact⟨h2,h4,h5⟩
  ·rw[XH JR];show bh (bK κ) (if bK κ (at' p k) (at' p ((l+r) / 2))=true then kas_place p k f l ((l+r) / 2) else kas_place p k f ((l+r) / 2+1) r)<=k/\(∀i,i<bh (bK κ) (if bK κ (at' p k) (at' p ((l+r) / 2))=true then kas_place p k f l ((l+r) / 2) else kas_place p k f ((l+r) / 2+1) r)->_)/\∀i,bh (bK κ) (if bK κ (at' p k) (at' p ((l+r) / 2))=true then kas_place p k f l ((l+r) / 2) else kas_place p k f ((l+r) / 2+1) r)<=i->_;by_cases hb:bK κ (at' p k) (at' p ((l+r) / 2))=true
   ·rw[XG hb];refine sG h f l ((l+r) / 2) (by omega) (by omega) (by omega) h4 λi hi Mq=>?_;by_cases e:i=(l+r) / 2
    ·rw[e];exact .lt hb
    ·exact(leK.lt hb).tr (h _ _ (by omega) Mq)
   ·rw[XH hb];refine sG h f ((l+r) / 2+1) r (by omega) h2 (by omega) (λi hi=>?_) h5;by_cases e:i=(l+r) / 2
    ·rw[e];exact .of hb
    ·exact(h i ((l+r) / 2) (by omega) (by omega)).tr (.of hb)
def FD:∀(f:Nat) {p:Array Nat}{k:Nat},PN n p->k+f<=n->Rw κ p k->PN n (bh (bK κ) (kas_bin f p k))/\Rw κ (bh (bK κ) (kas_bin f p k)) (k+f)
 |0,p,k,P,_,h=>⟨P,h⟩
 |f+1,p,k,P,hn,h=>by
  have hk:k<n:=by omega
  unfold kas_bin;rw[ck];obtain⟨a1,a2,a3⟩:=sG h k 0 k (Ry _) (Q0 _) (by omega) (λi hi=>by omega) (λi h1 h2=>by omega);generalize bh (bK κ) (kas_place p k k 0 k)=l at a1 a2 a3;have ha:=vV (p:=p) (k:=k) (l:=l) (by rw[P.sz];exact hk) a1;have hR:Rw κ (bubble p k (k - l)) (k+1):=λi j gZ hj=>by
   rw[ha,ha];by_cases c1:i=l
   ·rw[XG c1,XH (by omega),XG ⟨by omega,by omega⟩];exact a3 _ (by omega) (by omega)
   ·rw[XH c1];by_cases c2:j=l
    ·rw[XG c2,XH (by omega)];exact a2 _ (by omega)
    ·rw[XH c2];by_cases c3:l<i/\i<=k
     ·rw[XG c3,XG ⟨by omega,by omega⟩];exact h _ _ (by omega) (by omega)
     ·rw[XH c3];by_cases c4:l<j/\j<=k
      ·rw[XG c4];exact h _ _ (by omega) (by omega)
      ·rw[XH c4];exact h _ _ gZ (by omega)
  have:=FD f (P.bub hk a1) (by omega) hR;rw[show k+(f+1)=k+1+f by omega];exact this
def Iu(h2:2<=n):PN n (bh (bK κ) (kas_sort n))/\Rw κ (bh (bK κ) (kas_sort n)) n:=by
 have P0:PN n (Rz (Rf n)):=by
  have e:∀i,i<n->at' (Rz (Rf n)) i=i:=λi hi=>by rw[bZ];simp[hi]
  exact⟨by simp,λi hi=>by rw[e i hi];exact hi,λi j hi hj z=>by rw[e i hi,e j hj] at z;exact z⟩
 unfold kas_sort;rw[ck];obtain⟨k,q,e,P,k1,kn,hR⟩:=DJ (κ:=κ) P0 h2;rw[e]
 dsimp only
 by_cases eE:k<n
 ·rw[XG eE];have:=FD (κ:=κ) (n - max k 1) (k:=max k 1) P (by omega) (by rw[show max k 1=k by omega];exact hR);rw[show max k 1+(n - max k 1)=n by omega] at this;exact this
 ·rw[XH eE];have:k=n:=by omega
  subst this;exact⟨P,hR⟩
end
end L3
namespace L3
open PySem PySem.Spec L2 PySem.W SeqAt
open PyProof.Rows hiding St
section
variable{X:Cx}{Xw:Nat->Hp->Prop}{e o:Expr}{δo:DE}{δs:DA}{p v4 a6:Pos}
def lS:D->List D->M D
 | .lst ds,[.int k]=>match nums ds with | some ns=>aa (.int (ns.count k:Nat)) | none=>af
 |_,_=>af
def KL:V->List V->Hp->VK->Prop:=λx vs H Q=>∃(a:Addr) (ns:List Int) (k:Int),x= .ref a/\vs=[.int k]/\H a=some (.lst (ns.map V.int))/\Q (.int (ns.count k:Nat)) H
def Eo:Jg X "list.count" KL:=by
 intro f8 s σ H x vs v us Q I rx rv h;obtain⟨a,ns,k,rfl,rfl,hH,q⟩:=h;cases rx;obtain⟨u,rfl,r1⟩:=rv.one;obtain⟨t,rfl⟩:=r1;obtain⟨z,aE,n,r,hl,e⟩:=I.lstM hH;exact count_list_ints ⟨_,e,rfl,_,rfl⟩ (intsAre_of r) ⟨.int _,H,I.tok _,⟨_,rfl⟩,q⟩
def mX(ho:PD X Xw o δo)(ha:jl X Xw [e] δs)(eX:SX o "count" X.env (eval o X.env)=eval o X.env:=by rfl)
 (k9:((Tr a6 (Q8 [e] X.env)).all (λx=>!x.1)&&(U7 a6 (T2 [] X.env)).all (λx=>x.1.isSome)&&decide ([e].length+([]:List TN).length+(if ([]:List TN).isEmpty then 0 else 1)<30))=true:=by rfl)
 (eY:(v4.endLine==a6.line)=true:=by rfl)(rU:Q8 [e] X.env=[(false,eval e X.env)]:=by rfl):PD X Xw (.Call (.Attribute o "count" v4) [e] [] a6) (dM eZ lS δo δs):=
 B4 TK PySem.F.slot_list_count PySem.F.type_list_count Eo uu (λXw F H x vs d ds Q s hx hv w=>by
  unfold lS at w;split at w
  ·rename_i ds k;obtain⟨v,rfl,h1⟩:=hv.one;cases (show _=_ from h1);obtain⟨a,ws,rfl,h2,h3,_⟩:=hx;split at w
   ·rename_i ns hb;exact⟨a,ns,k,rfl,rfl,by rw[<-de hb h3];exact s _ _ h2,WP.now w s rfl⟩
   ·exact w.elim
  ·exact w.elim) ho ha eX k9 eY rU rfl
def leL(a b:List Int):Prop:=a=b\/cy a b=true
def leL.tr{a b c:List Int}(h:leL a b)(h2:leL b c):leL a c:=by
 rcases h with rfl | h
 ·exact h2
 ·rcases h2 with rfl | h2
  ·exact .inr h
  ·exact .inr (iL _ _ _ h h2)
def leL.anti{a b:List Int}(h:leL a b)(h2:leL b a):a=b:=by
 rcases h with h | h
 ·exact h
 ·rcases h2 with h2 | h2
  ·exact h2.symm
  ·rw[ei _ _ h] at h2;cases h2
def leL.of{a b:List Int}(h:¬cy b a=true):leL a b:=by
 by_cases e:a=b
 ·exact .inl e
 ·rcases fZ _ _ e with q | q
  ·exact .inr q
  ·exact XN q h
def insI_perm(k:List Int):∀l,(insI k l).Perm (k::l)
 |[]=> .refl _
 |x::r=>by
  unfold insI;split
  ·exact .refl _
  ·exact((insI_perm k r).cons x).trans (.swap ..)
def sortI_perm:∀l,(sortI l).Perm l
 |[]=> .refl _
 |k::r=>(insI_perm k _).trans ((sortI_perm r).cons k)
def xY{k:List Int}:∀{l:List (List Int)},l.Pairwise leL->(insI k l).Pairwise leL
 |[],_=>Wy _ _
 |x::r,h=>by
  have h:=RF.mp h;unfold insI;split
  ·rename_i q;refine RF.mpr ⟨λy hy=>?_,RF.mpr h⟩;rcases Q9.mp hy with rfl | hy
   ·exact .inr q
   ·exact leL.tr (.inr q) (h.1 y hy)
  ·rename_i q;refine RF.mpr ⟨λy hy=>?_,xY h.2⟩;rcases j2.mp hy with rfl | hy
   ·exact .of q
   ·exact h.1 y hy
def kE:∀l,(sortI l).Pairwise leL
 |[]=> .nil
 |_::r=>xY (kE r)
def By{a b:List (List Int)}(ha:a.Pairwise leL)(hb:b.Pairwise leL)(h:a.Perm b):a=b:=h.eq_of_pairwise (λ_ _ _ _=>leL.anti) ha hb
def vp{a b:List (List Int)}(h:a.Perm b):sortI a=sortI b:=By (kE a) (kE b) ((sortI_perm a).trans (h.trans (sortI_perm b).symm))
def EW{n:Nat}{p:Array Nat}(P:PN n p):p.toList.Perm (Rf n):=by
 have hsz:p.toList.length=n:=by rw[Q5];exact P.sz
 have nN:∀i (h:i<p.toList.length),p.toList[i]=at' p i:=λi h=>by
  have h':i<p.size:=by rw[Q5] at h;exact h
  rw[bZ,RK h'];simp
 have hd:p.toList.Nodup:=List.nodup_iff_pairwise_ne.mpr (Sa.mpr λi j hi hj gZ z=>by
  rw[nN i hi,nN j hj] at z;have:=P.inj i j (by omega) (by omega) z;omega)
 have hl:∀x∈p.toList,x<n:=λx hx=>by
  obtain⟨j,hj,rfl⟩:=Sy.mp hx;rw[nN j hj];exact P.lt j (by omega)
 exact(Sm hd List.nodup_range).mpr λx=>⟨λh=>RL.mpr (hl x h),λh=>sF n _ hd hl hsz x (RL.mp h)⟩
def xh{ks:List (List Int)}{p:Array Nat}(P:PN ks.length p)(R:Rw (λi=>ks.getD i []) p ks.length):(p.toList.map λi=>ks.getD i [])=sortI ks:=by
 have hsz:p.toList.length=ks.length:=by rw[Q5];exact P.sz
 have nN:∀i (h:i<p.toList.length),p.toList[i]=at' p i:=λi h=>by
  have h':i<p.size:=by rw[Q5] at h;exact h
  rw[bZ,RK h'];simp
 refine By ?_ (kE ks) (((EW P).map _).trans ?_)
 ·refine Sa.mpr λi j hi hj gZ=>?_;rw[QM] at hi hj;rw[Sf,Sf,nN i hi,nN j hj];exact R i j gZ (by omega)
 ·refine .trans (.of_eq ?_) (sortI_perm ks).symm;refine Tb (by simp) λi a1 a2=>?_;rw[Sf,TV,QS,QN a2];rfl
end
section
variable{prog:Ru}{w:World}{A:RQ}{E:Value->QT->Prop}{s:QT}
def xg{a:Addr}{c:Nat}{vs:List Value}{ks:List (List Int)}{P:WJ->QT->Prop}(ho:s.heap.get? a=some (RS "list" vs.toArray c))(ht:TupsAt s.heap vs ks)(A6:vs.length<64)
 (h:∀(p:Array Nat) (h':Heap) (c':Nat),PN vs.length p->Rw (λi=>ks.getD i []) p vs.length->h'.get? a=some (RS "list" (Rz (p.toList.map λi=>vs.getD i Rp)) c')->
  (∀b o,b≠a->s.heap.get? b=some o->h'.get? b=some o)->P (.done (.ret .none)) {s with heap:=h'}):wpAny (model prog w) A (TB.«list.sort» ⟨[.ref a],[]⟩) P E s:=
 ra (κ:=tuples' true) (bt:=bK λi=>ks.getD i []) (G:=λh'=>TupsAt h' vs ks) ho A6 (λh2=>Iu h2) (λp hl=>λi j gZ hj=>by omega) (λh' k=>ht.keep k λo e z=>by rw[ho] at e;cases e;exact XN (WX z) (by decide))
  (λh' Q g h2 hq=>by
   obtain⟨fs,q1,q2,q3⟩:=TupsAt.firsts (M:=model prog w) g;exact kat_kind (s:={s with heap:=h'}) q1 (by omega) q3 rfl hq)
  (λh' g i j C hi hj hC=>asked (s:={s with heap:=h'}) g i j C hi hj hC) h
end
def Kr(ks:List (List Int)):Bool:=decide (ks.length<64)&&ks.all λk=>!k.isEmpty
def vx:List D->M D
 |[.lst ds]=>match gq ds with
  |some ks=>if Kr ks then aa (.lst ((sortI ks).map tupI)) else af
  |none=>af
 |_=>af
def KW(K:QZ):List V->Hp->VK->Prop:=λxs H Q=>∃p vs ks,xs=[.ref p]/\SqL K H p vs/\cN H vs ks/\Kr ks=true/\∀(q:Addr) (is:List Nat),H q=none->(∀i∈is,i<vs.length)->is.length=vs.length->(is.map λi=>ks.getD i [])=sortI ks->Q (.ref q) (upd H q (.lst (is.map λi=>vs.getD i .non)))
section
variable{X:Cx}{Xw:Nat->Hp->Prop}{e:Expr}{δs:DA}{pos p:Pos}
def y8:CallR X (.builtin "sorted") (KW X.K):=by
 intro f8 s σ H xs us Q I r h;obtain⟨a,vs,ks,rfl,hq,hr,hk,q⟩:=h;obtain⟨u,rfl,r1⟩:=r.one;cases (show u=_ from r1);obtain⟨aE,rv,pl,hz⟩:=I.list hq;unfold Kr at hk;rw[Q6] at hk;have A6:ks.length<64:=XO hk.1;have jv:∀k∈ks,k≠[]:=λk pJ z=>by have:=Rt.mp hk.2 k pJ;rw[z] at this;cases this
 have FW:=ky hr;have vL:=rv.length;have pC:Q_=16777216:=SA;have ht:=lC I hr rv jv;refine Ux kind_sorted plain_sorted entry_sorted (args_sorted1 _) ?_;unfold TB.«sorted»;refine QL (QP (QL (collect_list pl.isList (QL (U4 ?_ (by rw[pC];omega))) (by rw[pC];omega))));have hsz:((s.heap.push (RS "list" #[] 0)).update s.heap.objs.size (RA (· ++aE.toArray))).objs.size=s.heap.objs.size+1:=by rw[Heap.size_update,size_push']
 have keep:∀b o,s.heap.get? b=some o->(((s.heap.push (RS "list" #[] 0)).update s.heap.objs.size (RA (· ++aE.toArray))).push (RS "list" aE.toArray 0)).get? b=some o:=λb o e=>by
  have eE:=QY e;exact QO _ ((Heap.get?_update_ne _ _ _ _ (Rl eE)).trans (QO _ e))
 have Dv:(((s.heap.push (RS "list" #[] 0)).update s.heap.objs.size (RA (· ++aE.toArray))).push (RS "list" aE.toArray 0)).get? (s.heap.objs.size+1)=some (RS "list" aE.toArray 0):=by
  rw[<-hsz];exact Q3 _ rfl
 show wpAny _ _ _ _ _ {s with heap:=((s.heap.push (RS "list" #[] 0)).update s.heap.objs.size (RA (· ++aE.toArray))).push (RS "list" aE.toArray 0)};rw[hsz];refine QL (SH (RJ WT ⟨_,Dv,rfl⟩ WG (xg Dv
  (ht.keep (λb o _ e=>keep b o e) (λo e=>XN (QY e) (RC _))) (by omega) λP h' c' hP hR Bb j0=>?_) (WW _)))
 have Dl:∀i∈P.toList,i<vs.length:=λi hi=>by
  obtain⟨j,hj,rfl⟩:=Sy.mp hi;have h':j<P.size:=by rw[Q5] at hj;exact hj
  have:=hP.lt j (by rw[hP.sz] at h';exact h');rw[bZ,RK h'] at this;have e:P.toList[j]=P[j]:=by simp
  rw[e];have:P[j]<aE.length:=this;omega
 have IL:PN ks.length P:=by rw[<-FW,vL];exact hP
 have Mb:Rw (λi=>ks.getD i []) P ks.length:=by rw[<-FW,vL];exact hR
 have FY:=xh IL Mb;have GV:H (s.heap.objs.size+1)=none:=I.hok.fresh (Wa _);refine⟨_,rfl,QP ⟨_,rfl,⟨.ref (s.heap.objs.size+1),_,I.laid (λb ob e=>j0 b ob (Rl (Nat.lt_succ_of_lt (QY e))) (keep b ob e)) (Wa _) ?_,rfl,q _ P.toList GV Dl (by rw[Q5,hP.sz];omega) FY⟩⟩⟩;exact⟨by rw[QM,Q5,hP.sz,pC];omega,_,c',lO rv Dl,Bb⟩
def yw(hg:Gl X "sorted")(hm:X.mg "sorted"=none)(hb:Rv "sorted"=some (.builtin "sorted"))(ha:jl X Xw [e] δs)(he:Q8 [e] X.env=[(false,eval e X.env)]:=by rfl):PD X Xw (.Call (.Name "sorted" p) [e] [] pos) (dA vx δs):=
 cF y8 (λXw F H vs ds Q s h w=>by
  unfold vx at w;split at w
  ·rename_i ds;obtain⟨v,rfl,h1⟩:=h.one;obtain⟨a,ws,rfl,h2,h3,h4⟩:=h1;split at w
   ·rename_i ks IS;split at w
    ·rename_i hok;obtain⟨r1,r2⟩:=qu s IS h3;have PR:=qw IS h3;refine⟨a,ws,ks,rfl,SqL.of (s _ _ h2),r1,hok,λq is hq hi hl hs=>WP.fin w (Ext.lay s hq) ⟨q,_,rfl,aJ,DenL.mono (Ext.lay s hq).ff ?_,?_⟩⟩
     ·have:=lB r2 hi;rw[hs] at this;exact o3 this λk hk=>PR k (d7.mp hk)
     ·rw[QM,iT,<-ky r1,<-h3.len];exact h4
    ·exact w.elim
   ·exact w.elim
  ·exact w.elim) hg hm hb ha (by decide) (by decide) he rfl
end
end L3
namespace L3
def Nf(n:Nat)(δs:DA):DS:=λ_=>af
end L3
namespace K1
open PySem PySem.Spec L2 L3
open PyProof.Rows hiding St
def xt:DS:=(bF (gP (dA jw (aC (dV 0) (aC (dC (.raw (.ty "int"))) aN))) (FE (dA jw (aC (dV 0) (aC (dC (.raw (.ty "bool"))) aN))))))
def dY:List D->M D:=b6 1 (xt)
def vF:DS:=(bF (gP (dA jw (aC (dV 0) (aC (dC (.raw (.ty "str"))) aN))) (gP (d2 mJ (dA bw (aC (dV 0) aN)) (dC (.int 1))) (d2 (A0 false) (dV 0) (dC (.str "abcdef"))))))
def cP:List D->M D:=b6 1 (vF)
def pw:DS:=(bF (aS 0 (λρ=>(aC (dA bw (aC (d2 bD (dV 0) (dC (.int 0))) aN)) aN) ρ>>=fc) bp (dA cf (aC (dV 2) (aC (dV 0) aN)))))
def b_:List D->M D:=b6 2 (pw)
def vI:DS:=(bF (d2 nL (d2 bD (dV 0) (d2 bD (dV 1) (dC (.int 0)))) (d2 bD (dV 1) (dC (.int 1)))))
def dz:List D->M D:=b6 2 (vI)
def xq:DS:=(aI (bL 3 (dA As (aC (d2 gS (d2 bD (dV 0) (dC (.int 0))) (d2 bD (dV 1) (dC (.int 0)))) aN))) (aI (bL 4 (dA As (aC (d2 gS (d2 bD (dV 0) (dC (.int 1))) (d2 bD (dV 1) (dC (.int 1)))) aN))) (aI (kB (dS (d2 mJ (dV 2) (dC (.int 4)))) (bF (d2 mJ (d2 dE (dV 3) (dV 4)) (dC (.int 1)))) eM) (bF (d2 mJ (dA wC (aC (dV 3) (aC (dV 4) aN))) (dC (.int 1)))))))
def dq:List D->M D:=b6 5 (xq)
def Fv:DS:=(aI (vg 1) (aI (λρ=>noex ((ez (putN 2) (G4 (bV (dV 0)) (λρ=>(dV 0) ρ>>=lX)) (dF [2] (jh 1 (dV 2) (dC (.bl true))))) ρ)) (CK 1 (bF (dV 1)))))
def iC:List D->M D:=b6 3 (Fv)
def pA:DS:=(aI (kB (dS (d2 mJ (dV 0) (dA ft aN))) (bF (d2 i2 (dC (.int 7)) (dV 1))) eM) (bF (d2 dE (d2 A1 (dV 0) (d2 jZ (dV 1) (dA bw (aC (dV 0) aN)))) (d2 i2 (dC (.int 6553)) (d2 pI (dV 1) (dA bw (aC (dV 0) aN)))))))
def eW:List D->M D:=b6 2 (pA)
def vG:DS:=(aI (kB (tK (eT (dJ (dA jw (aC (dV 0) (aC (dC (.raw (.ty "str"))) aN))))) (eT (dS (DI (λi j=>decide (i<=j)) (λi j=>decide (i<=j)) (dC (.int 1)) (dA bw (aC (dV 0) aN)) (dC (.int 8)))))) (bF (dC (.bl false))) eM) (bF (dA allM (aC (aS 0 (λρ=>(dV 0) ρ>>=Iq) bp (aw 1 cP (aC (dV 0) aN))) aN))))
def eV:List D->M D:=b6 1 (vG)
def vJ:DS:=(kB (tK (eT (dJ (aw 1 dY (aC (dV 0) aN)))) (dS (d2 (iZ true) (dV 0) (dA cf (aC (dC (.int 4)) (aC (dC (.int 8)) aN)))))) (Nf 1 (aC (dC (.str "ways are 4 or 8")) aN)) eM)
def bu:List D->M D:=b6 1 (vJ)
def vE:DS:=(aI (zV 1) (aI (λρ=>noex ((ez (putN 2) (λρ=>(aC (dA bw (aC (dV 0) aN)) aN) ρ>>=fc) (dF [2] (CI 1 (aw 2 b_ (aC (dV 0) (aC (dV 2) aN)))))) ρ)) (CK 1 (bF (dV 1)))))
def cu:List D->M D:=b6 3 (vE)
def tH:DS:=(aI (zV 3) (aI (λρ=>noex ((ez (putN 4) (λρ=>(aC (dA wC (aC (d2 gS (d2 bD (dV 1) (dC (.int 0))) (dC (.int 1))) (aC (dC (.int 0)) aN))) (aC (dA zD (aC (d2 dE (d2 bD (dV 1) (dC (.int 0))) (dC (.int 2))) (aC (dA bw (aC (dV 0) aN)) aN))) aN)) ρ>>=q0) (dF [4,5] (ez (putN 5) (λρ=>(aC (dA wC (aC (d2 gS (d2 bD (dV 1) (dC (.int 1))) (dC (.int 1))) (aC (dC (.int 0)) aN))) (aC (dA zD (aC (d2 dE (d2 bD (dV 1) (dC (.int 1))) (dC (.int 2))) (aC (dA bw (aC (d2 bD (dV 0) (dC (.int 0))) aN)) aN))) aN)) ρ>>=q0) (dF [5] (kB (dJ (aw 3 dq (aC (dV 1) (aC (dA cf (aC (dV 4) (aC (dV 5) aN))) (aC (dV 2) aN))))) (vf 3 (dA cf (aC (dV 4) (aC (dV 5) aN)))) eM))))) ρ)) (CK 3 (bF (dV 3)))))
def aR:List D->M D:=b6 6 (tH)
def mv:DS:=(aI (bL 3 (d2 jZ (d2 dE (d2 i2 (d2 jZ (aw 2 eW (aC (dV 0) (aC (dV 1) aN))) (dC (.int 2147483563))) (dC (.int 69069))) (d2 i2 (dC (.int 104723)) (d2 dE (dV 1) (dC (.int 1))))) (dC (.int 2147483563)))) (aI (bL 3 (d2 jZ (d2 dE (d2 i2 (dV 3) (dV 3)) (d2 pI (dV 3) (dC (.int 3)))) (dC (.int 2147483399)))) (bF (d2 jZ (d2 pI (d2 jZ (d2 dE (d2 i2 (dV 3) (dV 3)) (d2 pI (dV 3) (dC (.int 7)))) (dC (.int 2147483647))) (dC (.int 11))) (dV 2)))))
def a8:List D->M D:=b6 4 (mv)
def pz:DS:=(aI (kB (tK (eT (dJ (dA jw (aC (dV 0) (aC (dC (.raw (.ty "tuple"))) aN))))) (eT (dS (DI (λi j=>decide (i<=j)) (λi j=>decide (i<=j)) (dC (.int 1)) (dA bw (aC (dV 0) aN)) (dC (.int 8)))))) (bF (dC (.bl false))) eM) (aI (kB (eT (dJ (dA allM (aC (aS 0 (v5 (dV 0)) bp (aw 1 eV (aC (dV 0) aN))) aN)))) (bF (dC (.bl false))) eM) (bF (dA allM (aC (aS 0 (v5 (dV 0)) bp (d2 mJ (dA bw (aC (dV 0) aN)) (dA bw (aC (d2 bD (dV 1) (dC (.int 0))) aN)))) aN)))))
def gp:List D->M D:=b6 1 (pz)
def tF:DS:=(aI (bL 3 (aw 2 dz (aC (dV 0) (aC (dV 1) aN)))) (bF (aS 0 (bV (aw 3 aR (aC (dV 0) (aC (dV 1) (aC (dV 2) aN))))) (dS (d2 mJ (aw 2 dz (aC (dV 1) (aC (dV 0) aN))) (dV 4))) (dV 0))))
def cx:List D->M D:=b6 4 (tF)
def Nz:DE:=aS 0 (λρ=>(aC (dV 4) aN) ρ>>=fc) bp (d2 nL (dV 6) (aw 3 a8 (aC (dV 1) (aC (d2 dE (d2 dE (d2 dE (dV 2) (dC (.int 3))) (d2 i2 (dC (.int 7)) (dV 8))) (dV 0)) (aC (dA bw (aC (dV 6) aN)) aN)))))
def NA:DS:=bL 6 (d2 xQ (dV 6) (dA cf (aC (dM G_ joinM (dC (.str "")) (aC (dV 8) aN)) aN)))
def vH:DS:=(aI (bL 3 (d2 dE (dC (.int 1)) (aw 3 a8 (aC (dV 0) (aC (dV 1) (aC (dV 2) aN)))))) (aI (bL 4 (d2 dE (dC (.int 1)) (aw 3 a8 (aC (dV 0) (aC (d2 dE (dV 1) (dC (.int 1))) (aC (dV 2) aN)))))) (aI (bL 5 (d2 nK (dA ft (aC (dC (.str "ab")) (aC (dC (.str "abc")) (aC (dC (.str "aab")) (aC (dC (.str "fa")) aN))))) (aw 3 a8 (aC (dV 0) (aC (d2 dE (dV 1) (dC (.int 2))) (aC (dC (.int 4)) aN)))))) (aI (bL 6 (dA cf aN)) (aI (λρ=>noex ((ez (putN 7) (λρ=>(aC (dV 3) aN) ρ>>=fc) (dF [7,8] (aI (bL 8 (Nz)) (NA)))) ρ)) (bF (dV 6)))))))
def cQ:List D->M D:=b6 9 (vH)
def tG:DS:=(kB (eT (dJ (aw 1 gp (aC (dV 0) aN)))) (Nf 0 (aC (dC (.str "a tuple of 1 to 8 texts of 1 to 8 letters, all as long, is asked for")) aN)) eM)
def aY:List D->M D:=b6 1 (tG)
def Im:DS:=dF [7] (kB (Ja (dS (d2 (jY true) (dV 7) (dV 3)))) (aI (jh 3 (dV 7) (dV 6)) (vf 5 (dV 7))) eM)
def tJ:DS:=(aI (CL 3 (λρ=>(dV 1) ρ>>=λx=>(dC .non) ρ>>=λy=>ql x y)) (aI (bL 4 (dA ft (aC (dV 1) aN))) (aI (λρ=>noex ((CN (dJ (dV 4)) (dF [5,6,7] (aI (zV 5) (aI (ez (putN 6) (bV (dV 4)) (dF [6,7] (ez (putN 7) (bV (aw 3 cx (aC (dV 0) (aC (dV 6) (aC (dV 2) aN))))) (Im)))) (CK 5 (bL 4 (dV 5))))))) ρ)) (CK 3 (bF (dV 3))))))
def cU:List D->M D:=b6 8 (tJ)
def i8:DS:=(bF (dM G_ joinM (dC (.str "")) (aC (aS 0 (λρ=>(aC (dV 0) aN) ρ>>=Cz) bp (d2 nL (dV 0) (dV 2))) aN)))
def bG:List D->M D:=b6 2 (i8)
def tI:DS:=(aI (vg 1) (aI (λρ=>noex ((ez (oX [2,3]) (λρ=>(aC (dV 0) aN) ρ>>=nE) (dF [2,3,4] (ez (putN 4) (bV (dV 3)) (dF [4] (jh 1 (dV 4) (dV 2)))))) ρ)) (CK 1 (bF (dV 1)))))
def eD:List D->M D:=b6 5 (tI)
def tE:DS:=(bF (v8 (d2 (iZ false) (d2 bD (dV 1) (dC (.int 0))) (dA cf (aC (dC (.int 0)) (aC (d2 gS (dA bw (aC (dV 0) aN)) (dC (.int 1))) aN)))) (d2 (iZ false) (d2 bD (dV 1) (dC (.int 1))) (dA cf (aC (dC (.int 0)) (aC (d2 gS (dA bw (aC (d2 bD (dV 0) (dC (.int 0))) aN)) (dC (.int 1))) aN))))))
def cT:List D->M D:=b6 2 (tE)
def p_:DS:=(kB (tK (eT (dJ (aw 1 dY (aC (dV 1) aN)))) (eT (dS (DI (λi j=>decide (i<=j)) (λi j=>decide (i<j)) (dC (.int 0)) (dV 1) (dV 0))))) (Nf 4 (aC (dC (.str "the number of a patch of the board is asked for")) aN)) eM)
def da:List D->M D:=b6 2 (p_)
def mT:DS:=(bF (dA anyM (aC (aS 0 (bV (dV 1)) bp (aw 2 cT (aC (dV 1) (aC (dV 0) aN)))) aN)))
def bC:List D->M D:=b6 2 (mT)
def LN:DS:=(dF [5,6] (kB (dS (d2 GJ (d2 nJ (dV 2) (dV 4)) (d2 nJ (dV 2) (dV 5)))) (aI (bL 6 (dA cf (aC (d2 nJ (dV 2) (dV 4)) (aC (d2 nJ (dV 2) (dV 5)) aN)))) (jh 3 (dV 6) (Lj (d2 dE (xH (dV 3) (dV 6) (dC (.int 0))) (dC (.int 1)))))) eM))
def pB:DS:=(aI (bL 2 (aw 1 eD (aC (dV 1) aN))) (aI (vg 3) (aI (λρ=>noex ((ez (putN 4) (bV (aw 1 cu (aC (dV 0) aN))) (dF [4,5,6] (ez (putN 5) (bV (aw 3 aR (aC (dV 0) (aC (dV 4) (aC (dC (.int 4)) aN))))) LN))) ρ)) (CK 3 (bF (dV 3))))))
def cb:List D->M D:=b6 7 (pB)
def Di:DS:=(aI (ig (aw 1 aY (aC (dV 0) aN))) (bF (dA C9 (aC (aS 0 (λρ=>(aC (dA bw (aC (d2 bD (dV 0) (dC (.int 0))) aN)) aN) ρ>>=fc) bp (aw 2 bG (aC (dV 1) (aC (dV 0) aN)))) aN))))
def gW:List D->M D:=b6 1 (Di)
def L6:DS:=(dF [4,5] (kB (Ja (dS (d2 (jY true) (dV 4) (dV 3)))) (aI (bL 5 (dA vw (aC (aw 3 cU (aC (dV 0) (aC (dV 4) (aC (dV 1) aN)))) aN))) (aI (vf 2 (dV 5)) (CM 3 (aw 1 iC (aC (dV 5) aN))))) eM))
def p9:DS:=(aI (zV 2) (aI (vg 3) (aI (λρ=>noex ((ez (putN 4) (bV (aw 1 cu (aC (dV 0) aN))) L6) ρ)) (CK 2 (bF (dV 2))))))
def aL:List D->M D:=b6 6 (p9)
def Ag:DS:=(aI (ig (aw 1 aY (aC (dV 0) aN))) (aI (ig (aw 1 bu (aC (dV 1) aN))) (bF (aw 2 aL (aC (dV 0) (aC (dV 1) aN))))))
def fV:List D->M D:=b6 2 (Ag)
def fI:DS:=(aI (ig (aw 1 aY (aC (dV 0) aN))) (aI (ig (aw 1 bu (aC (dV 1) aN))) (aI (bL 3 (aw 2 aL (aC (dV 0) (aC (dV 1) aN)))) (aI (ig (aw 2 da (aC (dA bw (aC (dV 3) aN)) (aC (dV 2) aN)))) (bF (d2 nK (dV 3) (dV 2)))))))
def a_:List D->M D:=b6 4 (fI)
def xu:DS:=(aI (ig (aw 1 aY (aC (dV 0) aN))) (aI (ig (aw 1 bu (aC (dV 1) aN))) (bF (d1 lL (aw 2 cb (aC (dV 0) (aC (aw 2 aL (aC (dV 0) (aC (dV 1) aN))) aN)))))))
def du:List D->M D:=b6 2 (xu)
def xr:DS:=(aI (ig (aw 1 aY (aC (dV 0) aN))) (aI (ig (aw 1 bu (aC (dV 1) aN))) (aI (bL 2 (aS 0 (bV (aw 2 aL (aC (dV 0) (aC (dV 1) aN)))) bp (dA bw (aC (dV 0) aN)))) (bF (dM eZ qq (dV 2) (aC (dA f6 (aC (dV 2) aN)) aN))))))
def eU:List D->M D:=b6 3 (xr)
def Af:DS:=(aI (ig (aw 1 aY (aC (dV 0) aN))) (aI (ig (aw 1 bu (aC (dV 1) aN))) (bF (aS 2 (λρ=>(aC (aw 2 aL (aC (dV 0) (aC (dV 1) aN))) aN) ρ>>=nE) (dJ (aw 2 bC (aC (dV 2) (aC (dV 1) aN)))) (dV 0)))))
def fU:List D->M D:=b6 2 (Af)
def IF:DS:=(bF (dA bw (aC (aw 3 a_ (aC (dV 0) (aC (dV 1) (aC (dV 2) aN)))) aN)))
def ju:List D->M D:=b6 3 (IF)
def Ld:DS:=(aI (bL 3 (aw 3 a_ (aC (dV 0) (aC (dV 1) (aC (dV 2) aN))))) (aI (bL 4 (aw 1 iC (aC (dV 3) aN))) (aI (bL 5 (dC (.int 0))) (aI (λρ=>noex ((ez (putN 6) (bV (dV 3)) (dF [6] (CH 5 (d2 gS (dC (.int 4)) (dA bw (aC (aS 0 (bV (aw 3 aR (aC (dV 0) (aC (dV 6) (aC (dC (.int 4)) aN))))) (dS (d2 (jY false) (dV 0) (dV 5))) (dV 0)) aN)))))) ρ)) (bF (dV 5))))))
def jV:List D->M D:=b6 7 (Ld)
def Lc:DS:=(aI (bL 3 (aw 3 a_ (aC (dV 0) (aC (dV 1) (aC (dV 2) aN))))) (aI (bL 4 (aS 0 (bV (dV 3)) bp (d2 bD (dV 0) (dC (.int 0))))) (aI (bL 5 (aS 0 (bV (dV 3)) bp (d2 bD (dV 0) (dC (.int 1))))) (bF (dA cf (aC (dA j5 (aC (dV 4) aN)) (aC (dA j5 (aC (dV 5) aN)) (aC (dA f6 (aC (dV 4) aN)) (aC (dA f6 (aC (dV 5) aN)) aN)))))))))
def uc:List D->M D:=b6 6 (Lc)
def mw:DS:=(bL 1 (aw 3 cQ (aC (dV 0) (aC (dC (.int 0)) (aC (dC (.int 5)) aN)))))
def mx:DS:=(bL 2 (d2 nK (dA ft (aC (dC (.int 4)) (aC (dC (.int 8)) aN))) (aw 3 a8 (aC (dV 0) (aC (dC (.int 60)) (aC (dC (.int 2)) aN))))))
def my:DS:=(bL 3 (dA bw (aC (dV 1) aN)))
def mz:DS:=(bL 4 (dA bw (aC (d2 bD (dV 1) (dC (.int 0))) aN)))
def mB:DS:=(bL 5 (aw 2 fV (aC (dV 1) (aC (dV 2) aN))))
def mC:DS:=(bL 6 (aw 2 du (aC (dV 1) (aC (dV 2) aN))))
def mD:DS:=(bL 7 (aS 0 (λρ=>(aC (dA bw (aC (dV 5) aN)) aN) ρ>>=fc) bp (aw 3 ju (aC (dV 2) (aC (dV 3) (aC (dV 0) aN))))))
def mE:DS:=(kB (dS (d2 xR (dV 7) (aS 0 (bV (dV 5)) bp (dA bw (aC (dV 0) aN))))) (bF (dC (.bl false))) eM)
def mF:DS:=(kB (dS (d2 xR (aw 2 eU (aC (dV 1) (aC (dV 2) aN))) (dM eZ qq (dV 7) (aC (dA f6 (aC (dV 7) aN)) aN)))) (bF (dC (.bl false))) eM)
def mG:DS:=(bL 8 (dA ft aN))
def Hm:DS:=(dF [9,10,11,12,13,14,15,16,17,18] (aI (bL 11 (dA mr (aC (aS 2 (bV (dV 6)) (dS (d2 (iZ false) (dV 11) (dV 0))) (dV 1)) aN))) (aI (bL 12 (aS 2 (bV (dV 10)) bp (dV 0))) (aI (bL 13 (aS 2 (bV (dV 10)) bp (dV 1))) (aI (bL 14 (d2 dE (dM eZ lS (dV 12) (aC (dC (.int 0)) aN)) (dM eZ lS (dV 12) (aC (d2 gS (dV 3) (dC (.int 1))) aN)))) (aI (bL 14 (d2 dE (d2 dE (dV 14) (dM eZ lS (dV 13) (aC (dC (.int 0)) aN))) (dM eZ lS (dV 13) (aC (d2 gS (dV 4) (dC (.int 1))) aN)))) (aI (kB (dS (d2 xR (aw 3 jV (aC (dV 1) (aC (dV 2) (aC (dV 9) aN)))) (d2 dE (dV 11) (dV 14)))) (bF (dC (.bl false))) eM) (aI (CF (oX [15,16,17,18]) (aw 3 uc (aC (dV 1) (aC (dV 2) (aC (dV 9) aN))))) (aI (kB (dS (d2 xR (dA cf (aC (dV 15) (aC (dV 17) aN))) (dA cf (aC (dA j5 (aC (dV 12) aN)) (aC (dA f6 (aC (dV 12) aN)) aN))))) (bF (dC (.bl false))) eM) (aI (kB (dS (d2 xR (dA cf (aC (dV 16) (aC (dV 18) aN))) (dA cf (aC (dA j5 (aC (dV 13) aN)) (aC (dA f6 (aC (dV 13) aN)) aN))))) (bF (dC (.bl false))) eM) (bL 8 (d2 AZ (dV 8) (d2 GK (dA ft (aC (dV 9) aN)) (dA G8 (aC (v8 (d2 mJ (dV 15) (dC (.int 0))) (v8 (d2 mJ (dV 16) (dC (.int 0))) (v8 (d2 mJ (dV 17) (d2 gS (dV 3) (dC (.int 1)))) (d2 mJ (dV 18) (d2 gS (dV 4) (dC (.int 1))))))) aN)))))))))))))))
def kM:DS:=(λρ=>noex ((ez (oX [9,10]) (λρ=>(aC (dV 5) aN) ρ>>=nE) Hm) ρ))
def kN:DS:=(kB (dS (d2 xR (aw 2 fU (aC (dV 1) (aC (dV 2) aN))) (dV 8))) (bF (dC (.bl false))) eM)
def kO:DS:=(kB (dS (d2 xR (aS 2 (bV (dV 6)) (tK (dS (d2 Jw (d2 bD (dV 0) (dC (.int 0))) (d2 bD (dV 0) (dC (.int 1))))) (dS (d2 GJ (dV 1) (dC (.int 1))))) (dV 0)) (dA ft aN))) (bF (dC (.bl false))) eM)
def kP:DS:=(bL 19 (aw 1 gW (aC (dV 1) aN)))
def kQ:DS:=(bL 20 (dA vx (aC (aS 0 (λρ=>(aC (dA bw (aC (dV 5) aN)) aN) ρ>>=fc) bp (dA cf (aC (aw 3 jV (aC (dV 2) (aC (dV 3) (aC (dV 0) aN)))) (aC (d2 nK (dV 8) (dV 0)) aN)))) aN)))
def kR:DS:=(kB (dS (d2 xR (dA vx (aC (aS 0 (λρ=>(aC (dA bw (aC (dV 5) aN)) aN) ρ>>=fc) bp (dA cf (aC (aw 3 jV (aC (dV 20) (aC (dV 3) (aC (dV 0) aN)))) (aC (aw 3 ju (aC (dV 20) (aC (dV 3) (aC (dV 0) aN)))) aN)))) aN)) (dV 20))) (bF (dC (.bl false))) eM)
def kS:DS:=(bF (d2 mJ (dA mr (aC (aS 2 (bV (aw 2 du (aC (dV 19) (aC (dV 2) aN)))) bp (dV 1)) aN)) (dA mr (aC (aS 2 (bV (dV 6)) bp (dV 1)) aN))))
def lP:DS:=(aI mw (aI mx (aI my (aI mz (aI mB (aI mC (aI mD (aI mE (aI mF (aI mG (aI kM (aI kN (aI kO (aI kP (aI kQ (aI kR kS))))))))))))))))
def iD:List D->M D:=b6 21 lP
structure Bl (K:QZ) (mg:Str->Option Value) (base:Heap) (cv:Nat->Value) (cA:Nat->Addr) (Cp:Addr):Prop where
 len:mg "len"=none
 isinstance:mg "isinstance"=none
 all:mg "all"=none
 any:mg "any"=none
 abs:mg "abs"=none
 max:mg "max"=none
 min:mg "min"=none
 sum:mg "sum"=none
 range:mg "range"=none
 str:mg "str"=none
 int:mg "int"=none
 bool:mg "bool"=none
 tuple:mg "tuple"=none
 sorted:mg "sorted"=none
 reversed:mg "reversed"=none
 enumerate:mg "enumerate"=none
 LETTERS:∃t,mg "LETTERS"=some (.str "abcdef" t)
 MOST_ROWS:∃t,mg "MOST_ROWS"=some (.int 8 t)
 MOST_COLUMNS:∃t,mg "MOST_COLUMNS"=some (.int 8 t)
section
variable{P:Ru}{w:World}{K:QZ}{mg:Str->Option Value}{base:Heap}{cv:Nat->Value}{cA:Nat->Addr}{Cp:Addr}{f:Addr}
abbrev jD:Stmt:=top 9
def oq:List Str:=["thing"]
def oM:List Str:=["thing"]
def mR{j k:Nat}{A:RQ}(r:Room k A)(h:j<=k:=by decide):Room j A:=r.mono h
def cX{N Q:List Str}{sc:Scope}(k:sc.kind= .function:=by rfl)(c:sc.isCoroutine=false:=by rfl)(g:sc.isGenerator=false:=by rfl)(p:N.take Q.length=Q:=by rfl)(h:N.Nodup/\(∀x∈Q,sc.names.lookup x=some .local\/sc.names.lookup x=some .cell)/\∀y∈sc.names,y.2≠ .free:=by decide+kernel):FnScope N Q sc:=⟨k,c,g,h.1,p,h.2.1,h.2.2⟩
def vk:FnScope oq oM (ah jD):=cX
def uT(B:Bl K mg base cv cA Cp)(T:bz K mg "is_whole" jD f):ak P w K mg base cv 1 "is_whole" 1 (dY):=
 aB (N:=oq) (ps:=oM) T vk (λ_ _ _ _ _ _ us hl=>match us,hl with | [_],_=>rfl) λ_ _ _ _ _ _ hr=>
  (ar (aD (wW (oQ rfl B.isinstance rfl (ab (ae (pv 0)) (ab (u6 rfl B.int rfl) ag))) (sC (HJ (oQ rfl B.isinstance rfl (ab (ae (pv 0)) (ab (u6 rfl B.bool rfl) ag))))))))
abbrev ik:Stmt:=top 10
def l5:List Str:=["thing"]
def md:List Str:=["thing"]
def sS:FnScope l5 md (ah ik):=cX
def sj(B:Bl K mg base cv cA Cp)(T:bz K mg "is_letter" ik f):ak P w K mg base cv 1 "is_letter" 1 (cP):=
 aB (N:=l5) (ps:=md) T sS (λ_ _ _ _ _ _ us hl=>match us,hl with | [_],_=>rfl) λ_ _ _ _ _ _ hr=>
  (ar (aD (wW (oQ rfl B.isinstance rfl (ab (ae (pv 0)) (ab (u6 rfl B.str rfl) ag))) (wW (kq hr.units (bE rfl B.len (ab (ae (pv 0)) ag)) av) (sC (HG (ae (pv 0)) (EK rfl B.LETTERS (by decide))))))))
abbrev dQ:Stmt:=top 15
def dO:List Str:=["board","row"]
def hZ:List Str:=["board","row"]
def mQ:FnScope dO hZ (ah dQ):=cX
def mN(B:Bl K mg base cv cA Cp)(T:bz K mg "cells_of_row" dQ f):ak P w K mg base cv 1 "cells_of_row" 2 (b_):=
 aB (N:=dO) (ps:=hZ) T mQ (λ_ _ _ _ _ _ us hl=>match us,hl with | [_,_],_=>rfl) λ_ _ _ _ _ _ hr=>
  (ar (aD (bQ (tn:=["column"]) (n:=0) (aP (N:=dO) (osc:=(ah dQ)) rfl rfl (by decide+kernel)) rfl rfl (cR rfl B.range (ab (bE rfl B.len (ab (bO (ae (pv 0)) av) ag)) ag)) (λ_ _ _ _ _ _ _=>bX (show RE (((["column"]:List Str))++bH ["column"] dO) by decide+kernel) rfl rfl) (λ_ _ _ _ _ _=>br) (λ_ _ _ _ _ _=>(c7 (ab (ae (pv 2)) (ab (ae (pv 0)) ag)))))))
abbrev ip:Stmt:=top 17
def l7:List Str:=["board","cell"]
def mh:List Str:=["board","cell"]
def sT:FnScope l7 mh (ah ip):=cX
def so(B:Bl K mg base cv cA Cp)(T:bz K mg "letter_of" ip f):ak P w K mg base cv 1 "letter_of" 2 (dz):=
 aB (N:=l7) (ps:=mh) T sT (λ_ _ _ _ _ _ us hl=>match us,hl with | [_,_],_=>rfl) λ_ _ _ _ _ _ hr=>
  (ar (aD (wY (bO (ae (pv 0)) (bO (ae (pv 1)) av)) (bO (ae (pv 1)) av))))
abbrev jC:Stmt:=top 18
def om:List Str:=["one","other","ways","down","along"]
def oI:List Str:=["one","other","ways"]
def ir:FnScope om oI (ah jC):=cX
def uQ(B:Bl K mg base cv cA Cp)(T:bz K mg "are_next" jC f):ak P w K mg base cv 1 "are_next" 3 (dq):=
 aB (N:=om) (ps:=oI) T ir (λ_ _ _ _ _ _ us hl=>match us,hl with | [_,_,_],_=>rfl) λ_ _ _ _ _ _ hr=>
  (aj (aQ ir.nd rfl (.inl rfl) (B3 rfl B.abs (ab (fb (bO (ae (pv 0)) av) (bO (ae (pv 1)) av)) ag) rfl)) (aj (aQ ir.nd rfl (.inl rfl) (B3 rfl B.abs (ab (fb (bO (ae (pv 0)) av) (bO (ae (pv 1)) av)) ag) rfl)) (aj (cj (Co hr.units (ae (pv 2)) av) (ar (aD (kq hr.units (cg (ae (pv 3)) (ae (pv 4))) av))) bA) (ar (aD (kq hr.units (wZ rfl rfl B.max rfl (ab (ae (pv 3)) (ab (ae (pv 4)) ag))) av))))))
abbrev sQ:Stmt:=top 20
def yg:List Str:=["things","found","thing"]
def ym:List Str:=["things"]
def o7:FnScope yg ym (ah sQ):=cX
def BW(B:Bl K mg base cv cA Cp)(T:bz K mg "keyed" sQ f):ak P w K mg base cv 1 "keyed" 1 (iC):=
 aB (N:=yg) (ps:=ym) T o7 (λ_ _ _ _ _ _ us hl=>match us,hl with | [_],_=>rfl) λ_ _ _ _ _ _ hr=>
  (aj (ku o7.nd rfl (.inl rfl)) (aj (d9 (cM RP rfl (EL (bb (ae (pv 0))) (B9 (ae (pv 0)))) (ba o7.nd rfl (.inl rfl)) cG (bP (ar (kx hr.units (pv 1) (ae (pv 2)) gR))))) (ar (fE (i:=1) (aD (ae (pv 1)))))))
abbrev b9:Stmt:=top 21
def b8:List Str:=["board","column"]
def eC:List Str:=["board","column"]
def iu:FnScope b8 eC (ah b9):=cX
def hX(B:Bl K mg base cv cA Cp)(T:bz K mg "column_from_below" b9 f):ak P w K mg base cv 1 "column_from_below" 2 (bG):=
 aB (N:=b8) (ps:=eC) T iu (λ_ _ _ _ _ _ us hl=>match us,hl with | [_,_],_=>rfl) λ_ _ _ _ _ _ hr=>
  (ar (aD (yt lx (ab (bQ (tn:=["row"]) (n:=0) (aP (N:=b8) (osc:=(ah b9)) rfl rfl (by decide+kernel)) rfl rfl (EM rfl B.reversed (ab (ae (pv 0)) ag)) (λ_ _ _ _ _ _ _=>bX (show RE (((["row"]:List Str))++bH ["row"] b8) by decide+kernel) rfl rfl) (λ_ _ _ _ _ _=>br) (λ_ _ _ _ _ _=>(wY (ae (pv 0)) (ae (pv 2))))) ag))))
abbrev gH:Stmt:=top 27
def kc:List Str:=["found","numbers","number","patch","cell"]
def kl:List Str:=["found"]
def dh:FnScope kc kl (ah gH):=cX
def pS(B:Bl K mg base cv cA Cp)(T:bz K mg "numbers_of" gH f):ak P w K mg base cv 1 "numbers_of" 1 (eD):=
 aB (N:=kc) (ps:=kl) T dh (λ_ _ _ _ _ _ us hl=>match us,hl with | [_],_=>rfl) λ_ _ _ _ _ _ hr=>
  (aj (ku dh.nd rfl (.inl rfl)) (aj (d9 (cM RP rfl (oR rfl B.enumerate (ab (ae (pv 0)) ag)) (sE rfl (dg (ba dh.nd rfl (.inl rfl)) (dg (ba dh.nd rfl (.inl rfl)) mZ))) (sJ (is:=[2,3])) (bP (ar (cM RP rfl (bb (ae (pv 3))) (ba dh.nd rfl (.inl rfl)) cG (bP (ar (kx hr.units (pv 1) (ae (pv 4)) (ae (pv 2)))))))))) (ar (fE (i:=1) (aD (ae (pv 1)))))))
abbrev gE:Stmt:=top 32
def j7:List Str:=["board","cell"]
def kg:List Str:=["board","cell"]
def pV:FnScope j7 kg (ah gE):=cX
def pO(B:Bl K mg base cv cA Cp)(T:bz K mg "is_at_edge" gE f):ak P w K mg base cv 1 "is_at_edge" 2 (cT):=
 aB (N:=j7) (ps:=kg) T pV (λ_ _ _ _ _ _ us hl=>match us,hl with | [_,_],_=>rfl) λ_ _ _ _ _ _ hr=>
  (ar (aD (yu (B5 (bO (ae (pv 1)) av) (c7 (ab av (ab (fb (bE rfl B.len (ab (ae (pv 0)) ag)) av) ag)))) (sC (B5 (bO (ae (pv 1)) av) (c7 (ab av (ab (fb (bE rfl B.len (ab (bO (ae (pv 0)) av) ag)) av) ag))))))))
abbrev jE:Stmt:=top 42
def ou:List Str:=["_law_script","_law_k"]
def oN:List Str:=["_law_script","_law_k"]
def vm:FnScope ou oN (ah jE):=cX
def uU(B:Bl K mg base cv cA Cp)(T:bz K mg "_law_cell" jE f):ak P w K mg base cv 1 "_law_cell" 2 (eW):=
 aB (N:=ou) (ps:=oN) T vm (λ_ _ _ _ _ _ us hl=>match us,hl with | [_,_],_=>rfl) λ_ _ _ _ _ _ hr=>
  (aj (cj (Co hr.units (ae (pv 0)) (jA ag)) (ar (aD (jB av (ae (pv 1))))) bA) (ar (aD (cg (HH (ae (pv 0)) (lu (ae (pv 1)) (bE rfl B.len (ab (ae (pv 0)) ag)))) (jB av (sx (ae (pv 1)) (bE rfl B.len (ab (ae (pv 0)) ag))))))))
abbrev kC:Stmt:=top 11
def j8:List Str:=["thing"]
def uZ:List Str:=["thing"]
def zW:FnScope j8 uZ (ah kC):=cX
def zJ(B:Bl K mg base cv cA Cp)(tW:ak P w K mg base cv 1 "is_letter" 1 cP)(T:bz K mg "is_row" kC f):ak P w K mg base cv 2 "is_row" 1 (eV):=
 aB (N:=j8) (ps:=uZ) T zW (λ_ _ _ _ _ _ us hl=>match us,hl with | [_],_=>rfl) λ_ _ _ _ _ _ hr=>
  (aj (cj (PDW.t (oT (eJ (eK (oQ rfl B.isinstance rfl (ab (ae (pv 0)) (ab (u6 rfl B.str rfl) ag))))) (kr (eJ (w4 uW uW av (bE rfl B.len (ab (ae (pv 0)) ag)) (yq rfl B.MOST_COLUMNS)))))) (ar (aD gR)) bA) (ar (aD (wV rfl rfl B.all rfl (ab (bQ (tn:=["sign"]) (n:=0) (aP (N:=j8) (osc:=(ah kC)) rfl rfl (by decide+kernel)) rfl rfl (EN (ae (pv 0))) (λ_ _ _ _ _ _ _=>bX (show RE (((["sign"]:List Str))++bH ["sign"] j8) by decide+kernel) rfl rfl) (λ_ _ _ _ _ _=>br) (λ_ _ _ _ _ _=>(bg tW (mR hr) rfl cZ (ab (ae (pv 0)) ag) rfl))) ag)))))
abbrev iq:Stmt:=top 14
def l8:List Str:=["thing"]
def mi:List Str:=["thing"]
def sU:FnScope l8 mi (ah iq):=cX
def sq(B:Bl K mg base cv cA Cp)(jq:ak P w K mg base cv 1 "is_whole" 1 dY)(T:bz K mg "need_ways" iq f):ak P w K mg base cv 2 "need_ways" 1 (bu):=
 aB (N:=l8) (ps:=mi) T sU (λ_ _ _ _ _ _ us hl=>match us,hl with | [_],_=>rfl) λ_ _ _ _ _ _ hr=>
  (ar (cj (PDW.t (oT (eJ (eK (bg jq (mR hr) rfl bj (ab (ae (pv 0)) ag) rfl))) (kr (zU (ae (pv 0)) (c7 (ab av (ab av ag))))))) (ar lz) bA))
abbrev ij:Stmt:=top 16
def l0:List Str:=["board","found","row"]
def ma:List Str:=["board"]
def gK:FnScope l0 ma (ah ij):=cX
def si(B:Bl K mg base cv cA Cp)(nj:ak P w K mg base cv 1 "cells_of_row" 2 b_)(T:bz K mg "all_cells" ij f):ak P w K mg base cv 2 "all_cells" 1 (cu):=
 aB (N:=l0) (ps:=ma) T gK (λ_ _ _ _ _ _ us hl=>match us,hl with | [_],_=>rfl) λ_ _ _ _ _ _ hr=>
  (aj (m7 gK.nd rfl (.inl rfl)) (aj (d9 (cM RP rfl (cR rfl B.range (ab (bE rfl B.len (ab (ae (pv 0)) ag)) ag)) (ba gK.nd rfl (.inl rfl)) cG (bP (ar (E4 (pv 1) (bg nj (mR hr) rfl cZ (ab (ae (pv 0)) (ab (ae (pv 2)) ag)) rfl)))))) (ar (fE (i:=1) (aD (ae (pv 1)))))))
abbrev gG:Stmt:=top 19
def j_:List Str:=["board","cell","ways","found","row","column"]
def kj:List Str:=["board","cell","ways"]
def d_:FnScope j_ kj (ah gG):=cX
def pR(B:Bl K mg base cv cA Cp)(vW:ak P w K mg base cv 1 "are_next" 3 dq)(T:bz K mg "next_cells" gG f):ak P w K mg base cv 2 "next_cells" 3 (aR):=
 aB (N:=j_) (ps:=kj) T d_ (λ_ _ _ _ _ _ us hl=>match us,hl with | [_,_,_],_=>rfl) λ_ _ _ _ _ _ hr=>
  (aj (m7 d_.nd rfl (.inl rfl)) (aj (d9 (cM RP rfl (oS rfl B.range (ab (wZ rfl rfl B.max rfl (ab (fb (bO (ae (pv 1)) av) av) (ab av ag))) (ab (B6 rfl rfl B.min rfl (ab (cg (bO (ae (pv 1)) av) av) (ab (bE rfl B.len (ab (ae (pv 0)) ag)) ag))) ag))) (ba d_.nd rfl (.inl rfl)) cG (bP (ar (cM RP rfl (oS rfl B.range (ab (wZ rfl rfl B.max rfl (ab (fb (bO (ae (pv 1)) av) av) (ab av ag))) (ab (B6 rfl rfl B.min rfl (ab (cg (bO (ae (pv 1)) av) av) (ab (bE rfl B.len (ab (bO (ae (pv 0)) av) ag)) ag))) ag))) (ba d_.nd rfl (.inl rfl)) cG (bP (ar (cj (eK (bg vW (mR hr) rfl cZ (ab (ae (pv 1)) (ab (c7 (ab (ae (pv 4)) (ab (ae (pv 5)) ag))) (ab (ae (pv 2)) ag))) rfl)) (ar (sH (pv 3) (c7 (ab (ae (pv 4)) (ab (ae (pv 5)) ag))))) bA)))))))) (ar (fE (i:=3) (aD (ae (pv 3)))))))
abbrev fP:Stmt:=top 30
def jd:List Str:=["many","thing"]
def jf:List Str:=["many","thing"]
def o8:FnScope jd jf (ah fP):=cX
def oH(B:Bl K mg base cv cA Cp)(jq:ak P w K mg base cv 1 "is_whole" 1 dY)(T:bz K mg "need_number" fP f):ak P w K mg base cv 2 "need_number" 2 (da):=
 aB (N:=jd) (ps:=jf) T o8 (λ_ _ _ _ _ _ us hl=>match us,hl with | [_,_],_=>rfl) λ_ _ _ _ _ _ hr=>
  (ar (cj (PDW.t (oT (eJ (eK (bg jq (mR hr) rfl bj (ab (ae (pv 1)) ag) rfl))) (kr (eJ (w4 uW F_ av (ae (pv 1)) (ae (pv 0))))))) (ar lz) bA))
abbrev dm:Stmt:=top 33
def di:List Str:=["board","some"]
def gQ:List Str:=["board","some"]
def lJ:FnScope di gQ (ah dm):=cX
def ll(B:Bl K mg base cv cA Cp)(rA:ak P w K mg base cv 1 "is_at_edge" 2 cT)(T:bz K mg "comes_to_edge" dm f):ak P w K mg base cv 2 "comes_to_edge" 2 (bC):=
 aB (N:=di) (ps:=gQ) T lJ (λ_ _ _ _ _ _ us hl=>match us,hl with | [_,_],_=>rfl) λ_ _ _ _ _ _ hr=>
  (ar (aD (HF rfl rfl B.any rfl (ab (bQ (tn:=["cell"]) (n:=0) (aP (N:=di) (osc:=(ah dm)) rfl rfl (by decide+kernel)) rfl rfl (bb (ae (pv 1))) (λ_ _ _ _ _ _ _=>bX (show RE (((["cell"]:List Str))++bH ["cell"] di) by decide+kernel) rfl rfl) (λ_ _ _ _ _ _=>br) (λ_ _ _ _ _ _=>(bg rA (mR hr) rfl cZ (ab (ae (pv 1)) (ab (ae (pv 0)) ag)) rfl))) ag))))
abbrev il:Stmt:=top 43
def l6:List Str:=["_law_script","_law_k","_law_many","_law_cell_here"]
def mf:List Str:=["_law_script","_law_k","_law_many"]
def gL:FnScope l6 mf (ah il):=cX
def sm(B:Bl K mg base cv cA Cp)(vY:ak P w K mg base cv 1 "_law_cell" 2 eW)(T:bz K mg "_law_drawn" il f):ak P w K mg base cv 2 "_law_drawn" 3 (a8):=
 aB (N:=l6) (ps:=mf) T gL (λ_ _ _ _ _ _ us hl=>match us,hl with | [_,_,_],_=>rfl) λ_ _ _ _ _ _ hr=>
  (aj (aQ gL.nd rfl (.inl rfl) (lu (cg (jB (lu (bg vY (mR hr) rfl bj (ab (ae (pv 0)) (ab (ae (pv 1)) ag)) rfl) av) av) (jB av (cg (ae (pv 1)) av))) av)) (aj (aQ gL.nd rfl (.inl rfl) (lu (cg (jB (ae (pv 3)) (ae (pv 3))) (sx (ae (pv 3)) av)) av)) (ar (aD (lu (sx (lu (cg (jB (ae (pv 3)) (ae (pv 3))) (sx (ae (pv 3)) av)) av) av) (ae (pv 2)))))))
abbrev fe:Stmt:=top 12
def d5:List Str:=["thing"]
def oK:List Str:=["thing"]
def vj:FnScope d5 oK (ah fe):=cX
def uS(B:Bl K mg base cv cA Cp)(Ay:ak P w K mg base cv 2 "is_row" 1 eV)(T:bz K mg "is_board" fe f):ak P w K mg base cv 3 "is_board" 1 (gp):=
 aB (N:=d5) (ps:=oK) T vj (λ_ _ _ _ _ _ us hl=>match us,hl with | [_],_=>rfl) λ_ _ _ _ _ _ hr=>
  (aj (cj (PDW.t (oT (eJ (eK (oQ rfl B.isinstance rfl (ab (ae (pv 0)) (ab (u6 rfl B.tuple rfl) ag))))) (kr (eJ (w4 uW uW av (bE rfl B.len (ab (ae (pv 0)) ag)) (yq rfl B.MOST_ROWS)))))) (ar (aD gR)) bA) (aj (cj (eJ (eK (wV rfl rfl B.all rfl (ab (bQ (tn:=["row"]) (n:=0) (aP (N:=d5) (osc:=(ah fe)) rfl rfl (by decide+kernel)) rfl rfl (yx (ae (pv 0))) (λ_ _ _ _ _ _ _=>bX (show RE (((["row"]:List Str))++bH ["row"] d5) by decide+kernel) rfl rfl) (λ_ _ _ _ _ _=>br) (λ_ _ _ _ _ _=>(bg Ay (mR hr) rfl cZ (ab (ae (pv 0)) ag) rfl))) ag)))) (ar (aD gR)) bA) (ar (aD (wV rfl rfl B.all rfl (ab (bQ (tn:=["row"]) (n:=0) (aP (N:=d5) (osc:=(ah fe)) rfl rfl (by decide+kernel)) rfl rfl (yx (ae (pv 0))) (λ_ _ _ _ _ _ _=>bX (show RE (((["row"]:List Str))++bH ["row"] d5) by decide+kernel) rfl rfl) (λ_ _ _ _ _ _=>br) (λ_ _ _ _ _ _=>(kq hr.units (bE rfl B.len (ab (ae (pv 0)) ag)) (bE rfl B.len (ab (bO (ae (pv 1)) av) ag))))) ag))))))
abbrev eN:Stmt:=top 24
def eG:List Str:=["board","cell","ways","letter"]
def kh:List Str:=["board","cell","ways"]
def ji:FnScope eG kh (ah eN):=cX
def pP(B:Bl K mg base cv cA Cp)(lR:ak P w K mg base cv 1 "letter_of" 2 dz)(dH:ak P w K mg base cv 2 "next_cells" 3 aR)(T:bz K mg "like_cells" eN f):ak P w K mg base cv 3 "like_cells" 3 (cx):=
 aB (N:=eG) (ps:=kh) T ji (λ_ _ _ _ _ _ us hl=>match us,hl with | [_,_,_],_=>rfl) λ_ _ _ _ _ _ hr=>
  (aj (aQ ji.nd rfl (.inr rfl) (bg lR (mR hr) rfl bj (ab (ae (pv 0)) (ab (ae (pv 1)) ag)) rfl)) (ar (aD (bQ (tn:=["near"]) (n:=0) (aP (N:=eG) (osc:=(ah eN)) rfl rfl (by decide+kernel)) rfl rfl (bb (bg dH (mR hr) rfl bj (ab (ae (pv 0)) (ab (ae (pv 1)) (ab (ae (pv 2)) ag))) rfl)) (λ_ _ _ _ _ _ _=>bX (show RE (((["near"]:List Str))++bH ["near"] eG) by decide+kernel) rfl rfl) (λ_ _ _ _ _ _=>(ix (Co hr.units (bg lR (mR hr) rfl cZ (ab (ae (pv 1)) (ab (ae (pv 0)) ag)) rfl) (ae (pv 4))))) (λ_ _ _ _ _ _=>(ae (pv 0)))))))
abbrev fi:Stmt:=top 34
def g_:List Str:=["board","found","numbers","shared","cell","near","pair"]
def h7:List Str:=["board","found"]
def bR:FnScope g_ h7 (ah fi):=cX
def mO(B:Bl K mg base cv cA Cp)(rD:ak P w K mg base cv 1 "numbers_of" 1 eD)(gT:ak P w K mg base cv 2 "all_cells" 1 cu)(dH:ak P w K mg base cv 2 "next_cells" 3 aR)(T:bz K mg "shared_sides" fi f):ak P w K mg base cv 3 "shared_sides" 2 (cb):=
 aB (N:=g_) (ps:=h7) T bR (λ_ _ _ _ _ _ us hl=>match us,hl with | [_,_],_=>rfl) λ_ _ _ _ _ _ hr=>
  (aj (aQ bR.nd rfl (.inl rfl) (bg rD (mR hr) rfl bj (ab (ae (pv 1)) ag) rfl)) (aj (ku bR.nd rfl (.inl rfl)) (aj (d9 (cM RP rfl (bb (bg gT (mR hr) rfl cZ (ab (ae (pv 0)) ag) rfl)) (ba bR.nd rfl (.inl rfl)) cG (bP (ar (cM RP rfl (bb (bg dH (mR hr) rfl cZ (ab (ae (pv 0)) (ab (ae (pv 4)) (ab av ag))) rfl)) (ba bR.nd rfl (.inl rfl)) cG (bP (ar (cj (Gf (sy hr.units (ae (pv 2)) (ae (pv 4))) (sy hr.units (ae (pv 2)) (ae (pv 5)))) (aj (aQ bR.nd rfl (.inl rfl) (c7 (ab (sy hr.units (ae (pv 2)) (ae (pv 4))) (ab (sy hr.units (ae (pv 2)) (ae (pv 5))) ag)))) (ar (kx hr.units (pv 3) (ae (pv 6)) (Kx (cg (EH hr.units (ae (pv 3)) (ae (pv 6)) av ⟨rfl,rfl,rfl,rfl⟩) av))))) bA)))))))) (ar (fE (i:=3) (aD (ae (pv 3))))))))
abbrev fH:Stmt:=top 44
def fw:List Str:=["_law_script","_law_at","_law_most","_law_rows","_law_wide","_law_alphabet","_law_found","_law_row","_law_signs"]
def me:List Str:=["_law_script","_law_at","_law_most"]
def bW:FnScope fw me (ah fH):=cX
def sk(B:Bl K mg base cv cA Cp)(cq:ak P w K mg base cv 2 "_law_drawn" 3 a8)(T:bz K mg "_law_board" fH f):ak P w K mg base cv 3 "_law_board" 3 (cQ):=
 aB (N:=fw) (ps:=me) T bW (λ_ _ _ _ _ _ us hl=>match us,hl with | [_,_,_],_=>rfl) λ_ _ _ _ _ _ hr=>
  (aj (aQ bW.nd rfl (.inl rfl) (cg av (bg cq (mR hr) rfl bj (ab (ae (pv 0)) (ab (ae (pv 1)) (ab (ae (pv 2)) ag))) rfl))) (aj (aQ bW.nd rfl (.inl rfl) (cg av (bg cq (mR hr) rfl bj (ab (ae (pv 0)) (ab (cg (ae (pv 1)) av) (ab (ae (pv 2)) ag))) rfl))) (aj (aQ bW.nd rfl (.inr rfl) (sA (jA (ab lx (ab lx (ab lx (ab lx ag))))) (bg cq (mR hr) rfl bj (ab (ae (pv 0)) (ab (cg (ae (pv 1)) av) (ab av ag))) rfl))) (aj (aQ bW.nd rfl (.inl rfl) (c7 ag)) (aj (d9 (cM RP rfl (cR rfl B.range (ab (ae (pv 3)) ag)) (ba bW.nd rfl (.inr rfl)) cG (bP (aj (dD (tn:=["_law_k"]) (n:=0) bW.nd rfl (.inl rfl) (aP (N:=fw) (osc:=(ah fH)) rfl rfl (by decide+kernel)) rfl rfl (cR rfl B.range (ab (ae (pv 4)) ag)) (λ_ _ _ _ _ _ _=>bX (show RE (((["_law_k"]:List Str))++bH ["_law_k"] fw) by decide+kernel) rfl rfl) (λ_ _ _ _ _ _=>br) (λ_ _ _ _ _ _=>(wY (ae (pv 6)) (bg cq (mR hr) rfl cZ (ab (ae (pv 1)) (ab (cg (cg (cg (ae (pv 2)) av) (jB av (ae (pv 8)))) (ae (pv 0))) (ab (bE rfl B.len (ab (ae (pv 6)) ag)) ag))) rfl)))) (ar (aQ bW.nd rfl (.inl rfl) (EG (ae (pv 6)) (c7 (ab (yt lx (ab (ae (pv 8)) ag)) ag))))))))) (ar (aD (ae (pv 6)))))))))
abbrev gF:Stmt:=top 13
def j9:List Str:=["thing"]
def ki:List Str:=["thing"]
def pW:FnScope j9 ki (ah gF):=cX
def pQ(B:Bl K mg base cv cA Cp)(vX:ak P w K mg base cv 3 "is_board" 1 gp)(T:bz K mg "need_board" gF f):ak P w K mg base cv 4 "need_board" 1 (aY):=
 aB (N:=j9) (ps:=ki) T pW (λ_ _ _ _ _ _ us hl=>match us,hl with | [_],_=>rfl) λ_ _ _ _ _ _ hr=>
  (ar (cj (eJ (eK (bg vX (mR hr) rfl bj (ab (ae (pv 0)) ag) rfl))) (ar lz) bA))
abbrev gJ:Stmt:=top 25
def ke:List Str:=["board","start","ways","back","ring","further","cell","near"]
def km:List Str:=["board","start","ways"]
def b0:FnScope ke km (ah gJ):=cX
def pT(B:Bl K mg base cv cA Cp)(rC:ak P w K mg base cv 3 "like_cells" 3 cx)(T:bz K mg "steps_back" gJ f):ak P w K mg base cv 4 "steps_back" 3 (cU):=
 aB (N:=ke) (ps:=km) T b0 (λ_ _ _ _ _ _ us hl=>match us,hl with | [_,_,_],_=>rfl) λ_ _ _ _ _ _ hr=>
  (aj (Cj b0.nd rfl (.inl rfl) (zP hr.units (ae (pv 1)) HI)) (aj (aQ b0.nd rfl (.inl rfl) (jA (ab (ae (pv 1)) ag))) (aj (d9 (zT RP (eK (ae (pv 4))) (bP (aj (m7 b0.nd rfl (.inl rfl)) (aj (cM RP rfl (bb (ae (pv 4))) (ba b0.nd rfl (.inl rfl)) cG (bP (ar (cM RP rfl (bb (bg rC (mR hr) rfl cZ (ab (ae (pv 0)) (ab (ae (pv 6)) (ab (ae (pv 2)) ag))) rfl)) (ba b0.nd rfl (.inl rfl)) cG (bP (ar (cj (B_ (qU hr.units (ae (pv 7)) (ae (pv 3)))) (aj (kx hr.units (pv 3) (ae (pv 7)) (ae (pv 6))) (ar (sH (pv 5) (ae (pv 7))))) bA))))))) (ar (fE (i:=5) (aQ b0.nd rfl (.inl rfl) (ae (pv 5)))))))))) (ar (fE (i:=3) (aD (ae (pv 3))))))))
abbrev kD:Stmt:=top 22
def kf:List Str:=["board"]
def u0:List Str:=["board"]
def zX:FnScope kf u0 (ah kD):=cX
def zK(B:Bl K mg base cv cA Cp)(bo:ak P w K mg base cv 4 "need_board" 1 aY)(iX:ak P w K mg base cv 1 "column_from_below" 2 bG)(T:bz K mg "turned" kD f):ak P w K mg base cv 5 "turned" 1 (gW):=
 aB (N:=kf) (ps:=u0) T zX (λ_ _ _ _ _ _ us hl=>match us,hl with | [_],_=>rfl) λ_ _ _ _ _ _ hr=>
  (aj (dj (bg bo (mR hr) rfl bj (ab (ae (pv 0)) ag) rfl)) (ar (aD (B8 rfl B.tuple rfl (ab (bQ (tn:=["column"]) (n:=0) (aP (N:=kf) (osc:=(ah kD)) rfl rfl (by decide+kernel)) rfl rfl (cR rfl B.range (ab (bE rfl B.len (ab (bO (ae (pv 0)) av) ag)) ag)) (λ_ _ _ _ _ _ _=>bX (show RE (((["column"]:List Str))++bH ["column"] kf) by decide+kernel) rfl rfl) (λ_ _ _ _ _ _=>br) (λ_ _ _ _ _ _=>(bg iX (mR hr) rfl cZ (ab (ae (pv 1)) (ab (ae (pv 0)) ag)) rfl))) ag)))))
abbrev fO:Stmt:=top 26
def jc:List Str:=["board","ways","found","seen","cell","patch"]
def je:List Str:=["board","ways"]
def cS:FnScope jc je (ah fO):=cX
def oG(B:Bl K mg base cv cA Cp)(gT:ak P w K mg base cv 2 "all_cells" 1 cu)(rE:ak P w K mg base cv 4 "steps_back" 3 cU)(rB:ak P w K mg base cv 1 "keyed" 1 iC)(T:bz K mg "all_patches" fO f):ak P w K mg base cv 5 "all_patches" 2 (aL):=
 aB (N:=jc) (ps:=je) T cS (λ_ _ _ _ _ _ us hl=>match us,hl with | [_,_],_=>rfl) λ_ _ _ _ _ _ hr=>
  (aj (m7 cS.nd rfl (.inl rfl)) (aj (ku cS.nd rfl (.inl rfl)) (aj (d9 (cM RP rfl (bb (bg gT (mR hr) rfl cZ (ab (ae (pv 0)) ag) rfl)) (ba cS.nd rfl (.inl rfl)) cG (bP (ar (cj (B_ (qU hr.units (ae (pv 4)) (ae (pv 3)))) (aj (aQ cS.nd rfl (.inl rfl) (EJ rfl rfl B.sorted rfl (ab (bg rE (mR hr) rfl cZ (ab (ae (pv 0)) (ab (ae (pv 4)) (ab (ae (pv 1)) ag))) rfl) ag))) (aj (sH (pv 2) (ae (pv 5))) (ar (E5 hr.units (pv 3) (bg rB (mR hr) rfl cZ (ab (ae (pv 5)) ag) rfl) ⟨rfl,rfl,rfl,rfl⟩)))) bA))))) (ar (fE (i:=2) (aD (ae (pv 2))))))))
abbrev lI:Stmt:=top 28
def qI:List Str:=["board","ways"]
def qP:List Str:=["board","ways"]
def xa:FnScope qI qP (ah lI):=cX
def wN(B:Bl K mg base cv cA Cp)(bo:ak P w K mg base cv 4 "need_board" 1 aY)(bT:ak P w K mg base cv 2 "need_ways" 1 bu)(bx:ak P w K mg base cv 5 "all_patches" 2 aL)(T:bz K mg "patches" lI f):ak P w K mg base cv 6 "patches" 2 (fV):=
 aB (N:=qI) (ps:=qP) T xa (λ_ _ _ _ _ _ us hl=>match us,hl with | [_,_],_=>rfl) λ_ _ _ _ _ _ hr=>
  (aj (dj (bg bo (mR hr) rfl bj (ab (ae (pv 0)) ag) rfl)) (aj (dj (bg bT (mR hr) rfl bj (ab (ae (pv 1)) ag) rfl)) (ar (aD (bg bx (mR hr) rfl bj (ab (ae (pv 0)) (ab (ae (pv 1)) ag)) rfl)))))
abbrev dR:Stmt:=top 31
def fB:List Str:=["board","ways","number","found"]
def fC:List Str:=["board","ways","number"]
def fj:FnScope fB fC (ah dR):=cX
def jy(B:Bl K mg base cv cA Cp)(bo:ak P w K mg base cv 4 "need_board" 1 aY)(bT:ak P w K mg base cv 2 "need_ways" 1 bu)(bx:ak P w K mg base cv 5 "all_patches" 2 aL)(pF:ak P w K mg base cv 2 "need_number" 2 da)(T:bz K mg "patch_of_number" dR f):ak P w K mg base cv 6 "patch_of_number" 3 (a_):=
 aB (N:=fB) (ps:=fC) T fj (λ_ _ _ _ _ _ us hl=>match us,hl with | [_,_,_],_=>rfl) λ_ _ _ _ _ _ hr=>
  (aj (dj (bg bo (mR hr) rfl bj (ab (ae (pv 0)) ag) rfl)) (aj (dj (bg bT (mR hr) rfl bj (ab (ae (pv 1)) ag) rfl)) (aj (aQ fj.nd rfl (.inl rfl) (bg bx (mR hr) rfl bj (ab (ae (pv 0)) (ab (ae (pv 1)) ag)) rfl)) (aj (dj (bg pF (mR hr) rfl bj (ab (bE rfl B.len (ab (ae (pv 3)) ag)) (ab (ae (pv 2)) ag)) rfl)) (ar (aD (sA (ae (pv 3)) (ae (pv 2)))))))))
abbrev jF:Stmt:=top 38
def oy:List Str:=["board","ways"]
def oO:List Str:=["board","ways"]
def vn:FnScope oy oO (ah jF):=cX
def uV(B:Bl K mg base cv cA Cp)(bo:ak P w K mg base cv 4 "need_board" 1 aY)(bT:ak P w K mg base cv 2 "need_ways" 1 bu)(nq:ak P w K mg base cv 3 "shared_sides" 2 cb)(bx:ak P w K mg base cv 5 "all_patches" 2 aL)(T:bz K mg "touching" jF f):ak P w K mg base cv 6 "touching" 2 (du):=
 aB (N:=oy) (ps:=oO) T vn (λ_ _ _ _ _ _ us hl=>match us,hl with | [_,_],_=>rfl) λ_ _ _ _ _ _ hr=>
  (aj (dj (bg bo (mR hr) rfl bj (ab (ae (pv 0)) ag) rfl)) (aj (dj (bg bT (mR hr) rfl bj (ab (ae (pv 1)) ag) rfl)) (ar (aD (B7 rfl hr.units rfl B.sorted rfl (bg nq (mR hr) rfl bj (ab (ae (pv 0)) (ab (bg bx (mR hr) rfl bj (ab (ae (pv 0)) (ab (ae (pv 1)) ag)) rfl) ag)) rfl))))))
abbrev gD:Stmt:=top 39
def gy:List Str:=["board","ways","lengths"]
def oJ:List Str:=["board","ways"]
def mn:FnScope gy oJ (ah gD):=cX
def uR(B:Bl K mg base cv cA Cp)(bo:ak P w K mg base cv 4 "need_board" 1 aY)(bT:ak P w K mg base cv 2 "need_ways" 1 bu)(bx:ak P w K mg base cv 5 "all_patches" 2 aL)(T:bz K mg "greatest" gD f):ak P w K mg base cv 6 "greatest" 2 (eU):=
 aB (N:=gy) (ps:=oJ) T mn (λ_ _ _ _ _ _ us hl=>match us,hl with | [_,_],_=>rfl) λ_ _ _ _ _ _ hr=>
  (aj (dj (bg bo (mR hr) rfl bj (ab (ae (pv 0)) ag) rfl)) (aj (dj (bg bT (mR hr) rfl bj (ab (ae (pv 1)) ag) rfl)) (aj (dD (tn:=["patch"]) (n:=0) mn.nd rfl (.inl rfl) (aP (N:=gy) (osc:=(ah gD)) rfl rfl (by decide+kernel)) rfl rfl (bb (bg bx (mR hr) rfl bj (ab (ae (pv 0)) (ab (ae (pv 1)) ag)) rfl)) (λ_ _ _ _ _ _ _=>bX (show RE (((["patch"]:List Str))++bH ["patch"] gy) by decide+kernel) rfl rfl) (λ_ _ _ _ _ _=>br) (λ_ _ _ _ _ _=>(bE rfl B.len (ab (ae (pv 0)) ag)))) (ar (aD (yp (ae (pv 2)) (ab (iQ rfl rfl B.max rfl (ab (ae (pv 2)) ag)) ag)))))))
abbrev iS:Stmt:=top 40
def iO:List Str:=["board","ways"]
def qO:List Str:=["board","ways"]
def w_:FnScope iO qO (ah iS):=cX
def wM(B:Bl K mg base cv cA Cp)(bo:ak P w K mg base cv 4 "need_board" 1 aY)(bT:ak P w K mg base cv 2 "need_ways" 1 bu)(mH:ak P w K mg base cv 2 "comes_to_edge" 2 bC)(bx:ak P w K mg base cv 5 "all_patches" 2 aL)(T:bz K mg "at_edge" iS f):ak P w K mg base cv 6 "at_edge" 2 (fU):=
 aB (N:=iO) (ps:=qO) T w_ (λ_ _ _ _ _ _ us hl=>match us,hl with | [_,_],_=>rfl) λ_ _ _ _ _ _ hr=>
  (aj (dj (bg bo (mR hr) rfl bj (ab (ae (pv 0)) ag) rfl)) (aj (dj (bg bT (mR hr) rfl bj (ab (ae (pv 1)) ag) rfl)) (ar (aD (bQ (tn:=["number","patch"]) (n:=2) (aP (N:=iO) (osc:=(ah iS)) rfl rfl (by decide+kernel)) rfl rfl (oR rfl B.enumerate (ab (bg bx (mR hr) rfl bj (ab (ae (pv 0)) (ab (ae (pv 1)) ag)) rfl) ag)) (λ_ _ _ _ _ _ _=>jH (show RE (((["number","patch"]:List Str))++bH ["number","patch"] iO) by decide+kernel) rfl rfl rfl rfl rfl) (λ_ _ _ _ _ _=>(ix (eK (bg mH (mR hr) rfl cZ (ab (ae (pv 2)) (ab (ae (pv 1)) ag)) rfl)))) (λ_ _ _ _ _ _=>(ae (pv 0))))))))
abbrev w9:Stmt:=top 35
def BI:List Str:=["board","ways","number"]
def B1:List Str:=["board","ways","number"]
def Fg:FnScope BI B1 (ah w9):=cX
def Eu(B:Bl K mg base cv cA Cp)(bU:ak P w K mg base cv 6 "patch_of_number" 3 a_)(T:bz K mg "size" w9 f):ak P w K mg base cv 7 "size" 3 (ju):=
 aB (N:=BI) (ps:=B1) T Fg (λ_ _ _ _ _ _ us hl=>match us,hl with | [_,_,_],_=>rfl) λ_ _ _ _ _ _ hr=>
  (ar (aD (bE rfl B.len (ab (bg bU (mR hr) rfl bj (ab (ae (pv 0)) (ab (ae (pv 1)) (ab (ae (pv 2)) ag))) rfl) ag))))
abbrev yG:Stmt:=top 36
def yh:List Str:=["board","ways","number","patch","inside","told","cell"]
def Gd:List Str:=["board","ways","number"]
def lK:FnScope yh Gd (ah yG):=cX
def Hs(B:Bl K mg base cv cA Cp)(bU:ak P w K mg base cv 6 "patch_of_number" 3 a_)(rB:ak P w K mg base cv 1 "keyed" 1 iC)(dH:ak P w K mg base cv 2 "next_cells" 3 aR)(T:bz K mg "rim" yG f):ak P w K mg base cv 7 "rim" 3 (jV):=
 aB (N:=yh) (ps:=Gd) T lK (λ_ _ _ _ _ _ us hl=>match us,hl with | [_,_,_],_=>rfl) λ_ _ _ _ _ _ hr=>
  (aj (aQ lK.nd rfl (.inl rfl) (bg bU (mR hr) rfl bj (ab (ae (pv 0)) (ab (ae (pv 1)) (ab (ae (pv 2)) ag))) rfl)) (aj (aQ lK.nd rfl (.inr rfl) (bg rB (mR hr) rfl bj (ab (ae (pv 3)) ag) rfl)) (aj (aQ lK.nd rfl (.inl rfl) av) (aj (d9 (cM RP rfl (bb (ae (pv 3))) (ba lK.nd rfl (.inl rfl)) cG (bP (ar (E3 lK.nd rfl (.inl rfl) (fb av (bE rfl B.len (ab (bQ (tn:=["near"]) (n:=0) (aP (N:=yh) (osc:=(ah yG)) rfl rfl (by decide+kernel)) rfl rfl (bb (bg dH (mR hr) rfl cZ (ab (ae (pv 0)) (ab (ae (pv 6)) (ab av ag))) rfl)) (λ_ _ _ _ _ _ _=>bX (show RE (((["near"]:List Str))++bH ["near"] yh) by decide+kernel) rfl rfl) (λ_ _ _ _ _ _=>(ix (Ia hr.units (ae (pv 0)) (ae (pv 5))))) (λ_ _ _ _ _ _=>(ae (pv 0)))) ag)))))))) (ar (aD (ae (pv 5))))))))
abbrev vh:Stmt:=top 37
def qH:List Str:=["board","ways","number","patch","rows","columns"]
def Gb:List Str:=["board","ways","number"]
def sR:FnScope qH Gb (ah vh):=cX
def Hr(B:Bl K mg base cv cA Cp)(bU:ak P w K mg base cv 6 "patch_of_number" 3 a_)(T:bz K mg "box" vh f):ak P w K mg base cv 7 "box" 3 (uc):=
 aB (N:=qH) (ps:=Gb) T sR (λ_ _ _ _ _ _ us hl=>match us,hl with | [_,_,_],_=>rfl) λ_ _ _ _ _ _ hr=>
  (aj (aQ sR.nd rfl (.inl rfl) (bg bU (mR hr) rfl bj (ab (ae (pv 0)) (ab (ae (pv 1)) (ab (ae (pv 2)) ag))) rfl)) (aj (dD (tn:=["cell"]) (n:=0) sR.nd rfl (.inl rfl) (aP (N:=qH) (osc:=(ah vh)) rfl rfl (by decide+kernel)) rfl rfl (bb (ae (pv 3))) (λ_ _ _ _ _ _ _=>bX (show RE (((["cell"]:List Str))++bH ["cell"] qH) by decide+kernel) rfl rfl) (λ_ _ _ _ _ _=>br) (λ_ _ _ _ _ _=>(bO (ae (pv 0)) av))) (aj (dD (tn:=["cell"]) (n:=0) sR.nd rfl (.inl rfl) (aP (N:=qH) (osc:=(ah vh)) rfl rfl (by decide+kernel)) rfl rfl (bb (ae (pv 3))) (λ_ _ _ _ _ _ _=>bX (show RE (((["cell"]:List Str))++bH ["cell"] qH) by decide+kernel) rfl rfl) (λ_ _ _ _ _ _=>br) (λ_ _ _ _ _ _=>(bO (ae (pv 0)) av))) (ar (aD (c7 (ab (mY rfl rfl B.min rfl (ab (ae (pv 4)) ag)) (ab (mY rfl rfl B.min rfl (ab (ae (pv 5)) ag)) (ab (iQ rfl rfl B.max rfl (ab (ae (pv 4)) ag)) (ab (iQ rfl rfl B.max rfl (ab (ae (pv 5)) ag)) ag))))))))))
abbrev ai:Stmt:=top 45
def ax:List Str:=["_law_script","_law_board_here","_law_ways","_law_high","_law_wide","_law_some","_law_pairs","_law_sizes","_law_edge","_law_number","_law_patch","_law_with_others","_law_rows","_law_columns","_law_outer","_law_top","_law_left","_law_low","_law_right","_law_back","_law_rims"]
def lp:List Str:=["_law_script"]
def aK:FnScope ax lp (ah ai):=cX
def sW(B:Bl K mg base cv cA Cp)(gU:ak P w K mg base cv 3 "_law_board" 3 cQ){bY:Value}{A:RQ}{outer:List Env}{s:QT}{H:Hp}{E:XK}(hr:Room 7 (A.deeper (S5 "law" (ah ai) s.heap.objs.size f bY))):
 Box (fQ (c6 (iV P w cv) P w K mg base ax "law" (ah ai) f bY A outer s H E) (λn H'=>E (cv n) none H') ((aV ai).getD 0 (.Pass ⟨0,0,0,0⟩)) mw):=
 ⟨(aQ aK.nd rfl (.inr rfl) (bg gU (mR hr) rfl bj (ab (ae (pv 0)) (ab av (ab av ag))) rfl))⟩
def sX(B:Bl K mg base cv cA Cp)(cq:ak P w K mg base cv 2 "_law_drawn" 3 a8){bY:Value}{A:RQ}{outer:List Env}{s:QT}{H:Hp}{E:XK}(hr:Room 7 (A.deeper (S5 "law" (ah ai) s.heap.objs.size f bY))):
 Box (fQ (c6 (iV P w cv) P w K mg base ax "law" (ah ai) f bY A outer s H E) (λn H'=>E (cv n) none H') ((aV ai).getD 1 (.Pass ⟨0,0,0,0⟩)) mx):=
 ⟨(aQ aK.nd rfl (.inr rfl) (sA (jA (ab av (ab av ag))) (bg cq (mR hr) rfl bj (ab (ae (pv 0)) (ab av (ab av ag))) rfl)))⟩
def sY(B:Bl K mg base cv cA Cp){bY:Value}{A:RQ}{outer:List Env}{s:QT}{H:Hp}{E:XK}(hr:Room 7 (A.deeper (S5 "law" (ah ai) s.heap.objs.size f bY))):
 Box (fQ (c6 (iV P w cv) P w K mg base ax "law" (ah ai) f bY A outer s H E) (λn H'=>E (cv n) none H') ((aV ai).getD 2 (.Pass ⟨0,0,0,0⟩)) my):=
 ⟨(aQ aK.nd rfl (.inl rfl) (bE rfl B.len (ab (ae (pv 1)) ag)))⟩
def sZ(B:Bl K mg base cv cA Cp){bY:Value}{A:RQ}{outer:List Env}{s:QT}{H:Hp}{E:XK}(hr:Room 7 (A.deeper (S5 "law" (ah ai) s.heap.objs.size f bY))):
 Box (fQ (c6 (iV P w cv) P w K mg base ax "law" (ah ai) f bY A outer s H E) (λn H'=>E (cv n) none H') ((aV ai).getD 3 (.Pass ⟨0,0,0,0⟩)) mz):=
 ⟨(aQ aK.nd rfl (.inl rfl) (bE rfl B.len (ab (bO (ae (pv 1)) av) ag)))⟩
def s8(B:Bl K mg base cv cA Cp)(kY:ak P w K mg base cv 6 "patches" 2 fV){bY:Value}{A:RQ}{outer:List Env}{s:QT}{H:Hp}{E:XK}(hr:Room 7 (A.deeper (S5 "law" (ah ai) s.heap.objs.size f bY))):
 Box (fQ (c6 (iV P w cv) P w K mg base ax "law" (ah ai) f bY A outer s H E) (λn H'=>E (cv n) none H') ((aV ai).getD 4 (.Pass ⟨0,0,0,0⟩)) mB):=
 ⟨(aQ aK.nd rfl (.inl rfl) (bg kY (mR hr) rfl bj (ab (ae (pv 1)) (ab (ae (pv 2)) ag)) rfl))⟩
def s9(B:Bl K mg base cv cA Cp)(dW:ak P w K mg base cv 6 "touching" 2 du){bY:Value}{A:RQ}{outer:List Env}{s:QT}{H:Hp}{E:XK}(hr:Room 7 (A.deeper (S5 "law" (ah ai) s.heap.objs.size f bY))):
 Box (fQ (c6 (iV P w cv) P w K mg base ax "law" (ah ai) f bY A outer s H E) (λn H'=>E (cv n) none H') ((aV ai).getD 5 (.Pass ⟨0,0,0,0⟩)) mC):=
 ⟨(aQ aK.nd rfl (.inl rfl) (bg dW (mR hr) rfl bj (ab (ae (pv 1)) (ab (ae (pv 2)) ag)) rfl))⟩
def s_(B:Bl K mg base cv cA Cp)(kZ:ak P w K mg base cv 7 "size" 3 ju){bY:Value}{A:RQ}{outer:List Env}{s:QT}{H:Hp}{E:XK}(hr:Room 7 (A.deeper (S5 "law" (ah ai) s.heap.objs.size f bY))):
 Box (fQ (c6 (iV P w cv) P w K mg base ax "law" (ah ai) f bY A outer s H E) (λn H'=>E (cv n) none H') ((aV ai).getD 6 (.Pass ⟨0,0,0,0⟩)) mD):=
 ⟨(aQ aK.nd rfl (.inr rfl) (bQ (tn:=["_law_number"]) (n:=0) (aP (N:=ax) (osc:=(ah ai)) rfl rfl (by decide+kernel)) rfl rfl (cR rfl B.range (ab (bE rfl B.len (ab (ae (pv 5)) ag)) ag)) (λ_ _ _ _ _ _ _=>bX (show RE (((["_law_number"]:List Str))++bH ["_law_number"] ax) by decide+kernel) rfl rfl) (λ_ _ _ _ _ _=>br) (λ_ _ _ _ _ _=>(bg kZ (mR hr) rfl cZ (ab (ae (pv 2)) (ab (ae (pv 3)) (ab (ae (pv 0)) ag))) rfl))))⟩
def tf(B:Bl K mg base cv cA Cp){bY:Value}{A:RQ}{outer:List Env}{s:QT}{H:Hp}{E:XK}(hr:Room 7 (A.deeper (S5 "law" (ah ai) s.heap.objs.size f bY))):
 Box (fQ (c6 (iV P w cv) P w K mg base ax "law" (ah ai) f bY A outer s H E) (λn H'=>E (cv n) none H') ((aV ai).getD 7 (.Pass ⟨0,0,0,0⟩)) mE):=
 ⟨(cj (mm hr.units (ae (pv 7)) (bQ (tn:=["_law_patch"]) (n:=0) (aP (N:=ax) (osc:=(ah ai)) rfl rfl (by decide+kernel)) rfl rfl (bb (ae (pv 5))) (λ_ _ _ _ _ _ _=>bX (show RE (((["_law_patch"]:List Str))++bH ["_law_patch"] ax) by decide+kernel) rfl rfl) (λ_ _ _ _ _ _=>br) (λ_ _ _ _ _ _=>(bE rfl B.len (ab (ae (pv 0)) ag))))) (ar (aD gR)) bA)⟩
def th(B:Bl K mg base cv cA Cp)(jo:ak P w K mg base cv 6 "greatest" 2 eU){bY:Value}{A:RQ}{outer:List Env}{s:QT}{H:Hp}{E:XK}(hr:Room 7 (A.deeper (S5 "law" (ah ai) s.heap.objs.size f bY))):
 Box (fQ (c6 (iV P w cv) P w K mg base ax "law" (ah ai) f bY A outer s H E) (λn H'=>E (cv n) none H') ((aV ai).getD 8 (.Pass ⟨0,0,0,0⟩)) mF):=
 ⟨(cj (mm hr.units (bg jo (mR hr) rfl bj (ab (ae (pv 1)) (ab (ae (pv 2)) ag)) rfl) (yp (ae (pv 7)) (ab (iQ rfl rfl B.max rfl (ab (ae (pv 7)) ag)) ag))) (ar (aD gR)) bA)⟩
def tj(B:Bl K mg base cv cA Cp){bY:Value}{A:RQ}{outer:List Env}{s:QT}{H:Hp}{E:XK}(hr:Room 7 (A.deeper (S5 "law" (ah ai) s.heap.objs.size f bY))):
 Box (fQ (c6 (iV P w cv) P w K mg base ax "law" (ah ai) f bY A outer s H E) (λn H'=>E (cv n) none H') ((aV ai).getD 9 (.Pass ⟨0,0,0,0⟩)) mG):=
 ⟨(aQ aK.nd rfl (.inl rfl) (jA ag))⟩
def pY(B:Bl K mg base cv cA Cp)(Ax:ak P w K mg base cv 7 "box" 3 uc)(jM:ak P w K mg base cv 7 "rim" 3 jV){bY:Value}{A:RQ}{outer:List Env}{s:QT}{H:Hp}{E:XK}(hr:Room 7 (A.deeper (S5 "law" (ah ai) s.heap.objs.size f bY))):
 Box (fQ (c6 (iV P w cv) P w K mg base ax "law" (ah ai) f bY A outer s H E) (λn H'=>E (cv n) none H') ((aV ai).getD 10 (.Pass ⟨0,0,0,0⟩)) kM):=
 ⟨(d9 (cM RP rfl (oR rfl B.enumerate (ab (ae (pv 5)) ag)) (sE rfl (dg (ba aK.nd rfl (.inr rfl)) (dg (ba aK.nd rfl (.inl rfl)) mZ))) (sJ (is:=[9,10])) (bP (aj (aQ aK.nd rfl (.inl rfl) (sD rfl rfl B.sum rfl (ab (bQ (tn:=["_law_pair","_law_sides"]) (n:=2) (aP (N:=ax) (osc:=(ah ai)) rfl rfl (by decide+kernel)) rfl rfl (bb (ae (pv 6))) (λ_ _ _ _ _ _ _=>jH (show RE (((["_law_pair","_law_sides"]:List Str))++bH ["_law_pair","_law_sides"] ax) by decide+kernel) rfl rfl rfl rfl rfl) (λ_ _ _ _ _ _=>(ix (Ib (ae (pv 11)) (ae (pv 0))))) (λ_ _ _ _ _ _=>(ae (pv 1)))) ag))) (aj (dD (tn:=["_law_row","_law_column"]) (n:=2) aK.nd rfl (.inl rfl) (aP (N:=ax) (osc:=(ah ai)) rfl rfl (by decide+kernel)) rfl rfl (bb (ae (pv 10))) (λ_ _ _ _ _ _ _=>jH (show RE (((["_law_row","_law_column"]:List Str))++bH ["_law_row","_law_column"] ax) by decide+kernel) rfl rfl rfl rfl rfl) (λ_ _ _ _ _ _=>br) (λ_ _ _ _ _ _=>(ae (pv 0)))) (aj (dD (tn:=["_law_row","_law_column"]) (n:=2) aK.nd rfl (.inl rfl) (aP (N:=ax) (osc:=(ah ai)) rfl rfl (by decide+kernel)) rfl rfl (bb (ae (pv 10))) (λ_ _ _ _ _ _ _=>jH (show RE (((["_law_row","_law_column"]:List Str))++bH ["_law_row","_law_column"] ax) by decide+kernel) rfl rfl rfl rfl rfl) (λ_ _ _ _ _ _=>br) (λ_ _ _ _ _ _=>(ae (pv 1)))) (aj (aQ aK.nd rfl (.inl rfl) (cg (mX (ae (pv 12)) (ab av ag)) (mX (ae (pv 12)) (ab (fb (ae (pv 3)) av) ag)))) (aj (aQ aK.nd rfl (.inl rfl) (cg (cg (ae (pv 14)) (mX (ae (pv 13)) (ab av ag))) (mX (ae (pv 13)) (ab (fb (ae (pv 4)) av) ag)))) (aj (cj (mm hr.units (bg jM (mR hr) rfl cZ (ab (ae (pv 1)) (ab (ae (pv 2)) (ab (ae (pv 9)) ag))) rfl) (cg (ae (pv 11)) (ae (pv 14)))) (ar (aD gR)) bA) (aj (E2 (bg Ax (mR hr) rfl cZ (ab (ae (pv 1)) (ab (ae (pv 2)) (ab (ae (pv 9)) ag))) rfl) (sE rfl (dg (ba aK.nd rfl (.inl rfl)) (dg (ba aK.nd rfl (.inl rfl)) (dg (ba aK.nd rfl (.inl rfl)) (dg (ba aK.nd rfl (.inl rfl)) mZ))))) (sJ (is:=[15,16,17,18]))) (aj (cj (mm hr.units (c7 (ab (ae (pv 15)) (ab (ae (pv 17)) ag))) (c7 (ab (mY rfl rfl B.min rfl (ab (ae (pv 12)) ag)) (ab (iQ rfl rfl B.max rfl (ab (ae (pv 12)) ag)) ag)))) (ar (aD gR)) bA) (aj (cj (mm hr.units (c7 (ab (ae (pv 16)) (ab (ae (pv 18)) ag))) (c7 (ab (mY rfl rfl B.min rfl (ab (ae (pv 13)) ag)) (ab (iQ rfl rfl B.max rfl (ab (ae (pv 13)) ag)) ag)))) (ar (aD gR)) bA) (ar (aQ aK.nd rfl (.inl rfl) (EF (ae (pv 8)) (HK (jA (ab (ae (pv 9)) ag)) (EI rfl B.int rfl (ab (yu (kq hr.units (ae (pv 15)) av) (yu (kq hr.units (ae (pv 16)) av) (yu (kq hr.units (ae (pv 17)) (fb (ae (pv 3)) av)) (sC (kq hr.units (ae (pv 18)) (fb (ae (pv 4)) av)))))) ag))))))))))))))))))⟩
def pZ(B:Bl K mg base cv cA Cp)(kX:ak P w K mg base cv 6 "at_edge" 2 fU){bY:Value}{A:RQ}{outer:List Env}{s:QT}{H:Hp}{E:XK}(hr:Room 7 (A.deeper (S5 "law" (ah ai) s.heap.objs.size f bY))):
 Box (fQ (c6 (iV P w cv) P w K mg base ax "law" (ah ai) f bY A outer s H E) (λn H'=>E (cv n) none H') ((aV ai).getD 11 (.Pass ⟨0,0,0,0⟩)) kN):=
 ⟨(cj (mm hr.units (bg kX (mR hr) rfl bj (ab (ae (pv 1)) (ab (ae (pv 2)) ag)) rfl) (ae (pv 8))) (ar (aD gR)) bA)⟩
def p0(B:Bl K mg base cv cA Cp){bY:Value}{A:RQ}{outer:List Env}{s:QT}{H:Hp}{E:XK}(hr:Room 7 (A.deeper (S5 "law" (ah ai) s.heap.objs.size f bY))):
 Box (fQ (c6 (iV P w cv) P w K mg base ax "law" (ah ai) f bY A outer s H E) (λn H'=>E (cv n) none H') ((aV ai).getD 12 (.Pass ⟨0,0,0,0⟩)) kO):=
 ⟨(cj (mm hr.units (bQ (tn:=["_law_pair","_law_sides"]) (n:=2) (aP (N:=ax) (osc:=(ah ai)) rfl rfl (by decide+kernel)) rfl rfl (bb (ae (pv 6))) (λ_ _ _ _ _ _ _=>jH (show RE (((["_law_pair","_law_sides"]:List Str))++bH ["_law_pair","_law_sides"] ax) by decide+kernel) rfl rfl rfl rfl rfl) (λ_ _ _ _ _ _=>(ix (PDW.t (oT (KG (bO (ae (pv 0)) av) (bO (ae (pv 0)) av)) (kr (Gf (ae (pv 1)) av)))))) (λ_ _ _ _ _ _=>(ae (pv 0)))) (jA ag)) (ar (aD gR)) bA)⟩
def p5(B:Bl K mg base cv cA Cp)(nr:ak P w K mg base cv 5 "turned" 1 gW){bY:Value}{A:RQ}{outer:List Env}{s:QT}{H:Hp}{E:XK}(hr:Room 7 (A.deeper (S5 "law" (ah ai) s.heap.objs.size f bY))):
 Box (fQ (c6 (iV P w cv) P w K mg base ax "law" (ah ai) f bY A outer s H E) (λn H'=>E (cv n) none H') ((aV ai).getD 13 (.Pass ⟨0,0,0,0⟩)) kP):=
 ⟨(aQ aK.nd rfl (.inr rfl) (bg nr (mR hr) rfl bj (ab (ae (pv 1)) ag) rfl))⟩
def p6(B:Bl K mg base cv cA Cp)(jM:ak P w K mg base cv 7 "rim" 3 jV){bY:Value}{A:RQ}{outer:List Env}{s:QT}{H:Hp}{E:XK}(hr:Room 7 (A.deeper (S5 "law" (ah ai) s.heap.objs.size f bY))):
 Box (fQ (c6 (iV P w cv) P w K mg base ax "law" (ah ai) f bY A outer s H E) (λn H'=>E (cv n) none H') ((aV ai).getD 14 (.Pass ⟨0,0,0,0⟩)) kQ):=
 ⟨(aQ aK.nd rfl (.inl rfl) (yw rfl B.sorted rfl (ab (bQ (tn:=["_law_number"]) (n:=0) (aP (N:=ax) (osc:=(ah ai)) rfl rfl (by decide+kernel)) rfl rfl (cR rfl B.range (ab (bE rfl B.len (ab (ae (pv 5)) ag)) ag)) (λ_ _ _ _ _ _ _=>bX (show RE (((["_law_number"]:List Str))++bH ["_law_number"] ax) by decide+kernel) rfl rfl) (λ_ _ _ _ _ _=>br) (λ_ _ _ _ _ _=>(c7 (ab (bg jM (mR hr) rfl cZ (ab (ae (pv 2)) (ab (ae (pv 3)) (ab (ae (pv 0)) ag))) rfl) (ab (sA (ae (pv 8)) (ae (pv 0))) ag))))) ag)))⟩
def p7(B:Bl K mg base cv cA Cp)(kZ:ak P w K mg base cv 7 "size" 3 ju)(jM:ak P w K mg base cv 7 "rim" 3 jV){bY:Value}{A:RQ}{outer:List Env}{s:QT}{H:Hp}{E:XK}(hr:Room 7 (A.deeper (S5 "law" (ah ai) s.heap.objs.size f bY))):
 Box (fQ (c6 (iV P w cv) P w K mg base ax "law" (ah ai) f bY A outer s H E) (λn H'=>E (cv n) none H') ((aV ai).getD 15 (.Pass ⟨0,0,0,0⟩)) kR):=
 ⟨(cj (mm hr.units (yw rfl B.sorted rfl (ab (bQ (tn:=["_law_number"]) (n:=0) (aP (N:=ax) (osc:=(ah ai)) rfl rfl (by decide+kernel)) rfl rfl (cR rfl B.range (ab (bE rfl B.len (ab (ae (pv 5)) ag)) ag)) (λ_ _ _ _ _ _ _=>bX (show RE (((["_law_number"]:List Str))++bH ["_law_number"] ax) by decide+kernel) rfl rfl) (λ_ _ _ _ _ _=>br) (λ_ _ _ _ _ _=>(c7 (ab (bg jM (mR hr) rfl cZ (ab (ae (pv 20)) (ab (ae (pv 3)) (ab (ae (pv 0)) ag))) rfl) (ab (bg kZ (mR hr) rfl cZ (ab (ae (pv 20)) (ab (ae (pv 3)) (ab (ae (pv 0)) ag))) rfl) ag))))) ag)) (ae (pv 20))) (ar (aD gR)) bA)⟩
def p8(B:Bl K mg base cv cA Cp)(dW:ak P w K mg base cv 6 "touching" 2 du){bY:Value}{A:RQ}{outer:List Env}{s:QT}{H:Hp}{E:XK}(hr:Room 7 (A.deeper (S5 "law" (ah ai) s.heap.objs.size f bY))):
 Box (fQ (c6 (iV P w cv) P w K mg base ax "law" (ah ai) f bY A outer s H E) (λn H'=>E (cv n) none H') ((aV ai).getD 16 (.Pass ⟨0,0,0,0⟩)) kS):=
 ⟨(aD (kq hr.units (sD rfl rfl B.sum rfl (ab (bQ (tn:=["_law_pair","_law_sides"]) (n:=2) (aP (N:=ax) (osc:=(ah ai)) rfl rfl (by decide+kernel)) rfl rfl (bb (bg dW (mR hr) rfl bj (ab (ae (pv 19)) (ab (ae (pv 2)) ag)) rfl)) (λ_ _ _ _ _ _ _=>jH (show RE (((["_law_pair","_law_sides"]:List Str))++bH ["_law_pair","_law_sides"] ax) by decide+kernel) rfl rfl rfl rfl rfl) (λ_ _ _ _ _ _=>br) (λ_ _ _ _ _ _=>(ae (pv 1)))) ag)) (sD rfl rfl B.sum rfl (ab (bQ (tn:=["_law_pair","_law_sides"]) (n:=2) (aP (N:=ax) (osc:=(ah ai)) rfl rfl (by decide+kernel)) rfl rfl (bb (ae (pv 6))) (λ_ _ _ _ _ _ _=>jH (show RE (((["_law_pair","_law_sides"]:List Str))++bH ["_law_pair","_law_sides"] ax) by decide+kernel) rfl rfl rfl rfl rfl) (λ_ _ _ _ _ _=>br) (λ_ _ _ _ _ _=>(ae (pv 1)))) ag))))⟩
def uP{fd:TY}(B:Bl K mg base cv cA Cp)(gU:ak P w K mg base cv 3 "_law_board" 3 cQ)(kY:ak P w K mg base cv 6 "patches" 2 fV)(dW:ak P w K mg base cv 6 "touching" 2 du)(nr:ak P w K mg base cv 5 "turned" 1 gW)(cq:ak P w K mg base cv 2 "_law_drawn" 3 a8)(kZ:ak P w K mg base cv 7 "size" 3 ju)(jo:ak P w K mg base cv 6 "greatest" 2 eU)(Ax:ak P w K mg base cv 7 "box" 3 uc)(kX:ak P w K mg base cv 6 "at_edge" 2 fU)(jM:ak P w K mg base cv 7 "rim" 3 jV)(Fn:Fun K "law" "law" ai f fd):FnOk P w K mg base (iV P w cv) 8 f fd lp (I8 K cv 1 iD):=
 Jv (N:=ax) (ps:=lp) (τ:=lP) Fn aK λbY A outer s H E hr=>by
  obtain⟨QD⟩:Box (PSDs (c6 (iV P w cv) P w K mg base ax "law" (ah ai) f bY A outer s H E) (λn H'=>E (cv n) none H') (aV ai) lP):=(c5 (sW B gU hr) (c5 (sX B cq hr) (c5 (sY B hr) (c5 (sZ B hr) (c5 (s8 B kY hr) (c5 (s9 B dW hr) (c5 (s_ B kZ hr) (c5 (tf B hr) (c5 (th B jo hr) (c5 (tj B hr) (c5 (pY B Ax jM hr) (c5 (pZ B kX hr) (c5 (p0 B hr) (c5 (p5 B nr hr) (c5 (p6 B jM hr) (c5 (p7 B kZ jM hr) (Gy (p8 B dW hr))))))))))))))))))
  assumption
end
end K1
namespace K1
open PySem L2 L3
def BH{ds:List D}(h:ds.length<=lim):ft ds=aa (.lst ds):=XG h
def cI:lim=4096:=rfl
def fR{i:Nat}{x:α}(h:xs[i]? =some x):L2.atI xs (i:Int)=some x:=by
 obtain⟨hi,e⟩:=Q4.mp h;unfold L2.atI Hc;rw[XG (Int.natCast_nonneg i),XG (by exact Int.ofNat_lt.mpr hi)];exact h
def aq{δs:DA}(h:δs ρ=aa ds)(hl:ds.length=m):aw m g δs ρ=g ds:=by
 unfold aw;rw[h];exact XG hl
def aH{ρ:cp}(h1:a ρ=aa x)(h2:r ρ=aa xs):aC a r ρ=aa (x::xs):=by
 unfold aC;rw[h1,au,h2];rfl
def aO{ρ:cp}{x y:D}(h1:a ρ=aa x)(h2:b ρ=aa y):d2 g a b ρ=g x y:=by
 unfold d2;rw[h1,au,h2];rfl
def aX{ρ:cp}{xs:List D}(h:a ρ=aa xs):dA g a ρ=g xs:=by
 unfold dA;rw[h];rfl
def fW{i j:Int}(h:0<j):jZ (.int i) (.int j)=aa (.int (i % j)):=by
 show (if decide (0<j)=true then _ else _)=_;rw[XG (XM h)]
def jX{i j:Int}(h:0<j)(h2:j<1073741824):pI (.int i) (.int j)=aa (.int (i / j)):=by
 show (if decide (0<j/\j<1073741824)=true then _ else _)=_;rw[XG (XM ⟨h,h2⟩)]
def fX{i j:Int}(h:(-(2 ^ 64)<i/\i<2 ^ 64)\/(-(2 ^ 64)<j/\j<2 ^ 64)):i2 (.int i) (.int j)=aa (.int (i*j)):=by
 show (if decide _=true then _ else _)=_;rw[XG (XM h)]
def gY{i j:Int}:dE (.int i) (.int j)=aa (.int (i+j)):=rfl
def AB(ns:List Int)(hl:ns.length<=63)(k:Nat):∃v,eW [.scr ns, .int (k:Int)]=aa (.int v):=by
 cases ns with
 |nil=>
  refine⟨7*(k:Int),?_⟩;rfl
 |cons n r=>
  have hp:0<(n::r).length:=W0 _;generalize e:(n::r)=ns at*;have he:nG 6 (.scr ns) (.lst [])=some false:=by subst e;rfl
  obtain⟨y,hy⟩:∃y,ns[k % ns.length]? =some y:=⟨_,QN (Nat.mod_lt _ hp)⟩
  have LA:(0:Int)<(ns.length:Int):=by omega
  have h1:jZ (.int (k:Int)) (.int (ns.length:Int))=aa (.int ((k % ns.length:Nat):Int)):=fW LA;have h2:pI (.int (k:Int)) (.int (ns.length:Int))=aa (.int ((k:Int) / (ns.length:Int))):=jX LA (by omega);have h3:A1 (.scr ns) (.int ((k % ns.length:Nat):Int))=aa (.int y):=by
   show (match L2.atI ns ((k % ns.length:Nat):Int) with | some n=>aa (D.int n) | none=>af)=_;rw[fR hy]
  have h4:i2 (.int 6553) (.int ((k:Int) / (ns.length:Int)))=aa (.int (6553*((k:Int) / (ns.length:Int)))):=fX (.inl ⟨by decide,by decide⟩);refine⟨y+6553*((k:Int) / (ns.length:Int)),?_⟩;simp only[eW,pA,b6,aI,kB,bF,eM,dS,d2,dV,dC,dA,aC,aN,ft,bw,Ai,mJ,he,au,h1,h2,h3,h4,QX,TM,Ui,Si,QV,Sb,R4,R5,cI,Nat.reduceAdd,Ry,if_true,Ro,if_false,dE,gI]
def fT(ns:List Int)(hl:ns.length<=63)(k m:Nat)(hm:0<m):∃v:Nat,v<m/\a8 [.scr ns, .int (k:Int), .int (m:Int)]=aa (.int (v:Int)):=by
 obtain⟨c,hc⟩:=AB ns hl k;have b1:=Wc (c % 2147483563*69069+104723*((k:Int)+1)) (b:=2147483563) (by decide);have b2:=Vz (c % 2147483563*69069+104723*((k:Int)+1)) (b:=2147483563) (by decide);generalize hx:(c % 2147483563*69069+104723*((k:Int)+1)) % 2147483563=x at b1 b2;have b3:=Wc (x*x+x / 3) (b:=2147483399) (by decide);have b4:=Vz (x*x+x / 3) (b:=2147483399) (by decide);generalize hy:(x*x+x / 3) % 2147483399=y at b3 b4;have m1:i2 (.int (c % 2147483563)) (.int 69069)=_:=fX (.inr ⟨by decide,by decide⟩);have m2:i2 (.int 104723) (.int ((k:Int)+1))=_:=fX (.inl ⟨by decide,by decide⟩);have m3:i2 (.int x) (.int x)=_:=fX (.inl ⟨by omega,by omega⟩);have m4:i2 (.int y) (.int y)=_:=fX (.inl ⟨by omega,by omega⟩);have hM:(0:Int)<(m:Int):=Int.ofNat_lt.mpr hm;have n1:=Wc ((y*y+y / 7) % 2147483647 / 11) (b:=(m:Int)) (by omega);have n2:=Vz ((y*y+y / 7) % 2147483647 / 11) hM;have q1:jZ (.int c) (.int 2147483563)=_:=fW (by decide);have q2:jZ (.int (c % 2147483563*69069+104723*((k:Int)+1))) (.int 2147483563)=_:=fW (by decide);have q3:pI (.int x) (.int 3)=_:=jX (by decide) (by decide);have q4:jZ (.int (x*x+x / 3)) (.int 2147483399)=_:=fW (by decide);have q5:pI (.int y) (.int 7)=_:=jX (by decide) (by decide);have q6:jZ (.int (y*y+y / 7)) (.int 2147483647)=_:=fW (by decide);have q7:pI (.int ((y*y+y / 7) % 2147483647)) (.int 11)=_:=jX (by decide) (by decide);have q8:jZ (.int ((y*y+y / 7) % 2147483647 / 11)) (.int (m:Int))=_:=fW hM;refine⟨((y*y+y / 7) % 2147483647 / 11 % (m:Int)).toNat,by omega,?_⟩;rw[Int.toNat_of_nonneg n1];rw[hx] at q2;rw[hy] at q4;simp only[a8,mv,b6,aI,bL,bF,aw,d2,dV,dC,dA,aC,aN,au,hc,QX,TM,Ui,Si,QV,Sb,R4,R5,Rg,Vt,Vu,Nat.reduceAdd,Nat.reduceSub,if_true,gY,m1,m2,m3,m4,q1,q2,q3,q4,q5,q6,q7,q8]
def BP{α:Type}(a:α):noex (aa a)=aa a:=rfl
def ug{I:Nat->cp->Prop}:∀(ds:List D) (i:Nat) (ρ:cp),I i ρ->
 (∀j d,ds[j]? =some d->∀ρ,I (i+j) ρ->∃ρ1 ρ2,put d ρ=some ρ1/\body ρ1=aa (.nx ρ2)/\I (i+j+1) ρ2)->∃ρ',forL put body ds ρ=aa (.nx ρ')/\I (i+ds.length) ρ'
 |[],i,ρ,h,_=>⟨ρ,rfl,h⟩
 |d::ds,i,ρ,h,step=>by
  obtain⟨ρ1,ρ2,e1,e2,h2⟩:=step 0 d rfl ρ h;obtain⟨ρ',e3,h3⟩:=ug (I:=I) ds (i+1) ρ2 h2 λj d' hd ρ hI=>by
   have:=step (j+1) d' hd ρ (by rw[show i+(j+1)=i+1+j by omega];exact hI);rw[show i+(j+1)+1=i+1+j+1 by omega] at this;exact this
  refine⟨ρ',?_,?_⟩
  ·show (match put d ρ with | none=>af | some ρ1=>body ρ1>>=λo=>match o with | .nx ρ2=>forL put body ds ρ2 | .rt v=>aa (.rt v))=_;rw[e1];show (body ρ1>>=λo=>match o with | .nx ρ2=>forL put body ds ρ2 | .rt v=>aa (.rt v))=_;rw[e2];exact e3
  ·rw[show i+(d::ds).length=i+1+ds.length by simp;omega];exact h3
def qj{Pr:D->Prop}:∀(ds:List D),(∀d∈ds,∃y,f d=aa (some y)/\Pr y)->∃ys,c_ f ds=aa ys/\ys.length=ds.length/\∀y∈ys,Pr y
 |[],_=>⟨[],rfl,rfl,λ_ h=>by cases h⟩
 |d::ds,h=>by
  obtain⟨y,e,hy⟩:=h d (QR ..);obtain⟨ys,e2,hl,hp⟩:=qj ds λd' hd=>h d' (QQ _ hd);refine⟨y::ys,?_,by simp[hl],λz hz=>?_⟩
  ·rw[dX,e,au,e2];rfl
  ·cases hz with
   |head=>exact hy
   |tail _ hz=>exact hp z hz
def fS{g:D->D}:∀(ds:List D),(∀d∈ds,f d=aa (some (g d)))->c_ f ds=aa (ds.map g)
 |[],_=>rfl
 |d::ds,h=>by
  rw[dX,h d (QR ..),au,fS ds λd' hd=>h d' (QQ _ hd)];rfl
def FZ(x:Str):Bool:=!(Tz ("abcdef":Str) x 0 ("abcdef":Str).length 1).isEmpty
structure Row (W:Nat) (r:Str):Prop where
 len:r.length=W
 let':∀c∈r.cps.toList,FZ ⟨#[c]⟩=true
structure Good (bd:List Str) (W:Nat):Prop where
 r1:1<=bd.length
 r5:bd.length<=5
 w1:1<=W
 w5:W<=5
 rows:∀r∈bd,Row W r
abbrev lE(c:Nat):Prop:=FZ ⟨#[c]⟩=true/\c≠101/\c≠100
def OI(r:Str):Prop:=∀c∈r.cps.toList,c≠101
def Lf(r:Str):Prop:=∀c∈r.cps.toList,c≠101/\c≠100
def vC:∀(ys:List D),(∀y∈ys,∃c,y= .str ⟨#[c]⟩/\lE c)->∃xs,mS ys=some xs/\xs.length=ys.length/\(xs.map (·.length)).sum=ys.length/\Row ys.length (dI xs)/\Lf (dI xs)
 |[],_=>⟨[],rfl,rfl,rfl,⟨rfl,λc h=>by cases h⟩,λc h=>by cases h⟩
 |y::ys,h=>by
  obtain⟨c,e,hc⟩:=h y (QR ..);obtain⟨xs,e1,e2,e3,e4,e5⟩:=vC ys λz hz=>h z (QQ _ hz);subst e;have FU:∀z,z∈((⟨#[c]⟩:Str)++dI xs).cps.toList->z=c\/z∈(dI xs).cps.toList:=λz hz=>by
   have:((⟨#[c]⟩:Str)++dI xs).cps= #[c]++(dI xs).cps:=rfl;rw[this] at hz;simpa using hz
  refine⟨⟨#[c]⟩::xs,?_,by simp[e2],?_,⟨?_,λz hz=>?_⟩,λz hz=>?_⟩
  ·show (mS ys).map _=_;rw[e1];rfl
  ·rw[QX,Se,e3];show 1+ys.length=_;simp;omega
  ·show ((⟨#[c]⟩:Str)++dI xs).length=_;rw[iw,e4.len];show 1+ys.length=_;simp;omega
  ·rcases FU z hz with rfl | q
   ·exact hc.1
   ·exact e4.let' z q
  ·rcases FU z hz with rfl | q
   ·exact hc.2
   ·exact e5 z q
def CB{n:Nat}{d:D}(h:d∈gi lo n):∃i:Nat,i<n/\d= .int (lo+(i:Int)):=by
 unfold gi at h;obtain⟨i,hi,e⟩:=QU.mp h;exact⟨i,RL.mp hi,e.symm⟩
def Fb{n j:Nat}{d:D}(h:(gi lo n)[j]? =some d):j<n/\d= .int (lo+(j:Int)):=by
 unfold gi at h;rw[Q1] at h;by_cases hj:j<n
 ·rw[TJ hj] at h;cases h;exact⟨hj,rfl⟩
 ·rw[Ub (by simpa using hj)] at h;cases h
def ie(lo:Int)(n:Nat):(gi lo n).length=n:=by simp[gi]
abbrev iW(w:Nat):D:= .int w
abbrev fz(d:D):Option Sl:=some (.fz d)
def fJ{ρ:cp}{d:D}:eS 0 bp δe ρ d=(δe (fz d::ρ)>>=λy=>aa (some y)):=rfl
def AH{ρ:cp}{d:D}:eS 0 δt δe ρ d=(δt (fz d::ρ)>>=λb=>if b then δe (fz d::ρ)>>=λy=>aa (some y) else aa none):=rfl
def ao{ρ ρ':cp}{o:M Out}(h:a ρ=aa (.nx ρ'))(h2:b ρ'=o):aI a b ρ=o:=by
 unfold aI;rw[h];exact h2
def iR{ρ:cp}{d:D}(h:a ρ=aa (.rt d)):aI a b ρ=aa (.rt d):=by
 unfold aI;rw[h];rfl
def aG{ρ:cp}{d:D}(h:δ ρ=aa d):bL i δ ρ=aa (.nx (ρ.set i (fz d))):=by
 unfold bL;rw[h];rfl
def jg{ρ:cp}{o:M Out}(h:c ρ=aa true)(h2:a ρ=o):kB c a b ρ=o:=by
 unfold kB;rw[h];exact h2
def dU{ρ:cp}{o:M Out}(h:c ρ=aa false)(h2:b ρ=o):kB c a b ρ=o:=by
 unfold kB;rw[h];exact h2
def aT{ρ:cp}{d:D}(h:δ ρ=aa d):bF δ ρ=aa (.rt d):=by
 unfold bF;rw[h];rfl
def cH{ρ:cp}{d:D}(h:δ ρ=aa d):ig δ ρ=aa (.nx ρ):=by
 unfold ig;rw[h];rfl
def a7{ds:List D}{d:D}(h:τ (ds.map (λd=>some (Sl.fz d))++Rg (n - ds.length) none)=aa (.rt d)):b6 n τ ds=aa d:=by
 unfold b6;rw[h];rfl
def yF{ds:List D}{ρ:cp}(h:τ (ds.map (λd=>some (Sl.fz d))++Rg (n - ds.length) none)=aa (.nx ρ)):b6 n τ ds=aa .non:=by
 unfold b6;rw[h];rfl
def CJ{ρ:cp}(h:δi ρ=aa ds)(h2:forL put b ds ρ=aa o):noex (ez put δi b ρ)=aa o:=by
 unfold ez;rw[h,au,h2];rfl
def bI{τ:DS}{ρ ρ':cp}(h:τ ρ=aa (.nx ρ')):dF is τ ρ=aa (.nx (fgt is ρ')):=by
 unfold dF;rw[h];rfl
def aW{δe:DE}(h:δi ρ=aa ds)(h2:c_ (eS n δt δe ρ) ds=aa ys)(h3:ys.length<=lim):aS n δi δt δe ρ=aa (.lst ys):=by
 unfold aS;rw[h,au,h2,BP,au,BH h3]
def lH{n:Nat}(h:n<=4096):fc [.int (n:Int)]=aa (gi 0 n):=by
 show (if -4096<=(n:Int)/\(n:Int)<=4096 then aa (gi 0 (n:Int).toNat) else af)=_;rw[XG ⟨by omega,by omega⟩];rfl
structure Alpha (al:Str):Prop where
 pos:0<al.length
 ok:∀c∈al.cps.toList,lE c
def Gq:Alpha "ab"/\Alpha "abc"/\Alpha "aab"/\Alpha "fa":=by
 refine⟨⟨by decide+kernel,?_⟩,⟨by decide+kernel,?_⟩,⟨by decide+kernel,?_⟩,⟨by decide+kernel,?_⟩⟩<;>decide+kernel
def A2{i:Nat}(h:i<x.length):∃c,c∈x.cps.toList/\x.cps.toList[i]? =some c/\nL (.str x) (.int (i:Int))=aa (.str ⟨#[c]⟩):=by
 have h:i<x.cps.toList.length:=by rw[Q5];exact h
 refine⟨x.cps.toList[i],SO h,QN h,?_⟩;show (match L2.atI x.cps.toList (i:Int) with | some c=>aa (D.str ⟨#[c]⟩) | none=>af)=_;rw[fR (QN h)]
abbrev brd(bd:List Str):D:= .tup (bd.map D.str)
abbrev sgn(at' mo:Nat)(ns:List Int)(W:Nat)(al:Str)(bd:List Str)(R:Nat)(x7 x8:Option Sl):cp:=[fz (.scr ns),fz (.int (at':Int)),fz (.int (mo:Int)),fz (.int (R:Int)),fz (.int (W:Int)),fz (.str al),fz (brd bd),x7,x8]
def z0(at' mo:Nat)(ns:List Int)(hl:ns.length<=63)(al:Str)(ha:Alpha al)(j W R:Nat)(hW:W<=5)(bd:List Str)(x8:Option Sl):
 ∃ys,Nz (sgn at' mo ns W al bd R (fz (.int (0+(j:Int)))) x8)=aa (.lst ys)/\ys.length=W/\∀y∈ys,∃c,y= .str ⟨#[c]⟩/\lE c:=by
 obtain⟨ys,e,FV,hp⟩:=qj (f:=eS 0 bp (d2 nL (dV 6) (aw 3 a8 (aC (dV 1) (aC (d2 dE (d2 dE (d2 dE (dV 2) (dC (.int 3))) (d2 i2 (dC (.int 7)) (dV 8))) (dV 0)) (aC (dA bw (aC (dV 6) aN)) aN)))))
  (sgn at' mo ns W al bd R (fz (.int (0+(j:Int)))) x8)) (Pr:=λy=>∃c,y= .str ⟨#[c]⟩/\lE c) (gi 0 W) λd hd=>by
  obtain⟨i,hi,rfl⟩:=CB hd;obtain⟨v,hv,e⟩:=fT ns hl (at'+3+7*j+i) al.length ha.pos;obtain⟨c,hc,_,e2⟩:=A2 hv;refine⟨.str ⟨#[c]⟩,?_,c,rfl,ha.ok c hc⟩;rw[fJ];have k:(at':Int)+3+7*(0+(j:Int))+(0+(i:Int))=((at'+3+7*j+i:Nat):Int):=by omega
  have m1:i2 (.int 7) (.int (0+(j:Int)))=aa (.int (7*(0+(j:Int)))):=fX (.inl ⟨by decide,by decide⟩);simp only[aw,d2,dV,dC,dA,aC,aN,au,QV,Sb,R4,R5,Nat.reduceAdd,if_true,gY,m1,k,bw,e,e2]
 refine⟨ys,aW (lH (n:=W) (by omega)) e (by rw[FV,ie,cI];omega),by rw[FV,ie],hp⟩
def DH(at' mo:Nat)(ns:List Int)(W:Nat)(al:Str)(bd:List Str)(R:Nat)(x7:Option Sl)(ys:List D)(hb:bd.length<=5)(hy:ys.length<=5)(s3:∀y∈ys,∃c,y= .str ⟨#[c]⟩/\lE c):
 ∃r,(Row ys.length r/\Lf r)/\NA (sgn at' mo ns W al bd R x7 (fz (.lst ys)))=aa (.nx (sgn at' mo ns W al (bd++[r]) R x7 (fz (.lst ys)))):=by
 obtain⟨xs,t1,t2,t3,t4⟩:=vC ys s3;refine⟨dI xs,t4,?_⟩;have jn:joinM (.str "") [.lst ys]=aa (.str (dI xs)):=by
  show (match mS ys with | some (xs:List Str)=>if ("":Str).length=0/\(xs.map (λx:Str=>x.length)).sum<=lim then aa (D.str (dI xs)) else af | none=>af)=_;rw[t1];show (if ("":Str).length=0/\(xs.map (λx:Str=>x.length)).sum<=lim then aa (D.str (dI xs)) else af)=_;rw[XG ⟨rfl,by rw[t3,cI];omega⟩]
 have ct:xQ (brd bd) (.tup [.str (dI xs)])=aa (brd (bd++[dI xs])):=by
  show (if (bd.map D.str).length+1<=lim then aa (D.tup (bd.map D.str++[.str (dI xs)])) else af)=_;rw[XG (by rw[QM,cI];omega)];simp[brd]
 refine(aG (d:=brd (bd++[dI xs])) ?_).trans rfl;simp only[d2,dV,dC,dA,aC,aN,dM,G_,au,R4,R5,if_true,jn,cf,QV,Sb,cI,Nat.reduceAdd,Nat.reduceLeDiff,ct]
def vT(ns:List Int)(hl:ns.length<=63)(at' mo:Nat)(m0:0<mo)(m5:mo<=5):∃bd W,Good bd W/\(∀r∈bd,Lf r)/\bd.length<=mo/\W<=mo/\cQ [.scr ns, .int (at':Int), .int (mo:Int)]=aa (brd bd):=by
 obtain⟨r,hr,e1⟩:=fT ns hl at' mo m0;obtain⟨c,hc,e2⟩:=fT ns hl (at'+1) mo m0;obtain⟨a,ha,e3⟩:=fT ns hl (at'+2) 4 (by decide);obtain⟨al,FP,e4⟩:∃al,Alpha al/\nK (.lst [.str "ab", .str "abc", .str "aab", .str "fa"]) (.int (a:Int))=aa (.str al):=by
  obtain⟨a1,a2,a3,a4⟩:=Gq
  match a,ha with
  |0,_=>exact⟨_,a1,rfl⟩
  |1,_=>exact⟨_,a2,rfl⟩
  |2,_=>exact⟨_,a3,rfl⟩
  |3,_=>exact⟨_,a4,rfl⟩
 have k1:(1:Int)+(r:Int)=((r+1:Nat):Int):=by omega
 have k2:(1:Int)+(c:Int)=((c+1:Nat):Int):=by omega
 have Ak:a8 [.scr ns, .int (at':Int), .int (mo:Int)]=aa (.int (r:Int)):=e1;have IH:a8 [.scr ns, .int ((at':Int)+1), .int (mo:Int)]=aa (.int (c:Int)):=e2;have Lk:a8 [.scr ns, .int ((at':Int)+2), .int 4]=aa (.int (a:Int)):=e3;obtain⟨ρ',f1,bd,f2,f3,f4⟩:=ug (put:=putN 7) (body:=dF [7,8] (aI (bL 8 Nz) NA))
  (I:=λi ρ=>∃bd,ρ=sgn at' mo ns (c+1) al bd (r+1) none none/\bd.length=i/\∀z∈bd,Row (c+1) z/\Lf z)
  (gi 0 (r+1)) 0 (sgn at' mo ns (c+1) al [] (r+1) none none) ⟨[],rfl,rfl,λ_ h=>by cases h⟩ λj d hd ρ ⟨bd,hρ,hb,hw⟩=>by
   obtain⟨hj,rfl⟩:=Fb hd;subst hρ;obtain⟨ys,s1,s2,s3⟩:=z0 at' mo ns hl al FP j (c+1) (r+1) (by omega) bd none;obtain⟨vN,t1,t2⟩:=DH at' mo ns (c+1) al bd (r+1) (fz (.int (0+(j:Int)))) ys (by omega) (by omega) s3;refine⟨_,_,rfl,bI (ao (aG s1) t2),bd++[vN],rfl,by simp[hb],λz hz=>?_⟩;rcases R0.mp hz with h | h
   ·exact hw z h
   ·have h:z=vN:=by simpa using h
    subst h;rw[s2] at t1;exact t1
 refine⟨bd,c+1,⟨by rw[f3,ie];omega,by rw[f3,ie];omega,by omega,by omega,λr q=>(f4 r q).1⟩,λr q=>(f4 r q).2,by rw[f3,ie];omega,by omega,?_⟩;subst f2;refine a7 ?_;refine ao (aG (d:= .int ((r+1:Nat):Int)) ?_) ?_
 ·simp only[aw,d2,dV,dC,aC,aN,au,QX,TM,Ui,Si,QV,Sb,R4,R5,Nat.reduceAdd,if_true,gY,Ak,k1]
 refine ao (aG (d:= .int ((c+1:Nat):Int)) ?_) ?_
 ·simp only[aw,d2,dV,dC,aC,aN,au,QX,TM,Ui,Si,QV,Sb,Rg,Vt,Vu,Nat.reduceSub,R4,R5,Nat.reduceAdd,if_true,gY,IH,k2]
 refine ao (aG (d:= .str al) ?_) ?_
 ·simp only[aw,d2,dV,dC,dA,aC,aN,au,QX,TM,Ui,Si,QV,Sb,Rg,Vt,Vu,Nat.reduceSub,R4,R5,Nat.reduceAdd,if_true,gY,Lk,ft,cI,Nat.reduceLeDiff,e4]
 refine ao (aG rfl) ?_;refine ao (CJ (lH (by omega)) f1) ?_;exact aT rfl
def vS(ns:List Int)(hl:ns.length<=63)(at' mo:Nat)(m0:0<mo)(m5:mo<=5):∃bd W,Good bd W/\(∀r∈bd,OI r)/\bd.length<=mo/\W<=mo/\cQ [.scr ns, .int (at':Int), .int (mo:Int)]=aa (brd bd):=
 let ⟨bd,W,h1,h3,h2⟩:=vT ns hl at' mo m0 m5
 ⟨bd,W,h1,λr hr c hc=>(h3 r hr c hc).1,h2⟩
def vU(ns:List Int)(hl:ns.length<=63)(at' mo:Nat)(m0:0<mo)(m5:mo<=5):∃bd W,Good bd W/\bd.length<=mo/\W<=mo/\cQ [.scr ns, .int (at':Int), .int (mo:Int)]=aa (brd bd):=
 let ⟨bd,W,h1,_,h2⟩:=vS ns hl at' mo m0 m5
 ⟨bd,W,h1,h2⟩
def Plain:D->Prop
 | .non | .bl _ | .int _ | .str _ | .tup _ | .lst _=>True
 |_=>False
def isStr:D->Bool
 | .str _=>true
 |_=>false
def isTup:D->Bool
 | .tup _=>true
 |_=>false
def fq{d:D}(h:Plain d):jw [d, .raw (.ty "str")]=aa (.bl (isStr d)):=by
 cases d<;>first | rfl | exact h.elim
def x9{d:D}(h:Plain d):jw [d, .raw (.ty "tuple")]=aa (.bl (isTup d)):=by
 cases d<;>first | rfl | exact h.elim
def rY:D->Bool
 | .str x=>(x.length==1)&&FZ x
 |_=>false
def cO{i:Nat}{d:D}(h:ρ[i]? =some (fz d)):dV i ρ=aa d:=by
 unfold dV;rw[h]
def eq_int(i j:Int):mJ (.int i) (.int j)=aa (.bl (i==j)):=rfl
def len_str(x:Str):bw [.str x]=aa (.int (x.length:Int)):=rfl
def in_str(x:Str):A0 false (.str x) (.str "abcdef")=aa (.bl (FZ x)):=rfl
def uG(a b:Nat):((a:Int)==(b:Int))=(a==b):=by
 by_cases h:a=b
 ·subst h;simp
 ·have h2:¬(a:Int)=(b:Int):=by omega
  rw[XS.mpr h,XS.mpr h2]
def Ej(h:Plain d){i:Nat}{ρ:cp}(hρ:ρ[i]? =some (fz d)):
 gP (dA jw (aC (dV i) (aC (dC (.raw (.ty "str"))) aN))) (gP (d2 mJ (dA bw (aC (dV i) aN)) (dC (.int 1))) (d2 (A0 false) (dV i) (dC (.str "abcdef")))) ρ=aa (.bl (rY d)):=by
 have hv:=cO hρ;have e1:=uG;cases d with
 |str x=>
  have k:((x.length:Int)==1)=(x.length==1):=uG x.length 1;simp only[gP,dA,aC,aN,dC,d2,hv,au,fq h,isStr,Ai,if_true,len_str,eq_int,k,in_str,rY];cases x.length==1<;>rfl
 |non=>simp only[gP,dA,aC,aN,dC,d2,hv,au,fq h,isStr,Ai,if_false,Ro,rY]
 |bl b=>simp only[gP,dA,aC,aN,dC,d2,hv,au,fq h,isStr,Ai,if_false,Ro,rY]
 |int b=>simp only[gP,dA,aC,aN,dC,d2,hv,au,fq h,isStr,Ai,if_false,Ro,rY]
 |tup b=>simp only[gP,dA,aC,aN,dC,d2,hv,au,fq h,isStr,Ai,if_false,Ro,rY]
 |lst b=>simp only[gP,dA,aC,aN,dC,d2,hv,au,fq h,isStr,Ai,if_false,Ro,rY]
 |raw _=>exact h.elim
 |exc _=>exact h.elim
 |scr _=>exact h.elim
 |dct _ _=>exact h.elim
 |dci _ _=>exact h.elim
def pL{d:D}(h:Plain d):cP [d]=aa (.bl (rY d)):=a7 (aT (Ej h rfl))
def iJ(x:Str):Bool:=x.cps.toList.all λc=>FZ ⟨#[c]⟩
def mP:D->Bool
 | .str x=>(decide (1<=x.length)&&decide (x.length<=8))&&iJ x
 |_=>false
def qh(l:List Bool):bools (l.map D.bl)=some l:=by
 induction l with
 |nil=>rfl
 |cons b r ih=>show (bools (r.map D.bl)).map _=_;rw[ih];rfl
def all_map(l:List Bool):allM [.lst (l.map D.bl)]=aa (.bl (l.all id)):=by
 show (match bools (l.map D.bl) with | some bs=>aa (D.bl (bs.all id)) | none=>af)=_;rw[qh]
def AD{ρ:cp}{n:Nat}(h:δ ρ=aa (.int (n:Int))):
 dS (DI (λi j=>decide (i<=j)) (λi j=>decide (i<=j)) (dC (.int 1)) δ (dC (.int 8))) ρ=aa (decide (1<=n)&&decide (n<=8)):=by
 have k1:decide ((1:Int)<=(n:Int))=decide (1<=n):=by by_cases h:1<=n<;>simp[h]<;>omega
 have k2:decide ((n:Int)<=8)=decide (n<=8):=by by_cases h:n<=8<;>simp[h]<;>omega
 simp only[dS,DI,dC,h,au,k1,k2,gI,Ai];cases decide (1<=n)<;>rfl
def wu(h:Plain d):eV [d]=aa (.bl (mP d)):=by
 refine a7 ?_;have hρ:([d].map (λd=>some (Sl.fz d))++Rg (1 - [d].length) none)=[fz d]:=rfl;rw[hρ];have hv:dV 0 [fz d]=aa d:=rfl;have no:isStr d=false->vG [fz d]=aa (.rt (.bl false)):=λhs=>by
  refine iR (jg ?_ (aT rfl));simp only[tK,eT,dJ,dA,aC,aN,dC,hv,au,fq h,hs,C8,Wm,if_true]
 cases d with
 |str x=>
  have hi:dJ (dA jw (aC (dV 0) (aC (dC (.raw (.ty "str"))) aN))) [fz (.str x)]=aa true:=by
   simp only[dJ,dA,aC,aN,dC,hv,au,fq h,isStr,C8]
  have hl:dA bw (aC (dV 0) aN) [fz (.str x)]=aa (.int (x.length:Int)):=rfl;have hc:=AD hl;by_cases hr:(decide (1<=x.length)&&decide (x.length<=8))=true
  ·rw[hr] at hc;refine ao (dU ?_ rfl) (aT ?_)
   ·unfold tK eT;rw[hi,au,au,hc];rfl
   ·have hb:x.length<=8:=by simp only[Q6,XI] at hr;exact hr.2
    have cm:aS 0 (λρ=>(dV 0) ρ>>=Iq) bp (aw 1 cP (aC (dV 0) aN)) [fz (.str x)]=aa (.lst ((x.cps.toList.map λc=>FZ ⟨#[c]⟩).map D.bl)):=by
     refine aW rfl ?_ ?_
     ·have:=fS (f:=eS 0 bp (aw 1 cP (aC (dV 0) aN)) [fz (.str x)]) (g:=λd=>D.bl (rY d)) (signs x) λd hd=>by
       rw[fJ];obtain⟨c,_,rfl⟩:=QU.mp hd;show (cP [.str ⟨#[c]⟩]>>=λy=>aa (some y))=_;rw[pL (d:= .str ⟨#[c]⟩) trivial];rfl
      rw[this];unfold signs;rw[Rj,Rj];congr 1
     ·rw[QM,QM,Q5,cI];exact RI hb (by decide)
    rw[aX (aH cm rfl),all_map];show aa (D.bl ((x.cps.toList.map λc=>FZ ⟨#[c]⟩).all id))=aa (D.bl ((decide (1<=x.length)&&decide (x.length<=8))&&iJ x));rw[hr];unfold iJ;rw[Uw];rfl
  ·have hr:(decide (1<=x.length)&&decide (x.length<=8))=false:=by simpa using hr
   rw[hr] at hc;have:mP (.str x)=false:=by
    show ((decide (1<=x.length)&&decide (x.length<=8))&&iJ x)=false;rw[hr];rfl
   rw[this];refine iR (jg ?_ (aT rfl));unfold tK eT;rw[hi,au,au,hc];rfl
 |non=>exact no rfl
 |bl b=>exact no rfl
 |int b=>exact no rfl
 |tup b=>exact no rfl
 |lst b=>exact no rfl
 |raw _=>exact h.elim
 |exc _=>exact h.elim
 |scr _=>exact h.elim
 |dct _ _=>exact h.elim
 |dci _ _=>exact h.elim
def jx:D->Nat
 | .str x=>x.length
 |_=>0
def ni:D->Bool
 | .tup ds=>(decide (1<=ds.length)&&decide (ds.length<=8))&&(ds.all mP&&ds.all λd=>jx d==jx (ds.headD .non))
 |_=>false
def Plain2:D->Prop
 | .tup ds=>∀d∈ds,Plain d
 |d=>Plain d
def Plain2.plain{d:D}(h:Plain2 d):Plain d:=by
 cases d<;>first | exact h | exact trivial
def Ov{r:List D}(h:ds=d::r):bD (.tup ds) (.int 0)=aa d:=by
 subst h;show (match L2.atI (d::r) ((0:Nat):Int) with | some d=>aa d | none=>af)=_;rw[fR (x:=d) rfl]
def Fd{d:D}(h:mP d=true):∃x,d= .str x:=by
 cases d<;>first | exact⟨_,rfl⟩ | cases h
def zh{d:D}(h:Plain d):tK (eT (dJ (dA jw (aC (dV 0) (aC (dC (.raw (.ty "tuple"))) aN))))) (eT (dS (DI (λi j=>decide (i<=j)) (λi j=>decide (i<=j)) (dC (.int 1)) (dA bw (aC (dV 0) aN)) (dC (.int 8))))) [fz d]=
 aa (match d with | .tup ds=>!(decide (1<=ds.length)&&decide (ds.length<=8)) | _=>true):=by
 have hv:dV 0 [fz d]=aa d:=rfl;have no:isTup d=false->tK (eT (dJ (dA jw (aC (dV 0) (aC (dC (.raw (.ty "tuple"))) aN))))) (eT (dS (DI (λi j=>decide (i<=j)) (λi j=>decide (i<=j)) (dC (.int 1)) (dA bw (aC (dV 0) aN)) (dC (.int 8))))) [fz d]=aa true:=λhs=>by
  simp only[tK,eT,dJ,dA,aC,aN,dC,hv,au,x9 h,hs,C8,Wm,if_true]
 cases d with
 |tup ds=>
  have hi:dJ (dA jw (aC (dV 0) (aC (dC (.raw (.ty "tuple"))) aN))) [fz (.tup ds)]=aa true:=by
   simp only[dJ,dA,aC,aN,dC,hv,au,x9 h,isTup,C8]
  have hl:dA bw (aC (dV 0) aN) [fz (.tup ds)]=aa (.int (ds.length:Int)):=rfl;unfold tK eT;rw[hi,au,au,AD hl];rfl
 |non=>exact no rfl
 |bl b=>exact no rfl
 |int b=>exact no rfl
 |str b=>exact no rfl
 |lst b=>exact no rfl
 |raw _=>exact h.elim
 |exc _=>exact h.elim
 |scr _=>exact h.elim
 |dct _ _=>exact h.elim
 |dci _ _=>exact h.elim
def all_rows(h:∀d∈ds,Plain d)(hl:ds.length<=8):dA allM (aC (aS 0 (v5 (dV 0)) bp (aw 1 eV (aC (dV 0) aN))) aN) [fz (.tup ds)]=aa (.bl (ds.all mP)):=by
 have cm:aS 0 (v5 (dV 0)) bp (aw 1 eV (aC (dV 0) aN)) [fz (.tup ds)]=aa (.lst ((ds.map mP).map D.bl)):=by
  refine aW (ds:=ds) rfl ?_ (by rw[QM,QM,cI];omega);rw[Rj];refine fS (g:=D.bl∘mP) ds λd hd=>?_;rw[fJ];show (eV [d]>>=λy=>aa (some y))=_;rw[wu (h d hd)];rfl
 rw[aX (aH cm rfl),all_map,Uw];rfl
def all_lens(hs:∀d∈ds,∃x,d= .str x)(h0:1<=ds.length)(hl:ds.length<=8):
 dA allM (aC (aS 0 (v5 (dV 0)) bp (d2 mJ (dA bw (aC (dV 0) aN)) (dA bw (aC (d2 bD (dV 1) (dC (.int 0))) aN)))) aN) [fz (.tup ds)]=aa (.bl (ds.all λd=>jx d==jx (ds.headD .non))):=by
 obtain⟨d0,r,e0⟩:∃d0 r,ds=d0::r:=by
  cases ds with
  |nil=>simp at h0
  |cons a r=>exact⟨a,r,rfl⟩
 have hh:ds.headD .non=d0:=by rw[e0];rfl
 obtain⟨x0,Ol⟩:=hs d0 (by rw[e0];exact QR ..);have cm:aS 0 (v5 (dV 0)) bp (d2 mJ (dA bw (aC (dV 0) aN)) (dA bw (aC (d2 bD (dV 1) (dC (.int 0))) aN))) [fz (.tup ds)]=aa (.lst ((ds.map λd=>jx d==jx (ds.headD .non)).map D.bl)):=by
  refine aW (ds:=ds) rfl ?_ (by rw[QM,QM,cI];omega);rw[Rj];refine fS (g:=D.bl∘λd=>jx d==jx (ds.headD .non)) ds λd hd=>?_;rw[fJ];obtain⟨x,rfl⟩:=hs d hd;have k:((x.length:Int)==(x0.length:Int))=(x.length==x0.length):=uG _ _;have i0:bD (.tup ds) (.int 0)=aa (.str x0):=by rw[Ov e0,Ol]
  have PB:ds.headD .non= .str x0:=by rw[hh,Ol]
  simp only[d2,dA,aC,aN,dC,dV,au,R4,R5,len_str,i0,eq_int,k,XE,jx,PB]
 rw[aX (aH cm rfl),all_map,Uw];rfl
def rW{d:D}(h:Plain2 d):gp [d]=aa (.bl (ni d)):=by
 refine a7 ?_;have hρ:([d].map (λd=>some (Sl.fz d))++Rg (1 - [d].length) none)=[fz d]:=rfl;rw[hρ];have hf:=zh h.plain;have no:(∀ds,d≠ .tup ds)->pz [fz d]=aa (.rt (.bl (ni d))):=λhn=>by
  cases d<;>first | exact XN rfl (hn _) | exact iR (jg hf (aT rfl))
 cases d with
 |tup ds=>
  have hf:_=aa (!(decide (1<=ds.length)&&decide (ds.length<=8))):=hf;by_cases hr:(decide (1<=ds.length)&&decide (ds.length<=8))=true
  ·rw[hr] at hf;have hb:=hr;simp only[Q6,XI] at hb;have e:ni (.tup ds)=(ds.all mP&&ds.all λd=>jx d==jx (ds.headD .non)):=by
    show ((decide (1<=ds.length)&&decide (ds.length<=8))&&_)=_;rw[hr,Bool.true_and]
   rw[e];have a1:=all_rows h hb.2;refine ao (dU hf rfl) ?_;cases hc:ds.all mP with
   |false=>
    rw[hc] at a1;refine iR (jg ?_ (aT rfl));unfold eT dJ;rw[a1];rfl
   |true=>
    rw[hc] at a1;refine ao (dU ?_ rfl) (aT ?_)
    ·unfold eT dJ;rw[a1];rfl
    ·rw[Bool.true_and];exact all_lens (λd hd=>Fd (Rt.mp hc d hd)) hb.1 hb.2
  ·have hr:(decide (1<=ds.length)&&decide (ds.length<=8))=false:=by simpa using hr
   rw[hr] at hf;have e:ni (.tup ds)=false:=by
    show ((decide (1<=ds.length)&&decide (ds.length<=8))&&_)=_;rw[hr];rfl
   rw[e];exact iR (jg hf (aT rfl))
 |non=>exact no λ_ z=>by cases z
 |bl b=>exact no λ_ z=>by cases z
 |int b=>exact no λ_ z=>by cases z
 |str b=>exact no λ_ z=>by cases z
 |lst b=>exact no λ_ z=>by cases z
 |raw _=>exact h.elim
 |exc _=>exact h.elim
 |scr _=>exact h.elim
 |dct _ _=>exact h.elim
 |dci _ _=>exact h.elim
structure Brd (ob:List Str) (V:Nat):Prop where
 r1:1<=ob.length
 r8:ob.length<=8
 w1:1<=V
 w8:V<=8
 rows:∀r∈ob,Row V r
def Good.brd(hg:Good bd W):Brd bd W:=⟨hg.r1,by have:=hg.r5;omega,hg.w1,by have:=hg.w5;omega,hg.rows⟩
def Brd.board{V:Nat}(h:Brd ob V):ni (brd ob)=true:=by
 have ME:∀r∈ob,mP (.str r)=true:=λr hr=>by
  have q:=h.rows r hr;show ((decide (1<=r.length)&&decide (r.length<=8))&&iJ r)=true;rw[q.len];have a:decide (1<=V)=true:=XM h.w1;have b:decide (V<=8)=true:=XM h.w8;rw[a,b];show iJ r=true;exact Rt.mpr λc hc=>q.let' c hc
 have h0:jx ((ob.map D.str).headD .non)=V:=by
  have:=h.r1;have hr:=h.rows;cases ob with
  |nil=>simp at this
  |cons x l=>exact(hr x (QR ..)).len
 show ((decide (1<=(ob.map D.str).length)&&decide ((ob.map D.str).length<=8))&&((ob.map D.str).all mP&&(ob.map D.str).all λd=>jx d==jx ((ob.map D.str).headD .non)))=true;rw[h0,QM,XM h.r1,XM h.r8];have a:(ob.map D.str).all mP=true:=Rt.mpr λd hd=>by
  obtain⟨r,hr,rfl⟩:=QU.mp hd;exact ME r hr
 have b:((ob.map D.str).all λd=>jx d==V)=true:=Rt.mpr λd hd=>by
  obtain⟨r,hr,rfl⟩:=QU.mp hd;show (r.length==V)=true;rw[(h.rows r hr).len];simp
 rw[a,b];rfl
def yU:Plain2 (brd bd):=λd hd=>by
 obtain⟨r,_,rfl⟩:=QU.mp hd;trivial
def rK(h:δ ρ=aa (.bl b)):dJ δ ρ=aa b:=by
 unfold dJ;rw[h];rfl
def gN(h:δ ρ=aa (.bl b)):dS δ ρ=aa b:=by
 unfold dS;rw[h];rfl
def v7(h:τ ρ=aa b):eT τ ρ=aa (!b):=by
 unfold eT;rw[h];rfl
def FF(h1:a ρ=aa p)(h2:c ρ=aa q):tK a c ρ=aa (p||q):=by
 unfold tK;rw[h1,au];cases p
 ·exact h2
 ·rfl
def rJ(h1:a ρ=aa (.bl p))(h2:c ρ=aa (.bl q)):v8 a c ρ=aa (.bl (p||q)):=by
 unfold v8;rw[h1,au];cases p
 ·exact h2
 ·rfl
def Brd.nb{V:Nat}(h:Brd ob V):aY [brd ob]=aa .non:=by
 refine yF (dU (v7 (rK (b:=true) ?_)) rfl);refine(aq (ds:=[brd ob]) rfl rfl).trans ?_;rw[rW yU,h.board]
structure Ln (V:Nat) (r:Str):Prop where
 len:r.length=V
structure Wd (ob:List Str) (V:Nat):Prop where
 r1:1<=ob.length
 r8:ob.length<=8
 w1:1<=V
 w8:V<=8
 rows:∀r∈ob,Ln V r
def Brd.wd{V:Nat}(h:Brd ob V):Wd ob V:=⟨h.r1,h.r8,h.w1,h.w8,λr hr=>⟨(h.rows r hr).len⟩⟩
def Wd.len0{V:Nat}(h:Wd ob V)(hρ:ρ[i]? =some (fz (brd ob))):dA bw (aC (d2 bD (dV i) (dC (.int 0))) aN) ρ=aa (.int (V:Int)):=by
 have h1:=h.r1;have hr:=h.rows;obtain⟨x,l,e⟩:∃x l,ob=x::l:=by
  cases ob with
  |nil=>simp at h1
  |cons x l=>exact⟨x,l,rfl⟩
 have hx:x.length=V:=(hr x (by rw[e];exact QR ..)).len;have i0:bD (brd ob) (.int 0)=aa (.str x):=Ov (show ob.map D.str=D.str x::l.map D.str by rw[e];rfl);have k:=aO (g:=bD) (cO hρ) (show dC (.int 0) ρ=aa (.int 0) from rfl);rw[i0] at k;rw[aX (aH k rfl)];show aa (D.int (x.length:Int))=_;rw[hx]
def Brd.len0{V:Nat}(h:Brd ob V)(hρ:ρ[i]? =some (fz (brd ob))):dA bw (aC (d2 bD (dV i) (dC (.int 0))) aN) ρ=aa (.int (V:Int)):=h.wd.len0 hρ
def Ef(hρ:ρ[i]? =some (fz (brd bd))):dA bw (aC (dV i) aN) ρ=aa (.int (bd.length:Int)):=by
 have:bw [brd bd]=aa (.int (bd.length:Int)):=by
  show aa (D.int ((bd.map D.str).length:Int))=_;rw[QM]
 simp only[dA,aC,aN,cO hρ,au,this]
def IE:D->Bool
 | .int _=>true
 |_=>false
def Ae(h:Plain d):dY [d]=aa (.bl (IE d)):=by
 cases d<;>first | rfl | exact h.elim
abbrev Cell:=Nat×Nat
def cD(c:Cell):D:= .tup [.int (c.1:Int), .int (c.2:Int)]
def On(R W:Nat)(c:Cell):Prop:=c.1<R/\c.2<W
instance {R W:Nat}{c:Cell}:Decidable (On R W c):=by unfold On;infer_instance
def Ways(w:Nat):Prop:=w=4\/w=8
def Ways.nw(h:Ways w):bu [iW w]=aa .non:=by
 rcases h with rfl | rfl<;>rfl
def ch(x:Str)(j:Nat):Nat:=x.cps.toList.getD j 0
def at2(bd:List Str)(i j:Nat):Nat:=ch (bd.getD i ⟨#[]⟩) j
abbrev lt(bd:List Str)(c:Cell):Nat:=at2 bd c.1 c.2
def sg(n:Nat):D:= .str ⟨#[n]⟩
def yI{c:Nat}(h:c<x.length):nL (.str x) (.int (c:Int))=aa (sg (ch x c)):=by
 have h':c<x.cps.toList.length:=by rw[Q5];exact h
 show (match L2.atI x.cps.toList (c:Int) with | some c=>aa (D.str ⟨#[c]⟩) | none=>af)=_;rw[fR (QN h')];unfold sg ch;rw[QS,QN h'];rfl
def getD_mem{bd:List Str}(h:i<bd.length):bd.getD i ⟨#[]⟩∈bd:=by
 rw[QS,QN h];exact SO h
def Hd{i:Nat}(h:i<bd.length):bD (brd bd) (.int (i:Int))=aa (.str (bd.getD i ⟨#[]⟩)):=by
 show (match L2.atI (bd.map D.str) (i:Int) with | some d=>aa d | none=>af)=_;rw[fR ?_];rw[Q1,QN h,QS,QN h];rfl
def jb(hg:Brd bd W)(h:On bd.length W c):dz [brd bd,cD c]=aa (sg (lt bd c)):=by
 refine a7 (aT ?_);refine(aO ((aO rfl rfl).trans (Hd h.1)) rfl).trans ?_;exact yI (by rw[(hg.rows _ (getD_mem h.1)).len];exact h.2)
def Js(a b:Nat):mJ (sg a) (sg b)=aa (.bl (decide (a=b))):=by
 show aa (D.bl (decide ((⟨#[a]⟩:Str)=⟨#[b]⟩)))=_;congr 2;by_cases h:a=b
 ·subst h;simp
 ·have:¬((⟨#[a]⟩:Str)=⟨#[b]⟩):=λz=>by
   injection z with z
   exact h (by simpa using z)
  rw[XJ h,XJ this]
def fK(a b:Nat):Nat:=max a b - min a b
def gb(w:Nat)(a b:Cell):Bool:=if w=4 then decide (fK a.1 b.1+fK a.2 b.2=1) else decide (max (fK a.1 b.1) (fK a.2 b.2)=1)
def xA(a b:Nat):As [.int ((a:Int) - (b:Int))]=aa (.int (fK a b:Int)):=by
 show aa (D.int _)=_;congr 2;unfold fK;omega
def rm(hw:Ways w)(a b:Cell):dq [cD a,cD b,iW w]=aa (.bl (gb w a b)):=by
 refine a7 ?_;refine ao ((aG (xA a.1 b.1)).trans rfl) ?_;refine ao ((aG (xA a.2 b.2)).trans rfl) ?_;rcases hw with rfl | rfl
 ·refine iR (jg (gN rfl) (aT ?_));show aa (D.bl (((fK a.1 b.1:Int)+(fK a.2 b.2:Int))==1))=_;unfold gb;rw[XG rfl];congr 2;have:((fK a.1 b.1:Int)+(fK a.2 b.2:Int))=((fK a.1 b.1+fK a.2 b.2:Nat):Int):=by omega
  rw[this];have e:=uG (fK a.1 b.1+fK a.2 b.2) 1;exact e.trans rfl
 ·refine ao (dU (gN rfl) rfl) (aT ?_);show aa (D.bl ((if (fK a.1 b.1:Int)<(fK a.2 b.2:Int) then(fK a.2 b.2:Int) else(fK a.1 b.1:Int))==1))=_;have hn:gb 8 a b=decide (max (fK a.1 b.1) (fK a.2 b.2)=1):=rfl;rw[hn];congr 2;have:(if (fK a.1 b.1:Int)<(fK a.2 b.2:Int) then(fK a.2 b.2:Int) else(fK a.1 b.1:Int))=((max (fK a.1 b.1) (fK a.2 b.2):Nat):Int):=by split<;>omega
  rw[this];have e:=uG (max (fK a.1 b.1) (fK a.2 b.2)) 1;exact e.trans rfl
def oC(w:Nat)(a b:Cell):gb w a b=gb w b a:=by
 have e:∀x y:Nat,fK x y=fK y x:=λx y=>by unfold fK;omega
 unfold gb;rw[e a.1,e a.2]
def dB(h1:put d ρ=some ρ1)(h2:body ρ1=aa (.nx ρ2)):forL put body (d::ds) ρ=forL put body ds ρ2:=by
 show (match put d ρ with | none=>af | some ρ1=>body ρ1>>=λo=>match o with | .nx ρ2=>forL put body ds ρ2 | .rt v=>aa (.rt v))=_;rw[h1];show (body ρ1>>=λo=>match o with | .nx ρ2=>forL put body ds ρ2 | .rt v=>aa (.rt v))=_;rw[h2];rfl
section
variable{α σ:Type}{put:D->cp->Option cp}{body:DS}
def iE(XW:α->D)(mk:σ->cp)(step:σ->α->σ)(I:σ->Prop):∀(xs:List α) (s:σ),I s->(∀s,I s->∀x∈xs,I (step s x)/\∃ρ1,put (XW x) (mk s)=some ρ1/\body ρ1=aa (.nx (mk (step s x))))->
 I (xs.foldl step s)/\forL put body (xs.map XW) (mk s)=aa (.nx (mk (xs.foldl step s)))
 |[],s,h,_=>⟨h,rfl⟩
 |x::xs,s,h,st=>by
  obtain⟨h2,ρ1,e1,e2⟩:=st s h x (QR ..);obtain⟨h3,e3⟩:=iE XW mk step I xs (step s x) h2 λs hs y hy=>st s hs y (QQ _ hy);exact⟨h3,(dB e1 e2).trans e3⟩
def gX(XW:α->D)(mk:List D->cp)(g:α->List D):∀(xs:List α) (u8:List D),(u8++xs.flatMap g).length<=B->(∀x∈xs,∀u8,(u8++g x).length<=B->∃ρ1,put (XW x) (mk u8)=some ρ1/\body ρ1=aa (.nx (mk (u8++g x))))->
 forL put body (xs.map XW) (mk u8)=aa (.nx (mk (u8++xs.flatMap g)))
 |[],u8,_,_=>by simp;rfl
 |x::xs,u8,hB,st=>by
  have NX:((u8++g x)++xs.flatMap g).length<=B:=by simpa[S2,UH] using hB
  obtain⟨ρ1,e1,e2⟩:=st x (QR ..) u8 (RI (by simp only[Q2];omega) NX);have e3:=gX XW mk g xs (u8++g x) NX λy hy=>st y (QQ _ hy);rw[QX,dB e1 e2,e3,S2,UH]
end
def gj(h:δi ρ=aa ds)(h2:forL put b ds ρ=m):ez put δi b ρ=m:=by
 unfold ez;rw[h];exact h2
def eI{τ:DS}(h:τ ρ=aa o):(λρ=>noex (τ ρ)) ρ=aa o:=by
 show noex (τ ρ)=_;rw[h];rfl
def ve(lo n:Nat):gi (lo:Int) n=(RY lo n).map λ(k:Nat)=>D.int (k:Int):=by
 unfold gi;rw[W2];have:∀(n a:Nat),(RY a n).map (λ(i:Nat)=>D.int ((lo:Int)+(i:Int)))=(RY (lo+a) n).map λ(k:Nat)=>D.int (k:Int):=by
  intro n;induction n with
  |zero=>intro a;rfl
  |succ n ih=>
   intro a;rw[US,US,QX,QX,ih (a+1)];rfl
 exact this n 0
def CA(h:δ ρ=aa (.int (n:Int)))(hn:n<=4096):(aC δ aN ρ>>=fc)=aa ((Rf n).map λ(k:Nat)=>D.int (k:Int)):=by
 rw[aH h rfl,au,lH hn,show gi 0 n=gi ((0:Nat):Int) n from rfl,ve,W2]
def KZ(h:δ ρ=aa (.int (i:Int)))(h2:ε ρ=aa (.int (j:Int)))(hi:i<=4096)(hj:j<=4096):(aC δ (aC ε aN) ρ>>=q0)=aa ((RY i (j - i)).map λ(k:Nat)=>D.int (k:Int)):=by
 rw[aH h (aH h2 rfl),au];show (if (-4096<=(i:Int)/\(i:Int)<=4096)/\(-4096<=(j:Int)/\(j:Int)<=4096) then aa (gi (i:Int) ((j:Int) - (i:Int)).toNat) else af)=_;rw[XG ⟨⟨by omega,by omega⟩,by omega,by omega⟩,show ((j:Int) - (i:Int)).toNat=j - i by omega,ve]
def fG(W r:Nat):List Cell:=(Rf W).map λk=>(r,k)
def aZ(R W:Nat):List Cell:=(Rf R).flatMap (fG W)
def aM:c∈aZ R W↔On R W c:=by
 unfold aZ fG On;simp only[Uh,RL,QU];constructor
 ·rintro⟨r,hr,k,hk,rfl⟩;exact⟨hr,hk⟩
 ·rintro⟨h1,h2⟩;exact⟨c.1,h1,c.2,h2,rfl⟩
def bN(R W:Nat):(aZ R W).length=R*W:=by
 unfold aZ;have:∀l:List Nat,(l.flatMap (fG W)).length=l.length*W:=by
  intro l;induction l with
  |nil=>simp
  |cons a l ih=>rw[S2,Q2,ih,QV,Nat.succ_mul];simp[fG];omega
 rw[this,S1]
def k0(hg:Brd bd W)(r:Nat):b_ [brd bd, .int (r:Int)]=aa (.lst ((fG W r).map cD)):=by
 have:=hg.w8;refine a7 (aT (aW (CA (hg.len0 rfl) (by omega)) ?_ (by simp[fG,cI];omega)));rw[show (fG W r).map cD=((Rf W).map λ(k:Nat)=>D.int (k:Int)).map (λe=> .tup [.int (r:Int),e]) by simp[fG,Rj];intro a _;rfl];exact fS _ λe _=>rfl
def i9(hg:Brd bd W):cu [brd bd]=aa (.lst ((aZ bd.length W).map cD)):=by
 have h8:=hg.r8;have w8:=hg.w8;have hm:bd.length*W<=64:=Vg h8 w8;have Lu:(Rf bd.length).flatMap (λr=>(fG W r).map cD)=(aZ bd.length W).map cD:=by
  unfold aZ;rw[List.map_flatMap]
 have e:=gX (put:=putN 2) (body:=dF [2] (CI 1 (aw 2 b_ (aC (dV 0) (aC (dV 2) aN))))) (λ(k:Nat)=>D.int (k:Int)) (λu8=>[fz (brd bd),some (.ow (.lst u8)),none]) (λr=>(fG W r).map cD) (Rf bd.length) []
  (by rw[Si,Lu,QM,bN];exact hm) λr hr u8 hB=>by
   refine⟨[fz (brd bd),some (.ow (.lst u8)),fz (.int (r:Int))],rfl,?_⟩;refine(bI (ρ':=[fz (brd bd),some (.ow (.lst (u8++(fG W r).map cD))),fz (.int (r:Int))]) ?_).trans rfl;show (b_ [brd bd, .int (r:Int)]>>=λd=>lstM d>>=λes=>if u8.length+es.length<=lim then aa (Out.nx (List.set [fz (brd bd),some (.ow (.lst u8)),fz (.int (r:Int))] 1 (some (.ow (.lst (u8++es)))))) else af)=_;rw[k0 hg,au];show (if u8.length+((fG W r).map cD).length<=lim then aa (Out.nx [fz (brd bd),some (.ow (.lst (u8++(fG W r).map cD))),fz (.int (r:Int))]) else af)=_;rw[XG (by rw[Q2] at hB;rw[cI];omega)]
 rw[Si,Lu] at e;refine a7 (ao rfl (ao (eI (gj (CA (Ef rfl) (by omega)) e)) ?_));rfl
def cE(R W w:Nat)(c:Cell):List Cell:=
 (RY (c.1 - 1) (min (c.1+2) R - (c.1 - 1))).flatMap λr=>((RY (c.2 - 1) (min (c.2+2) W - (c.2 - 1))).map λk=>(r,k)).filter (gb w c)
def cW(hw:Ways w):x∈cE R W w c↔On R W x/\gb w c x=true:=by
 unfold cE On;simp only[Uh,RG,QU,List.mem_range'_1];constructor
 ·rintro⟨r,⟨h1,h2⟩,⟨k,⟨h3,h4⟩,rfl⟩,h5⟩;refine⟨⟨?_,?_⟩,h5⟩
  ·show r<R;omega
  ·show k<W;omega
 ·rintro⟨⟨h1,h2⟩,h5⟩;have h6:fK c.1 x.1<=1/\fK c.2 x.2<=1:=by
   unfold gb at h5;rcases hw with rfl | rfl
   ·rw[XG rfl] at h5;have:=XO h5;omega
   ·rw[XH (by decide)] at h5;have:=XO h5;omega
  unfold fK at h6;exact⟨x.1,⟨by omega,by omega⟩,⟨x.2,⟨by omega,by omega⟩,rfl⟩,h5⟩
def qE(R W w:Nat)(c:Cell):(cE R W w c).length<=9:=by
 unfold cE;rw[Xd];have h:∀r,(((RY (c.2 - 1) (min (c.2+2) W - (c.2 - 1))).map λk=>(r,k)).filter (gb w c)).length<=3:=λr=>by
  refine RI (SS ..) ?_;rw[QM,Vv];omega
 have:∀(l:List Nat),(l.map λr=>(((RY (c.2 - 1) (min (c.2+2) W - (c.2 - 1))).map λk=>(r,k)).filter (gb w c)).length).sum<=3*l.length:=by
  intro l;induction l with
  |nil=>simp
  |cons a l ih=>rw[QX,Se,QV];have:=h a;omega
 refine RI (this _) ?_;rw[Vv];omega
abbrev nc(b c w:D)(u8:List D)(x4 x5:Option Sl):cp:=[fz b,fz c,fz w,some (.ow (.lst u8)),x4,x5]
def e8(hg:Brd bd W)(hw:Ways w)(hc:On bd.length W c):aR [brd bd,cD c,iW w]=aa (.lst ((cE bd.length W w c).map cD)):=by
 have h8:=hg.r8;have w8:=hg.w8;obtain⟨c1,c2⟩:=hc;have JT:∀n:Nat,wC [.int ((n:Int) - 1), .int 0]=aa (.int ((n - 1:Nat):Int)):=λn=>by
  show aa (D.int (if (0:Int)>(n:Int) - 1 then 0 else(n:Int) - 1))=_;congr 2;split<;>omega
 have JU:∀n m:Nat,zD [.int ((n:Int)+2), .int (m:Int)]=aa (.int ((min (n+2) m:Nat):Int)):=λn m=>by
  show aa (D.int (if (m:Int)<(n:Int)+2 then(m:Int) else(n:Int)+2))=_;congr 2;split<;>omega
 have inner:∀(r:Nat) (u8:List D),u8.length<=16->forL (putN 5) (dF [5] (kB (dJ (aw 3 dq (aC (dV 1) (aC (dA cf (aC (dV 4) (aC (dV 5) aN))) (aC (dV 2) aN))))) (vf 3 (dA cf (aC (dV 4) (aC (dV 5) aN)))) eM))
  ((RY (c.2 - 1) (min (c.2+2) W - (c.2 - 1))).map λ(k:Nat)=>D.int (k:Int)) (nc (brd bd) (cD c) (iW w) u8 (fz (.int (r:Int))) none)=
  aa (.nx (nc (brd bd) (cD c) (iW w) (u8++(RY (c.2 - 1) (min (c.2+2) W - (c.2 - 1))).flatMap λk=>if gb w c (r,k) then [cD (r,k)] else []) (fz (.int (r:Int))) none)):=λr u8 i3=>by
  refine gX (λ(k:Nat)=>D.int (k:Int)) (λu8=>nc (brd bd) (cD c) (iW w) u8 (fz (.int (r:Int))) none) (λk=>if gb w c (r,k) then [cD (r,k)] else []) (B:=64) _ u8 ?_ λk hk u8 hB=>?_
  ·rw[Q2,Xd];have:∀l:List Nat,(l.map λk=>(if gb w c (r,k) then [cD (r,k)] else []).length).sum<=l.length:=by
    intro l;induction l with
    |nil=>simp
    |cons a l ih=>rw[QX,Se,QV];split<;>simp<;>omega
   have h2:=this (RY (c.2 - 1) (min (c.2+2) W - (c.2 - 1)));rw[Vv] at h2;omega
  ·refine⟨nc (brd bd) (cD c) (iW w) u8 (fz (.int (r:Int))) (fz (.int (k:Int))),rfl,?_⟩;have ht:dJ (aw 3 dq (aC (dV 1) (aC (dA cf (aC (dV 4) (aC (dV 5) aN))) (aC (dV 2) aN)))) (nc (brd bd) (cD c) (iW w) u8 (fz (.int (r:Int))) (fz (.int (k:Int))))=aa (gb w c (r,k)):=
    rK ((aq rfl rfl).trans (rm hw c (r,k)))
   cases hn:gb w c (r,k) with
   |true=>
    rw[hn] at ht;rw[hn,XG rfl,Q2] at hB;refine(bI (ρ':=nc (brd bd) (cD c) (iW w) (u8++[cD (r,k)]) (fz (.int (r:Int))) (fz (.int (k:Int)))) (jg ht ?_)).trans rfl;show (if u8.length<lim then aa (Out.nx (nc (brd bd) (cD c) (iW w) (u8++[cD (r,k)]) (fz (.int (r:Int))) (fz (.int (k:Int))))) else af)=_;rw[XG (by rw[cI];simp at hB;omega)]
   |false=>
    rw[hn] at ht;refine(bI (dU ht rfl)).trans ?_;simp;rfl
 have flt:∀r,((RY (c.2 - 1) (min (c.2+2) W - (c.2 - 1))).flatMap λk=>if gb w c (r,k) then [cD (r,k)] else [])=(((RY (c.2 - 1) (min (c.2+2) W - (c.2 - 1))).map λk=>(r,k)).filter (gb w c)).map cD:=λr=>by
  generalize RY (c.2 - 1) (min (c.2+2) W - (c.2 - 1))=l;induction l with
  |nil=>rfl
  |cons a l ih=>
   rw[S2,ih,QX,Sj];cases gb w c (r,a)<;>rfl
 have tot:(RY (c.1 - 1) (min (c.1+2) bd.length - (c.1 - 1))).flatMap (λr=>(((RY (c.2 - 1) (min (c.2+2) W - (c.2 - 1))).map λk=>(r,k)).filter (gb w c)).map cD)=(cE bd.length W w c).map cD:=by
  unfold cE;rw[List.map_flatMap]
 have outer:=gX (put:=putN 4) (body:=dF [4,5] (ez (putN 5) (λρ=>(aC (dA wC (aC (d2 gS (d2 bD (dV 1) (dC (.int 1))) (dC (.int 1))) (aC (dC (.int 0)) aN))) (aC (dA zD (aC (d2 dE (d2 bD (dV 1) (dC (.int 1))) (dC (.int 2))) (aC (dA bw (aC (d2 bD (dV 0) (dC (.int 0))) aN)) aN))) aN)) ρ>>=q0) (dF [5] (kB (dJ (aw 3 dq (aC (dV 1) (aC (dA cf (aC (dV 4) (aC (dV 5) aN))) (aC (dV 2) aN))))) (vf 3 (dA cf (aC (dV 4) (aC (dV 5) aN)))) eM))))
  (λ(k:Nat)=>D.int (k:Int)) (λu8=>nc (brd bd) (cD c) (iW w) u8 none none) (λr=>(((RY (c.2 - 1) (min (c.2+2) W - (c.2 - 1))).map λk=>(r,k)).filter (gb w c)).map cD) (RY (c.1 - 1) (min (c.1+2) bd.length - (c.1 - 1))) []
  (by rw[Si,tot,QM];have:=qE bd.length W w c;omega) λr hr u8 hB=>by
   refine⟨nc (brd bd) (cD c) (iW w) u8 (fz (.int (r:Int))) none,rfl,?_⟩;have e:=inner r u8 (by rw[Q2] at hB;omega);rw[flt r] at e;refine(bI (gj (KZ ?_ ?_ (by omega) (by omega)) e)).trans rfl
   ·exact(aX rfl).trans (JT c.2)
   ·refine(aX ?_).trans (JU c.2 W);exact aH (show d2 dE (d2 bD (dV 1) (dC (.int 1))) (dC (.int 2)) (nc (brd bd) (cD c) (iW w) u8 (fz (.int (r:Int))) none)=aa (.int ((c.2:Int)+2)) from rfl) (aH (hg.len0 rfl) rfl)
 rw[Si,tot] at outer;refine a7 (ao rfl (ao (eI (gj (KZ ?_ ?_ (by omega) (by omega)) outer)) ?_))
 ·exact(aX rfl).trans (JT c.1)
 ·refine(aX ?_).trans (JU c.1 bd.length);exact aH (show d2 dE (d2 bD (dV 1) (dC (.int 0))) (dC (.int 2)) (nc (brd bd) (cD c) (iW w) [] none none)=aa (.int ((c.1:Int)+2)) from rfl) (aH (Ef rfl) rfl)
 ·rfl
def bq(bd:List Str)(W w:Nat)(c:Cell):List Cell:=(cE bd.length W w c).filter λx=>decide (lt bd x=lt bd c)
def eQ(hw:Ways w):x∈bq bd W w c↔On bd.length W x/\gb w c x=true/\lt bd x=lt bd c:=by
 unfold bq;rw[RG,cW hw,XI,and_assoc]
def zA(bd:List Str)(W w:Nat)(c:Cell):(bq bd W w c).length<=9:=RI (SS ..) (qE ..)
def k7(XW:α->D)(p:α->Bool):∀(xs:List α),(∀x∈xs,f (XW x)=aa (if p x then some (XW x) else none))->c_ f (xs.map XW)=aa ((xs.filter p).map XW)
 |[],_=>rfl
 |x::xs,h=>by
  rw[QX,dX,h x (QR ..),au,k7 XW p xs λy hy=>h y (QQ _ hy),Sj];cases p x<;>rfl
def n9(hg:Brd bd W)(hw:Ways w)(hc:On bd.length W c):cx [brd bd,cD c,iW w]=aa (.lst ((bq bd W w c).map cD)):=by
 refine a7 (ao (ρ':=[fz (brd bd),fz (cD c),fz (iW w),fz (sg (lt bd c))]) ((aG ((aq rfl rfl).trans (jb hg hc))).trans rfl) (aT ?_));refine aW ?_ (k7 cD _ _ λx hx=>?_) (by rw[QM,cI];exact RI (zA bd W w c) (by decide))
 ·show (aw 3 aR _ _>>=lstM)=_;have e:aw 3 aR (aC (dV 0) (aC (dV 1) (aC (dV 2) aN))) [fz (brd bd),fz (cD c),fz (iW w),fz (sg (lt bd c))]=aa (.lst ((cE bd.length W w c).map cD)):=e8 hg hw hc;rw[e];rfl
 ·have Qh:=(cW hw).mp hx;rw[AH];have e:dS (d2 mJ (aw 2 dz (aC (dV 1) (aC (dV 0) aN))) (dV 4)) (fz (cD x)::[fz (brd bd),fz (cD c),fz (iW w),fz (sg (lt bd c))])=aa (decide (lt bd x=lt bd c)):=by
   refine gN ?_;exact(aO ((aq rfl rfl).trans (jb hg Qh.1)) rfl).trans (Js _ _)
  rw[e,au];cases decide (lt bd x=lt bd c)<;>rfl
end K1
namespace K1
section
variable{α:Type}[DecidableEq α]
structure Bk (α:Type) where
 ks:List α
 ps:List (Option α)
 fu:List α
def eg(c:α)(s:Bk α)(x:α):Bk α:=if x∈s.ks then s else⟨s.ks++[x],s.ps++[some c],s.fu++[x]⟩
variable(nb:α->List α)
def lQ(s:Bk α)(c:α):Bk α:=(nb c).foldl (eg c) s
def cJ(s:Bk α)(P3:List α):Bk α:=P3.foldl (lQ nb) s
def Rb(a:α):Nat->α->Prop
 |0,x=>x=a
 |k+1,x=>Rb a k x\/∃y,Rb a k y/\x∈nb y
variable{nb}{a:α}
def Rb.mono(h:i<=j)(r:Rb nb a i x):Rb nb a j x:=by
 induction h with
 |refl=>exact r
 |step _ ih=>exact .inl ih
structure Grown (P:α->α->Prop) (s t:Bk α):Prop where
 ex:∃fs:List (α×α),t.ks=s.ks++fs.map (·.1)/\t.ps=s.ps++fs.map (λp=>some p.2)/\t.fu=s.fu++fs.map (·.1)/\(∀p∈fs,P p.2 p.1)
 nd:s.ks.Nodup->t.ks.Nodup
def Grown.refl(s:Bk α):Grown P s s:=⟨⟨[],by simp,by simp,by simp,λ_ h=>by cases h⟩,id⟩
def Grown.trans(h1:Grown P s t)(h2:Grown P t u):Grown P s u:=by
 obtain⟨fs,a1,a2,a3,a4⟩:=h1.ex;obtain⟨gs,b1,b2,b3,b4⟩:=h2.ex;refine⟨⟨fs++gs,by rw[b1,a1];simp,by rw[b2,a2];simp,by rw[b3,a3];simp,λp hp=>?_⟩,λh=>h2.nd (h1.nd h)⟩;rcases R0.mp hp with h | h
 ·exact a4 p h
 ·exact b4 p h
def tV(s:Bk α)(h:P c x):Grown P s (eg c s x):=by
 unfold eg;split
 ·exact Grown.refl s
 ·rename_i hx;refine⟨⟨[(x,c)],rfl,rfl,rfl,λp hp=>?_⟩,λhn=>?_⟩
  ·have:p=(x,c):=by simpa using hp
   subst this;exact h
  ·refine SY.mpr ⟨hn,by simp,λy hy z hz e=>?_⟩;have hz:z=x:=by simpa using hz
   rw[e,hz] at hy;exact hx hy
def yS(s:Bk α):y∈(eg c s x).ks↔y∈s.ks\/y=x:=by
 unfold eg;split
 ·rename_i hx;exact⟨.inl,λh=>h.elim id λe=>by rw[e];exact hx⟩
 ·simp
def foldStep:∀(l:List α) (s:Bk α),(∀x∈l,P c x)->Grown P s (l.foldl (eg c) s)/\∀y,y∈(l.foldl (eg c) s).ks↔y∈s.ks\/y∈l
 |[],s,_=>⟨Grown.refl s,λy=>by simp⟩
 |x::l,s,h=>by
  obtain⟨h1,h2⟩:=foldStep l (eg c s x) λy hy=>h y (QQ _ hy);refine⟨(tV s (h x (QR ..))).trans h1,λy=>?_⟩;rw[U1,h2 y,yS];simp[or_assoc]
def uf:∀(l:List α) (s:Bk α),(∀c∈l,∀x∈nb c,P c x)->Grown P s (cJ nb s l)/\∀y,y∈(cJ nb s l).ks↔y∈s.ks\/∃c∈l,y∈nb c
 |[],s,_=>⟨Grown.refl s,λy=>by simp[cJ]⟩
 |c::l,s,h=>by
  obtain⟨g1,m1⟩:=foldStep (nb c) s (h c (QR ..));obtain⟨g2,m2⟩:=uf l (lQ nb s c) λc' hc=>h c' (QQ _ hc);refine⟨g1.trans g2,λy=>?_⟩;show y∈(cJ nb (lQ nb s c) l).ks↔_;rw[m2 y];show (y∈((nb c).foldl (eg c) s).ks\/_)↔_;rw[m1 y];simp[or_assoc]
structure Rng (nb:α->List α) (a:α) (k:Nat) (ks:List α) (ps:List (Option α)) (P3:List α):Prop where
 len:ks.length=ps.length
 nd:ks.Nodup
 mem:∀x,x∈ks↔Rb nb a k x
 rg:∀x,x∈P3↔Rb nb a k x/\∀j,Rb nb a j x->k<=j
 par:∀x p,(x,some p)∈ks.zip ps->x∈nb p/\p∈ks/\∀j,Rb nb a j x->∃i,j=i+1/\Rb nb a i p
 non:∀x,(x,none)∈ks.zip ps->x=a
 sz:k<=ks.length/\(P3≠[]->k+1<=ks.length)
def Rng.zero(nb:α->List α)(a:α):Rng nb a 0 [a] [none] [a] where
 len:=rfl
 nd:=by simp
 mem:=λx=>by simp[Rb]
 rg:=λx=>by simp[Rb]
 par:=λx p h=>by simp at h
 non:=λx h=>by simpa using h
 sz:=⟨by simp,λ_=>by simp⟩
def Rng.next(h:Rng nb a k ks ps P3)(hr:P3≠[]):Rng nb a (k+1) (cJ nb ⟨ks,ps,[]⟩ P3).ks (cJ nb ⟨ks,ps,[]⟩ P3).ps (cJ nb ⟨ks,ps,[]⟩ P3).fu:=by
 obtain⟨g,m⟩:=uf (P:=λc x=>c∈P3/\x∈nb c) P3 ⟨ks,ps,[]⟩ λc hc x hx=>⟨hc,hx⟩
 obtain⟨fs,e1,e2,e3,e4⟩:=g.ex;have GY:=g.nd h.nd;have hm:∀x,x∈(cJ nb ⟨ks,ps,[]⟩ P3).ks↔Rb nb a (k+1) x:=λx=>by
  rw[m x];show (x∈ks\/_)↔(Rb nb a k x\/_);constructor
  ·rintro(q | ⟨c,hc,hx⟩)
   ·exact .inl ((h.mem x).mp q)
   ·exact .inr ⟨c,((h.rg c).mp hc).1,hx⟩
  ·rintro(q | ⟨y,hy,hx⟩)
   ·exact .inl ((h.mem x).mpr q)
   ·by_cases hk:∀j,Rb nb a j y->k<=j
    ·exact .inr ⟨y,(h.rg y).mpr ⟨hy,hk⟩,hx⟩
    ·refine .inl ((h.mem x).mpr ?_);obtain⟨j,hj⟩:=Wl.mp hk;obtain⟨Mv,PF⟩:=WK.mp hj;exact Rb.mono (i:=j+1) (by omega) (.inr ⟨y,Mv,hx⟩)
 have Ak:(cJ nb ⟨ks,ps,[]⟩ P3).ks=ks++fs.map (·.1):=e1;have IH:(cJ nb ⟨ks,ps,[]⟩ P3).ps=ps++fs.map (λp=>some p.2):=e2;have Lk:(cJ nb ⟨ks,ps,[]⟩ P3).fu=fs.map (·.1):=e3;have new:∀x,x∈fs.map (·.1)->¬Rb nb a k x:=λx hx hk=>by
  rw[Ak] at GY;exact(SY.mp GY).2.2 x ((h.mem x).mpr hk) x hx rfl
 have Kj:∀x,¬Rb nb a k x->∀j,Rb nb a j x->k+1<=j:=λx hx j hj=>by
  by_cases PH:k+1<=j
  ·exact PH
  ·exact XN (Rb.mono (by omega) hj) hx
 have Kb:(cJ nb ⟨ks,ps,[]⟩ P3).ks.zip (cJ nb ⟨ks,ps,[]⟩ P3).ps=ks.zip ps++fs.map λp=>(p.1,some p.2):=by
  rw[Ak,IH,List.zip_append h.len];congr 1;rw[List.zip_map']
 refine⟨?_,GY,hm,λx=>?_,λx p hp=>?_,λx hx=>?_,?_⟩
 ·rw[Ak,IH,Q2,Q2,QM,QM,h.len]
 ·rw[Lk];constructor
  ·intro hx;exact⟨(hm x).mp (by rw[Ak];exact RH _ hx),Kj x (new x hx)⟩
  ·rintro⟨h1,h2⟩;have h3:=(hm x).mpr h1;rw[Ak] at h3;rcases R0.mp h3 with q | q
   ·have:=h2 k ((h.mem x).mp q);omega
   ·exact q
 ·rw[Kb] at hp;rcases R0.mp hp with q | q
  ·obtain⟨q1,q2,q3⟩:=h.par x p q;exact⟨q1,by rw[Ak];exact Uk _ q2,q3⟩
  ·obtain⟨f,hf,e⟩:=QU.mp q;cases e;obtain⟨f1,f2⟩:=e4 f hf;have hc:=(h.rg f.2).mp f1;refine⟨f2,by rw[Ak];exact Uk _ ((h.mem _).mpr hc.1),λj hj=>?_⟩;have:=Kj f.1 (new f.1 (QU.mpr ⟨f,hf,rfl⟩)) j hj;exact⟨j - 1,by omega,Rb.mono (by omega) hc.1⟩
 ·rw[Kb] at hx;rcases R0.mp hx with q | q
  ·exact h.non x q
  ·obtain⟨f,hf,e⟩:=QU.mp q;cases e
 ·have hs:=h.sz.2 hr;rw[Ak,Q2,QM];refine⟨by omega,λjv=>?_⟩;have:fs≠[]:=λz=>jv (by rw[Lk,z];rfl);have:=List.length_pos_iff.mpr this;omega
def Rng.last(h:Rng nb a k ks ps []):∀x,x∈ks↔∃j,Rb nb a j x:=by
 have none:∀x,¬(Rb nb a k x/\∀j,Rb nb a j x->k<=j):=λx q=>by
  have:=(h.rg x).mpr q;cases this
 have hk:∀x,Rb nb a k x->∃i,i<k/\Rb nb a i x:=λx hx=>by
  by_cases q:∀j,Rb nb a j x->k<=j
  ·exact XN ⟨hx,q⟩ (none x)
  ·obtain⟨j,hj⟩:=Wl.mp q;obtain⟨Mv,PF⟩:=WK.mp hj;exact⟨j,by omega,Mv⟩
 have all:∀j x,Rb nb a j x->Rb nb a k x:=by
  intro j;induction j with
  |zero=>intro x hx;exact Rb.mono (Ry _) hx
  |succ j ih=>
   rintro x (q | ⟨y,hy,hx⟩)
   ·exact ih x q
   ·obtain⟨i,hi,hr⟩:=hk y (ih y hy);exact Rb.mono (i:=i+1) (by omega) (.inr ⟨y,hr,hx⟩)
 exact λx=>⟨λq=>⟨k,(h.mem x).mp q⟩,λ⟨j,hj⟩=>(h.mem x).mpr (all j x hj)⟩
def ej{l U:List α}(hn:l.Nodup)(h:∀x∈l,x∈U):l.length<=U.length:=by
 induction l generalizing U with
 |nil=>simp
 |cons a l ih=>
  rw[RZ] at hn;have hl:∀x∈l,x∈U.erase a:=λx hx=>by
   have jv:x≠a:=λz=>hn.1 (by rw[<-z];exact hx);exact(W4 jv).mpr (h x (QQ _ hx))
  have h1:=ih hn.2 hl;have h2:=UG (h a (QR ..));have h3:=T6 (h a (QR ..));rw[QV];omega
end
end K1
namespace K1
open PySem L2 L3
def keyOf(c:Cell):List Key:=[.inl (c.1:Int), .inl (c.2:Int)]
def iI(h:keyOf a=keyOf b):a=b:=by
 unfold keyOf at h;injection h with h1 h2
 injection h1 with h1
 injection h2 with h2 _
 injection h2 with h2
 exact U9 (Vb h1) (Vb h2)
def gr(c:Cell):i6 (cD c)=some (keyOf c):=rfl
def eR:∀{ks:List Cell}{ds:List D},c∉ks->er (ks.map keyOf) ds (keyOf c)=none
 |[],_,_=>by simp[er]
 |k::ks,[],_=>by simp[er]
 |k::ks,d::ds,h=>by
  rw[QX];unfold er;rw[XH (λz=>h (by rw[iI z];exact QR ..))];exact eR λz=>h (QQ _ z)
def lM:∀{ks:List Cell}{ds:List D},ks.length=ds.length->c∈ks->∃d,er (ks.map keyOf) ds (keyOf c)=some d/\(c,d)∈ks.zip ds
 |[],_,_,h=>by cases h
 |k::ks,[],hl,_=>by simp at hl
 |k::ks,d::ds,hl,h=>by
  rw[QX];unfold er;by_cases hk:k=c
  ·subst hk;rw[XG rfl];exact⟨d,rfl,by simp⟩
  ·rw[XH (λz=>hk (iI z))];have hc:c∈ks:=by
    rcases Q9.mp h with q | q
    ·exact XN q.symm hk
    ·exact q
   obtain⟨d',e1,e2⟩:=lM (by simpa using hl) hc;exact⟨d',e1,by simp[e2]⟩
def rV{ks:List Cell}(hl:ks.length=ds.length):jY neg (cD c) (.dct (ks.map keyOf) ds)=aa (.bl (if neg then !decide (c∈ks) else decide (c∈ks))):=by
 show (match (i6 (cD c)).map (er (ks.map keyOf) ds) with | some o=>aa (D.bl (if neg then !o.isSome else o.isSome)) | none=>af)=_;rw[gr];show aa (D.bl (if neg then !(er (ks.map keyOf) ds (keyOf c)).isSome else(er (ks.map keyOf) ds (keyOf c)).isSome))=_;by_cases h:c∈ks
 ·obtain⟨d,e,_⟩:=lM hl h;rw[e,XM h];rfl
 ·rw[eR h,XJ h];rfl
def u7(h:c∉ks)(hl:ds.length<lim):lA (.dct (ks.map keyOf) ds) (cD c) d=some (.dct ((ks++[c]).map keyOf) (ds++[d])):=by
 show (match i6 (cD c) with | some kk=>if ds.length<lim then some (C.dct (c0 (ks.map keyOf) ds kk) (cw (ks.map keyOf) ds kk d)) else none | none=>none)=_;rw[gr];show (if ds.length<lim then some (C.dct (c0 (ks.map keyOf) ds (keyOf c)) (cw (ks.map keyOf) ds (keyOf c) d)) else none)=_;rw[XG hl];unfold c0 cw;rw[eR h];simp
def Gm(h:τ (wc ρ)=aa b):Ja τ ρ=aa b:=by
 unfold Ja;rw[h];rfl
def Jo(h:δ (wc ρ)=aa d)(hf:xO d=true):Lj δ ρ=aa d:=by
 unfold Lj;rw[h];show nH d=_;unfold nH;rw[hf];rfl
def Dh(h1:c ρ=aa true)(h2:body ρ=aa (.nx ρ'))(h3:eB c body n ρ'=m):eB c body (n+1) ρ=m:=by
 show (c ρ>>=λb=>if b then body ρ>>=λo=>match o with | .nx ρ'=>eB c body n ρ' | .rt d=>aa (.rt d) else aa (.nx ρ))=_;rw[h1,au,XG rfl,h2];exact h3
def Dg(h1:c ρ=aa false):eB c body (n+1) ρ=aa (.nx ρ):=by
 show (c ρ>>=λb=>if b then body ρ>>=λo=>match o with | .nx ρ'=>eB c body n ρ' | .rt d=>aa (.rt d) else aa (.nx ρ))=_;rw[h1];rfl
def B2:Option Cell->D
 |none=> .non
 |some c=>cD c
abbrev FA(ks:List Cell)(ps:List (Option Cell)):C:= .dct (ks.map keyOf) (ps.map B2)
abbrev FC(ks:List Cell)(ps:List (Option Cell)):D:= .dct (ks.map keyOf) (ps.map B2)
abbrev sb(b s w:D)(ks:List Cell)(ps:List (Option Cell))(x4 x5 x6 x7:Option Sl):cp:=[fz b,fz s,fz w,some (.ow (FA ks ps)),x4,x5,x6,x7]
structure Bok (R W:Nat) (s:Bk Cell):Prop where
 len:s.ks.length=s.ps.length
 nd:s.ks.Nodup
 on:∀x∈s.ks,On R W x
 fu:s.fu.length<=s.ks.length
def Bok.le(h:Bok R W s):s.ks.length<=R*W:=by
 rw[<-bN R W];exact ej h.nd λx hx=>aM.mpr (h.on x hx)
def Bok.step(h:Bok R W s)(hx:On R W x):Bok R W (eg c s x):=by
 unfold eg;split
 ·exact h
 ·rename_i hn;refine⟨by simp[h.len],?_,λy hy=>?_,by simp;exact h.fu⟩
  ·refine SY.mpr ⟨h.nd,by simp,λy hy z hz e=>?_⟩;have hz:z=x:=by simpa using hz
   rw[e,hz] at hy;exact hn hy
  ·rcases R0.mp hy with q | q
   ·exact h.on y q
   ·have:y=x:=by simpa using q
    rw[this];exact hx
def Ff(hg:Brd bd W)(h:Bok bd.length W s):
 Im (sb (brd bd) (cD a) w s.ks s.ps r (some (.ow (.lst (s.fu.map cD)))) (fz (cD c)) (fz (cD x)))=aa (.nx (sb (brd bd) (cD a) w (eg c s x).ks (eg c s x).ps r (some (.ow (.lst ((eg c s x).fu.map cD)))) (fz (cD c)) none)):=by
 have hle:=h.le;have hm:bd.length*W<=64:=Vg hg.r8 hg.w8;have ht:Ja (dS (d2 (jY true) (dV 7) (dV 3))) (sb (brd bd) (cD a) w s.ks s.ps r (some (.ow (.lst (s.fu.map cD)))) (fz (cD c)) (fz (cD x)))=aa (!decide (x∈s.ks)):=
  Gm (gN ((aO rfl rfl).trans (rV (by rw[QM];exact h.len))))
 by_cases hx:x∈s.ks
 ·rw[XM hx] at ht;have e:eg c s x=s:=XG hx;rw[e];exact(bI (dU ht rfl)).trans rfl
 ·rw[XJ hx] at ht;have e:eg c s x=⟨s.ks++[x],s.ps++[some c],s.fu++[x]⟩:=XH hx;rw[e];refine(bI (ρ':=sb (brd bd) (cD a) w (s.ks++[x]) (s.ps++[some c]) r (some (.ow (.lst ((s.fu++[x]).map cD)))) (fz (cD c)) (fz (cD x))) (jg ht (ao (ρ':=sb (brd bd) (cD a) w (s.ks++[x]) (s.ps++[some c]) r (some (.ow (.lst (s.fu.map cD)))) (fz (cD c)) (fz (cD x))) ?_ ?_))).trans rfl
  ·show (match lA (FA s.ks s.ps) (cD x) (cD c) with | some c'=>aa (Out.nx (List.set (sb (brd bd) (cD a) w s.ks s.ps r (some (.ow (.lst (s.fu.map cD)))) (fz (cD c)) (fz (cD x))) 3 (some (.ow c')))) | none=>af)=_;rw[u7 hx (by rw[QM,<-h.len,cI];omega)];rw[show s.ps.map B2++[cD c]=(s.ps++[some c]).map B2 by simp[B2]];rfl
  ·show (if (s.fu.map cD).length<lim then aa (Out.nx (sb (brd bd) (cD a) w (s.ks++[x]) (s.ps++[some c]) r (some (.ow (.lst (s.fu.map cD++[cD x])))) (fz (cD c)) (fz (cD x)))) else af)=_;have:=h.fu;rw[XG (by rw[QM,cI];omega)];rw[show s.fu.map cD++[cD x]=(s.fu++[x]).map cD by simp]
def K4:DS:=dF [6,7] (ez (putN 7) (bV (aw 3 cx (aC (dV 0) (aC (dV 6) (aC (dV 2) aN))))) Im)
def yH(hg:Brd bd W)(hw:Ways w)(hc:On bd.length W c)(h:Bok bd.length W s):
 Bok bd.length W (lQ (bq bd W w) s c)/\K4 (sb (brd bd) (cD a) (iW w) s.ks s.ps r (some (.ow (.lst (s.fu.map cD)))) (fz (cD c)) none)=
  aa (.nx (sb (brd bd) (cD a) (iW w) (lQ (bq bd W w) s c).ks (lQ (bq bd W w) s c).ps r (some (.ow (.lst ((lQ (bq bd W w) s c).fu.map cD)))) none none)):=by
 obtain⟨h1,e⟩:=iE (put:=putN 7) cD (λs:Bk Cell=>sb (brd bd) (cD a) (iW w) s.ks s.ps r (some (.ow (.lst (s.fu.map cD)))) (fz (cD c)) none) (eg c) (Bok bd.length W) (bq bd W w c) s h λs hs x hx=>
  ⟨hs.step ((eQ hw).mp hx).1,_,rfl,Ff hg hs⟩
 refine⟨h1,(bI (gj ?_ e)).trans rfl⟩;show (aw 3 cx (aC (dV 0) (aC (dV 6) (aC (dV 2) aN))) (sb (brd bd) (cD a) (iW w) s.ks s.ps r (some (.ow (.lst (s.fu.map cD)))) (fz (cD c)) none)>>=lstM)=_;have e2:aw 3 cx (aC (dV 0) (aC (dV 6) (aC (dV 2) aN))) (sb (brd bd) (cD a) (iW w) s.ks s.ps r (some (.ow (.lst (s.fu.map cD)))) (fz (cD c)) none)=aa (.lst ((bq bd W w c).map cD)):=n9 hg hw hc;rw[e2];rfl
def K3:DS:=dF [5,6,7] (aI (zV 5) (aI (ez (putN 6) (bV (dV 4)) K4) (CK 5 (bL 4 (dV 5)))))
def Fe(hg:Brd bd W)(hw:Ways w)(hr:∀c∈P3,On bd.length W c)(h:Bok bd.length W s)(hf:s.fu=[]):
 Bok bd.length W (cJ (bq bd W w) s P3)/\K3 (sb (brd bd) (cD a) (iW w) s.ks s.ps (fz (.lst (P3.map cD))) none none none)=
  aa (.nx (sb (brd bd) (cD a) (iW w) (cJ (bq bd W w) s P3).ks (cJ (bq bd W w) s P3).ps (fz (.lst ((cJ (bq bd W w) s P3).fu.map cD))) none none none)):=by
 obtain⟨h1,e⟩:=iE (put:=putN 6) cD (λs:Bk Cell=>sb (brd bd) (cD a) (iW w) s.ks s.ps (fz (.lst (P3.map cD))) (some (.ow (.lst (s.fu.map cD)))) none none) (lQ (bq bd W w)) (Bok bd.length W) P3 s h λs hs c hc=>
  ⟨(yH (a:=a) (r:=fz (.lst (P3.map cD))) hg hw (hr c hc) hs).1,_,rfl,(yH hg hw (hr c hc) hs).2⟩
 refine⟨h1,(bI (ρ':=sb (brd bd) (cD a) (iW w) (cJ (bq bd W w) s P3).ks (cJ (bq bd W w) s P3).ps (fz (.lst ((cJ (bq bd W w) s P3).fu.map cD))) (fz (.lst ((cJ (bq bd W w) s P3).fu.map cD))) none none) ?_).trans rfl⟩;refine ao rfl (ao (ρ':=sb (brd bd) (cD a) (iW w) (cJ (bq bd W w) s P3).ks (cJ (bq bd W w) s P3).ps (fz (.lst (P3.map cD))) (some (.ow (.lst ((cJ (bq bd W w) s P3).fu.map cD)))) none none) ?_ rfl);rw[hf] at e;exact gj rfl e
def vi(hg:Brd bd W)(hw:Ways w)(ha:On bd.length W a):∀(fuel k:Nat) (ks:List Cell) (ps:List (Option Cell)) (P3:List Cell),bd.length*W+2<=fuel+k->Rng (bq bd W w) a k ks ps P3->(∀x∈ks,On bd.length W x)->
 ∃k' ks' LL,Rng (bq bd W w) a k' ks' LL []/\(∀x∈ks',On bd.length W x)/\eB (dJ (dV 4)) K3 fuel (sb (brd bd) (cD a) (iW w) ks ps (fz (.lst (P3.map cD))) none none none)=aa (.nx (sb (brd bd) (cD a) (iW w) ks' LL (fz (.lst [])) none none none))
 |0,k,ks,ps,P3,hf,hR,ja=>by
  have h1:ks.length<=bd.length*W:=by
   rw[<-bN bd.length W];exact ej hR.nd λx hx=>aM.mpr (ja x hx)
  have:=hR.sz.1;omega
 |fuel+1,k,ks,ps,[],hf,hR,ja=>⟨k,ks,ps,hR,ja,Dg rfl⟩
 |fuel+1,k,ks,ps,c::P3,hf,hR,ja=>by
  have jv:c::P3≠[]:=by simp
  have hN:=hR.next jv;have MD:∀x∈c::P3,On bd.length W x:=λx hx=>ja x ((hR.mem x).mpr ((hR.rg x).mp hx).1);obtain⟨hb,e⟩:=Fe hg hw MD (s:=⟨ks,ps,[]⟩) ⟨hR.len,hR.nd,ja,Ry _⟩ rfl;obtain⟨k',ks',LL,q1,q2,q3⟩:=vi hg hw ha fuel (k+1) _ _ _ (by omega) hN hb.on;exact⟨k',ks',LL,q1,q2,Dh rfl e q3⟩
def pb(hg:Brd bd W)(hw:Ways w)(ha:On bd.length W a):
 ∃k ks ps,Rng (bq bd W w) a k ks ps []/\(∀x∈ks,On bd.length W x)/\cU [brd bd,cD a,iW w]=aa (FC ks ps):=by
 have hm:bd.length*W<=64:=Vg hg.r8 hg.w8;obtain⟨k,ks,ps,h1,h2,h3⟩:=vi hg hw ha lim 0 [a] [none] [a] (by rw[cI];omega) (Rng.zero _ _) (λx hx=>(show x=a by simpa using hx)▸ha);refine⟨k,ks,ps,h1,h2,a7 (ao rfl (ao rfl (ao (eI h3) rfl)))⟩
def Aq[DecidableEq α](n:Nat)(XW:α->D):Prop:=∀k x y,nG (n+k) (XW x) (XW y)=some (decide (x=y))
def rN(n:Nat)(i j:Int):nG n (.int i) (.int j)=some (i==j):=by cases n<;>rfl
def xM[DecidableEq α](h:∀x y,f (XW x) (XW y)=some (decide (x=y))):∀(xs ys:List α),pH f (xs.map XW) (ys.map XW)=some (decide (xs=ys))
 |[],[]=>rfl
 |[],_::_=>by simp[pH]
 |_::_,[]=>by simp[pH]
 |x::xs,y::ys=>by
  rw[QX,QX];show (match f (XW x) (XW y),pH f (xs.map XW) (ys.map XW) with | some b,some r=>some (b&&r) | _,_=>none)=_;rw[h,xM h xs ys];show some (decide (x=y)&&decide (xs=ys))=_;congr 1;by_cases h1:x=y<;>by_cases h2:xs=ys<;>simp[h1,h2]
def DO[DecidableEq α](h:Aq n XW):Aq (n+1) (λl:List α=> .lst (l.map XW)):=λk x y=>by
 rw[show n+1+k=(n+k)+1 by omega];exact xM (h k) x y
abbrev cL(l:List Cell):D:= .lst (l.map cD)
def ic(c:Cell):List Int:=[(c.1:Int),(c.2:Int)]
def AF(a b:Cell):Bool:=if a.1=b.1 then decide (a.2<b.2) else decide (a.1<b.1)
def D6(k:Cell):List Cell->List Cell
 |[]=>[k]
 |x::r=>if AF k x then k::x::r else x::D6 k r
def jj:List Cell->List Cell
 |[]=>[]
 |k::r=>D6 k (jj r)
def wA(a b:Cell):cy (ic a) (ic b)=AF a b:=by
 show (if (a.1:Int)=(b.1:Int) then(if (a.2:Int)=(b.2:Int) then false else decide ((a.2:Int)<(b.2:Int))) else decide ((a.1:Int)<(b.1:Int)))=_;unfold AF;by_cases h:a.1=b.1
 ·rw[XG h,XG (by omega)];by_cases h2:a.2=b.2
  ·rw[XG (by omega),h2];simp
  ·rw[XH (by omega)];by_cases h3:a.2<b.2
   ·rw[XM h3,XM (by omega)]
   ·rw[XJ h3,XJ (by omega)]
 ·rw[XH h,XH (by omega)];by_cases h3:a.1<b.1
  ·rw[XM h3,XM (by omega)]
  ·rw[XJ h3,XJ (by omega)]
def Bj(k:Cell):∀l:List Cell,insI (ic k) (l.map ic)=(D6 k l).map ic
 |[]=>rfl
 |x::r=>by
  rw[QX];unfold insI D6;rw[wA];cases AF k x with
  |true=>rfl
  |false=>rw[XH (by decide),XH (by decide),QX,Bj k r]
def m9:∀l:List Cell,sortI (l.map ic)=(jj l).map ic
 |[]=>rfl
 |k::r=>by
  rw[QX];unfold sortI jj;rw[m9 r,Bj]
def nS(h:ic a=ic b):a=b:=by
 unfold ic at h;injection h with h1 h2
 injection h2 with h2 _
 exact U9 (Vb h1) (Vb h2)
def f9:x∈jj l↔x∈l:=by
 have h:=d7 (x:=ic x) (l:=l.map ic);rw[m9] at h;constructor
 ·intro hx;obtain⟨y,hy,e⟩:=QU.mp (h.mp (QU.mpr ⟨x,hx,rfl⟩));rw[<-nS e];exact hy
 ·intro hx;obtain⟨y,hy,e⟩:=QU.mp (h.mpr (QU.mpr ⟨x,hx,rfl⟩));rw[<-nS e];exact hy
def RiseC(l:List Cell):Prop:=l.Pairwise λa b=>AF a b=true
def m8:tQ (l.map ic)↔RiseC l:=by
 unfold tQ RiseC;rw[Sq];constructor<;>intro h<;>refine Sv ?_ h<;>intro a b q
 ·rw[<-wA];exact q
 ·rw[wA];exact q
def uJ{l:List Cell}(h:l.Nodup):(l.map ic).Nodup:=by
 unfold RE at h⊢;rw[Sq];exact Sv (λh z=>h (nS z)) h
def jG{l:List Cell}(h:l.Nodup):RiseC (jj l):=by
 have:=gM (uJ h);rw[m9] at this;exact m8.mp this
def qZ(ha:RiseC a)(hb:RiseC b)(h:∀x,x∈a↔x∈b):a=b:=by
 have e:=kA (m8.mpr ha) (m8.mpr hb) λx=>by
  constructor
  ·intro hx;obtain⟨y,hy,rfl⟩:=QU.mp hx;exact QU.mpr ⟨y,(h y).mp hy,rfl⟩
  ·intro hx;obtain⟨y,hy,rfl⟩:=QU.mp hx;exact QU.mpr ⟨y,(h y).mpr hy,rfl⟩
 have inj:∀(a b:List Cell),a.map ic=b.map ic->a=b:=by
  intro a;induction a with
  |nil=>intro b h;cases b with
   |nil=>rfl
   |cons=>simp at h
  |cons x a ih=>intro b h;cases b with
   |nil=>simp at h
   |cons y b=>
    rw[QX,QX] at h;injection h with h1 h2
    rw[nS h1,ih b h2]
 exact inj a b e
def RiseC.nodup(h:RiseC l):l.Nodup:=by
 refine Sv ?_ h;intro a b q z;subst z;unfold AF at q;rw[XG rfl] at q;have:=XO q;omega
def iH:∀ks:List Cell,dZ (ks.map keyOf)=some (ks.map ic)
 |[]=>rfl
 |k::r=>by
  show (match qt (keyOf k),dZ (r.map keyOf) with | some x,some xs=>some (x::xs) | _,_=>none)=_;rw[iH r];rfl
def Ks{ks:List Cell}(h:ks.Nodup)(hl:ks.length<64):eu (ks.map ic)=true:=by
 unfold eu;rw[QM,XM (uJ h),XM hl];simp;intro a b _ z;cases z
def CU(h:ks.Nodup)(hl:ks.length<64):vw [.dct (ks.map keyOf) ds]=aa (cL (jj ks)):=by
 show (match dZ (ks.map keyOf) with | some ks=>if eu ks&&ks.all (λk=>decide (k.length<=lim)) then aa (D.lst ((sortI ks).map tupI)) else af | none=>af)=_;rw[iH];show (if eu (ks.map ic)&&(ks.map ic).all (λk=>decide (k.length<=lim)) then aa (D.lst ((sortI (ks.map ic)).map tupI)) else af)=_;rw[Ks h hl];have:(ks.map ic).all (λk=>decide (k.length<=lim))=true:=by
  simp;intro a b _;show 2<=lim
  decide
 rw[this,Bool.and_true,XG rfl,m9,Rj];rfl
def Cn(bd:List Str)(W w:Nat)(a b:Cell):Prop:=∃j,Rb (bq bd W w) a j b
def Cn.refl:Cn bd W w a a:=⟨0,rfl⟩
def wB(hw:Ways w)(ha:On bd.length W a)(h:b∈bq bd W w a):a∈bq bd W w b:=by
 obtain⟨h1,h2,h3⟩:=(eQ hw).mp h;exact(eQ hw).mpr ⟨ha,by rw[oC];exact h2,h3.symm⟩
def yC(hw:Ways w)(ha:On bd.length W a):∀{j:Nat},Rb (bq bd W w) a j b->On bd.length W b
 |0,h=>by rw[show b=a from h];exact ha
 |j+1, .inl h=>yC hw ha h
 |j+1, .inr ⟨y,_,hy⟩=>((eQ hw).mp hy).1
def oY(h:c∈bq bd W w a):∀{j:Nat},Rb (bq bd W w) c j b->Rb (bq bd W w) a (j+1) b
 |0,q=> .inr ⟨a,rfl,by rw[show b=c from q];exact h⟩
 |j+1, .inl q=> .inl (oY h q)
 |j+1, .inr ⟨y,q,hy⟩=> .inr ⟨y,oY h q,hy⟩
def sL(hw:Ways w)(ha:On bd.length W a):∀{j:Nat},Rb (bq bd W w) a j b->Rb (bq bd W w) b j a
 |0,h=>show a=b from(show b=a from h).symm
 |j+1, .inl h=> .inl (sL hw ha h)
 |j+1, .inr ⟨y,q,hy⟩=>oY (wB hw (yC hw ha q) hy) (sL hw ha q)
def oZ(h:Rb (bq bd W w) a i b):∀{j:Nat},Rb (bq bd W w) b j c->Rb (bq bd W w) a (i+j) c
 |0,q=>by rw[show c=b from q];exact h
 |j+1, .inl q=> .inl (oZ h q)
 |j+1, .inr ⟨y,q,hy⟩=> .inr ⟨y,oZ h q,hy⟩
section
variable{bd:List Str}{W w:Nat}{a b c:Cell}
def Cn.on(hw:Ways w)(ha:On bd.length W a)(h:Cn bd W w a b):On bd.length W b:=let ⟨_,q⟩:=h;yC hw ha q
def Cn.symm(hw:Ways w)(ha:On bd.length W a)(h:Cn bd W w a b):Cn bd W w b a:=let ⟨j,q⟩:=h;⟨j,sL hw ha q⟩
def Cn.trans(h:Cn bd W w a b)(h2:Cn bd W w b c):Cn bd W w a c:=let ⟨i,q⟩:=h;let ⟨j,r⟩:=h2;⟨i+j,oZ q r⟩
end
structure IsPatch (bd:List Str) (W w:Nat) (a:Cell) (P:List Cell):Prop where
 rise:RiseC P
 mem:∀x,x∈P↔Cn bd W w a x
def IsPatch.one(h:IsPatch bd W w a P)(h2:IsPatch bd W w a Q):P=Q:=qZ h.rise h2.rise λx=>(h.mem x).trans (h2.mem x).symm
def rq{bd:List Str}{ks:List Cell}(hn:ks.Nodup)(ja:∀x∈ks,On bd.length W x):ks.length<=bd.length*W:=by
 rw[<-bN bd.length W];exact ej hn λx hx=>aM.mpr (ja x hx)
def L5(w:Nat):List Cell->Bool
 |a::b::r=>gb w a b&&L5 w (b::r)
 |_=>true
abbrev wr(bd w a b k t:D):cp:=[fz bd,fz w,fz a,fz b,fz k,fz t]
def bB(XW:α->D)(g:α->D):∀(xs:List α),(∀x∈xs,f (XW x)=aa (some (g x)))->c_ f (xs.map XW)=aa (xs.map g)
 |[],_=>rfl
 |x::xs,h=>by
  rw[QX,dX,h x (QR ..),au,bB XW g xs λy hy=>h y (QQ _ hy)];rfl
def MW(h:ρ[i]? =some (fz (.lst ds))):bV (dV i) ρ=aa ds:=by
 unfold bV;rw[cO h];rfl
def bS(ks:List Cell)(c:Cell):List Cell:=if c∈ks then ks else ks++[c]
def bM(l:List Cell):List Cell:=l.foldl bS []
def aU(ks:List Cell):List D:=ks.map λ_=> .bl true
def dG:x∈bS ks c↔x∈ks\/x=c:=by
 unfold bS;split
 ·rename_i h;exact⟨.inl,λq=>q.elim id λe=>by rw[e];exact h⟩
 ·simp
def jW:∀(l ks:List Cell),(ks.Nodup->(l.foldl bS ks).Nodup)/\(∀x,x∈l.foldl bS ks↔x∈ks\/x∈l)/\(l.foldl bS ks).length<=ks.length+l.length
 |[],ks=>⟨id,λx=>by simp,by simp⟩
 |c::l,ks=>by
  obtain⟨h1,h2,h3⟩:=jW l (bS ks c);refine⟨λhn=>h1 ?_,λx=>?_,?_⟩
  ·unfold bS;split
   ·exact hn
   ·rename_i hc;refine SY.mpr ⟨hn,by simp,λy hy z hz e=>?_⟩;have hz:z=c:=by simpa using hz
    rw[e,hz] at hy;exact hc hy
  ·rw[U1,h2 x,dG];simp[or_assoc]
  ·rw[U1,QV];have:(bS ks c).length<=ks.length+1:=by unfold bS;split<;>simp
   omega
def iM:x∈bM l↔x∈l:=by
 unfold bM;rw[(jW l []).2.1 x];simp
def BJ(l:List Cell):(bM l).Nodup:=(jW l []).1 Ua
def zy(l:List Cell):(bM l).length<=l.length:=by have:=(jW l []).2.2;simpa[bM] using this
def qY:∀{ks:List (List Key)}{l:List Cell},ks.length=l.length->lG ks (aU l) k (.bl true)=aU l
 |[],[],_=>rfl
 |k'::ks,c::l,h=>by
  show (if k'=k then D.bl true else D.bl true)::lG ks (aU l) k (.bl true)=_;rw[qY (by simpa using h)];split<;>rfl
 |[],_::_,h=>by simp at h
 |_::_,[],h=>by simp at h
def Cs(hl:ks.length<lim):lA (.dct (ks.map keyOf) (aU ks)) (cD c) (.bl true)=some (.dct ((bS ks c).map keyOf) (aU (bS ks c))):=by
 have v6:(aU ks).length=ks.length:=by simp[aU]
 unfold bS;by_cases h:c∈ks
 ·rw[XG h];show (match i6 (cD c) with | some kk=>if (aU ks).length<lim then some (C.dct (c0 (ks.map keyOf) (aU ks) kk) (cw (ks.map keyOf) (aU ks) kk (.bl true))) else none | none=>none)=_;rw[gr];show (if (aU ks).length<lim then some (C.dct (c0 (ks.map keyOf) (aU ks) (keyOf c)) (cw (ks.map keyOf) (aU ks) (keyOf c) (.bl true))) else none)=_;rw[XG (by rw[v6];exact hl)];obtain⟨d,e,_⟩:=lM v6.symm h;unfold c0 cw;rw[e];show some (C.dct (ks.map keyOf) (lG (ks.map keyOf) (aU ks) (keyOf c) (.bl true)))=_;rw[qY (by simp)]
 ·rw[XH h,u7 h (by rw[v6];exact hl)];simp[aU]
abbrev g6(l:List Cell):D:= .dct ((bM l).map keyOf) (aU (bM l))
def qB(hl:l.length<4000):iC [cL l]=aa (g6 l):=by
 have e:∀(xs ks:List Cell),ks.length+xs.length<4000->forL (putN 2) (dF [2] (jh 1 (dV 2) (dC (.bl true)))) (xs.map cD) [fz (cL l),some (.ow (.dct (ks.map keyOf) (aU ks))),none]=aa (.nx [fz (cL l),some (.ow (.dct ((xs.foldl bS ks).map keyOf) (aU (xs.foldl bS ks)))),none]):=by
  intro xs;induction xs with
  |nil=>intro ks _;rfl
  |cons x xs ih=>
   intro ks hk;rw[QV] at hk;have hle:(bS ks x).length<=ks.length+1:=by unfold bS;split<;>simp
   refine(dB rfl ?_).trans (ih (bS ks x) (by omega));refine(bI (ρ':=[fz (cL l),some (.ow (.dct ((bS ks x).map keyOf) (aU (bS ks x)))),fz (cD x)]) ?_).trans rfl;show (match lA (.dct (ks.map keyOf) (aU ks)) (cD x) (.bl true) with | some c'=>aa (Out.nx [fz (cL l),some (.ow c'),fz (cD x)]) | none=>af)=_;rw[Cs (by rw[cI];omega)]
 refine a7 (ao rfl (ao (eI (gj rfl (e l [] (by simpa using hl)))) rfl))
def wz(l:List Cell):bw [cL l]=aa (.int (l.length:Int)):=by
 show aa (D.int ((l.map cD).length:Int))=_;rw[QM]
def DM(ks:List Cell)(f:Cell->D):C:= .dct (ks.map keyOf) (ks.map f)
def AL(ks:List Cell)(f:Cell->D):D:= .dct (ks.map keyOf) (ks.map f)
def eO(f:Cell->D)(x:Cell)(d:D):Cell->D:=λy=>if y=x then d else f y
def kI:∀{ks:List Cell},x∈ks->er (ks.map keyOf) (ks.map f) (keyOf x)=some (f x)
 |y::ks,h=>by
  show (if keyOf y=keyOf x then some (f y) else er (ks.map keyOf) (ks.map f) (keyOf x))=_;by_cases e:y=x
  ·subst e;rw[XG rfl]
  ·rw[XH (λz=>e (iI z))];rcases Q9.mp h with q | q
   ·exact XN q.symm e
   ·exact kI q
def Bt(h:x∈ks):nJ (AL ks f) (cD x)=aa (f x):=by
 show (match ((i6 (cD x)).map λk=>er (ks.map keyOf) (ks.map f) k) with | some (some v)=>aa v | _=>af)=_;rw[gr];show (match some (er (ks.map keyOf) (ks.map f) (keyOf x)) with | some (some v)=>aa v | _=>af)=_;rw[kI h]
def DQ(h:x∈ks):getM (AL ks f) (cD x) v=aa (f x):=by
 show (match ((i6 (cD x)).map λk=>er (ks.map keyOf) (ks.map f) k) with | some (some x)=>aa x | some none=>aa v | none=>af)=_;rw[gr];show (match some (er (ks.map keyOf) (ks.map f) (keyOf x)) with | some (some x)=>aa x | some none=>aa v | none=>af)=_;rw[kI h]
def A4(h:x∉ks):getM (AL ks f) (cD x) v=aa v:=by
 show (match ((i6 (cD x)).map λk=>er (ks.map keyOf) (ks.map f) k) with | some (some x)=>aa x | some none=>aa v | none=>af)=_;rw[gr];show (match some (er (ks.map keyOf) (ks.map f) (keyOf x)) with | some (some x)=>aa x | some none=>aa v | none=>af)=_;rw[eR h]
def sO:∀{ks:List Cell},lG (ks.map keyOf) (ks.map f) (keyOf x) d=ks.map (eO f x d)
 |[]=>rfl
 |y::ks=>by
  show (if keyOf y=keyOf x then d else f y)::lG (ks.map keyOf) (ks.map f) (keyOf x) d=_;rw[sO,QX];congr 1;unfold eO;by_cases e:y=x
  ·subst e;rw[XG rfl,XG rfl]
  ·rw[XH (λz=>e (iI z)),XH e]
def E9(hl:ks.length<lim):lA (DM ks f) (cD x) d=some (DM (bS ks x) (eO f x d)):=by
 show (match i6 (cD x) with | some kk=>if (ks.map f).length<lim then some (C.dct (c0 (ks.map keyOf) (ks.map f) kk) (cw (ks.map keyOf) (ks.map f) kk d)) else none | none=>none)=_;rw[gr];show (if (ks.map f).length<lim then some (C.dct (c0 (ks.map keyOf) (ks.map f) (keyOf x)) (cw (ks.map keyOf) (ks.map f) (keyOf x) d)) else none)=_;rw[XG (by rw[QM];exact hl)];unfold DM bS c0 cw;by_cases h:x∈ks
 ·rw[kI h,XG h];show some (C.dct (ks.map keyOf) (lG (ks.map keyOf) (ks.map f) (keyOf x) d))=_;rw[sO]
 ·rw[eR h,XH h];show some (C.dct (ks.map keyOf++[keyOf x]) (ks.map f++[d]))=_;have e1:ks.map f=ks.map (eO f x d):=RM λy hy=>by
   unfold eO;rw[XH (λz:y=x=>h (z▸hy))]
  have e2:(ks++[x]).map (eO f x d)=ks.map (eO f x d)++[d]:=by
   rw[S0];congr 1;show [eO f x d x]=[d]
   unfold eO;rw[XG rfl]
  rw[S0,e1,e2];rfl
def yy(h0:ρ[i]? =some (some (.ow (DM ks f))))(hv:δv ρ=aa d)(hk:δk ρ=aa (cD x))(hl:ks.length<lim):
 jh i δk δv ρ=aa (.nx (ρ.set i (some (.ow (DM (bS ks x) (eO f x d)))))):=by
 unfold jh wU;rw[h0];show (δv ρ>>=λv=>δk ρ>>=λk=>match lA (DM ks f) k v with | some c'=>aa (Out.nx (ρ.set i (some (.ow c')))) | none=>af)=_;rw[hv,au,hk,au,E9 hl]
def rank(W:Nat)(x:Cell):Nat:=x.1*W+x.2
def gV(ha:On R W a)(hb:On R W b):AF a b=true↔rank W a<rank W b:=by
 unfold AF rank;have h1:=ha.2;have h2:=hb.2;by_cases h:a.1=b.1
 ·rw[XG h,XI,h];omega
 ·rw[XH h,XI];constructor
  ·intro q;have:(a.1+1)*W<=b.1*W:=Xb _ q;rw[Nat.add_mul,Nat.one_mul] at this;omega
  ·intro q;refine Classical.byContradiction λz=>?_;have:(b.1+1)*W<=a.1*W:=Xb _ (by omega);rw[Nat.add_mul,Nat.one_mul] at this;omega
def u_(ha:On R W a)(hb:On R W b)(h:rank W a=rank W b):a=b:=by
 have n1:¬AF a b=true:=λz=>by have:=(gV ha hb).mp z;omega
 have n2:¬AF b a=true:=λz=>by have:=(gV hb ha).mp z;omega
 unfold AF at n1 n2;obtain⟨a1,a2⟩:=a;obtain⟨b1,b2⟩:=b;simp only at n1 n2;by_cases h1:a1=b1
 ·rw[XG h1,XI] at n1;rw[XG h1.symm,XI] at n2;rw[Prod.mk.injEq];exact⟨h1,by omega⟩
 ·rw[XH h1,XI] at n1;rw[XH (R3 h1),XI] at n2;omega
section
variable{W:Nat}
def mu(R W:Nat)(L:Cell->Cell):Nat:=((aZ R W).map λx=>rank W (L x)).sum
end
def Kh(h:δ ρ=aa (cL l)):bV δ ρ=aa (l.map cD):=by
 show (δ ρ>>=lstM)=_;rw[h];rfl
def dw(R W:Nat):RiseC (aZ R W):=by
 unfold RiseC aZ fG;rw[UY];constructor
 ·intro r _;rw[Sq];exact List.pairwise_lt_range.imp λh=>by show (if _ then _ else _)=true;rw[XG rfl,XI];exact h
 ·refine List.pairwise_lt_range.imp λ{a b} h x hx y hy=>?_;obtain⟨i,_,rfl⟩:=QU.mp hx;obtain⟨j,_,rfl⟩:=QU.mp hy;show (if a=b then _ else decide (a<b))=true;rw[XH (by omega),XI];exact h
section
variable{bd:List Str}{W w:Nat}
def n5(f:α->List β)(h:∀a,(f a).length<=n):∀l:List α,(l.flatMap f).length<=n*l.length
 |[]=>Ry _
 |a::l=>by
  rw[S2,Q2,QV,Nat.mul_add,Nat.mul_one];have:=h a;have:=n5 f h l;omega
def Least(bd:List Str)(W w:Nat)(x m:Cell):Prop:=Cn bd W w x m/\∀z,Cn bd W w x z->rank W m<=rank W z
end
def JF:((aZ 8 8).map λc=>fm (ic c)).Nodup:=by decide+kernel
def qJ:∀{l:List α},(l.map f).Nodup->∀a∈l,∀b∈l,f a=f b->a=b
 |x::l,h,a,ha,b,hb,e=>by
  rw[QX,RZ] at h;by_cases h1:a=x
  ·by_cases h2:b=x
   ·rw[h1,h2]
   ·have hb:b∈l:=(Q9.mp hb).resolve_left h2;exact XN (QU.mpr ⟨b,hb,by rw[<-h1];exact e.symm⟩) h.1
  ·have ha:a∈l:=(Q9.mp ha).resolve_left h1;by_cases h2:b=x
   ·exact XN (QU.mpr ⟨a,ha,by rw[<-h2];exact e⟩) h.1
   ·exact qJ h.2 a ha b ((Q9.mp hb).resolve_left h2) e
def DR(hR:R<=8)(hW:W<=8){l:List Cell}(hn:l.Nodup)(ja:∀x∈l,On R W x):(l.map λc=>fm (ic c)).Nodup:=by
 have h8:∀x∈l,x∈aZ 8 8:=λx hx=>aM.mpr ⟨by have:=(ja x hx).1;omega,by have:=(ja x hx).2;omega⟩;rw[RE,Sq];refine List.Pairwise.imp_of_mem (λ{a b} ha hb h z=>h ?_) hn;exact qJ JF a (h8 a ha) b (h8 b hb) z
def Ie{ks:List Cell}{f:Cell->D}{x:Cell}{d:D}:c0 (ks.map keyOf) (ks.map f) (keyOf x)=(bS ks x).map keyOf/\cw (ks.map keyOf) (ks.map f) (keyOf x) d=(bS ks x).map (eO f x d):=by
 unfold bS c0 cw;by_cases h:x∈ks
 ·rw[kI h,XG h];exact⟨rfl,sO⟩
 ·rw[eR h,XH h];have e1:ks.map f=ks.map (eO f x d):=RM λy hy=>by
   unfold eO;rw[XH (λz:y=x=>h (z▸hy))]
  have e2:(ks++[x]).map (eO f x d)=ks.map (eO f x d)++[d]:=by
   rw[S0];congr 1;show [eO f x d x]=[d]
   unfold eO;rw[XG rfl]
  exact⟨by rw[S0];rfl,by rw[e2,<-e1];rfl⟩
def oj:∀(l ks:List Cell),cz (ks.map keyOf) (aU ks) (l.map keyOf) (aU l)=((l.foldl bS ks).map keyOf,aU (l.foldl bS ks))
 |[],ks=>rfl
 |x::l,ks=>by
  show cz (c0 (ks.map keyOf) (aU ks) (keyOf x)) (cw (ks.map keyOf) (aU ks) (keyOf x) (.bl true)) (l.map keyOf) (aU l)=_;have h:=Ie (ks:=ks) (f:=λ_=>D.bl true) (x:=x) (d:= .bl true);have e:eO (λ_=>D.bl true) x (.bl true)=λ_=>D.bl true:=by
   funext y;unfold eO;split<;>rfl
  rw[e] at h;rw[show aU ks=ks.map (λ_=>D.bl true) from rfl,h.1,h.2];exact oj l (bS ks x)
def AW{l ks:List Cell}(h:ks.Nodup):(l.foldl bS ks).Nodup:=(jW l ks).1 h
section
open Classical
variable{bd:List Str}{W w:Nat}
noncomputable def aF(bd:List Str)(W w:Nat)(m:Cell):List Cell:=(aZ bd.length W).filter λx=>decide (Cn bd W w m x)
noncomputable def cC(bd:List Str)(W w:Nat)(l:List Cell):List Cell:=l.filter λx=>decide (Least bd W w x x)
def a9(hw:Ways w){m:Cell}(hm:On bd.length W m):IsPatch bd W w m (aF bd W w m):=by
 refine⟨(dw _ _).filter _,λx=>?_⟩;unfold aF;rw[RG,aM,XI];exact⟨λh=>h.2,λh=>⟨h.on hw hm,h⟩⟩
def Least.on(hw:Ways w){x m:Cell}(hx:On bd.length W x)(h:Least bd W w x m):On bd.length W m:=h.1.on hw hx
def Least.move(hw:Ways w){x y m:Cell}(hx:On bd.length W x)(h:Least bd W w x m)(hy:Cn bd W w x y):Least bd W w y m:=
 ⟨(hy.symm hw hx).trans h.1,λz hz=>h.2 z (hy.trans hz)⟩
def Least.one(hw:Ways w){x m n:Cell}(hx:On bd.length W x)(h:Least bd W w x m)(h2:Least bd W w x n):m=n:=
 u_ (h.on hw hx) (h2.on hw hx) (Va (h.2 n h2.1) (h2.2 m h.1))
def Least.self(hw:Ways w){x m:Cell}(hx:On bd.length W x)(h:Least bd W w x m):Least bd W w m m:=h.move hw hx h.1
variable(L:Cell->Cell)
def qD(hw:Ways w):∃L:Cell->Cell,∀x,On bd.length W x->Least bd W w x (L x):=by
 have h:∀x,∃m,On bd.length W x->Least bd W w x m:=λx=>by
  by_cases hx:On bd.length W x
  ·have hP:=a9 hw hx;cases hp:aF bd W w x with
   |nil=>have:=(hP.mem x).mpr Cn.refl;rw[hp] at this;cases this
   |cons m r=>
    rw[hp] at hP;have hm:=(hP.mem m).mp (QR ..);refine⟨m,λ_=>⟨hm,λz hz=>?_⟩⟩;rcases Q9.mp ((hP.mem z).mpr hz) with rfl | Qk
    ·exact Q0 _
    ·exact SV ((gV (hm.on hw hx) (hz.on hw hx)).mp ((RF.mp hP.rise).1 z Qk))
  ·exact⟨x,λz=>XN z hx⟩
 exact⟨λx=>WS (h x),λx=>Wf (h x)⟩
noncomputable def oP(bd:List Str)(W w:Nat):D:= .lst ((cC bd W w (aZ bd.length W)).map λm=>cL (aF bd W w m))
end
section
open Classical
variable{bd:List Str}{W w:Nat}
noncomputable def yR(bd:List Str)(W w:Nat)(s:List Cell):List D:=(cC bd W w s).map λm=>cL (aF bd W w m)
noncomputable def Gr(bd:List Str)(W w:Nat)(s ks:List Cell)(x4 x5:Option Sl):cp:=[fz (brd bd),fz (iW w),some (.ow (.lst (yR bd W w s))),some (.ow (.dct (ks.map keyOf) (aU ks))),x4,x5]
structure Seen (bd:List Str) (W w:Nat) (s ks:List Cell):Prop where
 nd:ks.Nodup
 on:∀y∈ks,On bd.length W y
 mem:∀y,y∈ks↔∃m∈cC bd W w s,Cn bd W w m y
def Df(h0:ρ[i]? =some (some (.ow (.dct (ks.map keyOf) (aU ks)))))(hd:δ ρ=aa (g6 l))(hz:ks.length+l.length<=4096)(hh:ks=[]->((bM l).map λc=>fm (ic c)).Nodup):
 CM i δ ρ=aa (.nx (ρ.set i (some (.ow (.dct (((bM l).foldl bS ks).map keyOf) (aU ((bM l).foldl bS ks))))))):=by
 unfold CM wU;rw[h0];show (δ ρ>>=λd=>match De (ks.map keyOf) (aU ks) d with | some c'=>aa (Out.nx (ρ.set i (some (.ow c')))) | none=>af)=_;rw[hd,au];have:De (ks.map keyOf) (aU ks) (g6 l)=some (.dct (((bM l).foldl bS ks).map keyOf) (aU ((bM l).foldl bS ks))):=by
  show (match dZ ((bM l).map keyOf) with | some ns=>if (aU ks).length+(aU (bM l)).length<=lim/\((ks.map keyOf).isEmpty=true->(ns.map fm).Nodup) then some (C.dct (cz (ks.map keyOf) (aU ks) ((bM l).map keyOf) (aU (bM l))).1 (cz (ks.map keyOf) (aU ks) ((bM l).map keyOf) (aU (bM l))).2) else none | none=>none)=_;rw[iH];show (if (aU ks).length+(aU (bM l)).length<=lim/\((ks.map keyOf).isEmpty=true->(((bM l).map ic).map fm).Nodup) then some (C.dct (cz (ks.map keyOf) (aU ks) ((bM l).map keyOf) (aU (bM l))).1 (cz (ks.map keyOf) (aU ks) ((bM l).map keyOf) (aU (bM l))).2) else none)=_;have c1:(aU ks).length+(aU (bM l)).length<=lim:=by
   have:=zy l;unfold aU;rw[QM,QM,cI];omega
  have c2:(ks.map keyOf).isEmpty=true->(((bM l).map ic).map fm).Nodup:=λz=>by
   rw[Rj];exact hh (by cases ks with | nil=>rfl | cons _ _=>cases z)
  rw[XG ⟨c1,c2⟩,oj]
 rw[this]
def vv(hg:Brd bd W)(hs:bd.length*W<64)(hw:Ways w)(hx:On bd.length W x)(h0:dV 0 ρ=aa (brd bd))(h1:dV 1 ρ=aa (iW w))(h4:dV 4 ρ=aa (cD x)):
 dA vw (aC (aw 3 cU (aC (dV 0) (aC (dV 4) (aC (dV 1) aN)))) aN) ρ=aa (cL (aF bd W w x)):=by
 obtain⟨k,ks,ps,q1,q2,q3⟩:=pb hg hw hx;have e1:aw 3 cU (aC (dV 0) (aC (dV 4) (aC (dV 1) aN))) ρ=aa (FC ks ps):=(aq (aH h0 (aH h4 (aH h1 rfl))) rfl).trans q3;refine(aX (aH e1 rfl)).trans ((CU q1.nd (Vy (rq q1.nd q2) hs)).trans ?_);have:jj ks=aF bd W w x:=IsPatch.one ⟨jG q1.nd,λx=>f9.trans (q1.last x)⟩ (a9 hw hx);rw[this]
def gx(s:List Cell)(x:Cell):cC bd W w (s++[x])=if Least bd W w x x then cC bd W w s++[x] else cC bd W w s:=by
 unfold cC;rw[List.filter_append];by_cases h:Least bd W w x x
 ·rw[XG h,List.filter_cons_of_pos (by rw[XI];exact h),List.filter_nil]
 ·rw[XH h,List.filter_cons_of_neg (by rw[XI];exact h),List.filter_nil,S3]
def DB(hg:Brd bd W)(hs:bd.length*W<64)(hw:Ways w){L:Cell->Cell}(hL:∀x,On bd.length W x->Least bd W w x (L x))(e:s++x::r=aZ bd.length W)(h:Seen bd W w s ks):
 ∃ks',Seen bd W w (s++[x]) ks'/\L6 (Gr bd W w s ks (fz (cD x)) none)=aa (.nx (Gr bd W w (s++[x]) ks' none none)):=by
 have hx:On bd.length W x:=aM.mp (by rw[<-e];simp);have Bg:=dw bd.length W;rw[<-e] at Bg;have FY:∀y∈s,On bd.length W y:=λy hy=>aM.mp (by rw[<-e];simp[hy]);have MD:∀y∈r,On bd.length W y:=λy hy=>aM.mp (by rw[<-e];simp[hy]);have DU:∀y∈s,rank W y<rank W x:=λy hy=>(gV (FY y hy) hx).mp ((W3.mp Bg).2.2 y hy x (QR ..));have GQ:∀y∈r,rank W x<rank W y:=λy hy=>(gV hx (MD y hy)).mp ((RF.mp (W3.mp Bg).2.1).1 y hy);have IP:ks.length<=64:=by have:=rq h.nd h.on;omega
 have pC:s.length<64:=by
  have:=XQ List.length e;rw[bN,Q2,QV] at this;omega
 have ht:Ja (dS (d2 (jY true) (dV 4) (dV 3))) (Gr bd W w s ks (fz (cD x)) none)=aa (!decide (x∈ks)):=
  Gm (gN ((aO rfl rfl).trans (rV (by simp[aU]))))
 by_cases hl:Least bd W w x x
 ·have MP:x∉ks:=λz=>by
   obtain⟨m,hm,hc⟩:=(h.mem x).mp z;unfold cC at hm;rw[RG,XI] at hm;have h1:=DU m hm.1;have h2:=hl.2 m (hc.symm hw (FY m hm.1));omega
  rw[XJ MP] at ht;have hP:=a9 hw hx;have GN:∀y∈aF bd W w x,On bd.length W y:=λy hy=>((hP.mem y).mp hy).on hw hx;have Dl:(aF bd W w x).length<=64:=by have:=rq hP.rise.nodup GN;omega
  have Lu:(yR bd W w s).length<lim:=by
   unfold yR;rw[QM,cI];have:=SS (λx=>decide (Least bd W w x x)) s;unfold cC;omega
  refine⟨(bM (aF bd W w x)).foldl bS ks,⟨AW h.nd,λy hy=>?_,λy=>?_⟩,?_⟩
  ·rcases((jW (bM (aF bd W w x)) ks).2.1 y).mp hy with q | q
   ·exact h.on y q
   ·exact GN y (iM.mp q)
  ·rw[(jW (bM (aF bd W w x)) ks).2.1 y,iM,h.mem y,gx,XG hl,hP.mem y];constructor
   ·rintro(⟨m,hm,hc⟩ | hc)
    ·exact⟨m,R0.mpr (.inl hm),hc⟩
    ·exact⟨x,by simp,hc⟩
   ·rintro⟨m,hm,hc⟩;rcases R0.mp hm with hm | hm
    ·exact .inl ⟨m,hm,hc⟩
    ·rw[TU.mp hm] at hc;exact .inr hc
  ·have ef:yR bd W w (s++[x])=yR bd W w s++[cL (aF bd W w x)]:=by
    unfold yR;rw[gx,XG hl,S0];rfl
   refine(bI (ρ':=[fz (brd bd),fz (iW w),some (.ow (.lst (yR bd W w s++[cL (aF bd W w x)]))),some (.ow (.dct (((bM (aF bd W w x)).foldl bS ks).map keyOf) (aU ((bM (aF bd W w x)).foldl bS ks)))),fz (cD x),fz (cL (aF bd W w x))]) (jg ht (ao ((aG (vv hg hs hw hx rfl rfl rfl)).trans rfl) (ao (ρ':=[fz (brd bd),fz (iW w),some (.ow (.lst (yR bd W w s++[cL (aF bd W w x)]))),some (.ow (.dct (ks.map keyOf) (aU ks))),fz (cD x),fz (cL (aF bd W w x))]) ?_ ?_)))).trans ?_
   ·show (if (yR bd W w s).length<lim then aa (Out.nx [fz (brd bd),fz (iW w),some (.ow (.lst (yR bd W w s++[cL (aF bd W w x)]))),some (.ow (.dct (ks.map keyOf) (aU ks))),fz (cD x),fz (cL (aF bd W w x))]) else af)=_;rw[XG Lu]
   ·exact(Df rfl ((aq rfl rfl).trans (qB (by omega))) (by omega) (λ_=>DR hg.r8 hg.w8 (BJ _) λy hy=>GN y (iM.mp hy))).trans rfl
   ·unfold Gr;rw[ef];rfl
 ·have hm:=hL x hx;have jv:L x≠x:=λz=>hl (by rw[z] at hm;exact hm);have eE:rank W (L x)<rank W x:=by
   have h1:=hm.2 x Cn.refl;have h2:rank W (L x)≠rank W x:=λz=>jv (u_ (hm.on hw hx) hx z);omega
  have PV:L x∈s:=by
   have:L x∈s++x::r:=by rw[e];exact aM.mpr (hm.on hw hx)
   rcases R0.mp this with q | q
   ·exact q
   ·rcases Q9.mp q with q | q
    ·exact XN q jv
    ·have:=GQ _ q;omega
  have MP:x∈ks:=(h.mem x).mpr ⟨L x,by unfold cC;rw[RG,XI];exact⟨PV,hm.self hw hx⟩,hm.1.symm hw hx⟩;rw[XM MP] at ht;refine⟨ks,⟨h.nd,h.on,λy=>by rw[gx,XH hl];exact h.mem y⟩,?_⟩;have ef:yR bd W w (s++[x])=yR bd W w s:=by
   unfold yR;rw[gx,XH hl]
  refine(bI (dU ht rfl)).trans ?_;unfold Gr;rw[ef];rfl
def xB(hg:Brd bd W)(hs:bd.length*W<64)(hw:Ways w){L:Cell->Cell}(hL:∀x,On bd.length W x->Least bd W w x (L x)):∀(r s ks:List Cell),s++r=aZ bd.length W->Seen bd W w s ks->
 ∃ks',forL (putN 4) L6 (r.map cD) (Gr bd W w s ks none none)=aa (.nx (Gr bd W w (aZ bd.length W) ks' none none))
 |[],s,ks,e,h=>by
  rw[S3] at e;exact⟨ks,by rw[e];rfl⟩
 |x::r,s,ks,e,h=>by
  obtain⟨MX,h1,e1⟩:=DB hg hs hw hL e h;obtain⟨MY,e2⟩:=xB hg hs hw hL r (s++[x]) MX (by rw[UH];exact e) h1;exact⟨MY,(dB rfl e1).trans e2⟩
def cB(hg:Brd bd W)(hs:bd.length*W<64)(hw:Ways w):aL [brd bd,iW w]=aa (oP bd W w):=by
 obtain⟨L,hL⟩:=qD hw;obtain⟨ks,e⟩:=xB hg hs hw hL (aZ bd.length W) [] [] rfl ⟨Ua,(λy hy=>(by cases hy)),(λy=>⟨λz=>(by cases z),λ⟨m,hm,_⟩=>(by cases hm)⟩)⟩;refine a7 (ao rfl (ao rfl (ao (eI (gj (Kh ((aq rfl rfl).trans (i9 hg))) e)) rfl)))
end
structure NumOk (R W:Nat) (Ps:List (List Cell)) (ks:List Cell) (f:Cell->Nat):Prop where
 nd:ks.Nodup
 on:∀y∈ks,On R W y
 num:∀y∈ks,∃P,Ps[f y]? =some P/\y∈P
def Oz:DS:=dF [4] (jh 1 (dV 4) (dV 2))
def LI(Ps:List (List Cell))(ks:List Cell)(f:Cell->Nat)(x2 x3 x4:Option Sl):cp:=[fz (.lst (Ps.map cL)),some (.ow (DM ks λy=> .int (f y:Int))),x2,x3,x4]
def qa:x∈bS ks x:=dG.mpr (.inr rfl)
def F9(hm:R*W<=64){i:Nat}(hP:Ps[i]? =some P)(ja:∀y∈P,On R W y):∀(l ks:List Cell) (f:Cell->Nat),(∀y∈l,y∈P)->NumOk R W Ps ks f->
 ∃ks' f',NumOk R W Ps ks' f'/\(∀y∈ks,y∈ks')/\(∀y∈l,y∈ks')/\forL (putN 4) Oz (l.map cD) (LI Ps ks f (fz (.int (i:Int))) x3 none)=aa (.nx (LI Ps ks' f' (fz (.int (i:Int))) x3 none))
 |[],ks,f,_,h=>⟨ks,f,h,λy hy=>hy,(λy hy=>(by cases hy)),rfl⟩
 |x::l,ks,f,hl,h=>by
  have hx:=hl x (QR ..);have IP:ks.length<=64:=by
   have h1:=ej h.nd λy hy=>aM.mpr (h.on y hy);rw[bN] at h1;omega
  have h1:NumOk R W Ps (bS ks x) (λy=>if y=x then i else f y):=by
   refine⟨(jW [x] ks).1 h.nd,λy hy=>?_,λy hy=>?_⟩
   ·rcases dG.mp hy with q | q
    ·exact h.on y q
    ·rw[q];exact ja x hx
   ·by_cases e:y=x
    ·refine⟨P,?_,by rw[e];exact hx⟩;show Ps[if y=x then i else f y]? =_;rw[XG e];exact hP
    ·rcases dG.mp hy with q | q
     ·obtain⟨Q,q1,q2⟩:=h.num y q;refine⟨Q,?_,q2⟩;show Ps[if y=x then i else f y]? =_;rw[XH e];exact q1
     ·exact XN q e
  obtain⟨ks',f',a1,a2,a3,a4⟩:=F9 hm hP ja l (bS ks x) _ (λy hy=>hl y (QQ _ hy)) h1;refine⟨ks',f',a1,λy hy=>a2 y (dG.mpr (.inl hy)),λy hy=>?_,?_⟩
  ·rcases Q9.mp hy with rfl | hy
   ·exact a2 _ qa
   ·exact a3 y hy
  ·refine(dB rfl ?_).trans a4;refine(bI ((yy rfl rfl rfl (by rw[cI];omega)).trans rfl)).trans ?_;have ef:eO (λy=>D.int (f y:Int)) x (.int (i:Int))=λy=>D.int ((if y=x then i else f y:Nat):Int):=by
    funext y;unfold eO;by_cases e:y=x
    ·rw[XG e,XG e]
    ·rw[XH e,XH e]
   show aa (Out.nx [fz (.lst (Ps.map cL)),some (.ow (DM (bS ks x) (eO (λy=>D.int (f y:Int)) x (.int (i:Int))))),fz (.int (i:Int)),x3,none])=_;rw[ef];rfl
def II(q:Nat×List Cell):D:= .tup [.int (q.1:Int),cL q.2]
def BN(hm:R*W<=64){Ps:List (List Cell)}(ja:∀P∈Ps,∀y∈P,On R W y):∀(qs:List (Nat×List Cell)) (ks:List Cell) (f:Cell->Nat),(∀q∈qs,Ps[q.1]? =some q.2)->NumOk R W Ps ks f->
 ∃ks' f',NumOk R W Ps ks' f'/\(∀y∈ks,y∈ks')/\(∀q∈qs,∀y∈q.2,y∈ks')/\forL (oX [2,3]) (dF [2,3,4] (ez (putN 4) (bV (dV 3)) Oz)) (qs.map II) (LI Ps ks f none none none)=aa (.nx (LI Ps ks' f' none none none))
 |[],ks,f,_,h=>⟨ks,f,h,λy hy=>hy,(λq hq=>(by cases hq)),rfl⟩
 |q::qs,ks,f,hq,h=>by
  have hP:=hq q (QR ..);obtain⟨MX,f1,a1,a2,a3,a4⟩:=F9 hm hP (ja q.2 (Rn hP)) q.2 ks f (λy hy=>hy) h;obtain⟨MY,f2,b1,b2,b3,b4⟩:=BN hm ja qs MX f1 (λq' J1=>hq q' (QQ _ J1)) a1;refine⟨MY,f2,b1,λy hy=>b2 y (a2 y hy),λq' J1 y hy=>?_,?_⟩
  ·rcases Q9.mp J1 with rfl | J1
   ·exact b2 y (a3 y hy)
   ·exact b3 q' J1 y hy
  ·exact(dB rfl ((bI (gj (MW rfl) a4)).trans rfl)).trans b4
def lg(Ps:List (List Cell)):(Ps.map cL).mapIdx (λi d=>D.tup [.int (i:Int),d])=(Ps.zipIdx.map λq:List Cell×Nat=>(q.2,q.1)).map II:=by
 apply List.ext_getElem?;intro i;simp only[W5,Q1,List.getElem?_zipIdx,Option.map_map,VH];cases Ps[i]? <;>simp[II]
def oB(hm:R*W<=64)(ja:∀P∈Ps,∀y∈P,On R W y):∃ks f,NumOk R W Ps ks f/\(∀P∈Ps,∀y∈P,y∈ks)/\eD [.lst (Ps.map cL)]=aa (AL ks λy=> .int (f y:Int)):=by
 have hq:∀q∈Ps.zipIdx.map (λq:List Cell×Nat=>(q.2,q.1)),Ps[q.1]? =some q.2:=λq hq=>by
  obtain⟨⟨P,i⟩,h1,rfl⟩:=QU.mp hq;exact Uq.mp h1
 obtain⟨ks,f,a1,a2,a3,a4⟩:=BN hm ja (Ps.zipIdx.map λq:List Cell×Nat=>(q.2,q.1)) [] (λ_=>0) hq ⟨Ua,(λy hy=>(by cases hy)),(λy hy=>(by cases hy))⟩;refine⟨ks,f,a1,λP hP y hy=>?_,?_⟩
 ·obtain⟨i,hi,rfl⟩:=Us hP;refine a3 (i,Ps[i]) (QU.mpr ⟨(Ps[i],i),Uq.mpr (by rw[QN hi]),rfl⟩) y hy
 ·refine a7 (ao rfl (ao (eI (gj ?_ a4)) rfl));show aa ((Ps.map cL).mapIdx λi d=>D.tup [.int (i:Int),d])=_;rw[lg]
section
open Classical
variable{bd:List Str}{W w:Nat}
noncomputable def aA(bd:List Str)(W w:Nat):List (List Cell):=(cC bd W w (aZ bd.length W)).map (aF bd W w)
def e_:oP bd W w= .lst ((aA bd W w).map cL):=by
 unfold oP aA;rw[Rj];rfl
def dN(h:m∈cC bd W w (aZ bd.length W)):On bd.length W m:=by
 unfold cC at h;exact aM.mp (RG.mp h).1
def d6(hw:Ways w):∀P∈aA bd W w,∀y∈P,On bd.length W y:=λP hP y hy=>by
 unfold aA at hP;obtain⟨m,hm,rfl⟩:=QU.mp hP;exact(((a9 hw (dN hm)).mem y).mp hy).on hw (dN hm)
def gB(hg:Brd bd W)(hw:Ways w)(hx:On bd.length W x):∃P∈aA bd W w,x∈P:=by
 obtain⟨L,hL⟩:=qD hw;have hm:=hL x hx;have IT:=hm.on hw hx;refine⟨aF bd W w (L x),QU.mpr ⟨L x,?_,rfl⟩,((a9 hw IT).mem x).mpr (hm.1.symm hw hx)⟩;unfold cC;rw[RG,XI];exact⟨aM.mpr IT,hm.self hw hx⟩
def e7:(aA bd W w).length<=bd.length*W:=by
 unfold aA cC;rw[QM,<-bN bd.length W];exact SS ..
def u5(hg:Brd bd W)(hs:bd.length*W<64)(hw:Ways w):fV [brd bd,iW w]=aa (.lst ((aA bd W w).map cL)):=by
 rw[<-e_];exact a7 (ao (cH ((aq rfl rfl).trans hg.nb)) (ao (cH ((aq rfl rfl).trans hw.nw)) (aT ((aq rfl rfl).trans (cB hg hs hw)))))
end
end K1
namespace K1
open PySem L2 L3 HT
def Es(l:List Nat):Str:=⟨l.toArray⟩
def gO(l:List Nat):(Es l).cps.toList=l:=by simp[Es]
def Eg(l:List Nat):(Es l).length=l.length:=by simp[Es,Str.length]
def vQ(x y:Str):(x++y).cps.toList=x.cps.toList++y.cps.toList:=by
 show (x.cps++y.cps).toList=_;simp
end K1
namespace K1
open PySem PySem.Spec L2 L3
open PyProof.Rows hiding St
section
open Classical
variable{bd:List Str}{W w:Nat}
def Em:(cC bd W w (aZ bd.length W)).Nodup:=by
 unfold cC;exact(RiseC.nodup (dw _ _)).filter _
def BE:m∈cC bd W w l↔m∈l/\Least bd W w m m:=by
 unfold cC;rw[RG,XI]
def uz(hw:Ways w){m x:Cell}(hm:m∈cC bd W w (aZ bd.length W))(hx:x∈aF bd W w m):Least bd W w x m:=
 (BE.mp hm).2.move hw (dN hm) (((a9 hw (dN hm)).mem x).mp hx)
def qQ{i:Nat}(h:(aA bd W w)[i]? =some P):∃m,(cC bd W w (aZ bd.length W))[i]? =some m/\P=aF bd W w m:=by
 unfold aA at h;rw[Q1] at h;cases q:(cC bd W w (aZ bd.length W))[i]? with
 |none=>rw[q] at h;cases h
 |some m=>rw[q] at h;cases h;exact⟨m,rfl,rfl⟩
def BF{i j:Nat}(h:(cC bd W w (aZ bd.length W))[i]? =some m)(h2:(cC bd W w (aZ bd.length W))[j]? =some m):i=j:=
 (List.getElem?_inj (Q4.mp h).1 Em).mp (h.trans h2.symm)
def BC{l:List α}{i:Nat}(h:l[i]? =some x):x∈l:=Rn h
def xW(hw:Ways w){i j:Nat}(hi:(aA bd W w)[i]? =some P)(hj:(aA bd W w)[j]? =some Q)(hx:x∈P)(hy:x∈Q):i=j:=by
 obtain⟨m,e1,rfl⟩:=qQ hi;obtain⟨n,e2,rfl⟩:=qQ hj;have hm:=BC e1;have hn:=BC e2;have ja:On bd.length W x:=(((a9 hw (dN hm)).mem x).mp hx).on hw (dN hm);have:=(uz hw hm hx).one hw ja (uz hw hn hy);subst this;exact BF e1 e2
end
end K1
namespace K1
open PySem L2 L3
section
open Classical
variable{bd:List Str}{W w:Nat}
abbrev Dx(bd:List Str)(S:D)(nk:List Cell)(f:Cell->Nat)(ks:List Cell)(g:Cell->Int)(x4 x5 x6:Option Sl):cp:=[fz (brd bd),fz S,fz (AL nk λy=> .int (f y:Int)),some (.ow (DM ks λk=> .int (g k))),x4,x5,x6]
structure SOk (bd:List Str) (W n:Nat) (f:Cell->Nat) (ks:List Cell):Prop where
 nd:ks.Nodup
 is:∀k∈ks,∃x y,On bd.length W x/\On bd.length W y/\gb 4 x y=true/\f x<f y/\k=(f x,f y)
noncomputable def FN(ks:List Cell)(g:Cell->Int)(k:Cell):Int:=if k∈ks then g k else 0
def Ao(f:Cell->Nat)(k x y:Cell):Bool:=decide (f x<f y/\(f x,f y)=k)
def Fi(hn:∀z,On bd.length W z->z∈nk/\f z<64)(hx:On bd.length W x)(hy:On bd.length W y)(Ka:gb 4 x y=true)(h:SOk bd W 64 f ks):
 ∃ks' g',SOk bd W 64 f ks'/\(∀k∈ks,k∈ks')/\(f x<f y->(f x,f y)∈ks')/\(∀k,FN ks' g' k=FN ks g k+(if Ao f k x y then 1 else 0))/\LN (Dx bd S nk f ks g (fz (cD x)) (fz (cD y)) none)=aa (.nx (Dx bd S nk f ks' g' (fz (cD x)) none none)):=by
 have i4:∀{o x6:Option Sl},d2 nJ (dV 2) (dV 4) [fz (brd bd),fz S,fz (AL nk λy=> .int (f y:Int)),o,fz (cD x),fz (cD y),x6]=aa (.int (f x:Int)):=(aO rfl rfl).trans (Bt (hn x hx).1);have i5:∀{o x6:Option Sl},d2 nJ (dV 2) (dV 5) [fz (brd bd),fz S,fz (AL nk λy=> .int (f y:Int)),o,fz (cD x),fz (cD y),x6]=aa (.int (f y:Int)):=(aO rfl rfl).trans (Bt (hn y hy).1);have LQ:dS (d2 GJ (d2 nJ (dV 2) (dV 4)) (d2 nJ (dV 2) (dV 5))) (Dx bd S nk f ks g (fz (cD x)) (fz (cD y)) none)=aa (decide (f x<f y)):=by
  refine gN ((aO i4 i5).trans ?_);show aa (D.bl (decide ((f x:Int)<(f y:Int))))=_;congr 2;exact XR.mpr (by omega)
 have IP:ks.length<lim:=by
  have:ks.length<=(aZ 63 64).length:=ej h.nd λk hk=>by
   obtain⟨a,b,ha,hb,_,Lr,rfl⟩:=h.is k hk;have:=(hn b hb).2;exact aM.mpr ⟨by show f a<63;omega,this⟩
  rw[bN] at this;rw[cI];omega
 by_cases eE:f x<f y
 ·rw[XM eE] at LQ;refine⟨bS ks (f x,f y),λk=>if k=(f x,f y) then(if (f x,f y)∈ks then g (f x,f y) else 0)+1 else g k,⟨(jW [(f x,f y)] ks).1 h.nd,λk hk=>?_⟩,λk hk=>dG.mpr (.inl hk),λ_=>qa,λk=>?_,?_⟩
  ·rcases dG.mp hk with q | q
   ·exact h.is k q
   ·exact⟨x,y,hx,hy,Ka,eE,q⟩
  ·unfold FN Ao;by_cases e:k=(f x,f y)
   ·subst e;rw[XG (dG.mpr (.inr rfl)),XM ⟨eE,rfl⟩];simp only[if_true]
   ·rw[XJ λq=>e q.2.symm];have:k∈bS ks (f x,f y)↔k∈ks:=dG.trans ⟨λq=>q.resolve_right e, .inl⟩;simp only[this,XH e];simp
  ·have hv:Lj (d2 dE (xH (dV 3) (dV 6) (dC (.int 0))) (dC (.int 1))) (Dx bd S nk f ks g (fz (cD x)) (fz (cD y)) (fz (cD (f x,f y))))=aa (.int ((if (f x,f y)∈ks then g (f x,f y) else 0)+1)):=by
    refine Jo ?_ rfl;have e:xH (dV 3) (dV 6) (dC (.int 0)) (wc (Dx bd S nk f ks g (fz (cD x)) (fz (cD y)) (fz (cD (f x,f y)))))=aa (.int (if (f x,f y)∈ks then g (f x,f y) else 0)):=by
     show getM (AL ks λk=> .int (g k)) (cD (f x,f y)) (.int 0)=_;by_cases q:(f x,f y)∈ks
     ·rw[DQ q,XG q]
     ·rw[A4 q,XH q]
    exact(aO e rfl).trans rfl
   refine(bI (ρ':=Dx bd S nk f (bS ks (f x,f y)) (λk=>if k=(f x,f y) then(if (f x,f y)∈ks then g (f x,f y) else 0)+1 else g k) (fz (cD x)) (fz (cD y)) (fz (cD (f x,f y)))) (jg LQ (ao ((aG ((aX (aH i4 (aH i5 rfl))).trans rfl)).trans rfl) ?_))).trans rfl;refine(yy rfl hv rfl IP).trans ?_;have ef:eO (λk=>D.int (g k)) (f x,f y) (.int ((if (f x,f y)∈ks then g (f x,f y) else 0)+1))=λk=>D.int (if k=(f x,f y) then(if (f x,f y)∈ks then g (f x,f y) else 0)+1 else g k):=by
    funext k;unfold eO;by_cases e:k=(f x,f y)
    ·rw[XG e,XG e]
    ·rw[XH e,XH e]
   rw[ef];rfl
 ·rw[XJ eE] at LQ;exact⟨ks,g,h,λk hk=>hk,λq=>XN q eE,λk=>by unfold Ao;rw[XJ λq=>eE q.1];simp,(bI (dU LQ rfl)).trans rfl⟩
def Gj(hn:∀z,On bd.length W z->z∈nk/\f z<64)(hx:On bd.length W x):∀(l:List Cell) (ks:List Cell) (g:Cell->Int),(∀y∈l,On bd.length W y/\gb 4 x y=true)->SOk bd W 64 f ks->
 ∃ks' g',SOk bd W 64 f ks'/\(∀k∈ks,k∈ks')/\(∀y∈l,f x<f y->(f x,f y)∈ks')/\(∀k,FN ks' g' k=FN ks g k+((l.filter (Ao f k x)).length:Int))/\forL (putN 5) LN (l.map cD) (Dx bd S nk f ks g (fz (cD x)) none none)=aa (.nx (Dx bd S nk f ks' g' (fz (cD x)) none none))
 |[],ks,g,_,h=>⟨ks,g,h,λk hk=>hk,(λy hy=>(by cases hy)),λk=>by simp,rfl⟩
 |y::l,ks,g,hl,h=>by
  obtain⟨y1,y2⟩:=hl y (QR ..);obtain⟨k1,g1,a1,a2,a3,a5,a4⟩:=Fi hn hx y1 y2 h;obtain⟨k2,g2,b1,b2,b3,b5,b4⟩:=Gj hn hx l k1 g1 (λz hz=>hl z (QQ _ hz)) a1;refine⟨k2,g2,b1,λk hk=>b2 k (a2 k hk),λz hz q=>?_,λk=>?_,(dB rfl a4).trans b4⟩
  ·rcases Q9.mp hz with e | hz
   ·subst e;exact b2 _ (a3 q)
   ·exact b3 z hz q
  ·rw[b5 k,a5 k,Sj];cases Ao f k x y
   ·simp
   ·simp;omega
def CV(hg:Brd bd W)(hn:∀z,On bd.length W z->z∈nk/\f z<64):∀(l:List Cell) (ks:List Cell) (g:Cell->Int),(∀x∈l,On bd.length W x)->SOk bd W 64 f ks->
 ∃ks' g',SOk bd W 64 f ks'/\(∀k∈ks,k∈ks')/\(∀x∈l,∀y,On bd.length W y->gb 4 x y=true->f x<f y->(f x,f y)∈ks')/\(∀k,FN ks' g' k=FN ks g k+(((l.map λx=>((cE bd.length W 4 x).filter (Ao f k x)).length).sum:Nat):Int))/\
  forL (putN 4) (dF [4,5,6] (ez (putN 5) (bV (aw 3 aR (aC (dV 0) (aC (dV 4) (aC (dC (.int 4)) aN))))) LN)) (l.map cD) (Dx bd S nk f ks g none none none)=aa (.nx (Dx bd S nk f ks' g' none none none))
 |[],ks,g,_,h=>⟨ks,g,h,λk hk=>hk,(λy hy=>(by cases hy)),λk=>by simp,rfl⟩
 |x::l,ks,g,hl,h=>by
  have hx:=hl x (QR ..);have MM:Ways 4:= .inl rfl;obtain⟨k1,g1,a1,a2,a3,a5,a4⟩:=Gj hn hx (cE bd.length W 4 x) ks g (λy hy=>(cW MM).mp hy) h;obtain⟨k2,g2,b1,b2,b3,b5,b4⟩:=CV hg hn l k1 g1 (λz hz=>hl z (QQ _ hz)) a1;refine⟨k2,g2,b1,λk hk=>b2 k (a2 k hk),λz hz y hy q1 q2=>?_,λk=>by rw[b5 k,a5 k,QX,Se,Int.natCast_add,Int.add_assoc],(dB rfl ((bI (gj ?_ a4)).trans rfl)).trans b4⟩
  ·rcases Q9.mp hz with e | hz
   ·subst e;exact b2 _ (a3 y ((cW MM).mpr ⟨hy,q1⟩) q2)
   ·exact b3 z hz y hy q1 q2
  ·show (aw 3 aR (aC (dV 0) (aC (dV 4) (aC (dC (.int 4)) aN))) _>>=lstM)=_;rw[(aq (ds:=[brd bd,cD x, .int ((4:Nat):Int)]) rfl rfl:aw 3 aR (aC (dV 0) (aC (dV 4) (aC (dC (.int 4)) aN))) _=_),e8 hg MM hx];rfl
def xc(hg:Brd bd W)(hs:bd.length*W<64)(hw:Ways w):∃(f:Cell->Nat) (ks:List Cell) (g:Cell->Int),(∀x,On bd.length W x->∃P,(aA bd W w)[f x]? =some P/\x∈P)/\SOk bd W 64 f ks/\(∀x y,On bd.length W x->On bd.length W y->gb 4 x y=true->f x<f y->(f x,f y)∈ks)/\(∀k∈ks,g k=((((aZ bd.length W).map λx=>((cE bd.length W 4 x).filter (Ao f k x)).length).sum:Nat):Int))/\
 cb [brd bd, .lst ((aA bd W w).map cL)]=aa (AL ks λk=> .int (g k)):=by
 obtain⟨nk,f,h1,h2,h3⟩:=oB (SV hs) (d6 hw);have hf:∀x,On bd.length W x->x∈nk/\∃P,(aA bd W w)[f x]? =some P/\x∈P:=λx hx=>by
  obtain⟨P,p1,p2⟩:=gB hg hw hx;have:=h2 P p1 x p2;exact⟨this,h1.num x this⟩
 have hl:=e7 (bd:=bd) (W:=W) (w:=w);obtain⟨ks,g,a1,a2,a3,a5,a4⟩:=CV hg (f:=f) (λz hz=>⟨(hf z hz).1,by
  obtain⟨P,e,_⟩:=(hf z hz).2;have:=(Q4.mp e).1;omega⟩) (aZ bd.length W) [] (λ_=>0) (λx hx=>aM.mp hx) ⟨Ua,(λk hk=>(by cases hk))⟩
 refine⟨f,ks,g,λx hx=>(hf x hx).2,a1,λx y hx hy=>a3 x (aM.mpr hx) y hy,λk hk=>by have:=a5 k;unfold FN at this;rw[XG hk] at this;simpa using this,?_⟩;refine a7 (ao ((aG ((aq rfl rfl).trans h3)).trans rfl) (ao rfl (ao (eI (gj ?_ a4)) rfl)));show (aw 1 cu (aC (dV 0) aN) _>>=lstM)=_;rw[(aq rfl rfl:aw 1 cu (aC (dV 0) aN) _=_),i9 hg];rfl
end
def sh(P Q:List Cell):Nat:=(P.map λx=>(Q.filter λy=>gb 4 x y).length).sum
def kF(f g:α->Nat):∀l:List α,(l.map λx=>f x+g x).sum=(l.map f).sum+(l.map g).sum
 |[]=>rfl
 |a::l=>by
  simp only[QX,Se,kF f g l];omega
def yJ(p:α->Bool)(c:α->Nat):∀l:List α,(l.map λx=>if p x then c x else 0).sum=((l.filter p).map c).sum
 |[]=>rfl
 |a::l=>by
  rw[QX,Se,yJ p c l,Sj];cases p a
  ·simp
  ·simp
def hJ(R W w:Nat)(c:Cell):RiseC (cE R W w c):=by
 unfold cE RiseC;refine UY.mpr ⟨λr _=>List.Pairwise.filter _ (Sq.mpr ?_),?_⟩
 ·refine Sv (λ{a b} h=>?_) (Wz ..);show (if r=r then decide (a<b) else _)=true;rw[XG rfl,XM h]
 ·refine Sv (λ{a b} h x hx y hy=>?_) (Wz ..);obtain⟨_,_,rfl⟩:=QU.mp (RG.mp hx).1;obtain⟨_,_,rfl⟩:=QU.mp (RG.mp hy).1;show (if a=b then _ else decide (a<b))=true;rw[XH (Rl h),XM h]
section
open Classical
variable{bd:List Str}{W w:Nat}
def jz(hw:Ways w)(hP:P∈aA bd W w):RiseC P:=by
 unfold aA at hP;obtain⟨m,_,rfl⟩:=QU.mp hP;exact(dw _ _).filter _
end
section
open Classical
variable{bd:List Str}{W w:Nat}
def Bz:∀{l:List α},(∀a∈l,p a=true->q a=false)->(l.filter λa=>p a||q a).length=(l.filter p).length+(l.filter q).length
 |[],_=>rfl
 |a::l,h=>by
  have ih:=Bz λb hb=>h b (QQ _ hb);rw[Sj,Sj,Sj];cases hp:p a with
  |true=>
   rw[h a (QR ..) hp];simp only[Vx,if_true,Ro,if_false,QV,ih];omega
  |false=>
   cases hq:q a<;>simp only[Vx,Bool.or_true,if_true,Ro,if_false,QV,ih]
   omega
def len_same{α:Type}[DecidableEq α]{a b:List α}(ha:a.Nodup)(hb:b.Nodup)(h:∀x,x∈a↔x∈b):a.length=b.length:=Va (lh ha λx hx=>(h x).mp hx) (lh hb λx hx=>(h x).mpr hx)
def GC(x:Cell):List Cell:=[(x.1+1,x.2),(x.1,x.2+1)]
def BD{x y:Cell}:y∈GC x↔(y.1=x.1+1/\y.2=x.2)\/(y.1=x.1/\y.2=x.2+1):=by
 unfold GC;obtain⟨y1,y2⟩:=y;simp
def Ho{x y:Cell}:gb 4 x y=true↔y∈GC x\/x∈GC y:=by
 rw[BD,BD];unfold gb fK;rw[XG rfl,XI];omega
def z8(ks:List Cell)(g:Cell->Int):D:= .lst (ks.map λk=> .tup [cD k, .int (g k)])
def r9{g:α->Int}:∀ks:List α,nums (ks.map λk=> .int (g k))=some (ks.map g)
 |[]=>rfl
 |k::ks=>by
  show (nums (ks.map λk=> .int (g k))).map _=_;rw[r9 ks];rfl
def yM(g:Cell->Int):∀ks:List Cell,jI (ks.map ic) (ks.map g)=ks.map λk=>ic k++[g k]
 |[]=>rfl
 |k::ks=>by
  show (ic k++[g k])::jI (ks.map ic) (ks.map g)=_;rw[yM g ks];rfl
def Fs{g:Cell->Int}{a b:Cell}(h:ic a++[g a]=ic b++[g b]):a=b:=nS (List.append_inj_left h rfl)
def z5{g:Cell->Int}(hn:ks.Nodup)(hl:ks.length<64):lL (AL ks λk=> .int (g k))=aa (z8 (jj ks) g):=by
 show (match dZ (ks.map keyOf),nums (ks.map λk=> .int (g k)) with
  |some kk,some ns=>if kk.length=ns.length/\kk.all (λk=>decide (k.length=2))=true/\eu (jI kk ns)=true then aa (D.lst ((sortI (jI kk ns)).map yn)) else af
  |_,_=>af)=_
 rw[iH,r9]
 dsimp only
 rw[yM];have GY:(ks.map λk=>ic k++[g k]).Nodup:=by
  rw[RE,Sq];exact Sv (λh z=>h (Fs z)) hn
 rw[XG ⟨by rw[QM,QM],Rt.mpr λk hk=>by obtain⟨c,_,rfl⟩:=QU.mp hk;rfl,by
  unfold eu;rw[Q6,Q6];refine⟨⟨XM GY,XM (by rw[QM];exact hl)⟩,Rt.mpr λk hk=>?_⟩;obtain⟨c,_,rfl⟩:=QU.mp hk;rfl⟩]
 have e:sortI (ks.map λk=>ic k++[g k])=(jj ks).map λk=>ic k++[g k]:=by
  refine kA (gM GY) ?_ λx=>?_
  ·unfold tQ;rw[Sq];refine Sv (λ{a b} h=>?_) (Sq.mp (m8.mpr (jG hn)));rw[la _ _ (show (ic a).length=(ic b).length from rfl),XH λz=>by rw[z] at h;have:=ei _ _ h;rw[h] at this;cases this];exact h
  ·rw[d7,QU,QU];constructor
   ·rintro⟨c,hc,e⟩;exact⟨c,f9.mpr hc,e⟩
   ·rintro⟨c,hc,e⟩;exact⟨c,f9.mp hc,e⟩
 rw[e,Rj];rfl
def Ar(R W:Nat)(f:Cell->Nat)(k:Cell):Prop:=∃x y,On R W x/\On R W y/\gb 4 x y=true/\f x<f y/\k=(f x,f y)
def tu{ks:List Cell}(hn:ks.Nodup)(h:∀k∈ks,Ar R W f k):ks.length<=2*(R*W):=by
 have:ks.length<=((aZ R W).flatMap λx=>(GC x).map λy=>((min (f x) (f y),max (f x) (f y)):Cell)).length:=ej hn λk hk=>by
  obtain⟨x,y,hx,hy,h1,h2,rfl⟩:=h k hk;rcases Ho.mp h1 with q | q
  ·exact Uh.mpr ⟨x,aM.mpr hx,QU.mpr ⟨y,q,by rw[Nat.min_eq_left (by omega),Nat.max_eq_right (by omega)]⟩⟩
  ·exact Uh.mpr ⟨y,aM.mpr hy,QU.mpr ⟨x,q,by rw[Nat.min_eq_right (by omega),Nat.max_eq_left (by omega)]⟩⟩
 have l2:=n5 (n:=2) (λx=>(GC x).map λy=>((min (f x) (f y),max (f x) (f y)):Cell)) (λx=>by unfold GC;simp) (aZ R W);rw[bN] at l2;omega
noncomputable def tN(R W:Nat)(f:Cell->Nat)(k:Cell):Nat:=((aZ R W).map λx=>((cE R W 4 x).filter (Ao f k x)).length).sum
def kG(hg:Brd bd W)(h2:2*(bd.length*W)<64)(hw:Ways w):∃(f:Cell->Nat) (ks:List Cell),(∀x,On bd.length W x->∃P,(aA bd W w)[f x]? =some P/\x∈P)/\RiseC ks/\(∀k,k∈ks↔Ar bd.length W f k)/\du [brd bd,iW w]=aa (z8 ks λk=>(tN bd.length W f k:Int)):=by
 have hs:bd.length*W<64:=by omega
 obtain⟨f,ks,g,hf,hS,FU,Py,e⟩:=xc hg hs hw;have hl:=tu hS.nd hS.is;refine⟨f,jj ks,hf,jG hS.nd,λk=>f9.trans ⟨hS.is k,λ⟨x,y,a,b,c,d,e⟩=>by rw[e];exact FU x y a b c d⟩,?_⟩;refine a7 (ao (cH ((aq rfl rfl).trans hg.nb)) (ao (cH ((aq rfl rfl).trans hw.nw)) (aT ?_)));show (aw 2 cb (aC (dV 0) (aC (aw 2 aL (aC (dV 0) (aC (dV 1) aN))) aN)) _>>=lL)=_;rw[show aw 2 cb (aC (dV 0) (aC (aw 2 aL (aC (dV 0) (aC (dV 1) aN))) aN)) _=aa (AL ks λk=> .int (g k)) from(aq (ds:=[brd bd, .lst ((aA bd W w).map cL)]) (aH rfl (aH ((aq rfl rfl).trans ((cB hg hs hw).trans (by rw[e_]))) rfl)) rfl).trans e,au,z5 hS.nd (by omega)];refine XQ (λl=>aa (D.lst l)) (RM λk hk=>?_);rw[Py k (f9.mp hk)];rfl
end
end K1
namespace K1
open PySem PySem.Spec L2 L3
open PyProof.Rows hiding St
def mK(R W:Nat)(x:Cell):Bool:=(decide (0<x.1)&&decide (x.1+1<R))&&(decide (0<x.2)&&decide (x.2+1<W))
def G5(i a b:Int):iZ false (.int i) (.tup [.int a, .int b])=aa (.bl (decide (i=a)||decide (i=b))):=by
 show aa (D.bl ([a,b].contains i))=_;congr 2;simp[Xr]
def Bp(h:δ ρ=aa (.lst ds)):bV δ ρ=aa ds:=by
 unfold bV;rw[h];rfl
section
open Classical
variable{bd:List Str}{W:Nat}
def uv(hg:Brd bd W)(hc:On bd.length W c):cT [brd bd,cD c]=aa (.bl (!mK bd.length W c)):=by
 have r1:=hg.r1;have w1:=hg.w1;have c1:=hc.1;have c2:=hc.2;refine a7 (aT ?_);have e1:d2 (iZ false) (d2 bD (dV 1) (dC (.int 0))) (dA cf (aC (dC (.int 0)) (aC (d2 gS (dA bw (aC (dV 0) aN)) (dC (.int 1))) aN))) [fz (brd bd),fz (cD c)]=aa (.bl (decide ((c.1:Int)=0)||decide ((c.1:Int)=(bd.length:Int) - 1))):=
  (aO rfl ((aX (aH rfl (aH ((aO (Ef rfl) rfl).trans rfl) rfl))).trans rfl)).trans (G5 _ _ _)
 have e2:d2 (iZ false) (d2 bD (dV 1) (dC (.int 1))) (dA cf (aC (dC (.int 0)) (aC (d2 gS (dA bw (aC (d2 bD (dV 0) (dC (.int 0))) aN)) (dC (.int 1))) aN))) [fz (brd bd),fz (cD c)]=aa (.bl (decide ((c.2:Int)=0)||decide ((c.2:Int)=(W:Int) - 1))):=
  (aO rfl ((aX (aH rfl (aH ((aO (hg.len0 rfl) rfl).trans rfl) rfl))).trans rfl)).trans (G5 _ _ _)
 refine(rJ e1 e2).trans ?_;congr 2;rw[VZ];unfold mK;simp only[TZ,XI,Tu,SU,decide_eq_false_iff_not];omega
def yT{l:List Bool}(h:ds=l.map D.bl):anyM [.lst ds]=aa (.bl (l.any id)):=by
 show (match bools ds with | some bs=>aa (D.bl (bs.any id)) | none=>af)=_;rw[h,qh]
def y_(hg:Brd bd W)(hl:∀c∈l,On bd.length W c)(hn:l.length<=64):bC [brd bd,cL l]=aa (.bl (l.any λc=>!mK bd.length W c)):=by
 refine a7 (aT ?_);have cm:aS 0 (bV (dV 1)) bp (aw 2 cT (aC (dV 1) (aC (dV 0) aN))) [fz (brd bd),fz (cL l)]=aa (.lst ((l.map λc=>!mK bd.length W c).map D.bl)):=by
  refine aW rfl ?_ (by rw[QM,QM,cI];omega);rw[Rj];refine bB cD (λc=> .bl (!mK bd.length W c)) l λc hc=>?_;rw[fJ,show aw 2 cT _ _=aa (.bl (!mK bd.length W c)) from(aq rfl rfl).trans (uv hg (hl c hc))];rfl
 refine(aX (aH cm rfl)).trans ((yT rfl).trans ?_);rw[WQ];rfl
end
def x_{i:Nat}(h:l[i]? =some d):nK (.lst l) (.int (i:Int))=aa d:=by
 show (match L2.atI l (i:Int) with | some x=>aa x | none=>af)=_;rw[fR h]
section
open Classical
variable{bd:List Str}{W w:Nat}
def EZ(hg:Brd bd W)(hs:bd.length*W<64)(hw:Ways w)(ho:aI (ig (aw 2 da (aC (dA bw (aC (dV 3) aN)) (aC (dV 2) aN)))) (bF (d2 nK (dV 3) (dV 2))) [fz (brd bd),fz (iW w),fz d,fz (.lst ((aA bd W w).map cL))]=o):
 fI [fz (brd bd),fz (iW w),fz d,none]=o:=
 ao (cH ((aq rfl rfl).trans hg.nb)) (ao (cH ((aq rfl rfl).trans hw.nw)) (ao ((aG ((aq rfl rfl).trans ((cB hg hs hw).trans (by rw[e_])))).trans rfl) ho))
def Eh(h:ρ[3]? =some (fz (.lst ((aA bd W w).map cL)))):dA bw (aC (dV 3) aN) ρ=aa (.int ((aA bd W w).length:Int)):=by
 refine(aX (aH (cO h) rfl)).trans ?_;show aa (D.int (((aA bd W w).map cL).length:Int))=_;rw[QM]
def lq(hg:Brd bd W)(hs:bd.length*W<64)(hw:Ways w){i:Nat}(hi:(aA bd W w)[i]? =some P):a_ [brd bd,iW w, .int (i:Int)]=aa (cL P):=by
 have eE:=(Q4.mp hi).1;have nn:da [.int ((aA bd W w).length:Int), .int (i:Int)]=aa .non:=by
  refine yF (dU (FF (v7 (rK ((aq rfl rfl).trans ((Ae (d:= .int (i:Int)) trivial).trans rfl)))) (v7 (b:=true) (gN ?_))) rfl);show (if decide ((0:Int)<=(i:Int))=true then aa (D.bl (decide ((i:Int)<((aA bd W w).length:Int)))) else aa (D.bl false))=_;rw[XG (by rw[XI];omega),XM (by omega)]
 refine a7 (EZ hg hs hw (ao (cH ((aq (aH (Eh rfl) rfl) rfl).trans nn)) (aT ((aO rfl rfl).trans (x_ (by rw[Q1,hi];rfl))))))
end
section
open Classical
variable{bd:List Str}{W w:Nat}{P:List Cell}
def Aj(P:List Cell)(x:Cell):Nat:=(P.filter λy=>gb 4 x y).length
def pU(P l:List Cell)(a:Int):Int:=l.foldl (λs x=>s+(4 - (Aj P x:Int))) a
def oz(hP:P.Nodup)(ja:∀c∈P,On bd.length W c)(x:Cell):((cE bd.length W 4 x).filter λy=>decide (y∈P)).length=Aj P x:=by
 refine len_same ((RiseC.nodup (hJ ..)).filter _) (hP.filter _) λy=>?_;rw[RG,RG,cW (.inl rfl),XI];exact⟨λh=>⟨h.2,h.1.2⟩,λh=>⟨⟨ja y h.1,h.2⟩,h.1⟩⟩
def sP(hg:Brd bd W)(hs:bd.length*W<64)(hw:Ways w){i:Nat}(hi:(aA bd W w)[i]? =some P):jV [brd bd,iW w, .int (i:Int)]=aa (.int (pU P P 0)):=by
 have N1:P∈aA bd W w:=Rn hi;have hP:=d6 hw P N1;have IM:P.Nodup:=RiseC.nodup (jz hw N1);have Dl:P.length<64:=by
  have:=ej IM λx hx=>aM.mpr (hP x hx);rw[bN] at this;omega
 have e:=(iE (put:=putN 6) (body:=dF [6] (CH 5 (d2 gS (dC (.int 4)) (dA bw (aC (aS 0 (bV (aw 3 aR (aC (dV 0) (aC (dV 6) (aC (dC (.int 4)) aN))))) (dS (d2 (jY false) (dV 0) (dV 5))) (dV 0)) aN))))) cD (λs:Int=>[fz (brd bd),fz (iW w),fz (.int (i:Int)),fz (cL P),fz (g6 P),fz (.int s),none]) (λs x=>s+(4 - (Aj P x:Int))) (λ_=>True) P 0 trivial λs _ x hx=>⟨trivial,_,rfl,by
  have hc:aS 0 (bV (aw 3 aR (aC (dV 0) (aC (dV 6) (aC (dC (.int 4)) aN))))) (dS (d2 (jY false) (dV 0) (dV 5))) (dV 0) [fz (brd bd),fz (iW w),fz (.int (i:Int)),fz (cL P),fz (g6 P),fz (.int s),fz (cD x)]=aa (cL ((cE bd.length W 4 x).filter λy=>decide (y∈P))):=by
   refine aW (Kh ((aq rfl rfl).trans (e8 hg (.inl rfl) (hP x hx)))) (k7 cD (λy=>decide (y∈P)) _ λy _=>?_) ?_
   ·rw[AH,show dS (d2 (jY false) (dV 0) (dV 5)) _=aa (decide (y∈P)) from gN ((aO rfl rfl).trans ((rV (by simp[aU])).trans (by rw[XH (by decide)];congr 2;rw[XR];exact iM)))];cases decide (y∈P)<;>rfl
   ·rw[QM,oz IM hP x,cI];exact RI (SS ..) (by omega)
  refine(bI (ρ':=[fz (brd bd),fz (iW w),fz (.int (i:Int)),fz (cL P),fz (g6 P),fz (.int (s+(4 - (Aj P x:Int)))),fz (cD x)]) ?_).trans rfl;show (d2 gS (dC (.int 4)) (dA bw (aC (aS 0 (bV (aw 3 aR (aC (dV 0) (aC (dV 6) (aC (dC (.int 4)) aN))))) (dS (d2 (jY false) (dV 0) (dV 5))) (dV 0)) aN)) [fz (brd bd),fz (iW w),fz (.int (i:Int)),fz (cL P),fz (g6 P),fz (.int s),fz (cD x)]>>=λd=>match d with | .int b=>aa (Out.nx [fz (brd bd),fz (iW w),fz (.int (i:Int)),fz (cL P),fz (g6 P),fz (.int (s+b)),fz (cD x)]) | _=>af)=_;rw[aO rfl ((aX (aH hc rfl)).trans (wz _)),oz IM hP x];rfl⟩).2
 exact a7 (ao ((aG ((aq rfl rfl).trans (lq hg hs hw hi))).trans rfl) (ao ((aG ((aq rfl rfl).trans (qB (by omega)))).trans rfl) (ao rfl (ao (eI (gj rfl e)) rfl))))
def vo(hg:Brd bd W)(hs:bd.length*W<64)(hw:Ways w){i:Nat}(hi:(aA bd W w)[i]? =some P):ju [brd bd,iW w, .int (i:Int)]=aa (.int (P.length:Int)):=
 a7 (aT ((aX (aH ((aq rfl rfl).trans (lq hg hs hw hi)) rfl)).trans (wz _)))
def o6(P:List Cell):List Int:=P.map λc=>(c.1:Int)
def nv(P:List Cell):List Int:=P.map λc=>(c.2:Int)
def NO(P:List Cell):D:= .tup [.int (fM (o6 P)), .int (fM (nv P)), .int (eF (o6 P)), .int (eF (nv P))]
def CC(h:ρ[i]? =some (fz (cL P)))(hl:P.length<64):aS 0 (bV (dV i)) bp (d2 bD (dV 0) (dC (.int 0))) ρ=aa (.lst ((o6 P).map D.int)):=by
 unfold o6;rw[Rj];exact aW (MW h) (bB cD (λc=> .int (c.1:Int)) P λc _=>rfl) (by rw[QM,cI];omega)
def AG(h:ρ[i]? =some (fz (cL P)))(hl:P.length<64):aS 0 (bV (dV i)) bp (d2 bD (dV 0) (dC (.int 1))) ρ=aa (.lst ((nv P).map D.int)):=by
 unfold nv;rw[Rj];exact aW (MW h) (bB cD (λc=> .int (c.2:Int)) P λc _=>rfl) (by rw[QM,cI];omega)
def f_(l:List Int):nums (l.map D.int)=some l:=by
 have:=r9 (g:=id) l;simpa using this
def El(h:0<l.length):j5 [.lst (l.map D.int)]=aa (.int (fM l)):=by
 show (match nums (l.map D.int) with | some ns=>if 0<ns.length then aa (D.int (fM ns)) else af | none=>af)=_;rw[f_];exact XG h
def BB(h:0<l.length):f6 [.lst (l.map D.int)]=aa (.int (eF l)):=by
 show (match nums (l.map D.int) with | some ns=>if 0<ns.length then aa (D.int (eF ns)) else af | none=>af)=_;rw[f_];exact XG h
def Gx(hP:0<P.length)(h1:ρ[i]? =some (fz (.lst ((o6 P).map D.int))))(h2:ρ[j]? =some (fz (.lst ((nv P).map D.int)))):
 dA cf (aC (dA j5 (aC (dV i) aN)) (aC (dA j5 (aC (dV j) aN)) (aC (dA f6 (aC (dV i) aN)) (aC (dA f6 (aC (dV j) aN)) aN)))) ρ=aa (NO P):=by
 have l1:0<(o6 P).length:=by unfold o6;rw[QM];exact hP
 have l2:0<(nv P).length:=by unfold nv;rw[QM];exact hP
 exact(aX (aH ((aX (aH (cO h1) rfl)).trans (El l1)) (aH ((aX (aH (cO h2) rfl)).trans (El l2)) (aH ((aX (aH (cO h1) rfl)).trans (BB l1)) (aH ((aX (aH (cO h2) rfl)).trans (BB l2)) rfl))))).trans rfl
def DG(hg:Brd bd W)(hs:bd.length*W<64)(hw:Ways w){i:Nat}(hi:(aA bd W w)[i]? =some P)(hP:0<P.length)(hl:P.length<64):uc [brd bd,iW w, .int (i:Int)]=aa (NO P):=
 a7 (ao ((aG ((aq rfl rfl).trans (lq hg hs hw hi))).trans rfl) (ao ((aG (CC rfl hl)).trans rfl) (ao ((aG (AG rfl hl)).trans rfl) (aT (Gx hP rfl rfl)))))
end
noncomputable def yz(bd:List Str)(W w:Nat):List (Nat×List Cell):=(aA bd W w).zipIdx.map λq:List Cell×Nat=>(q.2,q.1)
section
open Classical
variable{bd:List Str}{W w:Nat}
def Cv(h:q∈yz bd W w):(aA bd W w)[q.1]? =some q.2:=by
 obtain⟨p,hp,rfl⟩:=QU.mp h;exact Uq.mp hp
def u4(hs:bd.length*W<64)(hw:Ways w)(h:P∈aA bd W w):(∀c∈P,On bd.length W c)/\P.Nodup/\0<P.length/\P.length<64:=by
 have hP:=d6 hw P h;have IM:P.Nodup:=RiseC.nodup (jz hw h);refine⟨hP,IM,?_,?_⟩
 ·unfold aA at h;obtain⟨m,hm,rfl⟩:=QU.mp h;exact T6 (((a9 hw (dN hm)).mem m).mpr Cn.refl)
 ·have:=ej IM λx hx=>aM.mpr (hP x hx);rw[bN] at this;omega
def zg(R W:Nat)(q:Nat×List Cell):Bool:=q.2.any λc=>!mK R W c
noncomputable def FK(bd:List Str)(W:Nat)(l:List (Nat×List Cell)):List D:=l.flatMap λq=>if zg bd.length W q then [D.int (q.1:Int)] else []
def iB(XW g:α->D)(p:α->Bool):∀xs:List α,(∀x∈xs,f (XW x)=aa (if p x then some (g x) else none))->c_ f (xs.map XW)=aa (xs.flatMap λx=>if p x then [g x] else [])
 |[],_=>rfl
 |x::xs,h=>by
  rw[QX,dX,h x (QR ..),iB XW g p xs λy hy=>h y (QQ _ hy),S2];cases p x<;>rfl
def xJ(l:List (Nat×List Cell)):(FK bd W l).length<=l.length:=by
 have:=n5 (n:=1) (λq:Nat×List Cell=>if zg bd.length W q then [D.int (q.1:Int)] else []) (λq=>by split<;>simp) l;unfold FK;omega
def yd:(yz bd W w).length=(aA bd W w).length:=by simp[yz]
def tU(hg:Brd bd W)(hs:bd.length*W<64)(hw:Ways w):fU [brd bd,iW w]=aa (.lst (FK bd W (yz bd W w))):=by
 have hl:=e7 (bd:=bd) (W:=W) (w:=w);refine a7 (ao (cH ((aq rfl rfl).trans hg.nb)) (ao (cH ((aq rfl rfl).trans hw.nw)) (aT (aW ?_ (iB II (λq=> .int (q.1:Int)) (zg bd.length W) (yz bd W w) λq hq=>?_) ?_))))
 ·show ((aw 2 aL (aC (dV 0) (aC (dV 1) aN)) _>>=λx=>aa [x])>>=nE)=_;rw[show aw 2 aL (aC (dV 0) (aC (dV 1) aN)) _=aa (.lst ((aA bd W w).map cL)) from(aq rfl rfl).trans ((cB hg hs hw).trans (by rw[e_]))];exact XQ aa (lg _)
 ·obtain⟨h1,_,_,h4⟩:=u4 hs hw (Rn (Cv hq));have e:eS 2 (dJ (aw 2 bC (aC (dV 2) (aC (dV 1) aN)))) (dV 0) [fz (brd bd),fz (iW w)] (II q)=(dJ (aw 2 bC (aC (dV 2) (aC (dV 1) aN))) [fz (.int (q.1:Int)),fz (cL q.2),fz (brd bd),fz (iW w)]>>=λb=>if b then aa (some (D.int (q.1:Int))) else aa none):=rfl;refine e.trans ?_;rw[show dJ (aw 2 bC (aC (dV 2) (aC (dV 1) aN))) _=aa (zg bd.length W q) from rK ((aq rfl rfl).trans (y_ hg h1 (by omega)))];cases zg bd.length W q<;>rfl
 ·have:=xJ (bd:=bd) (W:=W) (yz bd W w);rw[yd] at this;rw[cI];show (FK bd W (yz bd W w)).length<=4096;omega
noncomputable def uC(bd:List Str)(W w:Nat):List Int:=(aA bd W w).map λP=>(P.length:Int)
def uA(hs:bd.length*W<64)(h:δ ρ=aa (.lst ((aA bd W w).map cL))):aS 0 (bV δ) bp (dA bw (aC (dV 0) aN)) ρ=aa (.lst ((uC bd W w).map D.int)):=by
 have hl:=e7 (bd:=bd) (W:=W) (w:=w);unfold uC;rw[Rj];exact aW (Bp h) (bB cL (λP=> .int (P.length:Int)) _ λP _=>by
  rw[fJ,show dA bw (aC (dV 0) aN) _=aa (.int (P.length:Int)) from(aX rfl).trans (wz _)];rfl) (by rw[QM,cI];omega)
noncomputable def NW(bd:List Str)(W w:Nat):D:= .int ((uC bd W w).idxOf (eF (uC bd W w)):Int)
def um(hg:Brd bd W)(hw:Ways w)(h:ρ[i]? =some (fz (.lst ((uC bd W w).map D.int)))):dM eZ qq (dV i) (aC (dA f6 (aC (dV i) aN)) aN) ρ=aa (NW bd W w):=by
 have hl:0<(uC bd W w).length:=by
  obtain⟨P,hP,_⟩:=gB hg hw (x:=(0,0)) ⟨hg.r1,hg.w1⟩;unfold uC;rw[QM];exact T6 hP
 show (dV i ρ>>=λd=>if eZ d then(aC (dA f6 (aC (dV i) aN)) aN ρ>>=λds=>qq d ds) else af)=_;rw[cO h,au,XG (show eZ (.lst ((uC bd W w).map D.int))=true from rfl),aH ((aX (aH (cO h) rfl)).trans (BB hl)) rfl,au];show (match nums ((uC bd W w).map D.int) with | some ns=>if ns.contains (eF (uC bd W w)) then aa (D.int (ns.idxOf (eF (uC bd W w)))) else af | none=>af)=_;rw[f_];exact XG (by simpa using (f7 hl).1)
def rR(hg:Brd bd W)(hs:bd.length*W<64)(hw:Ways w):eU [brd bd,iW w]=aa (NW bd W w):=
 a7 (ao (cH ((aq rfl rfl).trans hg.nb)) (ao (cH ((aq rfl rfl).trans hw.nw)) (ao ((aG (uA hs ((aq rfl rfl).trans ((cB hg hs hw).trans (by rw[e_]))))).trans rfl) (aT (um hg hw rfl)))))
def many(m:Nat)(hm:m<=64)(h:∀k:Nat,k<m->δ (fz (.int (k:Int))::ρ)=aa (g k)):aS 0 (λρ=>(aC (dC (.int (m:Int))) aN) ρ>>=fc) bp δ ρ=aa (.lst ((Rf m).map g)):=by
 refine aW (CA rfl (by omega)) (bB (λ(k:Nat)=>D.int (k:Int)) g (Rf m) λk hk=>?_) (by rw[QM,S1,cI];omega);rw[fJ,h k (RL.mp hk)];rfl
end
end K1
namespace K1
open PySem L2 L3 HT
def yO:∀l:List Nat,mS (l.map sg)=some (l.map λc=>(⟨#[c]⟩:Str))
 |[]=>rfl
 |c::r=>by
  show (mS (r.map sg)).map _=_;rw[yO r];rfl
def xF:∀l:List Nat,dI (l.map λc=>(⟨#[c]⟩:Str))=Es l
 |[]=>rfl
 |c::r=>by
  refine Fj ?_;show ((⟨#[c]⟩:Str)++dI (r.map λc=>(⟨#[c]⟩:Str))).cps.toList=_;rw[vQ,xF r,gO,gO];rfl
def CZ:∀l:List Nat,((l.map λc=>(⟨#[c]⟩:Str)).map (·.length)).sum=l.length
 |[]=>rfl
 |c::r=>by
  show 1+((r.map λc=>(⟨#[c]⟩:Str)).map (·.length)).sum=_;rw[CZ r,QV];omega
def Ec{l:List Nat}(h:l.length<=4096):joinM (.str "") [.lst (l.map sg)]=aa (.str (Es l)):=by
 show (match mS (l.map sg) with | some (xs:List Str)=>if ("":Str).length=0/\(xs.map λx:Str=>x.length).sum<=lim then aa (D.str (dI xs)) else af | none=>af)=_;rw[yO];show (if ("":Str).length=0/\((l.map λc=>(⟨#[c]⟩:Str)).map λx:Str=>x.length).sum<=lim then aa (D.str (dI (l.map λc=>(⟨#[c]⟩:Str)))) else af)=_;rw[XG ⟨rfl,by have:=CZ l;rw[cI];exact RI (Nat.le_of_eq this) h⟩,xF]
def xX(c:Nat):FZ ⟨#[c]⟩=decide (c∈[97,98,99,100,101,102]):=StrLaws.found_one "abcdef" c
abbrev L1:List Nat:=[97,98,99,100,101,102]
def Fc{W:Nat}{r:Str}(h:Row W r){c:Nat}(hc:c∈r.cps.toList):c∈[97,98,99,100,101,102]:=by
 have:=h.let' c hc;rw[xX] at this;exact XO this
def Dz(bd:List Str):List Nat:=(bd.map (·.cps.toList)).flatten
def uD{bd:List Str}{c:Nat}:c∈Dz bd↔∃r∈bd,c∈r.cps.toList:=by
 unfold Dz;rw[List.mem_flatten];constructor
 ·rintro⟨l,hl,h⟩;obtain⟨r,hr,rfl⟩:=QU.mp hl;exact⟨r,hr,h⟩
 ·rintro⟨r,hr,h⟩;exact⟨_,QU.mpr ⟨r,hr,rfl⟩,h⟩
def Au{bd:List Str}{W:Nat}(hg:Brd bd W){c:Nat}(h:c∈Dz bd):c∈L1:=by
 obtain⟨r,hr,h⟩:=uD.mp h;exact Fc (hg.rows r hr) h
def Ek{bd:List Str}{W:Nat}(hg:Brd bd W){c:Cell}(hc:On bd.length W c):lt bd c∈Dz bd:=by
 have h1:c.1<bd.length:=hc.1;have hr:(bd.getD c.1 ⟨#[]⟩).cps.toList.length=W:=(hg.rows _ (getD_mem h1)).len;have h2:c.2<(bd.getD c.1 ⟨#[]⟩).cps.toList.length:=by rw[hr];exact hc.2
 refine uD.mpr ⟨_,getD_mem h1,?_⟩;show ch (bd.getD c.1 ⟨#[]⟩) c.2∈_;generalize bd.getD c.1 ⟨#[]⟩=r at h2;unfold ch;rw[QS,QN h2];exact SO h2
def DD{bd:List Str}{i j:Nat}(hi:i<bd.length)(hj:j<bd[i].cps.toList.length):at2 bd i j=bd[i].cps.toList[j]:=by
 unfold at2 ch;rw[QS (l:=bd),QN hi,Xo,QS,QN hj,Xo]
def A5{α:Type}{l:List α}{i:Nat}{x:α}(h:l[i]? =some x)(hi:i<l.length):l[i]=x:=by
 rw[QN hi] at h;exact Rx h
def zE(R W:Nat)(g:Nat->Nat->Nat):List Str:=(Rf R).map λi=>Es ((Rf W).map (g i))
def j6(R W:Nat)(g:Nat->Nat->Nat):(zE R W g).length=R:=by simp[zE]
def En{R W:Nat}{g:Nat->Nat->Nat}:∀r∈zE R W g,r.length=W:=λr hr=>by
 obtain⟨i,_,rfl⟩:=QU.mp hr;rw[Eg,QM,S1]
def Hn{R W:Nat}{g:Nat->Nat->Nat}{i j:Nat}(hi:i<R)(hj:j<W):at2 (zE R W g) i j=g i j:=by
 have h1:i<(zE R W g).length:=by rw[j6];exact hi
 have e0:(zE R W g)[i]? =some (Es ((Rf W).map (g i))):=by
  unfold zE;rw[Q1,TJ hi];rfl
 have e1:(zE R W g)[i].cps.toList=(Rf W).map (g i):=by rw[A5 e0 h1,gO]
 have h2:j<(zE R W g)[i].cps.toList.length:=by rw[e1,QM,S1];exact hj
 rw[DD h1 h2];have:(zE R W g)[i].cps.toList[j]? =some (g i j):=by rw[e1,Q1,TJ hj];rfl
 exact A5 this h2
def BG{R W:Nat}{g:Nat->Nat->Nat}(r1:1<=R)(r5:R<=5)(w1:1<=W)(w5:W<=5)(h:∀i j,i<R->j<W->g i j∈L1):Good (zE R W g) W:=by
 refine⟨by rw[j6];exact r1,by rw[j6];exact r5,w1,w5,λr hr=>⟨En r hr,λc hc=>?_⟩⟩;obtain⟨i,hi,rfl⟩:=QU.mp hr;rw[gO] at hc;obtain⟨j,hj,rfl⟩:=QU.mp hc;exact(xX _).trans (XM (h i j (RL.mp hi) (RL.mp hj)))
def DC{bd:List Str}{W i j:Nat}(hg:Brd bd W)(hi:i<bd.length)(hj:j<W):at2 bd i j∈L1:=Au hg (Ek (c:=(i,j)) hg ⟨hi,hj⟩)
def turn(bd:List Str)(W:Nat):List Str:=zE W bd.length λi j=>at2 bd (bd.length - 1 - j) i
def vZ{bd:List Str}{W:Nat}(hg:Brd bd W){k:Nat}(hk:k<W):bG [brd bd, .int (k:Int)]=aa (.str (Es ((Rf bd.length).map λj=>at2 bd (bd.length - 1 - j) k))):=by
 have h8:=hg.r8;have cm:aS 0 (λρ=>(aC (dV 0) aN) ρ>>=Cz) bp (d2 nL (dV 0) (dV 2)) [fz (brd bd),fz (.int (k:Int))]=aa (.lst (((Rf bd.length).map λj=>at2 bd (bd.length - 1 - j) k).map sg)):=by
  have e0:bd.reverse=(Rf bd.length).map λj=>bd.getD (bd.length - 1 - j) ⟨#[]⟩:=by
   refine Tb (by simp) λi h1 h2=>?_;have hi:i<bd.length:=by simpa using h1
   rw[Sf,TV,List.getElem_reverse,QS,QN (by omega)];rfl
  refine aW (ds:=bd.reverse.map D.str) ?_ ?_ (by simp[cI];omega)
  ·show aa ((bd.map D.str).reverse)=_;rw[List.map_reverse]
  ·rw[e0,Rj,Rj];refine bB (D.str∘λj=>bd.getD (bd.length - 1 - j) ⟨#[]⟩) _ _ λj hj=>?_;have hj:=RL.mp hj;have hl:k<(bd.getD (bd.length - 1 - j) ⟨#[]⟩).length:=by rw[(hg.rows _ (getD_mem (by omega))).len];exact hk
   rw[fJ];show (nL (.str (bd.getD (bd.length - 1 - j) ⟨#[]⟩)) (.int (k:Int))>>=λy=>aa (some y))=_;rw[yI hl];rfl
 refine a7 (aT ?_);show (if G_ (.str "") then((aC _ aN) [fz (brd bd),fz (.int (k:Int))]>>=λds=>joinM (.str "") ds) else af)=_;rw[XG (show G_ (.str "")=true from rfl),aH cm (xs:=[]) rfl,au];exact Ec (by simp;omega)
def xn{bd:List Str}{W:Nat}(hg:Brd bd W):gW [brd bd]=aa (brd (turn bd W)):=by
 have w8:=hg.w8;refine a7 (ao (cH ((aq (ds:=[brd bd]) rfl rfl).trans hg.nb)) (aT ?_));refine(aX (xs:=[.lst ((turn bd W).map D.str)]) (aH (aW (CA (n:=W) (hg.len0 (i:=0) rfl) (by omega)) (ys:=(turn bd W).map D.str) ?_ (by rw[QM];unfold turn;rw[j6,cI];omega)) rfl)).trans rfl;unfold turn zE;rw[Rj];refine bB (λ(k:Nat)=>D.int (k:Int)) _ _ λk hk=>?_;rw[fJ,(aq (ds:=[brd bd, .int (k:Int)]) rfl rfl:aw 2 bG (aC (dV 1) (aC (dV 0) aN)) _=_),vZ hg (RL.mp hk)];rfl
def z_{bd:List Str}{W:Nat}(hG:Good bd W):Good (turn bd W) bd.length:=BG hG.w1 hG.w5 hG.r1 hG.r5 λi j hi hj=>DC hG.brd (by omega) hi
def gm(bd:List Str)(W:Nat):(turn bd W).length=W:=j6 ..
def yN{bd:List Str}{W i j:Nat}(hi:i<W)(hj:j<bd.length):at2 (turn bd W) i j=at2 bd (bd.length - 1 - j) i:=Hn hi hj
end K1
namespace K1
open PySem L2 L3
structure Iso (a a':List Str) (W W' w:Nat) (φ:Cell->Cell):Prop where
 on:∀x,On a.length W x->On a'.length W' (φ x)
 nx:∀x y,On a.length W x->On a.length W y->gb w x y=true->gb w (φ x) (φ y)=true
 lt:∀x,On a.length W x->lt a' (φ x)=lt a x
section
open Classical
variable{a a':List Str}{W W' w:Nat}{φ ψ:Cell->Cell}
def Iso.rb(h:Iso a a' W W' w φ)(hw:Ways w){x:Cell}(hx:On a.length W x):∀{j:Nat}{y:Cell},Rb (bq a W w) x j y->Rb (bq a' W' w) (φ x) j (φ y)
 |0,y,q=>XQ φ q
 |j+1,y,q=>q.elim (λq=> .inl (h.rb hw hx q)) λ⟨z,q1,q2⟩=>by
  have hz:=yC hw hx q1;have hy:=(eQ hw).mp q2;exact .inr ⟨φ z,h.rb hw hx q1,(eQ hw).mpr ⟨h.on y hy.1,h.nx z y hz hy.1 hy.2.1,by rw[h.lt y hy.1,h.lt z hz,hy.2.2]⟩⟩
def Iso.cn(h:Iso a a' W W' w φ)(hw:Ways w){x y:Cell}(hx:On a.length W x)(q:Cn a W w x y):Cn a' W' w (φ x) (φ y):=let ⟨j,q⟩:=q;⟨j,h.rb hw hx q⟩
def qS(hw:Ways w){x:Cell}(hx:On a.length W x):(aF a W w x).Nodup:=RiseC.nodup (a9 hw hx).rise
structure Iso2 (a a':List Str) (W W' w:Nat) (φ ψ:Cell->Cell):Prop where
 f:Iso a a' W W' w φ
 g:Iso a' a W' W w ψ
 fg:∀x,On a.length W x->ψ (φ x)=x
 gf:∀x,On a'.length W' x->φ (ψ x)=x
def iP(hw:Ways w){P:List Cell}(hP:P∈aA a W w){x:Cell}(hx:x∈P):aF a W w x=P:=by
 obtain⟨m,hm,rfl⟩:=QU.mp (show P∈(cC a W w (aZ a.length W)).map (aF a W w) from hP);have IT:=dN hm;have h1:=a9 hw IT;have hc:=(h1.mem x).mp hx;have h2:=a9 hw (hc.on hw IT);exact qZ h2.rise h1.rise λy=>by
  rw[h2.mem,h1.mem];exact⟨λq=>hc.trans q,λq=>(hc.symm hw IT).trans q⟩
def AM{V i j:Nat}(hi:i<V)(hj:j<V):fK (V - 1 - i) (V - 1 - j)=fK i j:=by unfold fK;omega
def LR(n:Nat)(x:Cell):Cell:=(x.2,n - 1 - x.1)
def LS(n:Nat)(x:Cell):Cell:=(n - 1 - x.2,x.1)
def Bo:Iso2 a (turn a W) W a.length w (LR a.length) (LS a.length) where
 f:=⟨λx h=>⟨by rw[gm];exact h.2,by show a.length - 1 - x.1<_;have:=h.1;omega⟩,λx y hx hy h=>by
  unfold gb LR at*;simp only[AM hx.1 hy.1,Uc (fK x.2 y.2),Nat.max_comm (fK x.2 y.2)];exact h,λx h=>by
  have h1:=h.1;show at2 (turn a W) x.2 (a.length - 1 - x.1)=at2 a x.1 x.2;rw[yN h.2 (by omega)];congr 1;omega⟩
 g:=⟨λx h=>by
  rw[gm] at h;exact⟨by show a.length - 1 - x.2<_;have:=h.2;omega,h.1⟩,λx y hx hy h=>by
  unfold gb LS at*;simp only[AM hx.2 hy.2,Uc (fK x.2 y.2),Nat.max_comm (fK x.2 y.2)];exact h,λx h=>by
  rw[gm] at h;exact(yN h.1 h.2).symm⟩
 fg:=λx h=>U9 (by show a.length - 1 - (a.length - 1 - x.1)=x.1;have:=h.1;omega) rfl
 gf:=λx h=>U9 rfl (by show a.length - 1 - (a.length - 1 - x.2)=x.2;have:=h.2;omega)
end
end K1
namespace K1
open PySem PySem.Spec L2 L3
section
open Classical
noncomputable def kU(R W:Nat):List (Cell×Cell):=(aZ R W).flatMap λx=>(cE R W 4 x).map λy=>(x,y)
def cV{p:Cell×Cell}:p∈kU R W↔On R W p.1/\On R W p.2/\gb 4 p.1 p.2=true:=by
 unfold kU;rw[Uh];constructor
 ·rintro⟨x,hx,h⟩;obtain⟨y,hy,rfl⟩:=QU.mp h;exact⟨aM.mp hx,(cW (.inl rfl)).mp hy⟩
 ·rintro⟨h1,h2⟩;exact⟨p.1,aM.mpr h1,QU.mpr ⟨p.2,(cW (.inl rfl)).mpr h2,rfl⟩⟩
def n_{α β:Type}{f:α->β}{l:List α}(hn:l.Nodup)(h:∀a∈l,∀b∈l,f a=f b->a=b):(l.map f).Nodup:=by
 refine Sq.mpr ?_;induction l with
 |nil=>exact .nil
 |cons x l ih=>
  have hn:=RZ.mp hn;exact RF.mpr ⟨λb hb z=>hn.1 (by rw[h x (QR ..) b (QQ _ hb) z];exact hb),ih hn.2 λa ha b hb=>h a (QQ _ ha) b (QQ _ hb)⟩
def rl:(kU R W).Nodup:=by
 unfold kU;refine UY.mpr ⟨λx _=>n_ (RiseC.nodup (hJ ..)) λa _ b _ z=>XQ Prod.snd z,?_⟩;refine Sv (λ{a b} h x hx y hy z=>?_) (RiseC.nodup (dw R W));obtain⟨_,_,rfl⟩:=QU.mp hx;obtain⟨_,_,rfl⟩:=QU.mp hy;exact h (XQ Prod.fst z)
def tY(q:Cell->Cell->Bool):(kU R W).countP (λp=>q p.1 p.2)=((aZ R W).map λx=>(cE R W 4 x).countP (q x)).sum:=by
 unfold kU;rw[List.countP_flatMap];congr 1;refine RM λx _=>?_;show List.countP _ (List.map _ _)=_;rw[List.countP_map];rfl
def CO(f:Cell->Nat)(k:Cell):tN R W f k=(kU R W).countP λp=>Ao f k p.1 p.2:=by
 rw[tY (λx y=>Ao f k x y)];unfold tN;congr 1;exact RM λx _=>(RO ..).symm
def rH{α:Type}{p q:α->Bool}{l:List α}(h:∀a∈l,p a=true->q a=false):l.countP (λa=>p a||q a)=l.countP p+l.countP q:=by
 rw[RO,RO,RO,Bz h]
def jO{α β:Type}{a:List α}{b:List β}{f:α->β}{p:α->Bool}{q:β->Bool}(h:(a.map f).Perm b)(e:∀x∈a,p x=q (f x)):a.countP p=b.countP q:=by
 rw[<-h.countP_eq,List.countP_map];exact SE λx hx=>by rw[e x hx];rfl
def vA{α:Type}(key:α->Cell)(sel:α->Bool)(l:List α):∀ks:List Cell,ks.Nodup->(ks.map λk=>l.countP λa=>sel a&&decide (key a=k)).sum=l.countP λa=>sel a&&decide (key a∈ks)
 |[],_=>by simp
 |k::ks,hn=>by
  have hn:=RZ.mp hn;rw[QX,Se,vA key sel l ks hn.2,<-rH]
  ·refine SE λa _=>?_;rw[TZ,Q6,Q6,Q6,XI,XI,XI,Q9];constructor
   ·rintro(⟨h1,h2⟩ | ⟨h1,h2⟩)
    ·exact⟨h1, .inl h2⟩
    ·exact⟨h1, .inr h2⟩
   ·rintro⟨h1,h2 | h2⟩
    ·exact .inl ⟨h1,h2⟩
    ·exact .inr ⟨h1,h2⟩
  ·intro a _ h;rw[Q6,XI] at h;rw[XJ (by rw[h.2];exact hn.1),Ve]
def tR:((kU R W).map λp=>(p.2,p.1)).Perm (kU R W):=by
 refine(Sm (n_ rl λa _ b _ z=>U9 (XQ Prod.snd z) (XQ Prod.fst z)) rl).mpr λp=>?_;rw[QU];constructor
 ·rintro⟨q,hq,rfl⟩;obtain⟨h1,h2,h3⟩:=cV.mp hq;exact cV.mpr ⟨h2,h1,by rw[oC];exact h3⟩
 ·intro hp;obtain⟨h1,h2,h3⟩:=cV.mp hp;exact⟨(p.2,p.1),cV.mpr ⟨h2,h1,by rw[oC];exact h3⟩,rfl⟩
def CY{f:Cell->Nat}{ks:List Cell}(hn:ks.Nodup)(hk:∀k,k∈ks↔Ar R W f k)(t:Cell->Bool):((ks.filter t).map λk=>tN R W f k).sum=(kU R W).countP λp=>decide (f p.1<f p.2)&&t (f p.1,f p.2):=by
 have h:=vA (λp:Cell×Cell=>(f p.1,f p.2)) (λp=>decide (f p.1<f p.2)) (kU R W) (ks.filter t) (hn.filter _);rw[RM (λk _=>by
  rw[CO];exact SE λp _=>by unfold Ao;rw[Q6,XI,XI,XI]:∀k∈ks.filter t,tN R W f k=(kU R W).countP λp=>decide (f p.1<f p.2)&&decide ((f p.1,f p.2)=k)),h]
 refine SE λp hp=>?_;obtain⟨h1,h2,h3⟩:=cV.mp hp;rw[Q6,Q6,XI,XI,RG];exact⟨λh=>⟨h.1,h.2.2⟩,λh=>⟨h.1,(hk _).mpr ⟨p.1,p.2,h1,h2,h3,h.1,rfl⟩,h.2⟩⟩
def Fo{f:Cell->Nat}{ks:List Cell}(hn:ks.Nodup)(hk:∀k,k∈ks↔Ar R W f k)(i:Nat):((ks.filter λk=>decide (i=k.1)||decide (i=k.2)).map λk=>tN R W f k).sum=(kU R W).countP λp=>decide (f p.1=i)&&decide (f p.2≠i):=by
 rw[CY hn hk];have e1:(kU R W).countP (λp=>decide (f p.1<f p.2)&&(decide (i=(f p.1,f p.2).1)||decide (i=(f p.1,f p.2).2)))=(kU R W).countP (λp=>decide (f p.1<f p.2)&&decide (f p.1=i))+(kU R W).countP (λp=>decide (f p.1<f p.2)&&decide (f p.2=i)):=by
  rw[<-rH]
  ·refine SE λp _=>?_;simp only[TZ,Q6,XI];constructor
   ·rintro⟨h1,h2 | h2⟩
    ·exact .inl ⟨h1,h2.symm⟩
    ·exact .inr ⟨h1,h2.symm⟩
   ·rintro(⟨h1,h2⟩ | ⟨h1,h2⟩)
    ·exact⟨h1, .inl h2.symm⟩
    ·exact⟨h1, .inr h2.symm⟩
  ·intro p _ h;simp only[Q6,XI] at h;rw[XJ (p:=f p.2=i) (by omega),Ve]
 have e2:(kU R W).countP (λp=>decide (f p.1<f p.2)&&decide (f p.2=i))=(kU R W).countP (λp=>decide (f p.2<f p.1)&&decide (f p.1=i)):=jO tR λp _=>rfl;rw[e1,e2,<-rH]
 ·refine SE λp _=>?_;simp only[TZ,Q6,XI];omega
 ·intro p _ h;simp only[Q6,XI] at h;rw[XJ (p:=f p.2<f p.1) (by omega),Wn]
def yK{f:Cell->Nat}{ks:List Cell}(hn:ks.Nodup)(hk:∀k,k∈ks↔Ar R W f k):2*(ks.map λk=>tN R W f k).sum=(kU R W).countP λp=>decide (f p.1≠f p.2):=by
 have h:=CY hn hk λ_=>true;rw[List.filter_eq_self.mpr λ_ _=>rfl] at h;have e1:(kU R W).countP (λp=>decide (f p.1<f p.2)&&true)=(kU R W).countP (λp=>decide (f p.2<f p.1)&&true):=jO tR λp _=>rfl;have e3:(kU R W).countP (λp=>decide (f p.1≠f p.2))=(kU R W).countP (λp=>decide (f p.1<f p.2)&&true)+(kU R W).countP (λp=>decide (f p.2<f p.1)&&true):=by
  rw[<-rH]
  ·refine SE λp _=>?_;simp only[TZ,Q6,XI,and_true];omega
  ·intro p _ h;simp only[Q6,XI,and_true] at h;rw[XJ (p:=f p.2<f p.1) (by omega),Wn]
 omega
def Ga(R W:Nat)(x:Cell):Nat:=(if x.1=0 then 1 else 0)+(if x.1+1=R then 1 else 0)+(if x.2=0 then 1 else 0)+(if x.2+1=W then 1 else 0)
def LG(R W:Nat)(x:Cell):List Cell:=((if 0<x.1 then [(x.1 - 1,x.2)] else [])++(if x.1+1<R then [(x.1+1,x.2)] else []))++((if 0<x.2 then [(x.1,x.2 - 1)] else [])++(if x.2+1<W then [(x.1,x.2+1)] else []))
def Dc{r R:Nat}(h:r<R):((if 0<r then 1 else 0)+(if r+1<R then 1 else 0))+((if r=0 then 1 else 0)+(if r+1=R then 1 else 0))=2:=by
 split<;>split<;>split<;>split<;>omega
def len_ite{α:Type}{p:Prop}{a:α}[Decidable p]:(if p then [a] else []).length=if p then 1 else 0:=by split<;>rfl
def four{x:Cell}(hx:On R W x):(cE R W 4 x).length+Ga R W x=4:=by
 obtain⟨r,c⟩:=x;obtain⟨h1,h2⟩:=hx;have h1:r<R:=h1;have h2:c<W:=h2;have e:(cE R W 4 (r,c)).length=(LG R W (r,c)).length:=by
  refine len_same (RiseC.nodup (hJ ..)) ?_ λy=>?_
  ·unfold LG
   dsimp only
   split<;>split<;>split<;>split<;>simp<;>omega
  ·obtain⟨a,b⟩:=y;rw[cW (.inl rfl)];unfold LG gb fK On;simp only[R0,List.mem_ite_nil_right,TU,Prod.mk.injEq,if_true,XI];omega
 rw[e];unfold LG Ga;simp only[Q2,len_ite];have:=Dc h1;have:=Dc h2;omega
end
section
open Classical
variable{bd:List Str}{W w:Nat}
def kz(P:List Cell):∀(l:List Cell) (a:Int),pU P l a=a+4*(l.length:Int) - ((l.map (Aj P)).sum:Nat)
 |[],a=>by simp[pU]
 |x::l,a=>by
  show pU P l (a+(4 - (Aj P x:Int)))=_;rw[kz P l,QX,Se,QV];omega
def tm{α:Type}{f g h:α->Nat}:∀{l:List α},(∀x∈l,f x+g x=h x)->(l.map f).sum+(l.map g).sum=(l.map h).sum
 |[],_=>rfl
 |x::l,e=>by
  have:=tm λy hy=>e y (QQ _ hy);have:=e x (QR ..);simp only[QX,Se];omega
def ri{α:Type}{c:Nat}:∀{l:List α},(l.map λ_=>c).sum=c*l.length
 |[]=>rfl
 |x::l=>by rw[QX,Se,ri,QV,Nat.mul_succ,Uc]
def Num(bd:List Str)(W w:Nat)(f:Cell->Nat):Prop:=∀x,On bd.length W x->∃P,(aA bd W w)[f x]? =some P/\x∈P
def r6{f:Cell->Nat}{i:Nat}(hw:Ways w)(hf:Num bd W w f)(hi:(aA bd W w)[i]? =some P){x:Cell}:x∈P↔On bd.length W x/\f x=i:=by
 constructor
 ·intro hx;have ho:=d6 hw P (Rn hi) x hx;obtain⟨Q,h1,h2⟩:=hf x ho;exact⟨ho,xW hw h1 hi h2 hx⟩
 ·rintro⟨ho,rfl⟩;obtain⟨Q,h1,h2⟩:=hf x ho;rw[hi] at h1;cases h1;exact h2
def Ik{f:Cell->Nat}{ks P:List Cell}{i:Nat}(hw:Ways w)(hf:Num bd W w f)(hn:ks.Nodup)(hk:∀k,k∈ks↔Ar bd.length W f k)(hi:(aA bd W w)[i]? =some P):
 pU P P 0=((((ks.filter λk=>decide (i=k.1)||decide (i=k.2)).map λk=>tN bd.length W f k).sum:Nat):Int)+((P.map (Ga bd.length W)).sum:Nat):=by
 have hP:P.Nodup:=RiseC.nodup (jz hw (Rn hi));have ja:=d6 hw P (Rn hi);have e1:(kU bd.length W).countP (λp=>decide (f p.1=i)&&decide (f p.2≠i))=(P.map λx=>(cE bd.length W 4 x).countP λy=>decide (f y≠i)).sum:=by
  rw[tY (λx y=>decide (f x=i)&&decide (f y≠i))];have:((aZ bd.length W).filter λx=>decide (f x=i)).Perm P:=(Sm ((RiseC.nodup (dw _ _)).filter _) hP).mpr λx=>by
   rw[RG,aM,XI,r6 hw hf hi]
  rw[<-(this.map _).sum_nat,<-yJ];congr 1;refine RM λx _=>?_;by_cases h:f x=i
  ·simp[h]
  ·simp[h]
 have e2:∀x∈P,(cE bd.length W 4 x).countP (λy=>decide (f y≠i))+Aj P x=(cE bd.length W 4 x).length:=λx hx=>by
  rw[<-oz (bd:=bd) (W:=W) hP ja x,<-RO,List.length_eq_countP_add_countP (λy=>decide (y∈P)),Uc];congr 1;refine SE λy hy=>?_;have ho:=((cW (.inl rfl)).mp hy).1;rw[XI,XI,XI,r6 hw hf hi];exact⟨λh z=>h z.2,λh z=>h ⟨ho,z⟩⟩
 have s1:=tm e2;have s2:=tm (l:=P) (f:=λx=>(cE bd.length W 4 x).length) (g:=Ga bd.length W) (h:=λ_=>4) λx hx=>four (ja x hx);rw[ri] at s2;rw[Fo hn hk,e1,kz];omega
def jP{α:Type}(g:α->Int)(v:Int):∀l:List α,(l.map g).count v=(l.map λx=>if g x=v then 1 else 0).sum
 |[]=>rfl
 |x::l=>by
  rw[QX,List.count_cons,jP g v l,QX,Se,Uc];congr 1;by_cases h:g x=v<;>simp[h]
def HD{R W:Nat}{P:List Cell}:(P.map (Ga R W)).sum=(o6 P).count 0+(o6 P).count ((R:Int) - 1)+(nv P).count 0+(nv P).count ((W:Int) - 1):=by
 unfold o6 nv;rw[jP,jP,jP,jP,<-kF,<-kF,<-kF];congr 1;refine RM λx _=>?_;unfold Ga;simp only[show ((x.1:Int)=0)=(x.1=0) from propext (by omega),show ((x.2:Int)=0)=(x.2=0) from propext (by omega),show ((x.1:Int)=(R:Int) - 1)=(x.1+1=R) from propext (by omega),show ((x.2:Int)=(W:Int) - 1)=(x.2+1=W) from propext (by omega)]
variable{a a':List Str}{W':Nat}{φ ψ:Cell->Cell}
def lr(hw:Ways w){P:List Cell}(hP:P∈aA a W w):∃x,x∈P:=by
 unfold aA at hP;obtain⟨m,hm,rfl⟩:=QU.mp hP;exact⟨m,((a9 hw (dN hm)).mem m).mpr Cn.refl⟩
def qR(hw:Ways w):(aA a W w).Nodup:=Sa.mpr λi j hi hj gZ z=>by
 obtain⟨x,hx⟩:=lr hw (SO hi);have:=xW hw (QN hi) (QN hj) hx (z▸hx);omega
def Iso2.patches{β:Type}(h:Iso2 a a' W W' w φ ψ)(hg:Brd a W)(wg:Brd a' W')(hw:Ways w)(g g':List Cell->β)(e:∀x,On a.length W x->g' (aF a' W' w (φ x))=g (aF a W w x)):((aA a' W' w).map g').Perm ((aA a W w).map g):=by
 let T:List Cell->List Cell:=λP=>aF a' W' w (φ (P.headD (0,0)))
 have hd:∀P∈aA a W w,P.headD (0,0)∈P/\On a.length W (P.headD (0,0))/\aF a W w (P.headD (0,0))=P:=λP hP=>by
  have hm:P.headD (0,0)∈P:=by
   obtain⟨x,hx⟩:=lr hw hP;cases P with
   |nil=>cases hx
   |cons x P=>exact QR ..
  exact⟨hm,d6 hw P hP _ hm,iP hw hP hm⟩
 have own:∀{b:List Str}{V:Nat}{x y:Cell},On b.length V x->Cn b V w x y->aF b V w y=aF b V w x:=λ{b V x y} hx hc=>by
  unfold aF;refine List.filter_congr λz _=>?_;exact XR.mpr ⟨λq=>hc.trans q,λq=>(hc.symm hw hx).trans q⟩
 have hp:((aA a W w).map T).Perm (aA a' W' w):=by
  refine(Sm (n_ (qR hw) λP hP Q hQ z=>?_) (qR hw)).mpr λQ=>?_
  ·obtain⟨p1,p2,p3⟩:=hd P hP;obtain⟨q1,q2,q3⟩:=hd Q hQ;have z:aF a' W' w (φ (P.headD (0,0)))=aF a' W' w (φ (Q.headD (0,0))):=z;have:φ (Q.headD (0,0))∈aF a' W' w (φ (P.headD (0,0))):=by
    rw[z];exact((a9 hw (h.f.on _ q2)).mem _).mpr Cn.refl
   have c:=h.g.cn hw (h.f.on _ p2) (((a9 hw (h.f.on _ p2)).mem _).mp this);rw[h.fg _ p2,h.fg _ q2] at c;rw[<-p3,<-q3,own p2 c]
  ·rw[QU];constructor
   ·rintro⟨P,hP,rfl⟩;obtain⟨p1,p2,p3⟩:=hd P hP;obtain⟨Q,q1,q2⟩:=gB wg hw (h.f.on _ p2);show aF a' W' w (φ (P.headD (0,0)))∈_;rw[iP hw q1 q2];exact q1
   ·intro hQ;obtain⟨y,y1⟩:=lr hw hQ;have y2:=d6 hw Q hQ y y1;obtain⟨P,p1,p2⟩:=gB hg hw (h.g.on y y2);obtain⟨h1,h2,h3⟩:=hd P p1;refine⟨P,p1,?_⟩;show aF a' W' w (φ (P.headD (0,0)))=Q;have c:Cn a W w (P.headD (0,0)) (ψ y):=((a9 hw h2).mem _).mp (by rw[h3];exact p2);have c:=h.f.cn hw h2 c;rw[h.gf y y2] at c;rw[<-own (h.f.on _ h2) c,iP hw hQ y1]
 refine((hp.map g').symm.trans ?_);rw[Rj];refine .of_eq (RM λP hP=>?_);obtain⟨_,h2,h3⟩:=hd P hP;show g' (aF a' W' w (φ (P.headD (0,0))))=_;rw[e _ h2,h3]
end
section
open Classical
variable{a a':List Str}{W W' w:Nat}{φ ψ:Cell->Cell}
def Iso2.inj(h:Iso2 a a' W W' w φ ψ){x y:Cell}(hx:On a.length W x)(hy:On a.length W y)(e:φ x=φ y):x=y:=by rw[<-h.fg x hx,e,h.fg y hy]
def Iso2.same(h:Iso2 a a' W W' w φ ψ){x y:Cell}(hx:On a.length W x)(hy:On a.length W y):gb w x y=gb w (φ x) (φ y):=by
 rw[VZ];refine⟨h.f.nx x y hx hy,λq=>?_⟩;have:=h.g.nx _ _ (h.f.on x hx) (h.f.on y hy) q;rw[h.fg x hx,h.fg y hy] at this;exact this
def Iso2.pperm(h:Iso2 a a' W W' w φ ψ)(hw:Ways w){x:Cell}(hx:On a.length W x):((aF a W w x).map φ).Perm (aF a' W' w (φ x)):=by
 have hP:=a9 hw hx;have IL:=a9 hw (h.f.on x hx);refine(Sm (n_ (qS hw hx) λy hy z hz e=>h.inj (((hP.mem y).mp hy).on hw hx) (((hP.mem z).mp hz).on hw hx) e) (qS hw (h.f.on x hx))).mpr λy=>?_;rw[QU];constructor
 ·rintro⟨z,hz,rfl⟩;exact(IL.mem _).mpr (h.f.cn hw hx ((hP.mem z).mp hz))
 ·intro hy;have c:=(IL.mem y).mp hy;have c2:=h.g.cn hw (h.f.on x hx) c;rw[h.fg x hx] at c2;exact⟨ψ y,(hP.mem _).mpr c2,h.gf y (c.on hw (h.f.on x hx))⟩
def Iso2.rim(h:Iso2 a a' W W' w φ ψ)(h4:Iso2 a a' W W' 4 φ ψ)(hw:Ways w){x:Cell}(hx:On a.length W x):pU (aF a' W' w (φ x)) (aF a' W' w (φ x)) 0=pU (aF a W w x) (aF a W w x) 0:=by
 have hp:=h.pperm hw hx;have ja:∀y∈aF a W w x,On a.length W y:=λy hy=>(((a9 hw hx).mem y).mp hy).on hw hx;have hl:=hp.length_eq;rw[QM] at hl;have e:((aF a' W' w (φ x)).map (Aj (aF a' W' w (φ x)))).sum=((aF a W w x).map (Aj (aF a W w x))).sum:=by
  rw[<-(hp.map _).sum_nat,Rj];congr 1;refine RM λy hy=>?_;show Aj _ (φ y)=Aj _ y;unfold Aj;rw[<-RO,<-RO];exact(jO hp λz hz=>h4.same (ja y hy) (ja z hz)).symm
 rw[kz,kz,e,hl]
def BS{f:Cell->Nat}(hw:Ways w)(hf:Num a W w f){x y:Cell}(hx:On a.length W x)(hy:On a.length W y):f x=f y↔Cn a W w x y:=by
 obtain⟨P,p1,p2⟩:=hf x hx;have e:=iP hw (Rn p1) p2;rw[<-(a9 hw hx).mem y,e,r6 hw hf p1];exact⟨λh=>⟨hy,h.symm⟩,λh=>h.2.symm⟩
def Iso2.sides(h:Iso2 a a' W W' w φ ψ)(h4:Iso2 a a' W W' 4 φ ψ)(hw:Ways w){f f':Cell->Nat}(hf:Num a W w f)(Mm:Num a' W' w f'){ks ks':List Cell}(hn:ks.Nodup)(IU:ks'.Nodup)(hk:∀k,k∈ks↔Ar a.length W f k)(pJ:∀k,k∈ks'↔Ar a'.length W' f' k):
 (ks'.map λk=>tN a'.length W' f' k).sum=(ks.map λk=>tN a.length W f k).sum:=by
 have e:(kU a.length W).countP (λp=>decide (f p.1≠f p.2))=(kU a'.length W').countP (λp=>decide (f' p.1≠f' p.2)):=by
  refine jO (f:=λp=>(φ p.1,φ p.2)) ((Sm (n_ rl λp hp q hq z=>?_) rl).mpr λp=>?_) λp hp=>?_
  ·obtain⟨p1,p2,_⟩:=cV.mp hp;obtain⟨q1,q2,_⟩:=cV.mp hq;exact U9 (h.inj p1 q1 (XQ Prod.fst z)) (h.inj p2 q2 (XQ Prod.snd z))
  ·rw[QU];constructor
   ·rintro⟨q,hq,rfl⟩;obtain⟨q1,q2,q3⟩:=cV.mp hq;exact cV.mpr ⟨h.f.on _ q1,h.f.on _ q2,h4.f.nx _ _ q1 q2 q3⟩
   ·intro hp;obtain⟨p1,p2,p3⟩:=cV.mp hp;exact⟨(ψ p.1,ψ p.2),cV.mpr ⟨h.g.on _ p1,h.g.on _ p2,h4.g.nx _ _ p1 p2 p3⟩,U9 (h.gf _ p1) (h.gf _ p2)⟩
  ·obtain⟨p1,p2,_⟩:=cV.mp hp;refine XR.mpr (not_congr ?_);rw[BS hw hf p1 p2,BS hw Mm (h.f.on _ p1) (h.f.on _ p2)];refine⟨h.f.cn hw p1,λc=>?_⟩;have:=h.g.cn hw (h.f.on _ p1) c;rw[h.fg _ p1,h.fg _ p2] at this;exact this
 have s1:=yK hn hk;have s2:=yK IU pJ;omega
noncomputable def CD(bd:List Str)(W w:Nat):List (List Int):=(aA bd W w).map λP=>[pU P P 0,(P.length:Int)]
def Iso2.rims(h:Iso2 a a' W W' w φ ψ)(h4:Iso2 a a' W W' 4 φ ψ)(hg:Brd a W)(wg:Brd a' W')(hw:Ways w):sortI (CD a' W' w)=sortI (CD a W w):=
 vp (h.patches hg wg hw _ _ λx hx=>by
  have:=(h.pperm hw hx).length_eq;rw[QM] at this;rw[h.rim h4 hw hx,this])
end
end K1
namespace K1
open PySem PySem.Spec L2 L3
open PyProof.Rows hiding St
section
open Classical
variable{W:Nat}
def Kk(m:Nat)(hm:m<=64)(hn:δn ρ=aa (.int (m:Int)))(h:∀k:Nat,k<m->δ (fz (.int (k:Int))::ρ)=aa (g k)):aS 0 (λρ=>(aC δn aN) ρ>>=fc) bp δ ρ=aa (.lst ((Rf m).map g)):=by
 refine aW (CA hn (by omega)) (bB (λ(k:Nat)=>D.int (k:Int)) g (Rf m) λk hk=>?_) (by rw[QM,S1,cI];omega);rw[fJ,h k (RL.mp hk)];rfl
def nI{α β:Type}(p:α->Bool)(g:α->β):∀l:List α,(l.flatMap λx=>if p x then [g x] else [])=(l.filter p).map g
 |[]=>rfl
 |x::l=>by
  rw[S2,nI p g l,Sj];cases p x<;>rfl
def ne_self{d:D}(h:nG 6 d d=some true):xR d d=aa (.bl false):=by
 unfold xR;rw[h];rfl
def yL{l:List Int}(h:δ ρ=aa (.lst (l.map D.int))):dA mr (aC δ aN) ρ=aa (.int l.sum):=by
 refine(aX (aH h rfl)).trans ?_;show (match nums (l.map D.int) with | some ns=>aa (D.int ns.sum) | none=>af)=_;rw[f_]
def jN{l:List Int}{v:Int}(h:ρ[i]? =some (fz (.lst (l.map D.int))))(hv:δ ρ=aa (.int v)):dM eZ lS (dV i) (aC δ aN) ρ=aa (.int (l.count v:Nat)):=by
 show (dV i ρ>>=λd=>if eZ d then(aC δ aN ρ>>=λds=>lS d ds) else af)=_;rw[cO h,au,XG (show eZ (.lst (l.map D.int))=true from rfl),aH hv rfl,au];show (match nums (l.map D.int) with | some ns=>aa (D.int (ns.count v:Nat)) | none=>af)=_;rw[f_]
def C7{ks:List Cell}{g:Cell->Int}{i:Nat}(h:ρ[i]? =some (fz (z8 ks g))):bV (dV i) ρ=aa (ks.map λk=> .tup [cD k, .int (g k)]):=Bp (cO h)
def wR{ks:List Cell}{g:Cell->Int}{i:Nat}(hl:ks.length<=64)(h6:ρ[6]? =some (fz (z8 ks g)))(h9:ρ[9]? =some (fz (.int (i:Int)))):
 dA mr (aC (aS 2 (bV (dV 6)) (dS (d2 (iZ false) (dV 11) (dV 0))) (dV 1)) aN) ρ=aa (.int ((ks.filter λk=>decide (i=k.1)||decide (i=k.2)).map g).sum):=by
 refine yL (aW (C7 h6) (ys:=((ks.filter λk=>decide (i=k.1)||decide (i=k.2)).map g).map D.int) ?_ ?_)
 ·refine(iB (λk=> .tup [cD k, .int (g k)]) (λk=> .int (g k)) (λk=>decide (i=k.1)||decide (i=k.2)) ks λk _=>?_).trans (by rw[nI,Rj];rfl);have e:eS 2 (dS (d2 (iZ false) (dV 11) (dV 0))) (dV 1) ρ (.tup [cD k, .int (g k)])=(dS (d2 (iZ false) (dV 11) (dV 0)) (fz (cD k)::fz (.int (g k))::ρ)>>=λb=>if b then aa (some (.int (g k))) else aa none):=rfl;have e9:dV 11 (fz (cD k)::fz (.int (g k))::ρ)=aa (.int (i:Int)):=cO h9;have e2:d2 (iZ false) (dV 11) (dV 0) (fz (cD k)::fz (.int (g k))::ρ)=aa (.bl (decide (i=k.1)||decide (i=k.2))):=by
   refine(aO e9 (y:= .tup [.int (k.1:Int), .int (k.2:Int)]) rfl).trans ((G5 _ _ _).trans ?_);rw[show decide ((i:Int)=(k.1:Int))=decide (i=k.1) from XR.mpr (by omega),show decide ((i:Int)=(k.2:Int))=decide (i=k.2) from XR.mpr (by omega)]
  rw[e,gN e2,au];cases (decide (i=k.1)||decide (i=k.2))<;>rfl
 ·rw[QM,QM,cI];have:=SS (λk:Cell=>decide (i=k.1)||decide (i=k.2)) ks;omega
def K0{P:List Cell}{i:Nat}(h:ρ[i]? =some (fz (cL P)))(hl:P.length<64):aS 2 (bV (dV i)) bp (dV 0) ρ=aa (.lst ((o6 P).map D.int)):=by
 unfold o6;rw[Rj];exact aW (Bp (cO h)) (bB cD (λc=> .int (c.1:Int)) P λc _=>rfl) (by rw[QM,cI];omega)
def Jl{P:List Cell}{i:Nat}(h:ρ[i]? =some (fz (cL P)))(hl:P.length<64):aS 2 (bV (dV i)) bp (dV 1) ρ=aa (.lst ((nv P).map D.int)):=by
 unfold nv;rw[Rj];exact aW (Bp (cO h)) (bB cD (λc=> .int (c.2:Int)) P λc _=>rfl) (by rw[QM,cI];omega)
def jT(a b:Int):mJ (.int a) (.int b)=aa (.bl (a==b)):=by
 unfold mJ;rw[rN]
def DN{R W:Nat}{q:Nat×List Cell}(ja:∀c∈q.2,On R W c)(hp:0<q.2.length):(fM (o6 q.2)==0||(fM (nv q.2)==0||(eF (o6 q.2)==(R:Int) - 1||eF (nv q.2)==(W:Int) - 1)))=zg R W q:=by
 have l1:0<(o6 q.2).length:=by unfold o6;rw[QM];exact hp
 have l2:0<(nv q.2).length:=by unfold nv;rw[QM];exact hp
 obtain⟨a1,a2⟩:=iN l1;obtain⟨b1,b2⟩:=iN l2;obtain⟨c1,c2⟩:=f7 l1;obtain⟨d1,d2⟩:=f7 l2;obtain⟨a,ha,ea⟩:=QU.mp a1;obtain⟨b,hb,eb⟩:=QU.mp b1;obtain⟨c,hc,ec⟩:=QU.mp c1;obtain⟨d,hd,ed⟩:=QU.mp d1;rw[VZ];unfold zg;simp only[TZ,beq_iff_eq,List.any_eq_true];constructor
 ·rintro(h | h | h | h)
  ·refine⟨a,ha,?_⟩;unfold mK;simp only[Tu,SU,decide_eq_false_iff_not];omega
  ·refine⟨b,hb,?_⟩;unfold mK;simp only[Tu,SU,decide_eq_false_iff_not];omega
  ·refine⟨c,hc,?_⟩;unfold mK;simp only[Tu,SU,decide_eq_false_iff_not];omega
  ·refine⟨d,hd,?_⟩;unfold mK;simp only[Tu,SU,decide_eq_false_iff_not];omega
 ·rintro⟨x,hx,e⟩;unfold mK at e;simp only[Tu,SU,decide_eq_false_iff_not] at e;have r1:=a2 (x.1:Int) (QU.mpr ⟨x,hx,rfl⟩);have r2:=b2 (x.2:Int) (QU.mpr ⟨x,hx,rfl⟩);have r3:=c2 (x.1:Int) (QU.mpr ⟨x,hx,rfl⟩);have r4:=d2 (x.2:Int) (QU.mpr ⟨x,hx,rfl⟩);have o1:=(ja c hc).1;have o2:=(ja d hd).2;by_cases z1:x.1=0
  ·exact .inl (by omega)
  ·by_cases z2:x.2=0
   ·exact .inr (.inl (by omega))
   ·by_cases z3:x.1+1<R
    ·exact .inr (.inr (.inr (by omega)))
    ·exact .inr (.inr (.inl (by omega)))
end
section
open Classical
variable{bd:List Str}{W w:Nat}
def BL(a b:Int):xR (.tup [.int a, .int b]) (.tup [.int a, .int b])=aa (.bl false):=ne_self ((eP 5 [a,b] [a,b]).trans (by simp))
def CG{put:D->cp->Option cp}{d:D}(h:δ ρ=aa d)(hp:put d ρ=some ρ'):CF put δ ρ=aa (.nx ρ'):=by
 unfold CF;rw[h,au,hp]
noncomputable abbrev Ih(s:D)(bd:List Str)(w W:Nat)(T:D)(c8 c9 OK OL OM ON OO OP OQ OR OS OT OU:Option Sl):cp:=[fz s,fz (brd bd),fz (iW w),fz (.int (bd.length:Int)),fz (.int (W:Int)),fz (.lst ((aA bd W w).map cL)),fz T,fz (.lst ((uC bd W w).map D.int)),c8,c9,OK,OL,OM,ON,OO,OP,OQ,OR,OS,OT,OU]
noncomputable abbrev tD(R W:Nat)(f:Cell->Nat)(ks:List Cell):D:=z8 ks λk=>(tN R W f k:Int)
def pe(l:List Cell)(g:Cell->Nat):(l.map λk=>(g k:Int)).sum=((l.map g).sum:Nat):=by
 induction l with
 |nil=>rfl
 |cons x l ih=>rw[QX,Se,ih,QX,Se];omega
def Bx(hg:Brd bd W)(hs:bd.length*W<64)(hw:Ways w){f:Cell->Nat}{ks:List Cell}(hf:Num bd W w f)(hr:RiseC ks)(hk:∀k,k∈ks↔Ar bd.length W f k)(IP:ks.length<=64){q:Nat×List Cell}(hq:q∈yz bd W w)(s:D){u8:List D}(ha:u8.length<64):
 Hm (Ih s bd w W (tD bd.length W f ks) (fz (.lst u8)) (fz (.int (q.1:Int))) (fz (cL q.2)) none none none none none none none none none none)=aa (.nx (Ih s bd w W (tD bd.length W f ks) (fz (.lst (u8++if zg bd.length W q then [D.int (q.1:Int)] else []))) none none none none none none none none none none none none)):=by
 have hi:=Cv hq;obtain⟨p1,p2,p3,p4⟩:=u4 hs hw (Rn hi);have l1:0<(o6 q.2).length:=by unfold o6;rw[QM];exact p3
 have l2:0<(nv q.2).length:=by unfold nv;rw[QM];exact p3
 refine(bI (ρ':=Ih s bd w W (tD bd.length W f ks) (fz (.lst (u8++if zg bd.length W q then [D.int (q.1:Int)] else []))) (fz (.int (q.1:Int))) (fz (cL q.2)) (fz (.int ((((ks.filter λk=>decide (q.1=k.1)||decide (q.1=k.2)).map λk=>tN bd.length W f k).sum:Nat):Int))) (fz (.lst ((o6 q.2).map D.int))) (fz (.lst ((nv q.2).map D.int))) (fz (.int (((q.2.map (Ga bd.length W)).sum:Nat):Int))) (fz (.int (fM (o6 q.2)))) (fz (.int (fM (nv q.2)))) (fz (.int (eF (o6 q.2)))) (fz (.int (eF (nv q.2)))) none none) ?_).trans rfl;refine ao ((aG ((wR IP rfl rfl).trans (by rw[pe]))).trans rfl) ?_;refine ao ((aG (K0 rfl p4)).trans rfl) ?_;refine ao ((aG (Jl rfl p4)).trans rfl) ?_;refine ao ((aG ((aO (jN rfl rfl) (jN (v:=(bd.length:Int) - 1) rfl rfl)).trans rfl)).trans rfl) ?_;refine ao ((aG ((aO ((aO rfl (jN rfl rfl)).trans rfl) (jN (v:=(W:Int) - 1) rfl rfl)).trans (show _=aa (.int (((q.2.map (Ga bd.length W)).sum:Nat):Int)) by rw[HD];exact XQ (λi=>aa (D.int i)) (by omega)))).trans rfl) ?_;refine ao (dU (gN ((aO ((aq rfl rfl).trans (sP hg hs hw hi)) ((aO rfl rfl).trans rfl)).trans (by rw[Ik hw hf (RiseC.nodup hr) hk hi];exact ne_self ((rN 6 _ _).trans (by simp))))) rfl) ?_;refine ao (CG ((aq rfl rfl).trans (DG hg hs hw hi p3 p4)) rfl) ?_;refine ao (dU (gN ((aO ((aX rfl).trans rfl) ((aX (aH ((aX rfl).trans (El l1)) (aH ((aX rfl).trans (BB l1)) rfl))).trans rfl)).trans (BL (fM (o6 q.2)) (eF (o6 q.2))))) rfl) ?_;refine ao (dU (gN ((aO ((aX rfl).trans rfl) ((aX (aH ((aX rfl).trans (El l2)) (aH ((aX rfl).trans (BB l2)) rfl))).trans rfl)).trans (BL (fM (nv q.2)) (eF (nv q.2))))) rfl) ?_;refine(aG ((aO rfl ((aO rfl ((aX (aH (rJ ((aO rfl rfl).trans (jT _ _)) (rJ ((aO rfl rfl).trans (jT _ _)) (rJ ((aO rfl ((aO rfl rfl).trans rfl)).trans (jT _ _)) ((aO rfl ((aO rfl rfl).trans rfl)).trans (jT _ _))))) rfl)).trans rfl)).trans (show _=aa (.lst (if zg bd.length W q then [D.int (q.1:Int)] else [])) from ?_))).trans ?_)).trans rfl
 ·rw[DN p1 p3];cases zg bd.length W q<;>rfl
 ·show (if _ then _ else _)=_;exact XG (by rw[cI];split<;>simp<;>omega)
end
section
open Classical
variable{bd:List Str}{W w:Nat}
def BA{h:List Cell->D}(hs:bd.length*W<64)(hn:δn ρ=aa (.int ((aA bd W w).length:Int)))(hh:∀(k:Nat) (P:List Cell),(aA bd W w)[k]? =some P->δ (fz (.int (k:Int))::ρ)=aa (h P)):aS 0 (λρ=>(aC δn aN) ρ>>=fc) bp δ ρ=aa (.lst ((aA bd W w).map h)):=by
 have hl:=e7 (bd:=bd) (W:=W) (w:=w);refine(Kk (aA bd W w).length (by omega) hn (g:=λk=>h ((aA bd W w).getD k [])) λk hk=>?_).trans (XQ (λl=>aa (D.lst l)) ?_)
 ·have e:=QN hk;rw[QS,e];exact hh k _ e
 ·refine Tb (by simp) λi a1 a2=>?_;have hi:i<(aA bd W w).length:=by simpa using a2
  rw[Sf,Sf,TV,QS,QN hi];rfl
def n8(h:ρ[5]? =some (fz (.lst ((aA bd W w).map cL)))):dA bw (aC (dV 5) aN) ρ=aa (.int ((aA bd W w).length:Int)):=by
 refine(aX (aH (cO h) rfl)).trans ?_;show aa (D.int (((aA bd W w).map cL).length:Int))=_;rw[QM]
def u3{a b:Int}(h1:δ1 ρ=aa (.int a))(h2:δ2 ρ=aa (.int b)):dA cf (aC δ1 (aC δ2 aN)) ρ=aa (tupI [a,b]):=(aX (aH h1 (aH h2 rfl))).trans rfl
def nT:∀ks:List (List Int),gq (ks.map tupI)=some ks
 |[]=>rfl
 |k::ks=>by
  rw[QX];unfold gq;rw[nT ks,show F0 (tupI k)=some k from f_ k]
def vy{ks:List (List Int)}(hl:ks.length<64)(hn:∀k∈ks,k≠[])(h:δ ρ=aa (.lst (ks.map tupI))):dA vx (aC δ aN) ρ=aa (.lst ((sortI ks).map tupI)):=by
 refine(aX (aH h rfl)).trans ?_;show (match gq (ks.map tupI) with | some ks=>if Kr ks then aa (D.lst ((sortI ks).map tupI)) else af | none=>af)=_;rw[nT];refine XG ?_;unfold Kr;rw[Q6];refine⟨XM hl,Rt.mpr λk hk=>?_⟩;have:=hn k hk;cases k with
 |nil=>exact XN rfl this
 |cons _ _=>rfl
def AR:Aq 1 tupI:=λk x y=>by
 rw[Uc];exact(eP k x y).trans (by congr)
def zY(l:List (List Int)):nG 6 (.lst (l.map tupI)) (.lst (l.map tupI))=some true:=((DO AR) 4 l l).trans (by simp)
def Gh:∀k∈CD bd W w,k≠[]:=λk hk z=>by
 unfold CD at hk;obtain⟨P,_,rfl⟩:=QU.mp hk;cases z
def q_{ks:List Cell}{g:Cell->Int}(hl:ks.length<=64)(h:δ ρ=aa (z8 ks g)):dA mr (aC (aS 2 (bV δ) bp (dV 1)) aN) ρ=aa (.int (ks.map g).sum):=
 yL (aW (Bp h) ((bB (λk=> .tup [cD k, .int (g k)]) (λk=> .int (g k)) ks λk _=>rfl).trans (by rw[Rj];rfl)) (by rw[QM,QM,cI];omega))
def Ip{f:Cell->Nat}{k:Cell}(h:Ar bd.length W f k):0<tN bd.length W f k:=by
 obtain⟨x,y,hx,hy,h1,h2,rfl⟩:=h;rw[CO];exact List.countP_pos_iff.mpr ⟨(x,y),cV.mpr ⟨hx,hy,h1⟩,by unfold Ao;exact XM ⟨h2,rfl⟩⟩
def BR{f:Cell->Nat}{ks:List Cell}(hk:∀k,k∈ks↔Ar bd.length W f k)(h6:ρ[6]? =some (fz (tD bd.length W f ks))):
 aS 2 (bV (dV 6)) (tK (dS (d2 Jw (d2 bD (dV 0) (dC (.int 0))) (d2 bD (dV 0) (dC (.int 1))))) (dS (d2 GJ (dV 1) (dC (.int 1))))) (dV 0) ρ=aa (.lst []):=by
 refine aW (C7 h6) ((iB (λk=> .tup [cD k, .int (tN bd.length W f k:Int)]) (λk=>cD k) (λ_=>false) ks λk pJ=>?_).trans (XQ aa (List.flatMap_eq_nil_iff.mpr λ_ _=>rfl))) (Ry _);have e:eS 2 (tK (dS (d2 Jw (d2 bD (dV 0) (dC (.int 0))) (d2 bD (dV 0) (dC (.int 1))))) (dS (d2 GJ (dV 1) (dC (.int 1))))) (dV 0) ρ (.tup [cD k, .int (tN bd.length W f k:Int)])=(tK (dS (d2 Jw (d2 bD (dV 0) (dC (.int 0))) (d2 bD (dV 0) (dC (.int 1))))) (dS (d2 GJ (dV 1) (dC (.int 1)))) (fz (cD k)::fz (.int (tN bd.length W f k:Int))::ρ)>>=λb=>if b then aa (some (cD k)) else aa none):=rfl;have t:=(hk k).mp pJ;have p:=Ip t;obtain⟨x,y,_,_,_,h2,rfl⟩:=t;rw[e,FF (p:=false) (q:=false) (gN ((aO (x:= .int (f x:Int)) (y:= .int (f y:Int)) rfl rfl).trans (XQ (λb=>aa (D.bl b)) (XJ (by omega))))) (gN ((aO (x:= .int (tN bd.length W f (f x,f y):Int)) (y:= .int 1) rfl rfl).trans (XQ (λb=>aa (D.bl b)) (XJ (by omega)))))];rfl
end
def Bw(ns:List Int)(hl:ns.length<=63):iD [.scr ns]=aa (.bl true):=by
 obtain⟨bd,W,hG,h5,w5,eb⟩:=vU ns hl 0 5 (by decide) (by decide);have hg:=hG.brd;have QC:bd.length*W<=25:=Vg h5 w5;have hs:bd.length*W<64:=by omega
 refine a7 ?_;refine ao ((aG ((aq rfl rfl).trans eb)).trans rfl) ?_;obtain⟨v,hv,ev⟩:=fT ns hl 60 2 (by decide);obtain⟨w,hw,ew⟩:∃w,Ways w/\nK (.lst [.int 4, .int 8]) (.int (v:Int))=aa (iW w):=by
  match v,hv with
  |0,_=>exact⟨4, .inl rfl,rfl⟩
  |1,_=>exact⟨8, .inr rfl,rfl⟩
 refine ao ((aG ((aO rfl ((aq rfl rfl).trans ev)).trans ew)).trans rfl) ?_;refine ao ((aG (Ef rfl)).trans rfl) ?_;refine ao ((aG (hg.len0 rfl)).trans rfl) ?_;refine ao ((aG ((aq rfl rfl).trans (u5 hg hs hw))).trans rfl) ?_;obtain⟨f,ks,hf,hr,hk,et⟩:=kG hg (by omega) hw;have IQ:=RiseC.nodup hr;have IP:=tu IQ λk h=>(hk k).mp h;refine ao ((aG ((aq rfl rfl).trans et)).trans rfl) ?_;refine ao (ρ':=Ih (.scr ns) bd w W (tD bd.length W f ks) none none none none none none none none none none none none none) ((aG ((BA (h:=λP=> .int (P.length:Int)) hs (n8 rfl) λk P hP=>(aq (ds:=[brd bd,iW w, .int (k:Int)]) rfl rfl).trans (vo hg hs hw hP)).trans (by unfold uC;rw[Rj];rfl))).trans rfl) ?_;refine ao (dU (gN ((aO rfl (uA hs rfl)).trans (ne_self ((eP 5 (uC bd W w) (uC bd W w)).trans (by simp))))) rfl) ?_;refine ao (dU (gN ((aO ((aq rfl rfl).trans (rR hg hs hw)) (um hg hw rfl)).trans (ne_self ((rN 6 _ _).trans (by simp))))) rfl) ?_;refine ao rfl ?_;have pK:=e7 (bd:=bd) (W:=W) (w:=w);have QI:=yd (bd:=bd) (W:=W) (w:=w);have Pq:=xJ (bd:=bd) (W:=W) (yz bd W w);have e4:=gX (put:=oX [9,10]) (body:=Hm) II (λu8=>Ih (.scr ns) bd w W (tD bd.length W f ks) (fz (.lst u8)) none none none none none none none none none none none none) (λq=>if zg bd.length W q then [D.int (q.1:Int)] else []) (B:=63) (yz bd W w) [] (by rw[Si];exact RI Pq (by omega)) λq hq u8 hB=>⟨_,rfl,Bx hg hs hw hf hr hk (by omega) hq (.scr ns) (by rw[Q2] at hB;omega)⟩
 refine ao (ρ':=Ih (.scr ns) bd w W (tD bd.length W f ks) (fz (.lst (FK bd W (yz bd W w)))) none none none none none none none none none none none none) (eI (gj (XQ aa (lg _)) e4)) ?_;have OY:FK bd W (yz bd W w)=(((yz bd W w).filter (zg bd.length W)).map λq=>(q.1:Int)).map D.int:=by unfold FK;rw[nI,Rj];rfl
 refine ao (dU (gN ((aO ((aq rfl rfl).trans (tU hg hs hw)) rfl).trans (ne_self (by rw[OY];exact(eP 5 _ _).trans (by simp))))) rfl) ?_;refine ao (dU (gN ((aO (BR hk rfl) rfl).trans rfl)) rfl) ?_;refine ao ((aG ((aq rfl rfl).trans (xn hg))).trans rfl) ?_;have P9:(CD bd W w).length<64:=by unfold CD;rw[QM];omega
 refine ao (ρ':=Ih (.scr ns) bd w W (tD bd.length W f ks) (fz (.lst (FK bd W (yz bd W w)))) none none none none none none none none none none (fz (brd (turn bd W))) (fz (.lst ((sortI (CD bd W w)).map tupI)))) ((aG (vy P9 Gh ((BA (h:=λP=>tupI [pU P P 0,(P.length:Int)]) hs (n8 rfl) λk P hP=>u3 ((aq (ds:=[brd bd,iW w, .int (k:Int)]) rfl rfl).trans (sP hg hs hw hP)) ((aO (x:= .lst ((uC bd W w).map D.int)) (y:= .int (k:Int)) rfl rfl).trans (x_ (by unfold uC;rw[Q1,Q1,hP];rfl)))).trans (by unfold CD;rw[Rj];rfl)))).trans rfl) ?_;have Pa:=z_ hG;have wg:=Pa.brd;have wm:(turn bd W).length*bd.length<64:=by rw[gm,Uy];exact hs
 have hi:Iso2 bd (turn bd W) W bd.length w (LR bd.length) (LS bd.length):=Bo;have Oc:Iso2 bd (turn bd W) W bd.length 4 (LR bd.length) (LS bd.length):=Bo;have J0:=(hi.patches hg wg hw (λ_=>()) (λ_=>()) λ_ _=>rfl).length_eq;rw[QM,QM] at J0;have MC:(CD (turn bd W) bd.length w).length<64:=by unfold CD;rw[QM];omega
 refine ao (dU (gN ((aO (vy MC Gh ((BA (bd:=turn bd W) (W:=bd.length) (h:=λP=>tupI [pU P P 0,(P.length:Int)]) wm ((n8 rfl).trans (by rw[J0])) λk P hP=>u3 ((aq (ds:=[brd (turn bd W),iW w, .int (k:Int)]) rfl rfl).trans (sP wg wm hw hP)) ((aq (ds:=[brd (turn bd W),iW w, .int (k:Int)]) rfl rfl).trans (vo wg wm hw hP))).trans (by unfold CD;rw[Rj];rfl))) rfl).trans (by rw[hi.rims Oc hg wg hw];exact ne_self (zY _)))) rfl) ?_;obtain⟨f',ks',Mm,P6,pJ,O2⟩:=kG wg (by rw[gm,Uy W];omega) hw;have JO:=RiseC.nodup P6;have PL:=tu JO λk h=>(pJ k).mp h;have hR:(turn bd W).length*bd.length=bd.length*W:=by rw[gm,Uy]
 refine aT ((aO (q_ (by omega) ((aq (ds:=[brd (turn bd W),iW w]) rfl rfl).trans O2)) (q_ (ks:=ks) (g:=λk=>(tN bd.length W f k:Int)) (by omega) rfl)).trans ((jT _ _).trans ?_));rw[pe,pe,hi.sides Oc hw hf Mm IQ JO hk pJ];simp
def DF(K:QZ)(x:Str)(s:Stmt):Prop:=∃(f:Addr) (oc:Value) (od an:Option Addr) (sl:Array (Option Value)) (kV dc pm cd ct:Value),RB K Rm x=some (some (.ref f))/\K.lookup f=some ⟨oc,od, .func (SI x x (d8 s) (aV s) (ah s) .none kV dc pm an cd ct),sl⟩/\T4 K cd x=true/\S6 K (.ref f)=true
def DF.mk{K:QZ}{x:Str}{s:Stmt}{f:Addr}{oc:Value}{od an:Option Addr}{sl:Array (Option Value)}{kV dc pm cd ct:Value}(a:RB K Rm x=some (some (.ref f)))(l:K.lookup f=some ⟨oc,od, .func (SI x x (d8 s) (aV s) (ah s) .none kV dc pm an cd ct),sl⟩)(c:T4 K cd x=true)(k:S6 K (.ref f)=true):DF K x s:=⟨f,oc,od,an,sl,kV,dc,pm,cd,ct,a,l,c,k⟩
def DF.at{K:QZ}{x:Str}{s:Stmt}{h:Heap}{mg:Str->Option Value}(X:K.In h)(G:h.Ns Rm mg)(d:DF K x s):∃f,bz K mg x s f:=by
 obtain⟨f,oc,od,an,sl,kV,dc,pm,cd,ct,a,l,c,k⟩:=d;exact⟨f,UD X G a,_,AY (st:=s) l c k⟩
def all_mk{P:Ru}{w:World}{K:QZ}{h:Heap}{mg:Str->Option Value}{fa:Addr}(X:K.In h)(G:h.Ns Rm mg)(Pt:mg "law"=some (.ref fa))
 {jt:Addr}{wL m_:Option Addr}{xf:Array (Option Value)}{wK nY nA oV jr nz:Value}
 {z7:Tok}
 {vB:Tok}
 {ph:Tok}
 (d_is_whole:DF K "is_whole" jD)
 (d_is_letter:DF K "is_letter" ik)
 (d_cells_of_row:DF K "cells_of_row" dQ)
 (d_letter_of:DF K "letter_of" ip)
 (d_are_next:DF K "are_next" jC)
 (d_keyed:DF K "keyed" sQ)
 (d_column_from_below:DF K "column_from_below" b9)
 (d_numbers_of:DF K "numbers_of" gH)
 (d_is_at_edge:DF K "is_at_edge" gE)
 (d_law_cell:DF K "_law_cell" jE)
 (d_is_row:DF K "is_row" kC)
 (d_need_ways:DF K "need_ways" iq)
 (d_all_cells:DF K "all_cells" ij)
 (d_next_cells:DF K "next_cells" gG)
 (d_need_number:DF K "need_number" fP)
 (d_comes_to_edge:DF K "comes_to_edge" dm)
 (d_law_drawn:DF K "_law_drawn" il)
 (d_is_board:DF K "is_board" fe)
 (d_like_cells:DF K "like_cells" eN)
 (d_shared_sides:DF K "shared_sides" fi)
 (d_law_board:DF K "_law_board" fH)
 (d_need_board:DF K "need_board" gF)
 (d_steps_back:DF K "steps_back" gJ)
 (d_turned:DF K "turned" kD)
 (d_all_patches:DF K "all_patches" fO)
 (d_patches:DF K "patches" lI)
 (d_patch_of_number:DF K "patch_of_number" dR)
 (d_touching:DF K "touching" jF)
 (d_greatest:DF K "greatest" gD)
 (d_at_edge:DF K "at_edge" iS)
 (d_size:DF K "size" w9)
 (d_rim:DF K "rim" yG)
 (d_box:DF K "box" vh)
 (a_law_k33:RB K Rm "law"=some (some (.ref jt)))(l_law_k33:K.lookup jt=some ⟨wK,wL, .func (SI "law" "law" (d8 ai) (aV ai) (ah ai) .none nY nA oV m_ jr nz),xf⟩)(c_law_k33:T4 K jr "law"=true)(k_law_k33:S6 K (.ref jt)=true)
 (z_len:RB K Rm "len"=some none)
 (z_isinstance:RB K Rm "isinstance"=some none)
 (z_all:RB K Rm "all"=some none)
 (z_any:RB K Rm "any"=some none)
 (z_abs:RB K Rm "abs"=some none)
 (z_max:RB K Rm "max"=some none)
 (z_min:RB K Rm "min"=some none)
 (z_sum:RB K Rm "sum"=some none)
 (z_range:RB K Rm "range"=some none)
 (z_str:RB K Rm "str"=some none)
 (z_int:RB K Rm "int"=some none)
 (z_bool:RB K Rm "bool"=some none)
 (z_tuple:RB K Rm "tuple"=some none)
 (z_sorted:RB K Rm "sorted"=some none)
 (z_reversed:RB K Rm "reversed"=some none)
 (z_enumerate:RB K Rm "enumerate"=some none)
 (y_LETTERS:RB K Rm "LETTERS"=some (some (.str "abcdef" z7)))
 (y_MOST_ROWS:RB K Rm "MOST_ROWS"=some (some (.int 8 vB)))
 (y_MOST_COLUMNS:RB K Rm "MOST_COLUMNS"=some (some (.int 8 ph))):
 ∃(cv:Nat->Value) (fd:TY),(∀(s:QT) (u:Value),Xv s fd ⟨[u],[]⟩ [("_law_script",u)])/\∀base:Heap,K.In base->base.Ns Rm mg->FnOk P w K mg base (iV P w cv) 8 fa fd ["_law_script"] (I8 K cv 1 iD):=by
 have ea:=Pt.symm.trans (UD X G a_law_k33);cases ea;refine⟨λ_=> .none,SI "law" "law" (d8 ai) (aV ai) (ah ai) .none nY nA oV m_ jr nz,λs v=> .of_eq rfl,λbase KB GB=>?_⟩;have B:Bl K mg base (λ_=> .none) (λ_=>Rm) Rm:=⟨Rq X G z_len,Rq X G z_isinstance,Rq X G z_all,Rq X G z_any,Rq X G z_abs,Rq X G z_max,Rq X G z_min,Rq X G z_sum,Rq X G z_range,Rq X G z_str,Rq X G z_int,Rq X G z_bool,Rq X G z_tuple,Rq X G z_sorted,Rq X G z_reversed,Rq X G z_enumerate,⟨_,UD X G y_LETTERS⟩,⟨_,UD X G y_MOST_ROWS⟩,⟨_,UD X G y_MOST_COLUMNS⟩⟩
 have oE:=(DF.at X G d_is_whole).elim λ_ t=>uT (P:=P) (w:=w) B t;have uM:=(DF.at X G d_is_letter).elim λ_ t=>sj (P:=P) (w:=w) B t;have oD:=(DF.at X G d_cells_of_row).elim λ_ t=>mN (P:=P) (w:=w) B t;have uO:=(DF.at X G d_letter_of).elim λ_ t=>so (P:=P) (w:=w) B t;have wF:=(DF.at X G d_are_next).elim λ_ t=>uQ (P:=P) (w:=w) B t;have yj:=(DF.at X G d_keyed).elim λ_ t=>BW (P:=P) (w:=w) B t;have i7:=(DF.at X G d_column_from_below).elim λ_ t=>hX (P:=P) (w:=w) B t;have se:=(DF.at X G d_numbers_of).elim λ_ t=>pS (P:=P) (w:=w) B t;have r_:=(DF.at X G d_is_at_edge).elim λ_ t=>pO (P:=P) (w:=w) B t;have wI:=(DF.at X G d_law_cell).elim λ_ t=>uU (P:=P) (w:=w) B t;have BU:=(DF.at X G d_is_row).elim λ_ t=>zJ (P:=P) (w:=w) B uM t;have eo:=(DF.at X G d_need_ways).elim λ_ t=>sq (P:=P) (w:=w) B oE t;have l9:=(DF.at X G d_all_cells).elim λ_ t=>si (P:=P) (w:=w) B oD t;have gz:=(DF.at X G d_next_cells).elim λ_ t=>pR (P:=P) (w:=w) B wF t;have pN:=(DF.at X G d_need_number).elim λ_ t=>oH (P:=P) (w:=w) B oE t;have mM:=(DF.at X G d_comes_to_edge).elim λ_ t=>ll (P:=P) (w:=w) B r_ t;have l_:=(DF.at X G d_law_drawn).elim λ_ t=>sm (P:=P) (w:=w) B wI t;have wH:=(DF.at X G d_is_board).elim λ_ t=>uS (P:=P) (w:=w) B BU t;have sd:=(DF.at X G d_like_cells).elim λ_ t=>pP (P:=P) (w:=w) B uO gz t;have oF:=(DF.at X G d_shared_sides).elim λ_ t=>mO (P:=P) (w:=w) B se l9 gz t;have uN:=(DF.at X G d_law_board).elim λ_ t=>sk (P:=P) (w:=w) B l_ t;have cY:=(DF.at X G d_need_board).elim λ_ t=>pQ (P:=P) (w:=w) B wH t;have sf:=(DF.at X G d_steps_back).elim λ_ t=>pT (P:=P) (w:=w) B sd t;have BV:=(DF.at X G d_turned).elim λ_ t=>zK (P:=P) (w:=w) B cY i7 t;have df:=(DF.at X G d_all_patches).elim λ_ t=>oG (P:=P) (w:=w) B l9 sf yj t;have zH:=(DF.at X G d_patches).elim λ_ t=>wN (P:=P) (w:=w) B cY eo df t;have dP:=(DF.at X G d_patch_of_number).elim λ_ t=>jy (P:=P) (w:=w) B cY eo df pN t;have wJ:=(DF.at X G d_touching).elim λ_ t=>uV (P:=P) (w:=w) B cY eo oF df t;have wG:=(DF.at X G d_greatest).elim λ_ t=>uR (P:=P) (w:=w) B cY eo df t;have zG:=(DF.at X G d_at_edge).elim λ_ t=>wM (P:=P) (w:=w) B cY eo mM df t;have Hq:=(DF.at X G d_size).elim λ_ t=>Eu (P:=P) (w:=w) B dP t;have Kq:=(DF.at X G d_rim).elim λ_ t=>Hs (P:=P) (w:=w) B dP yj gz t;have Kp:=(DF.at X G d_box).elim λ_ t=>Hr (P:=P) (w:=w) B dP t;exact uP B uN zH wJ BV l_ Hq wG Kp zG Kq (AY (st:=ai) l_law_k33 c_law_k33 k_law_k33)
end K1
open PySem PySem.W PyProof.Rows
theorem PySem.Challenge.cw_cellpatches_k33_whole_touching_holds : PySem.Challenge.rw_cellpatches_k33_whole_touching.Holds := by
 w_on;refine holds_law (by kernel_rfl) λQt=>?_
 refine holds_open (q:=K1.vD) (loose:=[]) (Xt:=λs=>xlAt K1.vD [] s&&recOk (RowW.records (OpenRow.toRowW _)) s) (XP:=XL K1.vD []) (Yf:=Hook.obs (kHook K1.nQ K1.nP (λ_=>by kernel_rfl))) (Ya:=Hook.val (kHook K1.nQ K1.nP (λ_=>by kernel_rfl))) (YP:=Hook.says (kHook K1.nQ K1.nP (λ_=>by kernel_rfl))) (N:=3912) ?hl (Hook.of (kHook K1.nQ K1.nP (λ_=>by kernel_rfl))) (Hook.keeps (kHook K1.nQ K1.nP (λ_=>by kernel_rfl))) (λs e=>xl_of s (W7.mp e).1) XL.keeps (by rfl) (by rfl) (by rfl) (λs e=>recFacts_of (W7.mp e).2) (by rfl) (by first | assumption | decide+kernel) (by decide+kernel) ⟨rfl,rfl,rfl,rfl,rfl,by decide+kernel⟩ ?hw ?hc
 case hl=>exact K1.JP
 (case hw=>w_witness2)
 k_fill
 refine L3.Lb (l:=PySem.Challenge.rw_cellpatches_k33_whole_touching) (k:=8) (n:=63) (x:="_law_script") (g:=K1.iD) rfl (by decide) rfl ⟨rfl,by decide,by decide⟩ (λw h Y=>PySem.W.kIn_of Y) K1.Bw ?F
 case F=>
  intro w mg fa h KX G GX;refine' K1.all_mk KX G GX ?d_is_whole ?d_is_letter ?d_cells_of_row ?d_letter_of ?d_are_next ?d_keyed ?d_column_from_below ?d_numbers_of ?d_is_at_edge ?d_law_cell ?d_is_row ?d_need_ways ?d_all_cells ?d_next_cells ?d_need_number ?d_comes_to_edge ?d_law_drawn ?d_is_board ?d_like_cells ?d_shared_sides ?d_law_board ?d_need_board ?d_steps_back ?d_turned ?d_all_patches ?d_patches ?d_patch_of_number ?d_touching ?d_greatest ?d_at_edge ?d_size ?d_rim ?d_box ?a_law_k33 ?l_law_k33 ?c_law_k33 ?k_law_k33 ?z_len ?z_isinstance ?z_all ?z_any ?z_abs ?z_max ?z_min ?z_sum ?z_range ?z_str ?z_int ?z_bool ?z_tuple ?z_sorted ?z_reversed ?z_enumerate ?y_LETTERS ?y_MOST_ROWS ?y_MOST_COLUMNS
  any_goals (refine' K1.DF.mk ?a ?l ?c ?k;(case a=>k_is);(case l=>k_is);(case c=>k_is);(case k=>k_is))
  any_goals first | k_is | kit_is | k_exc | rfl
