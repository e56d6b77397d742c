import PyProof.Rows.All
import KE.KItemsList
import KE.KSortTup
import KE.RegKIsAll
import Lean
import PySem.Challenge.RW_cellpatches_k32_whole_measures
open PySem renaming wpAny_bind->V4,wpAny_pure->V9,Shared->We,starEach->Wv,sizeLine->Ww,mainGlobals->WD,Program->WU,bootBuiltins->WV,wpAny_newObj_type->WY,wpAny_call_entry->W0,compareOp->Xd,Around->Xf,wpAny_dictEntries->Xo,behindInMarks->Xq,wpAny_mono->Xz,wpAny_callSpecial?_slot->XA,wpAny_typeNameOfWhole_itemiter->XD,sizeLine_eq->XH,wpAny_truthy_bool->XJ,sysModules->XM,wpAny_holding->XQ,DictEntry->XS,wpAny_typeNameOf_itemiter->X0,wpAny_field->X6,mem_of_lookup->X9,wpAny_dictEpoch->Ye,wpAny_isOneOf_itemiter->Yh,wpAny_setField_rec->Yk,assignEach->Yr,attributeBase->Yy,wpAny_typeNameOfWhole_keyiter->YD,tupleKind->YE,Builtin->YI,tupleKind_room_in1->YJ,wpAny_passesOwn->YM,builtinLookup_eq_fast->YN,backTo->YO,wpAny_attempt->YS,rawInt->YU,FuncData->Y5,wpAny_of_eq->Y7,wpAny_typeNameOf_keyiter->Y9,wpAny_specialOf->Ze,Keyword->Zf,pyNext->Zj,keywordEach->Zm,wpAny_setField->Zq,wpAny_isInstance->Zv,wpAny_newList->Zx,typeLookup_type->ZD,sliceBounds->ZE,wpAny_Call_Name_kw->ZO,binaryOp->ZP,NameKind->ZR,wpAny_fieldsOf->ZT,isSubtype_type->ZU,firstArgMember->ZV,swapsWith->Z2,foldedSetIterable->Z3,storedH->aad,codeAny->aae,wpAny_notOrdered_dict->aar,wpAny_execs_nil->aas,letOwnedTupleGo->aat,codeAny_builtin->aaw,backToKw->aaE,IsItemIter->aaK,wpAny_newTuple->aaO,getItem->aaU,swapsWithSole->aa5,plainId_quiet->aa6,dictSetHashed->aa8,Paired->aba,wpAny_pyIter_slot->abl,wpAny_pyIter_list->abm,wpAny_assign_Name->abn,wpAny_Call_method->abo,typeLookup->abp,entryOfKey->abq,callerA->abr,codeAny_mono->abC,call_meetsIn->abD,wpAny_forIn_list->abJ,wpAny_eqBool_int->abK,noFill_tuple_add->abL,setField->abR,wpAny_updateSeq->ab1,valueAt->ab2,size_of_entries->ab3,Fin->ab8,recursionLimit->acf,isSubtype_stop->acg,wpAny_rule->acr,wpAny_comprehension_free->acs,wpAny_handled->acB,seq_tuple_add->acD,notedBy->acE,call->acG,IsItemIterOut->acQ,BindsTo->acS
open List renaming length_map->V5,getElem?_eq_getElem->V6,mem_cons_of_mem->V8,mem_cons_self->V_,getD_eq_getElem?_getD->Wa,map_cons->Wb,mem_map->Wc,length_cons->Wf,getElem?_eq_some_iff->Wh,getElem?_map->Wj,size_toArray->Wk,range->Wo,length_append->Wq,mem_cons->Ws,getElem?_set_ne->Wt,mem_filter->Wu,mem_of_getElem?->Wx,map_map->WA,getElem?_set_self->WC,all_eq_true->WI,sum_cons->WK,map_congr_left->WN,getElem_mem->WR,mem_range->WT,mem_append->WZ,Nodup->W2,toArray->W5,pairwise_iff_getElem->W6,pairwise_cons->W7,getElem?_append_right->W8,getElem_map->W9,mem_append_right->Xa,getElem?_append_left->Xb,countP_eq_length_filter->Xc,nodup_cons->Xe,replicate->Xg,length_filter_le->Xh,getElem?_cons_zero->Xi,nil_append->Xj,map_append->Xk,mem_iff_getElem->Xl,length_pos_of_mem->Xn,range'->Xr,getElem?_cons_succ->Xu,countP_congr->Xv,length_nil->XC,nodup_append->XG,ext_getElem->XN,perm_ext_iff_of_nodup->XR,pairwise_map->XT,length_range->XU,flatMap_cons->XW,append_nil->XY,mem_singleton->X1,filter_cons->X3,getElem_of_mem->X_,lookup_cons->Yg,getElem_range->Yi,nodup_nil->Yj,map_nil->Yl,getElem?_replicate->Yo,any_cons->Yp,mem_flatMap->Yt,zip_cons_cons->Yz,mem_zipIdx_iff_getElem?->YA,append_assoc->YK,length_reverse->YV,getElem?_range->YW,filterMap_cons->YX,length_erase_of_mem->YZ,length_zip->Y2,length_eq_zero_iff->Y3,find?_cons->Y4,getElem?_eq_none->Zg,cons_append->Zk,pairwise_append->Zn,mem_append_left->Zo,all_cons->Zs,sum_append_nat->Zu,all_map->Zz,reverse_cons->ZK,range'_succ->ZY,mem_flatten->ZZ,range_succ_eq_map->Z0,pairwise_flatMap->Z5,of_mem_zip->Z6,length_replicate->Z7,getElem?_reverse->Z8,foldl_cons->Z9,filter_nil->Z_,filter_map->aaa,mem_erase_of_ne->aak,set_cons_zero->aaH,set_cons_succ->aaI,length_range'->aaJ,eq_nil_iff_forall_not_mem->aaX,length_take->aa2,flatMap_def->aa3,zip_append->abe,range_succ->abf,forIn_cons->abg,getElem?_zip_eq_some->abG,drop_eq_getElem_cons->abH,idxOf_lt_length_iff->abQ,pairwise_singleton->abU,pairwise_lt_range'->abV,filter_cons_of_pos->abW,filter_cons_of_neg->abX,mem_iff_getElem?->aca,getElem?_toArray->acb,any_map->acd,range_eq_range'->acm,getElem_reverse->acn,getElem?_mapIdx->aco,length_flatMap->acw,mem_filterMap->acL,getElem_idxOf->acM,filter_append->acN,contains_cons->acO,take_add_one->acZ,filter_congr->ac0,any_eq_false->ac1
open PySem.Heap renaming get?_push_of_some->V7,lt_size->Wi,get?_push_size->Wr,get?_update_self->Xs,SameBut->XB,get?_update_other->Zb,size_push->ZC,ExtBut->ZS,get?_none_of_le->acp,get?_update_ne->acy
open Nat renaming le_refl->Wg,ne_of_lt->WB,lt_of_lt_of_le->WM,zero_le->WQ,le_trans->WX,lt_irrefl->W4,ne_of_gt->Xm,le_of_lt->X8,lt_trans->Yn,le_antisymm->Y8,lt_of_le_of_lt->ZA,mul_le_mul->ZJ,le_succ->ZX,add_comm->aah,zero_add->aaZ,succ_pos->aa0,le_of_eq->aa1,lt_succ_self->abb,add_mul->abw,div_div_eq_div_mul->ab_,max_comm->ack,mul_le_mul_right->acv,add_right_comm->acX
open Bool renaming and_eq_true->Wl,false_ne_true->Wz,false_eq_true->WG,or_eq_true->Y6,eq_iff_iff->aac,not_false->aam,false_and->aan,and_false->aao,or_false->aaL,not_eq_true'->aaT,true_and->abY,not_true->abZ,and_eq_true_iff->acq,not_eq_false'->acR
open PySem.W renaming Frag->Wm,mg_none_of->WL,nsIn->W3,kia_one->XI,fnOf->Yb,keepIn->Ym,codeIn->Y_,mg_of->ZG,methodObj->aax,instObj->aaW,lookIn->aa9,kitOne->aa_,cellsFrom_some->abF,kitx_list->aci,kitx_dict->acj,plainGet->acu,OpenLaw->acH,findIn->acW
open Array renaming length_toList->Wn,getElem?_eq_getElem->WS,getElem?_toList->XF,append_assoc->aaC,getElem?_eq_some_iff->abk,getElem?_eq_none->ab0,isEmpty_iff->acT,toList_inj->ac3
open PySem.Value renaming ref->Wy,none->WJ,bool->X7,type->ZF,str->ab6,int->ab7
open PySem.Heap.SameBut renaming update->WE,refl->aab
open PySem.PassesOwn renaming never->WH
open PySem.Obj renaming mapSeq->WO,data_mapFields->YC,data_mapDictKeys->Zr,mapFields->ZW,isFreed_of_fields->aag,isFreed_of_dict->aay
open Option.some renaming inj->WW
open PyProof.Rows renaming seqObj->W_,callWith_type1->X2,IntsAre->Ys,envOfC->YF,lt_int->ZQ,slot_tuple_getitem->Z4,callWith_builtin1->aaf,kindOf->aaj,get?_update_seq->aau,entry_list_sort->aav,AllBare->aaD,slot_list_sort->aaP,args_list_sort->aaQ,listUpdate_at->aa7,plain_sorted->abA,entry_sorted->abB,args_sorted1->abE,failedOf->abS,seqEpoch_at->ab4,kind_sorted->ab5,subscriptTail->acC,subscriptTail_builtinR->acU
open Ne renaming symm->Xp
open PySem.Builtin.Dict_items renaming ownsTuple->Xx,ownedTupleIsFree->XX,pairFromOwner->X5,ownedTupleFields->Zw
open ForInStep renaming yield->Xy
open PySem.F renaming slot_dict_itemiterator_next->XE,slot_dict_get->Yc,slot_dict_keyiterator_next->YG,plainAttrs_dict->YY,plain_extend_loop->Y0,entry_dict_get->Y1,args_dict_itemiterator_next_1->Zh,entry_dict_itemiterator_next->Zp,args_tuple_add_2->Zy,plainAttrs_list->ZH,entry_tuple_add->ZI,slot_tuple_add->ZM,slot_dict_update->abd,args_dict_keyiterator_next_1->abh,args_dict_get_3->abu,args_dict_get_2->abv,entry_dict_keyiterator_next->abz,type_dict_get->abP,slot_dict_items_iter->acz
open PySem.Str renaming ofString->XO
open List.Pairwise renaming imp->XZ,filter->aa4,nil->abx
open PySem.Builtin.Str renaming strSliceIndices->X4,occurrences->YR
open PySem.Paired renaming length->Yd
open PySem.Builtin.Dict renaming showsAll->Yq,entriesForEmpty->aal,updateFrom->aaS,mergeDict->aaY
open False renaming elim->Yu
open True renaming intro->Yv
open PySem.Calls renaming callWith_builtin->Yw,spliced_cons->Yx,call_function_entry->YQ,spliced_nil->Zc,evalArgs_plain->Zl,Name_function_global->abj
open PySem.Builtin.Slice renaming slicePlaces->YB,sliceApplied->aaq,sliceAdjust->aaB
open PySem.Builtin.Tuple renaming tupleExact->YH,tupleHashOf->aaA
open Int renaming toNat_natCast->YL,emod_lt_of_pos->aaM,emod_nonneg->aby
open Option renaming isSome_iff_exists->YT,isSome_map->aaG,getD_some->acJ,getD_none->acK
open PUnit renaming unit->Za
open PySem.Builtin.List renaming listExtendWith->Zd,listTooLong->Zt,listSameRef->aaN,listUpdate->aaR
open PySem.Around renaming under_plainId->Zi
open PySem.Data renaming dict->ZL,fields->acA
open Classical renaming choose_spec->ZN,choose->aaz,propDecidable->abc,not_forall->abI,not_imp->ab9
open PySem.Builtin.SmallTypes renaming newClass->Z1
open Int.ofNat renaming inj->aai
open PySem.Shared renaming TypeIs->aap
open Prod renaming ext->aaF,snd->abT,fst->acI
open Sum renaming inl->aaV,inr->abt
open PySem.Expr renaming Name->abi
open PySem.SeqAt.EqAt renaming str_int->abM,int_str->abN,int_int->abO
open PySem.Heap.IsList renaming «at»->ace
open PySem.Value.type renaming inj->ach
open List.Perm renaming refl->acx
open PySem.SeqAt renaming EqAt->acF,in_tupleAt->acV
open List.cons renaming inj->acP
open PySem.NameKind renaming free->acY
open Function renaming comp->ac2
set_option maxHeartbeats 0
set_option Elab.async false
set_option linter.all false
set_option maxRecDepth 100000
abbrev ac4:=@decide_eq_true_eq
abbrev ac5:=@if_pos
abbrev ac6:=@if_neg
abbrev ac7:=@decide_eq_true
abbrev ac8:=@decide_eq_false
abbrev ac9:=@of_decide_eq_true
abbrev ac_:=@absurd
abbrev ada:=@congrArg
abbrev adb:=@beq_eq_false_iff_ne
abbrev ade:=@decide_eq_decide
namespace L2
open PySem
def fC(s:Stmt):Arguments:=match s with
 | .FunctionDef _ a _ _ _ _ _ _ _ _=>a
 |_=>{posonlyargs:=[],args:=[],vararg:=none,kwonlyargs:=[],kw_defaults:=[],kwarg:=none,defaults:=[]}
def bo(s:Stmt):List Stmt:=match s with
 | .FunctionDef _ _ b _ _ _ _ _ _ _=>b
 |_=>[]
def ah(s:Stmt):Scope:=match s with
 | .FunctionDef _ _ _ _ _ _ sc _ _ _=>sc
 |_=>{kind:= .function,names:=[],isGenerator:=false,isCoroutine:=false}
end L2
namespace K1
open PySem PySem.Spec
def top(i:Nat):Stmt:=PySem.Challenge.pw_cellpatches_k32_whole_measures.main.body.getD i (.Pass ⟨0,0,0,0⟩)
abbrev hS(s:String)(t:Tok):Value:= .str (XO s) t
abbrev hE(P:Params)(s:String)(t:Tok)(v:Value):XS:={hash:=PyData.keyHash P (XO s),key:=hS s t,val:=v}
abbrev hT(xs:Array Value):Obj:={cls:= .type "tuple",data:=Data.seq xs}
abbrev hF(s:String)(t:Stmt)(m:Value)(c:Addr):Obj:={cls:= .type "function",data:=Data.func {name:=XO s,qualname:=XO s,params:=L2.fC t,body:=FuncBody.stmts (L2.bo t),scope:=L2.ah t,globals:=3,closure:=[],defaults:= .none,kwdefaults:= .none,pyModule:=m,code:= .ref c} }
abbrev gz(s:String)(t1 t2 t3:Tok)(l n f:Int)(a:Addr)(v:Int)(b:Addr)(x y:Value)(d:Addr)(p:Int)(t4:Tok):Obj:={cls:= .type "code",data:=acA #[hS s t1,hS s t2,hS "/claim/cut.py" t3, .int l 0, .int n 0, .int 0 0, .int 0 0, .int f 0, .ref a, .bool true, .int v 0, .ref b, .none,x,y, .ref d, .int p 0, .int l 0,hS "/claim/cut.py" t4]}
abbrev xl:Value:=hS "cellpatches.boards" 271
abbrev B6:Value:=hS "cellpatches.measures" 510
abbrev IU:Value:=hS "cellpatches.patches" 416
abbrev LR:Value:=hS "law_cellpatches_k32_whole_measures" 626
abbrev OC:Value:=hS "cellpatches.errors" 187
abbrev QH(n:String)(b a ns r:Addr)(t1 t2:Tok):Obj:={cls:= .type "type",data:=Data.cls {name:=XO n,bases:=[.ref b],mro:=[.ref a, .ref b, .type "ValueError", .type "Exception", .type "BaseException", .type "object"],ns:=ns,qualname:=XO n},slots:= #[some (.ref r),none,some (hS n t1),some (hS n t2),some (.builtin "ValueError.__new__"),some (.bool true)]}
def qE:Params->Wm:=λP=>(nat_lit 2,{cls:= .none,data:=ZL #[]})::
 (nat_lit 3,{cls:= .type "dict",data:=ZL #[hE P "__name__" 165 LR,hE P "__doc__" 166 .none,hE P "__package__" 167 .none,hE P "__loader__" 168 (.builtin "__main__.__loader__#opaque"),hE P "__spec__" 169 .none,hE P "__annotations__" 170 (.ref 6),hE P "__builtins__" 171 (.ref 4),hE P "__file__" 173 (hS "/claim/cut.py" 172),hE P "__cached__" 174 .none,hE P "PatchError" 206 (.ref 24),hE P "NoBoard" 222 (.ref 37),hE P "NoWays" 238 (.ref 49),hE P "NoCell" 254 (.ref 61),hE P "NoNumber" 270 (.ref 73),hE P "LETTERS" 274 (hS "abcdef" 273),hE P "MOST_ROWS" 276 (.int 8 275),hE P "MOST_COLUMNS" 278 (.int 8 277),hE P "is_whole" 285 (.ref 82),hE P "is_letter" 292 (.ref 89),hE P "is_row" 298 (.ref 94),hE P "is_board" 304 (.ref 99),hE P "is_cell" 312 (.ref 106),hE P "need_board" 319 (.ref 113),hE P "need_cell" 327 (.ref 120),hE P "need_ways" 334 (.ref 127),hE P "cells_of_row" 340 (.ref 132),hE P "all_cells" 349 (.ref 139),hE P "letter_of" 357 (.ref 146),hE P "are_next" 368 (.ref 153),hE P "next_cells" 380 (.ref 160),hE P "keyed" 389 (.ref 167),hE P "letter_at" 397 (.ref 174),hE P "column_from_below" 403 (.ref 179),hE P "turned" 409 (.ref 184),hE P "mirrored" 415 (.ref 189),hE P "like_cells" 423 (.ref 194),hE P "steps_back" 437 (.ref 201),hE P "all_patches" 449 (.ref 208),hE P "numbers_of" 460 (.ref 215),hE P "near_among" 466 (.ref 220),hE P "distances" 479 (.ref 227),hE P "parts_of" 493 (.ref 234),hE P "patches" 501 (.ref 241),hE P "how_many" 509 (.ref 248),hE P "need_number" 519 (.ref 255),hE P "patch_of_number" 529 (.ref 262),hE P "is_at_edge" 537 (.ref 269),hE P "comes_to_edge" 543 (.ref 274),hE P "shut_parts" 549 (.ref 279),hE P "shared_sides" 562 (.ref 286),hE P "size" 571 (.ref 293),hE P "rim" 577 (.ref 298),hE P "box" 583 (.ref 303),hE P "shut_in" 595 (.ref 310),hE P "holes" 605 (.ref 317),hE P "touching" 613 (.ref 324),hE P "greatest" 619 (.ref 329),hE P "at_edge" 625 (.ref 334),hE P "_law_cell" 635 (.ref 341),hE P "_law_drawn" 645 (.ref 348),hE P "_law_board" 651 (.ref 353),hE P "_law_cells" 657 (.ref 358),hE P "_law_beside" 672 (.ref 365),hE P "_law_measures" 682 (.ref 372),hE P "_law_lies" 688 (.ref 377),hE P "law" 694 (.ref 382)] 66})::
 (nat_lit 15,hT #[.type "ValueError"])::
 (nat_lit 22,hT #[])::
 (nat_lit 23,{cls:= .type "dict",data:=ZL #[hE P "__module__" 196 OC,hE P "__firstlineno__" 200 (.int 2 199),hE P "__static_attributes__" 201 (.ref 22),hE P "__weakref__" 203 (.ref 25),hE P "__doc__" 204 .none] 3})::
 (nat_lit 24,{cls:= .type "type",data:=Data.cls {name:=XO "PatchError",bases:=[.type "ValueError"],mro:=[.ref 24, .type "ValueError", .type "Exception", .type "BaseException", .type "object"],ns:=23,qualname:=XO "PatchError",subclasses:=[.ref 37, .ref 49, .ref 61, .ref 73]},slots:= #[some (.ref 15),none,some (hS "PatchError" 189),some (hS "PatchError" 197),some (.builtin "ValueError.__new__"),some (.bool true)]})::
 (nat_lit 25,{cls:= .type "getset_descriptor",data:=acA #[hS "__weakref__" 202, .ref 24, .builtin "ExceptionGroup.__weakref__", .none]})::
 (nat_lit 28,hT #[.ref 24])::
 (nat_lit 35,hT #[])::
 (nat_lit 36,{cls:= .type "dict",data:=ZL #[hE P "__module__" 214 OC,hE P "__firstlineno__" 218 (.int 4 217),hE P "__static_attributes__" 219 (.ref 35),hE P "__doc__" 220 .none] 2})::
 (nat_lit 37,QH "NoBoard" 24 37 36 28 207 215)::
 (nat_lit 40,hT #[.ref 24])::
 (nat_lit 47,hT #[])::
 (nat_lit 48,{cls:= .type "dict",data:=ZL #[hE P "__module__" 230 OC,hE P "__firstlineno__" 234 (.int 6 233),hE P "__static_attributes__" 235 (.ref 47),hE P "__doc__" 236 .none] 2})::
 (nat_lit 49,QH "NoWays" 24 49 48 40 223 231)::
 (nat_lit 52,hT #[.ref 24])::
 (nat_lit 59,hT #[])::
 (nat_lit 60,{cls:= .type "dict",data:=ZL #[hE P "__module__" 246 OC,hE P "__firstlineno__" 250 (.int 8 249),hE P "__static_attributes__" 251 (.ref 59),hE P "__doc__" 252 .none] 2})::
 (nat_lit 61,QH "NoCell" 24 61 60 52 239 247)::
 (nat_lit 64,hT #[.ref 24])::
 (nat_lit 71,hT #[])::
 (nat_lit 72,{cls:= .type "dict",data:=ZL #[hE P "__module__" 262 OC,hE P "__firstlineno__" 266 (.int 10 265),hE P "__static_attributes__" 267 (.ref 71),hE P "__doc__" 268 .none] 2})::
 (nat_lit 73,QH "NoNumber" 24 73 72 64 255 263)::
 (nat_lit 76,hT #[])::
 (nat_lit 78,hT #[hS "thing" 282])::
 (nat_lit 79,hT #[])::
 (nat_lit 81,gz "is_whole" 279 280 281 16 1 3 76 181 77 (.ref 78) (.ref 79) 80 283 284)::
 (nat_lit 82,hF "is_whole" (top 10) xl 81)::
 (nat_lit 83,hT #[])::
 (nat_lit 85,hT #[hS "thing" 289])::
 (nat_lit 86,hT #[])::
 (nat_lit 88,gz "is_letter" 286 287 288 18 1 3 83 181 84 (.ref 85) (.ref 86) 87 290 291)::
 (nat_lit 89,hF "is_letter" (top 11) xl 88)::
 (nat_lit 90,hT #[])::
 (nat_lit 93,gz "is_row" 293 294 295 20 1 3 90 181 91 .none .none 92 296 297)::
 (nat_lit 94,hF "is_row" (top 12) xl 93)::
 (nat_lit 95,hT #[])::
 (nat_lit 98,gz "is_board" 299 300 301 24 1 3 95 181 96 .none .none 97 302 303)::
 (nat_lit 99,hF "is_board" (top 13) xl 98)::
 (nat_lit 100,hT #[])::
 (nat_lit 102,hT #[hS "board" 308,hS "thing" 309])::
 (nat_lit 103,hT #[])::
 (nat_lit 105,gz "is_cell" 305 306 307 30 2 3 100 181 101 (.ref 102) (.ref 103) 104 310 311)::
 (nat_lit 106,hF "is_cell" (top 14) xl 105)::
 (nat_lit 107,hT #[])::
 (nat_lit 109,hT #[hS "thing" 316])::
 (nat_lit 110,hT #[])::
 (nat_lit 112,gz "need_board" 313 314 315 36 1 3 107 181 108 (.ref 109) (.ref 110) 111 317 318)::
 (nat_lit 113,hF "need_board" (top 15) xl 112)::
 (nat_lit 114,hT #[])::
 (nat_lit 116,hT #[hS "board" 323,hS "thing" 324])::
 (nat_lit 117,hT #[])::
 (nat_lit 119,gz "need_cell" 320 321 322 39 2 3 114 181 115 (.ref 116) (.ref 117) 118 325 326)::
 (nat_lit 120,hF "need_cell" (top 16) xl 119)::
 (nat_lit 121,hT #[])::
 (nat_lit 123,hT #[hS "thing" 331])::
 (nat_lit 124,hT #[])::
 (nat_lit 126,gz "need_ways" 328 329 330 42 1 3 121 181 122 (.ref 123) (.ref 124) 125 332 333)::
 (nat_lit 127,hF "need_ways" (top 17) xl 126)::
 (nat_lit 128,hT #[])::
 (nat_lit 131,gz "cells_of_row" 335 336 337 45 2 3 128 181 129 .none .none 130 338 339)::
 (nat_lit 132,hF "cells_of_row" (top 18) xl 131)::
 (nat_lit 133,hT #[])::
 (nat_lit 135,hT #[hS "board" 344,hS "found" 345,hS "row" 346])::
 (nat_lit 136,hT #[])::
 (nat_lit 138,gz "all_cells" 341 342 343 47 1 3 133 181 134 (.ref 135) (.ref 136) 137 347 348)::
 (nat_lit 139,hF "all_cells" (top 19) xl 138)::
 (nat_lit 140,hT #[])::
 (nat_lit 142,hT #[hS "board" 353,hS "cell" 354])::
 (nat_lit 143,hT #[])::
 (nat_lit 145,gz "letter_of" 350 351 352 52 2 3 140 181 141 (.ref 142) (.ref 143) 144 355 356)::
 (nat_lit 146,hF "letter_of" (top 20) xl 145)::
 (nat_lit 147,hT #[])::
 (nat_lit 149,hT #[hS "one" 361,hS "other" 362,hS "ways" 363,hS "down" 364,hS "along" 365])::
 (nat_lit 150,hT #[])::
 (nat_lit 152,gz "are_next" 358 359 360 54 3 3 147 181 148 (.ref 149) (.ref 150) 151 366 367)::
 (nat_lit 153,hF "are_next" (top 21) xl 152)::
 (nat_lit 154,hT #[])::
 (nat_lit 156,hT #[hS "board" 372,hS "cell" 373,hS "ways" 374,hS "found" 375,hS "row" 376,hS "column" 377])::
 (nat_lit 157,hT #[])::
 (nat_lit 159,gz "next_cells" 369 370 371 60 3 3 154 181 155 (.ref 156) (.ref 157) 158 378 379)::
 (nat_lit 160,hF "next_cells" (top 22) xl 159)::
 (nat_lit 161,hT #[])::
 (nat_lit 163,hT #[hS "things" 384,hS "found" 385,hS "thing" 386])::
 (nat_lit 164,hT #[])::
 (nat_lit 166,gz "keyed" 381 382 383 67 1 3 161 181 162 (.ref 163) (.ref 164) 165 387 388)::
 (nat_lit 167,hF "keyed" (top 23) xl 166)::
 (nat_lit 168,hT #[])::
 (nat_lit 170,hT #[hS "board" 393,hS "cell" 394])::
 (nat_lit 171,hT #[])::
 (nat_lit 173,gz "letter_at" 390 391 392 72 2 3 168 181 169 (.ref 170) (.ref 171) 172 395 396)::
 (nat_lit 174,hF "letter_at" (top 24) xl 173)::
 (nat_lit 175,hT #[])::
 (nat_lit 178,gz "column_from_below" 398 399 400 76 2 3 175 181 176 .none .none 177 401 402)::
 (nat_lit 179,hF "column_from_below" (top 25) xl 178)::
 (nat_lit 180,hT #[])::
 (nat_lit 183,gz "turned" 404 405 406 78 1 3 180 181 181 .none .none 182 407 408)::
 (nat_lit 184,hF "turned" (top 26) xl 183)::
 (nat_lit 185,hT #[])::
 (nat_lit 188,gz "mirrored" 410 411 412 81 1 3 185 181 186 .none .none 187 413 414)::
 (nat_lit 189,hF "mirrored" (top 27) xl 188)::
 (nat_lit 190,hT #[])::
 (nat_lit 193,gz "like_cells" 418 419 420 85 3 3 190 181 191 .none .none 192 421 422)::
 (nat_lit 194,hF "like_cells" (top 29) IU 193)::
 (nat_lit 195,hT #[])::
 (nat_lit 197,hT #[hS "board" 427,hS "start" 428,hS "ways" 429,hS "back" 430,hS "ring" 431,hS "further" 432,hS "cell" 433,hS "near" 434])::
 (nat_lit 198,hT #[])::
 (nat_lit 200,gz "steps_back" 424 425 426 88 3 3 195 181 196 (.ref 197) (.ref 198) 199 435 436)::
 (nat_lit 201,hF "steps_back" (top 30) IU 200)::
 (nat_lit 202,hT #[])::
 (nat_lit 204,hT #[hS "board" 441,hS "ways" 442,hS "found" 443,hS "seen" 444,hS "cell" 445,hS "patch" 446])::
 (nat_lit 205,hT #[])::
 (nat_lit 207,gz "all_patches" 438 439 440 100 2 3 202 181 203 (.ref 204) (.ref 205) 206 447 448)::
 (nat_lit 208,hF "all_patches" (top 31) IU 207)::
 (nat_lit 209,hT #[])::
 (nat_lit 211,hT #[hS "found" 453,hS "numbers" 454,hS "number" 455,hS "patch" 456,hS "cell" 457])::
 (nat_lit 212,hT #[])::
 (nat_lit 214,gz "numbers_of" 450 451 452 109 1 3 209 181 210 (.ref 211) (.ref 212) 213 458 459)::
 (nat_lit 215,hF "numbers_of" (top 32) IU 214)::
 (nat_lit 216,hT #[])::
 (nat_lit 219,gz "near_among" 461 462 463 115 3 3 216 181 217 .none .none 218 464 465)::
 (nat_lit 220,hF "near_among" (top 33) IU 219)::
 (nat_lit 221,hT #[])::
 (nat_lit 223,hT #[hS "near" 470,hS "start" 471,hS "far" 472,hS "ring" 473,hS "further" 474,hS "thing" 475,hS "other" 476])::
 (nat_lit 224,hT #[])::
 (nat_lit 226,gz "distances" 467 468 469 121 2 3 221 181 222 (.ref 223) (.ref 224) 225 477 478)::
 (nat_lit 227,hF "distances" (top 34) IU 226)::
 (nat_lit 228,hT #[])::
 (nat_lit 230,hT #[hS "board" 483,hS "some" 484,hS "ways" 485,hS "near" 486,hS "parts" 487,hS "seen" 488,hS "cell" 489,hS "part" 490])::
 (nat_lit 231,hT #[])::
 (nat_lit 233,gz "parts_of" 480 481 482 133 3 3 228 181 229 (.ref 230) (.ref 231) 232 491 492)::
 (nat_lit 234,hF "parts_of" (top 35) IU 233)::
 (nat_lit 235,hT #[])::
 (nat_lit 237,hT #[hS "board" 497,hS "ways" 498])::
 (nat_lit 238,hT #[])::
 (nat_lit 240,gz "patches" 494 495 496 143 2 3 235 181 236 (.ref 237) (.ref 238) 239 499 500)::
 (nat_lit 241,hF "patches" (top 36) IU 240)::
 (nat_lit 242,hT #[])::
 (nat_lit 244,hT #[hS "board" 505,hS "ways" 506])::
 (nat_lit 245,hT #[])::
 (nat_lit 247,gz "how_many" 502 503 504 147 2 3 242 181 243 (.ref 244) (.ref 245) 246 507 508)::
 (nat_lit 248,hF "how_many" (top 37) IU 247)::
 (nat_lit 249,hT #[])::
 (nat_lit 251,hT #[hS "many" 515,hS "thing" 516])::
 (nat_lit 252,hT #[])::
 (nat_lit 254,gz "need_number" 512 513 514 152 2 3 249 181 250 (.ref 251) (.ref 252) 253 517 518)::
 (nat_lit 255,hF "need_number" (top 39) B6 254)::
 (nat_lit 256,hT #[])::
 (nat_lit 258,hT #[hS "board" 523,hS "ways" 524,hS "number" 525,hS "found" 526])::
 (nat_lit 259,hT #[])::
 (nat_lit 261,gz "patch_of_number" 520 521 522 155 3 3 256 181 257 (.ref 258) (.ref 259) 260 527 528)::
 (nat_lit 262,hF "patch_of_number" (top 40) B6 261)::
 (nat_lit 263,hT #[])::
 (nat_lit 265,hT #[hS "board" 533,hS "cell" 534])::
 (nat_lit 266,hT #[])::
 (nat_lit 268,gz "is_at_edge" 530 531 532 161 2 3 263 181 264 (.ref 265) (.ref 266) 267 535 536)::
 (nat_lit 269,hF "is_at_edge" (top 41) B6 268)::
 (nat_lit 270,hT #[])::
 (nat_lit 273,gz "comes_to_edge" 538 539 540 163 2 3 270 181 271 .none .none 272 541 542)::
 (nat_lit 274,hF "comes_to_edge" (top 42) B6 273)::
 (nat_lit 275,hT #[])::
 (nat_lit 278,gz "shut_parts" 544 545 546 165 3 3 275 181 276 .none .none 277 547 548)::
 (nat_lit 279,hF "shut_parts" (top 43) B6 278)::
 (nat_lit 280,hT #[])::
 (nat_lit 282,hT #[hS "board" 553,hS "found" 554,hS "numbers" 555,hS "shared" 556,hS "cell" 557,hS "near" 558,hS "pair" 559])::
 (nat_lit 283,hT #[])::
 (nat_lit 285,gz "shared_sides" 550 551 552 170 2 3 280 181 281 (.ref 282) (.ref 283) 284 560 561)::
 (nat_lit 286,hF "shared_sides" (top 44) B6 285)::
 (nat_lit 287,hT #[])::
 (nat_lit 289,hT #[hS "board" 566,hS "ways" 567,hS "number" 568])::
 (nat_lit 290,hT #[])::
 (nat_lit 292,gz "size" 563 564 565 179 3 3 287 181 288 (.ref 289) (.ref 290) 291 569 570)::
 (nat_lit 293,hF "size" (top 45) B6 292)::
 (nat_lit 294,hT #[])::
 (nat_lit 297,gz "rim" 572 573 574 181 3 3 294 181 295 .none .none 296 575 576)::
 (nat_lit 298,hF "rim" (top 46) B6 297)::
 (nat_lit 299,hT #[])::
 (nat_lit 302,gz "box" 578 579 580 188 3 3 299 181 300 .none .none 301 581 582)::
 (nat_lit 303,hF "box" (top 47) B6 302)::
 (nat_lit 304,hT #[])::
 (nat_lit 306,hT #[hS "board" 587,hS "ways" 588,hS "number" 589,hS "patch" 590,hS "told" 591,hS "part" 592])::
 (nat_lit 307,hT #[])::
 (nat_lit 309,gz "shut_in" 584 585 586 193 3 3 304 181 305 (.ref 306) (.ref 307) 308 593 594)::
 (nat_lit 310,hF "shut_in" (top 48) B6 309)::
 (nat_lit 311,hT #[])::
 (nat_lit 313,hT #[hS "board" 599,hS "ways" 600,hS "number" 601,hS "patch" 602])::
 (nat_lit 314,hT #[])::
 (nat_lit 316,gz "holes" 596 597 598 199 3 3 311 181 312 (.ref 313) (.ref 314) 315 603 604)::
 (nat_lit 317,hF "holes" (top 49) B6 316)::
 (nat_lit 318,hT #[])::
 (nat_lit 320,hT #[hS "board" 609,hS "ways" 610])::
 (nat_lit 321,hT #[])::
 (nat_lit 323,gz "touching" 606 607 608 202 2 3 318 181 319 (.ref 320) (.ref 321) 322 611 612)::
 (nat_lit 324,hF "touching" (top 50) B6 323)::
 (nat_lit 325,hT #[])::
 (nat_lit 328,gz "greatest" 614 615 616 206 2 3 325 181 326 .none .none 327 617 618)::
 (nat_lit 329,hF "greatest" (top 51) B6 328)::
 (nat_lit 330,hT #[])::
 (nat_lit 333,gz "at_edge" 620 621 622 211 2 3 330 181 331 .none .none 332 623 624)::
 (nat_lit 334,hF "at_edge" (top 52) B6 333)::
 (nat_lit 335,hT #[])::
 (nat_lit 337,hT #[hS "_law_script" 631,hS "_law_k" 632])::
 (nat_lit 338,hT #[])::
 (nat_lit 340,gz "_law_cell" 628 629 630 216 2 3 335 181 336 (.ref 337) (.ref 338) 339 633 634)::
 (nat_lit 341,hF "_law_cell" (top 54) LR 340)::
 (nat_lit 342,hT #[])::
 (nat_lit 344,hT #[hS "_law_script" 639,hS "_law_k" 640,hS "_law_many" 641,hS "_law_cell_here" 642])::
 (nat_lit 345,hT #[])::
 (nat_lit 347,gz "_law_drawn" 636 637 638 220 3 3 342 181 343 (.ref 344) (.ref 345) 346 643 644)::
 (nat_lit 348,hF "_law_drawn" (top 55) LR 347)::
 (nat_lit 349,hT #[])::
 (nat_lit 352,gz "_law_board" 646 647 648 224 3 3 349 181 350 .none .none 351 649 650)::
 (nat_lit 353,hF "_law_board" (top 56) LR 352)::
 (nat_lit 366,hT #[])::
 (nat_lit 368,hT #[hS "_law_board_here" 676,hS "_law_ways" 677,hS "_law_found" 678,hS "_law_number" 679])::
 (nat_lit 369,hT #[])::
 (nat_lit 371,gz "_law_measures" 673 674 675 248 2 3 366 181 367 (.ref 368) (.ref 369) 370 680 681)::
 (nat_lit 372,hF "_law_measures" (top 59) LR 371)::
 (nat_lit 373,hT #[])::
 (nat_lit 376,gz "_law_lies" 683 684 685 253 4 3 373 181 374 .none .none 375 686 687)::
 (nat_lit 377,hF "_law_lies" (top 60) LR 376)::
 (nat_lit 378,hT #[])::
 (nat_lit 381,gz "law" 689 690 691 265 1 3 378 181 379 .none .none 380 692 693)::
 (nat_lit 382,hF "law" (top 61) LR 381)::[]
def qD:List Nat:=[2,3,15,22,23,24,25,28,35,36,37,40,47,48,49,52,59,60,61,64,71,72,73,76,78,79,81,82,83,85,86,88,89,90,93,94,95,98,99,100,102,103,105,106,107,109,110,112,113,114,116,117,119,120,121,123,124,126,127,128,131,132,133,135,136,138,139,140,142,143,145,146,147,149,150,152,153,154,156,157,159,160,161,163,164,166,167,168,170,171,173,174,175,178,179,180,183,184,185,188,189,190,193,194,195,197,198,200,201,202,204,205,207,208,209,211,212,214,215,216,219,220,221,223,224,226,227,228,230,231,233,234,235,237,238,240,241,242,244,245,247,248,249,251,252,254,255,256,258,259,261,262,263,265,266,268,269,270,273,274,275,278,279,280,282,283,285,286,287,289,290,292,293,294,297,298,299,302,303,304,306,307,309,310,311,313,314,316,317,318,320,321,323,324,325,328,329,330,333,334,335,337,338,340,341,342,344,345,347,348,349,352,353,366,368,369,371,372,373,376,377,378,381,382]
def zJ:WU:={PySem.Challenge.pw_cellpatches_k32_whole_measures with main:={PySem.Challenge.pw_cellpatches_k32_whole_measures.main with body:=[top 1,top 2,top 3,top 4,top 5,top 7,top 8,top 9,top 10,top 11,top 12,top 13,top 14,top 15,top 16,top 17,top 18,top 19,top 20,top 21,top 22,top 23,top 24,top 25,top 26,top 27,top 29,top 30,top 31,top 32,top 33,top 34,top 35,top 36,top 37,top 39,top 40,top 41,top 42,top 43,top 44,top 45,top 46,top 47,top 48,top 49,top 50,top 51,top 52,top 54,top 55,top 56,top 57,top 58,top 59,top 60,top 61]} }
open PySem.W PyProof.Rows in
def OS:LeftO PySem.Challenge.rw_cellpatches_k32_whole_measures.row.prog zJ [] (λs=>xlAt zJ [] s&&recOk PySem.Challenge.rw_cellpatches_k32_whole_measures.row.records s) (kHook qE qD (λ_=>by kernel_rfl)).obs (kHook qE qD (λ_=>by kernel_rfl)).val 5250:=λw=>by kernel_rfl
end K1
namespace L2
open PySem PySem.Spec PyProof.Rows
abbrev Key:=Sum Int Str
def qR:Key->Value->Bool
 | .inl k,v=>Value.isInt k v
 | .inr x,v=>Value.isStrOf x v
def Po(w:World):Key->Int
 | .inl k=>hashInt k
 | .inr x=>hashStr w x
def cb:∀{k:Key}{v:Value},qR k v=true->(∃i t,k=aaV i/\v=ab7 i t)\/(∃x t,k=abt x/\v=ab6 x t)
 | .inl i,v,h=>by
   obtain⟨t,e⟩:=Value.isInt_shape (k:=i) (v:=v) h;exact .inl ⟨i,t,rfl,e⟩
 | .inr x,v,h=>by
   obtain⟨t,e⟩:=Value.isStrOf_shape (x:=x) (v:=v) h;exact .inr ⟨x,t,rfl,e⟩
def DX(i:Int)(t:Tok):qR (.inl i) (.int i t)=true:=by simp[qR,Value.isInt]
def DY(x:Str)(t:Tok):qR (.inr x) (.str x t)=true:=by simp[qR,Value.isStrOf]
def Mo(a b:Int):decide ((aaV a:Key)=aaV b)=(a==b):=by
 by_cases e:a=b
 ·subst e;simp
 ·have h:¬(aaV a:Key)=aaV b:=λq=>e (Sum.inl.inj q);rw[ac8 h];exact(adb.mpr e).symm
def Mr(a b:Str):decide ((abt a:Key)=abt b)=decide (a=b):=by
 by_cases e:a=b
 ·subst e;simp
 ·have h:¬(abt a:Key)=abt b:=λq=>e (Sum.inr.inj q);rw[ac8 h,ac8 e]
def Mp(a:Int)(b:Str):decide ((aaV a:Key)=abt b)=false:=ac8 (λq=>nomatch q)
def Mq(a:Str)(b:Int):decide ((abt a:Key)=aaV b)=false:=ac8 (λq=>nomatch q)
def bD(prog:WU)(w:World):PySem.KeyKind prog w Key where
 is:=qR
 hash:=Po w
 inj:=λv a b ha hb=>by
  rcases cb ha with⟨i,t,rfl,rfl⟩ | ⟨x,t,rfl,rfl⟩
  ·rcases cb hb with⟨j,u,rfl,e⟩ | ⟨y,u,rfl,e⟩
   ·injection e with e1 _;rw[e1]
   ·exact nomatch e
  ·rcases cb hb with⟨j,u,rfl,e⟩ | ⟨y,u,rfl,e⟩
   ·exact nomatch e
   ·injection e with e1 _;rw[e1]
 byValue:=λk v h=>by
  rcases cb h with⟨i,t,rfl,rfl⟩ | ⟨x,t,rfl,rfl⟩<;>rfl
 pyHash:=λhv h=>by
  rcases cb hv with⟨i,t,rfl,rfl⟩ | ⟨x,t,rfl,rfl⟩
  ·exact wpAny_pyHash_int h
  ·exact wpAny_pyHash_str h
 eqBool:=λhu hv h=>by
  rcases cb hu with⟨i,t,rfl,rfl⟩ | ⟨x,t,rfl,rfl⟩
  ·rcases cb hv with⟨j,u,rfl,rfl⟩ | ⟨y,u,rfl,rfl⟩
   ·rw[Mo] at h;exact abK h
   ·rw[Mp] at h;exact abN i t y u _ _ _ _ h
  ·rcases cb hv with⟨j,u,rfl,rfl⟩ | ⟨y,u,rfl,rfl⟩
   ·rw[Mq] at h;exact abM x t j u _ _ _ _ h
   ·rw[Mr] at h;exact wpAny_eqBool_str h
 «strs» :=λk x t v h=>by
  rcases cb h with⟨i,u,rfl,e⟩ | ⟨y,u,rfl,e⟩
  ·exact nomatch e
  ·injection e with e1 _
   subst e1;cases v<;>rfl
def yt(prog:WU)(w:World)(i:Int)(t:Tok):(bD prog w).is (.inl i) (.int i t)=true:=DX i t
def yu(prog:WU)(w:World)(x:Str)(t:Tok):(bD prog w).is (.inr x) (.str x t)=true:=DY x t
inductive V where
 |non | bl (b:Bool) | int (i:Int) | str (x:Str) | byt (b:Array UInt8) | flt (b:UInt64) | ref (a:Addr) | ty (n:String)
 deriving DecidableEq
def RelV:V->Value->Prop
 | .non,u=>u=WJ
 | .bl b,u=>u=X7 b
 | .int i,u=>∃t,u=ab7 i t
 | .str x,u=>∃t,u=ab6 x t
 | .byt b,u=>∃t,u=Value.bytes b t
 | .flt b,u=>∃t,u=Value.float b t
 | .ref a,u=>u=Wy a
 | .ty n,u=>u=ZF n
abbrev Vals:List V->List Value->Prop:=aba RelV
def Vals.length{xs:List V}{us:List Value}(r:Vals xs us):xs.length=us.length:=Yd r
def Vals.get:∀{xs:List V}{us:List Value}{i:Nat}{x:V},Vals xs us->xs[i]? =some x->∃u,us[i]? =some u/\RelV x u
 |_,_,_,_, .nil,e=>by simp at e
 |_,_,0,_, .cons r _,e=>by simp at e;subst e;exact⟨_,rfl,r⟩
 |_,_,i+1,x, .cons _ t,e=>by
  obtain⟨u,h1,h2⟩:=Vals.get (i:=i) (x:=x) t (by simpa using e);exact⟨u,by simpa using h1,h2⟩
def Vals.append:∀{xs ys:List V}{us ws:List Value},Vals xs us->Vals ys ws->Vals (xs++ys) (us++ws)
 |_,_,_,_, .nil,s=>s
 |_,_,_,_, .cons r t,s=> .cons r (Vals.append t s)
def Vals.take:∀{xs:List V}{us:List Value}(n:Nat),Vals xs us->Vals (xs.take n) (us.take n)
 |_,_,0,_=> .nil
 |_,_,_+1, .nil=> .nil
 |_,_,n+1, .cons r t=> .cons r (Vals.take n t)
def Vals.drop:∀{xs:List V}{us:List Value}(n:Nat),Vals xs us->Vals (xs.drop n) (us.drop n)
 |_,_,0,r=>r
 |_,_,_+1, .nil=> .nil
 |_,_,n+1, .cons _ t=>Vals.drop n t
def RelO:Option V->Option Value->Prop
 |some v,some u=>RelV v u
 |none,none=>True
 |_,_=>False
def KV{κ:Type}:List (κ×V)->List (κ×Value)->Prop:=aba λ(p:κ×V) (q:κ×Value)=>p.1=q.1/\RelV p.2 q.2
def kV:Key->V
 | .inl i=> .int i
 | .inr x=> .str x
inductive HO where
 |lst (xs:List V)
 |tup (xs:List V)
 |dK (aB:List (Key×V)) | dT (aB:List (List Key×V))
 |set (S:Int->Bool) (n:Nat)
 |ins (C dx:Addr) (fs:List (Str×V))
 |own (x:Addr)
 |xd (fs:List (Str×V))
 |met (f x:Addr)
 |rng (lo hi:Int)
 |frz (o:Obj) (u:HO)
 |tbl (ps:Array Value)
 |ext (φ:Heap->Prop)
abbrev Hp:=Addr->Option HO
def upd(H:Hp)(a:Addr)(o:HO):Hp:=λb=>if b=a then some o else H b
def aK{H:Hp}{a:Addr}{o:HO}:upd H a o a=some o:=by unfold upd;rw[ac5 rfl]
def aA{H:Hp}{a b:Addr}{o:HO}(h:b≠a):upd H a o b=H b:=by unfold upd;rw[ac6 h]
def Gz{H:Hp}{a b:Addr}{o u:HO}(h:H a=some o)(h':H b=some u)(d:o≠u):a≠b:=by
 intro e;subst e;rw[h] at h';exact d (WW h')
def bG{H:Hp}{a b:Addr}{o:HO}(h:H a=some o)(h':H b=none):a≠b:=by
 intro e;subst e;rw[h] at h';cases h'
section
variable(P:WU)(w:World)
def ObjOk(H:Hp)(h:Heap)(a:Addr):HO->Prop
 | .lst xs=>xs.length<=Ww/\∃(aL:List Value) (n:Nat),Vals xs aL/\h.get? a=some {cls:= .type "list",data:= .seq aL.toArray n}
 | .tup xs=>xs.length<=Ww/\∃aL:List Value,Vals xs aL/\IsTup h a aL.toArray
 | .dK aB=>aB.length<=Ww/\(a==XM)=false/\∃vs,KV aB vs/\h.DictOf (bD P w) a vs
 | .dT aB=>aB.length<=Ww/\(a==XM)=false/\∃xs:List (List Key×Addr×Value),
    aba (λ(p:List Key×V) (q:List Key×Addr×Value)=>p.1=q.1/\H q.2.1=some (.tup (p.1.map kV))/\RelV p.2 q.2.2) aB xs/\
    ∃o es ep,h.get? a=some o/\o.ExactDict/\o.data= .dict es ep/\es.toList=xs.map (abq (YE (bD P w)))/\(xs.map (·.1)).Nodup
 | .set S n=>h.SetOf (intKind P w) a S n
 | .ins C dx fs=>H dx=some (.own a)/\fs.length<=1000/\dx≠a/\h.get? a=some (aaW C dx)/\
    ∃mA,h.Ns1 dx mA/\(∀f,RelO (fs.lookup f) (mA f))/\PySem.Within mA (fs.map (·.1))
 | .own _=>∃o,h.get? a=some o
 | .xd fs=>∃mA,h.Ns1 a mA/\∀f,RelO (fs.lookup f) (mA f)
 | .rng lo hi=>∃t u v,h.get? a=some {cls:= .type "range",data:= .fields #[.int lo t, .int hi u, .int 1 v]}
 | .frz o u=>h.get? a=some o/\ObjOk H h a u
 | .tbl ps=>h.get? a=some {cls:= .none,data:= .fields ps}
 | .met f x=>h.get? a=some (aax (.ref f) (.ref x))
 | .ext φ=>φ h/\(∃o,h.get? a=some o)/\∀h1 h2:Heap,φ h1->(∀o,h1.get? a=some o->h2.get? a=some o)->φ h2
def HOk(H:Hp)(h:Heap):Prop:=∀a o,H a=some o->ObjOk P w H h a o
end
section
variable{P:WU}{w:World}{H H':Hp}{h h':Heap}{a:Addr}{o:HO}
def ObjOk.lt(x:ObjOk P w H h a o):a<h.objs.size:=by
 cases o with
 |lst xs=>obtain⟨_,_,_,_,e⟩:=x;exact Wi e
 |tup xs=>obtain⟨_,_,_,p⟩:=x;exact p.lt
 |dK aB=>obtain⟨_,_,_,_,o,_,_,e,_⟩:=x;exact Wi e
 |dT aB=>obtain⟨_,_,_,_,o,_,_,e,_⟩:=x;exact Wi e
 |set S n=>obtain⟨o,_,_,_,e,_⟩:=x;exact Wi e
 |ins C dx fs=>obtain⟨_,_,_,e,_⟩:=x;exact Wi e
 |own y=>obtain⟨_,e⟩:=x;exact Wi e
 |xd fs=>obtain⟨_,⟨_,_,_,e,_⟩,_⟩:=x;exact Wi e
 |rng lo hi=>obtain⟨_,_,_,e⟩:=x;exact Wi e
 |frz ob u=>obtain⟨e,_⟩:=x;exact Wi e
 |tbl ps=>exact Wi (show h.get? a=some _ from x)
 |met f y=>exact Wi (show h.get? a=some _ from x)
 |ext φ=>obtain⟨_,⟨_,e⟩,_⟩:=x;exact Wi e
def Paired.mapP{α β:Type}{F G:α->β->Prop}:∀{l₁:List α}{l₂:List β},aba F l₁ l₂->(∀a b,F a b->G a b)->aba G l₁ l₂
 |_,_, .nil,_=> .nil
 |_,_, .cons r t,f=> .cons (f _ _ r) (Paired.mapP t f)
def ObjOk.stay(x:ObjOk P w H h a o)(k:∀b u,(b=a\/H b=some (.own a))->h.get? b=some u->h'.get? b=some u)
 (ho:∀b,H b=some (.own a)->H' b=some (.own a))(ht:∀b xs,H b=some (.tup xs)->H' b=some (.tup xs)):ObjOk P w H' h' a o:=by
 induction o with
 |lst xs=>obtain⟨z,aL,n,r,e⟩:=x;exact⟨z,aL,n,r,k _ _ (.inl rfl) e⟩
 |tup xs=>obtain⟨z,aL,r,ob,e,c⟩:=x;exact⟨z,aL,r,ob,k _ _ (.inl rfl) e,c⟩
 |dK aB=>obtain⟨z,y,vs,r,ob,es,ep,e,c⟩:=x;exact⟨z,y,vs,r,ob,es,ep,k _ _ (.inl rfl) e,c⟩
 |dT aB=>
  obtain⟨z,y,xs,r,ob,es,ep,e,c⟩:=x;exact⟨z,y,xs,Paired.mapP r λp q z=>⟨z.1,ht _ _ z.2.1,z.2.2⟩,ob,es,ep,k _ _ (.inl rfl) e,c⟩
 |set S n=>obtain⟨ob,es,ep,t,e,c⟩:=x;exact⟨ob,es,ep,t,k _ _ (.inl rfl) e,c⟩
 |ins C dx fs=>
  obtain⟨d,z,ne,e,mA,⟨od,es,ep,e2,c⟩,r⟩:=x;exact⟨ho _ d,z,ne,k _ _ (.inl rfl) e,mA,⟨od,es,ep,k _ _ (.inr d) e2,c⟩,r⟩
 |own y=>obtain⟨ob,e⟩:=x;exact⟨ob,k _ _ (.inl rfl) e⟩
 |xd fs=>obtain⟨mA,⟨od,es,ep,e,c⟩,r⟩:=x;exact⟨mA,⟨od,es,ep,k _ _ (.inl rfl) e,c⟩,r⟩
 |rng lo hi=>obtain⟨t,u,v,e⟩:=x;exact⟨t,u,v,k _ _ (.inl rfl) e⟩
 |frz ob u ih=>obtain⟨e,q⟩:=x;exact⟨k _ _ (.inl rfl) e,ih q⟩
 |tbl ps=>
  have e:h.get? a=some {cls:= .none,data:= .fields ps}:=x;show h'.get? a=some {cls:= .none,data:= .fields ps};exact k a _ (.inl rfl) e
 |met f y=>
  have e:h.get? a=some (aax (.ref f) (.ref y)):=x;show h'.get? a=some (aax (.ref f) (.ref y));exact k a _ (.inl rfl) e
 |ext φ=>obtain⟨p,⟨o,e⟩,st⟩:=x;exact⟨st _ _ p λo q=>k _ _ (.inl rfl) q,⟨o,k _ _ (.inl rfl) e⟩,st⟩
def HOk.lt(x:HOk P w H h)(e:H a=some o):a<h.objs.size:=(x a o e).lt
def HOk.fresh(x:HOk P w H h)(e:h.objs.size<=a):H a=none:=by
 cases q:H a with
 |none=>rfl
 |some u=>exact ac_ (WM (x.lt q) e) (W4 _)
def HOk.kept(x:HOk P w H h)(k:∀b u,h.get? b=some u->h'.get? b=some u):HOk P w H h':=λa o e=>
 (x a o e).stay (λb u _ q=>k b u q) (λ_ q=>q) λ_ _ q=>q
def HOk.laid(x:HOk P w H h)(k:∀b u,h.get? b=some u->h'.get? b=some u)(hp:h.objs.size<=a)(new:ObjOk P w (upd H a o) h' a o):HOk P w (upd H a o) h':=λb u e=>by
 have hn:=x.fresh hp;by_cases hb:b=a
 ·subst hb;rw[aK] at e;cases e;exact new
 ·rw[aA hb] at e;exact(x b u e).stay (λc v _ q=>k c v q) (λc q=>by rw[aA (bG q hn)];exact q) λc xs q=>by rw[aA (bG q hn)];exact q
end
def Rd(H:Hp)(a:Addr)(u:HO):Prop:=H a=some u\/∃o,H a=some (.frz o u)
def Rd.ok{P:WU}{w:World}{H:Hp}{h:Heap}{a:Addr}{u:HO}(r:Rd H a u)(x:HOk P w H h):ObjOk P w H h a u:=by
 rcases r with r | ⟨o,r⟩
 ·exact x a u r
 ·obtain⟨_,q⟩:=x a _ r;exact q
def N8:Option HO->Prop
 |some (.lst _)=>True
 |some (.dK _)=>True
 |some (.dT _)=>True
 |some (.set _ _)=>True
 |some (.ins _ _ _)=>True
 |some (.ext _)=>True
 |_=>False
section
variable{P:WU}{w:World}{H:Hp}{h h':Heap}{x e:Addr}{o':HO}
def HOk.write(ok:HOk P w H h)(mu:N8 (H x))(he:e=x\/H e=some (.own x))(k:∀b u,b≠e->h.get? b=some u->h'.get? b=some u)(EV:∃u,h'.get? e=some u)
 (new:ObjOk P w (upd H x o') h' x o'):HOk P w (upd H x o') h':=λb u q=>by
 have Py:∀c y,H c=some (.own y)->c≠x:=λc y r z=>by subst z;rw[r] at mu;exact mu
 have So:∀c xs,H c=some (.tup xs)->c≠x:=λc xs r z=>by subst z;rw[r] at mu;exact mu
 by_cases hb:b=x
 ·subst hb;rw[aK] at q;cases q;exact new
 ·rw[aA hb] at q;by_cases LX:b=e
  ·have q':H b=some (.own x):=by
    rcases he with z | z
    ·exact ac_ (LX.trans z) hb
    ·rw[LX];exact z
   rw[q] at q';cases q';obtain⟨v,hv⟩:=EV;exact⟨v,by rw[LX];exact hv⟩
  ·refine(ok b u q).stay (λc v hc r=>k c v ?_ r) (λc r=>by rw[aA (Py c b r)];exact r) λc xs r=>by rw[aA (So c xs r)];exact r
   rcases hc with rfl | hc
   ·exact LX
   ·rintro rfl;rcases he with z | z
    ·exact Py c b hc z
    ·rw[hc] at z;cases z;exact hb rfl
end
structure Un (fs ex:List Addr) (H H':Hp) (h h':Heap):Prop where
 keep:∀b o,h.get? b=some o->H b=none->b∉fs->b∉ex->h'.get? b=some o
 slot:∀b o,h.get? b=some o->H b=none->b∈fs->b∉ex->∃sl,h'.get? b=some {o with slots:=sl}
 free:∀b o,h.get? b=some o->H b=none->b∉ex->H' b=none
 there:∀b o,h.get? b=some o->b∉ex->∃o',h'.get? b=some o'
 tups:∀b xs,H b=some (.tup xs)->H' b=some (.tup xs)
 frzs:∀b o u,H b=some (.frz o u)->H' b=some (.frz o u)
 tbls:∀b ps,H b=some (.tbl ps)->∃more,H' b=some (.tbl (ps++more))
section
variable{fs Tr ex Am:List Addr}{H H1 H2:Hp}{h h1 h2 h':Heap}{a x e:Addr}{o:HO}
def Un.any(u:Un fs ex H H1 h h1){b:Addr}{ob:Obj}(q:h.get? b=some ob)(n:H b=none)(hx:b∉ex):∃sl,h1.get? b=some {ob with slots:=sl}:=by
 by_cases hb:b∈fs
 ·exact u.slot b ob q n hb hx
 ·exact⟨ob.slots,u.keep b ob q n hb hx⟩
def Un.trans(a:Un fs ex H H1 h h1)(b:Un fs ex H1 H2 h1 h2):Un fs ex H H2 h h2 where
 keep:=λc ob q n hc hx=>b.keep c ob (a.keep c ob q n hc hx) (a.free c ob q n hx) hc hx
 slot:=λc ob q n hc hx=>by
  obtain⟨sl,e1⟩:=a.slot c ob q n hc hx;obtain⟨Nv,e2⟩:=b.slot c _ e1 (a.free c ob q n hx) hc hx;exact⟨Nv,e2⟩
 free:=λc ob q n hx=>by
  obtain⟨o',e1⟩:=a.there c ob q hx;exact b.free c o' e1 (a.free c ob q n hx) hx
 there:=λc ob q hx=>by
  obtain⟨o',e1⟩:=a.there c ob q hx;exact b.there c o' e1 hx
 tups:=λc xs q=>b.tups c xs (a.tups c xs q)
 frzs:=λc ob xs q=>b.frzs c ob xs (a.frzs c ob xs q)
 tbls:=λc ps q=>by
  obtain⟨m1,e1⟩:=a.tbls c ps q;obtain⟨m2,e2⟩:=b.tbls c _ e1;exact⟨m1++m2,by rw[e2,aaC]⟩
def Un.kept(k:∀b u,h.get? b=some u->h'.get? b=some u):Un fs ex H H h h':=
 ⟨λb ob q _ _ _=>k b ob q,λb ob q _ _ _=>⟨ob.slots,k b ob q⟩,λ_ _ _ n _=>n,λb ob q _=>⟨ob,k b ob q⟩,λ_ _ q=>q,λ_ _ _ q=>q,λ_ ps q=>⟨#[],by rw[q];simp⟩⟩
def Un.refl:Un fs ex H H h h:=Un.kept λ_ _ q=>q
def Un.laid(k:∀b u,h.get? b=some u->h'.get? b=some u)(hp:h.objs.size<=a)(hn:H a=none):Un fs ex H (upd H a o) h h' where
 keep:=λb u q _ _ _=>k b u q
 slot:=λb u q _ _ _=>⟨u.slots,k b u q⟩
 free:=λb u q n _=>by rw[aA (WB (WM (Wi q) hp))];exact n
 there:=λb u q _=>⟨u,k b u q⟩
 tups:=λb xs q=>by rw[aA (bG q hn)];exact q
 frzs:=λb u xs q=>by rw[aA (bG q hn)];exact q
 tbls:=λb ps q=>⟨#[],by rw[aA (bG q hn),q];simp⟩
def Un.write(mu:N8 (H x))(he:e=x\/H e=some (.own x))(k:∀b u,b≠e->h.get? b=some u->h'.get? b=some u)(EV:∃u,h'.get? e=some u):Un fs ex H (upd H x o) h h':=by
 have hx:∀b,H b=none->b≠x:=λb n z=>by subst z;rw[n] at mu;exact mu
 have hb:∀b,H b=none->b≠e:=λb n z=>by
  subst z;rcases he with r | r
  ·exact hx b n r
  ·rw[n] at r;cases r
 have hm:∀b u,H b=some u->¬N8 (some u)->b≠x:=λb u q nm z=>by subst z;rw[q] at mu;exact nm mu
 refine⟨λb u q n _ _=>k b u (hb b n) q,λb u q n _ _=>⟨u.slots,k b u (hb b n) q⟩,λb u q n _=>by rw[aA (hx b n)];exact n,λb u q _=>?_,
  λb xs q=>by rw[aA (hm b _ q λz=>z)];exact q,λb u xs q=>by rw[aA (hm b _ q λz=>z)];exact q,λb ps q=>⟨#[],by rw[aA (hm b _ q λz=>z),q];simp⟩⟩
 by_cases LX:b=e
 ·subst LX;exact EV
 ·exact⟨u,k b u LX q⟩
def Un.mono(u:Un fs ex H H1 h h1)(hs:∀b∈fs,b∈Tr)(hx:∀b∈ex,b∈Am):Un Tr Am H H1 h h1:=
 ⟨λb ob q n hb he=>u.keep b ob q n (λz=>hb (hs b z)) λz=>he (hx b z),λ_ _ q n _ he=>u.any q n λz=>he (hx _ z),λb ob q n he=>u.free b ob q n λz=>he (hx b z),λb ob q he=>u.there b ob q λz=>he (hx b z),u.tups,u.frzs,u.tbls⟩
end
def Q5(h:Heap)(H:Hp):List Addr:=(Wo h.objs.size).filter λa=>(H a).isSome
def vC(h:Heap)(H:Hp):Heap:=PySem.W.hideAll h (Q5 h H)
def DJ(h:Heap)(H:Hp):(vC h H).objs.size=h.objs.size:=PySem.W.hideAll_size _ _
def FU{h:Heap}{H:Hp}{b:Addr}{o:Obj}(e:h.get? b=some o)(n:H b=none):(vC h H).get? b=some o:=
 PySem.W.hideAll_get _ e λhm=>by
  have q:(H b).isSome=true:=(Wu.mp hm).2;rw[n] at q;simp at q
def Jz{h:Heap}{H:Hp}{b:Addr}{o:Obj}(e:(vC h H).get? b=some o):h.get? b=some o/\H b=none:=by
 have e':h.get? b=some o:=PySem.W.of_hideAll (Q5 h H) e;refine⟨e',?_⟩;cases q:H b with
 |none=>rfl
 |some x=>
  have hm:b∈Q5 h H:=Wu.mpr ⟨WT.mpr (Wi e'),by simp[q]⟩;have z:(vC h H).get? b=none:=PySem.W.hideAll_none (Q5 h H) hm;rw[z] at e;cases e
def Iw(g h:Heap)(L:Addr):List (Addr×Obj):=(Wo h.objs.size).filterMap λa=>if a=L\/(g.get? a).isSome=true then none else(h.get? a).map λo=>(a,o)
def T0(g h:Heap)(L d:Addr):List (Addr×Obj):=(Iw g h L).filter λp=>decide (p.1≠d)
structure Mod (K:Wm) (mg:Str->Option Value) (base:Heap):Prop where
 kin:K.In base
 glob:base.Ns WD mg
 blt:∃mb,base.Ns builtinsNs mb/\∀x:Str,x≠"__name__"->mb x=WV x
 nolimit:base.NoLimit
structure Cx where
 prog:WU
 w:World
 K:Wm
 mg:Str->Option Value
 base:Heap
 A:Xf
 N:List Str
 adg:We
 adf:Hp
 env:Env
 outer:List Env
 stack:List Env
 ex:List Addr
 fn:Str->Bool
 calm:Bool
 pn:List (Addr×Obj)
 xe:Value->We->Prop
def pY(l:List Env):List Addr:=l.filterMap (·.frame)
abbrev Cx.fs(X:Cx):List Addr:=pY X.outer
def QB(sc:Scope)(x:Str):Prop:=sc.names.lookup x=some .local\/sc.names.lookup x=some .cell\/sc.names.lookup x=some .free
def Loc(sc:Scope)(x:Str):Prop:=sc.names.lookup x=some .local\/sc.names.lookup x=some .cell
def Look(env:Env)(h:Heap)(m:Str->Option Value)(x:Str)(u:Value):Prop:=
 (env.kindOf x=some .local/\m x=some u)\/((env.kindOf x=some .cell\/env.kindOf x=some .free)/\∃c,env.cells.lookup x=some c/\h.IsCell c (some u))
structure Cx.Ok (X:Cx):Prop where
 mod:Mod X.K X.mg X.base
 kind:X.env.scope.kind= .function
 glob:X.env.globals=WD
 blt:X.env.builtins=builtinsNs
 above:X.adg.heap.objs.size<=X.env.locals
 inj:∀x y c,X.env.cells.lookup x=some c->X.env.cells.lookup y=some c->x=y
 has:∀x,(X.env.kindOf x=some .cell\/X.env.kindOf x=some .free)->∃c,X.env.cells.lookup x=some c
 cab:∀x c,X.fn x=true->X.env.cells.lookup x=some c->X.adg.heap.objs.size<=c
 hd:X.calm=true->X.A.handled=none
 frames:X.A.frames=some X.stack
 stk:X.stack=X.outer\/(X.stack=X.env::X.outer/\X.env.frame=some X.env.locals)
 exf:∀b∈X.ex,b≠X.env.locals/\∀x c,X.env.cells.lookup x=some c->c≠b
 bs:∀b o,X.base.get? b=some o->X.adg.heap.get? b=some o/\X.adf b=none
 bsz:X.base.objs.size<=X.adg.heap.objs.size
 noex:∀b o,X.base.get? b=some o->b∉X.ex
 exfs:∀b∈X.ex,b∉X.fs
 funs:X.adg.heap.FunFrames X.base X.outer
 frf:∀b∈X.fs,X.adf b=none
structure Inv (X:Cx) (f8:List (Addr×Obj)) (σ:List (Option V)) (H:Hp) (s:We):Prop where
 ok:X.Ok
 os:s.os=X.adg.os
 bare:aaD s.gens
 base:Un X.fs X.ex X.adf H X.adg.heap s.heap
 loc:∃m,s.heap.Ns X.env.locals m/\∀(i:Nat) (x:Str) (v:V),X.N[i]? =some x->σ[i]? =some (some v)->QB X.env.scope x->∃u,RelV v u/\Look X.env s.heap m x u
 cell:∀x c,X.env.cells.lookup x=some c->∃v,s.heap.IsCell c v
 free:H X.env.locals=none
 freeC:∀x c,X.env.cells.lookup x=some c->H c=none
 pin:∀p∈X.pn++f8,s.heap.get? p.1=some p.2/\H p.1=none/\p.1≠X.env.locals/\p.1∉X.fs/\∀v,p.2.data≠ .cell v
 hok:HOk X.prog X.w H s.heap
 len:σ.length=X.N.length
section
variable{X:Cx}{f8:List (Addr×Obj)}{σ:List (Option V)}{H H':Hp}{s:We}{h':Heap}
def Cx.Ok.nofr(ok:X.Ok){b:Addr}{o:Obj}(e:X.base.get? b=some o):b∉X.fs:=λhb=>by
 have:=(ok.funs.mem hb).1;rw[e] at this;cases this
def Inv.bs(I:Inv X f8 σ H s):∀b o,X.base.get? b=some o->s.heap.get? b=some o/\H b=none:=λb o e=>
 ⟨I.base.keep b o (I.ok.bs b o e).1 (I.ok.bs b o e).2 (I.ok.nofr e) (I.ok.noex b o e),I.base.free b o (I.ok.bs b o e).1 (I.ok.bs b o e).2 (I.ok.noex b o e)⟩
def Inv.bk(I:Inv X f8 σ H s):∀b o,X.base.get? b=some o->s.heap.get? b=some o:=λb o e=>(I.bs b o e).1
def Inv.mod(I:Inv X f8 σ H s):Mod X.K X.mg X.base:=I.ok.mod
def Inv.kIn(I:Inv X f8 σ H s):X.K.In s.heap:=I.ok.mod.kin.keeps I.bk
def Inv.nolimit(I:Inv X f8 σ H s):s.heap.NoLimit:=I.ok.mod.nolimit.keeps I.bk
def Inv.lt(I:Inv X f8 σ H s):X.env.locals<s.heap.objs.size:=let ⟨_,hn,_⟩:=I.loc;hn.lt
def Inv.sz(I:Inv X f8 σ H s):X.adg.heap.objs.size<=s.heap.objs.size:=WX I.ok.above (X8 I.lt)
def Inv.nofs(I:Inv X f8 σ H s){a:Addr}(h:s.heap.objs.size<=a):a∉X.fs:=λhb=>by
 obtain⟨_,o,ho,_⟩:=I.ok.funs.mem hb;exact ac_ (WM (Wi ho) (WX I.sz h)) (W4 _)
def Inv.cne(I:Inv X f8 σ H s):∀x c,X.env.cells.lookup x=some c->c≠X.env.locals:=λx c e z=>by
 obtain⟨v,o,ho,hd⟩:=I.cell x c e;obtain⟨m,⟨o',es,ep,qG,xm,_⟩,_⟩:=I.loc;rw[z,qG] at ho;cases ho;rw[xm] at hd;cases hd
def Inv.funs(I:Inv X f8 σ H s):s.heap.FunFrames X.base X.outer:=by
 have all:∀(l:List Env),(∀b∈pY l,b∈X.fs)->X.adg.heap.FunFrames X.base l->s.heap.FunFrames X.base l:=by
  intro l;induction l with
  |nil=>intro _ _;trivial
  |cons env r ih=>
   intro hs hl;obtain⟨hk,⟨L,o,hf,hn,ho,hd⟩,hr⟩:=hl;have hL:L∈X.fs:=hs L (by unfold pY;rw[YX,hf];exact V_);obtain⟨sl,e⟩:=I.base.slot L o ho (I.ok.frf L hL) hL λz=>I.ok.exfs L z hL;exact⟨hk,⟨L,_,hf,hn,e,hd⟩,ih (λb hb=>hs b (by unfold pY;rw[YX,hf];exact V8 _ hb)) hr⟩
 exact all X.outer (λ_ hb=>hb) I.ok.funs
def Inv.stack(I:Inv X f8 σ H s):s.heap.FunFrames X.base X.stack:=by
 rcases I.ok.stk with e | ⟨e,hf⟩
 ·rw[e];exact I.funs
 ·rw[e];obtain⟨m,hn,_⟩:=I.loc;refine .cons (by rw[I.ok.kind];decide) hf hn ?_ I.funs;exact acp (WX I.ok.bsz I.ok.above)
def Inv.stkSub(I:Inv X f8 σ H s):∀b∈pY X.stack,b∈X.env.locals::X.fs:=λb hb=>by
 rcases I.ok.stk with e | ⟨e,hf⟩
 ·rw[e] at hb;exact V8 _ hb
 ·rw[e] at hb;unfold pY at hb;rw[YX,hf] at hb;exact hb
def Inv.stkFree(I:Inv X f8 σ H s):∀b∈pY X.stack,H b=none:=λb hb=>by
 rcases Ws.mp (I.stkSub b hb) with e | hb
 ·rw[e];exact I.free
 ·obtain⟨_,o,ho,_⟩:=I.ok.funs.mem hb;exact I.base.free b o ho (I.ok.frf b hb) λz=>I.ok.exfs b z hb
def Inv.step{g':Array GenState}{t':Nat}{d':Drawn}{ch:List Addr}(I:Inv X f8 σ H s)
 (Ij:∀b∈ch,(b∈X.ex\/X.adg.heap.objs.size<=b)/\b≠X.env.locals/\(∀x c,X.env.cells.lookup x=some c->c≠b)/\∀p∈X.pn++f8,p.1≠b)
 (keep:∀b o,b≠X.env.locals->b∉X.fs->b∉ch->s.heap.get? b=some o->H b=none->h'.get? b=some o)
 (slot:∀b o,b≠X.env.locals->b∈X.fs->b∉ch->s.heap.get? b=some o->H b=none->∃sl,h'.get? b=some {o with slots:=sl})(free:∀b o,b∉ch->s.heap.get? b=some o->H b=none->H' b=none)
 (there:∀b o,b∉ch->s.heap.get? b=some o->∃o',h'.get? b=some o')
 (tups:∀b xs,H b=some (.tup xs)->H' b=some (.tup xs))(frzs:∀b o u,H b=some (.frz o u)->H' b=some (.frz o u))(tbls:∀b ps,H b=some (.tbl ps)->∃more,H' b=some (.tbl (ps++more)))
 (ns:∀m,s.heap.Ns X.env.locals m->h'.Ns X.env.locals m)(hok:HOk X.prog X.w H' h')(hg:aaD g'):
 Inv X f8 σ H' {s with heap:=h',gens:=g',drawn:=d',toks:=t'}:=by
 have Uc:∀b o,X.adg.heap.get? b=some o->b≠X.env.locals:=λb o e=>WB (WM (Wi e) I.ok.above);have QY:∀b o,X.adg.heap.get? b=some o->b∉X.ex->b∉ch:=λb o e hx hb=>by
  rcases(Ij b hb).1 with z | z
  ·exact hx z
  ·exact ac_ (WM (Wi e) z) (W4 _)
 have cellK:∀x c,X.env.cells.lookup x=some c->∀v,s.heap.IsCell c v->h'.IsCell c v:=λx c e v ⟨o,ho,hd⟩=>by
  have Pw:c∉ch:=λz=>(Ij c z).2.2.1 x c e rfl;by_cases hc:c∈X.fs
  ·obtain⟨sl,q⟩:=slot c o (I.cne x c e) hc Pw ho (I.freeC x c e);exact⟨_,q,hd⟩
  ·exact⟨o,keep c o (I.cne x c e) hc Pw ho (I.freeC x c e),hd⟩
 refine⟨I.ok,I.os,hg,⟨λb o e n hb hx=>?_,λb o e n hb hx=>?_,λb o e n hx=>?_,λb o e hx=>?_,λb xs e=>tups b xs (I.base.tups b xs e),λb o xs e=>frzs b o xs (I.base.frzs b o xs e),λb ps e=>?_⟩,?_,λx c e=>?_,?_,λx c e=>?_,λp hp=>?_,hok,I.len⟩
 ·exact keep b o (Uc b o e) hb (QY b o e hx) (I.base.keep b o e n hb hx) (I.base.free b o e n hx)
 ·obtain⟨sl,e1⟩:=I.base.slot b o e n hb hx;obtain⟨Nv,e2⟩:=slot b _ (Uc b o e) hb (QY b o e hx) e1 (I.base.free b o e n hx);exact⟨Nv,e2⟩
 ·obtain⟨o',e1⟩:=I.base.there b o e hx;exact free b o' (QY b o e hx) e1 (I.base.free b o e n hx)
 ·obtain⟨o',e1⟩:=I.base.there b o e hx;exact there b o' (QY b o e hx) e1
 ·obtain⟨m1,e1⟩:=I.base.tbls b ps e;obtain⟨m2,e2⟩:=tbls b _ e1;exact⟨m1++m2,by rw[e2,aaC]⟩
 ·obtain⟨m,hn,hl⟩:=I.loc;refine⟨m,ns m hn,λi x v e1 e2 e3=>?_⟩;obtain⟨u,r,l⟩:=hl i x v e1 e2 e3;refine⟨u,r,?_⟩;rcases l with l | ⟨k,c,e,z⟩
  ·exact .inl l
  ·exact .inr ⟨k,c,e,cellK x c e _ z⟩
 ·obtain⟨v,z⟩:=I.cell x c e;exact⟨v,cellK x c e v z⟩
 ·obtain⟨m,⟨o,_,_,ho,_⟩,_⟩:=I.loc;exact free _ o (λz=>(Ij _ z).2.1 rfl) ho I.free
 ·obtain⟨v,o,ho,hd⟩:=I.cell x c e;exact free c o (λz=>(Ij c z).2.2.1 x c e rfl) ho (I.freeC x c e)
 ·obtain⟨e,n,ne,nf,d⟩:=I.pin p hp;have Pw:p.1∉ch:=λz=>(Ij p.1 z).2.2.2 p hp rfl;exact⟨keep p.1 p.2 ne nf Pw e n,free p.1 p.2 Pw e n,ne,nf,d⟩
def Inv.un{t':Nat}(I:Inv X f8 σ H s)(u:Un X.fs [] H H' s.heap h')(hok:HOk X.prog X.w H' h'):Inv X f8 σ H' {s with heap:=h',toks:=t'}:=by
 obtain⟨m,⟨o,es,ep,ho,r⟩,_⟩:=id I.loc;obtain⟨sl,hL⟩:=u.any ho I.free (by simp);exact I.step (g':=s.gens) (d':=s.drawn) (ch:=[]) (λ_ z=>nomatch z) (λb o _ hb _ e n=>u.keep b o e n hb (by simp)) (λb o _ hb _ e n=>u.slot b o e n hb (by simp)) (λb o _ e n=>u.free b o e n (by simp)) (λb o _ e=>u.there b o e (by simp)) u.tups u.frzs u.tbls (λm' hm=>by
  obtain⟨o',NO,IQ,qG,r'⟩:=hm;rw[ho] at qG;cases qG;exact⟨_,NO,IQ,hL,r'⟩) hok I.bare
def Inv.call{g':Array GenState}{t':Nat}{d':Drawn}{ch:List Addr}(I:Inv X f8 σ H s)(u:Un (pY X.stack) ch H H' s.heap h')(hok:HOk X.prog X.w H' h')(hg:aaD g')
 (Ij:∀b∈ch,(b∈X.ex\/X.adg.heap.objs.size<=b)/\b≠X.env.locals/\(∀x c,X.env.cells.lookup x=some c->c≠b)/\∀p∈X.pn++f8,p.1≠b):
 Inv X f8 σ H' {s with heap:=h',gens:=g',drawn:=d',toks:=t'}:=by
 obtain⟨m,⟨o,es,ep,ho,r⟩,_⟩:=id I.loc;obtain⟨sl,hL⟩:=u.any ho I.free λz=>(Ij _ z).2.1 rfl;exact I.step (ch:=ch) Ij (λb o hL hb hc e n=>u.keep b o e n (λz=>(Ws.mp (I.stkSub b z)).elim hL hb) hc) (λb o _ _ hc e n=>u.any e n hc) (λb o hc e n=>u.free b o e n hc) (λb o hc e=>u.there b o e hc) u.tups u.frzs u.tbls (λm' hm=>by
  obtain⟨o',NO,IQ,qG,r'⟩:=hm;rw[ho] at qG;cases qG;exact⟨_,NO,IQ,hL,r'⟩) hok hg
def Inv.turned{t':Nat}{it:Addr}(I:Inv X f8 σ H s)(k:∀b o,b≠it->s.heap.get? b=some o->h'.get? b=some o)(hn:H it=none)(hL:it≠X.env.locals)
 (h1:it∈X.ex\/X.adg.heap.objs.size<=it)(h2:∀x c,X.env.cells.lookup x=some c->c≠it)(h3:∀p∈X.pn++f8,p.1≠it):Inv X f8 σ H {s with heap:=h',toks:=t'}:=by
 have K6:∀b u,H b=some u->b≠it:=λb u e z=>by rw[z,hn] at e;cases e
 refine I.step (g':=s.gens) (d':=s.drawn) (ch:=[it]) (λb hb=>?_) (λb o _ _ hc e _=>k b o (λz=>hc (by simp[z])) e) (λb o _ _ hc e _=>⟨o.slots,k b o (λz=>hc (by simp[z])) e⟩) (λ_ _ _ _ n=>n)
  (λb o hc e=>⟨o,k b o (λz=>hc (by simp[z])) e⟩) (λ_ _ e=>e) (λ_ _ _ e=>e) (λb ps e=>⟨#[],by rw[e];simp⟩) (λm hm=>?_) (λb u e=>?_) I.bare
 ·have e:b=it:=by simpa using hb
  subst e;exact⟨h1,hL,h2,h3⟩
 ·obtain⟨o,es,ep,ho,r⟩:=hm;exact⟨o,es,ep,k _ o (Xp hL) ho,r⟩
 ·refine(I.hok b u e).stay (λc v hc q=>k c v ?_ q) (λ_ q=>q) λ_ _ q=>q;rcases hc with z | z
  ·rw[z];exact K6 b u e
  ·exact K6 c _ z
def Inv.tok(I:Inv X f8 σ H s)(t:Nat):Inv X f8 σ H {s with toks:=t}:=I.un (h':=s.heap) (t':=t) Un.refl I.hok
def Inv.kept{t':Nat}(I:Inv X f8 σ H s)(k:∀b u,s.heap.get? b=some u->h'.get? b=some u):Inv X f8 σ H {s with heap:=h',toks:=t'}:=I.un (Un.kept k) (I.hok.kept k)
def Inv.laid{a:Addr}{o:HO}{t':Nat}(I:Inv X f8 σ H s)(k:∀b u,s.heap.get? b=some u->h'.get? b=some u)(hp:s.heap.objs.size<=a)(new:ObjOk X.prog X.w (upd H a o) h' a o):
 Inv X f8 σ (upd H a o) {s with heap:=h',toks:=t'}:=I.un (Un.laid k hp (I.hok.fresh hp)) (I.hok.laid k hp new)
def Inv.write{x e:Addr}{o:HO}{t':Nat}(I:Inv X f8 σ H s)(mu:N8 (H x))(he:e=x\/H e=some (.own x))(k:∀b u,b≠e->s.heap.get? b=some u->h'.get? b=some u)(EV:∃u,h'.get? e=some u)
 (new:ObjOk X.prog X.w (upd H x o) h' x o):Inv X f8 σ (upd H x o) {s with heap:=h',toks:=t'}:=I.un (Un.write mu he k EV) (I.hok.write mu he k EV new)
def Inv.pins_of{Lg:List (Addr×Obj)}(I:Inv X f8 σ H s)(h:∀p∈Lg,s.heap.get? p.1=some p.2/\H p.1=none/\p.1≠X.env.locals/\p.1∉X.fs/\∀v,p.2.data≠ .cell v):Inv X Lg σ H s:=
 ⟨I.ok,I.os,I.bare,I.base,I.loc,I.cell,I.free,I.freeC,λp hp=>(WZ.mp hp).elim (λz=>I.pin p (Zo _ z)) (h p),I.hok,I.len⟩
def yB{N:List Str}(hN:N.Nodup){i j:Nat}{x:Str}(a:N[i]? =some x)(b:N[j]? =some x):i=j:=by
 obtain⟨h1,e1⟩:=Wh.mp a;obtain⟨h2,e2⟩:=Wh.mp b;exact(List.getElem_inj hN).mp (e1.trans e2.symm)
def uY{M:Model}{A:Xf}{E:Value->We->Prop}{i:Nat}{x:Str}{v:V}{u:Value}{Q:Unit->We->Prop}(I:Inv X f8 σ H s)(hN:X.N.Nodup)(hi:X.N[i]? =some x)(hx:Loc X.env.scope x)(r:RelV v u)
 (h:∀s',Inv X f8 (σ.set i (some v)) H s'->(∃a,XB a s.heap s'.heap/\(a=X.env.locals\/X.env.cells.lookup x=some a))->Q () s')(hf:X.fn x=true\/X.env.scope.names.lookup x=some .local:=by first | exact .inl rfl | exact .inr rfl | assumption):wpAny M A (storeName X.env x u) Q E s:=by
 obtain⟨m,hn,hl⟩:=id I.loc;have Ry:(X.env.scope.kind== .class||(X.env.scope.kind== .module&&X.env.locals !=X.env.globals))=false:=by rw[I.ok.kind];rfl
 have TN:i<σ.length:=by rw[I.len];exact(Wh.mp hi).1
 have cne:=I.cne;have tracked:∀{a:Addr}{h':Heap},(∃o,s.heap.get? a=some o/\H a=none)->XB a s.heap h'->HOk X.prog X.w H h':=λ{a h'} ha hs b ob e=>by
  obtain⟨_,_,K0⟩:=ha;refine(I.hok b ob e).stay (λc w' hc q=>(hs.2 c ?_).trans q) (λ_ q=>q) λ_ _ q=>q;rintro rfl;rcases hc with rfl | hc
  ·rw[K0] at e;cases e
  ·rw[K0] at hc;cases hc
 rcases hx with hk | hk
 ·refine wpAny_storeName_local hk hn (λh' Ca hs=>?_) Ry;obtain⟨oL,_,_,DL,_⟩:=id hn;refine h _ ⟨I.ok,I.os,I.bare,⟨λb o e n hb hx=>?_,λb o e n hb hx=>?_,I.base.free,λb o e hx=>?_,I.base.tups,I.base.frzs,I.base.tbls⟩,⟨_,Ca,λj y v' e1 e2 e3=>?_⟩,λy c e=>?_,I.free,I.freeC,λp hp=>?_,tracked ⟨oL,DL,I.free⟩ hs,by simpa using I.len⟩ ⟨_,hs, .inl rfl⟩
  ·exact(hs.2 b (WB (WM (Wi e) I.ok.above))).trans (I.base.keep b o e n hb hx)
  ·obtain⟨sl,e1⟩:=I.base.slot b o e n hb hx;exact⟨sl,(hs.2 b (WB (WM (Wi e) I.ok.above))).trans e1⟩
  ·obtain⟨o',e1⟩:=I.base.there b o e hx;exact⟨o',(hs.2 b (WB (WM (Wi e) I.ok.above))).trans e1⟩
  ·by_cases hj:j=i
   ·subst hj;rw[hi] at e1;cases e1;rw[WC TN] at e2;cases e2;exact⟨u,r, .inl ⟨hk,by simp⟩⟩
   ·rw[Wt (Xp hj)] at e2;obtain⟨u',r',q⟩:=hl j y v' e1 e2 e3;refine⟨u',r',?_⟩;rcases q with⟨k,e⟩ | ⟨k,c,e,z⟩
    ·refine .inl ⟨k,?_⟩;have:y≠x:=λe=>hj (yB hN e1 (e▸hi));simp[this,e]
    ·exact .inr ⟨k,c,e,z.sameBut hs (cne y c e)⟩
  ·obtain⟨w',z⟩:=I.cell y c e;exact⟨w',z.sameBut hs (cne y c e)⟩
  ·obtain⟨e,n,ne,nf,d⟩:=I.pin p hp;exact⟨(hs.2 p.1 ne).trans e,n,ne,nf,d⟩
 ·have RF:X.fn x=true:=by
   rcases hf with z | z
   ·exact z
   ·rw[z] at hk;cases hk
  obtain⟨c,hc⟩:=I.ok.has x (.inl hk);obtain⟨w',z⟩:=I.cell x c hc;refine wpAny_storeName_cell I.ok.kind hk hc z (λh' Ih hs=>?_);obtain⟨oc,QP,RQ⟩:=id z;refine h {s with heap:=h'} ⟨I.ok,I.os,I.bare,⟨λb o e n hb hx=>?_,λb o e n hb hx=>?_,I.base.free,λb o e hx=>?_,I.base.tups,I.base.frzs,I.base.tbls⟩,⟨m,hn.sameBut hs (Xp (cne x c hc)),λj y v' e1 e2 e3=>?_⟩,λy c' e=>?_,I.free,I.freeC,λp hp=>?_,tracked ⟨oc,QP,I.freeC x c hc⟩ hs,by simpa using I.len⟩ ⟨c,hs, .inr hc⟩
  ·exact(hs.2 b (WB (WM (Wi e) (I.ok.cab x c RF hc)))).trans (I.base.keep b o e n hb hx)
  ·obtain⟨sl,e1⟩:=I.base.slot b o e n hb hx;exact⟨sl,(hs.2 b (WB (WM (Wi e) (I.ok.cab x c RF hc)))).trans e1⟩
  ·obtain⟨o',e1⟩:=I.base.there b o e hx;exact⟨o',(hs.2 b (WB (WM (Wi e) (I.ok.cab x c RF hc)))).trans e1⟩
  ·by_cases hj:j=i
   ·subst hj;rw[hi] at e1;cases e1;rw[WC TN] at e2;cases e2;exact⟨u,r, .inr ⟨.inl hk,c,hc,Ih⟩⟩
   ·rw[Wt (Xp hj)] at e2;obtain⟨u',r',q⟩:=hl j y v' e1 e2 e3;refine⟨u',r',?_⟩;rcases q with q | ⟨k,c',e,z'⟩
    ·exact .inl q
    ·refine .inr ⟨k,c',e,z'.sameBut hs ?_⟩;rintro rfl;exact hj (yB hN e1 (I.ok.inj _ _ _ e hc▸hi))
  ·by_cases QK:c'=c
   ·subst QK;exact⟨_,Ih⟩
   ·obtain⟨w2,z2⟩:=I.cell y c' e;exact⟨w2,z2.sameBut hs QK⟩
  ·obtain⟨e,n,ne,nf,d⟩:=I.pin p hp;refine⟨(hs.2 p.1 ?_).trans e,n,ne,nf,d⟩;intro q;rw[q,QP] at e;have q':oc=p.2:=WW e;exact d w' (by rw[<-q'];exact RQ)
def su{M:Model}{A:Xf}{E:Value->We->Prop}{i:Nat}{x:Str}{v:V}{u:Value}{Q:Unit->We->Prop}(I:Inv X f8 σ H s)(hN:X.N.Nodup)(hi:X.N[i]? =some x)(hx:Loc X.env.scope x)(r:RelV v u)
 (h:∀s',Inv X f8 (σ.set i (some v)) H s'->Q () s')(hf:X.fn x=true\/X.env.scope.names.lookup x=some .local:=by first | exact .inl rfl | exact .inr rfl | assumption):wpAny M A (storeName X.env x u) Q E s:=
 uY I hN hi hx r (λs' I' _=>h s' I') hf
def Inv.call'{s':We}{ch:List Addr}(I:Inv X f8 σ H s)(ho:s'.os=s.os)(u:Un (pY X.stack) ch H H' s.heap s'.heap)(hok:HOk X.prog X.w H' s'.heap)(hg:aaD s'.gens)
 (Ij:∀b∈ch,(b∈X.ex\/X.adg.heap.objs.size<=b)/\b≠X.env.locals/\(∀x c,X.env.cells.lookup x=some c->c≠b)/\∀p∈X.pn++f8,p.1≠b):Inv X f8 σ H' s':=by
 obtain⟨h',g',d',t',o'⟩:=s';have e:o'=s.os:=ho;subst e;exact I.call (g':=g') (t':=t') (d':=d') u hok hg Ij
end
abbrev XK:=Value->Option Addr->Hp->Prop
abbrev St:=List (Option V)
abbrev VK:=V->Hp->Prop
abbrev TE:=St->Hp->VK->Prop
abbrev TT:=St->Hp->(Bool->Hp->Prop)->Prop
abbrev TA:=St->Hp->(List V->Hp->Prop)->Prop
structure Ends where
 nx:St->Hp->Prop
 rt:VK
 bk:St->Hp->Prop:=λ_ _=>False
 ct:St->Hp->Prop:=λ_ _=>False
abbrev TS:=Ends->St->Hp->Prop
def EP(X:Cx)(f8:List (Addr×Obj))(σ:St)(Q:VK)(u:Value)(s':We):Prop:=∃v H',Inv X f8 σ H' s'/\RelV v u/\Q v H'
def TP(X:Cx)(f8:List (Addr×Obj))(σ:St)(Q:Bool->Hp->Prop)(b:Bool)(s':We):Prop:=∃H',Inv X f8 σ H' s'/\Q b H'
def AP(X:Cx)(f8:List (Addr×Obj))(σ:St)(Q:List V->Hp->Prop)(us:List Value)(s':We):Prop:=∃vs H',Inv X f8 σ H' s'/\Vals vs us/\Q vs H'
def SP(X:Cx)(f8:List (Addr×Obj))(D:Ends)(f:Flow)(s':We):Prop:=
 match f with
 | .next=>∃σ' H',Inv X f8 σ' H' s'/\D.nx σ' H'
 | .brk=>∃σ' H',Inv X f8 σ' H' s'/\D.bk σ' H'
 | .cont=>∃σ' H',Inv X f8 σ' H' s'/\D.ct σ' H'
 | .ret u=>∃v σ' H',Inv X f8 σ' H' s'/\RelV v u/\D.rt v H'
def PE(X:Cx)(e:Expr)(t:TE):Prop:=
 ∀(f8:List (Addr×Obj)) (s:We) (σ:St) (H:Hp) (Q:VK),Inv X f8 σ H s->t σ H Q->wpAny (model X.prog X.w) X.A (eval e X.env) (EP X f8 σ Q) X.xe s
def PT(X:Cx)(e:Expr)(t:TT):Prop:=
 ∀(f8:List (Addr×Obj)) (s:We) (σ:St) (H:Hp) (Q:Bool->Hp->Prop),Inv X f8 σ H s->t σ H Q->wpAny (model X.prog X.w) X.A (isTrue e X.env (eval e X.env)) (TP X f8 σ Q) X.xe s
def PW(X:Cx)(e:Expr)(t:TT):Prop:=
 ∀(whole:Sem Value) (f8:List (Addr×Obj)) (s:We) (σ:St) (H:Hp) (Q:Bool->Hp->Prop),Inv X f8 σ H s->t σ H Q->wpAny (model X.prog X.w) X.A (isTrue e X.env whole) (TP X f8 σ Q) X.xe s
def PW.pt{X:Cx}{e:Expr}{t:TT}(h:PW X e t):PT X e t:=h _
def PA(X:Cx)(es:List Expr)(t:TA):Prop:=
 ∀(pos:Pos) (f8:List (Addr×Obj)) (s:We) (σ:St) (H:Hp) (Q:List V->Hp->Prop),Inv X f8 σ H s->t σ H Q->wpAny (model X.prog X.w) X.A (spliced (YO pos (Wv es X.env))) (AP X f8 σ Q) X.xe s
def PS(X:Cx)(st:Stmt)(t:TS):Prop:=
 ∀(f8:List (Addr×Obj)) (s:We) (σ:St) (H:Hp) (D:Ends),Inv X f8 σ H s->t D σ H->wpAny (model X.prog X.w) X.A (exec st X.env) (SP X f8 D) X.xe s
def PSs(X:Cx)(st:List Stmt)(t:TS):Prop:=
 ∀(f8:List (Addr×Obj)) (s:We) (σ:St) (H:Hp) (D:Ends),Inv X f8 σ H s->t D σ H->wpAny (model X.prog X.w) X.A (execs st X.env) (SP X f8 D) X.xe s
def cp{α:Type}{t:Sem α}{Q Q':α->We->Prop}{M:Model}{A:Xf}{E:Value->We->Prop}{s:We}(h:wpAny M A t Q E s)(hQ:∀a s,Q a s->Q' a s):wpAny M A t Q' E s:=Xz h hQ λ_ _ x=>x
section
variable{X:Cx}
def bin{a b:Expr}{ta tb:TE}(ha:PE X a ta)(hb:PE X b tb){f8:List (Addr×Obj)}{s:We}{σ:St}{H:Hp}{R:V->V->Hp->Prop}(I:Inv X f8 σ H s)(h:ta σ H λx H1=>tb σ H1 λy H2=>R x y H2)
 {α:Type}{Q:α->We->Prop}{f:Value->Value->Sem α}
 (hf:∀v u s2 x y H2,Inv X f8 σ H2 s2->RelV x v->RelV y u->R x y H2->wpAny (model X.prog X.w) X.A (f v u) Q X.xe s2):
 wpAny (model X.prog X.w) X.A (eval a X.env) (λv v4=>wpAny (model X.prog X.w) X.A (eval b X.env) (λu t0=>wpAny (model X.prog X.w) X.A (f v u) Q X.xe t0) X.xe v4) X.xe s:=by
 refine cp (ha f8 s σ H _ I h) λv s1 ⟨x,H1,I1,r1,q1⟩=>?_;refine cp (hb f8 s1 σ H1 _ I1 q1) λu s2 ⟨y,H2,I2,r2,q2⟩=>?_;exact hf v u s2 x y H2 I2 r1 r2 q2
def sv(i:Nat):TE:=λσ H Q=>∃v,σ[i]? =some (some v)/\Q v H
def tC(v:V):TE:=λ_ H Q=>Q v H
def M7{i:Nat}{x:Str}{pos:Pos}(hN:X.N[i]? =some x)(hv:QB X.env.scope x)(hd:(x==("__debug__":Str))=false:=by decide)(zW:(x==("__classdict__":Str))=false:=by decide):PE X (.Name x pos) (sv i):=by
 intro f8 s σ H Q I h;obtain⟨v,e,h⟩:=h;obtain⟨m,hn,hl⟩:=I.loc;obtain⟨u,r,l⟩:=hl i x v hN e hv;have fin:EP X f8 σ Q u s:=⟨v,H,I,r,h⟩
 rcases l with⟨hk,hm⟩ | ⟨hk,c,hc,B_⟩
 ·exact wpAny_Name (wpAny_loadName_local I.ok.kind hk hn hm fin) hd
 ·rcases hk with hk | hk
  ·exact wpAny_Name (wpAny_loadName_cell I.ok.kind hk hc B_ fin) hd
  ·exact wpAny_Name (wpAny_loadName_free I.ok.kind hk hc B_ fin zW) hd
def MX{i j pos}:PE X (.Constant (.int i) j pos) (tC (.int i)):=λ_ _ _ H _ I h=>wpAny_Constant_int ⟨.int i,H,I.tok _,⟨_,rfl⟩,h⟩
def PR{b j pos}:PE X (.Constant (.bool b) j pos) (tC (.bl b)):=λ_ _ _ H _ I h=>Constant_bool ⟨.bl b,H,I,rfl,h⟩
def MY{j pos}:PE X (.Constant .none j pos) (tC .non):=λ_ _ _ H _ I h=>Constant_none ⟨.non,H,I,rfl,h⟩
def M4{x j pos}:PE X (.Constant (.str x) j pos) (tC (.str x)):=λ_ _ _ H _ I h=>Calls.Constant_str ⟨.str x,H,I.tok _,⟨_,rfl⟩,h⟩
def Gl(X:Cx)(x:Str):Prop:=X.env.kindOf x=some .globalImplicit
def Co{E:Value->We->Prop}{f8:List (Addr×Obj)}{s:We}{σ:St}{H:Hp}{x:Str}{u:Value}{pos:Pos}{Q:Value->We->Prop}(I:Inv X f8 σ H s)(hg:Gl X x)(hm:X.mg x=some u)(h:Q u s)
 (hd:(x==("__debug__":Str))=false:=by decide):wpAny (model X.prog X.w) X.A (eval (.Name x pos) X.env) Q E s:=
 abj I.ok.kind hg (Calls.loadGlobal_global (by rw[I.ok.glob];exact I.mod.glob.keeps I.bk) hm h) hd
def jM{E:Value->We->Prop}{f8:List (Addr×Obj)}{s:We}{σ:St}{H:Hp}{x:Str}{u:Value}{pos:Pos}{Q:Value->We->Prop}(I:Inv X f8 σ H s)(hg:Gl X x)(hm:X.mg x=none)(hv:WV x=some u)(h:Q u s)
 (hn:x≠"__name__":=by decide)(hd:(x==("__debug__":Str))=false:=by decide):wpAny (model X.prog X.w) X.A (eval (.Name x pos) X.env) Q E s:=by
 obtain⟨mb,h1,h2⟩:=I.mod.blt;exact abj I.ok.kind hg (Calls.loadGlobal_builtin (by rw[I.ok.glob];exact I.mod.glob.keeps I.bk) hm (by rw[I.ok.blt];exact h1.keeps I.bk) ((h2 x hn).trans hv) h) hd
def JZ{x:Str}{v:V}{u:Value}{pos:Pos}(hg:Gl X x)(hm:X.mg x=some u)(r:RelV v u)(hd:(x==("__debug__":Str))=false:=by decide):PE X (.Name x pos) (tC v):=
 λ_ _ _ H _ I h=>Co I hg hm ⟨v,H,I,r,h⟩ hd
def JV{x:Str}{v:V}{u:Value}{pos:Pos}(hg:Gl X x)(hm:X.mg x=none)(hv:WV x=some u)(r:RelV v u)(hn:x≠"__name__":=by decide)(hd:(x==("__debug__":Str))=false:=by decide):PE X (.Name x pos) (tC v):=
 λ_ _ _ H _ I h=>jM I hg hm hv ⟨v,H,I,r,h⟩ hn hd
variable{a b:Expr}{ta tb:TE}{pos:Pos}
def PC(X:Cx)(op:CmpOp)(a b:Expr)(t:TE):Prop:=
 ∀(f8:List (Addr×Obj)) (s:We) (σ:St) (H:Hp) (Q:VK),Inv X f8 σ H s->t σ H Q->
  wpAny (model X.prog X.w) X.A (eval a X.env) (λv v4=>wpAny (model X.prog X.w) X.A (eval b X.env) (λu t0=>wpAny (model X.prog X.w) X.A (Xd op v u) (EP X f8 σ Q) X.xe t0) X.xe v4) X.xe s
def GF(b:Expr){op:CmpOp}(h:op≠ .In)(h2:op≠ .NotIn):Xq op b=false:=by
 have e1:(op==CmpOp.In)=false:=by cases op<;>first | rfl | exact ac_ rfl h
 have e2:(op==CmpOp.NotIn)=false:=by cases op<;>first | rfl | exact ac_ rfl h2
 cases b<;>simp[Xq,e1,e2]
def MW{op:CmpOp}{t:TE}(h:PC X op a b t)(h1:Xq op b=false:=by first | exact GF _ (by decide) (by decide) | rfl):PE X (.Compare a [op] [b] pos) t:=λf8 s σ H Q I hw=>wpAny_Compare1 (h f8 s σ H Q I hw) h1
variable{tA dN:TT}{T0:List Expr}
def SH(t u:TT):TT:=λσ H Q=>t σ H λc H1=>if c=true then u σ H1 Q else Q false H1
def VM(t u:TT):TT:=λσ H Q=>t σ H λc H1=>if c=true then Q true H1 else u σ H1 Q
def SU(t:TT):TT:=λσ H Q=>t σ H λc H1=>Q (!c) H1
def Ka(ha:PT X a tA):PW X (.BoolOp .And [a] pos) tA:=by
 intro wh f8 s σ H Q I h;refine isTrue_and (cp (ha f8 s σ H Q I h) λc s1 e=>?_);cases c with
 |true=>exact isTrue_and_nil e
 |false=>exact e
def Nj(ha:PT X a tA):PW X (.BoolOp .Or [a] pos) tA:=by
 intro wh f8 s σ H Q I h;refine isTrue_or (cp (ha f8 s σ H Q I h) λc s1 e=>?_);cases c with
 |false=>exact isTrue_or_nil e
 |true=>exact e
def Ni(ha:PT X a tA)(hb:PW X (.BoolOp .And (b::T0) pos) dN):PW X (.BoolOp .And (a::b::T0) pos) (SH tA dN):=by
 intro wh f8 s σ H Q I h;refine isTrue_and (cp (ha f8 s σ H _ I h) λc s1 ⟨H1,I1,q1⟩=>?_);cases c with
 |true=>exact hb wh f8 s1 σ H1 Q I1 q1
 |false=>exact⟨H1,I1,q1⟩
def P4(ha:PT X a tA)(hb:PW X (.BoolOp .Or (b::T0) pos) dN):PW X (.BoolOp .Or (a::b::T0) pos) (VM tA dN):=by
 intro wh f8 s σ H Q I h;refine isTrue_or (cp (ha f8 s σ H _ I h) λc s1 ⟨H1,I1,q1⟩=>?_);cases c with
 |true=>exact⟨H1,I1,q1⟩
 |false=>exact hb wh f8 s1 σ H1 Q I1 q1
def Ng(ha:PT X a tA):PT X (.UnaryOp .Not a pos) (SU tA):=by
 intro f8 s σ H Q I h;exact isTrue_not (ha f8 s σ H (λc H1=>Q (!c) H1) I h)
def Qm(ta tb:TE):TE:=λσ H Q=>ta σ H λx H1=>∃c,x= .bl c/\if c=true then tb σ H1 Q else Q (.bl false) H1
def SV(ta tb:TE):TE:=λσ H Q=>ta σ H λx H1=>∃c,x= .bl c/\if c=true then Q (.bl true) H1 else tb σ H1 Q
def Qq(ta:TE):TE:=λσ H Q=>ta σ H λx H1=>∃c,x= .bl c/\Q (.bl (!c)) H1
def M0{op}{t:TE}(h:PE X a t):PE X (.BoolOp op [a] pos) t:=λf8 s σ H Q I hw=>BoolOp_one (h f8 s σ H Q I hw)
def MV(ha:PE X a ta)(hb:PE X (.BoolOp .And (b::T0) pos) tb):PE X (.BoolOp .And (a::b::T0) pos) (Qm ta tb):=by
 intro f8 s σ H Q I h;refine BoolOp_and (cp (ha f8 s σ H _ I h) λv s1 ⟨x,H1,I1,r1,q1⟩=>?_);obtain⟨c,rfl,q1⟩:=q1;cases r1;refine XJ ?_;cases c with
 |true=>exact hb f8 s1 σ H1 Q I1 q1
 |false=>exact⟨.bl false,H1,I1,rfl,q1⟩
def PX(ha:PE X a ta)(hb:PE X (.BoolOp .Or (b::T0) pos) tb):PE X (.BoolOp .Or (a::b::T0) pos) (SV ta tb):=by
 intro f8 s σ H Q I h;refine BoolOp_or (cp (ha f8 s σ H _ I h) λv s1 ⟨x,H1,I1,r1,q1⟩=>?_);obtain⟨c,rfl,q1⟩:=q1;cases r1;refine XJ ?_;cases c with
 |false=>exact hb f8 s1 σ H1 Q I1 q1
 |true=>exact⟨.bl true,H1,I1,rfl,q1⟩
def MZ(ha:PE X a ta):PE X (.UnaryOp .Not a pos) (Qq ta):=by
 intro f8 s σ H Q I h;refine UnaryOp_ (cp (ha f8 s σ H _ I h) λv s1 ⟨x,H1,I1,r1,q1⟩=>?_);obtain⟨c,rfl,q1⟩:=q1;cases r1;exact not_of (XJ ⟨.bl (!c),H1,I1,rfl,q1⟩)
def VL(t:TT)(ta tb:TE):TE:=λσ H Q=>t σ H λc H1=>if c=true then ta σ H1 Q else tb σ H1 Q
def G9{c:Expr}(hc:PT X c tA)(ha:PE X a ta)(hb:PE X b tb):PE X (.IfExp c a b pos) (VL tA ta tb):=by
 intro f8 s σ H Q I h;refine wpAny_IfExp (cp (hc f8 s σ H _ I h) λd s1 ⟨H1,I1,q1⟩=>?_);cases d with
 |true=>exact ha f8 s1 σ H1 Q I1 q1
 |false=>exact hb f8 s1 σ H1 Q I1 q1
end
def SqL(K:Wm)(H:Hp)(a:Addr)(xs:List V):Prop:=
 Rd H a (.lst xs)\/
  ∃(o:Obj) (aL:Array Value) (n:Nat),K.lookup a=some o/\o.cls= .type "list"/\o.dict=none/\o.data= .seq aL n/\aL.size<=Ww/\Vals xs aL.toList
def SqT(K:Wm)(H:Hp)(a:Addr)(xs:List V):Prop:=
 Rd H a (.tup xs)\/
  ∃(o:Obj) (aL:Array Value) (n:Nat),K.lookup a=some o/\o.cls= .type "tuple"/\o.data= .seq aL n/\aL.size<=Ww/\Vals xs aL.toList
def Rk:Value->Option V
 | .none=>some .non
 | .bool b=>some (.bl b)
 | .int i _=>some (.int i)
 | .str x _=>some (.str x)
 | .bytes b _=>some (.byt b)
 | .float b _=>some (.flt b)
 | .ref a=>some (.ref a)
 | .type n=>some (.ty n)
 |_=>none
def RelV.abs{x:V}{u:Value}(r:RelV x u):Rk u=some x:=by
 cases x with
 |non=>cases r;rfl
 |bl _=>cases r;rfl
 |int _=>obtain⟨t,rfl⟩:=r;rfl
 |str _=>obtain⟨t,rfl⟩:=r;rfl
 |byt _=>obtain⟨t,rfl⟩:=r;rfl
 |flt _=>obtain⟨t,rfl⟩:=r;rfl
 |ref _=>cases r;rfl
 |ty _=>cases r;rfl
def RelV.inj{x y:V}{u:Value}(r:RelV x u)(q:RelV y u):x=y:=WW (r.abs.symm.trans q.abs)
def Vals.inj:∀{xs ys:List V}{us:List Value},Vals xs us->Vals ys us->xs=ys
 |_,_,_, .nil, .nil=>rfl
 |_,_,_, .cons r t, .cons r' t'=>by rw[r.inj r',Vals.inj t t']
section
variable{X:Cx}{f8:List (Addr×Obj)}{σ:St}{H:Hp}{s:We}{a:Addr}{xs ys:List V}
def SqL.of{K:Wm}(h:H a=some (.lst xs)):SqL K H a xs:= .inl (.inl h)
def SqT.of{K:Wm}(h:H a=some (.tup xs)):SqT K H a xs:= .inl (.inl h)
def Inv.list(I:Inv X f8 σ H s)(h:SqL X.K H a xs):∃aL:List Value,Vals xs aL/\PlainL s.heap a aL.toArray/\xs.length<=Ww:=by
 rcases h with h | ⟨o,aL,n,hk,hc,hd,hs,hz,r⟩
 ·obtain⟨z,aL,n,r,e⟩:=h.ok I.hok;exact⟨aL,r,⟨_,n,e,rfl,rfl,rfl⟩,z⟩
 ·refine⟨aL.toList,r,⟨o,n,I.kIn a o hk,hc,hd,by simpa using hs⟩,?_⟩;have e:=r.length;simp only[Wn] at e;omega
def Inv.tuple(I:Inv X f8 σ H s)(h:SqT X.K H a xs):∃aL:List Value,Vals xs aL/\IsTup s.heap a aL.toArray/\xs.length<=Ww:=by
 rcases h with h | ⟨o,aL,n,hk,hc,hs,hz,r⟩
 ·obtain⟨z,aL,r,p⟩:=h.ok I.hok;exact⟨aL,r,p,z⟩
 ·refine⟨aL.toList,r,⟨o,I.kIn a o hk,hc,n,by simpa using hs⟩,?_⟩;have e:=r.length;simp only[Wn] at e;omega
def Inv.list_inj(I:Inv X f8 σ H s)(h:SqL X.K H a xs)(h':SqL X.K H a ys):xs=ys:=by
 obtain⟨aL,r,⟨o,n,e,_,_,d⟩,_⟩:=I.list h;obtain⟨its',r',⟨o',n',e',_,_,d'⟩,_⟩:=I.list h';rw[e] at e';cases e';rw[d] at d';injection d' with d1 _
 have:aL=its':=by simpa using ada Array.toList d1
 subst this;exact r.inj r'
def Inv.tuple_inj(I:Inv X f8 σ H s)(h:SqT X.K H a xs)(h':SqT X.K H a ys):xs=ys:=by
 obtain⟨aL,r,⟨o,e,_,n,d⟩,_⟩:=I.tuple h;obtain⟨its',r',⟨o',e',_,n',d'⟩,_⟩:=I.tuple h';rw[e] at e';cases e';rw[d] at d';injection d' with d1 _
 have:aL=its':=by simpa using ada Array.toList d1
 subst this;exact r.inj r'
end
abbrev Cx.wish(X:Cx)(E:Value->We->Prop):Cx:={X with xe:=E}
abbrev Cx.nox(X:Cx):Cx:=X.wish λ_ _=>False
def Cx.Ok.wish{X:Cx}(ok:X.Ok)(E:Value->We->Prop):(X.wish E).Ok:=
 ⟨ok.mod,ok.kind,ok.glob,ok.blt,ok.above,ok.inj,ok.has,ok.cab,ok.hd,ok.frames,ok.stk,ok.exf,ok.bs,ok.bsz,ok.noex,ok.exfs,ok.funs,ok.frf⟩
def Cx.Ok.unwish{X:Cx}{E:Value->We->Prop}(ok:(X.wish E).Ok):X.Ok:=
 ⟨ok.mod,ok.kind,ok.glob,ok.blt,ok.above,ok.inj,ok.has,ok.cab,ok.hd,ok.frames,ok.stk,ok.exf,ok.bs,ok.bsz,ok.noex,ok.exfs,ok.funs,ok.frf⟩
section
variable{X:Cx}{f8:List (Addr×Obj)}{σ:St}{H:Hp}{s:We}{E:Value->We->Prop}
def Inv.wish(I:Inv X f8 σ H s)(E:Value->We->Prop):Inv (X.wish E) f8 σ H s:=⟨I.ok.wish E,I.os,I.bare,I.base,I.loc,I.cell,I.free,I.freeC,I.pin,I.hok,I.len⟩
def Inv.unwish(I:Inv (X.wish E) f8 σ H s):Inv X f8 σ H s:=⟨I.ok.unwish,I.os,I.bare,I.base,I.loc,I.cell,I.free,I.freeC,I.pin,I.hok,I.len⟩
def SP.unwish{D:Ends}{f:Flow}{s':We}(h:SP (X.wish E) f8 D f s'):SP X f8 D f s':=by
 cases f with
 |next=>obtain⟨σ',H',I,q⟩:=h;exact⟨σ',H',I.unwish,q⟩
 |brk=>obtain⟨σ',H',I,q⟩:=h;exact⟨σ',H',I.unwish,q⟩
 |cont=>obtain⟨σ',H',I,q⟩:=h;exact⟨σ',H',I.unwish,q⟩
 |ret u=>obtain⟨v,σ',H',I,r,q⟩:=h;exact⟨v,σ',H',I.unwish,r,q⟩
def PE.nox{e:Expr}{t:TE}(h:PE X.nox e t):PE X e t:=λf8 s σ H Q I hw=>
 Xz (h f8 s σ H Q (I.wish _) hw) (λ_ _ ⟨v,H',I',r,q⟩=>⟨v,H',I'.unwish,r,q⟩) λ_ _ z=>Yu z
def PT.nox{e:Expr}{t:TT}(h:PT X.nox e t):PT X e t:=λf8 s σ H Q I hw=>
 Xz (h f8 s σ H Q (I.wish _) hw) (λ_ _ ⟨H',I',q⟩=>⟨H',I'.unwish,q⟩) λ_ _ z=>Yu z
def PSs.nox{st:List Stmt}{t:TS}(h:PSs X.nox st t):PSs X st t:=λf8 s σ H D I hw=>
 Xz (h f8 s σ H D (I.wish _) hw) (λ_ _ q=>q.unwish) λ_ _ z=>Yu z
end
section
variable{X:Cx}{st:Stmt}{T0:List Stmt}{t u:TS}{e:Expr}{te:TE}{pos:Pos}
def Qp:TS:=λD σ H=>D.nx σ H
def SX(t u:TS):TS:=λD σ H=>t {D with nx:=u D} σ H
def J7:PSs X [] Qp:=λ_ _ σ H _ I h=>aas ⟨σ,H,I,h⟩
def Hc(h1:PS X st t)(h2:PSs X T0 u):PSs X (st::T0) (SX t u):=by
 intro f8 s σ H D I h;refine wpAny_execs_cons (cp (h1 f8 s σ H {D with nx:=u D} I h) λf s1 q=>?_);cases f with
 |next=>
  obtain⟨σ',H',I',q⟩:=q;exact h2 f8 s1 σ' H' D I' q
 |ret v=>exact q
 |brk=>exact q
 |cont=>exact q
def J8(h1:PS X st t):PSs X [st] t:=by
 intro f8 s σ H D I h;refine wpAny_execs_cons (cp (h1 f8 s σ H D I h) λf s1 q=>?_);cases f with
 |next=>exact aas q
 |ret v=>exact q
 |brk=>exact q
 |cont=>exact q
def Inv.quiet{f8:List (Addr×Obj)}{σ:St}{H:Hp}{s:We}(I:Inv X f8 σ H s):interactive X.env=false:=by simp[interactive,I.ok.kind]
def HV(te:TE):TS:=λD σ H=>te σ H λ_ H1=>D.nx σ H1
def p7(he:PE X e te)(hs:Z2 e none pos.line X.env=pure false:=by rfl):PS X (.Expr e pos) (HV te):=by
 intro f8 s σ H D I h;exact wpAny_Expr_any (cp (he f8 s σ H _ I h) λv s1 ⟨x,H1,I1,r1,q1⟩=>⟨σ,H1,I1,q1⟩) I.quiet hs
def SW(te:TE):TS:=λD σ H=>te σ H D.rt
def Nc(he:PE X e te):PS X (.Return (some e) pos) (SW te):=by
 intro f8 s σ H D I h;exact wpAny_Return_some (cp (he f8 s σ H _ I h) λv s1 ⟨x,H1,I1,r1,q1⟩=>⟨x,σ,H1,I1,r1,q1⟩)
def SR(c:TT)(t u:TS):TS:=λD σ H=>c σ H λb H1=>if b=true then t D σ H1 else u D σ H1
def PZ{c:Expr}{a b:List Stmt}{tc:TT}(hc:PT X c tc)(ha:PSs X a t)(hb:PSs X b u):PS X (.If c a b pos) (SR tc t u):=by
 intro f8 s σ H D I h;refine wpAny_If (cp (hc f8 s σ H _ I h) λd s1 ⟨H1,I1,q1⟩=>?_);cases d with
 |true=>exact ha f8 s1 σ H1 D I1 q1
 |false=>exact hb f8 s1 σ H1 D I1 q1
end
abbrev TG:=V->St->Hp->(St->Hp->Prop)->Prop
abbrev KC:=List V->St->Hp->(St->Hp->Prop)->Prop
def PG(X:Cx)(target:Expr)(t:TG):Prop:=
 ∀(f8:List (Addr×Obj)) (s:We) (σ:St) (H:Hp) (v:V) (u:Value) (Q:St->Hp->Prop),Inv X f8 σ H s->RelV v u->t v σ H Q->
  wpAny (model X.prog X.w) X.A (assign target X.env u) (λ_ s'=>∃σ' H',Inv X f8 σ' H' s'/\Q σ' H') X.xe s
def Qz(X:Cx)(ts:List Expr)(t:KC):Prop:=
 ∀(f8:List (Addr×Obj)) (s:We) (σ:St) (H:Hp) (vs:List V) (us:List Value) (Q:St->Hp->Prop),Inv X f8 σ H s->Vals vs us->t vs σ H Q->
  wpAny (model X.prog X.w) X.A (assignInOrder ((Yr ts X.env).map (·.2)) us) (λ_ s'=>∃σ' H',Inv X f8 σ' H' s'/\Q σ' H') X.xe s
abbrev Rf:=V->V->V->Hp->(Hp->Prop)->Prop
abbrev QA:=V->V->Hp->VK->Prop
def Tb(X:Cx)(op:Operator)(t:QA):Prop:=
 ∀(f8:List (Addr×Obj)) (s:We) (σ:St) (H:Hp) (x y:V) (v u:Value) (Q:VK),Inv X f8 σ H s->RelV x v->RelV y u->t x y H Q->
  wpAny (model X.prog X.w) X.A (inplaceOp op v u) (EP X f8 σ Q) X.xe s
section
variable{X:Cx}{pos:Pos}
def FI(i:Nat):TG:=λv σ H Q=>Q (σ.set i (some v)) H
def a8{i:Nat}{x:Str}(hN:X.N.Nodup)(hi:X.N[i]? =some x)(hx:Loc X.env.scope x)(hf:X.fn x=true\/X.env.scope.names.lookup x=some .local:=by first | exact .inl rfl | exact .inr rfl | assumption):PG X (.Name x pos) (FI i):=by
 intro f8 s σ H v u Q I r h;exact abn (su I hN hi hx r (λs' I'=>⟨_,H,I',h⟩) hf)
def Oy:KC:=λvs σ H Q=>vs=[]/\Q σ H
def KY(t:TG)(u:KC):KC:=λvs σ H Q=>∃v r,vs=v::r/\t v σ H λσ' H'=>u r σ' H' Q
def mP:Qz X [] Oy:=by
 intro f8 s σ H vs us Q I r h;obtain⟨e,h⟩:=h;subst e;cases r;exact assignInOrder_nil ⟨σ,H,I,h⟩
def dD{e:Expr}{es:List Expr}{t:TG}{u:KC}(h1:PG X e t)(h2:Qz X es u)
 (hs:(Yr (e::es) X.env).map (·.2)=assign e X.env::(Yr es X.env).map (·.2):=by rfl):Qz X (e::es) (KY t u):=by
 intro f8 s σ H vs us Q I r h;obtain⟨v,vr,e1,h⟩:=h;subst e1;cases r with
 |cons r rr=>
  rw[hs];refine assignInOrder_cons (cp (h1 f8 s σ H _ _ _ I r h) λ_ s1 ⟨σ1,H1,I1,q1⟩=>?_);exact h2 f8 s1 σ1 H1 _ _ Q I1 rr q1
def LQ(K:Wm)(n:Nat)(t:KC):TG:=λv σ H Q=>∃a xs,v= .ref a/\SqT K H a xs/\xs.length=n/\t xs σ H Q
def rW{es:List Expr}{k:Nat}{t:KC}{n:Nat}(hc:X.calm=true)(h:Qz X es t)
 (hn:(Yr es X.env).length=n:=by rfl)(t_:(Yr es X.env).findIdx? (·.1)=none:=by rfl):PG X (.Tuple es k pos) (LQ X.K n t):=by
 intro f8 s σ H v u Q I r hw;obtain⟨a,xs,e1,hq,hl,hw⟩:=hw;subst e1;cases r;obtain⟨aL,rv,ht,hz⟩:=I.tuple hq;refine assign_Tuple_tuple (I.ok.hd hc) ht (by simp[hn,<-hl,rv.length]) t_ λh' hx=>?_;have I1:Inv X f8 σ H {s with heap:=h'}:=I.kept (t':=s.toks) λb o e=>hx b o (WB (Wi e)) e;exact h f8 _ σ H xs _ Q I1 (by simpa using rv) hw
def lG(to ti:TE)(t:Rf):TG:=λv σ H Q=>to σ H λo H1=>ti σ H1 λi H2=>t o i v H2 λH3=>Q σ H3
def SI(te:TE)(g:TG):TS:=λD σ H=>te σ H λx H1=>g x σ H1 D.nx
def rZ{tg e:Expr}{te:TE}{g:TG}(he:PE X e te)(hg:PG X tg g)(hs:aa5 [tg] e pos.line X.env=pure false:=by rfl)(hw:swappedStores [tg] e X.env=pure none:=by rfl)
 (h1:(Yr [tg] X.env).map (·.2)=[assign tg X.env]:=by rfl):PS X (.Assign [tg] e pos) (SI te g):=by
 intro f8 s σ H D I h;refine wpAny_Assign_stores (cp (he f8 s σ H _ I h) λv s1 ⟨x,H1,I1,r1,q1⟩=>?_) hs hw;rw[h1];exact cp (hg f8 s1 σ H1 x v _ I1 r1 q1) λ_ s2 q=>q
def SJ(i:Nat)(te:TE)(ti:QA):TS:=λD σ H=>∃x,σ[i]? =some (some x)/\te σ H λy H1=>ti x y H1 λz H2=>D.nx (σ.set i (some z)) H2
def Na{i:Nat}{x:Str}{e:Expr}{te:TE}{op:Operator}{ti:QA}{pos':Pos}(hN:X.N.Nodup)(hi:X.N[i]? =some x)(hx:Loc X.env.scope x)(he:PE X e te)(ho:Tb X op ti)(hf:X.fn x=true\/X.env.scope.names.lookup x=some .local:=by first | exact .inl rfl | exact .inr rfl | assumption):
 PS X (.AugAssign (.Name x pos') op e pos) (SJ i te ti):=by
 intro f8 s σ H D I h;obtain⟨v,e1,h⟩:=h;obtain⟨m,hn,hl⟩:=I.loc;have vis:QB X.env.scope x:=by rcases hx with k | k;exact .inl k;exact .inr (.inl k)
 obtain⟨u,r,l⟩:=hl i x v hi e1 vis;refine wpAny_AugAssign_Name ?_;have go:wpAny (model X.prog X.w) X.A (eval e X.env) (λw t0=>wpAny (model X.prog X.w) X.A (inplaceOp op u w) (λr s₃=>wpAny (model X.prog X.w) X.A (storeName X.env x r) (λ_=>SP X f8 D .next) X.xe s₃) X.xe t0) X.xe s:=by
  refine cp (he f8 s σ H _ I h) λw s1 ⟨y,H1,I1,r1,q1⟩=>?_;refine cp (ho f8 s1 σ H1 v y u w _ I1 r r1 q1) λz s2 ⟨zv,H2,I2,r2,q2⟩=>?_;exact su I2 hN hi hx r2 (λs3 I3=>⟨_,H2,I3,q2⟩) hf
 rcases l with⟨hk,hm⟩ | ⟨hk,c,hc,B_⟩
 ·exact wpAny_loadName_local I.ok.kind hk hn hm go
 ·rcases hk with hk | hk
  ·exact wpAny_loadName_cell I.ok.kind hk hc B_ go
  ·rcases hx with k | k
   ·have:X.env.scope.names.lookup x=some .free:=hk;rw[k] at this;cases this
   ·have:X.env.scope.names.lookup x=some .free:=hk;rw[k] at this;cases this
def VB(f:Int->Int->Int):QA:=λx y H Q=>∃i j,x= .int i/\y= .int j/\Q (.int (f i j)) H
def Md:Tb X .Add (VB λi j=>i+j):=by
 intro f8 s σ H x y v u Q I r1 r2 h;obtain⟨i,j,e1,e2,q⟩:=h;subst e1;subst e2;obtain⟨t,rfl⟩:=r1;obtain⟨t',rfl⟩:=r2;exact iadd_int ⟨.int _,H,I.tok _,⟨_,rfl⟩,q⟩
end
section
variable{X:Cx}{pos:Pos}
def ND(c:TT)(tb:TS):TS:=λD σ H=>∃W:Nat->St->Hp->Prop,(∃m,W m σ H)/\∀m σ H,W m σ H->
 c σ H λb H1=>if b=true then∃N:St->Hp->Prop,(∀σ' H',N σ' H'->∃m',m'<m/\W m' σ' H')/\tb {D with nx:=N,ct:=N,bk:=D.nx} σ H1 else D.nx σ H1
def Hb{c:Expr}{body:List Stmt}{tc:TT}{tb:TS}(hp:PassesOwn (model X.prog X.w) X.A X.env X.xe)(hc:PT X c tc)(hb:PSs X body tb):PS X (.While c body [] pos) (ND tc tb):=by
 intro f8 s σ H D I h;obtain⟨W,⟨m0,w0⟩,turn⟩:=h;refine wpAny_While (codeAny_whileLoop (λn s'=>∃σ' H',Inv X f8 σ' H' s'/\W n σ' H') ?_ m0 ⟨σ,H,I,w0⟩);rintro n s1 ⟨σ1,H1,I1,w1⟩;refine YM hp (cp (hc f8 s1 σ1 H1 _ I1 (turn n σ1 H1 w1)) λb s2 ⟨H2,I2,q2⟩=>?_);cases b with
 |true=>
  obtain⟨N,hN,q2⟩:=q2;rw[ac5 rfl];refine YM hp (cp (hb f8 s2 σ1 H2 _ I2 q2) λf s3 q3=>?_);cases f with
  |next=>
   obtain⟨σ3,H3,I3,n3⟩:=q3;obtain⟨m',hm,w3⟩:=hN σ3 H3 n3;exact⟨m',hm,σ3,H3,I3,w3⟩
  |cont=>
   obtain⟨σ3,H3,I3,n3⟩:=q3;obtain⟨m',hm,w3⟩:=hN σ3 H3 n3;exact⟨m',hm,σ3,H3,I3,w3⟩
  |brk=>exact q3
  |ret v=>exact q3
 |false=>
  rw[ac6 Wz];exact aas ⟨σ1,H2,I2,q2⟩
end
structure It where
 go:Nat->Hp->Prop
 yld:Nat->Hp->V->Hp->Prop
 stop:Nat->Hp->Prop
def sM(X:Cx)(f8:List (Addr×Obj))(H:Hp)(b:Addr):Prop:=
 H b=none/\b≠X.env.locals/\b∉X.fs/\(b∈X.ex\/X.adg.heap.objs.size<=b)/\(∀x c,X.env.cells.lookup x=some c->c≠b)/\∀p∈X.pn++f8,p.1≠b
def Inv.fpOk{X:Cx}{f8:List (Addr×Obj)}{σ:St}{H H':Hp}{s:We}{b:Addr}(I:Inv X f8 σ H s)(hb:s.heap.objs.size<=b)(hn:H' b=none):sM X f8 H' b:=by
 refine⟨hn,Xm (WM I.lt hb),I.nofs hb, .inr (WX I.sz hb),λx c e z=>?_,λp hp z=>?_⟩
 ·obtain⟨v,q⟩:=I.cell x c e;exact ac_ (WM q.lt (by rw[z];exact hb)) (W4 _)
 ·exact ac_ (WM (Wi (I.pin p hp).1) (by rw[z];exact hb)) (W4 _)
structure Turn (P:WU) (w:World) (K:Wm) (tg:Expr) (J:It) (fp:List Addr) (it:Addr) (tn:Nat->Heap->Prop):Prop where
 mem:it∈fp
 obj:∀i h,tn i h->∀b∈fp,∃o,h.get? b=some o/\∀v,o.data≠ .cell v
 keep:∀i h h',tn i h->(∀b∈fp,∀o,h.get? b=some o->h'.get? b=some o)->tn i h'
 item:∀(X:Cx),X.prog=P->X.w=w->X.K=K->X.calm=true->∀(i:Nat) (f8:List (Addr×Obj)) (s:We) (σ:St) (H:Hp) (E:Value->We->Prop),Inv X f8 σ H s->(∀b∈fp,sM X f8 H b)->tn i s.heap->J.go i H->
  wpAny (model P w) X.A (Zj (.ref it)) (λr s1=>∃u,r=some u/\
   wpAny (model P w) X.A (aat tg (.ref it) u) (λ_ s2=>∃x H',Inv X f8 σ H' s2/\RelV x u/\J.yld i H x H'/\tn (i+1) s2.heap/\∀b∈fp,H' b=none) E s1) E s
 done:∀(X:Cx),X.prog=P->X.w=w->X.K=K->X.calm=true->∀(i:Nat) (f8:List (Addr×Obj)) (s:We) (σ:St) (H:Hp) (E:Value->We->Prop),Inv X f8 σ H s->(∀b∈fp,sM X f8 H b)->tn i s.heap->J.stop i H->
  wpAny (model P w) X.A (Zj (.ref it)) (λr s1=>r=none/\Inv X f8 σ H s1) E s
 self:∀(A:Xf) (i:Nat) (s:We) (Q:Value->We->Prop) (E:Value->We->Prop),tn i s.heap->Q (.ref it) s->wpAny (model P w) A (pyIter (.ref it)) Q E s
abbrev TI:=St->Hp->(It->Hp->Prop)->Prop
def Ta(X:Cx)(f8:List (Addr×Obj))(σ:St)(tg:Expr)(R:It->Hp->Prop)(T_:Value)(s2:We):Prop:=
 ∃(it:Addr) (fp:List Addr) (tn:Nat->Heap->Prop) (J:It) (H':Hp),T_= .ref it/\Inv X f8 σ H' s2/\Turn X.prog X.w X.K tg J fp it tn/\tn 0 s2.heap/\(∀b∈fp,sM X f8 H' b)/\R J H'
def PI(X:Cx)(tg iter:Expr)(wi:TI):Prop:=
 ∀(f8:List (Addr×Obj)) (s:We) (σ:St) (H:Hp) (R:It->Hp->Prop),Inv X f8 σ H s->wi σ H R->
  wpAny (model X.prog X.w) X.A (eval iter X.env) (λv s1=>wpAny (model X.prog X.w) X.A (pyIter v) (Ta X f8 σ tg R) X.xe s1) X.xe s
def qA{M:Model}{A:Xf}{E:Value->We->Prop}{s:We}{tg:Expr}{it:Addr}{u:Value}{o:Obj}{n:String}{vs:Array Value}{Q:Unit->We->Prop}(ho:s.heap.get? it=some o)(hc:o.cls= .type n)(hd:o.data= .fields vs)
 (hn:["enumerate","zip","dict_itemiterator","dict_reverseitemiterator","odict_iterator","itertools.zip_longest","itertools.pairwise"].contains n=false)(hQ:Q () s):wpAny M A (aat tg (.ref it) u) Q E s:=by
 unfold aat;cases tg<;>first
  |exact V9 hQ
  |(cases u<;>first
    |exact V9 hQ
    |(refine V4 (wpAny_load ho ?_)
      rw[hc,hd];show wpAny M A (if (["enumerate","zip","dict_itemiterator","dict_reverseitemiterator","odict_iterator","itertools.zip_longest","itertools.pairwise"].contains n&&vs[0]? ==some (YU _))=true then _ else _) Q E s;rw[ac6 (by intro h;rw[hn,aan] at h;cases h)];exact V9 hQ))
def Q9(K:Wm)(a:Addr):It:=
 ⟨λi H=>∃xs x,SqL K H a xs/\xs[i]? =some x,λi H x H'=>H'=H/\∀xs,SqL K H a xs->xs[i]? =some x,λi H=>∃xs,SqL K H a xs/\xs.length<=i⟩
def Q_(K:Wm)(a:Addr):It:=
 ⟨λi H=>∃xs x,SqT K H a xs/\xs[i]? =some x,λi H x H'=>H'=H/\∀xs,SqT K H a xs->xs[i]? =some x,λi H=>∃xs,SqT K H a xs/\xs.length<=i⟩
def N6(lo:Int)(n:Nat):It:=⟨λi _=>i<n,λi H x H'=>H'=H/\x= .int (lo+i),λi _=>n<=i⟩
def EH{P:WU}{w:World}{K:Wm}{tg:Expr}(a it:Addr):Turn P w K tg (Q9 K a) [it] it (λi h=>h.IsListIter it a i) where
 mem:=by simp
 obj:=λi h st b hb=>by
  have e:b=it:=by simpa using hb
  subst e;obtain⟨o,e,c,d⟩:=st;exact⟨o,e,λv z=>by rw[d] at z;cases z⟩
 keep:=λi h h' st k=>st.at λo e=>k it (by simp) o e
 item:=by
  intro X hP hw hK hc i f8 s σ H E I hf st hg;subst hP hw hK;obtain⟨xs,x,hq,hx⟩:=hg;obtain⟨aL,rv,p,hz⟩:=I.list hq;obtain⟨u,hu,ru⟩:=rv.get hx;obtain⟨f0,f1,f2,f3,f4,f5⟩:=hf it (by simp);refine wpAny_pyNext_list_item st p.isList (x:=u) (by simpa using hu) λh' lX sb=>?_;have I1:Inv X f8 σ H {s with heap:=h'}:=I.turned (t':=s.toks) (λb o hb e=>(sb.2 b hb).trans e) f0 f1 f3 f4 f5;obtain⟨o,e,c,d⟩:=id lX;exact⟨u,rfl,qA (s:={s with heap:=h'}) e c d (by decide) ⟨x,H,I1,ru,⟨rfl,λys hy=>by rw[I.list_inj hy hq];exact hx⟩,lX,λb hb=>(hf b hb).1⟩⟩
 done:=by
  intro X hP hw hK hc i f8 s σ H E I hf st hg;subst hP hw hK;obtain⟨xs,hq,hx⟩:=hg;obtain⟨aL,rv,p,hz⟩:=I.list hq;obtain⟨f0,f1,f2,f3,f4,f5⟩:=hf it (by simp);have hl:=rv.length;exact wpAny_pyNext_list_end (I.ok.hd hc) st p.isList (by simp;omega) λh' eb=>⟨rfl,I.turned (t':=s.toks) (λb o hb e=>eb b o hb e) f0 f1 f3 f4 f5⟩
 self:=λ_ _ _ _ _ st h=>wpAny_pyIter_listiter st h
def Bw{P:WU}{w:World}{K:Wm}{tg:Expr}(a it:Addr):Turn P w K tg (Q_ K a) [it] it (λi h=>h.IsTupleIter it a i) where
 mem:=by simp
 obj:=λi h st b hb=>by
  have e:b=it:=by simpa using hb
  subst e;obtain⟨o,e,c,d⟩:=st;exact⟨o,e,λv z=>by rw[d] at z;cases z⟩
 keep:=λi h h' st k=>st.at λo e=>k it (by simp) o e
 item:=by
  intro X hP hw hK hc i f8 s σ H E I hf st hg;subst hP hw hK;obtain⟨xs,x,hq,hx⟩:=hg;obtain⟨aL,rv,p,hz⟩:=I.tuple hq;obtain⟨u,hu,ru⟩:=rv.get hx;obtain⟨f0,f1,f2,f3,f4,f5⟩:=hf it (by simp);refine wpAny_pyNext_tuple_item st (show s.heap.IsTuple a aL.toArray from p) (x:=u) (by simpa using hu) λh' lX sb=>?_;have I1:Inv X f8 σ H {s with heap:=h'}:=I.turned (t':=s.toks) (λb o hb e=>(sb.2 b hb).trans e) f0 f1 f3 f4 f5;obtain⟨o,e,c,d⟩:=id lX;exact⟨u,rfl,qA (s:={s with heap:=h'}) e c d (by decide) ⟨x,H,I1,ru,⟨rfl,λys hy=>by rw[I.tuple_inj hy hq];exact hx⟩,lX,λb hb=>(hf b hb).1⟩⟩
 done:=by
  intro X hP hw hK hc i f8 s σ H E I hf st hg;subst hP hw hK;obtain⟨xs,hq,hx⟩:=hg;obtain⟨aL,rv,p,hz⟩:=I.tuple hq;obtain⟨f0,f1,f2,f3,f4,f5⟩:=hf it (by simp);have hl:=rv.length;exact wpAny_pyNext_tuple_end (I.ok.hd hc) st (show s.heap.IsTuple a aL.toArray from p) (by simp;omega) λh' eb=>⟨rfl,I.turned (t':=s.toks) (λb o hb e=>eb b o hb e) f0 f1 f3 f4 f5⟩
 self:=λ_ _ _ _ _ st h=>wpAny_pyIter_tupleiter st h
def Bv{P:WU}{w:World}{K:Wm}{tg:Expr}(it:Addr)(lo:Int)(n:Nat):Turn P w K tg (N6 lo n) [it] it (λi h=>IsRangeIter h it (lo+(i:Nat)*1) ((n:Int) - (i:Nat)) 1) where
 mem:=by simp
 obj:=λi h st b hb=>by
  have e:b=it:=by simpa using hb
  subst e;exact⟨_,st,λv z=>by
   have z':acA _=Data.cell v:=z;cases z'⟩
 keep:=λi h h' st k=>k it (by simp) _ st
 item:=by
  intro X hP hw hK hc i f8 s σ H E I hf st hg;subst hP hw hK;obtain⟨f0,f1,f2,f3,f4,f5⟩:=hf it (by simp);have W:=Walks.range (prog:=X.prog) (w:=X.w) (I.ok.hd hc) it lo 1 n;refine W.item i s _ _ hg st λv h' tk hv lX kk=>?_;obtain⟨t,rfl⟩:=hv;have I1:Inv X f8 σ H {s with heap:=h',toks:=tk}:=I.turned (λb o hb e=>kk b o (by simpa using hb) e) f0 f1 f3 f4 f5;refine⟨_,rfl,qA (s:={s with heap:=h',toks:=tk}) (n:="range_iterator") lX rfl rfl (by decide) ⟨.int (lo+i),H,I1,⟨t,?_⟩,⟨rfl,rfl⟩,lX,λb hb=>(hf b hb).1⟩⟩;rw[Int.mul_one]
 done:=by
  intro X hP hw hK hc i f8 s σ H E I hf st hg;subst hP hw hK;obtain⟨f0,f1,f2,f3,f4,f5⟩:=hf it (by simp);exact wpAny_pyNext_range_end (I.ok.hd hc) st (by have:n<=i:=hg;omega) λh' eb=>⟨rfl,I.turned (t':=s.toks) (λb o hb e=>eb b o hb e) f0 f1 f3 f4 f5⟩
 self:=λ_ _ _ _ _ st h=>wpAny_pyIter_rangeiter st h
section
variable{X:Cx}{tg:Expr}
def Pk(K:Wm)(tl:TE):TI:=λσ H R=>tl σ H λx H1=>∃a,x= .ref a/\(∃xs,SqL K H1 a xs)/\R (Q9 K a) H1
def Sa(K:Wm)(tl:TE):TI:=λσ H R=>tl σ H λx H1=>∃a,x= .ref a/\(∃xs,SqT K H1 a xs)/\R (Q_ K a) H1
def J0{l:Expr}{tl:TE}(hl:PE X l tl):PI X tg l (Pk X.K tl):=by
 intro f8 s σ H R I h;refine cp (hl f8 s σ H _ I h) λv s1 ⟨x,H1,I1,r1,q1⟩=>?_;obtain⟨a,e,⟨xs,hq⟩,q⟩:=q1;subst e;cases r1;obtain⟨aL,rv,p,hz⟩:=I1.list hq;refine abm p.isList ?_;refine⟨s1.heap.objs.size,[s1.heap.objs.size],_,_,H1,rfl,I1.kept (t':=s1.toks) λb o e=>V7 _ e,EH a _,⟨_,Wr _ rfl,rfl,rfl⟩,λb hb=>?_,q⟩;have e:b=s1.heap.objs.size:=by simpa using hb
 subst e;exact I1.fpOk (Wg _) (I1.hok.fresh (Wg _))
def M9{l:Expr}{tl:TE}(hl:PE X l tl):PI X tg l (Sa X.K tl):=by
 intro f8 s σ H R I h;refine cp (hl f8 s σ H _ I h) λv s1 ⟨x,H1,I1,r1,q1⟩=>?_;obtain⟨a,e,⟨xs,hq⟩,q⟩:=q1;subst e;cases r1;obtain⟨aL,rv,p,hz⟩:=I1.tuple hq;refine wpAny_pyIter_tuple (show s1.heap.IsTuple a aL.toArray from p) ?_;refine⟨s1.heap.objs.size,[s1.heap.objs.size],_,_,H1,rfl,I1.kept (t':=s1.toks) λb o e=>V7 _ e,Bw a _,⟨_,Wr _ rfl,rfl,rfl⟩,λb hb=>?_,q⟩;have e:b=s1.heap.objs.size:=by simpa using hb
 subst e;exact I1.fpOk (Wg _) (I1.hok.fresh (Wg _))
def y_{f8:List (Addr×Obj)}{σ:St}{H:Hp}{s:We}{R:It->Hp->Prop}{E:Value->We->Prop}{lo hi:Int}{t u v:Tok}{tk:Nat}(I:Inv X f8 σ H s)(h1: -(2 ^ 62)<=lo)(h2:lo<2 ^ 62)(h3: -(2 ^ 62)<=hi)(h4:hi<2 ^ 62)
 (q:R (N6 lo (hi - lo).toNat) H):wpAny (model X.prog X.w) X.A (pyIter (.ref s.heap.objs.size)) (Ta X f8 σ tg R) E {s with heap:=s.heap.push {cls:= .type "range",data:= .fields #[.int lo t, .int hi u, .int 1 v]},toks:=tk}:=by
 refine wpAny_pyIter_range (IsRange.new ..) (small_one h1 h2 h3 h4) ?_;have I1:Inv X f8 σ H {s with heap:=s.heap.push {cls:= .type "range",data:= .fields #[.int lo t, .int hi u, .int 1 v]},toks:=tk}:=I.kept λb o e=>V7 _ e;refine⟨(s.heap.push {cls:= .type "range",data:= .fields #[.int lo t, .int hi u, .int 1 v]}).objs.size,[(s.heap.push {cls:= .type "range",data:= .fields #[.int lo t, .int hi u, .int 1 v]}).objs.size],_,_,H,rfl,
  I1.kept (t':=tk) λb o e=>V7 _ e,Bv _ lo (hi - lo).toNat,?_,λb hb=>?_,q⟩
 ·have e1:lo+((0:Nat):Int)*1=lo:=by simp
  have e2:(((hi - lo).toNat:Nat):Int) - ((0:Nat):Int)=Builtin.Range.rangeSize lo hi 1:=by rw[rangeSize_one];split<;>omega
  show IsRangeIter _ _ (lo+((0:Nat):Int)*1) ((((hi - lo).toNat:Nat):Int) - ((0:Nat):Int)) 1;rw[e1,e2];exact Wr _ rfl
 ·have e:b=(s.heap.push {cls:= .type "range",data:= .fields #[.int lo t, .int hi u, .int 1 v]}).objs.size:=by simpa using hb
  subst e;exact I1.fpOk (Wg _) (I1.hok.fresh (Wg _))
def Pl(ta:TA):TI:=λσ H R=>ta σ H λvs H1=>∃j:Int,vs=[.int j]/\ -(2 ^ 62)<=j/\j<2 ^ 62/\R (N6 0 j.toNat) H1
def Pm(ta:TA):TI:=λσ H R=>ta σ H λvs H1=>∃i j:Int,vs=[.int i, .int j]/\(-(2 ^ 62)<=i/\i<2 ^ 62/\ -(2 ^ 62)<=j/\j<2 ^ 62)/\R (N6 i (j - i).toNat) H1
def Em{a:Expr}{ta:TA}{p pos:Pos}(hg:Gl X "range")(hm:X.mg "range"=none)(ha:PA X [a] ta)(hs:Wv [a] X.env=[(false,eval a X.env)]:=by rfl):PI X tg (.Call (.Name "range" p) [a] [] pos) (Pl ta):=by
 intro f8 s σ H R I h;refine Call_ (jM I hg hm boot_range (X2 (cp (ha pos f8 s σ H _ I h) λus s1 ⟨vs,H1,I1,r1,q1⟩=>?_) hs rfl));obtain⟨j,e,q1,q2,q⟩:=q1;subst e;cases r1 with
 |cons r rr=>
  cases rr;obtain⟨t,rfl⟩:=r;exact call_range_1 (y_ I1 (by omega) (by omega) q1 q2 (by simpa using q))
def En{a b:Expr}{ta:TA}{p pos:Pos}(hg:Gl X "range")(hm:X.mg "range"=none)(ha:PA X [a,b] ta)(hs:Wv [a,b] X.env=[(false,eval a X.env),(false,eval b X.env)]:=by rfl)(NW:Wv [b] X.env=[(false,eval b X.env)]:=by rfl):
 PI X tg (.Call (.Name "range" p) [a,b] [] pos) (Pm ta):=by
 intro f8 s σ H R I h;refine Call_ (jM I hg hm boot_range (X2 (cp (ha pos f8 s σ H _ I h) λus s1 ⟨vs,H1,I1,r1,q1⟩=>?_) (by rw[hs,NW]) (by rw[NW];rfl)));obtain⟨i,j,e,⟨q1,q2,q3,q4⟩,q⟩:=q1;subst e;cases r1 with
 |cons r rr=>
  cases rr with
  |cons r' rr=>
   cases rr;obtain⟨t,rfl⟩:=r;obtain⟨t',rfl⟩:=r';exact call_range_2 (y_ I1 q1 q2 q3 q4 q)
def SQ(wi:TI)(g:TG)(tb:TS):TS:=λD σ H=>wi σ H λJ H1=>∃W:Nat->Nat->St->Hp->Prop,(∃m,W 0 m σ H1)/\∀i m σ H,W i m σ H->
 (J.stop i H/\D.nx σ H)\/(J.go i H/\∃N:St->Hp->Prop,(∀σ' H',N σ' H'->∃m',m'<m/\W (i+1) m' σ' H')/\∀x H',J.yld i H x H'->g x σ H' λσ2 H2=>tb {D with nx:=N,ct:=N,bk:=D.nx} σ2 H2)
def rX(fp:List Addr)(h:Heap):List (Addr×Obj):=fp.filterMap λb=>(h.get? b).map λo=>(b,o)
def i9{fp:List Addr}{h:Heap}{b:Addr}{o:Obj}(hb:b∈fp)(e:h.get? b=some o):(b,o)∈rX fp h:=acL.mpr ⟨b,hb,by rw[e];rfl⟩
def Eb{fp:List Addr}{h:Heap}{p:Addr×Obj}(hp:p∈rX fp h):p.1∈fp/\h.get? p.1=some p.2:=by
 obtain⟨b,hb,e⟩:=acL.mp hp;cases q:h.get? b with
 |none=>rw[q] at e;cases e
 |some o=>
  rw[q] at e;have e':(b,o)=p:=WW e;subst e';exact⟨hb,q⟩
def Inv.pinned{f8:List (Addr×Obj)}{σ:St}{H:Hp}{s:We}{fp:List Addr}(I:Inv X f8 σ H s)(hf:∀b∈fp,sM X f8 H b)(ho:∀b∈fp,∃o,s.heap.get? b=some o/\∀v,o.data≠ .cell v):Inv X (f8++rX fp s.heap) σ H s:=
 I.pins_of λp hp=>(WZ.mp hp).elim (λz=>I.pin p (Xa _ z)) λz=>by
  obtain⟨hb,e⟩:=Eb z;obtain⟨f0,f1,f2,_⟩:=hf p.1 hb;obtain⟨o,e',d⟩:=ho p.1 hb;rw[e] at e';cases e';exact⟨e,f0,f1,f2,d⟩
def Inv.unpinned{f8 pl:List (Addr×Obj)}{σ:St}{H:Hp}{s:We}(I:Inv X (f8++pl) σ H s):Inv X f8 σ H s:=I.pins_of λp hp=>I.pin p (Xa _ (Zo _ hp))
def Nb{iter:Expr}{body:List Stmt}{wi:TI}{g:TG}{tb:TS}{pos:Pos}(hp:PassesOwn (model X.prog X.w) X.A X.env X.xe)(hc:X.calm=true)(hi:PI X tg iter wi)(hg:PG X tg g)(hb:PSs X body tb)
 (hs:∀x,Z3 iter X.env x=pure x:=by intro _;rfl):PS X (.For tg iter body [] pos) (SQ wi g tb):=by
 intro f8 s σ H D I h;refine wpAny_For (cp (hi f8 s σ H _ I h) λv s1 h1=>cp h1 λT_ s2 h2=>?_) hs;obtain⟨it,fp,tn,J,H2,e,I2,T,Bq,f2,W,⟨m0,w0⟩,turn⟩:=h2;subst e;have Nx:∀{H':Hp},(∀b∈fp,H' b=none)->∀b∈fp,sM X f8 H' b:=λhn b hb=>⟨hn b hb,(f2 b hb).2⟩
 refine codeAny_forLoop_any (λn s'=>∃i σ' H',Inv X f8 σ' H' s'/\tn i s'.heap/\(∀b∈fp,H' b=none)/\W i n σ' H') ?_ m0 ⟨0,σ,H2,I2,Bq,λb hb=>(f2 b hb).1,w0⟩;rintro n s3 ⟨i,σ3,H3,I3,N1,QE,w3⟩;rcases turn i n σ3 H3 w3 with⟨stop,qn⟩ | ⟨go,N,hN,step⟩
 ·refine YM hp (cp (T.done X rfl rfl rfl hc i f8 s3 σ3 H3 X.xe I3 (Nx QE) N1 stop) λr s4 ⟨hr,I4⟩=>?_);subst hr;exact aas ⟨σ3,H3,I4,qn⟩
 ·refine YM hp (cp (T.item X rfl rfl rfl hc i f8 s3 σ3 H3 X.xe I3 (Nx QE) N1 go) λr s4 ⟨u,hr,h4⟩=>?_);subst hr;refine YM hp (cp h4 λ_ s5 ⟨x,H5,I5,r5,y5,SE,UC⟩=>?_);have I5':=I5.pinned (Nx UC) (T.obj _ _ SE);refine YM hp (cp (hg _ s5 σ3 H5 x u _ I5' r5 (step x H5 y5)) λ_ s6 ⟨σ6,H6,I6,q6⟩=>?_);refine YM hp (cp (hb _ s6 σ6 H6 _ I6 q6) λf s7 q7=>?_);have again:∀{σ7:St}{H7:Hp},Inv X (f8++rX fp s5.heap) σ7 H7 s7->N σ7 H7->∃m,m<n/\∃i σ' H',Inv X f8 σ' H' s7/\tn i s7.heap/\(∀b∈fp,H' b=none)/\W i m σ' H':=λ{σ7 H7} I7 n7=>by
   obtain⟨m',hm,w7⟩:=hN σ7 H7 n7;refine⟨m',hm,i+1,σ7,H7,I7.unpinned,T.keep _ _ _ SE λb hb o e=>(I7.pin (b,o) (Xa _ (Xa _ (i9 hb e)))).1,λb hb=>?_,w7⟩;obtain⟨o,e,d⟩:=T.obj _ _ SE b hb;exact(I7.pin (b,o) (Xa _ (Xa _ (i9 hb e)))).2.1
  cases f with
  |next=>obtain⟨σ7,H7,I7,n7⟩:=q7;exact again I7 n7
  |cont=>obtain⟨σ7,H7,I7,n7⟩:=q7;exact again I7 n7
  |brk=>obtain⟨σ7,H7,I7,q7⟩:=q7;exact⟨σ7,H7,I7.unpinned,q7⟩
  |ret v=>obtain⟨x7,σ7,H7,I7,r7,q7⟩:=q7;exact⟨x7,σ7,H7,I7.unpinned,r7,q7⟩
end
abbrev R2:=V->V->Hp->VK->Prop
def OpR(X:Cx)(f:Value->Value->Sem Value)(r:R2):Prop:=
 ∀(f8:List (Addr×Obj)) (s:We) (σ:St) (H:Hp) (x y:V) (v u:Value) (Q:VK),Inv X f8 σ H s->RelV x v->RelV y u->r x y H Q->
  wpAny (model X.prog X.w) X.A (f v u) (EP X f8 σ Q) X.xe s
def Rh(X:Cx)(f:Value->Sem Value)(r:V->Hp->VK->Prop):Prop:=
 ∀(f8:List (Addr×Obj)) (s:We) (σ:St) (H:Hp) (x:V) (v:Value) (Q:VK),Inv X f8 σ H s->RelV x v->r x H Q->
  wpAny (model X.prog X.w) X.A (f v) (EP X f8 σ Q) X.xe s
def CallR(X:Cx)(f:Value)(r:List V->Hp->VK->Prop):Prop:=
 ∀(f8:List (Addr×Obj)) (s:We) (σ:St) (H:Hp) (xs:List V) (us:List Value) (Q:VK),Inv X f8 σ H s->Vals xs us->r xs H Q->
  wpAny (model X.prog X.w) X.A (call f us) (EP X f8 σ Q) X.xe s
def Rg(X:Cx)(r:V->Hp->(Bool->Hp->Prop)->Prop):Prop:=
 ∀(f8:List (Addr×Obj)) (s:We) (σ:St) (H:Hp) (x:V) (v:Value) (Q:Bool->Hp->Prop),Inv X f8 σ H s->RelV x v->r x H Q->
  wpAny (model X.prog X.w) X.A (truthy v) (TP X f8 σ Q) X.xe s
def Qr(r:R2)(ta tb:TE):TE:=λσ H Q=>ta σ H λx H1=>tb σ H1 λy H2=>r x y H2 Q
def VO(r:V->Hp->VK->Prop)(ta:TE):TE:=λσ H Q=>ta σ H λx H1=>r x H1 Q
def rI(C:Int->Int->Prop)(g:Int->Int->V):R2:=λx y H Q=>∃i j,x= .int i/\y= .int j/\C i j/\Q (g i j) H
def Ba(g:Int->Int->V):R2:=λx y H Q=>∃i j,x= .int i/\y= .int j/\Q (g i j) H
def rU(g:Int->V):V->Hp->VK->Prop:=λx H Q=>∃i,x= .int i/\Q (g i) H
section
variable{X:Cx}{a b:Expr}{ta tb:TE}{pos:Pos}
def Lu(ha:PE X a ta)(hb:PE X b tb){f8:List (Addr×Obj)}{s:We}{σ:St}{H:Hp}{R:V->V->Hp->Prop}(I:Inv X f8 σ H s)
 (h:ta σ H λx H1=>tb σ H1 λy H2=>R x y H2){Q:Value->We->Prop}{f:Value->Value->Sem Value}
 (hf:∀v u s2 x y H2,Inv X f8 σ H2 s2->RelV x v->RelV y u->R x y H2->wpAny (model X.prog X.w) X.A (f v u) Q X.xe s2):
 wpAny (model X.prog X.w) X.A (eval a X.env) (λv v4=>wpAny (model X.prog X.w) X.A (eval b X.env) (λu t0=>wpAny (model X.prog X.w) X.A (f v u) Q X.xe t0) X.xe v4) X.xe s:=by
 refine cp (ha f8 s σ H _ I h) λv s1 ⟨x,H1,I1,r1,q1⟩=>?_;refine cp (hb f8 s1 σ H1 _ I1 q1) λu s2 ⟨y,H2,I2,r2,q2⟩=>?_;exact hf v u s2 x y H2 I2 r1 r2 q2
def PV{op:Operator}{r:R2}(ho:OpR X (ZP op) r)(ha:PE X a ta)(hb:PE X b tb):PE X (.BinOp a op b pos) (Qr r ta tb):=by
 intro f8 s σ H Q I h;exact wpAny_BinOp (Lu ha hb I h λv u s2 x y H2 I2 rx ry q=>ho f8 s2 σ H2 x y v u Q I2 rx ry q)
def PY{op:UnaryOp}{r:V->Hp->VK->Prop}(ho:Rh X (unaryOp op) r)(ha:PE X a ta):PE X (.UnaryOp op a pos) (VO r ta):=by
 intro f8 s σ H Q I h;exact UnaryOp_ (cp (ha f8 s σ H _ I h) λv s1 ⟨x,H1,I1,r1,q1⟩=>ho f8 s1 σ H1 x v Q I1 r1 q1)
def Sq{f:Value->Value->Sem Value}{C:Int->Int->Prop}{g:Int->Int->Int}
 (rule:∀(i j:Int) (t u:Tok) (s:We) (Q:Value->We->Prop) (E:Value->We->Prop),C i j->Q (.int (g i j) s.toks) {s with toks:=s.toks+1}->wpAny (model X.prog X.w) X.A (f (.int i t) (.int j u)) Q E s):
 OpR X f (rI C λi j=> .int (g i j)):=by
 intro f8 s σ H x y v u Q I rx ry h;obtain⟨i,j,rfl,rfl,hc,q⟩:=h;obtain⟨t,rfl⟩:=rx;obtain⟨t',rfl⟩:=ry;exact rule i j t t' s _ _ hc ⟨.int (g i j),H,I.tok _,⟨_,rfl⟩,q⟩
def PJ{f:Value->Value->Sem Value}{g:Int->Int->Int}
 (rule:∀(i j:Int) (t u:Tok) (s:We) (Q:Value->We->Prop) (E:Value->We->Prop),Q (.int (g i j) s.toks) {s with toks:=s.toks+1}->wpAny (model X.prog X.w) X.A (f (.int i t) (.int j u)) Q E s):
 OpR X f (Ba λi j=> .int (g i j)):=by
 intro f8 s σ H x y v u Q I rx ry h;obtain⟨i,j,rfl,rfl,q⟩:=h;obtain⟨t,rfl⟩:=rx;obtain⟨t',rfl⟩:=ry;exact rule i j t t' s _ _ ⟨.int (g i j),H,I.tok _,⟨_,rfl⟩,q⟩
def JB{f:Value->Value->Sem Value}{g:Int->Int->Bool}
 (rule:∀(i j:Int) (t u:Tok) (s:We) (Q:Value->We->Prop) (E:Value->We->Prop),Q (.bool (g i j)) s->wpAny (model X.prog X.w) X.A (f (.int i t) (.int j u)) Q E s):
 OpR X f (Ba λi j=> .bl (g i j)):=by
 intro f8 s σ H x y v u Q I rx ry h;obtain⟨i,j,rfl,rfl,q⟩:=h;obtain⟨t,rfl⟩:=rx;obtain⟨t',rfl⟩:=ry;exact rule i j t t' s _ _ ⟨.bl (g i j),H,I,rfl,q⟩
def N3(i j:Int):Prop:=0<j/\j<1073741824
def CMul(i j:Int):Prop:=(-(2 ^ 64)<i/\i<2 ^ 64)\/(-(2 ^ 64)<j/\j<2 ^ 64)
def CMul.ok{i j:Int}(h:CMul i j):IntMulOk i j:=by
 rcases h with⟨h1,h2⟩ | ⟨h1,h2⟩
 ·exact .of_left (intBits_le_64 h1 h2)
 ·exact .of_right (intBits_le_64 h1 h2)
def ME:OpR X (ZP .Add) (Ba λi j=> .int (i+j)):=PJ λ_ _ _ _ _ _ _ q=>add_int q
def MK:OpR X (ZP .Sub) (Ba λi j=> .int (i - j)):=PJ λ_ _ _ _ _ _ _ q=>sub_int q
def MI:OpR X (ZP .Mult) (rI CMul λi j=> .int (i*j)):=Sq λ_ _ _ _ _ _ _ hc q=>mul_int q hc.ok
def JD:OpR X (ZP .FloorDiv) (rI N3 λi j=> .int (i / j)):=Sq λi j _ _ _ _ _ hc q=>by
 have h1:(0:Int)<j:=hc.1;have h2:j<1073741824:=hc.2;exact floordiv_int (by omega) (by rw[Int.fdiv_eq_ediv_of_nonneg i (by omega)];exact q) (.inl (PyProof.noPylong_small (by omega)))
def MH:OpR X (ZP .Mod) (rI (λ_ j=>0<j) λi j=> .int (i % j)):=Sq λi j _ _ _ _ _ hc q=>by
 have h1:(0:Int)<j:=hc;exact mod_int' (by omega) (by rw[Int.fmod_eq_emod_of_nonneg i (by omega)];exact q)
def VQ{f:Value->Sem Value}{g:Int->Int}
 (rule:∀(i:Int) (t:Tok) (s:We) (Q:Value->We->Prop) (E:Value->We->Prop),Q (.int (g i) s.toks) {s with toks:=s.toks+1}->wpAny (model X.prog X.w) X.A (f (.int i t)) Q E s):
 Rh X f (rU λi=> .int (g i)):=by
 intro f8 s σ H x v Q I rx h;obtain⟨i,rfl,q⟩:=h;obtain⟨t,rfl⟩:=rx;exact rule i t s _ _ ⟨.int (g i),H,I.tok _,⟨_,rfl⟩,q⟩
def NH:Rh X (unaryOp .USub) (rU λi=> .int (-i)):=VQ λ_ _ _ _ _ q=>neg_int q
end
section
variable{X:Cx}{a b c:Expr}{ta tb tc:TE}{pos:Pos}
def LN{f8:List (Addr×Obj)}{σ:St}{H:Hp}{s:We}{Q:VK}{k k':Bool}(I:Inv X f8 σ H s)(q:Q (.bl k) H)(e:k=k'):EP X f8 σ Q (.bool k') s:=by
 subst e;exact⟨.bl k,H,I,rfl,q⟩
def oZ:OpR X (Xd .Lt) (Ba λi j=> .bl (decide (i<j))):=JB λ_ _ _ _ _ _ _ q=>lt_int q
def jZ:OpR X (Xd .LtE) (Ba λi j=> .bl (decide (i<=j))):=JB λ_ _ _ _ _ _ _ q=>le_int q
def PK:OpR X (Xd .Gt) (Ba λi j=> .bl (decide (j<i))):=JB λ_ _ _ _ _ _ _ q=>gt_int q
def K_:OpR X (Xd .GtE) (Ba λi j=> .bl (decide (j<=i))):=JB λ_ _ _ _ _ _ _ q=>ge_int q
def Eg:OpR X (Xd .In) (λx y H Q=>∃i j,x= .str i/\y= .str j/\Q (.bl (!(YR j i 0 j.length 1).isEmpty)) H):=by
 intro f8 s σ H x y v u Q I rx ry h;obtain⟨i,j,rfl,rfl,q⟩:=h;obtain⟨t,rfl⟩:=rx;obtain⟨t',rfl⟩:=ry;exact in_str (LN I q rfl)
def OpR.or{f:Value->Value->Sem Value}{r r':R2}(h:OpR X f r)(h':OpR X f r'):OpR X f (λx y H Q=>r x y H Q\/r' x y H Q):=by
 intro f8 s σ H x y v u Q I rx ry q;rcases q with q | q
 ·exact h f8 s σ H x y v u Q I rx ry q
 ·exact h' f8 s σ H x y v u Q I rx ry q
def GH(b:Expr){op:CmpOp}(h:op≠ .In:=by decide)(h2:op≠ .NotIn:=by decide):Xq op b=false:=by
 have e1:(op==CmpOp.In)=false:=by cases op<;>first | rfl | exact ac_ rfl h
 have e2:(op==CmpOp.NotIn)=false:=by cases op<;>first | rfl | exact ac_ rfl h2
 cases b<;>simp[Xq,e1,e2]
def JX{op:CmpOp}{r:R2}(ho:OpR X (Xd op) r)(ha:PE X a ta)(hb:PE X b tb)(hm:Xq op b=false):PE X (.Compare a [op] [b] pos) (Qr r ta tb):=by
 intro f8 s σ H Q I h;exact wpAny_Compare1 (Lu ha hb I h λv u s2 x y H2 I2 rx ry q=>ho f8 s2 σ H2 x y v u Q I2 rx ry q) hm
def Ll(t:TE):TT:=λσ H Q=>t σ H λx H'=>∃k,x= .bl k/\Q k H'
def J9{op:CmpOp}{r:R2}(ho:OpR X (Xd op) r)(ha:PE X a ta)(hb:PE X b tb)(hm:Xq op b=false):PT X (.Compare a [op] [b] pos) (Ll (Qr r ta tb)):=by
 intro f8 s σ H Q I h;refine wpAny_isTrue_Compare1 (cp (ha f8 s σ H _ I h) λv s1 ⟨x,H1,I1,r1,q1⟩=>cp (hb f8 s1 σ H1 _ I1 q1) λu s2 ⟨y,H2,I2,r2,q2⟩=>
  cp (ho f8 s2 σ H2 x y v u _ I2 r1 r2 q2) λc s3 ⟨z,H3,I3,r3,k,e,q3⟩=>?_) hm
 subst e;cases r3;exact XJ ⟨H3,I3,q3⟩
def Br(r r':R2)(ta tb tc:TE):TE:=λσ H Q=>ta σ H λx H1=>tb σ H1 λy H2=>r x y H2 λz H3=>∃k,z= .bl k/\
 (if k=true then tc σ H3 λw' H4=>r' y w' H4 Q else Q (.bl false) H3)
def G5{op Ee:CmpOp}{r r':R2}(ho:OpR X (Xd op) r)(qG:OpR X (Xd Ee) r')(ha:PE X a ta)(hb:PE X b tb)(hc:PE X c tc)
 (hm:lastMarks [op,Ee] [b,c]=false:=by with_unfolding_all rfl):PE X (.Compare a [op,Ee] [b,c] pos) (Br r r' ta tb tc):=by
 intro f8 s σ H Q I h;refine Compare_chain (cp (ha f8 s σ H _ I h) λv s1 ⟨x,H1,I1,r1,q1⟩=>chain_link (cp (hb f8 s1 σ H1 _ I1 q1) λu s2 ⟨y,H2,I2,r2,q2⟩=>
  cp (ho f8 s2 σ H2 x y v u _ I2 r1 r2 q2) λd s3 ⟨z,H3,I3,r3,k,e,q3⟩=>?_)) hm
 subst e;cases r3;refine XJ ?_;cases k with
 |false=>exact ite_ff ⟨.bl false,H3,I3,rfl,q3⟩
 |true=>exact ite_tt (chain_last (cp (hc f8 s3 σ H3 _ I3 q3) λw' s4 ⟨z',H4,I4,r4,q4⟩=>qG f8 s4 σ H4 y z' u w' Q I4 r2 r4 q4))
def Hd{op Ee:CmpOp}{r r':R2}(ho:OpR X (Xd op) r)(qG:OpR X (Xd Ee) r')(ha:PE X a ta)(hb:PE X b tb)(hc:PE X c tc)
 (hm:lastMarks [op,Ee] [b,c]=false:=by with_unfolding_all rfl):PT X (.Compare a [op,Ee] [b,c] pos) (Ll (Br r r' ta tb tc)):=by
 intro f8 s σ H Q I h;refine isTrue_chain (cp (ha f8 s σ H _ I h) λv s1 ⟨x,H1,I1,r1,q1⟩=>test_link (cp (hb f8 s1 σ H1 _ I1 q1) λu s2 ⟨y,H2,I2,r2,q2⟩=>
  cp (ho f8 s2 σ H2 x y v u _ I2 r1 r2 q2) λd s3 ⟨z,H3,I3,r3,k,e,q3⟩=>?_)) hm
 subst e;cases r3;refine XJ ?_;cases k with
 |false=>
  obtain⟨k',e',q'⟩:=q3;cases e';exact ite_ff ⟨H3,I3,q'⟩
 |true=>
  refine ite_tt (test_last (cp (hc f8 s3 σ H3 _ I3 q3) λw' s4 ⟨z',H4,I4,r4,q4⟩=>cp (qG f8 s4 σ H4 y z' u w' _ I4 r2 r4 q4) λd' s5 ⟨z2,H5,I5,r5,k2,e2,q5⟩=>?_));subst e2;cases r5;exact XJ ⟨H5,I5,q5⟩
def N9(K:Wm)(x:V)(H:Hp)(k:Bool):Prop:=
 match x with
 | .non=>k=false
 | .bl b=>k=b
 | .int i=>k=(i !=0)
 | .str y=>y.length<=Ww/\k=((y.length:Int) !=0)
 | .byt y=>y.size<=Ww/\k=((y.size:Int) !=0)
 | .ref p=>(∃xs,SqL K H p xs/\k=!xs.isEmpty)\/(∃xs,SqT K H p xs/\k=!xs.isEmpty)\/∃aB,H p=some (.dK aB)/\k=!aB.isEmpty
 |_=>False
def AA{κ:Type}{aB:List (κ×V)}{vs:List (κ×Value)}(r:KV aB vs):(!vs.isEmpty)=!aB.isEmpty:=by
 cases r<;>rfl
def qN{xs:List V}{aL:List Value}(r:Vals xs aL):(!aL.toArray.isEmpty)=!xs.isEmpty:=by
 cases r<;>simp
def nQ:(Ww:Nat)<2 ^ 63:=by rw[XH];decide
def NF:Rg X (λx H Q=>∃k,N9 X.K x H k/\Q k H):=by
 intro f8 s σ H x v Q I rx h;obtain⟨k,e,q⟩:=h;have hl:=nQ;have hs:Ww=16777216:=XH;cases x with
 |non=>
  cases rx;have e':k=false:=e;subst e';exact truthy_none ⟨H,I,q⟩
 |bl b=>
  cases rx;have e':k=b:=e;subst e';exact XJ ⟨H,I,q⟩
 |int i=>
  obtain⟨t,rfl⟩:=rx;have e':k=(i !=0):=e;subst e';exact PySem.P.truthy_int ⟨H,I,q⟩
 |str y=>
  obtain⟨t,rfl⟩:=rx;obtain⟨hy,e'⟩:y.length<=Ww/\k=((y.length:Int) !=0):=e;subst e';exact PySem.P.truthy_str (by omega) ⟨H,I.tok _,q⟩
 |byt y=>
  obtain⟨t,rfl⟩:=rx;obtain⟨hy,e'⟩:y.size<=Ww/\k=((y.size:Int) !=0):=e;subst e';exact PySem.W.truthy_bytes (by omega) ⟨H,I.tok _,q⟩
 |ref p=>
  cases rx;have e':(∃xs,SqL X.K H p xs/\k=!xs.isEmpty)\/(∃xs,SqT X.K H p xs/\k=!xs.isEmpty)\/∃aB,H p=some (.dK aB)/\k=!aB.isEmpty:=e;rcases e' with⟨xs,hx,e'⟩ | ⟨xs,hx,e'⟩ | ⟨aB,hx,e'⟩
  ·subst e';obtain⟨aL,r,pl,hz⟩:=I.list hx;have P3:=r.length;exact wpAny_truthy_list pl.isList (by simp only[Wk];omega) ⟨H,I.tok _,by rw[qN r];exact q⟩
  ·subst e';obtain⟨aL,r,pl,hz⟩:=I.tuple hx;have P3:=r.length;exact truthy_tuple pl (by simp only[Wk];omega) ⟨H,I.tok _,by rw[qN r];exact q⟩
  ·subst e';obtain⟨hz,hS,vs,r,m⟩:aB.length<=Ww/\(p==XM)=false/\∃vs,KV aB vs/\s.heap.DictOf (bD X.prog X.w) p vs:=I.hok p _ hx;have P3:aB.length=vs.length:=Yd r;exact wpAny_truthy_dict hS m (by omega) ⟨H,I.tok _,by rw[AA r];exact q⟩
 |_=>exact(show False from e).elim
def Hh(ha:PE X a ta)(he:∀whole,isTrue a X.env whole=(do let v<-whole;standAt a.pos;holding [v] (truthy v))):
 PT X a (λσ H Q=>ta σ H λx H'=>∃k,N9 X.K x H' k/\Q k H'):=by
 intro f8 s σ H Q I h;exact isTrue_plain (cp (ha f8 s σ H _ I h) λv s1 ⟨x,H1,I1,r1,q1⟩=>NF f8 s1 σ H1 x v Q I1 r1 q1) (he _)
def vals1{x:V}{us:List Value}(r:Vals [x] us):∃u,us=[u]/\RelV x u:=by
 cases r with
 |cons r1 r2=>cases r2;exact⟨_,rfl,r1⟩
def vals2{x y:V}{us:List Value}(r:Vals [x,y] us):∃u w',us=[u,w']/\RelV x u/\RelV y w':=by
 cases r with
 |cons r1 r2=>
  cases r2 with
  |cons r3 r4=>cases r4;exact⟨_,_,rfl,r1,r3⟩
def E9:CallR X (.builtin "abs") (λxs H Q=>∃i,xs=[.int i]/\Q (.int (if i<0 then -i else i)) H):=by
 intro f8 s σ H xs us Q I r h;obtain⟨i,rfl,q⟩:=h;obtain⟨u,rfl,t,rfl⟩:=vals1 r;exact call_abs_int λu tk=>⟨.int (if i<0 then -i else i),H,I.tok _,⟨_,rfl⟩,q⟩
def Dp(hc:X.calm=true):CallR X (.builtin "max") (λxs H Q=>∃i j,xs=[.int i, .int j]/\Q (.int (if j>i then j else i)) H):=by
 intro f8 s σ H xs us Q I r h;obtain⟨i,j,rfl,q⟩:=h;obtain⟨u,w',rfl,⟨t,rfl⟩,⟨t',rfl⟩⟩:=vals2 r;refine max_two_ints (I.ok.hd hc) λh' tk k=>⟨_,H,I.kept k,?_,q⟩
 by_cases hj:j>i
 ·rw[ac5 hj,ac5 hj];exact⟨_,rfl⟩
 ·rw[ac6 hj,ac6 hj];exact⟨_,rfl⟩
def Dr(hc:X.calm=true):CallR X (.builtin "min") (λxs H Q=>∃i j,xs=[.int i, .int j]/\Q (.int (if j<i then j else i)) H):=by
 intro f8 s σ H xs us Q I r h;obtain⟨i,j,rfl,q⟩:=h;obtain⟨u,w',rfl,⟨t,rfl⟩,⟨t',rfl⟩⟩:=vals2 r;refine min_two_ints (I.ok.hd hc) λh' tk k=>⟨_,H,I.kept k,?_,q⟩
 by_cases hj:j<i
 ·rw[ac5 hj,ac5 hj];exact⟨_,rfl⟩
 ·rw[ac6 hj,ac6 hj];exact⟨_,rfl⟩
end
structure ObjM (h:Heap) (x dx C:Addr) (mA:Str->Option Value):Prop where
 obj:h.get? x=some (aaW C dx)
 ns:h.Ns1 dx mA
 ne:dx≠x
def D2{h:Heap}{dx:Addr}{mA:Str->Option Value}(n:h.Ns1 dx mA):∃od,h.get? dx=some od/\∀name,aa9 name od=some (mA name):=by
 obtain⟨o,es,ep,ho,hd,hk,_,hm⟩:=n;refine⟨o,ho,λname=>?_⟩;have e:=hm name;unfold nsFind findBy at e;rw[<-Array.find?_toList] at e;unfold aa9;rw[hd]
 dsimp only
 split
 ·rename_i y q;rw[q] at e;exact ada some e
 ·rename_i q;rw[q] at e;have a:es.toList.any (·.refKey)=false:=by
   rw[ac1];intro y hy;obtain⟨z,t,Av⟩:=hk y (Array.mem_toList_iff.mp hy);simp[DictEntry.refKey,Av]
  have a':¬es.toList.any (·.refKey)=true:=by rw[a];exact Wz
  rw[ac6 a'];exact ada some e
def ObjM.look{h:Heap}{x dx C:Addr}{mA:Str->Option Value}(I:ObjM h x dx C mA):∃od,PySem.W.InstAt h x (aaW C dx) C (some od)/\∀name,aa9 name od=some (mA name):=
 let ⟨od,ho,hl⟩:=D2 I.ns
 ⟨od,⟨I.obj,rfl,rfl,ho⟩,hl⟩
def RelO.some_of{v:V}{o:Option Value}(r:RelO (some v) o):∃u,o=some u/\RelV v u:=by
 cases o with
 |none=>exact(show False from r).elim
 |some u=>exact⟨u,rfl,r⟩
section
variable{P:WU}{w:World}{H:Hp}{h:Heap}{a C dx:Addr}{fs:List (Str×V)}
def Jf(hok:HOk P w H h)(e:H a=some (.ins C dx fs)):∃mA,ObjM h a dx C mA/\(∀f,RelO (fs.lookup f) (mA f))/\PySem.Within mA (fs.map (·.1))/\fs.length<=1000/\H dx=some (.own a):=by
 obtain⟨d,z,ne,ob,mA,n,r,q⟩:=(show ObjOk P w H h a (.ins C dx fs) from hok a _ e)
 exact⟨mA,⟨ob,n,ne⟩,r,q,z,d⟩
end
structure Cls (K:Wm) (C:Addr):Prop where
 pg:acu K C Str.empty=true
 hd:PySem.W.hasDictIn K C=true
 po:PySem.W.plainOver K C=true
 sa:acW K (.ref C) "__setattr__"=some (some (.builtin "object.__setattr__"))
def Cls.get{K:Wm}{C:Addr}(c:Cls K C)(f:Str):acu K C f=true:=c.pg
section
variable{X:Cx}{f8:List (Addr×Obj)}{σ:St}{H:Hp}{s:We}{A:Xf}{E:Value->We->Prop}{Q:Value->We->Prop}{c:Value}{b:Bool}
inductive TyOf (K:Wm) (H:Hp):V->Value->Prop where
 |non:TyOf K H .non (.type "NoneType")
 |bl (x:Bool):TyOf K H (.bl x) (.type "bool")
 |int (i:Int):TyOf K H (.int i) (.type "int")
 |str (x:Str):TyOf K H (.str x) (.type "str")
 |flt (x:UInt64):TyOf K H (.flt x) (.type "float")
 |lst {a:Addr}{xs:List V}(e:H a=some (.lst xs)):TyOf K H (.ref a) (.type "list")
 |frz {a:Addr}{o:Obj}{xs:List V}(e:H a=some (.frz o (.lst xs))):TyOf K H (.ref a) (.type "list")
 |tup {a:Addr}{xs:List V}(e:H a=some (.tup xs)):TyOf K H (.ref a) (.type "tuple")
 |dK {a:Addr}{aB:List (Key×V)}(e:H a=some (.dK aB)):TyOf K H (.ref a) (.type "dict")
 |dT {a:Addr}{aB:List (List Key×V)}(e:H a=some (.dT aB)):TyOf K H (.ref a) (.type "dict")
 |ins {a C dx:Addr}{fs:List (Str×V)}(e:H a=some (.ins C dx fs)) (cl:Cls K C) (ha:acW K (.ref C) "__class__"=some (some (.builtin "object.__class__")))
   (hn:PySem.W.specialIn K (.builtin "object.__class__") "__get__"=some (some (.builtin "getset_descriptor.__get__"))) (T1:PySem.W.takesIn K (.builtin "object.__class__")=some true)
   (hm:PySem.W.mroIn K C (.type "object")=some true):TyOf K H (.ref a) (.ref C)
def DU{x:V}{u t:Value}(I:Inv X f8 σ H s)(rx:RelV x u)(ty:TyOf X.K H x t)(e:aa_ X.K t c=some b)(h:∀tk,Q (.bool b) {s with toks:=tk}):
 wpAny (model X.prog X.w) A (call (.builtin "isinstance") [u,c]) Q E s:=by
 cases ty with
 |non=>cases (show u=WJ from rx);exact XI PySem.W.kitx_none I.kIn Yv e (λz=>nomatch z) h
 |bl y=>cases (show u=X7 y from rx);exact XI PySem.W.kitx_bool I.kIn Yv e (λz=>nomatch z) h
 |int i=>obtain⟨t,q⟩:=(show∃t,u=ab7 i t from rx);cases q;exact XI PySem.W.kitx_int I.kIn Yv e (λz=>nomatch z) h
 |str y=>obtain⟨t,q⟩:=(show∃t,u=ab6 y t from rx);cases q;exact XI PySem.W.kitx_str I.kIn Yv e (λz=>nomatch z) h
 |flt y=>obtain⟨t,q⟩:=(show∃t,u=Value.float y t from rx);cases q;exact XI PySem.W.kitx_float I.kIn Yv e (λz=>nomatch z) h
 | @lst a xs ea=>
   cases (show u=Wy a from rx);obtain⟨_,_,n,_,h1⟩:=(show ObjOk X.prog X.w H s.heap a (.lst xs) from I.hok a _ ea)
   exact XI aci I.kIn ⟨_,h1,rfl⟩ e (λz=>nomatch z) h
 | @frz a ob xs ea=>
   cases (show u=Wy a from rx);obtain⟨_,_,_,n,_,h1⟩:=(show ObjOk X.prog X.w H s.heap a (.frz ob (.lst xs)) from I.hok a _ ea)
   exact XI aci I.kIn ⟨_,h1,rfl⟩ e (λz=>nomatch z) h
 | @tup a xs ea=>
   cases (show u=Wy a from rx);obtain⟨_,_,_,p⟩:=(show ObjOk X.prog X.w H s.heap a (.tup xs) from I.hok a _ ea)
   obtain⟨o,h1,h2,_⟩:=p;exact XI PySem.W.kitx_tuple I.kIn ⟨o,h1,h2⟩ e (λz=>nomatch z) h
 | @dK a aB ea=>
   cases (show u=Wy a from rx);obtain⟨_,_,vs,_,p⟩:=(show ObjOk X.prog X.w H s.heap a (.dK aB) from I.hok a _ ea)
   obtain⟨o,es,ep,h1,h2,_⟩:=p;exact XI acj I.kIn ⟨o,h1,h2.1⟩ e (λz=>nomatch z) h
 | @dT a aB ea=>
   cases (show u=Wy a from rx);obtain⟨_,_,xs,_,o,es,ep,h1,h2,_⟩:=(show ObjOk X.prog X.w H s.heap a (.dT aB) from I.hok a _ ea)
   exact XI acj I.kIn ⟨o,h1,h2.1⟩ e (λz=>nomatch z) h
 | @ins a C dx fs ea cl ha hn T1 hm=>
   cases (show u=Wy a from rx);obtain⟨mA,O,_⟩:=Jf I.hok ea;obtain⟨od,J,_⟩:=O.look;exact XI (PySem.W.kitx_own (cl.get _) cl.hd ha hn T1 hm) I.kIn J e (λz=>nomatch z) h
end
structure Room (k:Nat) (A:Xf):Prop where
 hd:A.handled=none
 dp:A.depth+3*k+5<acf
 un:A.units+16*k+200<cLine
def Room.mono{j k:Nat}{A:Xf}(r:Room k A)(h:j<=k):Room j A:=⟨r.hd,by have:=r.dp;omega,by have:=r.un;omega⟩
def Room.deeper{k:Nat}{A:Xf}(r:Room (k+1) A)(env:Env):Room k (A.deeper env):=
 ⟨r.hd,by have:=r.dp;show A.depth+1+3*k+5<_;omega,by have:=r.un;show A.units+3+16*k+200<_;omega⟩
def Room.depth{k:Nat}{A:Xf}(r:Room k A):A.depth<acf:=by have:=r.dp;omega
def Room.units{k:Nat}{A:Xf}(r:Room k A):A.units+64<cLine:=by have:=r.un;omega
def NC:TA:=λ_ H Q=>Q [] H
def HU(ta:TE)(tr:TA):TA:=λσ H Q=>ta σ H λx H1=>tr σ H1 λxs H2=>Q (x::xs) H2
section
variable{X:Cx}{e:Expr}{es:List Expr}{te:TE}{t:TA}{pos:Pos}
def v8:PA X [] NC:=λ_ _ _ _ H Q I h=>Zc ⟨[],H,I, .nil,h⟩
def v7(ha:PE X e te)(hr:PA X es t)(hs:Wv (e::es) X.env=(false,eval e X.env)::Wv es X.env:=by rfl):PA X (e::es) (HU te t):=by
 intro pos f8 s σ H Q I h;rw[hs];show wpAny _ _ (spliced ((false,eval e X.env)::YO pos (Wv es X.env))) _ _ s;refine Yx (cp (ha f8 s σ H _ I h) λu s1 ⟨x,H1,I1,r1,q1⟩=>?_);exact cp (hr pos f8 s1 σ H1 _ I1 q1) λus s2 ⟨xs,H2,I2,r2,q2⟩=>⟨x::xs,H2,I2, .cons r1 r2,q2⟩
def SY(t:TA):TE:=λσ H Q=>t σ H λxs H1=>xs.length<=Ww/\∀p,H1 p=none->Q (.ref p) (upd H1 p (.tup xs))
def SS(t:TA):TE:=λσ H Q=>t σ H λxs H1=>xs.length<=Ww/\∀p,H1 p=none->Q (.ref p) (upd H1 p (.lst xs))
def M5{x1}(h:PA X es t):PE X (.Tuple es x1 pos) (SY t):=by
 intro f8 s σ H Q I hq;refine wpAny_Tuple_spliced (cp (h pos f8 s σ H _ I hq) λus s1 ⟨xs,H1,I1,r,z,q⟩=>⟨by rw[<-r.length];exact z,?_⟩);have hf:H1 s1.heap.objs.size=none:=I1.hok.fresh (Wg _);refine⟨.ref s1.heap.objs.size,upd H1 s1.heap.objs.size (.tup xs),I1.laid (t':=s1.toks) (λb u e=>V7 _ e) (Wg _) ?_,rfl,q _ hf⟩;exact⟨z,us,r,⟨_,Wr _ rfl,rfl,_,rfl⟩⟩
def G_(h:PA X es t):PE X (.List es pos) (SS t):=by
 intro f8 s σ H Q I hq;refine wpAny_List_spliced (cp (h pos f8 s σ H _ I hq) λus s1 ⟨xs,H1,I1,r,z,q⟩=>⟨by rw[<-r.length];exact z,?_⟩);have hf:H1 s1.heap.objs.size=none:=I1.hok.fresh (Wg _);refine⟨.ref s1.heap.objs.size,upd H1 s1.heap.objs.size (.lst xs),I1.laid (t':=s1.toks) (λb u e=>V7 _ e) (Wg _) ?_,rfl,q _ hf⟩;exact⟨z,us,0,r,Wr _ rfl⟩
end
abbrev Sp:=List V->Hp->VK->XK->Prop
abbrev BI:=List Env->Hp->We->XK->Value->We->Prop
structure Env0 (P:WU) (w:World) (K:Wm) (mg:Str->Option Value) (base:Heap) (A:Xf) (outer:List Env) (s:We) (H:Hp):Prop where
 frames:A.frames=some outer
 mod:Mod K mg base
 bs:∀b o,base.get? b=some o->s.heap.get? b=some o/\H b=none
 bsz:base.objs.size<=s.heap.objs.size
 funs:s.heap.FunFrames base outer
 frf:∀b∈pY outer,H b=none
 hok:HOk P w H s.heap
 bare:aaD s.gens
def CE(outer:List Env)(P:WU)(w:World)(H:Hp)(s:We)(Q:VK)(u:Value)(s':We):Prop:=
 ∃v H',s'.os=s.os/\aaD s'.gens/\Un (pY outer) [] H H' s.heap s'.heap/\HOk P w H' s'.heap/\RelV v u/\Q v H'
def CR(CX:BI)(outer:List Env)(P:WU)(w:World)(H:Hp)(s:We)(Q:VK)(E:XK)(r:Result)(s':We):Prop:=
 match r with
 | .ok (.ret u)=>CE outer P w H s Q u s'
 | .ok _=>False
 | .error e=>CX outer H s E e s'
structure FnOk (P:WU) (w:World) (K:Wm) (mg:Str->Option Value) (base:Heap) (CX:BI) (k:Nat) (f:Addr) (fd:Y5) (ps:List Str) (sp:Sp):Prop where
 len:∀vs H Q E,sp vs H Q E->vs.length=ps.length
 run:∀(A:Xf) (outer:List Env) (s:We) (H:Hp) (args:Args) (us:List Value) (vs:List V) (Q:VK) (E:XK),Room k A->Env0 P w K mg base A outer s H->acS s fd args (ps.zip us)->Vals vs us->sp vs H Q E->
  aae (model P w) A (.call (.ref f) args) (CR CX outer P w H s Q E) s
def FnOk.mono{P:WU}{w:World}{K:Wm}{mg:Str->Option Value}{base:Heap}{CX:BI}{j k:Nat}{f:Addr}{fd:Y5}{ps:List Str}{sp:Sp}(F:FnOk P w K mg base CX j f fd ps sp)(h:j<=k):
 FnOk P w K mg base CX k f fd ps sp:=⟨F.len,λA outer s H args us vs Q E hr=>F.run A outer s H args us vs Q E (hr.mono h)⟩
section
variable{X:Cx}{f8:List (Addr×Obj)}{σ:St}{H:Hp}{s s':We}
def Inv.env0(I:Inv X f8 σ H s):Env0 X.prog X.w X.K X.mg X.base X.A X.stack s H:=
 ⟨I.ok.frames,I.ok.mod,I.bs,WX I.ok.bsz I.sz,I.stack,I.stkFree,I.hok,I.bare⟩
def Inv.after{Q:VK}{u:Value}(I:Inv X f8 σ H s)(h:CE X.stack X.prog X.w H s Q u s'):EP X f8 σ Q u s':=by
 obtain⟨v,H',os,bare,un,hok,r,q⟩:=h;obtain⟨hh,g,d,t,VG⟩:=s';obtain rfl:VG=s.os:=os;exact⟨v,H',I.call (h':=hh) (g':=g) (d':=d) (t':=t) (ch:=[]) un hok bare (λb z=>ac_ z (by simp)),r,q⟩
end
def Qn(sp:Sp)(KR:List V)(E:XK)(t:TA):TE:=λσ H Q=>t σ H λvs H1=>sp (vs++KR) H1 Q E
def Binds(K:Wm)(fd:Y5)(ps:List Str)(ds:List Value):Prop:=
 ∀(s:We) (us:List Value),K.In s.heap->(us++ds).length=ps.length->acS s fd ⟨us,[]⟩ (ps.zip (us++ds))
def Binds.all{K:Wm}{fd:Y5}{ps:List Str}(h:∀us:List Value,us.length=ps.length->bindArgs fd ⟨us,[]⟩=pure (ps.zip us)):Binds K fd ps []:=λs us _ hl=>by
 rw[XY] at hl⊢;exact .of_eq (h us hl)
def Passes(CX:BI)(X:Cx)(E:XK):Prop:=∀(f8:List (Addr×Obj)) (σ:St) (H:Hp) (s:We) (e:Value) (s':We),Inv X f8 σ H s->CX X.stack H s E e s'->X.xe e s'
section
variable{X:Cx}{CX:BI}{k:Nat}{f:Addr}{fd:Y5}{ps:List Str}{sp:Sp}{KR:List V}{ds:List Value}{E:XK}{x:Str}{p pos:Pos}{e:Expr}{es:List Expr}{t:TA}
def Nn{f8:List (Addr×Obj)}{σ:St}{H:Hp}{s:We}{Q:VK}{us:List Value}{vs:List V}(F:FnOk X.prog X.w X.K X.mg X.base CX k f fd ps sp)(hr:Room k X.A)(hb:Binds X.K fd ps ds)(hd:Vals KR ds)(hx:Passes CX X E)
 (I:Inv X f8 σ H s)(r:Vals vs us)(h:sp (vs++KR) H Q E):wpAny (model X.prog X.w) X.A (call (.ref f) us) (EP X f8 σ Q) X.xe s:=by
 have r2:Vals (vs++KR) (us++ds):=r.append hd;have hl:(us++ds).length=ps.length:=by rw[<-r2.length];exact F.len _ _ _ _ h
 refine wpAny_call (abC (F.run X.A X.stack s H ⟨us,[]⟩ (us++ds) (vs++KR) Q E hr I.env0 (hb s us I.kIn hl) r2 h) λr s' hq=>?_);cases r with
 |error e=>exact hx f8 σ H s e s' I hq
 |ok fl=>
  cases fl with
  |ret u=>exact I.after hq
  |next=>exact Yu hq
  |brk=>exact Yu hq
  |cont=>exact Yu hq
def JW(F:FnOk X.prog X.w X.K X.mg X.base CX k f fd ps sp)(hr:Room k X.A)(hg:Gl X x)(hm:X.mg x=some (.ref f))(hk:Ym X.K (.ref f)=true)(hb:Binds X.K fd ps ds)(hd:Vals KR ds)(hx:Passes CX X E)
 (ha:PA X (e::es) t)(vA:(x==("__debug__":Str))=false:=by decide)(he:Wv (e::es) X.env=(false,eval e X.env)::Wv es X.env:=by rfl)(t9:(YO pos (Wv es X.env)).any (·.1)=false:=by rfl):
 PE X (.Call (.Name x p) (e::es) [] pos) (Qn sp KR E t):=by
 intro f8 s σ H Q I h;refine ZO (Co I hg hm ?_ vA);refine PySem.W.callWith_K (h₀:=X.base) I.ok.mod.kin hk (cp (ha pos f8 s σ H _ I h) λus s1 ⟨vs,H1,I1,r,q⟩=>⟨I1.kIn,?_⟩) he t9;exact Nn F hr hb hd hx I1 r q
end
section
variable{ks:List Str}
end
structure FnScope (N P:List Str) (sc:Scope):Prop where
 kind:sc.kind= .function
 co:sc.isCoroutine=false
 gen:sc.isGenerator=false
 nd:N.Nodup
 pre:N.take P.length=P
 par:∀x∈P,sc.names.lookup x=some .local\/sc.names.lookup x=some .cell
 nofree:∀y∈sc.names,y.2≠ .free
def tR{aaj:Str->Option ZR}{x:Str}:∀{binds:List (Str×Value)}{m:Str->Option Value},(∀v,(x,v)∉binds)->bindL aaj binds m x=m x
 |[],_,_=>rfl
 |(n,v)::r,m,h=>by
  unfold bindL;rw[tR λw hw=>h w (V8 _ hw)];split
  ·have:x≠n:=by rintro rfl;exact h v V_
   simp[this]
  ·rfl
def tP{aaj:Str->Option ZR}{x:Str}:∀{binds:List (Str×Value)}{m:Str->Option Value},(∀v,(x,v)∉binds)->bindC aaj binds m x=m x
 |[],_,_=>rfl
 |(n,v)::r,m,h=>by
  unfold bindC;rw[tP λw hw=>h w (V8 _ hw)];split
  ·rfl
  ·have:x≠n:=by rintro rfl;exact h v V_
   simp[this]
def tQ{aaj:Str->Option ZR}{x:Str}{v:Value}:∀{P:List Str}{vs:List Value}{i:Nat}{m:Str->Option Value},P.Nodup->P[i]? =some x->vs[i]? =some v->aaj x=some .local->
 bindL aaj (P.zip vs) m x=some v
 |[],_,_,_,_,h,_,_=>by simp at h
 |_::_,[],_,_,_,_,h,_=>by simp at h
 |p::P,w::vs,0,m,nd,h1,h2,hk=>by
  simp at h1 h2;subst h1;subst h2;show bindL aaj ((p,w)::P.zip vs) m p=_;unfold bindL;rw[tR λv hv=>(Xe.mp nd).1 (Z6 hv).1,ac5 hk];simp
 |p::P,w::vs,i+1,m,nd,h1,h2,hk=>by
  show bindL aaj ((p,w)::P.zip vs) m x=_;unfold bindL;exact tQ (i:=i) (Xe.mp nd).2 (by simpa using h1) (by simpa using h2) hk
def tO{aaj:Str->Option ZR}{x:Str}{v:Value}:∀{P:List Str}{vs:List Value}{i:Nat}{m:Str->Option Value},P.Nodup->P[i]? =some x->vs[i]? =some v->aaj x≠some .local->
 bindC aaj (P.zip vs) m x=some v
 |[],_,_,_,_,h,_,_=>by simp at h
 |_::_,[],_,_,_,_,h,_=>by simp at h
 |p::P,w::vs,0,m,nd,h1,h2,hk=>by
  simp at h1 h2;subst h1;subst h2;show bindC aaj ((p,w)::P.zip vs) m p=_;unfold bindC;rw[tP λv hv=>(Xe.mp nd).1 (Z6 hv).1,ac6 hk];simp
 |p::P,w::vs,i+1,m,nd,h1,h2,hk=>by
  show bindC aaj ((p,w)::P.zip vs) m x=_;unfold bindC;exact tO (i:=i) (Xe.mp nd).2 (by simpa using h1) (by simpa using h2) hk
def start(N:List Str)(vs:List V):St:=vs.map some++Xg (N.length - vs.length) none
def eS(CX:BI)(P:WU)(w:World)(K:Wm)(mg:Str->Option Value)(base:Heap)(N:List Str)(qual:Str)(scope:Scope)(f:Addr)(cd:Value)(A:Xf)(outer:List Env)(s:We)(H:Hp)(E:XK):Cx where
 prog:=P
 w:=w
 K:=K
 mg:=mg
 base:=base
 A:=A.deeper (YF qual scope s.heap.objs.size f cd)
 N:=N
 adg:=s
 adf:=H
 env:=YF qual scope s.heap.objs.size f cd
 outer:=outer
 stack:=YF qual scope s.heap.objs.size f cd::outer
 ex:=[]
 calm:=true
 fn:=λ_=>true
 pn:=[]
 xe:=λe s'=>wpAny (model P w) (A.deeper (YF qual scope s.heap.objs.size f cd)) (leaving (YF qual scope s.heap.objs.size f cd) e) (λ_ SD=>CX outer H s E e SD) (λe' SD=>CX outer H s E e' SD) s'
def xB{sc:Scope}{n:Nat}{x:Str}(h:sc.names.lookup x=some .cell):∃c,(cellsFrom n sc.names []).lookup x=some c:=by
 have q:=abF sc.names n [] (.inl h);exact YT.mp q
def DP{CX:BI}{P:WU}{w:World}{K:Wm}{mg:Str->Option Value}{base:Heap}{N ps:List Str}{qual:Str}{scope:Scope}{f:Addr}{cd:Value}{A:Xf}{outer:List Env}{s s1:We}{H:Hp}{E:XK}{us:List Value}{vs:List V}
 (S:FnScope N ps scope)(hd:A.handled=none)(e0:Env0 P w K mg base A outer s H)(hl:vs.length=ps.length)(r:Vals vs us)
 (x:InCallC s s.heap.objs.size (bindL (YF qual scope s.heap.objs.size f cd).kindOf (ps.zip us) λ_=>none) (cellsFrom (s.heap.objs.size+1) scope.names []) (bindC (YF qual scope s.heap.objs.size f cd).kindOf (ps.zip us) λ_=>none) s1):
 Inv (eS CX P w K mg base N qual scope f cd A outer s H E) [] (start N vs) H s1:=by
 have t9:ps.length<=N.length:=by have:=ada List.length S.pre;rw[aa2] at this;omega
 obtain⟨h1,tk,rfl,hk⟩:=x.done;have Px:∀b:Addr,b∉(eS CX P w K mg base N qual scope f cd A outer s H E).ex:=λb z=>ac_ (show b∈([]:List Addr) from z) (by simp);refine⟨⟨e0.mod,S.kind,rfl,rfl,Wg _,λy z c h1 h2=>?_,λy hy=>?_,λy c _ h=>?_,λ_=>hd,Around.frames_deeper e0.frames, .inr ⟨rfl,rfl⟩,λb z=>ac_ z (Px b),e0.bs,e0.bsz,λb _ _=>Px b,λb z=>ac_ z (Px b),e0.funs,e0.frf⟩,
  rfl,e0.bare,Un.kept hk,⟨_,x.toInCall.ns,λi y v h1 h2 h3=>?_⟩,λy c h=>⟨_,x.cell y c h⟩,e0.hok.fresh (Wg _),λy c h=>?_,λp hp=>ac_ (show p∈([]:List (Addr×Obj)) from hp) (by simp),e0.hok.kept hk,?_⟩
 ·exact name_of_addr x.apart (X9 h1) (X9 h2)
 ·have hy:scope.names.lookup y=some .cell\/scope.names.lookup y=some .free:=hy;rcases hy with hy | hy
  ·exact xB hy
  ·exact ac_ rfl (S.nofree _ (X9 hy))
 ·exact X8 (x.above y c (X9 h))
 ·have hi:i<vs.length:=by
   unfold start at h2;by_cases hi:i<vs.length
   ·exact hi
   ·rw[W8 (by simpa using hi)] at h2;rw[Yo] at h2;split at h2<;>cases h2
  have ha:vs[i]? =some v:=by
   unfold start at h2;rw[Xb (by simpa using hi),Wj] at h2;cases e:vs[i]? with
   |none=>rw[e] at h2;cases h2
   |some a=>rw[e] at h2;cases h2;rfl
  obtain⟨u,hu,rv⟩:=r.get ha;have hp:ps[i]? =some y:=by
   rw[<-S.pre,List.getElem?_take_of_lt (by omega)];exact h1
  have Ub:ps.Nodup:=by rw[<-S.pre];exact S.nd.sublist (List.take_sublist _ _)
  refine⟨u,rv,?_⟩;rcases S.par y (Wx hp) with k | k
  ·exact .inl ⟨k,tQ Ub hp hu k⟩
  ·obtain⟨c,e⟩:=xB (n:=s.heap.objs.size+1) k;refine .inr ⟨.inl k,c,e,?_⟩;have q:=x.cell y c e;rw[tO Ub hp hu (by show scope.names.lookup y≠_;rw[k];decide)] at q;exact q
 ·exact e0.hok.fresh (X8 (x.above y c (X9 h)))
 ·unfold start;show _=N.length;rw[Wq,V5,Z7];omega
def KU{CX:BI}{P:WU}{w:World}{K:Wm}{mg:Str->Option Value}{base:Heap}{k:Nat}{f:Addr}{name qual:Str}{params:Arguments}{body:List Stmt}{scope:Scope}{dV kV doc pm dz ct oc:Value}{an od:Option Addr}
 {JJ:Array (Option Value)}{N ps:List Str}{sp:Sp}(lk:K.lookup f=some ⟨oc,od, .func (Yb name qual params body scope dV kV doc pm an dz ct),JJ⟩)(zW:Y_ K dz qual=true)(S:FnScope N ps scope)
 (len:∀vs H Q E,sp vs H Q E->vs.length=ps.length)
 (qC:∀(A:Xf) (outer:List Env) (s:We) (H:Hp) (vs:List V) (Q:VK) (E:XK),Room k (A.deeper (YF qual scope s.heap.objs.size f dz))->sp vs H Q E->
  ∃t,PSs (eS CX P w K mg base N qual scope f dz A outer s H E) body t/\t {nx:=λ_ H'=>Q .non H',rt:=Q} (start N vs) H):
 FnOk P w K mg base CX (k+1) f (Yb name qual params body scope dV kV doc pm an dz ct) ps sp:=by
 refine⟨len,λA outer s H args us vs Q E hr e0 hb r Ir=>?_⟩;have hl:=len _ _ _ _ Ir;have KX:K.In s.heap:=e0.mod.kin.keeps λb o e=>(e0.bs b o e).1;have lim:s.heap.NoLimit:=e0.mod.nolimit.keeps λb o e=>(e0.bs b o e).1;have yd:∀y∈ps.zip us,scope.names.lookup y.1=some .local\/(scope.names.lookup y.1=some .cell/\((cellsFrom (s.heap.objs.size+1) scope.names []).lookup y.1).isSome=true):=λ⟨n,v⟩ hy=>by
  rcases S.par n (Z6 hy).1 with q | q
  ·exact .inl q
  ·exact .inr ⟨q,abF _ _ _ (.inl q)⟩
 refine codeAny_call_function hr.depth (KX _ _ lk) rfl S.co S.gen rfl (PySem.W.codeRec_of KX zW) (hb _ _ _ _ ?_);refine wpAny_newFunctionEnv_cells S.kind yd λenv he s1 x=>?_;subst he;refine⟨lim.keeps x.toInCall.keep,codeAny_func ?_⟩;obtain⟨t,ht,hq⟩:=qC A outer s H vs Q E (hr.deeper _) Ir;have I:Inv (eS CX P w K mg base N qual scope f dz A outer s H E) [] (start N vs) H s1:=DP S hr.hd e0 hl r x;refine Xz (ht [] s1 (start N vs) H _ I hq) (λfl s' hs=>?_) λe s' hs=>hs;have fin:∀{σ':St}{H':Hp}{v:V}{u:Value},Inv (eS CX P w K mg base N qual scope f dz A outer s H E) [] σ' H' s'->RelV v u->Q v H'->CE outer P w H s Q u s':=
  λ{σ' H' v u} J rv q=>⟨v,H',J.os,J.bare,J.base,J.hok,rv,q⟩
 cases fl with
 |ret u=>
  obtain⟨v,σ',H',J,rv,q⟩:=hs;exact fin J rv q
 |next=>
  obtain⟨σ',H',J,q⟩:=hs;exact fin (v:=V.non) (u:=WJ) J rfl q
 |brk=>
  obtain⟨_,_,_,q⟩:=hs;exact Yu q
 |cont=>
  obtain⟨_,_,_,q⟩:=hs;exact Yu q
section
variable{X:Cx}{x:Str}{p pos:Pos}{e:Expr}{es:List Expr}{t:TA}{id T:String}{r:List V->Hp->VK->Prop}
def SM(r:List V->Hp->VK->Prop)(t:TA):TE:=λσ H Q=>t σ H λvs H1=>r vs H1 Q
def G4(hc:CallR X (.builtin id) r)(hg:Gl X x)(hm:X.mg x=none)(hv:WV x=some (.builtin id))(ha:PA X (e::es) t)(hn:x≠"__name__":=by decide)(vA:(x==("__debug__":Str))=false:=by decide)
 (he:Wv (e::es) X.env=(false,eval e X.env)::Wv es X.env:=by rfl)(t9:(YO pos (Wv es X.env)).any (·.1)=false:=by rfl):PE X (.Call (.Name x p) (e::es) [] pos) (SM r t):=by
 intro f8 s σ H Q I h;refine ZO (jM I hg hm hv ?_ hn vA);exact aaf (cp (ha pos f8 s σ H _ I h) λus s1 ⟨vs,H1,I1,r1,q1⟩=>hc f8 s1 σ H1 vs us Q I1 r1 q1) he t9
def El(hc:CallR X (.type T) r)(hg:Gl X x)(hm:X.mg x=none)(hv:WV x=some (.type T))(ha:PA X (e::es) t)(hn:x≠"__name__":=by decide)(vA:(x==("__debug__":Str))=false:=by decide)
 (he:Wv (e::es) X.env=(false,eval e X.env)::Wv es X.env:=by rfl)(t9:(YO pos (Wv es X.env)).any (·.1)=false:=by rfl):PE X (.Call (.Name x p) (e::es) [] pos) (SM r t):=by
 intro f8 s σ H Q I h;refine ZO (jM I hg hm hv ?_ hn vA);exact X2 (cp (ha pos f8 s σ H _ I h) λus s1 ⟨vs,H1,I1,r1,q1⟩=>hc f8 s1 σ H1 vs us Q I1 r1 q1) he t9
end
end L2
namespace HT
open PySem PyProof.Rows
def lexLt:List Int->List Int->Bool
 |[],[]=>false
 |[],_::_=>true
 |_::_,[]=>false
 |x::xs,y::ys=>if x=y then lexLt xs ys else decide (x<y)
def lexLt_cons(x y:Int)(xs ys:List Int):lexLt (x::xs) (y::ys)=if x=y then lexLt xs ys else decide (x<y):=rfl
def lexLt_nil_nil:lexLt [] []=false:=rfl
def lexLt_nil_cons(y:Int)(ys:List Int):lexLt [] (y::ys)=true:=rfl
def lexLt_cons_nil(x:Int)(xs:List Int):lexLt (x::xs) []=false:=rfl
def eqAt_int(A:Xf)(s:We)(a:Int)(t:Tok)(c:Int)(u:Tok):∃e,acF A s (.int a t) (.int c u) e/\(e=true↔a=c):=
 ⟨(a==c),abO a t c u,by simp⟩
def rcLt_int(A:Xf)(s:We)(a:Int)(t:Tok)(c:Int)(u:Tok)(prog:WU)(w:World)(E:Value->We->Prop)(Q:Value->We->Prop)(h:Q (.bool (decide (a<c))) s):
 wpAny (model prog w) A (richCompare .Lt (.int a t) (.int c u)) Q E s:=
 (ZQ h:wpAny (model prog w) A (Xd .Lt (.int a t) (.int c u)) Q E s)
section
open PySem.SeqAt
open PySem.AutoSeq1 (wpAny_loadPart')
open PySem.MeetsSeq PySem.MeetsSeq2 PySem.MeetsSeq3
def tuple_lt_ints(l b:Addr)(items hJ:Array Value)(n n2:Nat)(dd DC:Option Addr)(sl Lj:Array (Option Value))(ns ms:List Int)(hi:Ys items.toList ns)(hj:Ys hJ.toList ms):
 Meets (YI.«tuple.__lt__» ⟨[.ref l, .ref b],[]⟩)
  (λ_ R s=>s.heap.get? l=some {cls:= .type "tuple",dict:=dd,data:= .seq items n,slots:=sl}/\s.heap.get? b=some {cls:= .type "tuple",dict:=DC,data:= .seq hJ n2,slots:=Lj}/\
   R (.ok (.ret (.bool (lexLt ns ms)))) s):=
 .of_wp λprog w A R s h=>by
  obtain⟨hp,g,d,tk,os⟩:=s;obtain⟨hl,hb,h⟩:=h;have f2:=AutoSeq1.sub_tuple_tuple;have z1:items.size=ns.length:=by rw[<-hi.length];simp
  have z2:hJ.size=ms.length:=by rw[<-hj.length];simp
  wp_walk using wpAny_loadPart' hl,wpAny_loadPart' hb,abJ _ (λT0 b s'=>b.1=none/\s'=⟨hp,g,d,tk,os⟩/\∃(vs ws:List Value) (NZ NY:List Int),T0=vs.zip ws/\
   Ys vs NZ/\Ys ws NY/\NZ.length+hJ.size=NY.length+items.size/\R (.ok (.ret (.bool (lexLt NZ NY)))) ⟨hp,g,d,tk,os⟩) _
  case turn=>
   rintro⟨y,x⟩ T0 b s' ⟨OI,rfl,vs,ws,NZ,NY,hz,R0,QS,P3,hR⟩;cases R0 with
   |nil=>rw[List.zip_nil_left] at hz;cases hz
   |cons a t R1=>
    cases QS with
    |nil=>rw[List.zip_nil_right] at hz;cases hz
    |cons c u R5=>
     rw[Yz] at hz;injection hz with Vz O7
     injection Vz with hy hx
     subst hy hx;rw[lexLt_cons] at hR;simp only[Wf] at P3;obtain⟨e,he,OQ⟩:=eqAt_int A.in1 ⟨hp,g,d,tk,os⟩ a t c u;refine V4 (he prog w _ _ ?_);cases e with
     |true=>
      rw[ac5 (OQ.mp rfl)] at hR
      wp_walk
      exact⟨rfl,rfl,_,_,_,_,O7,R1,R5,by omega,hR⟩
     |false=>
      rw[ac6 (λq=>ac_ (OQ.mpr q) Wz)] at hR;have Vo:=rcLt_int A.in1 ⟨hp,g,d,tk,os⟩ a t c u prog w
      wp_walk using Vo
      exact⟨_,rfl,by simpa using hR⟩
  case fin=>
   rintro⟨b1,b2⟩ s' ⟨OI,rfl,vs,ws,NZ,NY,hz,R0,QS,P3,hR⟩;simp only at OI;subst OI;have hv:lexLt NZ NY=decide (items.size<hJ.size):=by
    cases R0 with
    |nil=>
     cases QS with
     |nil=>
      simp only[XC] at P3;rw[lexLt_nil_nil];exact(ac8 (by omega)).symm
     |cons c u hw=>
      simp only[XC,Wf] at P3;rw[lexLt_nil_cons];exact(ac7 (by omega)).symm
    |cons a t hv=>
     cases QS with
     |nil=>
      simp only[XC,Wf] at P3;rw[lexLt_cons_nil];exact(ac8 (by omega)).symm
     |cons c u hw=>
      rw[Yz] at hz;cases hz
   rw[hv] at hR
   wp_walk
   exact⟨_,rfl,by simpa[Builtin.Tuple.tupleCompareSizes] using hR⟩
  case h=>
   exact⟨rfl,rfl,items.toList,hJ.toList,ns,ms,rfl,hi,hj,by omega,h⟩
end
section
variable{prog:WU}{w:World}{A:Xf}{E:Value->We->Prop}{s:We}
def lt_tupInts{l b:Addr}{items hJ:Array Value}{ns ms:List Int}{Q:Value->We->Prop}(hl:IsTup s.heap l items)(hb:IsTup s.heap b hJ)(hi:Ys items.toList ns)(hj:Ys hJ.toList ms)
 (hu:A.units<cLine)(h:Q (.bool (lexLt ns ms)) s):wpAny (model prog w) A (Xd .Lt (.ref l) (.ref b)) Q E s:=by
 obtain⟨⟨cls,dd,data,sl⟩,ho,hc,n,hd⟩:=id hl;obtain⟨⟨Oe,DC,data2,Lj⟩,Ip,Ii,n2,hd2⟩:=id hb;simp only at hc hd Ii hd2;subst hc hd Ii hd2;exact richCompare_meets_room (op:= .Lt) ⟨_,ho,rfl⟩ ⟨_,Ip,rfl⟩ PySem.F.slot_tuple_lt PySem.F.entry_tuple_lt (PySem.F.args_tuple_lt_2 _ _) (tuple_lt_ints l b items hJ n n2 dd DC sl Lj ns ms hi hj)
  ⟨ho,Ip,show X7 (lexLt ns ms)≠Value.notImplemented/\Q (.bool (lexLt ns ms)) s from⟨(λx=>nomatch x),h⟩⟩ hu
def cat_tup{t b:Addr}{vs ws:List Value}{Q:Value->We->Prop}(ht:IsTup s.heap t vs.toArray)(hb:IsTup s.heap b ws.toArray)(hv:vs≠[])
 (h1:ws=[]->Q (.ref t) s)(h2:ws≠[]->Q (.ref s.heap.objs.size) {s with heap:=s.heap.push {cls:= .type "tuple",data:= .seq (vs++ws).toArray} })
 (hsz:vs.length+ws.length<=Ww):wpAny (model prog w) A (ZP .Add (.ref t) (.ref b)) Q E s:=by
 obtain⟨⟨cls,dd,data,sl⟩,ho,hc,n,hd⟩:=id ht;obtain⟨⟨Oe,DC,data2,Lj⟩,Ip,Ii,n2,hd2⟩:=id hb;simp only at hc hd Ii hd2;subst hc hd Ii hd2;have e:vs.toArray++ws.toArray=(vs++ws).toArray:=by simp
 by_cases hw:ws=[]
 ·exact concat_meets ⟨_,ho,rfl⟩ ⟨_,Ip,rfl⟩ abL acD ZM ZI (Zy _ _)
   (tuple_addW1 t b vs.toArray ws.toArray n n2 dd DC sl Lj (by simpa using hv) (by simp[hw])) ⟨ho,Ip,h1 hw⟩
 ·refine concat_meets ⟨_,ho,rfl⟩ ⟨_,Ip,rfl⟩ abL acD ZM ZI (Zy _ _)
   (tuple_addW2 t b vs.toArray ws.toArray n n2 dd DC sl Lj (by simpa using hv) (by simpa using hw) (by rw[Wk,Wk];exact hsz)) ⟨ho,Ip,?_⟩
  rw[e];exact h2 hw
def sIx(n d:Nat):Option Int->Nat
 |none=>d
 |some v=>if v<0 then(v+(n:Int)).toNat else min v.toNat n
end
end HT
namespace L2
open PySem PySem.Spec PyProof.Rows
abbrev TO:=St->Hp->(Option Int->Hp->Prop)->Prop
def intsAre_of{ns:List Int}:∀{us:List Value},Vals (ns.map V.int) us->Ys us ns:=by
 induction ns with
 |nil=>intro us r;rw[Yl] at r;cases r;exact .nil
 |cons n ns ih=>
  intro us r;rw[Wb] at r;cases r with
  |cons r1 r2=>
   obtain⟨t,e⟩:=r1;subst e;exact .cons n t (ih r2)
section
variable{X:Cx}{lo hi:Option Expr}{p2:Pos}
def Ur(X:Cx)(r:V->Option Int->Option Int->Hp->VK->Prop):Prop:=
 ∀(f8:List (Addr×Obj)) (s:We) (σ:St) (H:Hp) (x:V) (v vl vu:Value) (lo hi:Option Int) (sl:Addr) (Q:VK),Inv X f8 σ H s->RelV x v->s.heap.IsSliceOf sl vl vu .none->IsPart vl lo->IsPart vu hi->r x lo hi H Q->
  ∃T id,abp (.type T) "__getitem__"=pure (some (.builtin id))/\s.TypeIs v T/\wpAny (model X.prog X.w) X.A (aaU v (.ref sl)) (EP X f8 σ Q) X.xe s
def IG(xs:List V)(lo hi:Option Int):List V:=(xs.drop (HT.sIx xs.length 0 lo)).take (HT.sIx xs.length xs.length hi - HT.sIx xs.length 0 lo)
def xF(xs:List V)(lo hi:Option Int):(IG xs lo hi).length<=xs.length:=by
 unfold IG;rw[aa2,List.length_drop];omega
def P6(K:Wm):R2:=λx y H Q=>∃a b xs ys,x= .ref a/\y= .ref b/\SqT K H a xs/\SqT K H b ys/\xs≠[]/\xs.length+ys.length<=Ww/\
 (ys=[]->Q (.ref a) H)/\(ys≠[]->∀p,H p=none->Q (.ref p) (upd H p (.tup (xs++ys))))
def Vals.nil_iff{xs:List V}{us:List Value}(r:Vals xs us):us=[]↔xs=[]:=by
 cases r with
 |nil=>simp
 |cons _ _=>simp
def JC:OpR X (ZP .Add) (P6 X.K):=by
 intro f8 s σ H x y v u Q I rx ry h;obtain⟨a,b,xs,ys,rfl,rfl,ha,hb,hx,hz,q1,q2⟩:=h;cases rx;cases ry;obtain⟨aL,r1,p1,_⟩:=I.tuple ha;obtain⟨jJ,r2,p2,_⟩:=I.tuple hb;refine HT.cat_tup p1 p2 (λz=>hx (r1.nil_iff.mp z)) (λz=>⟨.ref a,H,I,rfl,q1 (r2.nil_iff.mp z)⟩) (λz=>?_) (by rw[<-r1.length,<-r2.length];exact hz);refine⟨.ref s.heap.objs.size,_,I.laid (t':=s.toks) (o:= .tup (xs++ys)) (λb ob q=>V7 _ q) (Wg _) ?_,rfl,q2 (λw=>z (r2.nil_iff.mpr w)) _ (I.hok.fresh (Wg _))⟩;exact⟨by rw[Wq];exact hz,_,r1.append r2,IsTup.new _ _⟩
end
def Mi(n:Nat)(i:Int):Option Nat:=if 0<=i then(if i<n then some i.toNat else none) else if -(n:Int)<=i then some (i+n).toNat else none
def atI{α:Type}(xs:List α)(i:Int):Option α:=(Mi xs.length i).bind λj=>xs[j]?
def Jl{n:Nat}{i:Int}{j:Nat}(h:Mi n i=some j):seqIndex? i n=some j/\j<n/\ -(n:Int)<=i/\i<n:=by
 unfold Mi at h;by_cases h0:0<=i
 ·rw[ac5 h0] at h;by_cases h1:i<n
  ·rw[ac5 h1] at h;have e:i.toNat=j:=WW h;exact⟨by rw[seqIndex_of h0 h1,e],by omega,by omega,h1⟩
  ·rw[ac6 h1] at h;cases h
 ·rw[ac6 h0] at h;by_cases h1: -(n:Int)<=i
  ·rw[ac5 h1] at h;have e:(i+n).toNat=j:=WW h;exact⟨by rw[seqIndex_neg (by omega) h1,e],by omega,h1,by omega⟩
  ·rw[ac6 h1] at h;cases h
def u_{α:Type}{xs:List α}{i:Int}{v:α}(h:atI xs i=some v):∃j,seqIndex? i xs.length=some j/\xs[j]? =some v/\j<xs.length/\ -(xs.length:Int)<=i/\i<xs.length:=by
 unfold atI at h;cases e:Mi xs.length i with
 |none=>rw[e] at h;cases h
 |some j=>
  rw[e] at h;obtain⟨h1,h2,h3,h4⟩:=Jl e;exact⟨j,h1,h,h2,h3,h4⟩
def ky(b:Expr):Prop:=∀o i,subscripted b false o i=operate [o,i] (aaU o i)
def N7(X:Cx)(r:R2):Prop:=
 ∀(value slice:Expr) (f8:List (Addr×Obj)) (s:We) (σ:St) (H:Hp) (x y:V) (v u:Value) (Q:VK),Inv X f8 σ H s->RelV x v->RelV y u->r x y H Q->
  subscripted slice false v u=operate [v,u] (aaU v u)->wpAny (model X.prog X.w) X.A (acC value slice v u) (EP X f8 σ Q) X.xe s
def Qx(X:Cx)(id:String)(r:V->List V->Hp->VK->Prop):Prop:=
 ∀(f8:List (Addr×Obj)) (s:We) (σ:St) (H:Hp) (x:V) (xs:List V) (v:Value) (us:List Value) (Q:VK),Inv X f8 σ H s->RelV x v->Vals xs us->r x xs H Q->
  wpAny (model X.prog X.w) X.A (call (.builtin id) (v::us)) (EP X f8 σ Q) X.xe s
section
variable{X:Cx}{a b:Expr}{ta tb:TE}{pos:Pos}
def PU{r:R2}(hr:N7 X r)(ha:PE X a ta)(hb:PE X b tb)(hs:ky b):PE X (.Subscript a b pos) (Qr r ta tb):=by
 intro f8 s σ H Q I h;exact Subscript_ (Lu ha hb I h λv u s2 x y H2 I2 rx ry q=>hr a b f8 s2 σ H2 x y v u Q I2 rx ry q (hs _ _))
def Nl(K:Wm):R2:=λx y H Q=>∃p xs i v,x= .ref p/\y= .int i/\SqL K H p xs/\atI xs i=some v/\Q v H
def Qb(K:Wm):R2:=λx y H Q=>∃p xs i v,x= .ref p/\y= .int i/\SqT K H p xs/\atI xs i=some v/\Q v H
def Qa:R2:=λx y H Q=>∃z i c,x= .str z/\y= .int i/\z.length<=Ww/\atI z.cps.toList i=some c/\Q (.str ⟨#[c]⟩) H
def Cj:N7 X (Nl X.K):=by
 intro value slice f8 s σ H x y v u Q I rx ry h hs;obtain⟨p,xs,i,z,rfl,rfl,hq,he,q⟩:=h;cases rx;obtain⟨t,rfl⟩:=ry;obtain⟨aL,r,pl,hz⟩:=I.list hq;obtain⟨j,h1,h2,h3,h4,h5⟩:=u_ he;obtain⟨w,ew,zY⟩:=r.get h2;have hl:=r.length;have hn:=nQ;have fin:EP X f8 σ Q w s:=⟨z,H,I,zY,q⟩
 by_cases h0:0<=i
 ·have hj:i.toNat=j:=by
   rw[seqIndex_of h0 h5] at h1;exact WW h1
  exact item_listR pl.isList h0 (by omega) (by rw[hj];simpa using ew) fin hs
 ·have hj:(i+(aL.toArray.size:Int)).toNat=j:=by
   rw[seqIndex_neg (by omega) h4] at h1;rw[Wk,<-hl];exact WW h1
  exact acU (x:=w) pl.isList.typeIs slot_list_getitem.lookup
   (wpAny_getItem_list_neg (Q:=λr s'=>r=w/\EP X f8 σ Q r s') pl.isList (by omega) (by rw[Wk]<;>omega) (by omega) (by rw[hj];simpa using ew) ⟨rfl,fin⟩) hs
def Ml:N7 X (Qb X.K):=by
 intro value slice f8 s σ H x y v u Q I rx ry h hs;obtain⟨p,xs,i,z,rfl,rfl,hq,he,q⟩:=h;cases rx;obtain⟨t,rfl⟩:=ry;obtain⟨aL,r,pl,hz⟩:=I.tuple hq;obtain⟨j,h1,h2,h3,h4,h5⟩:=u_ he;obtain⟨w,ew,zY⟩:=r.get h2;have hl:=r.length;have hn:=nQ;have fin:EP X f8 σ Q w s:=⟨z,H,I,zY,q⟩
 exact acU (x:=w) pl.typeIs slot_tuple_getitem.lookup
  (getItem_tuple (j:=j) (Q:=λr s'=>r=w/\EP X f8 σ Q r s') pl (by omega) (by omega) (by rw[Wk,<-hl];exact h1) (by simpa using ew) ⟨rfl,fin⟩) hs
def Mk:N7 X Qa:=by
 intro value slice f8 s σ H x y v u Q I rx ry h hs;obtain⟨z,i,c,rfl,rfl,hz,he,q⟩:=h;obtain⟨t,rfl⟩:=rx;obtain⟨t',rfl⟩:=ry;obtain⟨j,h1,h2,h3,h4,h5⟩:=u_ he;have hl:z.cps.toList.length=z.length:=by simp[Str.length]
 rw[hl] at h1 h4 h5;have hn:=nQ;exact tail_any (typeIs_str s z t) slot_str_getitem.lookup (getItem_str (c:=c) (by
  have e1:decide (i< -(2 ^ 63:Int))=false:=ac8 (by omega);have e2:decide (i>=2 ^ 63)=false:=ac8 (by omega);rw[e1,e2,aaL]) (by rw[h1];simpa using h2) ⟨.str ⟨#[c]⟩,H,I.tok _,⟨_,rfl⟩,q⟩) hs
def Inv.lst{f8:List (Addr×Obj)}{σ:St}{H:Hp}{s:We}{p:Addr}{xs:List V}(I:Inv X f8 σ H s)(h:H p=some (.lst xs)):
 ∃(aL:List Value) (n:Nat),Vals xs aL/\s.heap.get? p=some {cls:= .type "list",data:= .seq aL.toArray n}/\xs.length<=Ww:=by
 obtain⟨z,aL,n,r,e⟩:=I.hok p _ h;exact⟨aL,n,r,e,z⟩
def wJ(lo hi:Option Int)(n:Nat):(ZE lo hi none n).1=((HT.sIx n 0 lo:Nat):Int)/\(ZE lo hi none n).2.1=((HT.sIx n n hi:Nat):Int)/\(ZE lo hi none n).2.2=1:=by
 refine⟨?_,?_,rfl⟩
 ·cases lo with
  |none=>simp[ZE,HT.sIx]
  |some i=>
   simp only[ZE,HT.sIx,acK,show (1:Int)>0 by decide,if_true];by_cases h:i<0
   ·simp only[h,if_true]<;>omega
   ·simp only[h,if_false]<;>omega
 ·cases hi with
  |none=>simp[ZE,HT.sIx]
  |some i=>
   simp only[ZE,HT.sIx,acK,show (1:Int)>0 by decide,if_true];by_cases h:i<0
   ·simp only[h,if_true]<;>omega
   ·simp only[h,if_false]<;>omega
def tw(aL:List Value)(lo hi:Option Int):slicePick aL.toArray lo hi none=((aL.drop (HT.sIx aL.length 0 lo)).take (HT.sIx aL.length aL.length hi - HT.sIx aL.length 0 lo)).toArray:=by
 obtain⟨h1,h2,h3⟩:=wJ lo hi aL.toArray.size;unfold slicePick;rw[h1,h2,h3];simp only[sliceRange_one,pick_run,Wk]<;>rfl
def Sz(K:Wm):V->Option Int->Option Int->Hp->VK->Prop:=λx lo hi H Q=>∃a xs,x= .ref a/\SqL K H a xs/\∀p,H p=none->Q (.ref p) (upd H p (.lst (IG xs lo hi)))
def Q3:Ur X (Sz X.K):=by
 intro f8 s σ H x v vl vu lo hi sl Q I rx hs pl pu h;obtain⟨a,xs,rfl,hx,q⟩:=h;cases rx;obtain⟨aL,r,ht,hz⟩:=I.list hx;have P3:=r.length;refine⟨"list",_,slot_list_getitem.lookup,ht.isList.typeIs,?_⟩;refine wpAny_getItem_list_slice ht.isList hs pl pu .none (by simp) ?_ (by rw[Wk]<;>omega);rw[tw,<-P3];refine⟨.ref s.heap.objs.size,_,I.laid (t':=s.toks) (o:= .lst (IG xs lo hi)) (λb ob q=>V7 _ q) (Wg _) ?_,rfl,q _ (I.hok.fresh (Wg _))⟩;exact⟨WX (xF xs lo hi) hz,_,0,(r.drop (HT.sIx xs.length 0 lo)).take (HT.sIx xs.length xs.length hi - HT.sIx xs.length 0 lo),Wr _ rfl⟩
def oH:V->Bool
 | .non=>true
 | .bl _=>true
 | .int _=>true
 | .str _=>true
 |_=>false
def Ie:V->V->Bool
 | .non, .non=>true
 | .bl a, .bl b=>a==b
 | .bl a, .int b=>(if a then 1 else 0)==b
 | .int a, .bl b=>a==(if b then 1 else 0)
 | .int a, .int b=>a==b
 | .str a, .str b=>a==b
 |_,_=>false
def LJ{A:Xf}{s:We}{y x:V}{u v:Value}(ry:RelV y u)(rx:RelV x v)(fy:oH y=true)(fx:oH x=true):acF A s u v (Ie y x):=by
 cases y with
 |non=>
  cases ry;cases x with
  |non=>cases rx;exact SeqAt.EqAt.same _
  |bl b=>cases rx;exact SeqAt.EqAt.none_bool b
  |int b=>obtain⟨t,rfl⟩:=rx;exact SeqAt.EqAt.none_int b t
  |str b=>obtain⟨t,rfl⟩:=rx;exact SeqAt.EqAt.none_str b t
  |_=>exact ac_ (show false=true from fx) Wz
 |bl a=>
  cases ry;cases x with
  |non=>cases rx;exact SeqAt.EqAt.bool_none a
  |bl b=>cases rx;exact SeqAt.EqAt.bool_bool a b
  |int b=>obtain⟨t,rfl⟩:=rx;exact SeqAt.EqAt.bool_int a b t
  |str b=>obtain⟨t,rfl⟩:=rx;exact SeqAt.EqAt.bool_str a b t
  |_=>exact ac_ (show false=true from fx) Wz
 |int a=>
  obtain⟨t',rfl⟩:=ry;cases x with
  |non=>cases rx;exact SeqAt.EqAt.int_none a t'
  |bl b=>cases rx;exact SeqAt.EqAt.int_bool a t' b
  |int b=>obtain⟨t,rfl⟩:=rx;exact abO a t' b t
  |str b=>obtain⟨t,rfl⟩:=rx;exact abN a t' b t
  |_=>exact ac_ (show false=true from fx) Wz
 |str a=>
  obtain⟨t',rfl⟩:=ry;cases x with
  |non=>cases rx;exact SeqAt.EqAt.str_none a t'
  |bl b=>cases rx;exact SeqAt.EqAt.str_bool a t' b
  |int b=>obtain⟨t,rfl⟩:=rx;exact abM a t' b t
  |str b=>obtain⟨t,rfl⟩:=rx;exact SeqAt.EqAt.str_str a t' b t
  |_=>exact ac_ (show false=true from fx) Wz
 |_=>exact ac_ (show false=true from fy) Wz
def Aj(x:V)(u:Value):Bool:=match u with
 | .none=>Ie .non x
 | .bool b=>Ie (.bl b) x
 | .int i _=>Ie (.int i) x
 | .str z _=>Ie (.str z) x
 |_=>false
def Fx{x y:V}{u:Value}(r:RelV y u)(f:oH y=true):Aj x u=Ie y x:=by
 cases y with
 |non=>cases r;rfl
 |bl b=>cases r;rfl
 |int i=>obtain⟨t,rfl⟩:=r;rfl
 |str z=>obtain⟨t,rfl⟩:=r;rfl
 |_=>exact ac_ (show false=true from f) Wz
def lZ{x:V}:∀{xs:List V}{us:List Value},Vals xs us->xs.all oH=true->us.any (Aj x)=xs.any λy=>Ie y x
 |_,_, .nil,_=>rfl
 |y::xs,u::us, .cons r t,f=>by
  rw[Zs,Wl] at f;rw[Yp,Yp,Fx r f.1,lZ t f.2]
def jO{A:Xf}{s:We}{x:V}{v:Value}(rx:RelV x v)(fx:oH x=true):∀{xs:List V}{us:List Value},Vals xs us->xs.all oH=true->∀u∈us,acF A s u v (Aj x u)
 |_,_, .nil,_=>λu hu=>by cases hu
 |y::xs,u::us, .cons r t,f=>λu' hu=>by
  rw[Zs,Wl] at f;rcases Ws.mp hu with rfl | hu
  ·rw[Fx r f.1];exact LJ r rx f.1 fx
  ·exact jO rx fx t f.2 u' hu
def QW(x:V)(xs:List V):Bool:=xs.any λy=>Ie y x
def Sx(K:Wm)(neg:Bool):R2:=λx y H Q=>∃p xs,y= .ref p/\(SqL K H p xs\/SqT K H p xs)/\oH x=true/\xs.all oH=true/\Q (.bl (if neg then !QW x xs else QW x xs)) H
def Ef:OpR X (Xd .In) (Sx X.K false):=by
 intro f8 s σ H x y v u Q I rx ry h;obtain⟨p,xs,rfl,hq,fx,fs,q⟩:=h;cases ry;rcases hq with hq | hq
 ·obtain⟨aL,r,pl,hz⟩:=I.list hq;refine SeqAt.in_listAt (Aj x) pl.isList (λw hw=>jO rx fx r fs w (by simpa using hw)) ⟨.bl _,H,I,rfl,?_⟩;rw[show aL.toArray.any (Aj x)=aL.any (Aj x) by simp,lZ r fs];exact q
 ·obtain⟨aL,r,pl,hz⟩:=I.tuple hq;refine acV (Aj x) pl (λw hw=>jO rx fx r fs w (by simpa using hw)) ⟨.bl _,H,I,rfl,?_⟩;rw[show aL.toArray.any (Aj x)=aL.any (Aj x) by simp,lZ r fs];exact q
def v5:OpR X (Xd .NotIn) (Sx X.K true):=by
 intro f8 s σ H x y v u Q I rx ry h;obtain⟨p,xs,rfl,hq,fx,fs,q⟩:=h;cases ry;rcases hq with hq | hq
 ·obtain⟨aL,r,pl,hz⟩:=I.list hq;refine SeqAt.notIn_listAt (Aj x) pl.isList (λw hw=>jO rx fx r fs w (by simpa using hw)) ⟨.bl _,H,I,rfl,?_⟩;rw[show aL.toArray.any (Aj x)=aL.any (Aj x) by simp,lZ r fs];exact q
 ·obtain⟨aL,r,pl,hz⟩:=I.tuple hq;refine SeqAt.notIn_tupleAt (Aj x) pl (λw hw=>jO rx fx r fs w (by simpa using hw)) ⟨.bl _,H,I,rfl,?_⟩;rw[show aL.toArray.any (Aj x)=aL.any (Aj x) by simp,lZ r fs];exact q
def vh:CallR X (.builtin "len") (λxs H Q=>∃p ys,xs=[.ref p]/\(SqL X.K H p ys\/SqT X.K H p ys)/\Q (.int ys.length) H):=by
 intro f8 s σ H xs us Q I r h;obtain⟨p,ys,rfl,hq,q⟩:=h;obtain⟨u,rfl,rx⟩:=vals1 r;cases rx;have hn:=nQ;rcases hq with hq | hq
 ·obtain⟨aL,r',pl,hz⟩:=I.list hq;have P3:=r'.length;exact Calls.call_len_list pl.isList (by simp only[Wk]<;>omega) ⟨.int ys.length,H,I.tok _,⟨s.toks+1,by rw[Wk,P3]⟩,q⟩
 ·obtain⟨aL,r',pl,hz⟩:=I.tuple hq;have P3:=r'.length;exact len_tuple pl (by simp only[Wk]<;>omega) ⟨.int ys.length,H,I.tok _,⟨s.toks+1,by rw[Wk,P3]⟩,q⟩
def vi:CallR X (.builtin "len") (λxs H Q=>∃z,xs=[.str z]/\z.length<=Ww/\Q (.int z.length) H):=by
 intro f8 s σ H xs us Q I r h;obtain⟨z,rfl,hz,q⟩:=h;obtain⟨u,rfl,t,rfl⟩:=vals1 r;have hn:=nQ;exact len_str (by omega) ⟨.int z.length,H,I.tok _,⟨_,rfl⟩,q⟩
def CallR.or{f:Value}{r r':List V->Hp->VK->Prop}(h:CallR X f r)(h':CallR X f r'):CallR X f (λxs H Q=>r xs H Q\/r' xs H Q):=by
 intro f8 s σ H xs us Q I rs q;rcases q with q | q
 ·exact h f8 s σ H xs us Q I rs q
 ·exact h' f8 s σ H xs us Q I rs q
def sO:CallR X (.type "tuple") (λxs H Q=>∃p ys,xs=[.ref p]/\((SqL X.K H p ys/\∀l,H l=none->Q (.ref l) (upd H l (.tup ys)))\/(SqT X.K H p ys/\Q (.ref p) H))):=by
 intro f8 s σ H xs us Q I r h;obtain⟨p,ys,rfl,h⟩:=h;obtain⟨u,rfl,rx⟩:=vals1 r;cases rx;rcases h with⟨hq,q⟩ | ⟨hq,q⟩
 ·obtain⟨aL,r',pl,hz⟩:=I.list hq;have P3:=r'.length;refine call_tuple_list pl.isList (λh' kp=>?_) (by simp only[Wk]<;>omega);have I1:Inv X f8 σ H {s with heap:=h'}:=I.kept (t':=s.toks) kp;have I2:Inv X f8 σ (upd H h'.objs.size (.tup ys)) {s with heap:=h'.push {cls:= .type "tuple",data:= .seq aL.toArray} }:=
   I1.laid (t':=s.toks) (λb o e=>V7 _ e) (Wg _) (show ObjOk X.prog X.w _ _ _ (.tup ys) from⟨hz,aL,r',IsTup.new _ _⟩)
  exact⟨.ref h'.objs.size,_,I2,rfl,q _ (I1.hok.fresh (Wg _))⟩
 ·obtain⟨aL,r',pl,hz⟩:=I.tuple hq;exact call_tuple_same pl ⟨.ref p,H,I,rfl,q⟩
def Qs(K:Wm)(T:String)(x:V)(H:Hp):Prop:=match x with
 | .str _=>T="str"
 | .int _=>T="int"
 | .ref p=>(T="list"/\∃xs,SqL K H p xs)\/(T="tuple"/\∃o,K.lookup p=some o/\o.cls= .type "tuple"/\o.dict=none)\/
    (T="dict"/\((∃aB,H p=some (.dK aB))\/∃aB,H p=some (.dT aB)))\/(T="set"/\∃S n,H p=some (.set S n))
 |_=>False
def NG{f8:List (Addr×Obj)}{σ:St}{H:Hp}{s:We}{T:String}{x:V}{v:Value}(I:Inv X f8 σ H s)(r:RelV x v)(ty:Qs X.K T x H):
 s.TypeIs v T/\∀a,v= .ref a->∃ob,s.heap.get? a=some ob/\ob.dict=none:=by
 cases x with
 |str z=>
  obtain⟨t,rfl⟩:=r;cases (show T="str" from ty);exact⟨typeIs_str s z t,λ_ e=>nomatch e⟩
 |int i=>
  obtain⟨t,rfl⟩:=r;cases (show T="int" from ty);exact⟨typeIs_int s i t,λ_ e=>nomatch e⟩
 |ref p=>
  cases r;rcases ty with⟨rfl,xs,hq⟩ | ⟨rfl,o,hk,hc,hd⟩ | ⟨rfl,hk⟩ | ⟨rfl,S,n,hk⟩
  ·obtain⟨aL,_,pl,_⟩:=I.list hq;refine⟨pl.isList.typeIs,λa e=>?_⟩;cases e;obtain⟨o,n,e,c,hd,_⟩:=pl;exact⟨o,e,hd⟩
  ·refine⟨⟨o,I.kIn p o hk,hc⟩,λa e=>?_⟩;cases e;exact⟨o,I.kIn _ o hk,hd⟩
  ·have z:∃o,s.heap.get? p=some o/\o.ExactDict:=by
    rcases hk with⟨aB,hk⟩ | ⟨aB,hk⟩
    ·obtain⟨_,_,_,_,o,_,_,e,ex,_⟩:=I.hok p _ hk;exact⟨o,e,ex⟩
    ·obtain⟨_,_,_,_,o,_,_,e,ex,_⟩:=I.hok p _ hk;exact⟨o,e,ex⟩
   obtain⟨o,e,ex⟩:=z;refine⟨⟨o,e,ex.1⟩,λa e2=>?_⟩;cases e2;exact⟨o,e,ex.2.1⟩
  ·obtain⟨o,_,_,_,e,ex,_⟩:=I.hok p _ hk;refine⟨⟨o,e,ex.1⟩,λa e2=>?_⟩;cases e2;exact⟨o,e,ex.2.1⟩
 |_=>exact Yu ty
def SK(K:Wm)(T:String)(r:V->List V->Hp->VK->Prop)(to:TE)(t:TA):TE:=λσ H Q=>to σ H λx H1=>Qs K T x H1/\t σ H1 λxs H2=>r x xs H2 Q
variable{o e:Expr}{es:List Expr}{to:TE}{t:TA}{name:Str}{v6 bz:Pos}{T id:String}{r:V->List V->Hp->VK->Prop}
def G3(pa:PlainAttrs T)(slot:Slot T name id)(RY:typeOf (.builtin id)=pure (.type "method_descriptor"))(hm:Qx X id r)(ho:PE X o to)(ha:PA X (e::es) t)
 (ix:Yy o name X.env (eval o X.env)=eval o X.env:=by rfl)
 (qF:((YO bz (Wv (e::es) X.env)).all (λx=>!x.1)&&(aaE bz (Zm [] X.env)).all (λx=>x.1.isSome)
  &&decide ((e::es).length+([]:List Zf).length+(if ([]:List Zf).isEmpty then 0 else 1)<30))=true:=by rfl)
 (iy:(v6.endLine==bz.line)=true:=by rfl) (hs:Wv (e::es) X.env=(false,eval e X.env)::Wv es X.env:=by rfl) (Ay:(YO bz (Wv es X.env)).any (·.1)=false:=by rfl):
 PE X (.Call (.Attribute o name v6) (e::es) [] bz) (SK X.K T r to t):=by
 intro f8 s σ H Q I h;refine wpAny_Call_method_late ix qF iy rfl (cp (ho f8 s σ H _ I h) λv s1 ⟨x,H1,I1,r1,ty,q1⟩=>?_);obtain⟨h1,h2⟩:=NG I1 r1 ty;refine⟨T,id,pa,slot,RY,h1,h2,?_⟩;have hA:=ha bz f8 s1 σ H1 _ I1 q1;rw[hs] at hA⊢;refine Yw (by show (false||(YO bz (Wv es X.env)).any (·.1))=false;rw[Ay]<;>rfl) (Zl ?_);exact cp hA λus s2 ⟨vs,H2,I2,r2,q2⟩=>hm f8 s2 σ H2 x vs v us Q I2 r1 r2 q2
end
def S_(X:Cx)(id:String)(r:V->List V->Hp->VK->Prop):Prop:=
 ∀(f8:List (Addr×Obj)) (s:We) (σ:St) (H:Hp) (x:V) (xs:List V) (v:Value) (us:List Value) (Q:VK),Inv X f8 σ H s->RelV x v->Vals xs us->r x xs H Q->
  wpAny (model X.prog X.w) X.A (call (.builtin id) (v::us)) (EP X f8 σ Q) X.xe s
def Vals.one:∀{x:V}{us:List Value},Vals [x] us->∃u,us=[u]/\RelV x u
 |_,_, .cons r .nil=>⟨_,rfl,r⟩
def Vals.reverse{xs:List V}{us:List Value}(h:Vals xs us):Vals xs.reverse us.reverse:=by
 induction h with
 |nil=>exact .nil
 |cons r t ih=>rw[ZK,ZK];exact Vals.append ih (.cons r .nil)
section
variable{X:Cx}{f8:List (Addr×Obj)}{σ:St}{H:Hp}{s:We}{l:Addr}{xs ys:List V}
def Inv.lset{aL its':List Value}{n:Nat}{f:Array Value->Array Value}{t':Nat}(I:Inv X f8 σ H s)(hH:H l=some (.lst xs))
 (e:s.heap.get? l=some {cls:= .type "list",data:= .seq aL.toArray n})(hf:f aL.toArray=its'.toArray)(hv:Vals ys its')(hz:ys.length<=Ww):
 Inv X f8 σ (upd H l (.lst ys)) {s with heap:=s.heap.update l (WO f),toks:=t'}:=by
 have q:=PySem.IsL.update e f;rw[hf] at q;refine I.write (x:=l) (e:=l) (by rw[hH];exact trivial) (.inl rfl) (λb' u hb hu=>(Zb s.heap (WO f) (Xp hb)).trans hu) ⟨_,q⟩ ?_;exact⟨hz,its',_,hv,q⟩
def Inv.lstM(I:Inv X f8 σ H s)(hH:H l=some (.lst xs)):xs.length<=Ww/\∃(aL:List Value) (n:Nat),Vals xs aL/\xs.length=aL.length/\s.heap.get? l=some {cls:= .type "list",data:= .seq aL.toArray n}:=by
 obtain⟨z,aL,n,r,e⟩:=I.hok l _ hH;exact⟨z,aL,n,r,r.length,e⟩
def GI{n:Nat}(h:n<=Ww):Zt n=false:=by
 unfold Zt;exact ac8 (by omega)
end
section
variable{X:Cx}
def CQ:V->List V->Hp->VK->Prop:=λx vs H Q=>∃l xs y,x= .ref l/\vs=[y]/\H l=some (.lst xs)/\xs.length<Ww/\Q .non (upd H l (.lst (xs++[y])))
def ur:S_ X "list.append" CQ:=by
 intro f8 s σ H x vs v us Q I rx rv h;obtain⟨l,xs,y,rfl,rfl,hH,hz,q⟩:=h;cases rx;obtain⟨u,rfl,ru⟩:=rv.one;obtain⟨z,aL,n,r,hl,e⟩:=I.lstM hH;refine call_meets F.slot_list_append ⟨_,e,rfl⟩ F.entry_list_append (F.args_list_append_2 _ _) (PySem.list_append l aL.toArray n u (by rw[Wk];omega)) ⟨e,?_⟩;refine⟨.non,_,I.lset (its':=aL++[u]) hH e (by simp) (r.append (.cons ru .nil)) ?_,rfl,q⟩;rw[Wq,List.length_singleton];omega
def CS:V->List V->Hp->VK->Prop:=λx vs H Q=>∃l b xs zs,x= .ref l/\vs=[.ref b]/\H l=some (.lst xs)/\H b=some (.lst zs)/\xs.length+zs.length<=Ww/\Q .non (upd H l (.lst (xs++zs)))
def D7:S_ X "list.extend" CS:=by
 intro f8 s σ H x vs v us Q I rx rv h;obtain⟨l,b,xs,zs,rfl,rfl,hH,hB,hz,q⟩:=h;cases rx;obtain⟨u,rfl,ru⟩:=rv.one;cases ru;obtain⟨z,aL,n,r,hl,e⟩:=I.lstM hH;obtain⟨z2,jJ,n2,r2,t8,e2⟩:=I.lstM hB;have hsz:aL.toArray.size+jJ.toArray.size<=Ww:=by rw[Wk,Wk];omega
 have OU:¬(!aL.toArray.isEmpty&&Zt (aL.toArray.size+jJ.toArray.size))=true:=by
  rw[GI hsz,aao];exact Wz
 refine call_meets F.slot_list_extend ⟨_,e,rfl⟩ F.entry_list_extend (F.args_list_extend_2 _ _)
  (AutoSeq1.list_extend_list_list_0 l aL.toArray n b jJ.toArray n2 OU (by rw[Wk];omega) (by omega)) ⟨e,e2,?_⟩
 refine⟨.non,_,I.lset (its':=aL++jJ) hH e (by simp) (r.append r2) ?_,rfl,q⟩;rw[Wq];omega
end
end L2
namespace Att
open PySem PySem.W PySem.Calls PyProof.Rows
def ints_of_wellAll{P:Params}{h:Heap}:∀(ns:List Int) (vs:List Value),WellAll P h vs (ns.map WData.int)->Ys vs ns:=by
 intro ns;induction ns with
 |nil=>
  intro vs w;rw[Yl] at w;cases w;exact .nil
 |cons n ns ih=>
  intro vs w;rw[Wb] at w;cases w with
  |cons a b=>
   cases a;exact .cons _ _ (ih _ b)
def script_of{l:OpenLaw}{n:Nat}(hn:l.most=some n){P:Params}{h:Heap}{args:List WData}{vals:List Value}
 (IZ:l.row.toRowW.claim.pre args=true)(R6:WellAll P h vals args):
 ∃a vs ns,vals=[Wy a]/\args=[WData.list (ns.map WData.int)]/\h.get? a=some {cls:= .type "list",data:= .seq vs.toArray}/\Ys vs ns/\ns.length<=n:=by
 have RW:WShape.hasAll [] args [.list .int]=true:=(pre_splitW IZ).1;have hc:l.pre.holds [] {args:=args}=true:=(pre_splitW IZ).2;obtain⟨d,r,rfl,h1,h2⟩:=hasAllW_cons RW;obtain rfl:=hasAllW_nil h2;obtain⟨xs,rfl,h3⟩:=hasW_list h1;obtain⟨ns,rfl⟩:=items_int h3;have P3:ns.length<=n:=by
  unfold OpenLaw.pre at hc;have h4:(WTm.not (.lt (.lit (.int (n:Int))) (.len (.arg 0)))).holds [] {args:=[.list (ns.map .int)]}=true:=by
   have h4:=(holds_andW hc).1;rw[hn] at h4;exact h4
  have h5:=condW_of h4 (w_not (w_lt w_lit (w_len_list (w_arg rfl))));rw[V5] at h5;refine Nat.le_of_not_lt λq=>?_;have q':(n:Int)<((ns.length:Nat):Int):=by omega
  first
   |(rw [ac7 q'] at h5;exact ac_ h5 (by decide))
   |(simp at h5;omega)
 cases R6 with
 |cons w1 w2=>
  cases w2;cases w1 with
  |list ho Rv=>exact⟨_,_,ns,rfl,rfl,ho,ints_of_wellAll ns _ Rv,P3⟩
def post_true(l:OpenLaw)(args:List WData):l.row.toRowW.claim.post args (.bool true) args=true:=
 postW_of (r:=l.row.toRowW) (X:=(true==true))
  (show WShape.has [] (.bool true) .bool=true by first | rfl | decide | simp[WShape.has,WShape.arms,WShape.armsAll])
  (show (WTm.eq .res (.lit (.bool true))).value [] {args:=args,res:=some (.bool true),after:=args}=some (.bool (true==true)) from w_eq_bool (w_res rfl) w_lit) rfl
def attach_call{l:OpenLaw}{n:Nat}{q:WU}{loose:List Str}{XP:(Str->Option Value)->Heap->Prop}{YP:World->Heap->Prop}{d:DefRec}
 (hn:l.most=some n)(OM:d.params.defaults=[])
 (call:∀(w:World) (adg v4:We) (mg mb:Str->Option Value) (fa:Addr) (o:Obj) (pm cd doc:Value) (a:Addr) (vs:List Value) (ns:List Int),
  Ground q loose [] XP w adg mg mb v4.heap->YP w v4.heap->
  v4.heap.get? fa=some o->o.data= .func (docDef d.name d.params d.body d.scope pm cd doc)->v4.heap.CodeRec cd d.name->mg d.name=some (.ref fa)->
  v4.heap.get? a=some {cls:= .type "list",data:= .seq vs.toArray}->Ys vs ns->ns.length<=n->v4.gens= #[]->
  aae (model l.prog w) abr (.call (.ref fa) ⟨[.ref a],[]⟩) (λr s'=>r= .ok (.ret (.bool true))/\OldK v4.heap s'.heap/\s'.os=v4.os/\aaD s'.gens) v4):
 WalkO q loose XP YP l.row.toRowW d [] (λf vs=>acG f vs):=by
 intro w adg v4 mg mb G Y fa o pm cd doc dV kV ho hd zW hD L1 hg args vals as IZ Vd TV R6 V1;obtain rfl:dV= .none:=Dflts.none hD OM;obtain rfl:kV= .none:=Dflts.noKw hD;obtain⟨a,vs,ns,rfl,rfl,FX,hints,P3⟩:=script_of hn IZ R6;refine enter_call (abC (call w adg v4 mg mb fa o pm cd doc a vs ns G Y ho (fd_plain hd) zW L1 FX hints P3 hg) λr s' hq=>?_);obtain⟨rfl,h2,h3,h4⟩:=hq;exact⟨.inl ⟨.bool true, .bool true,[],rfl,λ_=>rfl, .bool true,post_true l _,λ_=>⟨abx,λ_ hm=>(nomatch hm)⟩⟩,h2,h3,h4⟩
def ledger(h:Heap)(L d:Addr):List (Addr×Obj):=(Wo h.objs.size).filterMap λa=>if a=L\/a=d then none else(h.get? a).map λo=>(a,o)
end Att
namespace L2
open PySem PySem.Spec PyProof.Rows
def u0:∀{vs:List Value}{ns:List Int},Ys vs ns->Vals (ns.map V.int) vs
 |_,_, .nil=> .nil
 |_,_, .cons n t h=> .cons ⟨t,rfl⟩ (u0 h)
def Lo(H:Hp):Prop:=∀b,H b=none\/∃o xs,H b=some (.frz o (.lst xs))
def yo{P:WU}{w:World}{K:Wm}{mg mb:Str->Option Value}{CX:BI}{k:Nat}{fa a:Addr}{fd:Y5}{x:Str}{sp:Sp}{v4:We}{vs:List Value}{ns:List Int}
 (KX:K.In v4.heap)(Io:v4.heap.Ns WD mg)(hb:v4.heap.Ns builtinsNs mb)(UQ:∀x:Str,x≠"__name__"->mb x=WV x)(OT:v4.heap.NoLimit)(hg:v4.gens= #[])
 (ha:v4.heap.get? a=some {cls:= .type "list",data:= .seq vs.toArray})(hi:Ys vs ns)(hl:ns.length<=Ww)(hr:Room k abr)
 (F:∀base:Heap,K.In base->base.Ns WD mg->FnOk P w K mg base CX k fa fd [x] sp)(OJ:∀(s:We) (u:Value),acS s fd ⟨[u],[]⟩ [(x,u)])
 (Ir:∀H:Hp,Lo H->SqL K H a (ns.map V.int)->sp [.ref a] H (λv _=>v= .bl true) λ_ _ _=>False)
 (Rr:∀H e s',CX [] H v4 (λ_ _ _=>False) e s'->False):
 aae (model P w) abr (.call (.ref fa) ⟨[.ref a],[]⟩) (λr s'=>r= .ok (.ret (.bool true))/\OldK v4.heap s'.heap/\s'.os=v4.os/\aaD s'.gens) v4:=by
 have rv:=u0 hi;have Sk:=hi.length;have core:∀H:Hp,Lo H->SqL K H a (ns.map V.int)->HOk P w H v4.heap->(∀b,H b≠none->b=a)->(H a≠none->K.lookup a=none)->
  aae (model P w) abr (.call (.ref fa) ⟨[.ref a],[]⟩) (λr s'=>r= .ok (.ret (.bool true))/\OldK v4.heap s'.heap/\s'.os=v4.os/\aaD s'.gens) v4:=by
  intro H hO hS hok hA hK;have BP:∀{b:Addr}{o:Obj},v4.heap.get? b=some o->H b=none->(vC v4.heap H).get? b=some o:=λe n=>FU e n;have Px:∀{b:Addr}{o:Obj}{es:Array XS}{ep:Nat},v4.heap.get? b=some o->o.data= .dict es ep->H b=none:=λ{b o es ep} e d=>by
   cases q:H b with
   |none=>rfl
   |some u=>
    have e':b=a:=hA b (by rw[q];simp);subst e';rw[ha] at e;cases e;have d':Data.seq vs.toArray _=ZL es ep:=d;cases d'
  have Q0:∀{b:Addr}{m:Str->Option Value},v4.heap.Ns b m->(vC v4.heap H).Ns b m:=λ{b m} ⟨o,es,ep,e,d,r⟩=>⟨o,es,ep,BP e (Px e d),d,r⟩
  have Tv:K.In (vC v4.heap H):=λb o e=>BP (KX b o e) (by
   cases q:H b with
   |none=>rfl
   |some u=>
    have e':b=a:=hA b (by rw[q];simp);subst e';rw[hK (by rw[q];simp)] at e;cases e)
  have hM:Mod K mg (vC v4.heap H):=⟨Tv,Q0 Io,⟨mb,Q0 hb,UQ⟩,let ⟨mc,h1,h2⟩:=OT;⟨mc,Q0 h1,h2⟩⟩
  have e0:Env0 P w K mg (vC v4.heap H) abr [] v4 H:=⟨rfl,hM,λb o e=>Jz e,aa1 (DJ _ _),trivial,λb hb=>ac_ (show b∈([]:List Addr) from hb) (by simp),hok, .of_eq hg⟩
  refine abC ((F _ Tv (Q0 Io)).run abr [] v4 H ⟨[.ref a],[]⟩ [.ref a] [.ref a] _ _ hr e0 (OJ v4 (.ref a)) (.cons rfl .nil) (Ir H hO hS)) λr s' h=>?_;cases r with
  |error e=>exact(Rr H e s' h).elim
  |ok fl=>
   cases fl with
   |next=>exact Yu h
   |brk=>exact Yu h
   |cont=>exact Yu h
   |ret u=>
    obtain⟨v,H',os,bare,un,O2,r',q⟩:=h;have q':v= .bl true:=q;subst q';obtain rfl:u=X7 true:=r';refine⟨rfl,OldK.of_keep λb o e=>?_,os,bare⟩;cases q:H b with
    |none=>exact un.keep b o e q (by intro z;exact ac_ (show b∈([]:List Addr) from z) (by simp)) (by simp)
    |some u=>
     rcases hO b with z | ⟨ob,xs,z⟩
     ·rw[q] at z;cases z
     ·have z2:=un.frzs b ob _ z;obtain⟨e1,_⟩:=hok b _ z;obtain⟨e2,_⟩:=O2 b _ z2;rw[e] at e1;cases e1;exact e2
 cases hk:K.lookup a with
 |some o=>
  have e:=KX a o hk;rw[ha] at e;cases e;refine core (λ_=>none) (λ_=> .inl rfl) (.inr ⟨_,vs.toArray,_,hk,rfl,rfl,rfl,by rw[Wk,Sk];exact hl,by simpa using rv⟩) (λb u z=>by have z':(none:Option HO)=some u:=z;cases z') (λb z=>ac_ rfl z) λz=>ac_ rfl z
 |none=>
  refine core (λb=>if b=a then some (.frz {cls:= .type "list",data:= .seq vs.toArray} (.lst (ns.map V.int))) else none) (λb=>?_) (.inl (.inr ⟨{cls:= .type "list",data:= .seq vs.toArray},ac5 rfl⟩)) (λb u z=>?_) (λb z=>?_) λ_=>hk
  ·by_cases hb:b=a
   ·exact .inr ⟨_,_,ac5 hb⟩
   ·exact .inl (ac6 hb)
  ·by_cases hb:b=a
   ·have z':=(ac5 hb).symm.trans z;cases z';subst hb;exact⟨ha,by rw[V5];exact hl,vs,_,rv,ha⟩
   ·have z':=(ac6 hb).symm.trans z;cases z'
  ·by_cases hb:b=a
   ·exact hb
   ·exact ac_ (ac6 hb) z
abbrev VS{K:Wm}{h:Heap}(_:K.In h):Wm:=K
def Q8{l:acH}{n k:Nat}{q:WU}{loose:List Str}{XP:(Str->Option Value)->Heap->Prop}{YP:World->Heap->Prop}{d:DefRec}{K:Params->Wm}{CX:World->BI}{sp:World->Sp}{x:Str}
 (hn:l.most=some n)(QO:n<=Ww)(OM:d.params.defaults=[])(hr:Room k abr)
 (hY:∀(w:World) (h:Heap),YP w h->(K w.params).In h)
 (F:∀(w:World) (mg:Str->Option Value) (fa:Addr) (h:Heap),(K w.params).In h->h.Ns WD mg->mg d.name=some (.ref fa)->
  ∃fd:Y5,(∀(s:We) (u:Value),acS s fd ⟨[u],[]⟩ [(x,u)])/\
   ∀base:Heap,(K w.params).In base->base.Ns WD mg->FnOk l.prog w (K w.params) mg base (CX w) k fa fd [x] (sp w))
 (Ir:∀(w:World) (H:Hp) (a:Addr) (ns:List Int),ns.length<=n->Lo H->SqL (K w.params) H a (ns.map V.int)->sp w [.ref a] H (λv _=>v= .bl true) λ_ _ _=>False)
 (Rr:∀(w:World) (H:Hp) (s:We) (e:Value) (s':We),CX w [] H s (λ_ _ _=>False) e s'->False):
 PySem.W.WalkO q loose XP YP l.row.toRowW d [] (λf vs=>acG f vs):=by
 refine Att.attach_call hn OM λw adg v4 mg mb fa o pm cd doc a vs ns G Y ho hd zW L1 FX hints P3 hg=>?_;have KX:=hY w _ Y;obtain⟨fd,hb,hF⟩:=F w mg fa _ KX G.T.g L1;exact yo KX G.T.g G.T.b G.T.builtins G.T.nolimit hg FX hints (WX P3 QO) hr hF hb (λH hO hS=>Ir w H a ns P3 hO hS) λH e s'=>Rr w H v4 e s'
abbrev S6:BI:=λ_ _ _ _ _ _=>False
structure Fun (K:Wm) (x qual:Str) (st:Stmt) (f:Addr) (fd:Y5):Prop where
 ex:∃(oc:Value) (od:Option Addr) (kV doc pm:Value) (an:Option Addr) (dz ct:Value) (JJ:Array (Option Value)),
  fd=Yb x qual (fC st) (bo st) (ah st) .none kV doc pm an dz ct/\K.lookup f=some ⟨oc,od, .func fd,JJ⟩/\Y_ K dz qual=true
 kp:Ym K (.ref f)=true
section
variable{P:WU}{w:World}{K:Wm}{mg:Str->Option Value}{base:Heap}
def Fun.ok{x qual:Str}{st:Stmt}{f:Addr}{fd:Y5}{N ps:List Str}{k:Nat}{sp:Sp}(F:Fun K x qual st f fd)(S:FnScope N ps (ah st))(len:∀vs H Q E,sp vs H Q E->vs.length=ps.length)
 (qC:∀(dz:Value) (A:Xf) (outer:List Env) (s:We) (H:Hp) (vs:List V) (Q:VK) (E:XK),Room k (A.deeper (YF qual (ah st) s.heap.objs.size f dz))->sp vs H Q E->
  ∃t,PSs (eS S6 P w K mg base N qual (ah st) f dz A outer s H E).nox (bo st) t/\t {nx:=λ_ H'=>Q .non H',rt:=Q} (start N vs) H):FnOk P w K mg base S6 (k+1) f fd ps sp:=by
 obtain⟨oc,od,kV,doc,pm,an,dz,ct,JJ,rfl,lk,zW⟩:=F.ex;refine KU lk zW S len λA outer s H vs Q E hr Ir=>?_;obtain⟨t,h,q⟩:=qC dz A outer s H vs Q E hr Ir;exact⟨t,h.nox,q⟩
def Fun.binds{x qual:Str}{st:Stmt}{f:Addr}{fd:Y5}{ps:List Str}(F:Fun K x qual st f fd)
 (h:∀(kV doc pm:Value) (an:Option Addr) (dz ct:Value) (us:List Value),us.length=ps.length->bindArgs (Yb x qual (fC st) (bo st) (ah st) .none kV doc pm an dz ct) ⟨us,[]⟩=pure (ps.zip us)):Binds K fd ps []:=by
 obtain⟨oc,od,kV,doc,pm,an,dz,ct,JJ,rfl,lk,zW⟩:=F.ex;exact .all (h kV doc pm an dz ct)
def FD{x qual:Str}{st:Stmt}{f:Addr}{oc:Value}{od an:Option Addr}{JJ:Array (Option Value)}{kV doc pm dz ct:Value}(l:K.lookup f=some ⟨oc,od, .func (Yb x qual (fC st) (bo st) (ah st) .none kV doc pm an dz ct),JJ⟩)
 (c:Y_ K dz qual=true)(k:Ym K (.ref f)=true):Fun K x qual st f (Yb x qual (fC st) (bo st) (ah st) .none kV doc pm an dz ct):=⟨⟨oc,od,kV,doc,pm,an,dz,ct,JJ,rfl,l,c⟩,k⟩
end
section
variable{X:Cx}
def pv(i:Nat){x:Str}{pos:Pos}(hN:X.N[i]? =some x:=by rfl)(hv:QB X.env.scope x:=by first | exact Or.inl rfl | exact Or.inr (Or.inl rfl) | exact Or.inr (Or.inr rfl))(hd:(x==("__debug__":Str))=false:=by decide)
 (zW:(x==("__classdict__":Str))=false:=by decide):PE X (.Name x pos) (sv i):=M7 hN hv hd zW
end
def Same(H H':Hp):Prop:=∀b o,H b=some o->H' b=some o
def Same.refl(H:Hp):Same H H:=λ_ _ h=>h
def Same.trans{H H1 H2:Hp}(a:Same H H1)(b:Same H1 H2):Same H H2:=λc o h=>b c o (a c o h)
def Same.free{H H':Hp}(e:Same H H'){l:Addr}(h:H' l=Option.none):H l=Option.none:=by
 cases q:H l with
 |none=>rfl
 |some o=>
  rw[e l o q] at h;cases h
def Same.seq{K:Wm}{H H':Hp}{a:Addr}{xs:List V}(e:Same H H')(h:SqL K H a xs):SqL K H' a xs:=by
 rcases h with(h | ⟨o,h⟩) | h
 ·exact .inl (.inl (e _ _ h))
 ·exact .inl (.inr ⟨o,e _ _ h⟩)
 ·exact .inr h
section
variable{κ:Type}[DecidableEq κ]
def m8(aB:List (κ×V))(k:κ):Option V:=(aB.find? λkv=>decide (kv.1=k)).map (·.2)
def putK(aB:List (κ×V))(k:κ)(v:V):List (κ×V):=
 if (aB.any λkv=>decide (kv.1=k))=true then aB.map (λkv=>if kv.1=k then(kv.1,v) else kv) else aB++[(k,v)]
def KQ(aB:List (κ×V))(k:κ):List (κ×V):=aB.filter λkv=>decide (kv.1≠k)
def m_{p:κ×V}{r:List (κ×V)}{k:κ}(e:p.1=k):m8 (p::r) k=some p.2:=by simp[m8,Y4,e]
def m9{p:κ×V}{r:List (κ×V)}{k:κ}(e:¬p.1=k):m8 (p::r) k=m8 r k:=by simp[m8,Y4,e]
def sA(k:κ):∀aB:List (κ×V),(aB.any λkv=>decide (kv.1=k))=(m8 aB k).isSome
 |[]=>rfl
 |p::r=>by
  rw[Yp];by_cases e:p.1=k
  ·simp only[m_ e,ac7 e,Bool.true_or,Option.isSome_some]
  ·rw[m9 e,ac8 e,Bool.false_or];exact sA k r
def fK(aB:List (κ×V))(k:κ)(v:V):(putK aB k v).length<=aB.length+1:=by
 unfold putK;split
 ·rw[V5];omega
 ·rw[Wq,Wf,XC];omega
def RelO.isSome_eq{o:Option V}{u:Option Value}(r:RelO o u):o.isSome=u.isSome:=by
 cases o with
 |none=>cases u with
  |none=>rfl
  |some _=>exact(show False from r).elim
 |some _=>cases u with
  |none=>exact(show False from r).elim
  |some _=>rfl
def RelO.getD{o:Option V}{u:Option Value}{d:V}{d':Value}(r:RelO o u)(rd:RelV d d'):RelV (o.getD d) (u.getD d'):=by
 cases o with
 |none=>cases u with
  |none=>exact rd
  |some _=>exact(show False from r).elim
 |some _=>cases u with
  |none=>exact(show False from r).elim
  |some _=>exact r
def KV.val{aB:List (κ×V)}{vs:List (κ×Value)}(r:KV aB vs)(k:κ):RelO (m8 aB k) (ab2 vs k):=by
 unfold KV at r;induction r with
 |nil=>exact Yv
 | @cons p q ps qs h t ih=>
   obtain⟨h1,h2⟩:=h;by_cases e:p.1=k
   ·have e':q.1=k:=h1.symm.trans e;have b:ab2 (q::qs) k=some q.2:=by simp[ab2,Y4,e']
    rw[m_ e,b];exact h2
   ·have e':¬q.1=k:=λz=>e (h1.trans z);have b:ab2 (q::qs) k=ab2 qs k:=by simp[ab2,Y4,e']
    rw[m9 e,b];exact ih
def KV.any{aB:List (κ×V)}{vs:List (κ×Value)}(r:KV aB vs)(k:κ):(aB.any λkv=>decide (kv.1=k))=vs.any λkv=>decide (kv.1=k):=by
 unfold KV at r;induction r with
 |nil=>rfl
 |cons h t ih=>rw[Yp,Yp,ih,h.1]
def KV.repl{aB:List (κ×V)}{vs:List (κ×Value)}(r:KV aB vs)(k:κ){y:V}{u:Value}(ry:RelV y u):
 KV (aB.map λkv=>if kv.1=k then(kv.1,y) else kv) (vs.map λkv=>if kv.1=k then(kv.1,u) else kv):=by
 unfold KV at r⊢;induction r with
 |nil=>exact .nil
 | @cons p q ps qs h t ih=>
   rw[Wb,Wb];refine .cons ?_ ih;obtain⟨h1,h2⟩:=h;by_cases e:p.1=k
   ·rw[ac5 e,ac5 (h1.symm.trans e)];exact⟨h1,ry⟩
   ·rw[ac6 e,ac6 (λz=>e (h1.trans z))];exact⟨h1,h2⟩
def KV.put{aB:List (κ×V)}{vs:List (κ×Value)}(r:KV aB vs)(k:κ){y:V}{u:Value}(ry:RelV y u):KV (putK aB k y) (stored vs k u):=by
 unfold putK stored;rw[r.any k];by_cases e:(vs.any λkv=>decide (kv.1=k))=true
 ·rw[ac5 e,ac5 e];exact r.repl k ry
 ·rw[ac6 e,ac6 e];exact Paired.snoc r ⟨rfl,ry⟩
def KV.drop{aB:List (κ×V)}{vs:List (κ×Value)}(r:KV aB vs)(k:κ):KV (KQ aB k) (without vs k):=by
 unfold KV at r⊢;unfold KQ without;induction r with
 |nil=>exact .nil
 | @cons p q ps qs h t ih=>
   obtain⟨h1,h2⟩:=h;rw[X3,X3];by_cases e:p.1=k
   ·have a:¬decide (p.1≠k)=true:=by simp[e]
    have b:¬decide (q.1≠k)=true:=by simp[h1.symm.trans e]
    rw[ac6 a,ac6 b];exact ih
   ·have e':¬q.1=k:=λz=>e (h1.trans z);have a:decide (p.1≠k)=true:=by simp[e]
    have b:decide (q.1≠k)=true:=by simp[e']
    rw[ac5 a,ac5 b];exact .cons ⟨h1,h2⟩ ih
def KV.length{aB:List (κ×V)}{vs:List (κ×Value)}(r:KV aB vs):aB.length=vs.length:=Yd r
end
def oJ{P:WU}{w:World}{k:Key}{u:Value}(r:RelV (kV k) u):(bD P w).is k u=true:=by
 cases k with
 |inl i=>obtain⟨t,e⟩:=(show∃t,u=ab7 i t from r);subst e;exact yt P w i t
 |inr x=>obtain⟨t,e⟩:=(show∃t,u=ab6 x t from r);subst e;exact yu P w x t
def Mm{a b:Key}(e:kV a=kV b):a=b:=by
 cases a with
 |inl i=>cases b with
  |inl j=>have e':V.int i=V.int j:=e;injection e' with e';rw[e']
  |inr y=>exact nomatch (show V.int i=V.str y from e)
 |inr x=>cases b with
  |inl j=>exact nomatch (show V.str x=V.int j from e)
  |inr y=>have e':V.str x=V.str y:=e;injection e' with e';rw[e']
def Ck:∀{a b:List Key},a.map kV=b.map kV->a=b
 |[],[],_=>rfl
 |[],_::_,e=>by simp at e
 |_::_,[],e=>by simp at e
 |x::xs,y::ys,e=>by
  rw[Wb,Wb] at e;injection e with e1 e2
  rw[Mm e1,Ck e2]
def ue{P:WU}{w:World}:∀{ks:List Key}{us:List Value},Vals (ks.map kV) us->ItemsAre (bD P w) ks us
 |[],_,r=>by rw[Yl] at r;cases r;exact .nil
 |k::ks,_,r=>by
  rw[Wb] at r;cases r with
  |cons h t=>exact .cons (oJ h) (ue t)
abbrev KT(H:Hp):List (List Key×V)->List (List Key×Addr×Value)->Prop:=aba λp q=>p.1=q.1/\H q.2.1=some (.tup (p.1.map kV))/\RelV p.2 q.2.2
def KT.val{H:Hp}{aB:List (List Key×V)}{xs:List (List Key×Addr×Value)}(r:KT H aB xs)(k:List Key):RelO (m8 aB k) ((atKey xs k).map (·.2)):=by
 induction r with
 |nil=>exact Yv
 | @cons p q ps qs h t ih=>
   obtain⟨h1,_,h2⟩:=h;by_cases e:p.1=k
   ·have e':q.1=k:=h1.symm.trans e;have b:atKey (q::qs) k=some q.2:=by simp[atKey,Y4,e']
    rw[m_ e,b];exact h2
   ·have e':¬q.1=k:=λz=>e (h1.trans z);have b:atKey (q::qs) k=atKey qs k:=by simp[atKey,Y4,e']
    rw[m9 e,b];exact ih
def KT.repl{H:Hp}{aB:List (List Key×V)}{xs:List (List Key×Addr×Value)}(r:KT H aB xs)(k:List Key){y:V}{u:Value}(ry:RelV y u):
 KT H (aB.map λkv=>if kv.1=k then(kv.1,y) else kv) (xs.map (putAt k u)):=by
 induction r with
 |nil=>exact .nil
 | @cons p q ps qs h t ih=>
   rw[Wb,Wb];refine .cons ?_ ih;obtain⟨h1,h2,h3⟩:=h;unfold putAt;by_cases e:p.1=k
   ·rw[ac5 e,ac5 (h1.symm.trans e)];exact⟨h1,h2,ry⟩
   ·rw[ac6 e,ac6 (λz=>e (h1.trans z))];exact⟨h1,h2,h3⟩
def KT.put{H:Hp}{aB:List (List Key×V)}{xs:List (List Key×Addr×Value)}(r:KT H aB xs)(k:List Key){b:Addr}{y:V}{u:Value}(hb:H b=some (.tup (k.map kV)))(ry:RelV y u):
 KT H (putK aB k y) (aad xs k b u):=by
 have e:(aB.any λkv=>decide (kv.1=k))=(atKey xs k).isSome:=by
  rw[sA,(r.val k).isSome_eq,aaG]
 unfold putK aad;rw[e];by_cases q:(atKey xs k).isSome=true
 ·rw[ac5 q,ac5 q];exact r.repl k ry
 ·rw[ac6 q,ac6 q];exact Paired.snoc r ⟨rfl,hb,ry⟩
def KT.keeps{H H':Hp}{aB:List (List Key×V)}{xs:List (List Key×Addr×Value)}(r:KT H aB xs)(ht:∀b ys,H b=some (.tup ys)->H' b=some (.tup ys)):KT H' aB xs:=
 Paired.mapP r λ_ _ z=>⟨z.1,ht _ _ z.2.1,z.2.2⟩
section
variable{P:WU}{w:World}{H:Hp}{h:Heap}{a:Addr}
def Li{u:HO}(ok:HOk P w H h)(e:Rd H a u):ObjOk P w H h a u:=e.ok ok
def oG{aB:List (Key×V)}(ok:HOk P w H h)(e:Rd H a (.dK aB)):aB.length<=Ww/\(a==XM)=false/\∃vs,KV aB vs/\h.DictOf (bD P w) a vs:=
 show ObjOk P w H h a (.dK aB) from Li ok e
def KP{aB:List (Key×V)}(ok:HOk P w H h)(e:H a=some (.dK aB)):aB.length<=Ww/\(a==XM)=false/\∃vs,KV aB vs/\h.DictOf (bD P w) a vs:=oG ok (.inl e)
def jL{ks:List Key}(ok:HOk P w H h)(e:H a=some (.tup (ks.map kV))):(YE (bD P w)).is h ks a:=by
 obtain⟨_,aL,r,o,h1,h2,n,h3⟩:=(show ObjOk P w H h a (.tup (ks.map kV)) from ok a _ e)
 exact⟨o,aL.toArray,n,h1,h2,h3,by simpa using ue r⟩
def l7{aB:List (List Key×V)}(ok:HOk P w H h)(e:Rd H a (.dT aB)):aB.length<=Ww/\(a==XM)=false/\
 ∃xs,KT H aB xs/\h.DictOfH (YE (bD P w)) a xs:=by
 obtain⟨z,y,xs,r,o,es,ep,h1,h2,h3,h4,h5⟩:=(show ObjOk P w H h a (.dT aB) from Li ok e)
 refine⟨z,y,xs,r,o,es,ep,h1,h2,h3,h4,λx hx=>?_,h5⟩;have all:∀{l:List (List Key×V)}{m:List (List Key×Addr×Value)},KT H l m->∀x∈m,(YE (bD P w)).is h x.1 x.2.1:=by
  intro l m q;induction q with
  |nil=>intro x hx;exact nomatch hx
  | @cons p q ps qs hq t ih=>
    intro x hx;rcases Ws.mp hx with e | hx
    ·subst e;exact jL ok (by rw[<-hq.1];exact hq.2.1)
    ·exact ih x hx
 exact all r x hx
def Fp{aB:List (List Key×V)}(ok:HOk P w H h)(e:H a=some (.dT aB)):aB.length<=Ww/\(a==XM)=false/\
 ∃xs,KT H aB xs/\h.DictOfH (YE (bD P w)) a xs:=l7 ok (.inl e)
end
def lq(H:Hp)(a:Addr)(y:V)(r:Option V):Prop:=
 (∃aB k,Rd H a (.dK aB)/\y=kV k/\r=m8 aB k)\/∃aB k b,Rd H a (.dT aB)/\y= .ref b/\H b=some (.tup (k.map kV))/\r=m8 aB k
def DPut(H:Hp)(a:Addr)(y v:V)(H':Hp):Prop:=
 (∃aB k,H a=some (.dK aB)/\y=kV k/\aB.length<Ww/\H'=upd H a (.dK (putK aB k v)))\/
 ∃aB k b,H a=some (.dT aB)/\y= .ref b/\H b=some (.tup (k.map kV))/\aB.length<Ww/\H'=upd H a (.dT (putK aB k v))
def DPut.k{H:Hp}{a:Addr}{aB:List (Key×V)}{k:Key}{v:V}(e:H a=some (.dK aB))(hl:aB.length<Ww):DPut H a (kV k) v (upd H a (.dK (putK aB k v))):= .inl ⟨aB,k,e,rfl,hl,rfl⟩
def DPut.t{H:Hp}{a b:Addr}{aB:List (List Key×V)}{k:List Key}{v:V}(e:H a=some (.dT aB))(eb:H b=some (.tup (k.map kV)))(hl:aB.length<Ww):
 DPut H a (.ref b) v (upd H a (.dT (putK aB k v))):= .inr ⟨aB,k,b,e,rfl,eb,hl,rfl⟩
section
variable{X:Cx}{f8:List (Addr×Obj)}{σ:St}{H:Hp}{s:We}{a:Addr}{y v:V}{u r:Value}{o:Option V}{A:Xf}{E:Value->We->Prop}
def Inv.big(I:Inv X f8 σ H s):XM<s.heap.objs.size:=by
 have h:WD<s.heap.objs.size:=(I.mod.glob.keeps I.bk).lt;exact Yn (by decide) h
def Dz{Q:Value->We->Prop}(hu:A.units+1<cLine)(I:Inv X f8 σ H s)(g:lq H a y (some v))(ry:RelV y u)(h:∀w' s',Inv X f8 σ H s'->RelV v w'->Q w' s'):
 wpAny (model X.prog X.w) A (aaU (.ref a) u) Q E s:=by
 rcases g with⟨aB,k,e,ey,l⟩ | ⟨aB,k,b,e,ey,eb,l⟩
 ·subst ey;obtain⟨z,hd,vs,rel,dd⟩:=oG I.hok e;obtain⟨w',hw,zY⟩:=RelO.some_of (v:=v) (o:=ab2 vs k) (by rw[l];exact rel.val k);exact wpAny_getItem_of (oJ ry) dd.mapOf hw (h w' _ (I.tok _) zY)
 ·subst ey;cases (show u=Wy b from ry);obtain⟨z,hd,xs,rel,dd⟩:=l7 I.hok e;obtain⟨w',hw,zY⟩:=RelO.some_of (v:=v) (o:=(atKey xs k).map (·.2)) (by rw[l];exact rel.val k);obtain⟨p,hp,O4⟩:=Option.map_eq_some_iff.mp hw;refine wpAny_getItem_heap (YJ hu) (jL I.hok eb) dd hp ?_;rw[O4];exact h w' _ (I.tok _) zY
def Oi{Q:Value->We->Prop}(hu:A.units+1<cLine)(I:Inv X f8 σ H s)(g:lq H a y o)(ry:RelV y u)(h:∀s',Inv X f8 σ H s'->Q (.bool o.isSome) s'):
 wpAny (model X.prog X.w) A (Xd .In u (.ref a)) Q E s:=by
 rcases g with⟨aB,k,e,ey,l⟩ | ⟨aB,k,b,e,ey,eb,l⟩
 ·subst ey;obtain⟨z,hd,vs,rel,dd⟩:=oG I.hok e;refine wpAny_in_of (oJ ry) hd dd.mapOf ?_;rw[<-(rel.val k).isSome_eq,<-l];exact h _ (I.tok _)
 ·subst ey;cases (show u=Wy b from ry);obtain⟨z,hd,xs,rel,dd⟩:=l7 I.hok e;refine wpAny_in_heap (YJ hu) (jL I.hok eb) hd dd ?_;have q:=(rel.val k).isSome_eq;rw[aaG] at q;rw[<-q,<-l];exact h _ (I.tok _)
def II{Q:Value->We->Prop}(hu:A.units+1<cLine)(I:Inv X f8 σ H s)(g:lq H a y o)(ry:RelV y u)(h:∀s',Inv X f8 σ H s'->Q (.bool (!o.isSome)) s'):
 wpAny (model X.prog X.w) A (Xd .NotIn u (.ref a)) Q E s:=by
 rcases g with⟨aB,k,e,ey,l⟩ | ⟨aB,k,b,e,ey,eb,l⟩
 ·subst ey;obtain⟨z,hd,vs,rel,dd⟩:=oG I.hok e;refine wpAny_notIn_of (oJ ry) hd dd.mapOf ?_;rw[<-(rel.val k).isSome_eq,<-l];exact h _ (I.tok _)
 ·subst ey;cases (show u=Wy b from ry);obtain⟨z,hd,xs,rel,dd⟩:=l7 I.hok e;refine wpAny_notIn_heap (YJ hu) (jL I.hok eb) hd dd ?_;have q:=(rel.val k).isSome_eq;rw[aaG] at q;rw[<-q,<-l];exact h _ (I.tok _)
def l6{h':Heap}{t':Nat}{ob:HO}(I:Inv X f8 σ H s)(mu:N8 (H a))(hs:XB a s.heap h')(he:∃q,h'.get? a=some q)(new:ObjOk X.prog X.w (upd H a ob) h' a ob):
 Inv X f8 σ (upd H a ob) {s with heap:=h',toks:=t'}:=
 I.write (x:=a) (e:=a) mu (.inl rfl) (λb q hb z=>(hs.2 b hb).trans z) he new
def Fo{P:WU}{w:World}{H':Hp}{h':Heap}{aB:List (Key×V)}{vs:List (Key×Value)}(z:aB.length<=Ww)(hd:(a==XM)=false)(rel:KV aB vs)(dd:h'.DictOf (bD P w) a vs):
 ObjOk P w H' h' a (.dK aB):=⟨z,hd,vs,rel,dd⟩
def DB{H':Hp}{Q:Unit->We->Prop}(hu:A.units+1<cLine)(I:Inv X f8 σ H s)(g:DPut H a y v H')(ry:RelV y u)(rv:RelV v r)(h:∀s',Inv X f8 σ H' s'->Q () s'):
 wpAny (model X.prog X.w) A (setItem (.ref a) u r) Q E s:=by
 rcases g with⟨aB,k,e,ey,l,eH⟩ | ⟨aB,k,b,e,ey,eb,l,eH⟩
 ·subst ey eH;obtain⟨z,hd,vs,rel,dd⟩:=KP I.hok e;have hz:vs.length<=Ww:=by rw[<-rel.length];exact z
  have hl:(putK aB k v).length<=Ww:=by have:=fK aB k v;omega
  refine wpAny_setItem_pairs (hsz:=hz) (oJ ry) dd λh' Fi hs=>h _ ?_;have he:∃q,h'.get? a=some q:=let ⟨q,_,_,hq,_⟩:=Fi;⟨q,hq⟩
  exact l6 I (by rw[e];exact Yv) hs he (Fo hl hd (rel.put k rv) Fi)
 ·subst ey eH;cases (show u=Wy b from ry);obtain⟨z,hd,xs,rel,dd⟩:=Fp I.hok e;have hz:xs.length<=Ww:=by rw[<-Yd rel];exact z
  have hl:(putK aB k v).length<=Ww:=by have:=fK aB k v;omega
  refine wpAny_setItem_heap (hsz:=hz) (YJ hu) (jL I.hok eb) dd λh' Fi hs=>h _ ?_;obtain⟨q,es,ep,hq,h2,h3,h4,_,h5⟩:=Fi;refine l6 I (by rw[e];exact Yv) hs ⟨q,hq⟩ ⟨hl,hd,_,(rel.put k eb rv).keeps λc ys ec=>?_,q,es,ep,hq,h2,h3,h4,h5⟩;rw[aA (Gz ec e (λz=>nomatch z))];exact ec
end
def Lm(i:Expr):Prop:=∀ov iv,subscripted i false ov iv=operate [ov,iv] (aaU ov iv)
def Ko{prog:WU}{w:World}{A:Xf}{E:Value->We->Prop}{s:We}{env:Env}{value slice:Expr}{pos:Pos}{T id:String}{Q:Value->We->Prop}
 (hl:abp (.type T) "__getitem__"=pure (some (.builtin id)))(hs:Lm slice)
 (h:wpAny (model prog w) A (eval value env) (λo v4=>wpAny (model prog w) A (eval slice env) (λi t0=>t0.TypeIs o T/\wpAny (model prog w) A (aaU o i) Q E t0) E v4) E s):
 wpAny (model prog w) A (eval (.Subscript value slice pos) env) Q E s:=by
 refine Subscript_ (Xz h (λo v4 h₁=>Xz h₁ (λi t0 h₂=>?_) λ_ _ x=>x) λ_ _ x=>x);obtain⟨hT,h₂⟩:=h₂;unfold acC;refine V4 ?_;rw[getitemInPython_of_ne hT.not_modules];refine V4 (Ze hT hl ?_);have fin:wpAny (model prog w) A (subscripted slice false o i) (λr s₃=>wpAny (model prog w) A (letTemporaryGo value o r>>=λ_=>pure r) Q E s₃) E t0:=by
  rw[hs o i];exact wpAny_operating (Xz h₂ (λr s₃ h₃=>V4 (wpAny_letTemporaryGo (V9 h₃))) λ_ _ x=>x)
 first
  |exact V9 (V4 fin)
  |exact V4 (V9 (V4 fin))
  |exact V4 fin
def xK{X:Cx}{f8:List (Addr×Obj)}{σ:St}{H:Hp}{s:We}{a:Addr}{y:V}{o:Option V}(I:Inv X f8 σ H s)(g:lq H a y o):s.TypeIs (.ref a) "dict":=by
 rcases g with⟨aB,k,e,_,_⟩ | ⟨aB,k,b,e,_,_,_⟩
 ·obtain⟨_,_,vs,_,dd⟩:=oG I.hok e;exact dd.typeIs
 ·obtain⟨_,_,xs,_,dd⟩:=l7 I.hok e;exact dd.typeIs
def Qo(td ty:TE):TE:=λσ H Q=>td σ H λx H1=>ty σ H1 λy H2=>∃a v,x= .ref a/\lq H2 a y (some v)/\Q v H2
def SN(ty td:TE):TE:=λσ H Q=>ty σ H λy H1=>td σ H1 λx H2=>∃a o,x= .ref a/\lq H2 a y o/\Q (.bl o.isSome) H2
def Qj(td ty tv:TE):TS:=λD σ H=>tv σ H λv H1=>td σ H1 λx H2=>ty σ H2 λy H3=>∃a H4,x= .ref a/\DPut H3 a y v H4/\D.nx σ H4
section
variable{X:Cx}{o i value:Expr}{pos pos':Pos}{td ty tv:TE}
def JY(hu:X.A.units+1<cLine)(ho:PE X o td)(hi:PE X i ty)(hs:Lm i):PE X (.Subscript o i pos) (Qo td ty):=by
 intro f8 s σ H Q I h;refine Ko PySem.F.slot_dict_getitem.lookup hs (cp (ho f8 s σ H _ I h) λu s1 ⟨x,H1,I1,rx,q1⟩=>cp (hi f8 s1 σ H1 _ I1 q1) λiv s2 ⟨y,H2,I2,ry,a,v,ex,g,q2⟩=>?_);subst ex;obtain rfl:u=Wy a:=rx;exact⟨xK I2 g,Dz hu I2 g ry λw' s3 I3 zY=>⟨v,H2,I3,zY,q2⟩⟩
def MM(hu:X.A.units+1<cLine)(hi:PE X i ty)(ho:PE X o td):PC X .In i o (SN ty td):=by
 intro f8 s σ H Q I h;refine cp (hi f8 s σ H _ I h) λiv s1 ⟨y,H1,I1,ry,q1⟩=>cp (ho f8 s1 σ H1 _ I1 q1) λu s2 ⟨x,H2,I2,rx,a,ov,ex,g,q2⟩=>?_;subst ex;obtain rfl:u=Wy a:=rx;exact Oi hu I2 g ry λs3 I3=>⟨.bl ov.isSome,H2,I3,rfl,q2⟩
def J4(hu:X.A.units+1<cLine)(ho:PE X o td)(hi:PE X i ty)(hv:PE X value tv)(hs:Z2 value (some (.Subscript o i pos')) pos.line X.env=pure false):
 PS X (.Assign [.Subscript o i pos'] value pos) (Qj td ty tv):=by
 intro f8 s σ H D I h;refine wpAny_Assign_Subscript (cp (hv f8 s σ H _ I h) λr s1 ⟨v,H1,I1,rv,q1⟩=>cp (ho f8 s1 σ H1 _ I1 q1) λu s2 ⟨x,H2,I2,rx,q2⟩=>cp (hi f8 s2 σ H2 _ I2 q2) λiv s3 ⟨y,H3,I3,ry,a,H4,ex,g,q3⟩=>?_) hs;subst ex;obtain rfl:u=Wy a:=rx;exact DB hu I3 g ry rv λs4 I4=>⟨σ,H4,I4,q3⟩
end
def Fm{P:WU}{w:World}{H:Hp}(h:Heap)(hb:XM<h.objs.size):ObjOk P w H (h.push {cls:= .type "dict",data:= .dict #[]}) h.objs.size (.dK []):=
 ⟨WQ _,adb.mpr (Xp (WB hb)),[], .nil,Heap.DictOf.new h⟩
def xO{P:WU}{w:World}{H:Hp}(h:Heap)(hb:XM<h.objs.size):ObjOk P w H (h.push {cls:= .type "dict",data:= .dict #[]}) h.objs.size (.dT []):=
 ⟨WQ _,adb.mpr (Xp (WB hb)),[], .nil,_,#[],0,Wr _ rfl,⟨rfl,rfl,rfl⟩,rfl,rfl,Yj⟩
def NB:TE:=λ_ H Q=>∀p,H p=none->Q (.ref p) (upd H p (.dT []))
section
variable{X:Cx}{pos:Pos}
def G8:PE X (.Dict [] [] pos) NB:=λf8 s σ H Q I h=>
 wpAny_Dict_empty ⟨.ref s.heap.objs.size,_,I.laid (a:=s.heap.objs.size) (o:= .dT []) (t':=s.toks) (λ_ _ q=>V7 _ q) (Wg _) (xO s.heap I.big),rfl,h _ (I.hok.fresh (Wg _))⟩
end
def HW:List (TE×TE)->St->Hp->(List (V×V)->Hp->Prop)->Prop
 |[],_,H,Q=>Q [] H
 |(tk,tv)::r,σ,H,Q=>tk σ H λx H1=>tv σ H1 λy H2=>HW r σ H2 λps H3=>Q ((x,y)::ps) H3
abbrev VV:List (V×V)->List (Value×Value)->Prop:=aba λp q=>RelV p.1 q.1/\RelV p.2 q.2
def Rc(X:Cx)(pos:Pos)(keys:List (Option Expr))(values:List Expr)(Q6:List (TE×TE)):Prop:=
 ∀(f8:List (Addr×Obj)) (s:We) (σ:St) (H:Hp) (Q:List (V×V)->Hp->Prop),Inv X f8 σ H s->HW Q6 σ H Q->
  wpAny (model X.prog X.w) X.A (evalPairs (pairTrees keys values X.env pos)) (λvs s'=>∃ps H',Inv X f8 σ H' s'/\VV ps vs/\Q ps H') X.xe s
def J2{X:Cx}{pos:Pos}:Rc X pos [] [] []:=λf8 s σ H Q I h=>pairTrees_nil_walk ⟨[],H,I, .nil,h⟩
def Ha{X:Cx}{pos:Pos}{k v:Expr}{ks:List (Option Expr)}{vs:List Expr}{tk tv:TE}{Q6:List (TE×TE)}(hk:PE X k tk)(hv:PE X v tv)(hr:Rc X pos ks vs Q6):
 Rc X pos (some k::ks) (v::vs) ((tk,tv)::Q6):=λf8 s σ H Q I h=>
 pairTrees_cons_walk (cp (hk f8 s σ H _ I h) λu s1 ⟨x,H1,I1,rx,q1⟩=>cp (hv f8 s1 σ H1 _ I1 q1) λw2 s2 ⟨y,H2,I2,ry,q2⟩=>
  cp (hr f8 s2 σ H2 _ I2 q2) λws s3 ⟨ps,H3,I3,rel,q3⟩=>⟨(x,y)::ps,H3,I3, .cons ⟨rx,ry⟩ rel,q3⟩)
structure M1 (X:Cx) (o:Expr) (m:Str) (v6:Pos) (e:Expr) (bz:Pos):Prop where
 base:Yy o m X.env (eval o X.env)=eval o X.env
 few:((YO bz (Wv [e] X.env)).all (λx=>!x.1)&&(aaE bz (Zm [] X.env)).all (λx=>x.1.isSome)
  &&decide (([e]:List Expr).length+([]:List Zf).length+(if ([]:List Zf).isEmpty then 0 else 1)<30))=true
 line:(v6.endLine==bz.line)=true
 trees:YO bz (Wv [e] X.env)=[(false,eval e X.env)]
structure M2 (X:Cx) (o:Expr) (m:Str) (v6:Pos) (e f:Expr) (bz:Pos):Prop where
 base:Yy o m X.env (eval o X.env)=eval o X.env
 few:((YO bz (Wv [e,f] X.env)).all (λx=>!x.1)&&(aaE bz (Zm [] X.env)).all (λx=>x.1.isSome)
  &&decide (([e,f]:List Expr).length+([]:List Zf).length+(if ([]:List Zf).isEmpty then 0 else 1)<30))=true
 line:(v6.endLine==bz.line)=true
 trees:YO bz (Wv [e,f] X.env)=[(false,eval e X.env),(false,eval f X.env)]
def N4(H:Hp)(a:Addr):Prop:=(∃aB,Rd H a (.dK aB))\/∃aB,Rd H a (.dT aB)
def Az{X:Cx}{f8:List (Addr×Obj)}{σ:St}{H:Hp}{s:We}{a:Addr}(I:Inv X f8 σ H s)(d:N4 H a):
 s.TypeIs (.ref a) "dict"/\(∀b,Wy a= .ref b->∃ob,s.heap.get? b=some ob/\ob.dict=none)/\(a==XM)=false:=by
 rcases d with⟨aB,e⟩ | ⟨aB,e⟩
 ·obtain⟨_,hd,vs,_,dd⟩:=oG I.hok e;refine⟨dd.typeIs,λb q=>?_,hd⟩;cases q;obtain⟨ob,_,_,h1,h2,_⟩:=dd;exact⟨ob,h1,h2.2.1⟩
 ·obtain⟨_,hd,xs,_,dd⟩:=l7 I.hok e;refine⟨dd.typeIs,λb q=>?_,hd⟩;cases q;obtain⟨ob,_,_,h1,h2,_⟩:=dd;exact⟨ob,h1,h2.2.1⟩
section
variable{X:Cx}{f8:List (Addr×Obj)}{σ:St}{H:Hp}{s:We}{a:Addr}{y d:V}{u r:Value}{o:Option V}{A:Xf}{E:Value->We->Prop}
def LC{Q:Value->We->Prop}(hu:A.units+1<cLine)(I:Inv X f8 σ H s)(g:lq H a y o)(ry:RelV y u)(h:∀w' s',Inv X f8 σ H s'->RelV (o.getD .non) w'->Q w' s'):
 wpAny (model X.prog X.w) A (call (.builtin "dict.get") [.ref a,u]) Q E s:=by
 rcases g with⟨aB,k,e,ey,l⟩ | ⟨aB,k,b,e,ey,eb,l⟩
 ·subst ey;obtain⟨z,hd,vs,rel,dd⟩:=oG I.hok e;refine abD Yc dd.typeIs Y1 (abv _ _) (meets_dict_get (bD X.prog X.w) a (oJ ry) hd) ⟨_,dd.mapOf,h _ _ (I.tok _) ?_⟩;rw[l];exact(rel.val k).getD rfl
 ·subst ey;cases (show u=Wy b from ry);obtain⟨z,hd,xs,rel,dd⟩:=l7 I.hok e;refine abD Yc dd.typeIs Y1 (abv _ _) (meetsH_dict_get (YE (bD X.prog X.w)) a b hd) ⟨YJ hu,k,xs,jL I.hok eb,dd,h _ _ (I.tok _) ?_⟩;rw[l];exact(rel.val k).getD rfl
def LD{Q:Value->We->Prop}(hu:A.units+1<cLine)(I:Inv X f8 σ H s)(g:lq H a y o)(ry:RelV y u)(rd:RelV d r)(h:∀w' s',Inv X f8 σ H s'->RelV (o.getD d) w'->Q w' s'):
 wpAny (model X.prog X.w) A (call (.builtin "dict.get") [.ref a,u,r]) Q E s:=by
 rcases g with⟨aB,k,e,ey,l⟩ | ⟨aB,k,b,e,ey,eb,l⟩
 ·subst ey;obtain⟨z,hd,vs,rel,dd⟩:=oG I.hok e;refine abD Yc dd.typeIs Y1 (abu _ _ _) (meets_dict_get_default (bD X.prog X.w) a (oJ ry) hd r) ⟨_,dd.mapOf,h _ _ (I.tok _) ?_⟩;rw[l];exact(rel.val k).getD rd
 ·subst ey;cases (show u=Wy b from ry);obtain⟨z,hd,xs,rel,dd⟩:=l7 I.hok e;refine abD Yc dd.typeIs Y1 (abu _ _ _) (meetsH_dict_get_default (YE (bD X.prog X.w)) a b hd r) ⟨YJ hu,k,xs,jL I.hok eb,dd,h _ _ (I.tok _) ?_⟩;rw[l];exact(rel.val k).getD rd
end
def Nz(td ty:TE):TE:=λσ H Q=>td σ H λx H1=>∃a,x= .ref a/\N4 H1 a/\ty σ H1 λy H2=>∃o,lq H2 a y o/\Q (o.getD .non) H2
def NA(td ty tx:TE):TE:=λσ H Q=>td σ H λx H1=>∃a,x= .ref a/\N4 H1 a/\ty σ H1 λy H2=>tx σ H2 λz H3=>∃o,lq H3 a y o/\Q (o.getD z) H3
section
variable{X:Cx}{o e f:Expr}{v6 bz:Pos}{td ty tx:TE}
def G6(hu:X.A.units+1<cLine)(ho:PE X o td)(he:PE X e ty)(m:M1 X o "get" v6 e bz):PE X (.Call (.Attribute o "get" v6) [e] [] bz) (Nz td ty):=by
 intro f8 s σ H Q I h;refine abo m.base m.few m.line YY Yc abP (cp (ho f8 s σ H _ I h) λu s1 ⟨x,H1,I1,rx,a,ex,d,q1⟩=>?_);subst ex;obtain rfl:u=Wy a:=rx;obtain⟨t1,t2,_⟩:=Az I1 d;refine⟨t1,t2,?_⟩;rw[m.trees];refine Yw rfl (Zl (Yx (cp (he f8 s1 σ H1 _ I1 q1) λiv s2 ⟨y,H2,I2,ry,ov,g,q2⟩=>Zc ?_)));exact LC hu I2 g ry λw' s3 I3 zY=>⟨_,H2,I3,zY,q2⟩
def G7(hu:X.A.units+1<cLine)(ho:PE X o td)(he:PE X e ty)(hf:PE X f tx)(m:M2 X o "get" v6 e f bz):PE X (.Call (.Attribute o "get" v6) [e,f] [] bz) (NA td ty tx):=by
 intro f8 s σ H Q I h;refine abo m.base m.few m.line YY Yc abP (cp (ho f8 s σ H _ I h) λu s1 ⟨x,H1,I1,rx,a,ex,d,q1⟩=>?_);subst ex;obtain rfl:u=Wy a:=rx;obtain⟨t1,t2,_⟩:=Az I1 d;refine⟨t1,t2,?_⟩;rw[m.trees];refine Yw rfl (Zl (Yx (cp (he f8 s1 σ H1 _ I1 q1) λiv s2 ⟨y,H2,I2,ry,q2⟩=>
  Yx (cp (hf f8 s2 σ H2 _ I2 q2) λfv s3 ⟨z,H3,I3,rz,ov,g,q3⟩=>Zc ?_))))
 exact LD hu I3 g ry rz λw' s4 I4 zY=>⟨_,H3,I4,zY,q3⟩
end
end L2
namespace L3
open PySem PySem.Spec L2
open PyProof.Rows hiding St
inductive Rs (α:Type) where
 |ok (a:α) | ex (n:Nat)
def M(α:Type):=Option (Rs α)
def ab(a:α):M α:=some (.ok a)
def M.bind(m:M α)(k:α->M β):M β:=match m with
 |none=>none
 |some (.ex n)=>some (.ex n)
 |some (.ok a)=>k a
def ag:M α:=none
def p0(n:Nat):M α:=some (.ex n)
instance:Monad M where
 pure:=ab
 bind:=M.bind
@[simp] def aw{α β:Type}(a:α)(k:α->M β):(ab a>>=k)=k a:=rfl
@[simp] def Lv{α β:Type}(a:α)(k:α->M β):((pure a:M α)>>=k)=k a:=rfl
@[simp] def Lw{α β:Type}(n:Nat)(k:α->M β):(p0 n>>=k)=p0 n:=rfl
@[simp] def Lx{α β:Type}(k:α->M β):((ag:M α)>>=k)=ag:=rfl
def M.cs(m:M α):m=ag\/(∃n,m=p0 n)\/∃a,m=ab a:=by
 match m with
 |none=>exact .inl rfl
 |some (.ex n)=>exact .inr (.inl ⟨n,rfl⟩)
 |some (.ok a)=>exact .inr (.inr ⟨a,rfl⟩)
def f_(h:ab a=ab b):a=b:=by
 have h:some (Rs.ok a)=some (Rs.ok b):=h;cases h;rfl
def gL(h:ag=ab a):False:=by
 have h:none=some (Rs.ok a):=h;cases h
def Hq(h:p0 n=ab a):False:=by
 have h:some (Rs.ex n)=some (Rs.ok a):=h;cases h
def iS(h:(m>>=k)=ab r):∃a,m=ab a/\k a=ab r:=by
 rcases m.cs with e | ⟨n,e⟩ | ⟨a,e⟩
 ·subst e;exact(gL h).elim
 ·subst e;exact(Hq h).elim
 ·subst e;exact⟨a,rfl,h⟩
def N5(h:Heap)(ea D:Addr):Prop:=∃ox,h.get? ea=some ox/\ox.cls= .ref D
def Up(ea D:Addr):HO:= .ext λh=>N5 h ea D
inductive D where
 |non | bl (b:Bool) | int (i:Int) | str (x:Str) | raw (v:V) | exc (C:Addr) | scr (l:List Int) | tup (l:List D) | lst (l:List D)
 |dct (ks:List (List Key)) (l:List D) | dci (ks:List Key) (l:List D)
instance:Inhabited D:=⟨.non⟩
def lim:Nat:=4096
def fP:lim<Ww:=by rw[XH];decide
mutual
def Den(K:Wm)(F:Hp):D->V->Prop
 | .non,v=>v= .non
 | .bl b,v=>v= .bl b
 | .int i,v=>v= .int i
 | .str x,v=>v= .str x/\x.length<=lim
 | .raw u,v=>v=u
 | .exc C,v=>∃ea,v= .ref ea/\F ea=some (Up ea C)
 | .scr ns,v=>∃a,v= .ref a/\SqL K F a (ns.map V.int)/\ns.length<=lim
 | .tup ds,v=>∃a vs,v= .ref a/\F a=some (.tup vs)/\DenL K F ds vs/\ds.length<=lim
 | .lst ds,v=>∃a vs,v= .ref a/\F a=some (.lst vs)/\DenL K F ds vs/\ds.length<=lim
 | .dct ks ds,v=>∃a ob vs,v= .ref a/\F a=some (.frz ob (.dT (ks.zip vs)))/\DenL K F ds vs/\ks.length=ds.length/\ds.length<=lim
 | .dci ks ds,v=>∃a ob vs,v= .ref a/\F a=some (.frz ob (.dK (ks.zip vs)))/\DenL K F ds vs/\ks.length=ds.length/\ds.length<=lim
def DenL(K:Wm)(F:Hp):List D->List V->Prop
 |[],vs=>vs=[]
 |d::ds,vs=>∃v r,vs=v::r/\Den K F d v/\DenL K F ds r
end
def Same.rd(e:Same H H')(h:Rd H a u):Rd H' a u:=by
 rcases h with h | ⟨o,h⟩
 ·exact .inl (e _ _ h)
 ·exact .inr ⟨o,e _ _ h⟩
def Same.tup{K:Wm}(e:Same H H')(h:SqT K H a xs):SqT K H' a xs:=by
 rcases h with h | h
 ·exact .inl (Same.rd e h)
 ·exact .inr h
section
variable{K:Wm}{F F':Hp}
mutual
def Den.mono(e:Same F F'):∀{d:D}{v:V},Den K F d v->Den K F' d v
 | .non,_,h=>h
 | .bl _,_,h=>h
 | .int _,_,h=>h
 | .str _,_,h=>h
 | .raw _,_,h=>h
 | .exc _,_,⟨a,h1,h2⟩=>⟨a,h1,e _ _ h2⟩
 | .scr _,_,⟨a,h1,h2,h3⟩=>⟨a,h1,Same.seq e h2,h3⟩
 | .tup _,_,⟨a,vs,h1,h2,h3,h4⟩=>⟨a,vs,h1,e _ _ h2,DenL.mono e h3,h4⟩
 | .lst _,_,⟨a,vs,h1,h2,h3,h4⟩=>⟨a,vs,h1,e _ _ h2,DenL.mono e h3,h4⟩
 | .dct _ _,_,⟨a,ob,vs,h1,h2,h3,h4⟩=>⟨a,ob,vs,h1,e _ _ h2,DenL.mono e h3,h4⟩
 | .dci _ _,_,⟨a,ob,vs,h1,h2,h3,h4⟩=>⟨a,ob,vs,h1,e _ _ h2,DenL.mono e h3,h4⟩
def DenL.mono(e:Same F F'):∀{ds:List D}{vs:List V},DenL K F ds vs->DenL K F' ds vs
 |[],_,h=>h
 |_::_,_,⟨v,r,h1,h2,h3⟩=>⟨v,r,h1,Den.mono e h2,DenL.mono e h3⟩
end
def DenL.nil:DenL K F [] []:=rfl
def DenL.cons(h:Den K F d v)(r:DenL K F ds vs):DenL K F (d::ds) (v::vs):=⟨v,vs,rfl,h,r⟩
def DenL.len:∀{ds:List D}{vs:List V},DenL K F ds vs->ds.length=vs.length
 |[],_,h=>by cases (show _=_ from h);rfl
 |_::ds,_,⟨v,r,h1,_,h3⟩=>by subst h1;rw[Wf,Wf,DenL.len h3]
def DenL.get:∀{ds:List D}{vs:List V}{i:Nat}{d:D},DenL K F ds vs->ds[i]? =some d->∃v,vs[i]? =some v/\Den K F d v
 |[],_,_,_,_,e=>by simp at e
 |d::ds,_,0,_,⟨v,r,h1,h2,h3⟩,e=>by subst h1;simp at e;subst e;exact⟨v,rfl,h2⟩
 |d::ds,_,i+1,_,⟨v,r,h1,h2,h3⟩,e=>by
  subst h1;obtain⟨w,e1,e2⟩:=DenL.get h3 (by simpa using e);exact⟨w,by simpa using e1,e2⟩
def DenL.at:∀{ds:List D}{vs:List V}{i:Nat}{v:V},DenL K F ds vs->vs[i]? =some v->∃d,ds[i]? =some d/\Den K F d v
 |[],_,_,_,h,e=>by cases (show _=_ from h);simp at e
 |d::ds,_,0,_,⟨v,r,h1,h2,h3⟩,e=>by subst h1;simp at e;subst e;exact⟨d,rfl,h2⟩
 |d::ds,_,i+1,_,⟨v,r,h1,h2,h3⟩,e=>by
  subst h1;obtain⟨w,e1,e2⟩:=DenL.at h3 (by simpa using e);exact⟨w,by simpa using e1,e2⟩
def DenL.append:∀{ds es:List D}{vs ws:List V},DenL K F ds vs->DenL K F es ws->DenL K F (ds++es) (vs++ws)
 |[],_,_,_,h,h'=>by cases (show _=_ from h);exact h'
 |d::ds,_,_,_,⟨v,r,h1,h2,h3⟩,h'=>by subst h1;exact⟨v,_,rfl,h2,DenL.append h3 h'⟩
def DenL.take:∀{ds:List D}{vs:List V}(n:Nat),DenL K F ds vs->DenL K F (ds.take n) (vs.take n)
 |_,_,0,_=>by simp[List.take];rfl
 |[],_,_+1,h=>by cases (show _=_ from h);rfl
 |d::ds,_,n+1,⟨v,r,h1,h2,h3⟩=>by subst h1;exact⟨v,_,rfl,h2,DenL.take n h3⟩
def DenL.drop:∀{ds:List D}{vs:List V}(n:Nat),DenL K F ds vs->DenL K F (ds.drop n) (vs.drop n)
 |_,_,0,h=>by simpa using h
 |[],_,_+1,h=>by cases (show _=_ from h);rfl
 |d::ds,_,n+1,⟨v,r,h1,h2,h3⟩=>by subst h1;exact DenL.drop n h3
def DenL.reverse:∀{ds:List D}{vs:List V},DenL K F ds vs->DenL K F ds.reverse vs.reverse
 |[],_,h=>by cases (show _=_ from h);rfl
 |d::ds,_,⟨v,r,h1,h2,h3⟩=>by
  subst h1;rw[ZK,ZK];exact DenL.append (DenL.reverse h3) (.cons h2 .nil)
def DenL.ints(ns:List Int):DenL K F (ns.map D.int) (ns.map V.int):=by
 induction ns with
 |nil=>rfl
 |cons n ns ih=>exact .cons rfl ih
end
structure Ext (F H F' H':Hp):Prop where
 hh:Same H H'
 ff:Same F F'
 fh:Same F' H'
 new:∀a,H a≠none->F' a=F a\/∃ts,H a=some (.tup ts)
def Ext.old(e:Ext F H F' H')(h:H a=some o)(hn:∀ts,o≠ .tup ts):F' a=F a:=by
 rcases e.new a (by rw[h];exact λz=>nomatch z) with q | ⟨ts,q⟩
 ·exact q
 ·rw[h] at q;cases q;exact ac_ rfl (hn ts)
def Ext.refl(h:Same F H):Ext F H F H:=⟨Same.refl _,Same.refl _,h,λ_ _=> .inl rfl⟩
def Ext.trans(a:Ext F H F' H')(b:Ext F' H' F'' H''):Ext F H F'' H'':=
 ⟨a.hh.trans b.hh,a.ff.trans b.ff,b.fh,λc hc=>by
  have:H' c≠none:=by
   cases q:H c with
   |none=>exact ac_ q hc
   |some o=>rw[a.hh c o q];exact λz=>nomatch z
  rcases a.new c hc with p | p
  ·rcases b.new c this with q | ⟨ts,q⟩
   ·exact .inl (q.trans p)
   ·cases z:H c with
    |none=>exact ac_ z hc
    |some o=>
     rw[a.hh c o z] at q;exact .inr ⟨ts,q⟩
  ·exact .inr p⟩
def Ext.lay(h:Same F H)(n:H a=none):Ext F H (upd F a o) (upd H a o):=by
 have nf:F a=none:=Same.free h n;refine⟨λb u e=>?_,λb u e=>?_,λb u e=>?_,λb hb=>?_⟩
 ·rw[aA (bG e n)];exact e
 ·rw[aA (bG e nf)];exact e
 ·by_cases q:b=a
  ·subst q;rw[aK] at e⊢;exact e
  ·rw[aA q] at e⊢;exact h b u e
 ·exact .inl (aA λz=>hb (by rw[z];exact n))
def Ext.free(h:Same F H)(n:H a=none):Ext F H F (upd H a o):=
 ⟨λb u e=>by rw[aA (bG e n)];exact e,Same.refl _,λb u e=>by rw[aA (bG (h b u e) n)];exact h b u e,λ_ _=> .inl rfl⟩
def Ext.tup(h:Same F H)(e:H a=some (.tup ts)):Ext F H (upd F a (.tup ts)) H:=by
 refine⟨Same.refl _,λb u q=>?_,λb u q=>?_,λb hb=>?_⟩
 ·by_cases z:b=a
  ·subst z;rw[aK,<-e];exact h b u q
  ·rw[aA z];exact q
 ·by_cases z:b=a
  ·subst z;rw[aK] at q;rw[e];exact q
  ·rw[aA z] at q;exact h b u q
 ·by_cases z:b=a
  ·subst z;exact .inr ⟨ts,e⟩
  ·exact .inl (aA z)
def WP(K:Wm)(Xw:Nat->Hp->Prop)(F H:Hp)(m:M D)(Q:VK):Prop:=
 match m with
 |none=>False
 |some (.ok d)=>∀v H' F',Ext F H F' H'->Den K F' d v->Q v H'
 |some (.ex n)=>∀F' H',Ext F H F' H'->Xw n H'
def WPL(K:Wm)(Xw:Nat->Hp->Prop)(F H:Hp)(m:M (List D))(Q:List V->Hp->Prop):Prop:=
 match m with
 |none=>False
 |some (.ok ds)=>∀vs H' F',Ext F H F' H'->DenL K F' ds vs->Q vs H'
 |some (.ex n)=>∀F' H',Ext F H F' H'->Xw n H'
def WPB(Xw:Nat->Hp->Prop)(F H:Hp)(m:M Bool)(Q:Bool->Hp->Prop):Prop:=
 match m with
 |none=>False
 |some (.ok b)=>∀H' F',Ext F H F' H'->Q b H'
 |some (.ex n)=>∀F' H',Ext F H F' H'->Xw n H'
section
variable{K:Wm}{Xw:Nat->Hp->Prop}{F F' H H':Hp}{Q:VK}
def WP.ext(e:Ext F H F' H')(h:WP K Xw F H m Q):WP K Xw F' H' m Q:=by
 match m,h with
 |none,h=>exact h
 |some (.ok d),h=>exact λv H2 F2 e2 q=>h v H2 F2 (e.trans e2) q
 |some (.ex n),h=>exact λF2 H2 e2=>h F2 H2 (e.trans e2)
def WPL.ext{Q:List V->Hp->Prop}(e:Ext F H F' H')(h:WPL K Xw F H m Q):WPL K Xw F' H' m Q:=by
 match m,h with
 |none,h=>exact h
 |some (.ok d),h=>exact λv H2 F2 e2 q=>h v H2 F2 (e.trans e2) q
 |some (.ex n),h=>exact λF2 H2 e2=>h F2 H2 (e.trans e2)
def WPB.ext{Q:Bool->Hp->Prop}(e:Ext F H F' H')(h:WPB Xw F H m Q):WPB Xw F' H' m Q:=by
 match m,h with
 |none,h=>exact h
 |some (.ok d),h=>exact λH2 F2 e2=>h H2 F2 (e.trans e2)
 |some (.ex n),h=>exact λF2 H2 e2=>h F2 H2 (e.trans e2)
def WP.fin(h:WP K Xw F H (ab d) Q)(e:Ext F H F' H')(q:Den K F' d v):Q v H':=h v H' F' e q
def WP.now(h:WP K Xw F H (ab d) Q)(s:Same F H)(q:Den K F d v):Q v H:=h v H F (Ext.refl s) q
def WP.bind(h:WP K Xw F H (m>>=k) Q):WP K Xw F H m λv H1=>∃F1 d,Ext F H F1 H1/\Den K F1 d v/\WP K Xw F1 H1 (k d) Q:=by
 match m,h with
 |none,h=>exact h
 |some (.ok d),h=>exact λv H2 F2 e2 q=>⟨F2,d,e2,q,WP.ext e2 (show WP K Xw F H (k d) Q from h)⟩
 |some (.ex n),h=>exact h
def WP.bindL(h:WP K Xw F H (m>>=k) Q):WPL K Xw F H m λvs H1=>∃F1 ds,Ext F H F1 H1/\DenL K F1 ds vs/\WP K Xw F1 H1 (k ds) Q:=by
 match m,h with
 |none,h=>exact h
 |some (.ok d),h=>exact λv H2 F2 e2 q=>⟨F2,d,e2,q,WP.ext e2 (show WP K Xw F H (k d) Q from h)⟩
 |some (.ex n),h=>exact h
def WP.bindB(h:WP K Xw F H (m>>=k) Q):WPB Xw F H m λb H1=>∃F1,Ext F H F1 H1/\WP K Xw F1 H1 (k b) Q:=by
 match m,h with
 |none,h=>exact h
 |some (.ok d),h=>exact λH2 F2 e2=>⟨F2,e2,WP.ext e2 (show WP K Xw F H (k d) Q from h)⟩
 |some (.ex n),h=>exact h
def WPB.bind{Q:Bool->Hp->Prop}(h:WPB Xw F H (m>>=k) Q):WP K Xw F H m λv H1=>∃F1 d,Ext F H F1 H1/\Den K F1 d v/\WPB Xw F1 H1 (k d) Q:=by
 match m,h with
 |none,h=>exact h
 |some (.ok d),h=>exact λv H2 F2 e2 q=>⟨F2,d,e2,q,WPB.ext e2 (show WPB Xw F H (k d) Q from h)⟩
 |some (.ex n),h=>exact h
def WPB.bindB{Q:Bool->Hp->Prop}(h:WPB Xw F H (m>>=k) Q):WPB Xw F H m λb H1=>∃F1,Ext F H F1 H1/\WPB Xw F1 H1 (k b) Q:=by
 match m,h with
 |none,h=>exact h
 |some (.ok d),h=>exact λH2 F2 e2=>⟨F2,e2,WPB.ext e2 (show WPB Xw F H (k d) Q from h)⟩
 |some (.ex n),h=>exact h
def WPL.bind{Q:List V->Hp->Prop}(h:WPL K Xw F H (m>>=k) Q):WP K Xw F H m λv H1=>∃F1 d,Ext F H F1 H1/\Den K F1 d v/\WPL K Xw F1 H1 (k d) Q:=by
 match m,h with
 |none,h=>exact h
 |some (.ok d),h=>exact λv H2 F2 e2 q=>⟨F2,d,e2,q,WPL.ext e2 (show WPL K Xw F H (k d) Q from h)⟩
 |some (.ex n),h=>exact h
def WPL.bindL{Q:List V->Hp->Prop}(h:WPL K Xw F H (m>>=k) Q):WPL K Xw F H m λvs H1=>∃F1 ds,Ext F H F1 H1/\DenL K F1 ds vs/\WPL K Xw F1 H1 (k ds) Q:=by
 match m,h with
 |none,h=>exact h
 |some (.ok d),h=>exact λv H2 F2 e2 q=>⟨F2,d,e2,q,WPL.ext e2 (show WPL K Xw F H (k d) Q from h)⟩
 |some (.ex n),h=>exact h
def WP.mono(h:WP K Xw F H m Q)(k:∀v H',Q v H'->Q' v H'):WP K Xw F H m Q':=by
 match m,h with
 |none,h=>exact h
 |some (.ok d),h=>exact λv H2 F2 e2 q=>k _ _ (h v H2 F2 e2 q)
 |some (.ex n),h=>exact h
def WPL.mono{Q Q':List V->Hp->Prop}(h:WPL K Xw F H m Q)(k:∀v H',Q v H'->Q' v H'):WPL K Xw F H m Q':=by
 match m,h with
 |none,h=>exact h
 |some (.ok d),h=>exact λv H2 F2 e2 q=>k _ _ (h v H2 F2 e2 q)
 |some (.ex n),h=>exact h
def WPB.mono{Q Q':Bool->Hp->Prop}(h:WPB Xw F H m Q)(k:∀v H',Q v H'->Q' v H'):WPB Xw F H m Q':=by
 match m,h with
 |none,h=>exact h
 |some (.ok d),h=>exact λH2 F2 e2=>k _ _ (h H2 F2 e2)
 |some (.ex n),h=>exact h
end
inductive C where
 |lst (l:List D) | dct (ks:List (List Key)) (l:List D) | dci (ks:List Key) (l:List D)
def C.d:C->D
 | .lst ds=> .lst ds
 | .dct ks ds=> .dct ks ds
 | .dci ks ds=> .dci ks ds
inductive Sl where
 |fz (d:D) | ow (c:C)
abbrev cK:=List (Option Sl)
def DenC(K:Wm)(F:Hp):C->HO->Prop
 | .lst ds,o=>∃vs,o= .lst vs/\DenL K F ds vs/\ds.length<=lim
 | .dct ks ds,o=>∃vs,o= .dT (ks.zip vs)/\DenL K F ds vs/\ks.length=ds.length/\ds.length<=lim
 | .dci ks ds,o=>∃vs,o= .dK (ks.zip vs)/\DenL K F ds vs/\ks.length=ds.length/\ds.length<=lim
def DenC.mono{K:Wm}(e:Same F F'):∀{c:C}{o:HO},DenC K F c o->DenC K F' c o
 | .lst _,_,⟨vs,h1,h2,h3⟩=>⟨vs,h1,DenL.mono e h2,h3⟩
 | .dct _ _,_,⟨vs,h1,h2,h3⟩=>⟨vs,h1,DenL.mono e h2,h3⟩
 | .dci _ _,_,⟨vs,h1,h2,h3⟩=>⟨vs,h1,DenL.mono e h2,h3⟩
def DenC.notup{K:Wm}:∀{c:C}{o:HO},DenC K F c o->∀ts,o≠ .tup ts
 | .lst _,_,⟨_,h1,_⟩,ts,z=>by rw[h1] at z;cases z
 | .dct _ _,_,⟨_,h1,_⟩,ts,z=>by rw[h1] at z;cases z
 | .dci _ _,_,⟨_,h1,_⟩,ts,z=>by rw[h1] at z;cases z
def pH(ob:Obj):HO->HO
 | .dT aB=> .frz ob (.dT aB)
 | .dK aB=> .frz ob (.dK aB)
 |o=>o
def DenC.den{K:Wm}:∀{c:C}{o:HO},DenC K F c o->Same F F'->F' a=some (pH ob o)->Den K F' c.d (.ref a)
 | .lst _,_,⟨vs,h1,h2,h3⟩,e,q=>by subst h1;exact⟨a,vs,rfl,q,DenL.mono e h2,h3⟩
 | .dct _ _,_,⟨vs,h1,h2,h3⟩,e,q=>by subst h1;exact⟨a,ob,vs,rfl,q,DenL.mono e h2,h3⟩
 | .dci _ _,_,⟨vs,h1,h2,h3⟩,e,q=>by subst h1;exact⟨a,ob,vs,rfl,q,DenL.mono e h2,h3⟩
def DenO(K:Wm)(F H:Hp):Sl->V->Prop
 | .fz d,v=>Den K F d v
 | .ow c,v=>∃a o,v= .ref a/\H a=some o/\F a=none/\DenC K F c o
structure StE (K:Wm) (F H:Hp) (σ:St) (ρ:cK):Prop where
 fh:Same F H
 den:∀(i:Nat) (sl:Sl),ρ[i]? =some (some sl)->∃v,σ[i]? =some (some v)/\DenO K F H sl v
def DenO.ext{K:Wm}(e:Ext F H F' H'):∀{sl:Sl}{v:V},DenO K F H sl v->DenO K F' H' sl v
 | .fz _,_,h=>Den.mono e.ff h
 | .ow _,_,⟨a,o,h1,h2,h3,h4⟩=>⟨a,o,h1,e.hh _ _ h2,by rw[e.old h2 h4.notup];exact h3,DenC.mono e.ff h4⟩
def StE.ext{K:Wm}(s:StE K F H σ ρ)(e:Ext F H F' H'):StE K F' H' σ ρ:=
 ⟨e.fh,λi sl q=>let ⟨v,h1,h2⟩:=s.den i sl q;⟨v,h1,h2.ext e⟩⟩
abbrev DE:=cK->M D
abbrev DT:=cK->M Bool
abbrev DA:=cK->M (List D)
def tD(K:Wm)(Xw:Nat->Hp->Prop)(δ:DE):TE:=λσ H Q=>∃F ρ,StE K F H σ ρ/\WP K Xw F H (δ ρ) Q
def SO(K:Wm)(Xw:Nat->Hp->Prop)(δ:DT):TT:=λσ H Q=>∃F ρ,StE K F H σ ρ/\WPB Xw F H (δ ρ) Q
def Uk(K:Wm)(Xw:Nat->Hp->Prop)(δ:DA):TA:=λσ H Q=>∃F ρ,StE K F H σ ρ/\WPL K Xw F H (δ ρ) Q
def PD(X:Cx)(Xw:Nat->Hp->Prop)(e:Expr)(δ:DE):Prop:=PE X e (tD X.K Xw δ)
def pF(X:Cx)(Xw:Nat->Hp->Prop)(e:Expr)(δ:DT):Prop:=PT X e (SO X.K Xw δ)
def lr(X:Cx)(Xw:Nat->Hp->Prop)(es:List Expr)(δ:DA):Prop:=PA X es (Uk X.K Xw δ)
def PE.weak(h:PE X e t)(k:∀σ H Q,t' σ H Q->t σ H Q):PE X e t':=λf8 s σ H Q I w=>h f8 s σ H Q I (k σ H Q w)
def PT.weak(h:PT X e t)(k:∀σ H Q,t' σ H Q->t σ H Q):PT X e t':=λf8 s σ H Q I w=>h f8 s σ H Q I (k σ H Q w)
def PA.weak(h:PA X e t)(k:∀σ H Q,t' σ H Q->t σ H Q):PA X e t':=λpos f8 s σ H Q I w=>h pos f8 s σ H Q I (k σ H Q w)
def dV(i:Nat):DE:=λρ=>match ρ[i]? with
 |some (some (.fz d))=>ab d
 |_=>ag
def dC(d:D):DE:=λ_=>ab d
def d1(g:D->M D)(a:DE):DE:=λρ=>a ρ>>=g
def d2(g:D->D->M D)(a b:DE):DE:=λρ=>a ρ>>=λx=>b ρ>>=λy=>g x y
def aN:DA:=λ_=>ab []
def aC(a:DE)(r:DA):DA:=λρ=>a ρ>>=λx=>r ρ>>=λxs=>ab (x::xs)
def dA(g:List D->M D)(a:DA):DE:=λρ=>a ρ>>=g
def Dg:D->M Bool
 | .bl b=>ab b
 |_=>ag
def dN(a:DE):DT:=λρ=>a ρ>>=Dg
def Ff(a b:DT):DT:=λρ=>a ρ>>=λx=>if x then b ρ else ab false
def oF(a b:DT):DT:=λρ=>a ρ>>=λx=>if x then ab true else b ρ
def cR(a:DT):DT:=λρ=>a ρ>>=λx=>ab (!x)
def NL(c:DT)(a b:DE):DE:=λρ=>c ρ>>=λx=>if x then a ρ else b ρ
def gr(a b:DE):DE:=λρ=>a ρ>>=λx=>Dg x>>=λc=>if c then b ρ else ab (.bl false)
def IH(a b:DE):DE:=λρ=>a ρ>>=λx=>Dg x>>=λc=>if c then ab (.bl true) else b ρ
def KL(a:DE):DE:=λρ=>a ρ>>=λx=>Dg x>>=λc=>ab (.bl (!c))
section
variable{X:Cx}{Xw:Nat->Hp->Prop}{a b:Expr}{δa δb:DE}{pos:Pos}
def ae(h:PE X (.Name x pos) (sv i)):PD X Xw (.Name x pos) (dV i):=PE.weak h λσ H Q ⟨F,ρ,s,w⟩=>by
 unfold dV at w;split at w
 ·rename_i d e;obtain⟨v,h1,h2⟩:=s.den i _ e;exact⟨v,h1,WP.now w s.fh h2⟩
 ·exact w.elim
def iG(h:PE X e (tC v))(hd:∀F,Den X.K F d v):PD X Xw e (dC d):=PE.weak h λσ H Q ⟨F,ρ,s,w⟩=>WP.now w s.fh (hd F)
def au:PD X Xw (.Constant (.int i) j pos) (dC (.int i)):=iG MX λ_=>rfl
def fU:PD X Xw (.Constant (.bool i) j pos) (dC (.bl i)):=iG PR λ_=>rfl
def MR:PD X Xw (.Constant .none j pos) (dC .non):=iG MY λ_=>rfl
def n4(h:x.length<=lim:=by decide):PD X Xw (.Constant (.str x) j pos) (dC (.str x)):=iG M4 λ_=>⟨rfl,h⟩
def zV(K:Wm)(r:R2)(g:D->D->M D):Prop:=∀(Xw:Nat->Hp->Prop) (F H:Hp) (x y:V) (dx dy:D) (Q:VK),Same F H->Den K F dx x->Den K F dy y->WP K Xw F H (g dx dy) Q->r x y H Q
def wZ(hg:zV X.K r g):∀σ H Q,tD X.K Xw (d2 g δa δb) σ H Q->Qr r (tD X.K Xw δa) (tD X.K Xw δb) σ H Q:=λσ H Q ⟨F,ρ,s,w⟩=>by
 refine⟨F,ρ,s,WP.mono (WP.bind w) λv H1 ⟨F1,d,e1,q1,w1⟩=>?_⟩;refine⟨F1,ρ,s.ext e1,WP.mono (WP.bind w1) λu H2 ⟨F2,d',e2,q2,w2⟩=>?_⟩;exact hg Xw F2 H2 v u d d' Q e2.fh (Den.mono e2.ff q1) q2 w2
def uK(ho:OpR X (ZP op) r)(hg:zV X.K r g)(ha:PD X Xw a δa)(hb:PD X Xw b δb):PD X Xw (.BinOp a op b pos) (d2 g δa δb):=
 PE.weak (PV ho ha hb) (wZ hg)
def v_(ho:OpR X (Xd op) r)(hg:zV X.K r g)(ha:PD X Xw a δa)(hb:PD X Xw b δb)(hm:Xq op b=false:=by first | exact GH _ | rfl):PD X Xw (.Compare a [op] [b] pos) (d2 g δa δb):=
 PE.weak (JX ho ha hb hm) (wZ hg)
def f9(ho:OpR X (Xd op) r)(hg:zV X.K r g)(ha:PD X Xw a δa)(hb:PD X Xw b δb)(hm:Xq op b=false:=by first | exact GH _ | rfl):pF X Xw (.Compare a [op] [b] pos) (dN (d2 g δa δb)):=
 PT.weak (J9 ho ha hb hm) λσ H Q ⟨F,ρ,s,w⟩=>by
  refine wZ hg σ H _ ⟨F,ρ,s,WP.mono (WPB.bind w) λv H1 ⟨F1,d,e1,q1,w1⟩=>?_⟩;cases d with
  |bl k=>exact⟨k,q1,w1 _ _ (Ext.refl e1.fh)⟩
  |_=>exact w1.elim
def CK(hr:N7 X r)(hg:zV X.K r g)(ha:PD X Xw a δa)(hb:PD X Xw b δb)(hs:ky b:=by intro _ _;rfl):PD X Xw (.Subscript a b pos) (d2 g δa δb):=
 PE.weak (PU hr ha hb hs) (wZ hg)
def af:lr X Xw [] aN:=PA.weak v8 λσ H Q ⟨F,ρ,s,w⟩=>w [] H F (Ext.refl s.fh) rfl
def aa(ha:PD X Xw a δa)(hr:lr X Xw es δs)(hs:Wv (a::es) X.env=(false,eval a X.env)::Wv es X.env:=by rfl):lr X Xw (a::es) (aC δa δs):=
 PA.weak (v7 ha hr hs) λσ H Q ⟨F,ρ,s,w⟩=>by
  refine⟨F,ρ,s,WP.mono (WPL.bind w) λv H1 ⟨F1,d,e1,q1,w1⟩=>?_⟩;refine⟨F1,ρ,s.ext e1,WPL.mono (WPL.bindL w1) λvs H2 ⟨F2,ds,e2,q2,w2⟩=>?_⟩;exact w2 _ _ _ (Ext.refl e2.fh) (.cons (Den.mono e2.ff q1) q2)
def d7(ds:List D):M D:=if ds.length<=lim then ab (.tup ds) else ag
def eZ(ds:List D):M D:=if ds.length<=lim then ab (.lst ds) else ag
def AL{f:List D->D}(w:WP X.K Xw F H (if ds.length<=lim then ab (f ds) else ag) Q):ds.length<=lim/\WP X.K Xw F H (ab (f ds)) Q:=by
 split at w
 ·rename_i h;exact⟨h,w⟩
 ·exact w.elim
def gD(h:lr X Xw es δs):PD X Xw (.Tuple es x1 pos) (dA d7 δs):=PE.weak (M5 h) λσ H Q ⟨F,ρ,s,w⟩=>by
 refine⟨F,ρ,s,WPL.mono (WP.bindL w) λvs H1 ⟨F1,ds,e1,q1,w1⟩=>?_⟩;obtain⟨hl,w1⟩:=AL w1;have hv:=q1.len;refine⟨by have:=fP;omega,λp hp=>WP.fin w1 (Ext.lay e1.fh hp) ⟨p,vs,rfl,aK,DenL.mono (Ext.lay e1.fh hp).ff q1,hl⟩⟩
def fR(h:lr X Xw es δs):PD X Xw (.List es pos) (dA eZ δs):=PE.weak (G_ h) λσ H Q ⟨F,ρ,s,w⟩=>by
 refine⟨F,ρ,s,WPL.mono (WP.bindL w) λvs H1 ⟨F1,ds,e1,q1,w1⟩=>?_⟩;obtain⟨hl,w1⟩:=AL w1;have hv:=q1.len;refine⟨by have:=fP;omega,λp hp=>WP.fin w1 (Ext.lay e1.fh hp) ⟨p,vs,rfl,aK,DenL.mono (Ext.lay e1.fh hp).ff q1,hl⟩⟩
end
def ItD(K:Wm)(F:Hp)(J:It)(ds:List D):Prop:=∀(F' H':Hp) (i:Nat),Same F F'->Same F' H'->
 (∀d,ds[i]? =some d->J.go i H'/\∀x H'',J.yld i H' x H''->∃F'',Ext F' H' F'' H''/\Den K F'' d x)/\(ds.length<=i->J.stop i H')
def ItD.mono{K:Wm}(h:ItD K F J ds)(e:Same F F1):ItD K F1 J ds:=λF' H' i s1 s2=>h F' H' i (e.trans s1) s2
def WPI(K:Wm)(Xw:Nat->Hp->Prop)(F H:Hp)(m:M (List D))(R:It->Hp->Prop):Prop:=
 match m with
 |none=>False
 |some (.ok ds)=>∀J H' F',Ext F H F' H'->ItD K F' J ds->R J H'
 |some (.ex n)=>∀F' H',Ext F H F' H'->Xw n H'
def VJ(K:Wm)(Xw:Nat->Hp->Prop)(δ:DA):TI:=λσ H R=>∃F ρ,StE K F H σ ρ/\WPI K Xw F H (δ ρ) R
def zZ(X:Cx)(Xw:Nat->Hp->Prop)(tg iter:Expr)(δ:DA):Prop:=PI X tg iter (VJ X.K Xw δ)
def PI.weak{X:Cx}(h:PI X tg e t)(k:∀σ H Q,t' σ H Q->t σ H Q):PI X tg e t':=λf8 s σ H Q I w=>h f8 s σ H Q I (k σ H Q w)
def WPI.bind{K:Wm}(h:WPI K Xw F H (m>>=k) R):
 WP K Xw F H m λv H1=>∃F1 d,Ext F H F1 H1/\Den K F1 d v/\WPI K Xw F1 H1 (k d) R:=by
 match m,h with
 |none,h=>exact h
 |some (.ok d),h=>
  refine λv H2 F2 e2 q=>⟨F2,d,e2,q,?_⟩
  have h:WPI K Xw F H (k d) R:=h;show WPI K Xw F2 H2 (k d) R
  match k d,h with
  |none,h=>exact h
  |some (.ok ds),h=>exact λJ H3 F3 e3 q3=>h J H3 F3 (e2.trans e3) q3
  |some (.ex n),h=>exact λF3 H3 e3=>h F3 H3 (e2.trans e3)
 |some (.ex n),h=>exact h
def WPI.bindL{K:Wm}(h:WPI K Xw F H (m>>=k) R):
 WPL K Xw F H m λv H1=>∃F1 d,Ext F H F1 H1/\DenL K F1 d v/\WPI K Xw F1 H1 (k d) R:=by
 match m,h with
 |none,h=>exact h
 |some (.ok d),h=>
  refine λv H2 F2 e2 q=>⟨F2,d,e2,q,?_⟩
  have h:WPI K Xw F H (k d) R:=h;show WPI K Xw F2 H2 (k d) R
  match k d,h with
  |none,h=>exact h
  |some (.ok ds),h=>exact λJ H3 F3 e3 q3=>h J H3 F3 (e2.trans e3) q3
  |some (.ex n),h=>exact λF3 H3 e3=>h F3 H3 (e2.trans e3)
 |some (.ex n),h=>exact h
def lstM:D->M (List D)
 | .lst ds=>ab ds
 |_=>ag
def S2:D->M (List D)
 | .tup ds=>ab ds
 |_=>ag
def bJ(a:DE):DA:=λρ=>a ρ>>=lstM
def sP(a:DE):DA:=λρ=>a ρ>>=S2
def Ge{K:Wm}(h:SqL K F a vs)(hd:DenL K F ds vs):ItD K F (Q9 K a) ds:=λF' H' i s1 s2=>by
 have hs:=Same.seq s2 (Same.seq s1 h);refine⟨λd e=>?_,λhl=>⟨vs,hs,by rw[<-hd.len];exact hl⟩⟩;obtain⟨v,e1,q⟩:=hd.get e;refine⟨⟨vs,v,hs,e1⟩,λx H'' y=>?_⟩;obtain⟨e2,y⟩:=y;subst e2;have:=y vs hs;rw[e1] at this;cases this;exact⟨F',Ext.refl s2,Den.mono s1 q⟩
def Jj{K:Wm}(h:SqT K F a vs)(hd:DenL K F ds vs):ItD K F (Q_ K a) ds:=λF' H' i s1 s2=>by
 have hs:=Same.tup s2 (Same.tup s1 h);refine⟨λd e=>?_,λhl=>⟨vs,hs,by rw[<-hd.len];exact hl⟩⟩;obtain⟨v,e1,q⟩:=hd.get e;refine⟨⟨vs,v,hs,e1⟩,λx H'' y=>?_⟩;obtain⟨e2,y⟩:=y;subst e2;have:=y vs hs;rw[e1] at this;cases this;exact⟨F',Ext.refl s2,Den.mono s1 q⟩
def iN(lo:Int)(n:Nat):List D:=(Wo n).map λ(i:Nat)=>D.int (lo+(i:Int))
def ud{K:Wm}{F:Hp}(lo:Int)(n:Nat):ItD K F (N6 lo n) (iN lo n):=λF' H' i s1 s2=>by
 refine⟨λd e=>?_,λhl=>show n<=i by simpa[iN] using hl⟩;unfold iN at e;rw[Wj] at e;have hi:i<n:=by
  by_cases hi:i<n
  ·exact hi
  ·rw[Zg (by simpa using hi)] at e;cases e
 rw[YW hi] at e;cases e;refine⟨hi,λx H'' y=>?_⟩;obtain⟨e2,y⟩:=y;subst e2 y;exact⟨F',Ext.refl s2,rfl⟩
section
variable{X:Cx}{Xw:Nat->Hp->Prop}{tg l:Expr}{δ:DE}{pos:Pos}
def aR(h:PD X Xw l δ):zZ X Xw tg l (bJ δ):=PI.weak (J0 h) λσ H R ⟨F,ρ,s,w⟩=>by
 refine⟨F,ρ,s,WP.mono (WPI.bind w) λv H1 ⟨F1,d,e1,q1,w1⟩=>?_⟩;cases d with
 |lst ds=>
  obtain⟨a,vs,h1,h2,h3,h4⟩:=q1;exact⟨a,h1,⟨vs,Same.seq e1.fh (SqL.of h2)⟩,w1 _ _ _ (Ext.refl e1.fh) (Ge (SqL.of h2) h3)⟩
 |_=>exact w1.elim
def we(h:PD X Xw l δ):zZ X Xw tg l (sP δ):=PI.weak (M9 h) λσ H R ⟨F,ρ,s,w⟩=>by
 refine⟨F,ρ,s,WP.mono (WPI.bind w) λv H1 ⟨F1,d,e1,q1,w1⟩=>?_⟩;cases d with
 |tup ds=>
  obtain⟨a,vs,h1,h2,h3,h4⟩:=q1;exact⟨a,h1,⟨vs,Same.tup e1.fh (SqT.of h2)⟩,w1 _ _ _ (Ext.refl e1.fh) (Jj (SqT.of h2) h3)⟩
 |_=>exact w1.elim
def j8:List D->M (List D)
 |[.int j]=>if -4096<=j/\j<=4096 then ab (iN 0 j.toNat) else ag
 |_=>ag
def uU:List D->M (List D)
 |[.int i, .int j]=>if (-4096<=i/\i<=4096)/\(-4096<=j/\j<=4096) then ab (iN i (j - i).toNat) else ag
 |_=>ag
def DenL.one{K:Wm}(h:DenL K F [d] vs):∃v,vs=[v]/\Den K F d v:=by
 obtain⟨v,r,h1,h2,h3⟩:=h;cases (show r=[] from h3);exact⟨v,h1,h2⟩
def DenL.two{K:Wm}(h:DenL K F [d,d'] vs):∃v v',vs=[v,v']/\Den K F d v/\Den K F d' v':=by
 obtain⟨v,r,h1,h2,h3⟩:=h;obtain⟨v',h4,h5⟩:=h3.one;subst h4;exact⟨v,v',h1,h2,h5⟩
def fw{a:Expr}(hg:Gl X "range")(hm:X.mg "range"=none)(ha:lr X Xw [a] δs)(hs:Wv [a] X.env=[(false,eval a X.env)]:=by rfl):zZ X Xw tg (.Call (.Name "range" p) [a] [] pos) (λρ=>δs ρ>>=j8):=
 PI.weak (Em hg hm ha hs) λσ H R ⟨F,ρ,s,w⟩=>by
  refine⟨F,ρ,s,WPL.mono (WPI.bindL w) λvs H1 ⟨F1,ds,e1,q1,w1⟩=>?_⟩;unfold j8 at w1;split at w1
  ·rename_i j;obtain⟨v,h1,h2⟩:=q1.one;cases (show v=_ from h2);split at w1
   ·exact⟨j,h1,by omega,by omega,w1 _ _ _ (Ext.refl e1.fh) (ud 0 _)⟩
   ·exact w1.elim
  ·exact w1.elim
def rV{a b:Expr}(hg:Gl X "range")(hm:X.mg "range"=none)(ha:lr X Xw [a,b] δs)(hs:Wv [a,b] X.env=[(false,eval a X.env),(false,eval b X.env)]:=by rfl)
 (NW:Wv [b] X.env=[(false,eval b X.env)]:=by rfl):zZ X Xw tg (.Call (.Name "range" p) [a,b] [] pos) (λρ=>δs ρ>>=uU):=
 PI.weak (En hg hm ha hs NW) λσ H R ⟨F,ρ,s,w⟩=>by
  refine⟨F,ρ,s,WPL.mono (WPI.bindL w) λvs H1 ⟨F1,ds,e1,q1,w1⟩=>?_⟩;unfold uU at w1;split at w1
  ·rename_i i j;obtain⟨v,v',h1,h2,h3⟩:=q1.two;cases (show v=_ from h2);cases (show v'=_ from h3);split at w1
   ·exact⟨i,j,h1,⟨by omega,by omega,by omega,by omega⟩,w1 _ _ _ (Ext.refl e1.fh) (ud i _)⟩
   ·exact w1.elim
  ·exact w1.elim
end
def bP(tg N:List Str):List Str:=N.map λy=>if tg.contains y then y++(" ":Str) else y
def k8(X:Cx)(scope:Scope)(tn:List Str)(f8:List (Addr×Obj))(cl:List (Str×Addr))(C:Addr)(fp:List Addr)(t0:We)(H:Hp):Cx:=
 {X with N:=tn++bP tn X.N,adg:=t0,adf:=H,env:=compEnvC scope cl C X.env,outer:=X.stack,ex:=fp,fn:=λ_=>false,pn:=X.pn++f8,xe:=λ_ _=>False}
structure CompSc (X:Cx) (scope:Scope) (tn:List Str):Prop where
 kind:scope.kind= .function
 nocell:∀y∈scope.names,y.2≠ .cell
 names:∀y∈scope.names,y.2= .local->scope.names.lookup y.1=some .local
 frees:∀y∈scope.names,y.2= .free->X.env.kindOf y.1=some .cell\/X.env.kindOf y.1=some .free
 vis:∀p∈(bP tn X.N).zip X.N,scope.names.lookup p.1=none\/(p.1=p.2/\scope.names.lookup p.1=some .free)
def lB{env:Env}:∀(names:List (Str×ZR)) (v0:List (Str×Addr)),(∀y∈names,y.2= .free->∃c,env.cells.lookup y.1=some c)->
 (∀x c,v0.lookup x=some c->env.cells.lookup x=some c)->
 ∃cl,(forIn names v0 (λ(x:Str×ZR) (r:List (Str×Addr))=>do
   let __x:=x
   if (__x.2==acY)=true then do let c<-cellOf env __x.1;pure (Xy ((__x.1,c)::r)) else pure (Xy r)):Sem (List (Str×Addr)))=pure cl/\
  (∀x c,cl.lookup x=some c->env.cells.lookup x=some c)/\(∀x c,v0.lookup x=some c->∃c',cl.lookup x=some c')/\(∀x,names.lookup x=some .free->∃c,cl.lookup x=some c)
 |[],v0,_,h2=>⟨v0,rfl,h2,λx c e=>⟨c,e⟩,λx e=>by simp at e⟩
 |(n,k)::r,v0,h1,h2=>by
  by_cases hk:k= .free
  ·subst hk;obtain⟨c,hc⟩:=h1 (n, .free) V_ rfl;obtain⟨cl,e,a1,a2,a3⟩:=lB r ((n,c)::v0) (λy hy=>h1 y (V8 _ hy)) (λx c' q=>by
    rw[Yg] at q;split at q
    ·rename_i hx;cases q;rw[show x=n from by simpa using hx];exact hc
    ·exact h2 x c' q)
   refine⟨cl,?_,a1,λx c' q=>?_,λx q=>?_⟩
   ·rw[abg];have:cellOf env n=pure c:=by unfold cellOf;rw[hc]
    simp only[beq_self_eq_true,if_true,this,pure_bind];exact e
   ·by_cases hx:x=n
    ·subst hx;exact a2 x c (by simp[Yg])
    ·exact a2 x c' (by rw[Yg,show (x==n)=false from by simpa using hx];exact q)
   ·rw[Yg] at q;split at q
    ·rename_i hx;exact a2 x c (by rw[Yg,hx])
    ·exact a3 x q
  ·obtain⟨cl,e,a1,a2,a3⟩:=lB r v0 (λy hy=>h1 y (V8 _ hy)) h2;refine⟨cl,?_,a1,a2,λx q=>?_⟩
   ·rw[abg];have:((k==acY)=true)=False:=by simpa using hk
    simp only[this,if_false,pure_bind];exact e
   ·rw[Yg] at q;split at q
    ·cases q;exact ac_ rfl hk
    ·exact a3 x q
def qi{scope:Scope}(h:∀y∈scope.names,y.2= .free->∃c,env.cells.lookup y.1=some c):
 ∃cl,closureFor scope env=pure cl/\(∀x c,cl.lookup x=some c->env.cells.lookup x=some c)/\(∀x,scope.names.lookup x=some .free->∃c,cl.lookup x=some c):=by
 obtain⟨cl,e,a1,_,a3⟩:=lB scope.names [] h (λx c q=>by simp at q);refine⟨cl,?_,a1,a3⟩;unfold closureFor;show (forIn scope.names [] _>>=λr=>pure r)=_;rw[bind_pure];exact e
def noex:M α->M α
 |some (.ok a)=>some (.ok a)
 |_=>none
def d6(f:D->M (Option D)):List D->M (List D)
 |[]=>ab []
 |d::ds=>f d>>=λo=>d6 f ds>>=λr=>ab (match o with | some y=>y::r | none=>r)
def Ul(n:Nat):D->M (List D):=λd=>match n,d with
 |0,d=>ab [d]
 |n, .tup ds=>if ds.length=n then ab ds else ag
 |_,_=>ag
def gQ(n:Nat)(δt:DT)(δe:DE)(ρ:cK):D->M (Option D):=λd=>
 Ul n d>>=λts=>δt (ts.map (λt=>some (Sl.fz t))++ρ)>>=λb=>if b then δe (ts.map (λt=>some (Sl.fz t))++ρ)>>=λy=>ab (some y) else ab none
def bb(n:Nat)(δi:DA)(δt:DT)(δe:DE):DE:=λρ=>δi ρ>>=λds=>noex (d6 (gQ n δt δe ρ) ds)>>=eZ
def bO:DT:=λ_=>ab true
def eI(f:D->M (Option D))(d:D)(ds:List D):d6 f (d::ds)=(f d>>=λo=>d6 f ds>>=λr=>ab (match o with | some y=>y::r | none=>r)):=rfl
def Ah(hd:ds[i]? =some d)
 (h:d6 f ds=(d6 f (ds.drop i)>>=λr=>ab (ys++r)))(hR:d6 f ds=ab R):
 ∃o,f d=ab o/\d6 f ds=(d6 f (ds.drop (i+1))>>=λr=>ab ((match o with | some y=>ys++[y] | none=>ys)++r)):=by
 have e:ds.drop i=d::ds.drop (i+1):=by
  obtain⟨hi,e⟩:=Wh.mp hd;rw[abH hi,e]
 rw[e,eI] at h;have h':=h.symm.trans hR;obtain⟨r,h1,h2⟩:=iS h';obtain⟨o,h3,h4⟩:=iS h1;refine⟨o,h3,?_⟩;obtain⟨r',h5,h6⟩:=iS h4;rw[h5,hR];rw[<-h2,<-f_ h6];show ab _=ab _;cases o with
 |none=>rfl
 |some y=>simp
def Dx(I:Nat->We->Prop)
 (turn:∀n s,I n s->wpAny (model prog w) A (Zj it) (λr v4=>match r with
  |none=>R (.ok .next) v4
  |some v=>wpAny (model prog w) A (aat target it v) (λ_ Uj=>wpAny (model prog w) A (assign target env v) (λ_ t0=>
    wpAny (model prog w) A (forIn ifs true λc r=>if r=true then do let ok<-isTrue c env (eval c env);pure (Xy ok) else pure (Xy r)) (λok s₃=>
     if ok=true then wpAny (model prog w) A (eval elt env) (λx s₄=>
      wpAny (model prog w) A (call (.builtin "list.append") [v0,x]) (λ_ s₅=>∃m,m<n/\I m s₅) (acE (model prog w) A env λe s'=>R (.error e) s') s₄) (acE (model prog w) A env λe s'=>R (.error e) s') s₃
     else∃m,m<n/\I m s₃) (acE (model prog w) A env λe s'=>R (.error e) s') t0) (acE (model prog w) A env λe s'=>R (.error e) s') Uj) (acE (model prog w) A env λe s'=>R (.error e) s') v4) (acE (model prog w) A env λe s'=>R (.error e) s') s)
 (n:Nat) (h:I n s):
 aae (model prog w) A (.compLoop (.ListComp elt [⟨target,iter,ifs,0⟩] scope pos) 0 it v0 env) R s:=by
 refine codeAny_loop rfl I (λn s hI=>?_) n h;show wpAny _ A ((compTurn (.ListComp elt [⟨target,iter,ifs,0⟩] scope pos) 0 it v0 env).onRaise (λx=>do noteFrame x env;theTreesLotGoes x)) _ _ s;refine wpAny_noted ?_;rw[compTurn_list];refine V4 (wpAny_standAt (V4 (Xz (turn n s hI) (λr v4 h₁=>?_) λ_ _ h'=>h')));cases r with
 |none=>exact V9 h₁
 |some v=>
  refine V4 (Xz h₁ (λ_ Uj h₁=>?_) λ_ _ h'=>h');refine V4 (Xz h₁ (λ_ t0 h₂=>V4 (Xz h₂ (λok s₃ h₃=>?_) λ_ _ h'=>h')) λ_ _ h'=>h');cases ok with
  |false=>exact V9 ⟨rfl,h₃⟩
  |true=>
   exact V4 (V4 (Xz h₃ (λx s₄ h₄=>V4 (Xz h₄ (λ_ s₅ h₅=>V9 (V9 ⟨rfl,h₅⟩)) λ_ _ h'=>h')) λ_ _ h'=>h'))
def Dc(X:Cx)(tg:Expr)(n:Nat)(σ:St):Prop:=∀(f8:List (Addr×Obj)) (s:We) (σ':St) (F H:Hp) (d:D) (ts:List D) (v:V) (u:Value),Inv X f8 σ' H s->Same F H->σ'.drop (max n 1)=σ->RelV v u->Den X.K F d v->Ul n d=ab ts->
 wpAny (model X.prog X.w) X.A (assign tg X.env u) (λ_ s'=>∃vs,Inv X f8 (vs.map some++σ) H s'/\DenL X.K F ts vs) X.xe s
def nu(X:Cx)(ifs:List Expr)(δt:DT):Prop:=∀(f8:List (Addr×Obj)) (s:We) (σ:St) (H:Hp) (Q:Bool->Hp->Prop),Inv X f8 σ H s->SO X.K (λ_ _=>False) δt σ H Q->
 wpAny (model X.prog X.w) X.A (forIn ifs true λc r=>if r=true then do let ok<-isTrue c X.env (eval c X.env);pure (Xy ok) else pure (Xy r)) (TP X f8 σ Q) X.xe s
def bW:nu X [] bO:=λf8 s σ H Q I ⟨F,ρ,S,w⟩=>wpAny_tests_nil ⟨H,I,w H F (Ext.refl S.fh)⟩
def eD(h:pF X (λ_ _=>False) c δ):nu X [c] δ:=λf8 s σ H Q I w=>wpAny_tests_one (h f8 s σ H Q I w)
def StE.cons{K:Wm}(s:StE K F H σ ρ)(h:DenL K F ts vs):StE K F H (vs.map some++σ) (ts.map (λt=>some (Sl.fz t))++ρ):=by
 refine⟨s.fh,λi sl e=>?_⟩;have hl:=h.len;by_cases hi:i<ts.length
 ·rw[Xb (by simpa using hi),Wj] at e;cases q:ts[i]? with
  |none=>rw[q] at e;cases e
  |some t=>
   rw[q] at e;cases e;obtain⟨v,e1,e2⟩:=h.get q;exact⟨v,by rw[Xb (by simp;omega),Wj,e1];rfl,e2⟩
 ·rw[W8 (by simpa using hi)] at e;obtain⟨v,e1,e2⟩:=s.den _ _ e;refine⟨v,?_,e2⟩;rw[W8 (by simp;omega)];simpa[hl] using e1
def WPB.take:WPB Xw F H (ab b) λb' H'=>b'=b/\∃F',Ext F H F' H':=λH' F' e=>⟨rfl,F',e⟩
def WP.take{K:Wm}:WP K Xw F H (ab d) λv H'=>∃F',Ext F H F' H'/\Den K F' d v:=λv H' F' e q=>⟨F',e,q⟩
def n8(env:Env)(p:Str×ZR):Str×ZR:=if (p.2== .free&&env.scope.kind== .function&&env.kindOf p.1==some .cell) then(p.1, .cell) else(p.1,p.2)
def ib(scope:Scope)(env:Env):(relabel scope env).names=scope.names.map (n8 env):=rfl
def Hr(env:Env)(p:Str×ZR):(n8 env p).1=p.1:=by unfold n8;split<;>rfl
def i7(env:Env)(x:Str):∀ns:List (Str×ZR),(ns.map (n8 env)).lookup x=(ns.lookup x).map λk=>(n8 env (x,k)).2
 |[]=>rfl
 |(m,k)::r=>by
  rw[Wb,Yg,Yg];have e:n8 env (m,k)=(m,(n8 env (m,k)).2):=aaF (Hr env (m,k)) rfl;rw[e]
  dsimp only
  by_cases hx:(x==m)=true
  ·have hm:x=m:=by simpa using hx
   subst hm;rw[hx];rfl
  ·have hx:(x==m)=false:=by simpa using hx
   rw[hx];exact i7 env x r
def wu(h:scope.names.lookup x=none):(relabel scope env).names.lookup x=none:=by
 rw[ib,i7,h];rfl
def wt(hc:∀y∈scope.names,y.2≠ .cell)(h:(relabel scope env).names.lookup x=some .cell\/(relabel scope env).names.lookup x=some .free):scope.names.lookup x=some .free:=by
 rw[ib,i7] at h;cases q:scope.names.lookup x with
 |none=>rw[q] at h;rcases h with h | h<;>cases h
 |some k=>
  rw[q] at h;have hk:k≠ .cell:=hc _ (X9 q);have h:(n8 env (x,k)).2= .cell\/(n8 env (x,k)).2= .free:=by simpa using h
  by_cases hf:k= .free
  ·rw[hf]
  ·have:(n8 env (x,k)).2=k:=by
    unfold n8;rw[ac6];simp[hf]
   rw[this] at h;rcases h with h | h
   ·exact ac_ h hk
   ·exact ac_ h hf
def n9(h:scope.names.lookup x=some .free):¬(relabel scope env).names.lookup x=some .local:=by
 rw[ib,i7,h];intro z;have z:(n8 env (x, .free)).2= .local:=by simpa using z
 unfold n8 at z;split at z<;>cases z
structure BlockEnd (X:Cx) (f8:List (Addr×Obj)) (C:Addr) (H':Hp) (s1:We):Prop where
 ns:∃m,s1.heap.Ns C m
 free:H' C=none
 nl:C≠X.env.locals
 nw:X.adg.heap.objs.size<=C
 nc:∀x c,X.env.cells.lookup x=some c->c≠C
 np:∀p∈X.pn++f8,p.1≠C
def xE{RR:Value->Addr->Result->We->Prop}
 (sc:CompSc X scope tn)(hn:tn.length=max n 1)(hc:X.calm=true)(hi:zZ X Xw tg iter δi)
 (hg:∀f8 cl C fp t0 H σ,Dc (k8 X scope tn f8 cl C fp t0 H) tg n σ)
 (ht:∀f8 cl C fp t0 H,nu (k8 X scope tn f8 cl C fp t0 H) ifs δt)
 (he:∀f8 cl C fp t0 H,PD (k8 X scope tn f8 cl C fp t0 H) (λ_ _=>False) elt δe)
 (I:Inv X f8 σ H s)(S:StE X.K F H σ ρ)(w:WP X.K Xw F H (bb n δi δt δe ρ) Q)
 (Fe:∀x c,cl.lookup x=some c->X.env.cells.lookup x=some c)(NK:∀x,scope.names.lookup x=some .free->∃c,cl.lookup x=some c)
 (UL:∀(s1:We) (C D:Addr) (H':Hp),Inv X f8 σ H' s1->Q (.ref D) H'->BlockEnd X f8 C H' s1->RR (.ref D) C (.ok .next) s1):
 wpAny (model X.prog X.w) X.A (eval iter X.env) (λx v4=>wpAny (model X.prog X.w) X.A (pyIter x) (λit t0=>wpAny (model X.prog X.w) X.A (newList []) (λv0 s₃=>
  wpAny (model X.prog X.w) X.A (newFunctionEnv scope X.env.globals cl [] X.env.qual none .none (some X.env)) (λOc s₄=>
   aae (model X.prog X.w) X.A (.compStart (.ListComp elt [⟨tg,iter,ifs,0⟩] scope pos) 0 it v0 {Oc with scope:=relabel scope X.env}) (RR v0 Oc.locals) s₄) X.xe s₃) X.xe t0) X.xe v4) X.xe s:=by
 refine cp (hi f8 s σ H (λJ H2=>∃F2 ds,Ext F H F2 H2/\ItD X.K F2 J ds/\WP X.K Xw F2 H2 (noex (d6 (gQ n δt δe ρ) ds)>>=eZ) Q) I ⟨F,ρ,S,?_⟩) λxv v4 h₁=>cp h₁ λit t0 h₂=>?_
 ·unfold bb at w;rcases(δi ρ).cs with hq | ⟨m,hq⟩ | ⟨ds,hq⟩
  ·rw[hq] at w;exact w.elim
  ·rw[hq] at w⊢;exact w
  ·rw[hq] at w⊢;exact λJ H' F' e q=>⟨F',ds,e,q,WP.ext e w⟩
 obtain⟨ia,fp,Um,J,H2,rfl,I2,T,Bq,f2,F2,ds,e2,T8,w2⟩:=h₂;obtain⟨R,hR,Tx,w2⟩:∃R,d6 (gQ n δt δe ρ) ds=ab R/\R.length<=lim/\WP X.K Xw F2 H2 (ab (.lst R)) Q:=by
  rcases(d6 (gQ n δt δe ρ) ds).cs with hq | ⟨m,hq⟩ | ⟨R,hq⟩
  ·rw[hq] at w2;exact w2.elim
  ·rw[hq] at w2;exact w2.elim
  ·rw[hq] at w2;obtain⟨h1,h2⟩:=AL (show WP X.K Xw F2 H2 (eZ R) Q from w2);exact⟨R,hq,h1,h2⟩
 refine WY (wpAny_newFunctionEnv sc.nocell (by intro y hy;simp at hy) (λh₁ L4 I8=>?_) sc.kind)
 dsimp only at L4 I8⊢
 generalize Ru:t0.heap.push {cls:= .type "list",dict:=none,data:= .seq ([]:List Value).toArray}=HL at L4 I8⊢;have hC:HL.objs.size=t0.heap.objs.size+1:=by rw[<-Ru,ZC]
 have DH:t0.heap.objs.size<HL.objs.size:=by rw[hC];exact abb _
 have old:∀b o,t0.heap.get? b=some o->h₁.get? b=some o:=λb o e=>I8.extBut b o (WB (Yn (Wi e) DH)) (V7 _ (Ru▸V7 _ e));have i3:h₁.get? t0.heap.objs.size=some {cls:= .type "list",data:= .seq ([]:List Value).toArray}:=I8.extBut _ _ (WB DH) (V7 _ (Ru▸Wr _ rfl));have nD:H2 t0.heap.objs.size=none:=I2.hok.fresh (Wg _);have nC:H2 HL.objs.size=none:=I2.hok.fresh (X8 DH);have gC:t0.heap.get? HL.objs.size=none:=acp (X8 DH);have fl:∀b∈fp,b<t0.heap.objs.size:=λb hb=>by
  obtain⟨o,e,_⟩:=T.obj 0 _ Bq b hb;exact Wi e
 generalize yb:k8 X scope tn f8 cl HL.objs.size fp t0 H2=X';have Ug:X'.Ok:=by
  subst yb;refine⟨I2.ok.mod,sc.kind,I2.ok.glob,I2.ok.blt,X8 DH,λx y c h1 h2=>I2.ok.inj x y c (Fe _ _ h1) (Fe _ _ h2),λx hx=>?_,λ_ _ h=>(by cases h),I2.ok.hd,I2.ok.frames, .inl rfl,
   λb hb=>⟨WB (Yn (fl b hb) DH),λx c h=>(f2 b hb).2.2.2.2.1 x c (Fe _ _ h)⟩,I2.bs,WX I2.ok.bsz I2.sz,λb o e hb=>?_,λb hb z=>?_,I2.stack,I2.stkFree⟩
  ·have hx:(relabel scope X.env).names.lookup x=some .cell\/(relabel scope X.env).names.lookup x=some .free:=hx;exact NK x (wt sc.nocell hx)
  ·rcases(f2 b hb).2.2.2.1 with z | z
   ·exact I2.ok.noex b o e z
   ·exact ac_ (WM (Wi (I2.ok.bs b o e).1) z) (W4 _)
  ·rcases Ws.mp (I2.stkSub b z) with q | q
   ·exact(f2 b hb).2.1 q
   ·exact(f2 b hb).2.2.1 q
 have Sm:∀b o,H2 b=some o->b≠t0.heap.objs.size:=λb o e=>bG e nD;have LP:∀{H':Hp},(∀b∈fp,H' b=none)->∀b∈fp,sM X' [] H' b:=λVi b hb=>by
  subst yb;refine⟨Vi b hb,WB (Yn (fl b hb) DH),λz=>Ug.exfs b hb z, .inl hb,λx c h=>(f2 b hb).2.2.2.2.1 x c (Fe _ _ h),λp hp=>?_⟩;rw[XY] at hp;exact(f2 b hb).2.2.2.2.2 p hp
 have I0:Inv X' [] (Xg (max n 1) none++σ) (upd H2 t0.heap.objs.size (.lst [])) {t0 with heap:=h₁,toks:=t0.toks+([]:List (Str×Value)).length}:=by
  subst yb;have RS:HOk X.prog X.w (upd H2 t0.heap.objs.size (.lst [])) h₁:=I2.hok.laid old (Wg _) ⟨WQ _,[],_, .nil,i3⟩;refine⟨Ug,rfl,I2.bare,Un.laid old (Wg _) nD,⟨_,L4,λi x v h1 h2 h3=>?_⟩,λx c h=>?_,?_,λx c h=>?_,λp hp=>?_,RS,?_⟩
  ·by_cases hi:i<max n 1
   ·rw[Xb (by simpa using hi),Yo,ac5 hi] at h2;cases h2
   ·have yc:tn.length<=i:=by omega
    have h1:(tn++bP tn X.N)[i]? =some x:=h1;rw[W8 yc] at h1;rw[W8 (by simpa using hi),Z7,<-hn] at h2;have hN:∃y,X.N[i - tn.length]? =some y/\(x,y)∈(bP tn X.N).zip X.N:=by
     have fJ:=(Wh.mp h1).1;have IX:i - tn.length<X.N.length:=by simpa[bP] using fJ
     refine⟨X.N[i - tn.length],V6 IX,?_⟩;refine aca.mpr ⟨i - tn.length,?_⟩;rw[abG];exact⟨h1,V6 IX⟩
    obtain⟨y,hy,hm⟩:=hN;have hV:(relabel scope X.env).names.lookup x=some .local\/(relabel scope X.env).names.lookup x=some .cell\/(relabel scope X.env).names.lookup x=some .free:=h3;rcases sc.vis _ hm with FW | ⟨Pf,Ik⟩
    ·have FW:scope.names.lookup x=none:=FW;have:(relabel scope X.env).names.lookup x=none:=wu FW;rw[this] at hV;rcases hV with z | z | z<;>cases z
    ·have Pf:x=y:=Pf;subst Pf;have Ik:scope.names.lookup x=some .free:=Ik;have hk:=sc.frees (x, .free) (X9 Ik) rfl;obtain⟨m,OW,t8⟩:=I2.loc;obtain⟨u,ru,lk⟩:=t8 _ x v hy h2 (by rcases hk with z | z;exact .inr (.inl z);exact .inr (.inr z));refine⟨u,ru, .inr ⟨?_,?_⟩⟩
     ·rcases hV with z | z | z
      ·exact ac_ z (n9 Ik)
      ·exact .inl z
      ·exact .inr z
     ·rcases lk with⟨z,_⟩ | ⟨_,c,US,Ii⟩
      ·rcases hk with q | q
       ·rw[show X.env.kindOf x=some .local from z] at q;cases q
       ·rw[show X.env.kindOf x=some .local from z] at q;cases q
      ·obtain⟨c',Ih⟩:=NK x Ik;have:=Fe _ _ Ih;rw[US] at this;cases this;obtain⟨o,ho,hd⟩:=Ii;exact⟨c,Ih,o,old _ _ ho,hd⟩
  ·obtain⟨v,o,ho,hd⟩:=I2.cell x c (Fe _ _ h);exact⟨v,o,old _ _ ho,hd⟩
  ·show upd H2 t0.heap.objs.size (.lst []) HL.objs.size=none;rw[aA (Xm DH)];exact nC
  ·have EU:=Fe _ _ h;obtain⟨v,q⟩:=I2.cell x c EU;rw[aA (WB q.lt)];exact I2.freeC x c EU
  ·rw[XY] at hp;obtain⟨e,nn,ne,nf,d⟩:=I2.pin p hp;have fJ:=Wi e;refine⟨old _ _ e,by rw[aA (WB fJ)];exact nn,WB (Yn fJ DH),λz=>?_,d⟩;rcases Ws.mp (I2.stkSub p.1 z) with q | q
   ·exact ne q
   ·exact nf q
  ·show (Xg (max n 1) none++σ).length=(tn++bP tn X.N).length;rw[Wq,Wq,Z7,hn,show (bP tn X.N).length=X.N.length from by simp[bP],I2.len]
 have loop:∀s₃:We,s₃={t0 with heap:=h₁,toks:=t0.toks+([]:List (Str×Value)).length}->
  aae (model X.prog X.w) X.A (.compLoop (.ListComp elt [⟨tg,iter,ifs,0⟩] scope pos) 0 (.ref ia) (.ref t0.heap.objs.size) (compEnvC scope cl HL.objs.size X.env))
   (RR (.ref t0.heap.objs.size) HL.objs.size) s₃:=by
  intro s₃ DM;have Fv:X'.env=compEnvC scope cl HL.objs.size X.env:=by subst yb;rfl
  have hA:X'.A=X.A:=by subst yb;rfl
  have hP:X'.prog=X.prog:=by subst yb;rfl
  have hw:X'.w=X.w:=by subst yb;rfl
  have hK:X'.K=X.K:=by subst yb;rfl
  have Vy:X'.xe=λ_ _=>False:=by subst yb;rfl
  have KZ:X'.calm=true:=by subst yb;exact hc
  have U2:X'.fs=pY X.stack:=by subst yb;rfl
  have hex:X'.ex=fp:=by subst yb;rfl
  have UJ:X'.adf=H2:=by subst yb;rfl
  have TY:X'.adg=t0:=by subst yb;rfl
  have pass:∀{α:Type}{t:Sem α}{P:α->We->Prop}{E':Value->We->Prop}{s:We},wpAny (model X'.prog X'.w) X'.A t P X'.xe s->wpAny (model X.prog X.w) X.A t P E' s:=λ{α t P E' s} h=>by
   rw[hP,hw,hA,Vy] at h;exact Xz h (λ_ _ q=>q) λ_ _ q=>q.elim
  refine Dx (λm s'=>∃(i:Nat) (F' H':Hp) (vs:List V) (ys:List D) (σt:St),m=ds.length - i/\i<=ds.length/\σt.length=max n 1/\Inv X' [] (σt++σ) H' s'/\Um i s'.heap/\(∀b∈fp,H' b=none)/\Ext F2 H2 F' H'/\
   H' t0.heap.objs.size=some (.lst vs)/\F' t0.heap.objs.size=none/\DenL X.K F' ys vs/\d6 (gQ n δt δe ρ) ds=(d6 (gQ n δt δe ρ) (ds.drop i)>>=λr=>ab (ys++r))) ?_ ds.length ?_
  ·rintro m s' ⟨i,F',H',vs,ys,σt,rfl,RI,VA,I',lX,Tq,Am,hD,fD,QU,heq⟩;by_cases fJ:i<ds.length
   ·
    obtain⟨d,hd⟩:∃d,ds[i]? =some d:=⟨_,V6 fJ⟩
    obtain⟨RG,L8⟩:=(T8 F' H' i Am.ff Am.fh).1 d hd;obtain⟨o,ho,ON⟩:=Ah hd heq hR;have R8:ys.length<=lim:=by
     rw[heq] at hR;obtain⟨r,_,hr⟩:=iS hR;rw[<-f_ hr,Wq] at Tx;omega
    obtain⟨ts,Vt,ho⟩:=iS ho;refine pass ?_;rw[hP,hw];refine cp (T.item X' hP hw hK KZ i [] s' (σt++σ) H' X'.xe I' (LP Tq) lX RG) ?_;rintro r s1 ⟨u,rfl,h1⟩;refine pass ?_;rw[hP,hw];refine cp h1 ?_;rintro _ s2 ⟨x,H3,I3,rx,y3,N1,QE⟩;obtain⟨F3,Ig,q3⟩:=L8 x H3 y3;have Tu:H3 t0.heap.objs.size=some (.lst vs):=Ig.hh _ _ hD;have UB:F3 t0.heap.objs.size=none:=by rw[Ig.old hD (λ_ z=>nomatch z)];exact fD
    have I3':=I3.pinned (LP QE) (T.obj _ _ N1);have Cm:∀{σ7:St}{H7:Hp}{s7:We},Inv X' ([]++rX fp s2.heap) σ7 H7 s7->Um (i+1) s7.heap/\∀b∈fp,H7 b=none:=λ{σ7 H7 s7} I7=>
     ⟨T.keep _ _ _ N1 λb hb o e=>(I7.pin (b,o) (Xa _ (Xa _ (i9 hb e)))).1,λb hb=>by
      obtain⟨o,e,_⟩:=T.obj _ _ N1 b hb;exact(I7.pin (b,o) (Xa _ (Xa _ (i9 hb e)))).2.1⟩
    have U3:Dc X' tg n σ:=by subst yb;exact hg _ _ _ _ _ _ _
    have Vr:nu X' ifs δt:=by subst yb;exact ht _ _ _ _ _ _
    have UX:PD X' (λ_ _=>False) elt δe:=by subst yb;exact he _ _ _ _ _ _
    refine pass ?_;rw[<-Fv];refine cp (U3 _ s2 (σt++σ) F3 H3 d ts x u I3' Ig.fh (by rw[<-VA];simp) rx (by rw[hK];exact q3) Vt) ?_;rintro _ s4 ⟨vt,I4,dt⟩;rw[hK] at dt;have S4:StE X.K F3 H3 (vt.map some++σ) (ts.map (λt=>some (Sl.fz t))++ρ):=StE.cons ((S.ext e2).ext (Am.trans Ig)) dt;obtain⟨b,hb,ho⟩:=iS ho;refine pass ?_
    try rw[<-Fv]
    refine cp (Vr _ s4 _ H3 (λb' H5=>b'=b/\∃F5,Ext F3 H3 F5 H5) I4 ⟨F3,_,by rw[hK];exact S4,by rw[hb];exact WPB.take⟩) ?_;rintro b' s5 ⟨H5,I5,rfl,F5,LL⟩;have Rt:H5 t0.heap.objs.size=some (.lst vs):=LL.hh _ _ Tu;have Tn:F5 t0.heap.objs.size=none:=by rw[LL.old Tu (λ_ z=>nomatch z)];exact UB
    cases b' with
    |false=>
     rw[ac6 Wz] at ho⊢;obtain rfl:=f_ ho;refine⟨ds.length - (i+1),by omega,i+1,F5,H5,vs,ys,vt.map some,rfl,fJ,?_,I5.unpinned,(Cm I5).1,(Cm I5).2,Am.trans (Ig.trans LL),Rt,Tn,DenL.mono (Ig.trans LL).ff QU,ON⟩;have h1:=I5.len;have h2:=I3.len;rw[Wq] at h1 h2;omega
    |true=>
     rw[ac5 rfl] at ho⊢;obtain⟨yv,hy,ho⟩:=iS ho;obtain rfl:=f_ ho;refine pass ?_
     try rw[<-Fv]
     refine cp (UX _ s5 _ H5 (λv H6=>∃F6,Ext F5 H5 F6 H6/\Den X.K F6 yv v) I5 ⟨F5,_,by rw[hK];exact S4.ext LL,by rw[hy,hK];exact WP.take⟩) ?_;rintro xv s6 ⟨v,H6,I6,rv,F6,QD,qv⟩;have UI:H6 t0.heap.objs.size=some (.lst vs):=QD.hh _ _ Rt;have To:F6 t0.heap.objs.size=none:=by rw[QD.old Rt (λ_ z=>nomatch z)];exact Tn
     have R3:vs.length<Ww:=by
      have:=QU.len;have:=fP;omega
     refine pass ?_;refine cp (ur _ s6 _ H6 (.ref t0.heap.objs.size) [v] (.ref t0.heap.objs.size) [xv] (λ_ H7=>H7=upd H6 t0.heap.objs.size (.lst (vs++[v]))) I6 rfl (.cons rv .nil) ⟨_,vs,v,rfl,rfl,UI,R3,rfl⟩) ?_;rintro _ s7 ⟨_,H7,I7,_,rfl⟩;have UA:Ext F2 H2 F6 (upd H6 t0.heap.objs.size (.lst (vs++[v]))):=by
      have e:=Am.trans (Ig.trans (LL.trans QD));refine⟨λb u q=>?_,e.ff,λb u q=>?_,e.new⟩
      ·rw[aA (Sm b u q)];exact e.hh b u q
      ·rw[aA (λz=>by rw[z,To] at q;cases q)];exact e.fh b u q
     refine⟨ds.length - (i+1),by omega,i+1,F6,_,vs++[v],ys++[yv],vt.map some,rfl,fJ,?_,I7.unpinned,(Cm I7).1,(Cm I7).2,UA,aK,To,
      DenL.append (DenL.mono (Ig.trans (LL.trans QD)).ff QU) (.cons qv .nil),ON⟩
     have h1:=I5.len;have h2:=I3.len;rw[Wq] at h1 h2;omega
   ·
    have hi:i=ds.length:=by omega
    subst hi;rw[List.drop_length] at heq;have UM:R=ys:=by
     rw[heq] at hR;have hR:ab (ys++[])=ab R:=hR;rw[<-f_ hR,XY]
    subst UM;refine pass ?_;rw[hP,hw];refine cp (T.done X' hP hw hK KZ ds.length [] s' (σt++σ) H' X'.xe I' (LP Tq) lX ((T8 F' H' ds.length Am.ff Am.fh).2 (Wg _))) ?_;rintro r s1 ⟨rfl,I1⟩;obtain⟨m,hm,_⟩:=I1.loc;rw[Fv] at hm;have UH:H' HL.objs.size=none:=by
     have:=I1.free;rw[Fv] at this;exact this
    have u:=I1.base;rw[U2,hex,UJ,TY] at u;have IY:s1.os=t0.os:=by have:=I1.os;rw[TY] at this;exact this
    have OP:=I1.hok;rw[hP,hw] at OP;refine UL s1 HL.objs.size t0.heap.objs.size H' (I2.call' IY u OP I1.bare (λb hb=>⟨(f2 b hb).2.2.2.1,(f2 b hb).2.1,(f2 b hb).2.2.2.2.1,(f2 b hb).2.2.2.2.2⟩)) ?_
     ⟨⟨m,hm⟩,UH,Xm (Yn I2.lt DH),WX I2.sz (X8 DH),λx c q z=>?_,λp hp z=>?_⟩
    rotate_left
    ·obtain⟨v,q'⟩:=I2.cell x c q;exact ac_ (Yn q'.lt DH) (by rw[z];exact W4 _)
    ·exact ac_ (Yn (Wi (I2.pin p hp).1) DH) (by rw[z];exact W4 _)
    refine WP.fin w2 (F':=upd F' t0.heap.objs.size (.lst vs)) ⟨Am.hh,λb u q=>?_,λb u q=>?_,λa ha=>?_⟩ ⟨_,vs,rfl,aK,DenL.mono (λb u q=>?_) QU,Tx⟩
    ·rw[aA (λz=>by have:=Am.ff b u q;rw[z,fD] at this;cases this)];exact Am.ff b u q
    ·by_cases z:b=t0.heap.objs.size
     ·rw[z,aK] at q;rw[z,hD];exact q
     ·rw[aA z] at q;exact Am.fh b u q
    ·rcases Am.new a ha with q | q
     ·exact .inl (by rw[aA (λz=>ha (by rw[z];exact nD))];exact q)
     ·exact .inr q
    ·rw[aA (λz=>by rw[z,fD] at q;cases q)];exact q
  ·rw[DM];refine⟨0,F2,_,[],[],Xg (max n 1) none,by simp,WQ _,by simp,I0,T.keep _ _ _ Bq (λb hb o e=>old b o e),λb hb=>?_,⟨λb u q=>?_,Same.refl _,λb u q=>?_,λ_ _=> .inl rfl⟩,aK,Same.free e2.fh nD,rfl,?_⟩
   ·rw[aA (WB (fl b hb))];exact(f2 b hb).1
   ·rw[aA (Sm b u q)];exact q
   ·rw[aA (Sm b u (e2.fh b u q))];exact e2.fh b u q
   ·rw[List.drop_zero];rcases(d6 (gQ n δt δe ρ) ds).cs with hq | ⟨m,hq⟩ | ⟨R,hq⟩<;>rw[hq]<;>rfl
 exact codeAny_compStart_list (loop _ rfl) (T.self X.A 0 _ _ _ (T.keep _ _ _ Bq (λb hb o e=>old b o e)) (loop _ rfl))
def Inv.block{C:Addr}(I:Inv X f8 σ H' s1)(b:BlockEnd X f8 C H' s1)(O_:XB C s1.heap h'):Inv X f8 σ H' {s1 with heap:=h'}:=
 I.turned (λa o ha e=>(O_.2 a ha).trans e) b.free b.nl (.inr b.nw) b.nc b.np
section
variable{X:Cx}{Xw:Nat->Hp->Prop}{elt iter tg:Expr}{ifs:List Expr}{scope:Scope}{pos:Pos}{tn:List Str}{n:Nat}{δi:DA}{δt:DT}{δe:DE}
def bY(sc:CompSc X scope tn)(hn:tn.length=max n 1)(hc:X.calm=true)(hi:zZ X Xw tg iter δi)
 (hg:∀f8 cl C fp t0 H σ,Dc (k8 X scope tn f8 cl C fp t0 H) tg n σ)
 (ht:∀f8 cl C fp t0 H,nu (k8 X scope tn f8 cl C fp t0 H) ifs δt)
 (he:∀f8 cl C fp t0 H,PD (k8 X scope tn f8 cl C fp t0 H) (λ_ _=>False) elt δe)
 (hs:∀x,Z3 iter X.env x=pure x:=by intro _;rfl):
 PD X Xw (.ListComp elt [⟨tg,iter,ifs,0⟩] scope pos) (bb n δi δt δe):=by
 intro f8 s σ H Q I ⟨F,ρ,S,w⟩;obtain⟨cl,FP,Fe,NK⟩:=qi λy hy hf=>I.ok.has y.1 (sc.frees y hy hf);rw[eval_ListComp];refine acs rfl hs FP sc.kind sc.names (xE (RR:=λv0 C=>compPost (model X.prog X.w) X.A X.xe none (EP X f8 σ Q) v0 C) sc hn hc hi hg ht he I S w Fe NK λs1 C D H' I1 q b=>?_);obtain⟨m,hm⟩:=b.ns;exact⟨m,hm,λh' O_=>⟨.ref D,H',Inv.block I1 b O_,rfl,q⟩⟩
end
inductive Out where
 |nx (ρ:cK) | rt (d:D)
abbrev DS:=cK->M Out
structure StOk (K:Wm) (s0 adf F H:Hp) (σ:St) (ρ:cK):Prop where
 ext:Ext s0 adf F H
 st:StE K F H σ ρ
 len:ρ.length=σ.length
 own:∀(i:Nat) (c:C) (a:Addr),ρ[i]? =some (some (.ow c))->σ[i]? =some (some (.ref a))->adf a=none
 sep:∀(i j:Nat) (c c':C) (a:Addr),ρ[i]? =some (some (.ow c))->ρ[j]? =some (some (.ow c'))->σ[i]? =some (some (.ref a))->σ[j]? =some (some (.ref a))->i=j
def WPS(K:Wm)(Xw:Nat->Hp->Prop)(s0 adf:Hp)(m:M Out)(Dn:Ends):Prop:=
 match m with
 |none=>False
 |some (.ok (.nx ρ))=>∀σ F H,StOk K s0 adf F H σ ρ->Dn.nx σ H
 |some (.ok (.rt d))=>∀v F H,Ext s0 adf F H->Den K F d v->Dn.rt v H
 |some (.ex n)=>∀F H,Ext s0 adf F H->Xw n H
def tS(K:Wm)(Xw:Nat->Hp->Prop)(s0 adf:Hp)(τ:DS):TS:=λDn σ H=>∃F ρ,StOk K s0 adf F H σ ρ/\WPS K Xw s0 adf (τ ρ) Dn
def iR(X:Cx)(Xw:Nat->Hp->Prop)(st:Stmt)(τ:DS):Prop:=∀s0 adf,PS X st (tS X.K Xw s0 adf τ)
def PSDs(X:Cx)(Xw:Nat->Hp->Prop)(st:List Stmt)(τ:DS):Prop:=∀s0 adf,PSs X st (tS X.K Xw s0 adf τ)
def PS.weak{st:Stmt}(h:PS X st t)(k:∀D σ H,t' D σ H->t D σ H):PS X st t':=λf8 s σ H D I w=>h f8 s σ H D I (k D σ H w)
def PSs.weak{st:List Stmt}(h:PSs X st t)(k:∀D σ H,t' D σ H->t D σ H):PSs X st t':=λf8 s σ H D I w=>h f8 s σ H D I (k D σ H w)
section
variable{K:Wm}{s0 adf F H F' H':Hp}{σ:St}{ρ:cK}
def StOk.ext'(s:StOk K s0 adf F H σ ρ)(e:Ext F H F' H'):StOk K s0 adf F' H' σ ρ:=⟨s.ext.trans e,s.st.ext e,s.len,s.own,s.sep⟩
def StOk.set(s:StOk K s0 adf F H σ ρ){d:D}(h:Den K F d v):StOk K s0 adf F H (σ.set i (some v)) (ρ.set i (some (.fz d))):=by
 have hl:=s.len;have get:∀(j:Nat) (sl:Sl),(ρ.set i (some (.fz d)))[j]? =some (some sl)->(j=i/\i<ρ.length/\sl= .fz d)\/(j≠i/\ρ[j]? =some (some sl)):=λj sl e=>by
  by_cases hj:j=i
  ·subst hj;have hi:j<ρ.length:=by
    have:=(Wh.mp e).1;simpa using this
   rw[WC hi] at e;cases e;exact .inl ⟨rfl,hi,rfl⟩
  ·rw[Wt (Xp hj)] at e;exact .inr ⟨hj,e⟩
 refine⟨s.ext,⟨s.st.fh,λj sl e=>?_⟩,by simp[hl],λj c a e e'=>?_,λj k c c' a e1 e2 e3 e4=>?_⟩
 ·rcases get j sl e with⟨rfl,hi,rfl⟩ | ⟨hj,e⟩
  ·exact⟨v,by rw[WC (by omega)],h⟩
  ·obtain⟨u,h1,h2⟩:=s.st.den j sl e;exact⟨u,by rw[Wt (Xp hj)];exact h1,h2⟩
 ·rcases get j _ e with⟨_,_,z⟩ | ⟨hj,e⟩
  ·cases z
  ·rw[Wt (Xp hj)] at e';exact s.own j c a e e'
 ·rcases get j _ e1 with⟨_,_,z⟩ | ⟨hj,e1⟩
  ·cases z
  ·rcases get k _ e2 with⟨_,_,z⟩ | ⟨hk,e2⟩
   ·cases z
   ·rw[Wt (Xp hj)] at e3;rw[Wt (Xp hk)] at e4;exact s.sep j k c c' a e1 e2 e3 e4
def StOk.setNew(s:StOk K s0 adf F H σ ρ){o:HO}(n:H a=none)(h:DenC K F c₀ o):
 StOk K s0 adf F (upd H a o) (σ.set i (some (.ref a))) (ρ.set i (some (.ow c₀))):=by
 have hle:=s.len;have e0:=Ext.free (o:=o) s.st.fh n;have nF:F a=none:=Same.free s.st.fh n;have get:∀(j:Nat) (sl:Sl),(ρ.set i (some (.ow c₀)))[j]? =some (some sl)->(j=i/\i<ρ.length/\sl= .ow c₀)\/(j≠i/\ρ[j]? =some (some sl)):=λj sl e=>by
  by_cases hj:j=i
  ·subst hj;have hi:j<ρ.length:=by
    have:=(Wh.mp e).1;simpa using this
   rw[WC hi] at e;cases e;exact .inl ⟨rfl,hi,rfl⟩
  ·rw[Wt (Xp hj)] at e;exact .inr ⟨hj,e⟩
 have old:∀(j:Nat) (c:C) (b:Addr),ρ[j]? =some (some (.ow c))->σ[j]? =some (some (.ref b))->b≠a:=λj c b e e' z=>by
  obtain⟨u,h1,b',o,h2,h3,_⟩:=s.st.den j _ e;rw[h1] at e';cases e';cases h2;rw[z,n] at h3;cases h3
 refine⟨s.ext.trans e0,⟨e0.fh,λj sl e=>?_⟩,by simp[hle],λj c b e e'=>?_,λj k c c' b e1 e2 e3 e4=>?_⟩
 ·rcases get j sl e with⟨rfl,hi,rfl⟩ | ⟨hj,e⟩
  ·exact⟨.ref a,by rw[WC (by omega)],a,_,rfl,aK,nF,h⟩
  ·obtain⟨u,h1,h2⟩:=s.st.den j sl e;exact⟨u,by rw[Wt (Xp hj)];exact h1,h2.ext e0⟩
 ·rcases get j _ e with⟨rfl,hi,_⟩ | ⟨hj,e⟩
  ·rw[WC (by omega)] at e';cases e';exact Same.free s.ext.hh n
  ·rw[Wt (Xp hj)] at e';exact s.own j c b e e'
 ·rcases get j _ e1 with⟨rfl,hi,_⟩ | ⟨hj,e1⟩
  ·rw[WC (by omega)] at e3;cases e3;rcases get k _ e2 with⟨rfl,_,_⟩ | ⟨hk,e2⟩
   ·rfl
   ·rw[Wt (Xp hk)] at e4;exact ac_ rfl (old k c' a e2 e4)
  ·rcases get k _ e2 with⟨RM,hi,_⟩ | ⟨hk,e2⟩
   ·rw[RM,WC (by omega)] at e4;cases e4;rw[Wt (Xp hj)] at e3;exact ac_ rfl (old j c a (by assumption) e3)
   ·rw[Wt (Xp hj)] at e3;rw[Wt (Xp hk)] at e4;exact s.sep j k c c' b e1 e2 e3 e4
def StOk.chg(s:StOk K s0 adf F H σ ρ){c c₀:C}(hi:ρ[i]? =some (some (.ow c)))(ha:σ[i]? =some (some (.ref a)))(h:DenC K F c₀ o₀):
 StOk K s0 adf F (upd H a o₀) σ (ρ.set i (some (.ow c₀))):=by
 have hle:=s.len;have h0:=s.own i c a hi ha;obtain⟨u,q1,a',o,q2,q3,q4,q5⟩:=s.st.den i _ hi;rw[ha] at q1;cases q1;cases q2;have Il:i<ρ.length:=(Wh.mp hi).1;have get:∀(j:Nat) (sl:Sl),(ρ.set i (some (.ow c₀)))[j]? =some (some sl)->(j=i/\sl= .ow c₀)\/(j≠i/\ρ[j]? =some (some sl)):=λj sl e=>by
  by_cases hj:j=i
  ·subst hj;rw[WC Il] at e;cases e;exact .inl ⟨rfl,rfl⟩
  ·rw[Wt (Xp hj)] at e;exact .inr ⟨hj,e⟩
 have fh:Same F (upd H a o₀):=λb o e=>by
  rw[aA (λz=>by rw[z,q4] at e;cases e)];exact s.st.fh b o e
 refine⟨⟨λb o e=>?_,s.ext.ff,fh,s.ext.new⟩,⟨fh,λj sl e=>?_⟩,by simp[hle],λj c' b e e'=>?_,λj k c1 c2 b e1 e2 e3 e4=>?_⟩
 ·rw[aA (λz=>by rw[z,h0] at e;cases e)];exact s.ext.hh b o e
 ·rcases get j sl e with⟨rfl,rfl⟩ | ⟨hj,e⟩
  ·exact⟨.ref a,ha,a,_,rfl,aK,q4,h⟩
  ·obtain⟨u,h1,h2⟩:=s.st.den j sl e;refine⟨u,h1,?_⟩;cases sl with
   |fz d=>exact h2
   |ow c'=>
    obtain⟨b,o',r1,r2,r3,r4⟩:=h2;refine⟨b,o',r1,?_,r3,r4⟩;rw[aA (λz=>hj (s.sep j i c' c a e hi (by rw[h1,r1,z]) ha))];exact r2
 ·rcases get j _ e with⟨rfl,_⟩ | ⟨hj,e⟩
  ·rw[ha] at e';cases e';exact h0
  ·exact s.own j c' b e e'
 ·have k1:∃c,ρ[j]? =some (some (.ow c)):=by
   rcases get j _ e1 with⟨rfl,_⟩ | ⟨_,e⟩
   ·exact⟨c,hi⟩
   ·exact⟨_,e⟩
  have k2:∃c,ρ[k]? =some (some (.ow c)):=by
   rcases get k _ e2 with⟨rfl,_⟩ | ⟨_,e⟩
   ·exact⟨c,hi⟩
   ·exact⟨_,e⟩
  obtain⟨_,k1⟩:=k1;obtain⟨_,k2⟩:=k2;exact s.sep j k _ _ b k1 k2 e3 e4
def frz(i:Nat)(ρ:cK):cK:=match ρ[i]? with
 |some (some (.ow c))=>ρ.set i (some (.fz c.d))
 |_=>ρ
def StOk.frz(s:StOk K s0 adf F H σ ρ)(i:Nat)(obj:Addr->Obj):(∃a o,H a=some o/\DenC K F (ρ[i]?.elim (.lst []) λx=>x.elim (.lst []) λy=>match y with | .ow c=>c | _=> .lst []) o/\σ[i]? =some (some (.ref a))/\StOk K s0 adf (upd F a (pH (obj a) o)) (upd H a (pH (obj a) o)) σ (frz i ρ))\/frz i ρ=ρ:=by
 unfold L3.frz;split
 ·rename_i c₀ hi;have hle:=s.len;obtain⟨u,ha,a,o,rfl,q3,q4,LY⟩:=s.st.den i _ hi;refine .inl ⟨a,o,q3,by rw[hi];exact LY,ha,?_⟩;have h0:=s.own i _ a hi ha;have Il:i<ρ.length:=(Wh.mp hi).1;have ff:Same F (upd F a (pH (obj a) o)):=λb o e=>by rw[aA (λz=>by rw[z,q4] at e;cases e)];exact e
  have fh:Same (upd F a (pH (obj a) o)) (upd H a (pH (obj a) o)):=λb o e=>by
   by_cases z:b=a
   ·rw[z,aK] at e⊢;exact e
   ·rw[aA z] at e⊢;exact s.st.fh b o e
  have get:∀(j:Nat) (sl:Sl),(ρ.set i (some (.fz c₀.d)))[j]? =some (some sl)->(j=i/\sl= .fz c₀.d)\/(j≠i/\ρ[j]? =some (some sl)):=λj sl e=>by
   by_cases hj:j=i
   ·subst hj;rw[WC Il] at e;cases e;exact .inl ⟨rfl,rfl⟩
   ·rw[Wt (Xp hj)] at e;exact .inr ⟨hj,e⟩
  refine⟨⟨λb u q=>?_,s.ext.ff.trans ff,fh,λb hb=>?_⟩,⟨fh,λj sl e=>?_⟩,by simp[hle],λj c' b e e'=>?_,λj k c1 c2 b e1 e2 e3 e4=>?_⟩
  ·rw[aA (λz=>by rw[z,h0] at q;cases q)];exact s.ext.hh b u q
  ·rcases s.ext.new b hb with q | q
   ·exact .inl (by rw[aA (λz=>hb (by rw[z];exact h0))];exact q)
   ·exact .inr q
  ·rcases get j sl e with⟨rfl,rfl⟩ | ⟨hj,e⟩
   ·exact⟨.ref a,ha,DenC.den LY ff aK⟩
   ·obtain⟨u,h1,h2⟩:=s.st.den j sl e;refine⟨u,h1,?_⟩;cases sl with
    |fz d=>exact Den.mono ff h2
    |ow c'=>
     obtain⟨b,o',r1,r2,r3,r4⟩:=h2;have jI:b≠a:=λz=>hj (s.sep j i c' _ a e hi (by rw[h1,r1,z]) ha);exact⟨b,o',r1,by rw[aA jI];exact r2,by rw[aA jI];exact r3,DenC.mono ff r4⟩
  ·rcases get j _ e with⟨_,z⟩ | ⟨hj,e⟩
   ·cases z
   ·exact s.own j c' b e e'
  ·rcases get j _ e1 with⟨_,z⟩ | ⟨_,e1⟩
   ·cases z
   ·rcases get k _ e2 with⟨_,z⟩ | ⟨_,e2⟩
    ·cases z
    ·exact s.sep j k _ _ b e1 e2 e3 e4
 ·exact .inr rfl
end
def join(F H:Hp):Hp:=λa=>match F a with
 |some o=>some o
 |none=>H a
def StOk.rebase{K:Wm}{s0 adf F H:Hp}(s:StOk K s0 adf F H σ ρ):StOk K F (join F adf) F H σ ρ/\∀F' H',Ext F (join F adf) F' H'->Ext s0 adf F' H':=by
 have hj:Same (join F adf) H:=λb o e=>by
  unfold join at e;cases q:F b with
  |some u=>rw[q] at e;cases e;exact s.st.fh b _ q
  |none=>rw[q] at e;exact s.ext.hh b o e
 have h0:Same adf (join F adf):=λb o e=>by
  unfold join;cases q:F b with
  |some u=>
   have h1:=s.st.fh b u q;rw[s.ext.hh b o e] at h1;exact h1.symm
  |none=>exact e
 refine⟨⟨⟨hj,Same.refl _,s.st.fh,λ_ _=> .inl rfl⟩,s.st,s.len,λi c a e e'=>?_,s.sep⟩,λF' H' x=>⟨h0.trans x.hh,s.ext.ff.trans x.ff,x.fh,λa ha=>?_⟩⟩
 ·have h1:=s.own i c a e e';obtain⟨v,q1,a',o,q2,q3,q4,_⟩:=s.st.den i _ e;rw[e'] at q1;cases q1;cases q2;unfold join;rw[q4];exact h1
 ·have:join F adf a≠none:=by
   cases q:adf a with
   |none=>exact ac_ q ha
   |some o=>rw[h0 a o q];exact λz=>nomatch z
  rcases s.ext.new a ha with p | p
  ·rcases x.new a this with q | ⟨ts,q⟩
   ·exact .inl (q.trans p)
   ·cases z:adf a with
    |none=>exact ac_ z ha
    |some o=>
     rw[h0 a o z] at q;exact .inr ⟨ts,q⟩
  ·exact .inr p
def StOk.unbase{K:Wm}{s0 adf F U F' H':Hp}(k:∀F' H',Ext F U F' H'->Ext s0 adf F' H')(s:StOk K F U F' H' σ ρ)(h:Same adf U):StOk K s0 adf F' H' σ ρ:=
 ⟨k _ _ s.ext,s.st,s.len,λi c a e e'=>Same.free h (s.own i c a e e'),s.sep⟩
def DW{K:Wm}{s0 adf F H:Hp}(s:StOk K s0 adf F H σ ρ):Same adf (join F adf):=λb o e=>by
 unfold join;cases q:F b with
 |some u=>
  have h1:=s.st.fh b u q;rw[s.ext.hh b o e] at h1;exact h1.symm
 |none=>exact e
def Inv.refrz(I:Inv X f8 σ H s)(e:H a=some o)
 (ho:o'=o\/∃u,o'= .frz ((s.heap.get? a).getD {cls:= .none,data:= .fields #[]}) u/\((∃k,o= .dT k/\u= .dT k)\/∃k,o= .dK k/\u= .dK k)):Inv X f8 σ (upd H a o') s:=by
 rcases ho with rfl | ⟨u,rfl,hu⟩
 ·have:upd H a o'=H:=by
   funext b;by_cases z:b=a
   ·rw[z,aK,e]
   ·rw[aA z]
  rw[this];exact I
 have Vk:o=u:=by rcases hu with⟨k,h1,h2⟩ | ⟨k,h1,h2⟩<;>rw[h1,h2]
 subst Vk;have nt:∀ts,o≠ .tup ts:=λts z=>by rcases hu with⟨k,h1,_⟩ | ⟨k,h1,_⟩<;>rw[h1] at z<;>cases z
 have nf:∀ob v,o≠ .frz ob v:=λob v z=>by rcases hu with⟨k,h1,_⟩ | ⟨k,h1,_⟩<;>rw[h1] at z<;>cases z
 have nb:∀p,o≠ .tbl p:=λp z=>by rcases hu with⟨k,h1,_⟩ | ⟨k,h1,_⟩<;>rw[h1] at z<;>cases z
 have no:∀p,o≠ .own p:=λp z=>by rcases hu with⟨k,h1,_⟩ | ⟨k,h1,_⟩<;>rw[h1] at z<;>cases z
 have ne:∀b,H b=none->b≠a:=λb hb z=>by rw[z,e] at hb;cases hb
 have hk:=I.hok a o e;have fJ:=hk.lt;obtain⟨ob,O1⟩:∃ob,s.heap.get? a=some ob:=by
  rcases hu with⟨k,h1,_⟩ | ⟨k,h1,_⟩
  ·subst h1;obtain⟨_,_,_,_,ob,_,_,q,_⟩:=hk;exact⟨ob,q⟩
  ·subst h1;obtain⟨_,_,_,_,ob,_,_,q,_⟩:=hk;exact⟨ob,q⟩
 rw[O1];refine⟨I.ok,I.os,I.bare,⟨I.base.keep,I.base.slot,λb q h1 h2 h3=>?_,I.base.there,λb xs q=>?_,λb q1 v q=>?_,λb ps q=>?_⟩,I.loc,I.cell,?_,λx c q=>?_,λp hp=>?_,λb v q=>?_,I.len⟩
 ·have:=I.base.free b q h1 h2 h3;rw[aA (ne b this)];exact this
 ·have:=I.base.tups b xs q;rw[aA (λz=>by rw[z,e] at this;exact nt xs (WW this))];exact this
 ·have:=I.base.frzs b q1 v q;rw[aA (λz=>by rw[z,e] at this;exact nf _ _ (WW this))];exact this
 ·obtain⟨m,this⟩:=I.base.tbls b ps q;exact⟨m,by rw[aA (λz=>by rw[z,e] at this;exact nb _ (WW this))];exact this⟩
 ·rw[aA (ne _ I.free)];exact I.free
 ·rw[aA (ne _ (I.freeC x c q))];exact I.freeC x c q
 ·obtain⟨h1,h2,h3⟩:=I.pin p hp;exact⟨h1,by rw[aA (ne _ h2)];exact h2,h3⟩
 ·have st:∀{c:Addr}{v:HO},ObjOk X.prog X.w H s.heap c v->ObjOk X.prog X.w (upd H a (.frz ob o)) s.heap c v:=λ{c v} k=>k.stay (λ_ _ _ q=>q)
   (λc' q=>by rw[aA (λz=>by rw[z,e] at q;exact no _ (WW q))];exact q) λc' xs q=>by rw[aA (λz=>by rw[z,e] at q;exact nt _ (WW q))];exact q
  by_cases z:b=a
  ·subst z;rw[show (some ob).getD _=ob from rfl,aK] at q;cases q;exact⟨O1,st hk⟩
  ·rw[aA z] at q;exact st (I.hok b v q)
def aD(a b:DS):DS:=λρ=>a ρ>>=λo=>match o with | .nx ρ'=>b ρ' | .rt d=>ab (.rt d)
def eA:DS:=λρ=>ab (.nx ρ)
def bq(δ:DE):DS:=λρ=>δ ρ>>=λd=>ab (.rt d)
def gM(δ:DE):DS:=λρ=>δ ρ>>=λ_=>ab (.nx ρ)
def bX(i:Nat)(δ:DE):DS:=λρ=>δ ρ>>=λd=>ab (.nx (ρ.set i (some (.fz d))))
def jB(c:DT)(a b:DS):DS:=λρ=>c ρ>>=λx=>if x then a ρ else b ρ
def zf(i:Nat)(a:DS):DS:=λρ=>a (frz i ρ)
def tj(i:Nat):DS:=λρ=>ab (.nx (ρ.set i (some (.ow (.lst [])))))
def A6(ρ:cK)(i:Nat):Option (List D):=match ρ[i]? with
 |some (some (.ow (.lst ds)))=>some ds
 |_=>none
def uB{i:Nat}(h:A6 ρ i=some ds):ρ[i]? =some (some (.ow (.lst ds))):=by
 unfold A6 at h;split at h
 ·rename_i ds' e;cases h;exact e
 ·cases h
def mU(i:Nat)(δ:DE):DS:=λρ=>match A6 ρ i with
 |some ds=>δ ρ>>=λd=>if ds.length<lim then ab (.nx (ρ.set i (some (.ow (.lst (ds++[d])))))) else ag
 |none=>ag
def Bd(i:Nat)(δ:DE):DS:=λρ=>match A6 ρ i with
 |some ds=>δ ρ>>=λd=>lstM d>>=λes=>if ds.length+es.length<=lim then ab (.nx (ρ.set i (some (.ow (.lst (ds++es)))))) else ag
 |none=>ag
def forL(put:D->cK->Option cK)(body:DS):List D->DS
 |[],ρ=>ab (.nx ρ)
 |d::ds,ρ=>(match put d ρ with | none=>ag | some ρ1=>body ρ1>>=λo=>match o with | .nx ρ2=>forL put body ds ρ2 | .rt v=>ab (.rt v))
def putN(i:Nat):D->cK->Option cK:=λd ρ=>some (ρ.set i (some (.fz d)))
def ez(put:D->cK->Option cK)(δi:DA)(body:DS):DS:=λρ=>δi ρ>>=λds=>forL put body ds ρ
section
variable{X:Cx}{Xw:Nat->Hp->Prop}{s0 adf:Hp}{st:Stmt}{T0:List Stmt}{τ τ':DS}{e:Expr}{δ:DE}{pos:Pos}
def bx:PSDs X Xw [] eA:=λs0 adf=>PSs.weak J7 λD σ H ⟨F,ρ,s,w⟩=>w σ F H s
def ai(h1:iR X Xw st τ)(h2:PSDs X Xw T0 τ'):PSDs X Xw (st::T0) (aD τ τ'):=λs0 adf=>PSs.weak (Hc (h1 s0 adf) (h2 s0 adf)) λD σ H ⟨F,ρ,s,w⟩=>by
 refine⟨F,ρ,s,?_⟩;unfold aD at w
 match τ ρ,w with
 |none,w=>exact w
 |some (.ok (.nx ρ')),w=>exact λσ' F' H' s'=>⟨F',ρ',s',w⟩
 |some (.ok (.rt d)),w=>exact w
 |some (.ex n),w=>exact w
def aq(h1:iR X Xw st τ):PSDs X Xw [st] τ:=λs0 adf=>J8 (h1 s0 adf)
def dJ{i:Nat}(h:iR X Xw st τ):iR X Xw st (zf i τ):=λs0 adf f8 sh σ H D I ⟨F,ρ,s,w⟩=>by
 rcases s.frz i (λa=>(sh.heap.get? a).getD {cls:= .none,data:= .fields #[]}) with⟨a,o,ha,hc,hσ,s'⟩ | e
 ·refine h s0 adf f8 sh σ _ D (L3.Inv.refrz I ha ?_) ⟨_,_,s',w⟩;generalize (ρ[i]?.elim (C.lst []) λx=>x.elim (.lst []) λy=>match y with | .ow c=>c | _=> .lst [])=c at hc;cases c with
  |lst ds=>obtain⟨vs,rfl,_⟩:=hc;exact .inl rfl
  |dct ks ds=>obtain⟨vs,rfl,_⟩:=hc;exact .inr ⟨_,rfl, .inl ⟨_,rfl,rfl⟩⟩
  |dci ks ds=>obtain⟨vs,rfl,_⟩:=hc;exact .inr ⟨_,rfl, .inr ⟨_,rfl,rfl⟩⟩
 ·exact h s0 adf f8 sh σ H D I ⟨F,ρ,s,by unfold zf at w;rw[e] at w;exact w⟩
def az(h:PD X Xw e δ):iR X Xw (.Return (some e) pos) (bq δ):=λs0 adf=>PS.weak (Nc h) λD σ H ⟨F,ρ,s,w⟩=>by
 refine⟨F,ρ,s.st,?_⟩;unfold bq at w
 match δ ρ,w with
 |none,w=>exact w
 |some (.ok d),w=>exact λv H' F' e' q=>w v F' H' (s.ext.trans e') q
 |some (.ex n),w=>exact λF' H' e'=>w F' H' (s.ext.trans e')
def cG(h:PD X Xw e δ)(hs:Z2 e none pos.line X.env=pure false:=by rfl):iR X Xw (.Expr e pos) (gM δ):=λs0 adf=>PS.weak (p7 h hs) λD σ H ⟨F,ρ,s,w⟩=>by
 refine⟨F,ρ,s.st,?_⟩;unfold gM at w
 match δ ρ,w with
 |none,w=>exact w
 |some (.ok d),w=>exact λv H' F' e' q=>w σ F' H' (s.ext' e')
 |some (.ex n),w=>exact λF' H' e'=>w F' H' (s.ext.trans e')
def aW{x:Str}(hN:X.N.Nodup)(hi:X.N[i]? =some x)(hx:Loc X.env.scope x)(he:PD X Xw e δ)(hf:X.fn x=true\/X.env.scope.names.lookup x=some .local:=by first | exact .inl rfl | exact .inr rfl)
 (hs:aa5 [.Name x pos'] e pos.line X.env=pure false:=by rfl):
 iR X Xw (.Assign [.Name x pos'] e pos) (bX i δ):=λs0 adf=>PS.weak (rZ he (a8 hN hi hx hf) hs) λD σ H ⟨F,ρ,s,w⟩=>by
 refine⟨F,ρ,s.st,?_⟩;unfold bX at w
 match δ ρ,w with
 |none,w=>exact w
 |some (.ok d),w=>exact λv H' F' e' q=>w _ F' H' ((s.ext' e').set q)
 |some (.ex n),w=>exact λF' H' e'=>w F' H' (s.ext.trans e')
def dS(hN:X.N.Nodup)(yc:X.N[i]? =some x)(hx:Loc X.env.scope x)
 (sc:CompSc X scope tn)(hn:tn.length=max n 1)(hc:X.calm=true)(hi:zZ X Xw tg iter δi)
 (hg:∀f8 cl C fp t0 H σ,Dc (k8 X scope tn f8 cl C fp t0 H) tg n σ)
 (ht:∀f8 cl C fp t0 H,nu (k8 X scope tn f8 cl C fp t0 H) ifs δt)
 (he:∀f8 cl C fp t0 H,PD (k8 X scope tn f8 cl C fp t0 H) (λ_ _=>False) elt δe)
 (hf:X.fn x=true\/X.env.scope.names.lookup x=some .local:=by first | exact .inl rfl | exact .inr rfl)
 (Vq:Z2 (.ListComp elt [⟨tg,iter,ifs,0⟩] scope bz) (some (.Name x pos')) pos.line X.env=pure true:=by rfl)
 (hs:∀x,Z3 iter X.env x=pure x:=by intro _;rfl):
 iR X Xw (.Assign [.Name x pos'] (.ListComp elt [⟨tg,iter,ifs,0⟩] scope bz) pos) (bX i (bb n δi δt δe)):=λs0 adf f8 s σ H D I ⟨F,ρ,S,w⟩=>by
 obtain⟨cl,FP,Fe,NK⟩:=qi λy hy hf=>I.ok.has y.1 (sc.frees y hy hf);have w':WP X.K Xw F H (bb n δi δt δe ρ) (λv H'=>D.nx (σ.set i (some v)) H'):=by
  have w:WPS X.K Xw s0 adf (bb n δi δt δe ρ>>=λd=>ab (.nx (ρ.set i (some (.fz d))))) D:=w
  match bb n δi δt δe ρ,w with
  |none,w=>exact w
  |some (.ok d),w=>exact λv H' F' e' q=>w _ F' H' ((S.ext' e').set q)
  |some (.ex n),w=>exact λF' H' e'=>w F' H' (S.ext.trans e')
 rw[exec_Assign_Name_used _ _ _ _ Vq];refine V4 (wpAny_standAt (V4 ?_));show wpAny _ X.A (do let _<-comprehension (.ListComp elt [⟨tg,iter,ifs,0⟩] scope bz) scope X.env _ (newList []) false (eval iter X.env) (some (assign (.Name x pos') X.env))) _ _ s;refine V4 (Xz (acs rfl hs FP sc.kind sc.names
  (xE sc hn hc hi hg ht he I S.st w' Fe NK λs1 C D' H' I1 q b=>?_)) (λ_ s' hq=>V9 (V9 hq)) λ_ _ e=>e)
 show wpAny _ X.A (assign (.Name x pos') X.env (.ref D')) _ _ _;refine abn (uY I1 hN yc hx (v:= .ref D') rfl (λs2 I2 ⟨a,sb,ha⟩=>?_) hf);have UG:C≠a:=by
  rcases ha with z | z
  ·rw[z];exact b.nl
  ·exact Xp (b.nc x a z)
 obtain⟨m,hm⟩:=b.ns;have OW:s2.heap.Ns C m:=hm.sameBut sb UG;refine⟨m,OW,λh' O_=>⟨_,H',Inv.block I2 ⟨⟨m,OW⟩,b.free,b.nl,b.nw,b.nc,b.np⟩ O_,q⟩⟩
def bM{a b:List Stmt}(hc:pF X Xw c tc)(ha:PSDs X Xw a τ)(hb:PSDs X Xw b τ'):iR X Xw (.If c a b pos) (jB tc τ τ'):=λs0 adf=>PS.weak (PZ hc (ha s0 adf) (hb s0 adf)) λD σ H ⟨F,ρ,s,w⟩=>by
 refine⟨F,ρ,s.st,?_⟩;unfold jB at w
 match tc ρ,w with
 |none,w=>exact w
 |some (.ok true),w=>exact λH' F' e'=>⟨F',ρ,s.ext' e',w⟩
 |some (.ok false),w=>exact λH' F' e'=>⟨F',ρ,s.ext' e',w⟩
 |some (.ex n),w=>exact λF' H' e'=>w F' H' (s.ext.trans e')
def gZ{pos' M_:Pos}(hN:X.N.Nodup)(hi:X.N[i]? =some x)(hx:Loc X.env.scope x)(hf:X.fn x=true\/X.env.scope.names.lookup x=some .local:=by first | exact .inl rfl | exact .inr rfl):
 iR X Xw (.Assign [.Name x pos'] (.List [] M_) pos) (tj i):=λs0 adf=>PS.weak (rZ (G_ v8) (a8 hN hi hx hf) rfl) λD σ H ⟨F,ρ,s,w⟩=>by
 refine⟨WQ _,λp hp=>?_⟩;exact w _ F _ (s.setNew hp ⟨[],rfl,rfl,WQ _⟩)
def BK(K:Wm)(g:TG)(put:D->cK->Option cK):Prop:=∀(s0 adf F H:Hp) (σ:St) (ρ ρ':cK) (d:D) (v:V) (Q:St->Hp->Prop),StOk K s0 adf F H σ ρ->Den K F d v->put d ρ=some ρ'->
 (∀σ',StOk K s0 adf F H σ' ρ'->Q σ' H)->g v σ H Q
def bL{K:Wm}{i:Nat}:BK K (FI i) (putN i):=λs0 adf F H σ ρ ρ' d v Q s q e k=>by
 cases e;exact k _ (s.set q)
def VN(K:Wm)(Xw:Nat->Hp->Prop)(τ:DS):TS:=λD σ H=>∃s0 adf,tS K Xw s0 adf τ D σ H
def PSDs.ex{body:List Stmt}(h:PSDs X Xw body τ):PSs X body (VN X.K Xw τ):=λf8 s σ H D I ⟨s0,adf,w⟩=>h s0 adf f8 s σ H D I w
def bQ{tg iter:Expr}{body:List Stmt}(hp:PassesOwn (model X.prog X.w) X.A X.env X.xe)(hc:X.calm=true)(hi:zZ X Xw tg iter δi)(hg:PG X tg g)(L7:BK X.K g put)(hb:PSDs X Xw body τ)
 (hs:∀x,Z3 iter X.env x=pure x:=by intro _;rfl):iR X Xw (.For tg iter body [] pos) (ez put δi τ):=λs0 adf=>PS.weak (Nb hp hc hi hg hb.ex hs) λD σ H ⟨F,ρ,s,w⟩=>by
 refine⟨F,ρ,s.st,?_⟩;unfold ez at w
 match δi ρ,w with
 |none,w=>exact w
 |some (.ex n),w=>exact λF' H' e'=>w F' H' (s.ext.trans e')
 |some (.ok ds),w=>
  have w:WPS X.K Xw s0 adf (forL put τ ds ρ) D:=w;intro J H1 F1 e1 T9;obtain⟨s1,back⟩:=(s.ext' e1).rebase;have hU:=DW (s.ext' e1);generalize join F1 adf=U at s1 back hU;refine⟨λi m σ H=>m=ds.length - i/\i<=ds.length/\∃F ρ,StOk X.K F1 U F H σ ρ/\WPS X.K Xw s0 adf (forL put τ (ds.drop i) ρ) D,⟨ds.length,by simp,WQ _,F1,ρ,s1,by simpa using w⟩,?_⟩;rintro i m σ2 H2 ⟨rfl,RI,F2,ρ2,s2,w2⟩;by_cases fJ:i<ds.length
  ·obtain⟨d,hd⟩:∃d,ds[i]? =some d:=⟨_,V6 fJ⟩
   obtain⟨RG,L8⟩:=(T9 F2 H2 i s2.ext.ff s2.st.fh).1 d hd;have ed:ds.drop i=d::ds.drop (i+1):=by
    obtain⟨hi,e⟩:=Wh.mp hd;rw[abH hi,e]
   rw[ed] at w2;unfold forL at w2;refine .inr ⟨RG,λσ' H'=>∃F' ρ',StOk X.K F1 U F' H' σ' ρ'/\WPS X.K Xw s0 adf (forL put τ (ds.drop (i+1)) ρ') D,λσ' H' ⟨F',ρ',h2,h3⟩=>⟨ds.length - (i+1),by omega,rfl,fJ,F',ρ',h2,h3⟩,λx H3 y3=>?_⟩;obtain⟨F3,Ig,q3⟩:=L8 x H3 y3
   match Vm:put d ρ2,w2 with
   |none,w2=>exact w2.elim
   |some ρ3,w2=>
    refine L7 F1 U F3 H3 σ2 ρ2 ρ3 d x _ (s2.ext' Ig) q3 Vm λσ3 s3=>⟨F1,U,F3,ρ3,s3,?_⟩
    have w2:WPS X.K Xw s0 adf (τ ρ3>>=λo=>match o with | .nx ρ2=>forL put τ (ds.drop (i+1)) ρ2 | .rt v=>ab (.rt v)) D:=w2
    match τ ρ3,w2 with
    |none,w2=>exact w2
    |some (.ok (.nx ρ')),w2=>exact λσ' F' H' s'=>⟨F',ρ',s',w2⟩
    |some (.ok (.rt d)),w2=>exact λv F' H' e q=>w2 v F' H' (back _ _ e) q
    |some (.ex n),w2=>exact λF' H' e=>w2 F' H' (back _ _ e)
  ·have hi:i=ds.length:=by omega
   subst hi;rw[List.drop_length] at w2;exact .inl ⟨(T9 F2 H2 ds.length s2.ext.ff s2.st.fh).2 (Wg _),w2 σ2 F2 H2 (s2.unbase back hU)⟩
end
def gI(f:Int->Int->D):D->D->M D
 | .int i, .int j=>ab (f i j)
 |_,_=>ag
def Ow(c:Int->Int->Bool)(f:Int->Int->D):D->D->M D
 | .int i, .int j=>if c i j then ab (f i j) else ag
 |_,_=>ag
def rD{K:Wm}{gd:Int->Int->D}(h:∀F i j,Den K F (gd i j) (gv i j)):zV K (Ba gv) (gI gd):=λXw F H x y dx dy Q s hx hy w=>by
 unfold gI at w;split at w
 ·rename_i i j;exact⟨i,j,hx,hy,WP.now w s (h F i j)⟩
 ·exact w.elim
def A4{K:Wm}{C:Int->Int->Prop}(h:∀F i j,Den K F (gd i j) (gv i j))(hc:∀i j,c i j=true->C i j):zV K (rI C gv) (Ow c gd):=λXw F H x y dx dy Q s hx hy w=>by
 unfold Ow at w;split at w
 ·rename_i i j;split at w
  ·rename_i QK;exact⟨i,j,hx,hy,hc i j QK,WP.now w s (h F i j)⟩
  ·exact w.elim
 ·exact w.elim
def eW:=gI λi j=> .int (i+j)
def lG:=gI λi j=> .int (i - j)
def i2:=Ow (λi j=>decide ((-(2 ^ 64)<i/\i<2 ^ 64)\/(-(2 ^ 64)<j/\j<2 ^ 64))) λi j=> .int (i*j)
def sR:=Ow (λ_ j=>decide (0<j/\j<1073741824)) λi j=> .int (i / j)
def ma:=Ow (λ_ j=>decide (0<j)) λi j=> .int (i % j)
def Ox:=gI λi j=> .bl (decide (i<j))
def Ts:=gI λi j=> .bl (decide (j<i))
def QF:=gI λi j=> .bl (decide (j<=i))
section
variable{X:Cx}{Xw:Nat->Hp->Prop}{a b:Expr}{δa δb:DE}{pos:Pos}
def du(ha:PD X Xw a δa)(hb:PD X Xw b δb):PD X Xw (.BinOp a .Add b pos) (d2 eW δa δb):=uK ME (rD λ_ _ _=>rfl) ha hb
def j4(ha:PD X Xw a δa)(hb:PD X Xw b δb):PD X Xw (.BinOp a .Sub b pos) (d2 lG δa δb):=uK MK (rD λ_ _ _=>rfl) ha hb
def h7(ha:PD X Xw a δa)(hb:PD X Xw b δb):PD X Xw (.BinOp a .Mult b pos) (d2 i2 δa δb):=uK MI (A4 (λ_ _ _=>rfl) λi j h=>by unfold CMul;exact ac9 h) ha hb
def wa(ha:PD X Xw a δa)(hb:PD X Xw b δb):PD X Xw (.BinOp a .FloorDiv b pos) (d2 sR δa δb):=uK JD (A4 (λ_ _ _=>rfl) λi j h=>by unfold N3;exact ac9 h) ha hb
def n0(ha:PD X Xw a δa)(hb:PD X Xw b δb):PD X Xw (.BinOp a .Mod b pos) (d2 ma δa δb):=uK MH (A4 (λ_ _ _=>rfl) λi j h=>ac9 h) ha hb
def Hf(ha:PD X Xw a δa)(hb:PD X Xw b δb):pF X Xw (.Compare a [.Lt] [b] pos) (dN (d2 Ox δa δb)):=f9 oZ (rD λ_ _ _=>rfl) ha hb
def P2(ha:PD X Xw a δa)(hb:PD X Xw b δb):pF X Xw (.Compare a [.Gt] [b] pos) (dN (d2 Ts δa δb)):=f9 PK (rD λ_ _ _=>rfl) ha hb
def kY:D->D->M D
 | .lst ds, .int i=>match atI ds i with | some d=>ab d | none=>ag
 |_,_=>ag
def bf:D->D->M D
 | .tup ds, .int i=>match atI ds i with | some d=>ab d | none=>ag
 |_,_=>ag
def FG:D->D->M D
 | .scr ns, .int i=>match atI ns i with | some n=>ab (.int n) | none=>ag
 |_,_=>ag
def qw:D->D->M D
 | .str x, .int i=>match atI x.cps.toList i with | some c=>ab (.str ⟨#[c]⟩) | none=>ag
 |_,_=>ag
def DenL.atI{K:Wm}(h:DenL K F ds vs){d:D}(e:L2.atI ds i=some d):∃v,L2.atI vs i=some v/\Den K F d v:=by
 unfold L2.atI at e⊢;rw[<-h.len];cases q:Mi ds.length i with
 |none=>rw[q] at e;cases e
 |some j=>
  rw[q] at e;exact h.get e
def JE{K:Wm}:zV K (Nl K) kY:=λXw F H x y dx dy Q s hx hy w=>by
 unfold kY at w;split at w
 ·rename_i ds i;obtain⟨a,vs,h1,h2,h3,h4⟩:=hx;split at w
  ·rename_i d e;obtain⟨v,e1,q⟩:=h3.atI e;exact⟨a,vs,i,v,h1,hy,SqL.of (s _ _ h2),e1,WP.now w s q⟩
  ·exact w.elim
 ·exact w.elim
def JH{K:Wm}:zV K (Qb K) bf:=λXw F H x y dx dy Q s hx hy w=>by
 unfold bf at w;split at w
 ·rename_i ds i;obtain⟨a,vs,h1,h2,h3,h4⟩:=hx;split at w
  ·rename_i d e;obtain⟨v,e1,q⟩:=h3.atI e;exact⟨a,vs,i,v,h1,hy,SqT.of (s _ _ h2),e1,WP.now w s q⟩
  ·exact w.elim
 ·exact w.elim
def JF{K:Wm}:zV K (Nl K) FG:=λXw F H x y dx dy Q s hx hy w=>by
 unfold FG at w;split at w
 ·rename_i ns i;obtain⟨a,h1,h2,h3⟩:=hx;split at w
  ·rename_i n e;refine⟨a,_,i, .int n,h1,hy,Same.seq s h2,?_,WP.now w s rfl⟩;unfold L2.atI at e⊢;rw[V5];cases q:Mi ns.length i with
   |none=>rw[q] at e;cases e
   |some j=>
    rw[q] at e;have e:ns[j]? =some n:=e;show (ns.map V.int)[j]? =some (.int n);rw[Wj,e];rfl
  ·exact w.elim
 ·exact w.elim
def JG{K:Wm}:zV K Qa qw:=λXw F H x y dx dy Q s hx hy w=>by
 unfold qw at w;split at w
 ·rename_i z i;obtain⟨h1,h2⟩:=hx;split at w
  ·rename_i c e;exact⟨z,i,c,h1,hy,by have:=fP;omega,e,WP.now w s ⟨rfl,by show 1<=lim;decide⟩⟩
  ·exact w.elim
 ·exact w.elim
def j3(ha:PD X Xw a δa)(hb:PD X Xw b δb)(hs:ky b:=by intro _ _;rfl):PD X Xw (.Subscript a b pos) (d2 kY δa δb):=CK Cj JE ha hb hs
def MP(ha:PD X Xw a δa)(hb:PD X Xw b δb)(hs:ky b:=by intro _ _;rfl):PD X Xw (.Subscript a b pos) (d2 FG δa δb):=CK Cj JF ha hb hs
def bc(ha:PD X Xw a δa)(hb:PD X Xw b δb)(hs:ky b:=by intro _ _;rfl):PD X Xw (.Subscript a b pos) (d2 bf δa δb):=CK Ml JH ha hb hs
def A9(ha:PD X Xw a δa)(hb:PD X Xw b δb)(hs:ky b:=by intro _ _;rfl):PD X Xw (.Subscript a b pos) (d2 qw δa δb):=CK Mk JG ha hb hs
def km(x y:Str):(x++y).length=x.length+y.length:=by
 show (x.cps++y.cps).size=_;simp[Str.length]
end
end L3
namespace L3
open PySem PySem.Spec L2 SeqAt
open PyProof.Rows hiding St
def pG(f:D->D->Option Bool):List D->List D->Option Bool
 |[],[]=>some true
 |x::xs,y::ys=>match f x y,pG f xs ys with
  |some b,some r=>some (b&&r)
  |_,_=>none
 |[],_::_=>some false
 |_::_,[]=>some false
def Ai:D->D->Option Bool
 | .non, .non=>some true
 | .bl a, .bl b=>some (a==b)
 | .bl a, .int j=>some ((if a then 1 else 0)==j)
 | .int i, .bl b=>some (i==(if b then 1 else 0))
 | .int i, .int j=>some (i==j)
 | .str x, .str y=>some (x==y)
 | .non, .bl _=>some false
 | .non, .int _=>some false
 | .non, .str _=>some false
 | .non, .lst _=>some false
 | .non, .tup _=>some false
 | .bl _, .non=>some false
 | .bl _, .str _=>some false
 | .bl _, .lst _=>some false
 | .bl _, .tup _=>some false
 | .int _, .non=>some false
 | .int _, .str _=>some false
 | .int _, .lst _=>some false
 | .int _, .tup _=>some false
 | .str _, .non=>some false
 | .str _, .bl _=>some false
 | .str _, .int _=>some false
 | .str _, .lst _=>some false
 | .str _, .tup _=>some false
 | .lst _, .non=>some false
 | .lst _, .bl _=>some false
 | .lst _, .int _=>some false
 | .lst _, .str _=>some false
 | .lst _, .tup _=>some false
 | .tup _, .non=>some false
 | .tup _, .bl _=>some false
 | .tup _, .int _=>some false
 | .tup _, .str _=>some false
 | .tup _, .lst _=>some false
 |_,_=>none
def k9:Nat->D->D->Option Bool
 |n+1, .tup xs, .tup ys=>pG (k9 n) xs ys
 |n+1, .lst xs, .lst ys=>pG (k9 n) xs ys
 |n+1, .scr xs, .lst ys=>pG (k9 n) (xs.map D.int) ys
 |_,x,y=>Ai x y
structure EqAll (A:Xf) (s:We) (u v:Value) (b:Bool):Prop where
 rc:RcAt A s u v b
 ne:RcNeAt A s u v (!b)
 eq:EqAt A s u v b
section
variable{X:Cx}{f8:List (Addr×Obj)}{σ:St}{F H:Hp}{s:We}{A:Xf}
def w_(I:Inv X f8 σ H s)(hs:Same F H)(h:Den X.K F (.tup ds) v)(r:RelV v u):∃a vs aL,u= .ref a/\v= .ref a/\F a=some (.tup vs)/\DenL X.K F ds vs/\Vals vs aL/\s.heap.IsTuple a aL.toArray:=by
 obtain⟨a,vs,rfl,h2,h3,h4⟩:=h;obtain⟨aL,r1,p1,_⟩:=I.tuple (SqT.of (hs _ _ h2));exact⟨a,vs,aL,r,rfl,h2,h3,r1,p1⟩
def qW(I:Inv X f8 σ H s)(hs:Same F H)(h:Den X.K F (.lst ds) v)(r:RelV v u):∃a vs aL,u= .ref a/\v= .ref a/\F a=some (.lst vs)/\DenL X.K F ds vs/\Vals vs aL/\s.heap.IsList a aL.toArray:=by
 obtain⟨a,vs,rfl,h2,h3,h4⟩:=h;obtain⟨aL,r1,p1,_⟩:=I.list (SqL.of (hs _ _ h2));exact⟨a,vs,aL,r,rfl,h2,h3,r1,p1.isList⟩
def Nr(I:Inv X f8 σ H s)(hs:Same F H)(h:Den X.K F (.scr ns) v)(r:RelV v u):∃a aL,u= .ref a/\v= .ref a/\SqL X.K F a (ns.map V.int)/\Vals (ns.map V.int) aL/\s.heap.IsList a aL.toArray:=by
 obtain⟨a,rfl,h2,h3⟩:=h;obtain⟨aL,r1,p1,_⟩:=I.list (Same.seq hs h2);exact⟨a,aL,r,rfl,h2,r1,p1.isList⟩
def xT(I:Inv X f8 σ H s)(hs:Same F H)(hu:A.units<cLine)(hx:Den X.K F x v)(hy:Den X.K F y w)(rx:RelV v u)(ry:RelV w t)(e:Ai x y=some b):EqAll A s u t b:=by
 cases x<;>cases y<;>cases e<;>(first | (cases (show _=V.non from hx);cases rx) | (cases (show _=V.bl _ from hx);cases rx) | (cases (show _=V.int _ from hx);obtain⟨_,rfl⟩:=rx) | (cases (show _=V.str _ from hx.1);obtain⟨_,rfl⟩:=rx) | (have q:=w_ I hs hx rx;obtain⟨_,_,_,rfl,_,_,_,_,p1⟩:=q) | (have q:=qW I hs hx rx;obtain⟨_,_,_,rfl,_,_,_,_,p1⟩:=q))<;>(first | (cases (show _=V.non from hy);cases ry) | (cases (show _=V.bl _ from hy);cases ry) | (cases (show _=V.int _ from hy);obtain⟨_,rfl⟩:=ry) | (cases (show _=V.str _ from hy.1);obtain⟨_,rfl⟩:=ry) | (have q:=w_ I hs hy ry;obtain⟨_,_,_,rfl,_,_,_,_,p2⟩:=q) | (have q:=qW I hs hy ry;obtain⟨_,_,_,rfl,_,_,_,_,p2⟩:=q))
 ·exact⟨RcAt.none_none,RcNeAt.none_none,EqAt.same _⟩
 ·exact⟨RcAt.none_bool _,RcNeAt.none_bool _,EqAt.none_bool _⟩
 ·exact⟨RcAt.none_int _ _,RcNeAt.none_int _ _,EqAt.none_int _ _⟩
 ·exact⟨RcAt.none_str _ _,RcNeAt.none_str _ _,EqAt.none_str _ _⟩
 ·exact⟨RcAt.none_tuple p2 hu,RcNeAt.none_tuple p2 hu,EqAt.none_tuple p2 hu⟩
 ·exact⟨RcAt.none_list p2 hu,RcNeAt.none_list p2 hu,EqAt.none_list p2 hu⟩
 ·exact⟨RcAt.bool_none _,RcNeAt.bool_none _,EqAt.bool_none _⟩
 ·exact⟨RcAt.bool_bool _ _,RcNeAt.bool_bool _ _,EqAt.bool_bool _ _⟩
 ·exact⟨RcAt.bool_int _ _ _,RcNeAt.bool_int _ _ _,EqAt.bool_int _ _ _⟩
 ·exact⟨RcAt.bool_str _ _ _,RcNeAt.bool_str _ _ _,EqAt.bool_str _ _ _⟩
 ·exact⟨RcAt.bool_tuple _ p2 hu,RcNeAt.bool_tuple _ p2 hu,EqAt.bool_tuple _ p2 hu⟩
 ·exact⟨RcAt.bool_list _ p2 hu,RcNeAt.bool_list _ p2 hu,EqAt.bool_list _ p2 hu⟩
 ·exact⟨RcAt.int_none _ _,RcNeAt.int_none _ _,EqAt.int_none _ _⟩
 ·exact⟨RcAt.int_bool _ _ _,RcNeAt.int_bool _ _ _,EqAt.int_bool _ _ _⟩
 ·exact⟨RcAt.int_int _ _ _ _,RcNeAt.int_int _ _ _ _,EqAt.int_int _ _ _ _⟩
 ·exact⟨RcAt.int_str _ _ _ _,RcNeAt.int_str _ _ _ _,EqAt.int_str _ _ _ _⟩
 ·exact⟨RcAt.int_tuple _ _ p2 hu,RcNeAt.int_tuple _ _ p2 hu,EqAt.int_tuple _ _ p2 hu⟩
 ·exact⟨RcAt.int_list _ _ p2 hu,RcNeAt.int_list _ _ p2 hu,EqAt.int_list _ _ p2 hu⟩
 ·exact⟨RcAt.str_none _ _,RcNeAt.str_none _ _,EqAt.str_none _ _⟩
 ·exact⟨RcAt.str_bool _ _ _,RcNeAt.str_bool _ _ _,EqAt.str_bool _ _ _⟩
 ·exact⟨RcAt.str_int _ _ _ _,RcNeAt.str_int _ _ _ _,EqAt.str_int _ _ _ _⟩
 ·exact⟨RcAt.str_str _ _ _ _,RcNeAt.str_str _ _ _ _,EqAt.str_str _ _ _ _⟩
 ·exact⟨RcAt.str_tuple _ _ p2 hu,RcNeAt.str_tuple _ _ p2 hu,EqAt.str_tuple _ _ p2 hu⟩
 ·exact⟨RcAt.str_list _ _ p2 hu,RcNeAt.str_list _ _ p2 hu,EqAt.str_list _ _ p2 hu⟩
 ·exact⟨RcAt.tuple_none p1 hu,RcNeAt.tuple_none p1 hu,EqAt.tuple_none p1 hu⟩
 ·exact⟨RcAt.tuple_bool _ p1 hu,RcNeAt.tuple_bool _ p1 hu,EqAt.tuple_bool _ p1 hu⟩
 ·exact⟨RcAt.tuple_int _ _ p1 hu,RcNeAt.tuple_int _ _ p1 hu,EqAt.tuple_int _ _ p1 hu⟩
 ·exact⟨RcAt.tuple_str _ _ p1 hu,RcNeAt.tuple_str _ _ p1 hu,EqAt.tuple_str _ _ p1 hu⟩
 ·exact⟨RcAt.tuple_list p1 p2 hu,RcNeAt.tuple_list p1 p2 hu,EqAt.tuple_list p1 p2 hu⟩
 ·exact⟨RcAt.list_none p1 hu,RcNeAt.list_none p1 hu,EqAt.list_none p1 hu⟩
 ·exact⟨RcAt.list_bool _ p1 hu,RcNeAt.list_bool _ p1 hu,EqAt.list_bool _ p1 hu⟩
 ·exact⟨RcAt.list_int _ _ p1 hu,RcNeAt.list_int _ _ p1 hu,EqAt.list_int _ _ p1 hu⟩
 ·exact⟨RcAt.list_str _ _ p1 hu,RcNeAt.list_str _ _ p1 hu,EqAt.list_str _ _ p1 hu⟩
 ·exact⟨RcAt.list_tuple p1 p2 hu,RcNeAt.list_tuple p1 p2 hu,EqAt.list_tuple p1 p2 hu⟩
end
def ev(f:D->D->Option Bool)(xs ys:List D)(j:Nat):Bool:=match xs[j]?,ys[j]? with
 |some x,some y=>(f x y).getD false
 |_,_=>false
def xP:∀{xs ys:List D}{b:Bool},pG f xs ys=some b->∀(j:Nat) (x y:D),xs[j]? =some x->ys[j]? =some y->∃c,f x y=some c
 |[],_,_,_,_,_,_,h,_=>by simp at h
 |_::_,[],_,_,_,_,_,_,h=>by simp at h
 |x::xs,y::ys,b,e,j,x',y',hx,hy=>by
  unfold pG at e;split at e
  ·rename_i b1 r1 e1 e2;cases j with
   |zero=>simp at hx hy;subst hx hy;exact⟨_,e1⟩
   |succ j=>exact xP e2 j x' y' (by simpa using hx) (by simpa using hy)
  ·cases e
def vp:∀{xs ys:List D}{b:Bool},pG f xs ys=some b->b=((Wo (min xs.length ys.length)).all (ev f xs ys)&&xs.length==ys.length)
 |[],[],_,e=>by cases e;rfl
 |[],_::_,_,e=>by cases e;simp
 |_::_,[],_,e=>by cases e;simp
 |x::xs,y::ys,b,e=>by
  unfold pG at e;split at e
  ·rename_i b1 r1 e1 e2;cases e;have h:=vp e2;rw[Wf,Wf,Nat.succ_min_succ,Z0,Zs,Zz];have e0:ev f (x::xs) (y::ys) 0=b1:=by unfold ev;simp[e1]
   have e3:(ev f (x::xs) (y::ys)∘Nat.succ)=ev f xs ys:=by funext j;simp[ev,ac2]
   have e4:(xs.length+1==ys.length+1)=(xs.length==ys.length):=by simp
   rw[e0,e3,e4,h,Bool.and_assoc]
  ·cases e
section
variable{X:Cx}{f8:List (Addr×Obj)}{σ:St}{F H:Hp}{s:We}
def l9(h:∀x y v b,Den X.K F x v->Den X.K F y v->f x y=some b->b=true):∀{xs ys:List D}{vs:List V}{b:Bool},DenL X.K F xs vs->DenL X.K F ys vs->pG f xs ys=some b->b=true
 |[],[],_,_,_,_,e=>by cases e;rfl
 |[],_::_,_,_,h1,h2,_=>by
  cases (show _=_ from h1);obtain⟨v,r,z,_⟩:=h2;cases z
 |_::_,[],_,_,h1,h2,_=>by
  cases (show _=_ from h2);obtain⟨v,r,z,_⟩:=h1;cases z
 |x::xs,y::ys,_,b,⟨v,r,e1,q1,q2⟩,⟨v',r',e2,q3,q4⟩,e=>by
  subst e1;cases e2;unfold pG at e;split at e
  ·rename_i b1 r1 f1 f2;cases e;rw[h x y v b1 q1 q3 f1,l9 h q2 q4 f2];rfl
  ·cases e
def t6(hx:Den X.K F x v)(hy:Den X.K F y v)(e:Ai x y=some b):b=true:=by
 cases x<;>cases y<;>first
  |(cases e;done)
  |(cases e;cases (show _=_ from hx);cases (show _=_ from hy);first | rfl | simp)
  |(cases e;cases (show _=_ from hx.1);cases (show _=_ from hy.1);simp)
  |(cases e;cases (show _=_ from hx);cases (show _=_ from hy.1))
  |(cases e;cases (show _=_ from hx.1);cases (show _=_ from hy))
  |(cases e;obtain⟨_,_,z,_⟩:=hx;subst z;cases (show _=_ from hy);done)
  |(cases e;obtain⟨_,_,z,_⟩:=hx;subst z;cases (show _=_ from hy.1);done)
  |(cases e;obtain⟨_,z,_⟩:=hx;subst z;cases (show _=_ from hy);done)
  |(cases e;obtain⟨_,z,_⟩:=hx;subst z;cases (show _=_ from hy.1);done)
  |(cases e;obtain⟨_,_,z,_⟩:=hy;subst z;cases (show _=_ from hx);done)
  |(cases e;obtain⟨_,_,z,_⟩:=hy;subst z;cases (show _=_ from hx.1);done)
  |(cases e;obtain⟨_,z,_⟩:=hy;subst z;cases (show _=_ from hx);done)
  |(cases e;obtain⟨_,z,_⟩:=hy;subst z;cases (show _=_ from hx.1);done)
  |(cases e;obtain⟨_,_,z,h2,_⟩:=hx;obtain⟨_,_,z',Oz,_⟩:=hy;subst z;cases z';rw[h2] at Oz;cases Oz;done)
  |(cases e;cases (show _=_ from hx);cases (show _=_ from hy);done)
  |(cases e;cases (show _=_ from hx.1);cases (show _=_ from hy.1);done)
def l8(I:Inv X f8 σ H s)(hs:Same F H):∀(n:Nat) (x y:D) (v:V) (b:Bool),Den X.K F x v->Den X.K F y v->k9 n x y=some b->b=true
 |0,x,y,v,b,hx,hy,e=>t6 hx hy (by unfold k9 at e;exact e)
 |n+1,x,y,v,b,hx,hy,e=>by
  unfold k9 at e;split at e
  ·rename_i xs ys _;obtain⟨a,vs,rfl,h2,h3,_⟩:=hx;obtain⟨a',iQ,z,k2,k3,_⟩:=hy;cases z;rw[h2] at k2;cases k2;exact l9 (l8 I hs _) h3 k3 (by simpa using e)
  ·rename_i xs ys _;obtain⟨a,vs,rfl,h2,h3,_⟩:=hx;obtain⟨a',iQ,z,k2,k3,_⟩:=hy;cases z;rw[h2] at k2;cases k2;exact l9 (l8 I hs _) h3 k3 (by simpa using e)
  ·rename_i xs ys _;obtain⟨a,rfl,h2,_⟩:=hx;obtain⟨a',iQ,z,k2,k3,_⟩:=hy;cases z;have hv:=I.list_inj (Same.seq hs h2) (SqL.of (hs _ _ k2));rw[<-hv] at k3;exact l9 (l8 I hs _) (DenL.ints xs) k3 (by simpa using e)
  ·exact t6 hx hy e
def Vals.at(r:Vals vs aL)(h:j<aL.toArray.size):∃v,vs[j]? =some v/\RelV v aL.toArray[j]:=by
 have hl:=r.length;have hj:j<vs.length:=by rw[Wk] at h;omega
 obtain⟨u,e1,e2⟩:=r.get (V6 hj);refine⟨vs[j],V6 hj,?_⟩;have:aL.toArray[j]=u:=by
  have:=(Wh.mp e1).2;simpa using this
 rw[this];exact e2
def pW(h1:DenL X.K F xs vs)(h2:DenL X.K F ys ws)(r1:Vals vs aL)(r2:Vals ws jJ)(e:pG f xs ys=some b)
 (ih:∀x y v w u t c,Den X.K F x v->Den X.K F y w->RelV v u->RelV w t->f x y=some c->EqAt A s u t c):
 ∀j (k1:j<aL.toArray.size) (k2:j<jJ.toArray.size),EqAt A s aL.toArray[j] jJ.toArray[j] (ev f xs ys j):=λj k1 k2=>by
 obtain⟨v,e1,q1⟩:=Vals.at r1 k1;obtain⟨w,e2,q2⟩:=Vals.at r2 k2;obtain⟨x,e3,q3⟩:=h1.at e1;obtain⟨y,e4,q4⟩:=h2.at e2;obtain⟨c,hc⟩:=xP e j x y e3 e4;have:ev f xs ys j=c:=by unfold ev;rw[e3,e4];simp[hc]
 rw[this];exact ih x y v w _ _ c q3 q4 q1 q2 hc
def um(hu:A.units<cLine)(h1:DenL X.K F xs vs)(h2:DenL X.K F ys ws)(r1:Vals vs aL)(r2:Vals ws jJ)
 (p1:s.heap.IsList a aL.toArray)(p2:s.heap.IsList a' jJ.toArray)(e:pG f xs ys=some b)(hr:a=a'->b=true)
 (ih:∀x y v w u t c,Den X.K F x v->Den X.K F y w->RelV v u->RelV w t->f x y=some c->EqAt A.in1 s u t c):EqAll A s (.ref a) (.ref a') b:=by
 have l1:=h1.len;have l2:=h2.len;have l3:=r1.length;have l4:=r2.length;have hv:=vp e;have core:RcAt A s (.ref a) (.ref a') b/\RcNeAt A s (.ref a) (.ref a') (!b):=by
  by_cases hl:xs.length=ys.length
  ·have hsz:aL.toArray.size=jJ.toArray.size:=by rw[Wk,Wk];omega
   have hb:b=(Wo aL.toArray.size).all (ev f xs ys):=by
    rw[hv,hl,Nat.min_self,beq_self_eq_true,Bool.and_true];congr 2;rw[Wk];omega
   rw[hb];exact⟨RcAt.lists p1 p2 hsz hu (pW h1 h2 r1 r2 e ih),RcNeAt.lists p1 p2 hsz hu (pW h1 h2 r1 r2 e ih)⟩
  ·have hb:b=false:=by rw[hv,show (xs.length==ys.length)=false from by simpa using hl,aao]
   have hsz:(aL.toArray.size !=jJ.toArray.size)=true:=by
    rw[Wk,Wk];simp;omega
   rw[hb];exact⟨RcAt.lists_lengths p1 p2 hsz hu,RcNeAt.lists_lengths p1 p2 hsz hu⟩
 refine⟨core.1,core.2,?_⟩;by_cases hq:a=a'
 ·rw[hr hq];subst hq;exact EqAt.same _
 ·exact EqAt.of_refs hq core.1
def Bu(hu:A.units<cLine)(h1:DenL X.K F xs vs)(h2:DenL X.K F ys ws)(r1:Vals vs aL)(r2:Vals ws jJ)
 (p1:s.heap.IsTuple a aL.toArray)(p2:s.heap.IsTuple a' jJ.toArray)(e:pG f xs ys=some b)(hr:a=a'->b=true)
 (ih:∀x y v w u t c,Den X.K F x v->Den X.K F y w->RelV v u->RelV w t->f x y=some c->EqAt A.in1 s u t c):EqAll A s (.ref a) (.ref a') b:=by
 have l1:=h1.len;have l2:=h2.len;have l3:=r1.length;have l4:=r2.length;have hb:b=((Wo (min aL.toArray.size jJ.toArray.size)).all (ev f xs ys)&&aL.toArray.size==jJ.toArray.size):=by
  rw[vp e,Wk,Wk,<-l3,<-l4,<-l1,<-l2]
 have core:RcAt A s (.ref a) (.ref a') b/\RcNeAt A s (.ref a) (.ref a') (!b):=by
  rw[hb];exact⟨RcAt.tuples p1 p2 hu (pW h1 h2 r1 r2 e ih),RcNeAt.tuples p1 p2 hu (pW h1 h2 r1 r2 e ih)⟩
 refine⟨core.1,core.2,?_⟩;by_cases hq:a=a'
 ·rw[hr hq];subst hq;exact EqAt.same _
 ·exact EqAt.of_refs hq core.1
def qt(I:Inv X f8 σ H s)(hs:Same F H):∀(n:Nat) (A:Xf) (x y:D) (v w:V) (u t:Value) (b:Bool),A.units+n<cLine->Den X.K F x v->Den X.K F y w->RelV v u->RelV w t->k9 n x y=some b->EqAll A s u t b
 |0,A,x,y,v,w,u,t,b,hu,hx,hy,rx,ry,e=>xT I hs (by omega) hx hy rx ry (by unfold k9 at e;exact e)
 |n+1,A,x,y,v,w,u,t,b,hu,hx,hy,rx,ry,e=>by
  have QR:A.units<cLine:=by omega
  have Vu:A.in1.units+n<cLine:=by show A.units+1+n<cLine;omega
  have hrefl:=l8 I hs (n+1) x y;have ih:∀x y v w u t c,Den X.K F x v->Den X.K F y w->RelV v u->RelV w t->k9 n x y=some c->EqAt A.in1 s u t c:=λx y v w u t c q1 q2 q3 q4 q5=>(qt I hs n A.in1 x y v w u t c Vu q1 q2 q3 q4 q5).eq;have e0:=e;unfold k9 at e;split at e
  ·rename_i xs ys heq;cases heq;obtain⟨a,vs,aL,rfl,Ot,h2,h3,r1,p1⟩:=w_ I hs hx rx;obtain⟨a',iQ,its',rfl,Ou,k2,k3,P5,PM⟩:=w_ I hs hy ry;exact Bu QR h3 k3 r1 P5 p1 PM e (λz=>by subst z;exact hrefl v b hx (by rw[Ot,<-Ou];exact hy) e0) ih
  ·rename_i xs ys heq;cases heq;obtain⟨a,vs,aL,rfl,Ot,h2,h3,r1,p1⟩:=qW I hs hx rx;obtain⟨a',iQ,its',rfl,Ou,k2,k3,P5,PM⟩:=qW I hs hy ry;exact um QR h3 k3 r1 P5 p1 PM e (λz=>by subst z;exact hrefl v b hx (by rw[Ot,<-Ou];exact hy) e0) ih
  ·rename_i xs ys heq;cases heq;obtain⟨a,aL,rfl,Ot,h2,r1,p1⟩:=Nr I hs hx rx;obtain⟨a',iQ,its',rfl,Ou,k2,k3,P5,PM⟩:=qW I hs hy ry;exact um QR (DenL.ints _) k3 r1 P5 p1 PM e (λz=>by subst z;exact hrefl v b hx (by rw[Ot,<-Ou];exact hy) e0) ih
  ·exact xT I hs QR hx hy rx ry e
end
def nj(x y:D):M D:=match k9 6 x y with | some b=>ab (.bl b) | none=>ag
def vw(x y:D):M D:=match k9 6 x y with | some b=>ab (.bl (!b)) | none=>ag
def P7(K:Wm):R2:=λx y H Q=>∃F dx dy b,Same F H/\Den K F dx x/\Den K F dy y/\k9 6 dx dy=some b/\Q (.bl b) H
def Qd(K:Wm):R2:=λx y H Q=>∃F dx dy b,Same F H/\Den K F dx x/\Den K F dy y/\k9 6 dx dy=some b/\Q (.bl (!b)) H
section
variable{X:Cx}{Xw:Nat->Hp->Prop}{a b:Expr}{δa δb:DE}{pos:Pos}
def GR(hu:X.A.units+64<cLine):OpR X (Xd .Eq) (P7 X.K):=by
 intro f8 s σ H x y v u Q I rx ry h;obtain⟨F,dx,dy,b,hs,hx,hy,e,q⟩:=h;exact(qt I hs 6 X.A dx dy x y v u b (by omega) hx hy rx ry e).rc _ _ _ _ ⟨.bl b,H,I,rfl,q⟩
def MJ(hu:X.A.units+64<cLine):OpR X (Xd .NotEq) (Qd X.K):=by
 intro f8 s σ H x y v u Q I rx ry h;obtain⟨F,dx,dy,b,hs,hx,hy,e,q⟩:=h;exact(qt I hs 6 X.A dx dy x y v u b (by omega) hx hy rx ry e).ne _ _ _ _ ⟨.bl (!b),H,I,rfl,q⟩
def GS{K:Wm}:zV K (P7 K) nj:=λXw F H x y dx dy Q s hx hy w=>by
 unfold nj at w;split at w
 ·rename_i b e;exact⟨F,dx,dy,b,s,hx,hy,e,WP.now w s rfl⟩
 ·exact w.elim
def ML{K:Wm}:zV K (Qd K) vw:=λXw F H x y dx dy Q s hx hy w=>by
 unfold vw at w;split at w
 ·rename_i b e;exact⟨F,dx,dy,b,s,hx,hy,e,WP.now w s rfl⟩
 ·exact w.elim
def uO(hu:X.A.units+64<cLine)(ha:PD X Xw a δa)(hb:PD X Xw b δb):pF X Xw (.Compare a [.Eq] [b] pos) (dN (d2 nj δa δb)):=f9 (GR hu) GS ha hb
def ll(hu:X.A.units+64<cLine)(ha:PD X Xw a δa)(hb:PD X Xw b δb):pF X Xw (.Compare a [.NotEq] [b] pos) (dN (d2 vw δa δb)):=f9 (MJ hu) ML ha hb
def rS(hu:X.A.units+64<cLine)(ha:PD X Xw a δa)(hb:PD X Xw b δb):PD X Xw (.Compare a [.Eq] [b] pos) (d2 nj δa δb):=v_ (GR hu) GS ha hb
end
def PDW(X:Cx)(Xw:Nat->Hp->Prop)(e:Expr)(δ:DT):Prop:=PW X e (SO X.K Xw δ)
def PW.weak(h:PW X e t)(k:∀σ H Q,t' σ H Q->t σ H Q):PW X e t':=λwh f8 s σ H Q I w=>h wh f8 s σ H Q I (k σ H Q w)
section
variable{X:Cx}{Xw:Nat->Hp->Prop}{a b c:Expr}{T0:List Expr}{δa δb δc:DE}{τa τb:DT}{pos:Pos}
def yZ(ha:pF X Xw a τa):PDW X Xw (.BoolOp .And [a] pos) τa:=Ka ha
def fE(ha:pF X Xw a τa):PDW X Xw (.BoolOp .Or [a] pos) τa:=Nj ha
def CN(ha:pF X Xw a τa)(hb:PDW X Xw (.BoolOp .And (b::T0) pos) τb):PDW X Xw (.BoolOp .And (a::b::T0) pos) (Ff τa τb):=PW.weak (Ni ha hb) λσ H Q ⟨F,ρ,s,w⟩=>by
 refine⟨F,ρ,s,WPB.mono (WPB.bindB w) λv H1 ⟨F1,e1,w1⟩=>?_⟩;cases v with
 |true=>exact⟨F1,ρ,s.ext e1,w1⟩
 |false=>exact w1 _ _ (Ext.refl e1.fh)
def h9(ha:pF X Xw a τa)(hb:PDW X Xw (.BoolOp .Or (b::T0) pos) τb):PDW X Xw (.BoolOp .Or (a::b::T0) pos) (oF τa τb):=PW.weak (P4 ha hb) λσ H Q ⟨F,ρ,s,w⟩=>by
 refine⟨F,ρ,s,WPB.mono (WPB.bindB w) λv H1 ⟨F1,e1,w1⟩=>?_⟩;cases v with
 |false=>exact⟨F1,ρ,s.ext e1,w1⟩
 |true=>exact w1 _ _ (Ext.refl e1.fh)
def PDW.t(h:PDW X Xw a τa):pF X Xw a τa:=PW.pt h
def cF(ha:pF X Xw a τa):pF X Xw (.UnaryOp .Not a pos) (cR τa):=PT.weak (Ng ha) λσ H Q ⟨F,ρ,s,w⟩=>
 ⟨F,ρ,s,WPB.mono (WPB.bindB w) λv H1 ⟨F1,e1,w1⟩=>w1 _ _ (Ext.refl e1.fh)⟩
def zG:D->M Bool
 | .non=>ab false
 | .bl b=>ab b
 | .lst ds=>ab (!ds.isEmpty)
 | .tup ds=>ab (!ds.isEmpty)
 |_=>ag
def cg(δ:DE):DT:=λρ=>δ ρ>>=zG
def DenL.isEmpty{K:Wm}(h:DenL K F ds vs):ds.isEmpty=vs.isEmpty:=by
 have:=h.len;cases ds<;>cases vs<;>simp_all
def cN(ha:PD X Xw a δa)(he:∀whole,isTrue a X.env whole=(do let v<-whole;standAt a.pos;holding [v] (truthy v)):=by intro _;rfl):pF X Xw a (cg δa):=PT.weak (Hh ha he) λσ H Q ⟨F,ρ,s,w⟩=>by
 refine⟨F,ρ,s,WP.mono (WPB.bind (K:=X.K) w) λv H1 ⟨F1,d,e1,q1,w1⟩=>?_⟩;cases d with
 |non=>cases (show _=_ from q1);exact⟨false,rfl,w1 _ _ (Ext.refl e1.fh)⟩
 |bl b=>cases (show _=_ from q1);exact⟨b,rfl,w1 _ _ (Ext.refl e1.fh)⟩
 |lst ds=>
  obtain⟨a,vs,rfl,h2,h3,_⟩:=q1;exact⟨!ds.isEmpty, .inl ⟨vs,SqL.of (e1.fh _ _ h2),by rw[h3.isEmpty]⟩,w1 _ _ (Ext.refl e1.fh)⟩
 |tup ds=>
  obtain⟨a,vs,rfl,h2,h3,_⟩:=q1;exact⟨!ds.isEmpty, .inr (.inl ⟨vs,SqT.of (e1.fh _ _ h2),by rw[h3.isEmpty]⟩),w1 _ _ (Ext.refl e1.fh)⟩
 |_=>exact w1.elim
def wb(h:PD X Xw a δa):PD X Xw (.BoolOp op [a] pos) δa:=M0 h
def v9(ha:PD X Xw a δa)(hb:PD X Xw (.BoolOp .And (b::T0) pos) δb):PD X Xw (.BoolOp .And (a::b::T0) pos) (gr δa δb):=PE.weak (MV ha hb) λσ H Q ⟨F,ρ,s,w⟩=>by
 refine⟨F,ρ,s,WP.mono (WP.bind w) λv H1 ⟨F1,d,e1,q1,w1⟩=>?_⟩;cases d with
 |bl k=>
  refine⟨k,q1,?_⟩;cases k with
  |true=>exact⟨F1,ρ,s.ext e1,w1⟩
  |false=>exact WP.now w1 e1.fh rfl
 |_=>exact w1.elim
def PQ(ha:PD X Xw a δa)(hb:PD X Xw (.BoolOp .Or (b::T0) pos) δb):PD X Xw (.BoolOp .Or (a::b::T0) pos) (IH δa δb):=PE.weak (PX ha hb) λσ H Q ⟨F,ρ,s,w⟩=>by
 refine⟨F,ρ,s,WP.mono (WP.bind w) λv H1 ⟨F1,d,e1,q1,w1⟩=>?_⟩;cases d with
 |bl k=>
  refine⟨k,q1,?_⟩;cases k with
  |false=>exact⟨F1,ρ,s.ext e1,w1⟩
  |true=>exact WP.now w1 e1.fh rfl
 |_=>exact w1.elim
def MS(ha:PD X Xw a δa):PD X Xw (.UnaryOp .Not a pos) (KL δa):=PE.weak (MZ ha) λσ H Q ⟨F,ρ,s,w⟩=>by
 refine⟨F,ρ,s,WP.mono (WP.bind w) λv H1 ⟨F1,d,e1,q1,w1⟩=>?_⟩;cases d with
 |bl k=>exact⟨k,q1,WP.now w1 e1.fh rfl⟩
 |_=>exact w1.elim
def Le(hc:pF X Xw c τa)(ha:PD X Xw a δa)(hb:PD X Xw b δb):PD X Xw (.IfExp c a b pos) (NL τa δa δb):=PE.weak (G9 hc ha hb) λσ H Q ⟨F,ρ,s,w⟩=>by
 refine⟨F,ρ,s,WPB.mono (WP.bindB w) λv H1 ⟨F1,e1,w1⟩=>?_⟩;cases v with
 |true=>exact⟨F1,ρ,s.ext e1,w1⟩
 |false=>exact⟨F1,ρ,s.ext e1,w1⟩
def sJ(p q:Int->Int->Bool)(a b c:DE):DE:=λρ=>a ρ>>=λx=>b ρ>>=λy=>match x,y with
 | .int i, .int j=>if p i j then c ρ>>=λz=>gI (λi j=> .bl (q i j)) y z else ab (.bl false)
 |_,_=>ag
def uZ{p q:Int->Int->Bool}:∀σ H Q,tD X.K Xw (sJ p q δa δb δc) σ H Q->Br (Ba λi j=> .bl (p i j)) (Ba λi j=> .bl (q i j)) (tD X.K Xw δa) (tD X.K Xw δb) (tD X.K Xw δc) σ H Q:=λσ H Q ⟨F,ρ,s,w⟩=>by
 refine⟨F,ρ,s,WP.mono (WP.bind w) λv H1 ⟨F1,d,e1,q1,w1⟩=>?_⟩;refine⟨F1,ρ,s.ext e1,WP.mono (WP.bind w1) λu H2 ⟨F2,d',e2,q2,w2⟩=>?_⟩;cases d with
 |int i=>
  cases d' with
  |int j=>
   refine⟨i,j,q1,q2,p i j,rfl,?_⟩;have w2:WP X.K Xw F2 H2 (if p i j then δc ρ>>=λz=>gI (λi j=> .bl (q i j)) (.int j) z else ab (.bl false)) Q:=w2;cases hp:p i j with
   |false=>
    rw[hp] at w2;exact WP.now w2 e2.fh rfl
   |true=>
    rw[hp] at w2;refine⟨F2,ρ,(s.ext e1).ext e2,WP.mono (WP.bind w2) λu' H3 ⟨F3,Uv,e3,q3,w3⟩=>?_⟩;exact rD (gd:=λi j=> .bl (q i j)) (λ_ _ _=>rfl) Xw F3 H3 u u' (.int j) Uv Q e3.fh q2 q3 w3
  |_=>exact w2.elim
 |_=>exact w2.elim
def GY(ho:OpR X (Xd op) (Ba λi j=> .bl (p i j)))(qG:OpR X (Xd Ee) (Ba λi j=> .bl (q i j)))(ha:PD X Xw a δa)(hb:PD X Xw b δb)(hc:PD X Xw c δc)
 (hm:lastMarks [op,Ee] [b,c]=false:=by with_unfolding_all rfl):PD X Xw (.Compare a [op,Ee] [b,c] pos) (sJ p q δa δb δc):=PE.weak (G5 ho qG ha hb hc hm) uZ
def lN(ho:OpR X (Xd op) (Ba λi j=> .bl (p i j)))(qG:OpR X (Xd Ee) (Ba λi j=> .bl (q i j)))(ha:PD X Xw a δa)(hb:PD X Xw b δb)(hc:PD X Xw c δc)
 (hm:lastMarks [op,Ee] [b,c]=false:=by with_unfolding_all rfl):pF X Xw (.Compare a [op,Ee] [b,c] pos) (dN (sJ p q δa δb δc)):=PT.weak (Hd ho qG ha hb hc hm) λσ H Q ⟨F,ρ,s,w⟩=>by
 refine uZ σ H _ ⟨F,ρ,s,WP.mono (WPB.bind w) λv H1 ⟨F1,d,e1,q1,w1⟩=>?_⟩;cases d with
 |bl k=>exact⟨k,q1,w1 _ _ (Ext.refl e1.fh)⟩
 |_=>exact w1.elim
def xn(K:Wm)(r:List V->Hp->VK->Prop)(g:List D->M D):Prop:=∀(Xw:Nat->Hp->Prop) (F H:Hp) (vs:List V) (ds:List D) (Q:VK),Same F H->DenL K F ds vs->WP K Xw F H (g ds) Q->r vs H Q
variable{x:Str}{p:Pos}{e:Expr}{es:List Expr}{δs:DA}{id T:String}{r:List V->Hp->VK->Prop}{g:List D->M D}
def HS(h:xn X.K r g):∀σ H Q,tD X.K Xw (dA g δs) σ H Q->SM r (Uk X.K Xw δs) σ H Q:=λσ H Q ⟨F,ρ,s,w⟩=>
 ⟨F,ρ,s,WPL.mono (WP.bindL w) λvs H1 ⟨F1,ds,e1,q1,w1⟩=>h Xw F1 H1 vs ds Q e1.fh q1 w1⟩
def cV(hc:CallR X (.builtin id) r)(hd:xn X.K r g)(hg:Gl X x)(hm:X.mg x=none)(hv:WV x=some (.builtin id))(ha:lr X Xw (e::es) δs)(hn:x≠"__name__":=by decide)(vA:(x==("__debug__":Str))=false:=by decide)
 (he:Wv (e::es) X.env=(false,eval e X.env)::Wv es X.env:=by rfl)(t9:(YO pos (Wv es X.env)).any (·.1)=false:=by rfl):PD X Xw (.Call (.Name x p) (e::es) [] pos) (dA g δs):=
 PE.weak (G4 hc hg hm hv ha hn vA he t9) (HS hd)
def uJ(hc:CallR X (.type T) r)(hd:xn X.K r g)(hg:Gl X x)(hm:X.mg x=none)(hv:WV x=some (.type T))(ha:lr X Xw (e::es) δs)(hn:x≠"__name__":=by decide)(vA:(x==("__debug__":Str))=false:=by decide)
 (he:Wv (e::es) X.env=(false,eval e X.env)::Wv es X.env:=by rfl)(t9:(YO pos (Wv es X.env)).any (·.1)=false:=by rfl):PD X Xw (.Call (.Name x p) (e::es) [] pos) (dA g δs):=
 PE.weak (El hc hg hm hv ha hn vA he t9) (HS hd)
def bu:List D->M D
 |[.lst ds]=>ab (.int ds.length)
 |[.tup ds]=>ab (.int ds.length)
 |[.str x]=>ab (.int x.length)
 |[.scr ns]=>ab (.int ns.length)
 |_=>ag
def DZ:xn X.K (λxs H Q=>(∃p ys,xs=[.ref p]/\(SqL X.K H p ys\/SqT X.K H p ys)/\Q (.int ys.length) H)\/∃z,xs=[.str z]/\z.length<=Ww/\Q (.int z.length) H) bu:=λXw F H vs ds Q s h w=>by
 unfold bu at w;split at w
 ·obtain⟨v,rfl,h1⟩:=h.one;obtain⟨a,vs,rfl,h2,h3,_⟩:=h1;exact .inl ⟨a,vs,rfl, .inl (SqL.of (s _ _ h2)),by rw[<-h3.len];exact WP.now w s rfl⟩
 ·obtain⟨v,rfl,h1⟩:=h.one;obtain⟨a,vs,rfl,h2,h3,_⟩:=h1;exact .inl ⟨a,vs,rfl, .inr (SqT.of (s _ _ h2)),by rw[<-h3.len];exact WP.now w s rfl⟩
 ·obtain⟨v,rfl,h1⟩:=h.one;cases (show _=_ from h1.1);exact .inr ⟨_,rfl,by have:=h1.2;have:=fP;omega,WP.now w s rfl⟩
 ·obtain⟨v,rfl,h1⟩:=h.one;obtain⟨a,rfl,h2,_⟩:=h1;exact .inl ⟨a,_,rfl, .inl (Same.seq s h2),by rw[V5];exact WP.now w s rfl⟩
 ·exact w.elim
def bw(hg:Gl X "len")(hm:X.mg "len"=none)(ha:lr X Xw [e] δs)(he:Wv [e] X.env=[(false,eval e X.env)]:=by rfl):PD X Xw (.Call (.Name "len" p) [e] [] pos) (dA bu δs):=
 cV (vh.or vi) DZ hg hm PySem.boot_len ha (by decide) (by decide) he rfl
def E2:List D->M D
 |[.int i]=>ab (.int (if i<0 then -i else i))
 |_=>ag
def AK:List D->M D
 |[.int i, .int j]=>ab (.int (if j>i then j else i))
 |_=>ag
def D4:List D->M D
 |[.int i, .int j]=>ab (.int (if j<i then j else i))
 |_=>ag
def GX(hg:Gl X "abs")(hm:X.mg "abs"=none)(ha:lr X Xw [e] δs)(hb:WV "abs"=some (.builtin "abs"))(he:Wv [e] X.env=[(false,eval e X.env)]:=by rfl):PD X Xw (.Call (.Name "abs" p) [e] [] pos) (dA E2 δs):=
 cV E9 (λXw F H vs ds Q s h w=>by
  unfold E2 at w;split at w
  ·obtain⟨v,rfl,h1⟩:=h.one;cases (show _=_ from h1);exact⟨_,rfl,WP.now w s rfl⟩
  ·exact w.elim) hg hm hb ha (by decide) (by decide) he rfl
end
def WP.xw{K:Wm}(h:WP K Xw F H m Q)(k:∀n H,Xw n H->Xw' n H):WP K Xw' F H m Q:=by
 match m,h with
 |none,h=>exact h
 |some (.ok d),h=>exact h
 |some (.ex n),h=>exact λF' H' e=>k n H' (h F' H' e)
def cO{X:Cx}{st:Stmt}(h:iR X.nox (λ_ _=>False) st τ):iR X Xw st (λρ=>noex (τ ρ)):=λs0 adf f8 s σ H D I ⟨F,ρ,S,w⟩=>by
 have w:WPS X.K Xw s0 adf (noex (τ ρ)) D:=w;have w':tS X.K (λ_ _=>False) s0 adf τ D σ H:=by
  refine⟨F,ρ,S,?_⟩;rcases(τ ρ).cs with e | ⟨n,e⟩ | ⟨o,e⟩
  ·rw[e] at w;exact w.elim
  ·rw[e] at w;exact w.elim
  ·rw[e] at w⊢;cases o with
   |nx ρ'=>exact w
   |rt d=>exact w
 refine Xz (h s0 adf f8 s σ H D (I.wish _) w') (λf s' q=>SP.unwish q) λ_ _ z=>z.elim
def EX(cv:Nat->Value)(Xw:Nat->Hp->Prop):XK:=λc _ H=>∃n,c=cv n/\Xw n H
def N0(K:Wm)(cv:Nat->Value)(k:Nat)(f:List D->M D):Sp:=λvs H Q E=>∃F ds,Same F H/\DenL K F ds vs/\vs.length=k/\WP K (λn H'=>E (cv n) none H') F H (f ds) Q
def bN(n:Nat)(τ:DS):List D->M D:=λds=>τ (ds.map (λd=>some (Sl.fz d))++Xg (n - ds.length) none)>>=λo=>match o with
 | .nx _=>ab .non
 | .rt d=>ab d
section
variable{P:WU}{w:World}{K:Wm}{mg:Str->Option Value}{base:Heap}{CX:BI}{cv:Nat->Value}
def Ov{x qual:Str}{st:Stmt}(Fn:Fun K x qual st f fd)(S:FnScope N ps (ah st))
 (qC:∀(dz:Value) (A:Xf) (outer:List Env) (s:We) (H:Hp) (E:XK),Room k (A.deeper (YF qual (ah st) s.heap.objs.size f dz))->
  PSDs (eS CX P w K mg base N qual (ah st) f dz A outer s H E) (λn H'=>E (cv n) none H') (bo st) τ):FnOk P w K mg base CX (k+1) f fd ps (N0 K cv ps.length (bN N.length τ)):=by
 obtain⟨oc,od,kV,doc,pm,an,dz,ct,JJ,rfl,lk,zW⟩:=Fn.ex;refine KU lk zW S (λvs H Q E ⟨_,_,_,_,hl,_⟩=>hl) λA outer s H vs Q E hr Ir=>?_;obtain⟨F,ds,fh,hd,hl,hw⟩:=Ir;refine⟨_,qC dz A outer s H E hr F H,F,ds.map (λd=>some (Sl.fz d))++Xg (N.length - ds.length) none,⟨Ext.refl fh,⟨fh,λi sl e=>?_⟩,?_,λi c a e=>?_,λi j c c' a e=>?_⟩,?_⟩
 ·have P3:=hd.len;by_cases hi:i<ds.length
  ·rw[Xb (by simpa using hi),Wj] at e;cases q:ds[i]? with
   |none=>rw[q] at e;cases e
   |some d=>
    rw[q] at e;cases e;obtain⟨v,e1,e2⟩:=hd.get q;refine⟨v,?_,e2⟩;unfold L2.start;rw[Xb (by simp;omega),Wj,e1];rfl
  ·rw[W8 (by simpa using hi),Yo] at e;split at e<;>cases e
 ·have P3:=hd.len;unfold L2.start;simp[P3]
 ·exfalso
  by_cases hi:i<ds.length
  ·rw[Xb (by simpa using hi),Wj] at e;cases q:ds[i]? with
   |none=>rw[q] at e;cases e
   |some d=>rw[q] at e;cases e
  ·rw[W8 (by simpa using hi),Yo] at e;split at e<;>cases e
 ·exfalso
  by_cases hi:i<ds.length
  ·rw[Xb (by simpa using hi),Wj] at e;cases q:ds[i]? with
   |none=>rw[q] at e;cases e
   |some d=>rw[q] at e;cases e
  ·rw[W8 (by simpa using hi),Yo] at e;split at e<;>cases e
 ·have hw:WP K (λn H'=>E (cv n) none H') F H (τ (ds.map (λd=>some (Sl.fz d))++Xg (N.length - ds.length) none)>>=λo=>match o with | .nx _=>ab .non | .rt d=>ab d) Q:=hw;rcases(τ (ds.map (λd=>some (Sl.fz d))++Xg (N.length - ds.length) none)).cs with e | ⟨n,e⟩ | ⟨o,e⟩
  ·rw[e] at hw;exact hw.elim
  ·rw[e] at hw⊢;exact hw
  ·rw[e] at hw⊢;cases o with
   |nx ρ'=>exact λσ' F' H' s'=>hw .non H' F' s'.ext rfl
   |rt d=>exact λv F' H' e' q=>hw v H' F' e' q
end
section
variable{X:Cx}{Xw:Nat->Hp->Prop}{CX:BI}{cv:Nat->Value}{k m:Nat}{f:Addr}{fd:Y5}{ps:List Str}{g:List D->M D}{x:Str}{p pos:Pos}{e:Expr}{es:List Expr}{δs:DA}
def JL(F:FnOk X.prog X.w X.K X.mg X.base CX k f fd ps (N0 X.K cv m g))(hr:Room k X.A)(hg:Gl X x)(hm:X.mg x=some (.ref f))(hk:Ym X.K (.ref f)=true)(hb:Binds X.K fd ps [])(hx:Passes CX X (EX cv Xw))
 (ha:lr X Xw (e::es) δs)(hl:(e::es).length=m)(vA:(x==("__debug__":Str))=false:=by decide)(he:Wv (e::es) X.env=(false,eval e X.env)::Wv es X.env:=by rfl)(t9:(YO pos (Wv es X.env)).any (·.1)=false:=by rfl):
 PD X Xw (.Call (.Name x p) (e::es) [] pos) (λρ=>δs ρ>>=λds=>if ds.length=m then g ds else ag):=PE.weak (JW F hr hg hm hk hb .nil hx ha vA he t9) λσ H Q ⟨F,ρ,s,w⟩=>by
 refine⟨F,ρ,s,WPL.mono (WP.bindL w) λvs H1 ⟨F1,ds,e1,q1,w1⟩=>?_⟩;split at w1
 ·rename_i Aw;refine⟨F1,ds,e1.fh,by simpa using q1,by rw[XY,<-q1.len];exact Aw,WP.xw w1 λn H h=>⟨n,rfl,h⟩⟩
 ·exact w1.elim
def CI{x:Str}(hg:Gl X x)(hm:X.mg x=some u)(r:RelV v u)(hd:∀F,Den X.K F d v)(vA:(x==("__debug__":Str))=false:=by decide):PD X Xw (.Name x pos) (dC d):=
 iG (JZ hg hm r vA) hd
end
def obj_some(x:ObjOk P w H h a o):∃ob,h.get? a=some ob:=by
 cases o with
 |lst xs=>obtain⟨_,_,_,_,e⟩:=x;exact⟨_,e⟩
 |tup xs=>obtain⟨_,_,_,ob,e,_⟩:=x;exact⟨_,e⟩
 |dK aB=>obtain⟨_,_,_,_,o,_,_,e,_⟩:=x;exact⟨_,e⟩
 |dT aB=>obtain⟨_,_,_,_,o,_,_,e,_⟩:=x;exact⟨_,e⟩
 |set S n=>obtain⟨o,_,_,_,e,_⟩:=x;exact⟨_,e⟩
 |ins C dx fs=>obtain⟨_,_,_,e,_⟩:=x;exact⟨_,e⟩
 |own y=>obtain⟨_,e⟩:=x;exact⟨_,e⟩
 |xd fs=>obtain⟨_,⟨_,_,_,e,_⟩,_⟩:=x;exact⟨_,e⟩
 |rng lo hi=>obtain⟨_,_,_,e⟩:=x;exact⟨_,e⟩
 |frz ob u=>obtain⟨e,_⟩:=x;exact⟨_,e⟩
 |tbl ps=>exact⟨_,(show h.get? a=some _ from x)⟩
 |met f y=>exact⟨_,(show h.get? a=some _ from x)⟩
 |ext φ=>obtain⟨_,⟨_,e⟩,_⟩:=x;exact⟨_,e⟩
def lW(P:WU)(w:World)(cv:Nat->Value):BI:=λouter H s E e s'=>∃(ea:Addr) (n:Nat) (a0:Value) (B:Heap) (H':Hp),e= .ref ea/\s'.os=s.os/\aaD s'.gens/\HOk P w H' s'.heap/\Un (pY outer) [] H H' s.heap s'.heap/\
 Heap.FlyingW B outer ea (cv n) a0 s'.heap/\(∀b o,s'.heap.get? b=some o->(H' b≠none\/(s.heap.get? b).isSome=true)->b∉pY outer->B.get? b=some o)/\E (cv n) none H'
section
variable{P:WU}{w:World}{fs:List Addr}{adf H:Hp}{h₀ h h':Heap}
def Kv(u:Un fs [] adf H h₀ h)(ka:∀b o,h.get? b=some o->b∉fs->(H b≠none\/(h₀.get? b).isSome=true)->h'.get? b=some o)(kb:∀b o,h.get? b=some o->b∈fs->∃sl,h'.get? b=some {o with slots:=sl}):Un fs [] adf H h₀ h' where
 keep:=λb o e n hb hx=>ka b o (u.keep b o e n hb hx) hb (.inr (by rw[e];rfl))
 slot:=λb o e n hb hx=>by
  obtain⟨sl,q⟩:=u.slot b o e n hb hx;obtain⟨Nv,q'⟩:=kb b _ q hb;exact⟨Nv,q'⟩
 free:=u.free
 there:=λb o e hx=>by
  obtain⟨o',q⟩:=u.there b o e hx;by_cases hb:b∈fs
  ·obtain⟨sl,q'⟩:=kb b _ q hb;exact⟨_,q'⟩
  ·exact⟨o',ka b o' q hb (.inr (by rw[e];rfl))⟩
 tups:=u.tups
 frzs:=u.frzs
 tbls:=u.tbls
def FY(x:HOk P w H h)(hf:∀b∈fs,H b=none)(ka:∀b o,h.get? b=some o->b∉fs->H b≠none->h'.get? b=some o):HOk P w H h':=λa o e=>by
 refine(x a o e).stay (λb u hb q=>ka b u q (λz=>?_) ?_) (λ_ q=>q) λ_ _ q=>q
 ·have hz:=hf b z;rcases hb with rfl | hb
  ·rw[hz] at e;cases e
  ·rw[hz] at hb;cases hb
 ·rcases hb with rfl | hb
  ·rw[e];exact λz=>nomatch z
  ·rw[hb];exact λz=>nomatch z
end
section
variable{P:WU}{w:World}{K:Wm}{mg:Str->Option Value}{base:Heap}{N:List Str}{qual:Str}{scope:Scope}{f:Addr}{cd:Value}{A:Xf}{outer:List Env}{adg:We}{adf:Hp}{E:XK}{cv:Nat->Value}
def aQ:Passes (lW P w cv) (eS (lW P w cv) P w K mg base N qual scope f cd A outer adg adf E) (EX cv λn H'=>E (cv n) none H'):=by
 intro f8 σ H s e s' I ⟨ea,n,a0,B,H',he,IY,hg,hok,un,Tp,hB,m,hm,hE⟩;subst he;have L0:((eS (lW P w cv) P w K mg base N qual scope f cd A outer adg adf E)).env.locals=adg.heap.objs.size:=rfl;have I9:pY ((eS (lW P w cv) P w K mg base N qual scope f cd A outer adg adf E)).stack=adg.heap.objs.size::pY outer:=rfl;show wpAny (model P w) (A.deeper (YF qual scope adg.heap.objs.size f cd)) (leaving (YF qual scope adg.heap.objs.size f cd) (.ref ea)) _ _ s';refine wpAny_leaves_onW I.ok.frames rfl Tp λh' LO ups=>?_;have Ik:∀b∈pY ((eS (lW P w cv) P w K mg base N qual scope f cd A outer adg adf E)).stack,H' b=none:=λb hb=>by
  obtain⟨o,ho⟩:∃o,s.heap.get? b=some o:=by
   obtain⟨_,o,ho,_⟩:=I.stack.mem hb;exact⟨o,ho⟩
  exact un.free b o ho (I.stkFree b hb) (by simp)
 have K4:∀b o,s'.heap.get? b=some o->b∉pY ((eS (lW P w cv) P w K mg base N qual scope f cd A outer adg adf E)).stack->(H' b≠none\/(s.heap.get? b).isSome=true)->h'.get? b=some o:=λb o e hb hc=>LO.1 b o (hB b o e hc hb);have unA:Un (pY outer) [] adf H' adg.heap s'.heap:=by
  have u1:Un (pY outer) [] adf H adg.heap s.heap:=I.base;refine⟨λb o e nn hb hx=>?_,λb o e nn hb hx=>?_,λb o e nn hx=>?_,λb o e hx=>?_,λb xs q=>un.tups b xs (u1.tups b xs q),λb o u q=>un.frzs b o u (u1.frzs b o u q),λb ps q=>?_⟩
  ·refine un.keep b o (u1.keep b o e nn hb hx) (u1.free b o e nn hx) (λz=>?_) (by simp);rw[I9] at z;rcases Ws.mp z with z | z
   ·exact ac_ (Wi e) (by rw[z];exact W4 _)
   ·exact hb z
  ·obtain⟨sl,q⟩:=u1.slot b o e nn hb hx;obtain⟨Nv,q'⟩:=un.slot b _ q (u1.free b o e nn hx) (by rw[I9];exact V8 _ hb) (by simp);exact⟨Nv,q'⟩
  ·obtain⟨o',q⟩:=u1.there b o e hx;exact un.free b o' q (u1.free b o e nn hx) (by simp)
  ·obtain⟨o',q⟩:=u1.there b o e hx;exact un.there b o' q (by simp)
  ·obtain⟨m1,q1⟩:=u1.tbls b ps q;obtain⟨m2,q2⟩:=un.tbls b _ q1;exact⟨m1++m2,by rw[q2,aaC]⟩
 have T6:∀b,(adg.heap.get? b).isSome=true->(s.heap.get? b).isSome=true:=λb hb=>by
  obtain⟨o,ho⟩:=YT.mp hb;obtain⟨o',q⟩:=(show Un (pY outer) [] adf H adg.heap s.heap from I.base).there b o ho (by simp);rw[q];rfl
 have Sn:∀b,(adg.heap.get? b).isSome=true->b≠adg.heap.objs.size:=λb hb z=>by
  obtain⟨o,ho⟩:=YT.mp hb;exact ac_ (Wi ho) (by rw[z];exact W4 _)
 have Pz:∀b,b∉pY outer->(H' b≠none\/(adg.heap.get? b).isSome=true)->b∉pY ((eS (lW P w cv) P w K mg base N qual scope f cd A outer adg adf E)).stack:=λb hb hc z=>by
  rcases hc with hc | hc
  ·exact hc (Ik b z)
  ·rw[I9] at z;rcases Ws.mp z with z | z
   ·exact Sn b hc z
   ·exact hb z
 refine⟨ea,n,a0,B,H',rfl,IY.trans I.os,hg,FY hok Ik (λb o e hb hc=>K4 b o e hb (.inl hc)),Kv unA (λb o e hb hc=>K4 b o e (Pz b hb hc) (hc.imp id (T6 b))) (λb o e hb=>?_),LO,λb o e hc hb=>?_,?_⟩
 ·obtain⟨_,o',qG,hd⟩:=Tp.2.2.1.mem (show b∈pY ((eS (lW P w cv) P w K mg base N qual scope f cd A outer adg adf E)).stack by rw[I9];exact V8 _ hb);rw[e] at qG;cases qG;exact ups b o e hd
 ·have OI:=Pz b hb hc;obtain⟨o',qG⟩:∃o',s'.heap.get? b=some o':=by
   rcases hc with hc | hc
   ·cases q:H' b with
    |none=>exact ac_ q hc
    |some u=>
     exact obj_some (hok b u q)
   ·obtain⟨o1,h1⟩:=YT.mp hc;exact unA.there b o1 h1 (by simp)
  have:=hB b o' qG (hc.imp id (T6 b)) OI;rw[LO.1 b o' this] at e;cases e;exact this
 ·rw[hm];exact hE
end
def K5:D->Option String
 | .non=>some "NoneType"
 | .bl _=>some "bool"
 | .int _=>some "int"
 | .str _=>some "str"
 | .tup _=>some "tuple"
 | .lst _=>some "list"
 |_=>none
def Mg(k T:String):Option Bool:=if T="str"\/T="int"\/T="bool"\/T="tuple"\/T="list" then some (decide (k=T)||(decide (k="bool")&&decide (T="int"))) else none
def jA:List D->M D
 |[d, .raw (.ty T)]=>match K5 d with
  |some k=>match Mg k T with
   |some b=>ab (.bl b)
   |none=>ag
  |none=>ag
 |_=>ag
def Ms{K:Wm}(hk:k="NoneType"\/k="bool"\/k="int"\/k="str"\/k="tuple"\/k="list")(h:Mg k T=some b):aa_ K (.type k) (.type T)=some b:=by
 unfold Mg at h;split at h
 ·rename_i hT;cases h;rcases hk with rfl | rfl | rfl | rfl | rfl | rfl<;>rcases hT with rfl | rfl | rfl | rfl | rfl<;>with_unfolding_all rfl
 ·cases h
section
variable{X:Cx}{Xw:Nat->Hp->Prop}{a b e e2:Expr}{δs:DA}{pos p:Pos}
def P_(K:Wm):List V->Hp->VK->Prop:=λxs H Q=>∃x T t b,xs=[x, .ty T]/\TyOf K H x t/\aa_ K t (.type T)=some b/\Q (.bl b) H
def E_:CallR X (.builtin "isinstance") (P_ X.K):=by
 intro f8 s σ H xs us Q I r h;obtain⟨x,T,t,b,rfl,ty,e,q⟩:=h;obtain⟨u,w',rfl,r1,r2⟩:=vals2 r;cases (show w'=_ from r2);exact DU I r1 ty e λtk=>⟨.bl b,H,I.tok tk,rfl,q⟩
def H9{K:Wm}(s:Same F H)(h:Den K F d v)(hk:K5 d=some k):TyOf K H v (.type k)/\(k="NoneType"\/k="bool"\/k="int"\/k="str"\/k="tuple"\/k="list"):=by
 cases d with
 |non=>cases hk;cases (show _=_ from h);exact⟨.non, .inl rfl⟩
 |bl x=>cases hk;cases (show _=_ from h);exact⟨.bl x, .inr (.inl rfl)⟩
 |int x=>cases hk;cases (show _=_ from h);exact⟨.int x, .inr (.inr (.inl rfl))⟩
 |str x=>cases hk;cases (show _=_ from h.1);exact⟨.str x, .inr (.inr (.inr (.inl rfl)))⟩
 |tup x=>cases hk;obtain⟨a,vs,rfl,h2,_⟩:=h;exact⟨.tup (s _ _ h2), .inr (.inr (.inr (.inr (.inl rfl))))⟩
 |lst x=>cases hk;obtain⟨a,vs,rfl,h2,_⟩:=h;exact⟨.lst (s _ _ h2), .inr (.inr (.inr (.inr (.inr rfl))))⟩
 |_=>cases hk
def DR{K:Wm}:xn K (P_ K) jA:=λXw F H vs ds Q s h w=>by
 unfold jA at w;split at w
 ·rename_i d T;obtain⟨v,v',rfl,h1,h2⟩:=h.two;cases (show _=_ from h2);split at w
  ·rename_i k hk;split at w
   ·rename_i b hb;obtain⟨ty,sT⟩:=H9 s h1 hk;exact⟨v,T, .type k,b,rfl,ty,Ms sT hb,WP.now w s rfl⟩
   ·exact w.elim
  ·exact w.elim
 ·exact w.elim
def nZ(hg:Gl X "isinstance")(hm:X.mg "isinstance"=none)(hb:WV "isinstance"=some (.builtin "isinstance"))(ha:lr X Xw [e,e2] δs)(he:Wv [e,e2] X.env=(false,eval e X.env)::Wv [e2] X.env:=by rfl)
 (t9:(YO pos (Wv [e2] X.env)).any (·.1)=false:=by rfl):PD X Xw (.Call (.Name "isinstance" p) [e,e2] [] pos) (dA jA δs):=
 cV E_ DR hg hm hb ha (by decide) (by decide) he t9
def uL{x:Str}(hg:Gl X x)(hm:X.mg x=none)(hv:WV x=some (.type T))(hn:x≠"__name__":=by decide)(hd:(x==("__debug__":Str))=false:=by decide):PD X Xw (.Name x pos) (dC (.raw (.ty T))):=
 iG (JV hg hm hv (show RelV (.ty T) (.type T) from rfl) hn hd) λ_=>rfl
def bools:List D->Option (List Bool)
 |[]=>some []
 | .bl b::r=>(bools r).map (b:: ·)
 |_=>none
def allM:List D->M D
 |[.lst ds]=>match bools ds with
  |some bs=>ab (.bl (bs.all id))
  |none=>ag
 |_=>ag
def nv{K:Wm}:∀{ds:List D}{vs:List V}{bs:List Bool},bools ds=some bs->DenL K F ds vs->vs=bs.map V.bl
 |[],_,_,e,h=>by cases e;exact h
 | .bl b::r,_,_,e,⟨v,r',h1,h2,h3⟩=>by
   unfold bools at e;cases q:bools r with
   |none=>rw[q] at e;cases e
   |some bs=>rw[q] at e;cases e;subst h1;rw[nv q h3,show v= .bl b from h2];rfl
 | .non::_,_,_,e,_=>by cases e
 | .int _::_,_,_,e,_=>by cases e
 | .str _::_,_,_,e,_=>by cases e
 | .raw _::_,_,_,e,_=>by cases e
 | .exc _::_,_,_,e,_=>by cases e
 | .scr _::_,_,_,e,_=>by cases e
 | .tup _::_,_,_,e,_=>by cases e
 | .lst _::_,_,_,e,_=>by cases e
def xa:∀{bs:List Bool}{aL:List Value},Vals (bs.map V.bl) aL->aL=bs.map X7
 |[],_,r=>by cases r;rfl
 |b::bs,_,r=>by
  cases r with
  |cons r1 r2=>cases (show _=_ from r1);rw[xa r2];rfl
def Sv:List V->Hp->VK->Prop:=λxs H Q=>∃(a:Addr) (bs:List Bool),xs=[.ref a]/\H a=some (.lst (bs.map V.bl))/\Q (.bl (bs.all id)) H
def all_range{bs:List Bool}:(Wo bs.length).all (λi=>bs.getD i false)=bs.all id:=by
 induction bs with
 |nil=>rfl
 |cons b bs ih=>
  rw[Wf,Z0,Zs,Zz,Zs];congr 1
def Dl(hc:X.calm=true):CallR X (.builtin "all") Sv:=by
 intro f8 s σ H xs us Q I r h;obtain⟨a,bs,rfl,hH,q⟩:=h;obtain⟨u,rfl,r1⟩:=vals1 r;cases (show u=_ from r1);obtain⟨aL,r2,pl,hz⟩:=I.list (SqL.of hH);obtain rfl:=xa r2;have jI:a≠s.heap.objs.size:=WB (I.hok.lt hH);refine call_all_walk (abm pl.isList ?_);refine⟨s.heap.objs.size,_,_,_,_,_,λi=>bs.getD i false,rfl,Walks.list (show X.A.in1.handled=none from I.ok.hd hc) s.heap.objs.size a jI (bs.map X7).toArray,⟨⟨_,Wr _ rfl,rfl,rfl⟩,ace pl.isList λo e=>V7 _ e⟩,?_,λh' tk k=>?_⟩
 ·intro i v s' Q' E' hv hq;have hv:(bs.map X7).toArray[i]? =some v:=hv;rw[acb,Wj] at hv;cases q':bs[i]? with
  |none=>rw[q'] at hv;cases hv
  |some b=>
   rw[q'] at hv;cases hv;have:bs.getD i false=b:=by rw[Wa,q'];rfl
   have hq:Q' (bs.getD i false) s':=hq;rw[this] at hq;exact XJ hq
 ·have e:(Wo (bs.map X7).toArray.size).all (λi=>bs.getD i false)=bs.all id:=by
   rw[Wk,V5];exact all_range
  rw[e];refine⟨.bl (bs.all id),H,I.kept λb o e'=>k b o (λz=>?_) (V7 _ e'),rfl,q⟩;have z:b=s.heap.objs.size:=by simpa using z
  exact ac_ (Wi e') (by rw[z];exact W4 _)
def A8(hc:X.calm=true)(hg:Gl X "all")(hm:X.mg "all"=none)(hb:WV "all"=some (.builtin "all"))(ha:lr X Xw [e] δs)(he:Wv [e] X.env=[(false,eval e X.env)]:=by rfl):PD X Xw (.Call (.Name "all" p) [e] [] pos) (dA allM δs):=
 cV (Dl hc) (λXw F H vs ds Q s h w=>by
  unfold allM at w;split at w
  ·rename_i ds;obtain⟨v,rfl,h1⟩:=h.one;obtain⟨a,ws,rfl,h2,h3,_⟩:=h1;split at w
   ·rename_i bs hb;exact⟨a,bs,rfl,by rw[<-nv hb h3];exact s _ _ h2,WP.now w s rfl⟩
   ·exact w.elim
  ·exact w.elim) hg hm hb ha (by decide) (by decide) he rfl
end
section
variable{X:Cx}{Xw:Nat->Hp->Prop}{a b e e2:Expr}{es:List Expr}{δ δa δb:DE}{pos p v6 bz:Pos}
def Kq:∀s0 adf D σ H,tS X.K Xw s0 adf (mU i δ) D σ H->HV (SK X.K "list" CQ (sv i) (HU (tD X.K Xw δ) NC)) D σ H:=λs0 adf D σ H ⟨F,ρ,s,w⟩=>by
 unfold mU at w;cases ho:A6 ρ i with
 |none=>rw[ho] at w;exact w.elim
 |some ds=>
  rw[ho] at w;have hi:=uB ho;obtain⟨v,hv,a,o,rfl,hH,hF,vs,rfl,hd,hl⟩:=s.st.den i _ hi;have w:WPS X.K Xw s0 adf (δ ρ>>=λd=>if ds.length<lim then ab (.nx (ρ.set i (some (.ow (.lst (ds++[d])))))) else ag) D:=w;refine⟨.ref a,hv, .inl ⟨rfl,vs,SqL.of hH⟩,F,ρ,s.st,?_⟩;rcases(δ ρ).cs with q | ⟨n,q⟩ | ⟨d,q⟩
  ·rw[q] at w;exact w.elim
  ·rw[q] at w⊢;exact λF' H' e'=>w F' H' (s.ext.trans e')
  ·rw[q] at w⊢;intro u H1 F1 e1 hq;have w:WPS X.K Xw s0 adf (if ds.length<lim then ab (.nx (ρ.set i (some (.ow (.lst (ds++[d])))))) else ag) D:=w;split at w
   ·rename_i fJ;have P3:=hd.len;refine⟨a,vs,u,rfl,rfl,e1.hh _ _ hH,by have:=fP;omega,?_⟩;exact w σ F1 _ ((s.ext' e1).chg hi hv ⟨_,rfl,DenL.append (DenL.mono e1.ff hd) (.cons hq .nil),by rw[Wq];exact fJ⟩)
   ·exact w.elim
def Kr:∀s0 adf D σ H,tS X.K Xw s0 adf (Bd i δ) D σ H->HV (SK X.K "list" CS (sv i) (HU (tD X.K Xw δ) NC)) D σ H:=λs0 adf D σ H ⟨F,ρ,s,w⟩=>by
 unfold Bd at w;cases ho:A6 ρ i with
 |none=>rw[ho] at w;exact w.elim
 |some ds=>
  rw[ho] at w;have hi:=uB ho;obtain⟨v,hv,a,o,rfl,hH,hF,vs,rfl,hd,hl⟩:=s.st.den i _ hi;have w:WPS X.K Xw s0 adf (δ ρ>>=λd=>lstM d>>=λes=>if ds.length+es.length<=lim then ab (.nx (ρ.set i (some (.ow (.lst (ds++es)))))) else ag) D:=w;refine⟨.ref a,hv, .inl ⟨rfl,vs,SqL.of hH⟩,F,ρ,s.st,?_⟩;rcases(δ ρ).cs with q | ⟨n,q⟩ | ⟨d,q⟩
  ·rw[q] at w;exact w.elim
  ·rw[q] at w⊢;exact λF' H' e'=>w F' H' (s.ext.trans e')
  ·rw[q] at w⊢;intro u H1 F1 e1 hq;cases d with
   |lst es=>
    obtain⟨b,ws,rfl,k2,k3,k4⟩:=hq;have w:WPS X.K Xw s0 adf (if ds.length+es.length<=lim then ab (.nx (ρ.set i (some (.ow (.lst (ds++es)))))) else ag) D:=w;split at w
    ·rename_i fJ;have P3:=hd.len;have TQ:=k3.len;refine⟨a,b,vs,ws,rfl,rfl,e1.hh _ _ hH,e1.fh _ _ k2,by have:=fP;omega,?_⟩;exact w σ F1 _ ((s.ext' e1).chg hi hv ⟨_,rfl,DenL.append (DenL.mono e1.ff hd) k3,by rw[Wq];exact fJ⟩)
    ·exact w.elim
   |_=>exact w.elim
def kN(hv:PE X (.Name x p) (sv i))(he:PD X Xw e δ)(hs:Z2 (.Call (.Attribute (.Name x p) "append" v6) [e] [] bz) none pos.line X.env=pure false:=by rfl)
 (ix:Yy (.Name x p) "append" X.env (eval (.Name x p) X.env)=eval (.Name x p) X.env:=by rfl)
 (qF:((YO bz (Wv [e] X.env)).all (λx=>!x.1)&&(aaE bz (Zm [] X.env)).all (λx=>x.1.isSome)&&decide ([e].length+([]:List Zf).length+(if ([]:List Zf).isEmpty then 0 else 1)<30))=true:=by rfl)
 (iy:(v6.endLine==bz.line)=true:=by rfl)(t_:Wv [e] X.env=[(false,eval e X.env)]:=by rfl):iR X Xw (.Expr (.Call (.Attribute (.Name x p) "append" v6) [e] [] bz) pos) (mU i δ):=λs0 adf=>
 PS.weak (p7 (G3 ZH PySem.F.slot_list_append PySem.F.type_list_append ur hv (v7 he v8 t_) ix qF iy t_ rfl) hs) λD σ H w=>Kq s0 adf D σ H w
def CO(hv:PE X (.Name x p) (sv i))(he:PD X Xw e δ)(hs:Z2 (.Call (.Attribute (.Name x p) "extend" v6) [e] [] bz) none pos.line X.env=pure false:=by rfl)
 (ix:Yy (.Name x p) "extend" X.env (eval (.Name x p) X.env)=eval (.Name x p) X.env:=by rfl)
 (qF:((YO bz (Wv [e] X.env)).all (λx=>!x.1)&&(aaE bz (Zm [] X.env)).all (λx=>x.1.isSome)&&decide ([e].length+([]:List Zf).length+(if ([]:List Zf).isEmpty then 0 else 1)<30))=true:=by rfl)
 (iy:(v6.endLine==bz.line)=true:=by rfl)(t_:Wv [e] X.env=[(false,eval e X.env)]:=by rfl):iR X Xw (.Expr (.Call (.Attribute (.Name x p) "extend" v6) [e] [] bz) pos) (Bd i δ):=λs0 adf=>
 PS.weak (p7 (G3 ZH PySem.F.slot_list_extend PySem.F.type_list_extend D7 hv (v7 he v8 t_) ix qF iy t_ rfl) hs) λD σ H w=>Kr s0 adf D σ H w
def GQ:OpR X (ZP .Add) (λx y H Q=>∃a b ys,x= .ref a/\y= .ref b/\SqT X.K H a []/\SqT X.K H b ys/\Q (.ref b) H):=by
 intro f8 s σ H x y v u Q I rx ry h;obtain⟨a,b,ys,rfl,rfl,ha,hb,q⟩:=h;cases rx;cases ry;obtain⟨aL,r1,p1,_⟩:=I.tuple ha;obtain⟨jJ,r2,p2,_⟩:=I.tuple hb;cases r1;obtain⟨⟨cls,dd,data,sl⟩,ho,hc,n,hd⟩:=id p1;obtain⟨⟨Oe,DC,data2,Lj⟩,Ip,Ii,n2,hd2⟩:=id p2;simp only at hc hd Ii hd2;subst hc hd Ii hd2;exact concat_meets ⟨_,ho,rfl⟩ ⟨_,Ip,rfl⟩ abL acD ZM ZI (Zy _ _)
  (tuple_addW0 a b _ _ n n2 dd DC sl Lj (by simp)) ⟨ho,Ip,⟨.ref b,H,I,rfl,q⟩⟩
def B4:D->D->M D
 | .tup x, .tup y=>if x.length+y.length<=lim then ab (.tup (x++y)) else ag
 |_,_=>ag
def JM(ha:PD X Xw a δa)(hb:PD X Xw b δb):PD X Xw (.BinOp a .Add b pos) (d2 B4 δa δb):=uK (GQ.or JC) (λXw F H x y dx dy Q s hx hy w=>by
 unfold B4 at w;split at w
 ·rename_i i j;obtain⟨a,vs,h1,h2,h3,h4⟩:=hx;obtain⟨a',iQ,k1,k2,k3,k4⟩:=hy;split at w
  ·rename_i hl;have e1:=h3.len;have e2:=k3.len;have:=fP;by_cases hv:vs=[]
   ·subst hv;have:i=[]:=by cases i with | nil=>rfl | cons _ _=>simp at e1
    subst this;exact .inl ⟨a,a',iQ,h1,k1,SqT.of (s _ _ h2),SqT.of (s _ _ k2),WP.now w s ⟨a',iQ,k1▸rfl,k2,k3,k4⟩⟩
   ·refine .inr ⟨a,a',vs,iQ,h1,k1,SqT.of (s _ _ h2),SqT.of (s _ _ k2),hv,by omega,λz=>?_,λz p hp=>?_⟩
    ·subst z;have:j=[]:=by cases j with | nil=>rfl | cons _ _=>simp at e2
     subst this;rw[XY] at w;exact WP.now w s ⟨a,vs,rfl,h2,h3,h4⟩
    ·exact WP.fin w (Ext.lay s hp) ⟨p,_,rfl,aK,DenL.mono (Ext.lay s hp).ff (h3.append k3),by rw[Wq];exact hl⟩
  ·exact w.elim
 ·exact w.elim) ha hb
end
section
variable{X:Cx}{Xw:Nat->Hp->Prop}{a b e e2 o:Expr}{es:List Expr}{δa δb δo:DE}{δs:DA}{pos p v6 bz:Pos}
def dM(kd:D->Bool)(g:D->List D->M D)(o:DE)(s:DA):DE:=λρ=>o ρ>>=λd=>if kd d then s ρ>>=λds=>g d ds else ag
def Ld{id:String}(pa:PlainAttrs T)(slot:Slot T name id)(RY:typeOf (.builtin id)=pure (.type "method_descriptor"))(hm:Qx X id r)
 (hk:∀(F H:Hp) (x:V) (d:D),kd d=true->Same F H->Den X.K F d x->Qs X.K T x H)
 (hd:∀(Xw:Nat->Hp->Prop) (F H:Hp) (x:V) (vs:List V) (d:D) (ds:List D) (Q:VK),Same F H->Den X.K F d x->DenL X.K F ds vs->WP X.K Xw F H (g d ds) Q->r x vs H Q)
 (ho:PD X Xw o δo)(ha:lr X Xw (e::es) δs)
 (ix:Yy o name X.env (eval o X.env)=eval o X.env:=by rfl)
 (qF:((YO bz (Wv (e::es) X.env)).all (λx=>!x.1)&&(aaE bz (Zm [] X.env)).all (λx=>x.1.isSome)
  &&decide ((e::es).length+([]:List Zf).length+(if ([]:List Zf).isEmpty then 0 else 1)<30))=true:=by rfl)
 (iy:(v6.endLine==bz.line)=true:=by rfl) (hs:Wv (e::es) X.env=(false,eval e X.env)::Wv es X.env:=by rfl) (Ay:(YO bz (Wv es X.env)).any (·.1)=false:=by rfl):
 PD X Xw (.Call (.Attribute o name v6) (e::es) [] bz) (dM kd g δo δs):=PE.weak (G3 pa slot RY hm ho ha ix qF iy hs Ay) λσ H Q ⟨F,ρ,s,w⟩=>by
 refine⟨F,ρ,s,WP.mono (WP.bind w) λv H1 ⟨F1,d,e1,q1,w1⟩=>?_⟩;split at w1
 ·rename_i Va;refine⟨hk F1 H1 v d Va e1.fh q1,F1,ρ,s.ext e1,WPL.mono (WP.bindL w1) λvs H2 ⟨F2,ds,e2,q2,w2⟩=>?_⟩;exact hd Xw F2 H2 v vs d ds Q e2.fh (Den.mono e2.ff q1) q2 w2
 ·exact w1.elim
def Me:D->Bool
 | .str _=>true
 |_=>false
def uc:D->Bool
 | .lst _=>true
 |_=>false
def Mf{K:Wm}(F H:Hp)(x:V)(d:D)(h:Me d=true)(s:Same F H)(q:Den K F d x):Qs K "str" x H:=by
 cases d with
 |str z=>cases (show _=_ from q.1);exact rfl
 |_=>cases h
def Ga{K:Wm}(F H:Hp)(x:V)(d:D)(h:uc d=true)(s:Same F H)(q:Den K F d x):Qs K "list" x H:=by
 cases d with
 |lst z=>obtain⟨a,vs,rfl,h2,_⟩:=q;exact .inl ⟨rfl,vs,SqL.of (s _ _ h2)⟩
 |_=>cases h
def pS:List D->Option (List Str)
 |[]=>some []
 | .str x::r=>(pS r).map (x:: ·)
 |_=>none
def sy{K:Wm}:∀{ds:List D}{vs:List V}{xs:List Str},pS ds=some xs->DenL K F ds vs->vs=xs.map V.str
 |[],_,_,e,h=>by cases e;exact h
 | .str b::r,_,_,e,⟨v,r',h1,h2,h3⟩=>by
   unfold pS at e;cases q:pS r with
   |none=>rw[q] at e;cases e
   |some bs=>rw[q] at e;cases e;subst h1;rw[sy q h3,show v= .str b from h2.1];rfl
 | .non::_,_,_,e,_=>by cases e
 | .int _::_,_,_,e,_=>by cases e
 | .bl _::_,_,_,e,_=>by cases e
 | .raw _::_,_,_,e,_=>by cases e
 | .exc _::_,_,_,e,_=>by cases e
 | .scr _::_,_,_,e,_=>by cases e
 | .tup _::_,_,_,e,_=>by cases e
 | .lst _::_,_,_,e,_=>by cases e
def sD:∀{xs:List Str}{aL:List Value},Vals (xs.map V.str) aL->StrsAre aL xs
 |[],_,r=>by cases r;exact .nil
 |b::bs,_,r=>by
  cases r with
  |cons r1 r2=>obtain⟨t,rfl⟩:=r1;exact .cons b t (sD r2)
def eU:List Str->Str
 |[]=>⟨#[]⟩
 |x::r=>x++eU r
def joinM:D->List D->M D
 | .str sep,[.lst ds]=>match pS ds with
   |some xs=>if sep.length=0/\(xs.map (·.length)).sum<=lim then ab (.str (eU xs)) else ag
   |none=>ag
 | .str sep,[.tup ds]=>match pS ds with
   |some xs=>if sep.length=0/\(xs.map (·.length)).sum<=lim then ab (.str (eU xs)) else ag
   |none=>ag
 |_,_=>ag
def qh:∀xs:List Str,(eU xs).length=(xs.map (·.length)).sum
 |[]=>rfl
 |x::r=>by
  show (x++eU r).length=_;rw[km,qh r,Wb,WK]
def Kn{x:Str}(h:x.length=0):x=⟨#[]⟩:=by
 obtain⟨⟨l⟩⟩:=x;have:l.length=0:=h;cases l with
 |nil=>rfl
 |cons _ _=>simp at this
def ph(x:Str):x++(⟨#[]⟩:Str)=x:=by
 obtain⟨c⟩:=x;show (⟨c++ #[]⟩:Str)=⟨c⟩
 simp
def oI(sep:Str)(h:sep.length=0):∀xs:List Str,Txt.join sep xs=eU xs:=by
 have e:=Kn h;subst e;intro xs;show Builtin.Str.glued _ xs=_;rw[StrLaws.glued_eq_join];induction xs with
 |nil=>rfl
 |cons x r ih=>
  cases r with
  |nil=>show x=x++(⟨#[]⟩:Str);rw[ph]
  |cons y r=>show x++(⟨#[]⟩:Str)++Str.join _ (y::r)=x++eU (y::r);rw[ph,ih]
def rJoin(K:Wm):V->List V->Hp->VK->Prop:=λx vs H Q=>∃(sep:Str) (a:Addr) (xs:List Str),x= .str sep/\vs=[.ref a]/\(H a=some (.lst (xs.map V.str))\/H a=some (.tup (xs.map V.str)))/\sep.length=0/\(xs.map (·.length)).sum<=lim/\Q (.str (eU xs)) H
def Jx:Qx X "str.join" (rJoin X.K):=by
 intro f8 s σ H x vs v us Q I rx rv h;obtain⟨sep,a,xs,rfl,rfl,hH,hs,hl,q⟩:=h;obtain⟨t,rfl⟩:=rx;obtain⟨u,rfl,r1⟩:=rv.one;cases (show u=_ from r1);have hok:(xs.map (·.length)).sum+xs.length*sep.length<=16777216:=by
  rw[hs,Nat.mul_zero];unfold lim at hl;omega
 rcases hH with hH | hH
 ·obtain⟨aL,r2,pl,hz⟩:=I.list (SqL.of (K:=X.K) hH);refine join_list pl.isList (by simpa using sD r2) hok λt' k=>⟨.str (eU xs),H,I.tok k,⟨t',by rw[oI sep hs]⟩,q⟩
 ·obtain⟨aL,r2,pl,hz⟩:=I.tuple (SqT.of hH);refine join_tuple pl (by simpa using sD r2) hok λt' k=>⟨.str (eU xs),H,I.tok k,⟨t',by rw[oI sep hs]⟩,q⟩
def CL(ho:PD X Xw o δo)(ha:lr X Xw [e] δs)(ix:Yy o "join" X.env (eval o X.env)=eval o X.env:=by rfl)
 (qF:((YO bz (Wv [e] X.env)).all (λx=>!x.1)&&(aaE bz (Zm [] X.env)).all (λx=>x.1.isSome)&&decide ([e].length+([]:List Zf).length+(if ([]:List Zf).isEmpty then 0 else 1)<30))=true:=by rfl)
 (iy:(v6.endLine==bz.line)=true:=by rfl)(t_:Wv [e] X.env=[(false,eval e X.env)]:=by rfl):PD X Xw (.Call (.Attribute o "join" v6) [e] [] bz) (dM Me joinM δo δs):=
 Ld PySem.F.plainAttrs_str PySem.F.slot_str_join PySem.F.type_str_join Jx Mf (λXw F H x vs d ds Q s hx hv w=>by
  unfold joinM at w;split at w
  ·rename_i sep ds;obtain⟨v,rfl,h1⟩:=hv.one;obtain⟨a,ws,rfl,h2,h3,_⟩:=h1;split at w
   ·rename_i xs Pe;split at w
    ·rename_i hc;exact⟨sep,a,xs,hx.1,rfl, .inl (by rw[<-sy Pe h3];exact s _ _ h2),hc.1,hc.2,WP.now w s ⟨rfl,by rw[qh];exact hc.2⟩⟩
    ·exact w.elim
   ·exact w.elim
  ·rename_i sep ds;obtain⟨v,rfl,h1⟩:=hv.one;obtain⟨a,ws,rfl,h2,h3,_⟩:=h1;split at w
   ·rename_i xs Pe;split at w
    ·rename_i hc;exact⟨sep,a,xs,hx.1,rfl, .inr (by rw[<-sy Pe h3];exact s _ _ h2),hc.1,hc.2,WP.now w s ⟨rfl,by rw[qh];exact hc.2⟩⟩
    ·exact w.elim
   ·exact w.elim
  ·exact w.elim) ho ha ix qF iy t_ rfl
def C7:List D->M D
 |[.lst ds]=>ab (.tup ds)
 |[.tup ds]=>ab (.tup ds)
 |_=>ag
def yX(hg:Gl X "tuple")(hm:X.mg "tuple"=none)(hb:WV "tuple"=some (.type "tuple"))(ha:lr X Xw [e] δs)(he:Wv [e] X.env=[(false,eval e X.env)]:=by rfl):PD X Xw (.Call (.Name "tuple" p) [e] [] pos) (dA C7 δs):=
 uJ sO (λXw F H vs ds Q s h w=>by
  unfold C7 at w;split at w
  ·rename_i ds;obtain⟨v,rfl,h1⟩:=h.one;obtain⟨a,ws,rfl,h2,h3,h4⟩:=h1;exact⟨a,ws,rfl, .inl ⟨SqL.of (s _ _ h2),λl hl=>WP.fin w (Ext.lay s hl) ⟨l,ws,rfl,aK,DenL.mono (Ext.lay s hl).ff h3,h4⟩⟩⟩
  ·rename_i ds;obtain⟨v,rfl,h1⟩:=h.one;obtain⟨a,ws,rfl,h2,h3,h4⟩:=h1;exact⟨a,ws,rfl, .inr ⟨SqT.of (s _ _ h2),WP.now w s ⟨a,ws,rfl,h2,h3,h4⟩⟩⟩
  ·exact w.elim) hg hm hb ha (by decide) (by decide) he rfl
def A_(hc:X.calm=true)(hg:Gl X "max")(hm:X.mg "max"=none)(hb:WV "max"=some (.builtin "max"))(ha:lr X Xw [e,e2] δs)(he:Wv [e,e2] X.env=(false,eval e X.env)::Wv [e2] X.env:=by rfl)
 (t9:(YO pos (Wv [e2] X.env)).any (·.1)=false:=by rfl):PD X Xw (.Call (.Name "max" p) [e,e2] [] pos) (dA AK δs):=
 cV (Dp hc) (λXw F H vs ds Q s h w=>by
  unfold AK at w;split at w
  ·obtain⟨v,v',rfl,h1,h2⟩:=h.two;cases (show _=_ from h1);cases (show _=_ from h2);exact⟨_,_,rfl,WP.now w s rfl⟩
  ·exact w.elim) hg hm hb ha (by decide) (by decide) he t9
def G1(hc:X.calm=true)(hg:Gl X "min")(hm:X.mg "min"=none)(hb:WV "min"=some (.builtin "min"))(ha:lr X Xw [e,e2] δs)(he:Wv [e,e2] X.env=(false,eval e X.env)::Wv [e2] X.env:=by rfl)
 (t9:(YO pos (Wv [e2] X.env)).any (·.1)=false:=by rfl):PD X Xw (.Call (.Name "min" p) [e,e2] [] pos) (dA D4 δs):=
 cV (Dr hc) (λXw F H vs ds Q s h w=>by
  unfold D4 at w;split at w
  ·obtain⟨v,v',rfl,h1,h2⟩:=h.two;cases (show _=_ from h1);cases (show _=_ from h2);exact⟨_,_,rfl,WP.now w s rfl⟩
  ·exact w.elim) hg hm hb ha (by decide) (by decide) he t9
def nums:List D->Option (List Int)
 |[]=>some []
 | .int x::r=>(nums r).map (x:: ·)
 |_=>none
def eY{K:Wm}:∀{ds:List D}{vs:List V}{xs:List Int},nums ds=some xs->DenL K F ds vs->vs=xs.map V.int
 |[],_,_,e,h=>by cases e;exact h
 | .int b::r,_,_,e,⟨v,r',h1,h2,h3⟩=>by
   unfold nums at e;cases q:nums r with
   |none=>rw[q] at e;cases e
   |some bs=>rw[q] at e;cases e;subst h1;rw[eY q h3,show v= .int b from h2];rfl
 | .non::_,_,_,e,_=>by cases e
 | .str _::_,_,_,e,_=>by cases e
 | .bl _::_,_,_,e,_=>by cases e
 | .raw _::_,_,_,e,_=>by cases e
 | .exc _::_,_,_,e,_=>by cases e
 | .scr _::_,_,_,e,_=>by cases e
 | .tup _::_,_,_,e,_=>by cases e
 | .lst _::_,_,_,e,_=>by cases e
def sS(neg:Bool):D->D->M D
 | .int i, .tup ds=>match nums ds with | some ns=>ab (.bl (if neg then !ns.contains i else ns.contains i)) | none=>ag
 |_,_=>ag
def F4(i:Int)(ns:List Int):QW (.int i) (ns.map V.int)=ns.contains i:=by
 unfold QW;rw[acd];induction ns with
 |nil=>rfl
 |cons n ns ih=>
  rw[Yp,acO,ih];congr 1;show Ie (.int n) (.int i)=(i==n)
  unfold Ie;exact Bool.beq_comm
def F0{neg:Bool}{K:Wm}:zV K (Sx K neg) (sS neg):=λXw F H x y dx dy Q s hx hy w=>by
 unfold sS at w;split at w
 ·rename_i i ds;obtain⟨a,vs,h1,h2,h3,h4⟩:=hy;split at w
  ·rename_i ns hn;have hv:=eY hn h3;subst hv;cases (show _=_ from hx);refine⟨a,ns.map V.int,h1, .inr (SqT.of (s _ _ h2)),rfl,?_,?_⟩
   ·rw[Zz];exact WI.mpr λ_ _=>rfl
   ·rw[F4];exact WP.now w s rfl
  ·exact w.elim
 ·exact w.elim
def Eo(ha:PD X Xw a δa)(hb:PD X Xw b δb)(hm:Xq .NotIn b=false:=by rfl):pF X Xw (.Compare a [.NotIn] [b] pos) (dN (d2 (sS true) δa δb)):=f9 v5 F0 ha hb hm
def FE(neg:Bool):D->D->M D
 | .str x, .str y=>ab (.bl (if neg then !(!(YR y x 0 y.length 1).isEmpty) else !(YR y x 0 y.length 1).isEmpty))
 |_,_=>ag
def MO(ha:PD X Xw a δa)(hb:PD X Xw b δb)(hm:Xq .In b=false:=by rfl):PD X Xw (.Compare a [.In] [b] pos) (d2 (FE false) δa δb):=v_ Eg (λXw F H x y dx dy Q s hx hy w=>by
 unfold FE at w;split at w
 ·exact⟨_,_,hx.1,hy.1,WP.now w s rfl⟩
 ·exact w.elim) ha hb hm
end
end L3
namespace L3
open PySem PySem.Spec L2 SeqAt HT
open PyProof.Rows hiding St
section
variable{Xw:Nat->Hp->Prop}{b:Expr}
def WPO(Xw:Nat->Hp->Prop)(F H:Hp)(m:M (Option Int))(Q:Option Int->Hp->Prop):Prop:=
 match m with
 |none=>False
 |some (.ok b)=>∀H' F',Ext F H F' H'->Q b H'
 |some (.ex n)=>∀F' H',Ext F H F' H'->Xw n H'
def WPO.mono{Xw:Nat->Hp->Prop}{F H:Hp}{m:M (Option Int)}{Q Q':Option Int->Hp->Prop}(h:WPO Xw F H m Q)(k:∀v H',Q v H'->Q' v H'):WPO Xw F H m Q':=by
 match m,h with
 |none,h=>exact h
 |some (.ok d),h=>exact λH2 F2 e2=>k _ _ (h H2 F2 e2)
 |some (.ex n),h=>exact h
end
def Qw(x:Str):It:=⟨λi _=>i<x.cps.size,λi H v H'=>H'=H/\∃c,x.cps[i]? =some c/\v= .str ⟨#[c]⟩,λi _=>x.cps.size<=i⟩
def EI{P:WU}{K:Wm}(it:Addr)(x:Str)(t:Tok):Turn P w K tg (Qw x) [it] it (λi h=>i<=x.cps.size/\h.IsStrIter it "str_ascii_iterator" x t i) where
 mem:=by simp
 obj:=λi h st b hb=>by
  have e:b=it:=by simpa using hb
  subst e;obtain⟨_,o,e,c,d⟩:=st;exact⟨o,e,λv z=>by rw[d] at z;cases z⟩
 keep:=λi h h' st k=>⟨st.1,let ⟨o,e,r⟩:=st.2;⟨o,k it (by simp) o e,r⟩⟩
 item:=by
  intro X hP hw hK hc i f8 s σ H E I hf st hg;subst hP hw hK;obtain⟨f0,f1,f2,f3,f4,f5⟩:=hf it (by simp);have hi:i<x.cps.size:=hg;refine(Walks.strAscii (I.ok.hd hc) it x t).item i s _ _ hi st.2 λv h' tk hv lX kk=>?_;obtain⟨c,u,Rz,rfl⟩:=hv;have I1:Inv X f8 σ H {s with heap:=h',toks:=tk}:=I.turned (λb o hb e=>kk b o (by simpa using hb) e) f0 f1 f3 f4 f5;obtain⟨o,e,cc,dd⟩:=id lX;exact⟨_,rfl,qA e cc dd (by decide) ⟨.str ⟨#[c]⟩,H,I1,⟨u,rfl⟩,⟨rfl,c,Rz,rfl⟩,⟨hi,lX⟩,λb hb=>(hf b hb).1⟩⟩
 done:=by
  intro X hP hw hK hc i f8 s σ H E I hf st hg;subst hP hw hK;obtain⟨f0,f1,f2,f3,f4,f5⟩:=hf it (by simp);have hi:i=x.cps.size:=Y8 st.1 hg;subst hi;exact(Walks.strAscii (I.ok.hd hc) it x t).done s _ _ st.2 λh' tk kk=>⟨rfl,I.turned (λb o hb e=>kk b o (by simpa using hb) e) f0 f1 f3 f4 f5⟩
 self:=λ_ _ _ _ _ st h=>wpAny_pyIter_striter_ascii st.2 h
def EJ{P:WU}{K:Wm}(it:Addr)(x:Str)(t:Tok):Turn P w K tg (Qw x) [it] it (λi h=>i<=x.cps.size/\h.IsStrIter it "str_iterator" x t i) where
 mem:=by simp
 obj:=λi h st b hb=>by
  have e:b=it:=by simpa using hb
  subst e;obtain⟨_,o,e,c,d⟩:=st;exact⟨o,e,λv z=>by rw[d] at z;cases z⟩
 keep:=λi h h' st k=>⟨st.1,let ⟨o,e,r⟩:=st.2;⟨o,k it (by simp) o e,r⟩⟩
 item:=by
  intro X hP hw hK hc i f8 s σ H E I hf st hg;subst hP hw hK;obtain⟨f0,f1,f2,f3,f4,f5⟩:=hf it (by simp);have hi:i<x.cps.size:=hg;refine(Walks.strWide (I.ok.hd hc) it x t).item i s _ _ hi st.2 λv h' tk hv lX kk=>?_;obtain⟨c,u,Rz,rfl⟩:=hv;have I1:Inv X f8 σ H {s with heap:=h',toks:=tk}:=I.turned (λb o hb e=>kk b o (by simpa using hb) e) f0 f1 f3 f4 f5;obtain⟨o,e,cc,dd⟩:=id lX;exact⟨_,rfl,qA e cc dd (by decide) ⟨.str ⟨#[c]⟩,H,I1,⟨u,rfl⟩,⟨rfl,c,Rz,rfl⟩,⟨hi,lX⟩,λb hb=>(hf b hb).1⟩⟩
 done:=by
  intro X hP hw hK hc i f8 s σ H E I hf st hg;subst hP hw hK;obtain⟨f0,f1,f2,f3,f4,f5⟩:=hf it (by simp);have hi:i=x.cps.size:=Y8 st.1 hg;subst hi;exact(Walks.strWide (I.ok.hd hc) it x t).done s _ _ st.2 λh' tk kk=>⟨rfl,I.turned (λb o hb e=>kk b o (by simpa using hb) e) f0 f1 f3 f4 f5⟩
 self:=λ_ _ _ _ _ st h=>wpAny_pyIter_striter_wide st.2 h
section
variable{X:Cx}{Xw:Nat->Hp->Prop}{tg a b e l o:Expr}{δ:DE}
def R_(tl:TE):TI:=λσ H R=>tl σ H λx H1=>∃z,x= .str z/\R (Qw z) H1
def M8{tl:TE}(hl:PE X l tl):PI X tg l (R_ tl):=by
 intro f8 s σ H R I h;refine cp (hl f8 s σ H _ I h) λv s1 ⟨x,H1,I1,r1,q1⟩=>?_;obtain⟨z,e,q⟩:=q1;subst e;obtain⟨t,rfl⟩:=r1;have fp:∀b∈[s1.heap.objs.size],sM X f8 H1 b:=λb hb=>by
  have e:b=s1.heap.objs.size:=by simpa using hb
  subst e;exact I1.fpOk (Wg _) (I1.hok.fresh (Wg _))
 cases ha:z.cps.all (· <128)
 ·exact wpAny_pyIter_wide ha ⟨s1.heap.objs.size,[s1.heap.objs.size],_,_,H1,rfl,I1.kept (t':=s1.toks) λb o e=>V7 _ e,EJ _ z t,⟨WQ _,_,Wr _ rfl,rfl,rfl⟩,fp,q⟩
 ·exact wpAny_pyIter_ascii ha ⟨s1.heap.objs.size,[s1.heap.objs.size],_,_,H1,rfl,I1.kept λb o e=>V7 _ e,EI _ z t,⟨WQ _,_,Wr _ rfl,rfl,rfl⟩,fp,q⟩
def signs(x:Str):List D:=x.cps.toList.map λc=>D.str ⟨#[c]⟩
def Nu:D->M (List D)
 | .str x=>ab (signs x)
 |_=>ag
def Ji{K:Wm}{F:Hp}(x:Str):ItD K F (Qw x) (signs x):=λF' H' i s1 s2=>by
 refine⟨λd e=>?_,λhl=>show x.cps.size<=i by simpa[signs] using hl⟩;unfold signs at e;rw[Wj] at e;cases q:x.cps.toList[i]? with
 |none=>rw[q] at e;cases e
 |some c=>
  rw[q] at e;cases e;have hi:i<x.cps.size:=by
   have:=(Wh.mp q).1;simpa using this
  refine⟨hi,λv H'' y=>?_⟩;obtain⟨e2,c',Ih,rfl⟩:=y;subst e2;have:c'=c:=by
   have q':x.cps[i]? =some c:=by simpa using q
   rw[q'] at Ih;exact(WW Ih).symm
  subst this;exact⟨F',Ext.refl s2,rfl,by show 1<=lim;decide⟩
def JU(h:PD X Xw l δ):zZ X Xw tg l (λρ=>δ ρ>>=Nu):=PI.weak (M8 h) λσ H R ⟨F,ρ,s,w⟩=>by
 refine⟨F,ρ,s,WP.mono (WPI.bind w) λv H1 ⟨F1,d,e1,q1,w1⟩=>?_⟩;cases d with
 |str z=>exact⟨z,q1.1,w1 _ _ _ (Ext.refl e1.fh) (Ji z)⟩
 |_=>exact w1.elim
end
end L3
namespace L3
open PySem PySem.Spec L2 SeqAt HT
open PyProof.Rows hiding St
open PySem.W (Frag Looks InstAt findIn mroIn)
open PySem.Builtin PySem.Builtin.ObjectAttr PySem.Builtin.Getset_descriptor
end L3
namespace L3
open PySem PySem.Spec L2 SeqAt HT
open PyProof.Rows hiding St
structure RoomH (k:Nat) (A:Xf):Prop where
 dp:A.depth+3*k+5<acf
 un:A.units+16*k+200<cLine
def RoomH.deeper(r:RoomH (k+1) A)(env:Env):RoomH k (A.deeper env):=
 ⟨by have:=r.dp;show A.depth+1+3*k+5<_;omega,by have:=r.un;show A.units+3+16*k+200<_;omega⟩
def RoomH.units(r:RoomH k A):A.units+64<cLine:=by have:=r.un;omega
def BS(N:List Str)(osc scope:Scope)(tn:List Str):Bool:=
 decide (scope.kind= .function)&&scope.names.all (λy=>decide (y.2≠ .cell))&&scope.names.all (λy=>decide (y.2= .local->scope.names.lookup y.1=some .local))&&
 scope.names.all (λy=>decide (y.2= .free->(osc.names.lookup y.1=some .cell\/osc.names.lookup y.1=some .free)))&&
 ((bP tn N).zip N).all (λp=>decide (scope.names.lookup p.1=none\/(p.1=p.2/\scope.names.lookup p.1=some .free)))
def aS(hN:X.N=N)(ho:X.env.scope=osc)(h:BS N osc scope tn=true):CompSc X scope tn:=by
 unfold BS at h;simp only[Wl,WI,ac4] at h;obtain⟨⟨⟨⟨h1,h2⟩,h3⟩,h4⟩,h5⟩:=h;refine⟨h1,h2,h3,λy hy hf=>?_,?_⟩
 ·have:=h4 y hy hf;rw[<-ho] at this;exact this
 ·rw[hN];exact h5
def bE(hN:X.N.Nodup)(h0:X.N[0]? =some x)(L0:X.env.scope.names.lookup x=some .local):Dc X (.Name x px) 0 σ:=λf8 s σ' F H d ts v u I fh hd rv q e=>by
 have e:ab [d]=ab ts:=e;have e:=f_ e;subst e;refine abn (su I hN h0 (.inl L0) rv (λs' I'=>⟨[v],?_, .cons q .nil⟩) (.inr L0));have hl:0<σ'.length:=by rw[I.len];exact(Wh.mp h0).1
 have:σ'.set 0 (some v)=[v].map some++σ:=by
  cases σ' with
  |nil=>simp at hl
  |cons a r=>
   have hd:r=σ:=by simpa using hd
   subst hd;rfl
 rw[<-this];exact I'
def cu:Passes (lW P w cv) X (EX cv λ_ _=>False):=λ_ _ _ _ _ _ _ ⟨_,_,_,_,_,_,_,_,_,_,_,_,_,_,z⟩=>z.elim
def bj(K:Wm)(mg:Str->Option Value)(x:Str)(st:Stmt)(f:Addr):Prop:=mg x=some (.ref f)/\∃fd,Fun K x x st f fd
def aj(P:WU)(w:World)(K:Wm)(mg:Str->Option Value)(base:Heap)(cv:Nat->Value)(k:Nat)(x:Str)(m:Nat)(g:List D->M D):Prop:=
 ∃f fd ps,mg x=some (.ref f)/\Ym K (.ref f)=true/\Binds K fd ps []/\FnOk P w K mg base (lW P w cv) k f fd ps (N0 K cv m g)
section
variable{X:Cx}{Xw:Nat->Hp->Prop}{cv:Nat->Value}{k m:Nat}{g:List D->M D}{x:Str}{p pos:Pos}{e:Expr}{es:List Expr}{δs:DA}
def ar(m:Nat)(g:List D->M D)(δs:DA):DE:=λρ=>δs ρ>>=λds=>if ds.length=m then g ds else ag
def aU(F:aj X.prog X.w X.K X.mg X.base cv k x m g)(hr:Room k X.A)(hg:Gl X x)(hx:Passes (lW X.prog X.w cv) X (EX cv Xw))
 (ha:lr X Xw (e::es) δs)(hl:(e::es).length=m)(vA:(x==("__debug__":Str))=false:=by decide)(he:Wv (e::es) X.env=(false,eval e X.env)::Wv es X.env:=by rfl)(t9:(YO pos (Wv es X.env)).any (·.1)=false:=by rfl):
 PD X Xw (.Call (.Name x p) (e::es) [] pos) (ar m g δs):=by
 obtain⟨f,fd,ps,h1,h2,h3,h4⟩:=F;exact JL h4 hr hg h1 h2 h3 hx ha hl vA he t9
end
def ay{K:Wm}{st:Stmt}(T:bj K mg x st f)(S:FnScope N ps (ah st))
 (UR:∀(kV doc pm:Value) (an:Option Addr) (dz ct:Value) (us:List Value),us.length=ps.length->bindArgs (Yb x x (fC st) (bo st) (ah st) .none kV doc pm an dz ct) ⟨us,[]⟩=pure (ps.zip us))
 (qC:∀(dz:Value) (A:Xf) (outer:List Env) (s:We) (H:Hp) (E:XK),Room k (A.deeper (YF x (ah st) s.heap.objs.size f dz))->
  PSDs (eS (lW P w cv) P w K mg base N x (ah st) f dz A outer s H E) (λn H'=>E (cv n) none H') (bo st) τ):aj P w K mg base cv (k+1) x ps.length (bN N.length τ):=by
 obtain⟨h1,fd,Fn⟩:=T;exact⟨f,fd,ps,h1,Fn.kp,Fn.binds UR,Ov Fn S qC⟩
section
variable{X:Cx}{Xw:Nat->Hp->Prop}{a e:Expr}{δ:DE}{pos:Pos}
def My:D->M D
 | .int i=>ab (.int (-i))
 |_=>ag
def MQ(ha:PD X Xw a δ):PD X Xw (.UnaryOp .USub a pos) (d1 My δ):=PE.weak (PY NH ha) λσ H Q ⟨F,ρ,s,w⟩=>by
 refine⟨F,ρ,s,WP.mono (WP.bind w) λv H1 ⟨F1,d,e1,q,w1⟩=>?_⟩;cases d with
 |int i=>
  have q:v= .int i:=q;subst q;exact⟨i,rfl,WP.now w1 e1.fh rfl⟩
 |_=>exact w1.elim
def Hy(put:D->cK->Option cK)(δ:DE):DS:=λρ=>δ ρ>>=λd=>match put d ρ with
 |some ρ'=>ab (.nx ρ')
 |none=>ag
def J5{tg:Expr}{g:TG}{put:D->cK->Option cK}(he:PD X Xw e δ)(hg:PG X tg g)(L7:BK X.K g put)(hs:aa5 [tg] e pos.line X.env=pure false:=by rfl)(hw:swappedStores [tg] e X.env=pure none:=by rfl)
 (h1:(Yr [tg] X.env).map (·.2)=[assign tg X.env]:=by rfl):iR X Xw (.Assign [tg] e pos) (Hy put δ):=λs0 adf=>PS.weak (rZ he hg hs hw h1) λD σ H ⟨F,ρ,s,w⟩=>by
 refine⟨F,ρ,s.st,?_⟩;unfold Hy at w
 match δ ρ,w with
 |none,w=>exact w
 |some (.ex n),w=>exact λF' H' e'=>w F' H' (s.ext.trans e')
 |some (.ok d),w=>
  intro v H' F' e' q;have w:WPS X.K Xw s0 adf (match put d ρ with | some ρ'=>ab (.nx ρ') | none=>ag) D:=w
  match hp:put d ρ,w with
  |none,w=>exact w.elim
  |some ρ',w=>exact L7 s0 adf F' H' σ ρ ρ' d v _ (s.ext' e') q hp λσ' s'=>w σ' F' H' s'
end
section
variable{X:Cx}{Xw:Nat->Hp->Prop}{pos:Pos}
def JR{x z:Str}(hg:Gl X x)(h:∃t,X.mg x=some (.str z t))(hz:z.length<=lim)(vA:(x==("__debug__":Str))=false:=by decide):PD X Xw (.Name x pos) (dC (.str z)):=by
 obtain⟨t,h⟩:=h;exact CI (v:= .str z) hg h ⟨t,rfl⟩ (λ_=>⟨rfl,hz⟩) vA
def CJ{x:Str}{i:Int}(hg:Gl X x)(h:∃t,X.mg x=some (.int i t))(vA:(x==("__debug__":Str))=false:=by decide):PD X Xw (.Name x pos) (dC (.int i)):=by
 obtain⟨t,h⟩:=h;exact CI (v:= .int i) hg h ⟨t,rfl⟩ (λ_=>rfl) vA
end
def Kb(sc osc:Scope):Scope:={sc with names:=sc.names.map λ(n,k)=>if (k== .free&&osc.kind== .function&&osc.names.lookup n==some .cell) then(n, .cell) else(n,k)}
structure Box (p:Prop):Prop where
 out:p
section
variable{X:Cx}{Xw:Nat->Hp->Prop}
def fj{st:Stmt}{T0:List Stmt}{τ τ':DS}(h1:Box (iR X Xw st τ))(h2:Box (PSDs X Xw T0 τ')):Box (PSDs X Xw (st::T0) (aD τ τ')):=⟨ai h1.out h2.out⟩
def Lz{st:Stmt}{τ:DS}(h1:Box (iR X Xw st τ)):Box (PSDs X Xw [st] τ):=⟨aq h1.out⟩
end
def Qt{l:acH}{n k:Nat}{q:WU}{loose:List Str}{XP:(Str->Option Value)->Heap->Prop}{YP:World->Heap->Prop}{d:DefRec}{K:Params->Wm}{x:Str}{g:List D->M D}
 (hn:l.most=some n)(QO:n<=lim)(OM:d.params.defaults=[])(hr:Room k abr)
 (hY:∀(w:World) (h:Heap),YP w h->(K w.params).In h)(hg:∀ns:List Int,ns.length<=n->g [.scr ns]=ab (.bl true))
 (F:∀(w:World) (mg:Str->Option Value) (fa:Addr) (h:Heap),(K w.params).In h->h.Ns WD mg->mg d.name=some (.ref fa)->
  ∃(cv:Nat->Value) (fd:Y5),(∀(s:We) (u:Value),acS s fd ⟨[u],[]⟩ [(x,u)])/\
   ∀base:Heap,(K w.params).In base->base.Ns WD mg->FnOk l.prog w (K w.params) mg base (lW l.prog w cv) k fa fd [x] (N0 (K w.params) cv 1 g)):
 PySem.W.WalkO q loose XP YP l.row.toRowW d [] (λf vs=>acG f vs):=by
 refine Att.attach_call hn OM λw adg v4 mg mb fa o pm cd doc a vs ns G Y ho hd zW L1 FX hints P3 U6=>?_;have KX:=hY w _ Y;obtain⟨cv,fd,hb,hF⟩:=F w mg fa _ KX G.T.g L1;refine yo KX G.T.g G.T.b G.T.builtins G.T.nolimit U6 FX hints (WX P3 (WX QO (X8 fP))) hr hF hb (λH hO hS=>?_) λH e s' z=>?_
 ·refine⟨H,[.scr ns],λ_ _ e=>e,⟨_,_,rfl,⟨a,rfl,hS,WX P3 QO⟩,rfl⟩,rfl,?_⟩;rw[hg ns P3];exact λv H' F' e q=>q
 ·obtain⟨_,_,_,_,_,_,_,_,_,_,_,_,_,_,y⟩:=z
def uT(n:Nat):(Wo n).map (λk=>n - 1 - k)=(Wo n).reverse:=by
 apply XN
 ·simp
 ·intro i h1 h2;simp at h1;rw[acn];simp
def y7{α:Type}(xs:Array α):(Wo xs.size).reverse.filterMap (λk=>xs[k]?)=xs.toList.reverse:=by
 rw[List.filterMap_reverse];congr 1;have:∀n,n<=xs.size->(Wo n).filterMap (λk=>xs[k]?)=xs.toList.take n:=by
  intro n;induction n with
  |zero=>intro _;rfl
  |succ n ih=>
   intro h;have e:xs[n]? =some xs[n]:=WS (by omega);rw[abf,List.filterMap_append,ih (by omega),acZ];simp[e]
 rw[this xs.size (Wg _),<-Wn,List.take_length]
def xW{α β:Type}{f g:α->Option β}:∀{l:List α},(∀x∈l,f x=g x)->l.filterMap f=l.filterMap g
 |[],_=>rfl
 |a::l,h=>by rw[YX,YX,h a (V_ ..),xW λx hx=>h x (V8 _ hx)]
def Bb(n:Nat):sliceRange ((n:Int) - 1) (-1) (-1)=(Wo n).reverse:=by
 rw[<-uT];unfold sliceRange;have e1:¬((-1:Int)>0):=by omega
 simp only[e1,if_false];by_cases h:(n:Int) - 1> -1
 ·simp only[h,if_true];have e2:((((n:Int) - 1 - -1 - -1 - 1) / (- -1)).toNat)=n:=by
   have:(n:Int) - 1 - -1 - -1 - 1=n:=by omega
   rw[this];simp
  rw[e2];refine WN λk hk=>?_;have:=WT.mp hk;omega
 ·simp only[h,if_false];have:n=0:=by omega
  subst this;rfl
def wy(x:Str):Str:=⟨x.cps.toList.reverse.toArray⟩
def se(x:Str):(wy x).length=x.length:=by
 show x.cps.toList.reverse.toArray.size=x.cps.size;simp
section
variable{prog:WU}{w:World}{A:Xf}{E:Value->We->Prop}{s:We}
def Gp(x:Str)(t u:Tok):sliceMade x t none none (some (-1,u))= .str (wy x):=by
 unfold sliceMade slicePicked;have h:¬((((some ((-1:Int),u)).map (·.1)).getD 1==1&&(X4 none none (-1) x.length).length==x.length)=true):=by
  intro q;rw[Wl] at q;exact ac_ (show ((-1:Int)==1)=true from q.1) (by decide)
 have e:X4 none none (-1) x.length=(Wo x.length).reverse:=by
  unfold X4;exact Bb x.length
 show (if ((((some ((-1:Int),u)).map (·.1)).getD 1==1&&(X4 none none (-1) x.length).length==x.length)=true) then Made.val (.str x t) else Made.str ⟨((X4 none none (-1) x.length).filterMap (x.cps[·]?)).toArray⟩)=_;rw[ac6 h,e];show Made.str ⟨((Wo x.cps.size).reverse.filterMap (x.cps[·]?)).toArray⟩=_;rw[y7];rfl
def xq{sl:Addr}{u:Tok}{n:Nat}{Q:Int×Int×Nat->We->Prop}(hs:s.heap.IsSliceOf sl .none .none (.int (-1) u))(h:Q ((n:Int) - 1,-1,n) s):
 wpAny (model prog w) A (aaq (.ref sl) (pure (n:Int))) Q E s:=by
 obtain⟨os,IY,TH,LY⟩:=id hs;unfold aaq Builtin.Slice.sliceFields;refine V4 (V4 (X6 IY LY (x:= .none) rfl (V4 (X6 IY LY (x:= .none) rfl (V4 (X6 IY LY (x:= .int (-1) u) rfl (V9 ?_)))))));refine V4 (slicePart_int ?_);show wpAny _ _ (if ((-1:Int)==0)=true then _ else _) _ _ s;rw[ac6 (by decide)];refine V4 (slicePart_none (V4 (slicePart_none (V4 (V9 ?_)))));show wpAny _ _ (match aaB none none (-1) (n:Int) with | (lo,hi)=>pure (lo,(-1:Int),YB lo hi (-1))) _ _ s;have e1:aaB none none (-1) (n:Int)=((n:Int) - 1,-1):=rfl;have e2:YB ((n:Int) - 1) (-1) (-1)=n:=by
  unfold YB;have e1:¬((-1:Int)>0):=by omega
  simp only[e1,if_false];have e3:(- (-1:Int))=1:=by omega
  rw[e3,Int.ediv_one];split<;>omega
 rw[e1];show wpAny _ _ (pure ((n:Int) - 1,(-1:Int),YB ((n:Int) - 1) (-1) (-1))) _ _ s;rw[e2];exact V9 h
def md{t sl:Addr}{items:Array Value}{u:Tok}{Q:Value->We->Prop}(ht:IsTup s.heap t items)(hs:s.heap.IsSliceOf sl .none .none (.int (-1) u))
 (h:Q (.ref s.heap.objs.size) {s with heap:=s.heap.push {cls:= .type "tuple",data:= .seq items.toList.reverse.toArray} })(hsz:items.size<=Ww):wpAny (model prog w) A (aaU (.ref t) (.ref sl)) Q E s:=by
 have hr:sizeOk (.seq items.toList.reverse.toArray):=by
  show items.toList.reverse.toArray.size<=Ww;simpa using hsz
 obtain⟨os,IY,TH,LY⟩:=id hs;have UO:s.TypeIs (.ref sl) "slice":=⟨os,IY,TH⟩
 unfold aaU
 try with_reducible refine XQ ?_
 first | refine V4 (V9 ?_) | skip
 refine V4 (wpAny_sequenceKey ht.typeIs (by decide) ?_);refine V4 (XA (name:=XO "__getitem__") ht.typeIs Z4
  (W0 Z4 ht.typeIs entry_tuple_getitem ?_ (args_tuple_getitem _ _)))
 show wpAny _ _ (Builtin.Tuple.tupleItemsOf (.ref t)>>=_) _ _ s;refine V4 (tupleItemsOf_ ht ?_);refine V4 (wpAny_typeOf UO ?_);rw[ac5 (by decide)];refine V4 (xq hs ?_);have FW:¬((((items.size:Int) - 1)==0&&(-1:Int)==1&&items.size==items.size)=true):=by
  intro q;rw[Wl,Wl] at q;exact ac_ q.1.2 (by decide)
 show wpAny _ _ (if (((items.size:Int) - 1)==0&&(-1:Int)==1&&items.size==items.size)=true then _ else _) _ _ s;rw[ac6 FW];have e:((Wo items.size).filterMap λ(m:Nat)=>items[(((items.size:Int) - 1)+(m:Int)*(-1)).toNat]?).toArray=items.toList.reverse.toArray:=by
  rw[<-y7,<-uT,List.filterMap_map];congr 1;refine xW λk hk=>?_;have:=WT.mp hk;have q:(((items.size:Int) - 1)+(k:Int)*(-1)).toNat=items.size - 1 - k:=by omega
  rw[q];rfl
 rw[e]
 first
  |exact V4 (m:=YH _) (WY (V9 ⟨_,rfl,V9 h⟩) hr)
  |exact V4 (m:=YH _) (WY (V4 (V9 (V9 ⟨_,rfl,V9 h⟩))) hr)
  |exact V4 (V4 (m:=YH _) (WY (V9 (V9 ⟨_,rfl,V9 h⟩)) hr))
  |exact V4 (V4 (m:=YH _) (WY (V9 ⟨_,rfl,V9 h⟩) hr))
end
section
variable{X:Cx}{Xw:Nat->Hp->Prop}{e Oq:Expr}{te ts:TE}{δ δs:DE}{pos p2:Pos}
def Tc(X:Cx)(r:V->Hp->VK->Prop):Prop:=
 ∀(f8:List (Addr×Obj)) (s:We) (σ:St) (H:Hp) (x:V) (v:Value) (u:Tok) (sl:Addr) (Q:VK),Inv X f8 σ H s->RelV x v->s.heap.IsSliceOf sl .none .none (.int (-1) u)->r x H Q->
  ∃T id,abp (.type T) "__getitem__"=pure (some (.builtin id))/\s.TypeIs v T/\wpAny (model X.prog X.w) X.A (aaU v (.ref sl)) (EP X f8 σ Q) X.xe s
def M3{r:V->Hp->VK->Prop}(hr:Tc X r)(he:PE X e te)(hs:PE X Oq ts):PE X (.Subscript e (.Slice none none (some Oq) p2) pos) (λσ H Q=>te σ H λx H1=>ts σ H1 λy H2=>y= .int (-1)/\r x H2 Q):=by
 intro f8 s σ H Q I h;refine Subscript_ (cp (he f8 s σ H _ I h) λv s1 ⟨x,H1,I1,r1,q1⟩=>?_);refine wpAny_Slice ?_;rw[evalPart_none];refine V9 (V9 ?_);rw[evalPart_some];refine cp (hs f8 s1 σ H1 _ I1 q1) λvs s3 ⟨y,H3,I3,ry,q3⟩=>?_;obtain⟨rfl,q3⟩:=q3;obtain⟨u,rfl⟩:=ry;have I4:Inv X f8 σ H3 {s3 with heap:=s3.heap.push {cls:= .type "slice",data:= .fields #[.none, .none, .int (-1) u]} }:=I3.kept (t':=s3.toks) λb ob q=>V7 _ q;obtain⟨T,id,hT,ht,hg⟩:=hr f8 {s3 with heap:=s3.heap.push {cls:= .type "slice",data:= .fields #[.none, .none, .int (-1) u]} } σ H3 x v u s3.heap.objs.size Q I4 r1 (Heap.IsSliceOf.new ..) q3;show wpAny (model X.prog X.w) X.A (acC e (.Slice none none (some Oq) p2) v (.ref s3.heap.objs.size)) (EP X f8 σ Q) X.xe {s3 with heap:=s3.heap.push {cls:= .type "slice",data:= .fields #[.none, .none, .int (-1) u]} };exact tail_any (ops:=[v, .ref s3.heap.objs.size]) ht hT hg (by with_unfolding_all rfl)
def Sy(K:Wm):V->Hp->VK->Prop:=λx H Q=>(∃z:Str,x= .str z/\z.length<=lim/\Q (.str (wy z)) H)\/∃a xs,x= .ref a/\SqT K H a xs/\∀p,H p=none->Q (.ref p) (upd H p (.tup xs.reverse))
def Np:Tc X (Sy X.K):=by
 intro f8 s σ H x v u sl Q I rx hs h;rcases h with⟨z,rfl,hl,q⟩ | ⟨a,xs,rfl,hx,q⟩
 ·obtain⟨t,rfl⟩:=rx;refine⟨"str",_,PySem.F.slot_str_getitem.lookup,typeIs_str _ _ _,wpAny_getItem_str_slice (l:=none) (u:=none) (st:=some (-1,u)) hs rfl ?_⟩;rw[Gp];exact⟨by rw[se];have:=fP;omega,⟨.str _,H,I.tok _,⟨_,rfl⟩,q⟩⟩
 ·cases rx;obtain⟨aL,r,ht,hz⟩:=I.tuple hx;have P3:=r.length;refine⟨"tuple",_,PyProof.Rows.slot_tuple_getitem.lookup,ht.typeIs,md ht hs ?_ (by rw[Wk];omega)⟩;refine⟨.ref s.heap.objs.size,_,I.laid (t':=s.toks) (o:= .tup xs.reverse) (λb ob q=>V7 _ q) (Wg _) ?_,rfl,q _ (I.hok.fresh (Wg _))⟩;exact⟨by rw[YV];exact hz,_,r.reverse,⟨_,Wr _ rfl,rfl,by simp⟩⟩
def Qh:D->M D
 | .str x=>ab (.str (wy x))
 | .tup ds=>ab (.tup ds.reverse)
 |_=>ag
def LB(a st:DE):DE:=λρ=>a ρ>>=λd=>st ρ>>=λk=>match k with
 | .int i=>if i= -1 then Qh d else ag
 |_=>ag
def MT(he:PD X Xw e δ)(hs:PD X Xw Oq δs):PD X Xw (.Subscript e (.Slice none none (some Oq) p2) pos) (LB δ δs):=
 PE.weak (M3 Np he hs) λσ H Q ⟨F,ρ,s,w⟩=>by
  refine⟨F,ρ,s,WP.mono (WP.bind w) λv H1 ⟨F1,d,e1,q1,w1⟩=>?_⟩;refine⟨F1,ρ,s.ext e1,WP.mono (WP.bind w1) λy H2 ⟨F2,k,e2,q2,w2⟩=>?_⟩;have q3:=Den.mono e2.ff q1;cases k with
  |int i=>
   have w2:WP X.K Xw F2 H2 (if i= -1 then Qh d else ag) Q:=w2;split at w2
   ·rename_i hi;subst hi;refine⟨q2,?_⟩;cases d with
    |str x=>exact .inl ⟨x,q3.1,q3.2,WP.now w2 e2.fh ⟨rfl,by rw[se];exact q3.2⟩⟩
    |tup ds=>
     obtain⟨a,vs,rfl,h2,h3,h4⟩:=q3;exact .inr ⟨a,vs,rfl,SqT.of (e2.fh _ _ h2),λp hp=>WP.fin w2 (Ext.lay e2.fh hp) ⟨p,_,rfl,aK,DenL.mono (Ext.lay e2.fh hp).ff h3.reverse,by rw[YV];exact h4⟩⟩
    |_=>exact w2.elim
   ·exact w2.elim
  |_=>exact w2.elim
end
namespace RV
def mro_rev:mroOf (.type "reversed")=pure [.type "reversed", .type "object"]:=by rw[mroOf_type];kernel_rfl
def new_rev:abp (.type "reversed") "__new__"=pure (some (.builtin "reversed.__new__")):=by rw[ZD,YN];kernel_rfl
def owner_rev:Manifest.owners.lookup (String.ofList ['d', 'e', 's', 'r', 'e', 'v', 'e', 'r'].reverse)=some Manifest.sig_reversed:=by kernel_rfl
def slot_rev_next:Slot "reversed" "__next__" "reversed.__next__":=
 .of (owner:="reversed") (n:="__next__") (by rw[ZD,YN];kernel_rfl) (by decide+kernel) (by decide+kernel) (by decide+kernel)
  (by first | exact .inl (by decide+kernel) | exact .inr (by decide+kernel)) (by rw[ZU];kernel_rfl)
def slot_rev_iter:Slot "reversed" "__iter__" "reversed.__iter__":=
 .of (owner:="reversed") (n:="__iter__") (by rw[ZD,YN];kernel_rfl) (by decide+kernel) (by decide+kernel) (by decide+kernel)
  (by first | exact .inl (by decide+kernel) | exact .inr (by decide+kernel)) (by rw[ZU];kernel_rfl)
def slot_rev_init:Slot "reversed" "__init__" "object.__init__":=
 .of (owner:="object") (n:="__init__") (by rw[ZD,YN];kernel_rfl) (by decide+kernel) (by decide+kernel) (by decide+kernel)
  (by first | exact .inl (by decide+kernel) | exact .inr (by decide+kernel)) (by rw[ZU];kernel_rfl)
def entry_rev_next:entryFor table "reversed.__next__"=some YI.«reversed.__next__» :=entryFor_of_tree (by kernel_rfl)
def entry_rev_new:entryFor table "reversed.__new__"=some YI.«reversed.__new__» :=entryFor_of_tree (by kernel_rfl)
def entry_rev_iter:entryFor table "reversed.__iter__"=some YI.«dict_keyiterator.__iter__» :=
 entryFor_alias (id':="dict_keyiterator.__iter__") (by kernel_rfl) (by first | rfl | decide+kernel | (unfold String.splitOn;simp+decide [String.splitOnAux])) (by decide+kernel) (by kernel_rfl)
def args_rev_next(a:Value):argsOk "reversed.__next__" ⟨[a],[]⟩:=by
 unfold argsOk;rw[signature?_of (id:="reversed.__next__") (n:=['_', '_', 't', 'x', 'e', 'n', '_', '_']) (o:=['d', 'e', 's', 'r', 'e', 'v', 'e', 'r']) (by kernel_rfl) owner_rev];kernel_rfl
def args_rev_iter(a:Value):argsOk "reversed.__iter__" ⟨[a],[]⟩:=by
 unfold argsOk;rw[signature?_of (id:="reversed.__iter__") (n:=['_', '_', 'r', 'e', 't', 'i', '_', '_']) (o:=['d', 'e', 's', 'r', 'e', 'v', 'e', 'r']) (by kernel_rfl) owner_rev];kernel_rfl
def called_rev:TypeCalled "reversed" "reversed.__new__" "object.__init__":=
 ⟨by decide+kernel,by decide+kernel,⟨_,_,mro_rev⟩,madeBy_type mro_rev new_rev (by decide+kernel),by decide+kernel,by rw[ZU];kernel_rfl,slot_rev_init⟩
def typeCall_rev(a:Value):checkTypeCall "reversed" ⟨[a],[]⟩=pure ():=by kernel_rfl
def newCall_rev(a:Value):checkBuiltinCall "reversed.__new__" ⟨[.type "reversed",a],[]⟩=pure ():=by kernel_rfl
def no_rev_tuple:abp (.type "tuple") "__reversed__"=pure none:=by rw[ZD,YN];kernel_rfl
def tuple_not_dict:isSubtype (.type "tuple") (.type "dict")=pure false:=by rw[ZU];kernel_rfl
def newClass_rev(a:Value):Z1 "reversed" ⟨[.type "reversed",a],[]⟩=pure (.type "reversed",[a]):=by
 unfold Z1;simp only[isType,called_rev.sub,pure_bind,abZ,WG,if_false]
end RV
def w9(t:Addr)(i:Int):Obj:={cls:= .type "reversed",data:= .fields #[.ref t,YU i]}
def IsTupRev(h:Heap)(it t:Addr)(i:Int):Prop:=∃o,h.get? it=some o/\o.cls= .type "reversed"/\o.data= .fields #[.ref t,YU i]
def Ew{i n:Nat}(h:i<n):seqIndex? (i:Int) n=some i:=by
 have h1:¬((i:Int)<0):=by omega
 have h2:(decide (0<=(i:Int))&&decide ((i:Int)<(n:Int)))=true:=by simp;omega
 unfold seqIndex?;simp only[h1,if_false];rw[ac5 h2];simp
section
variable{prog:WU}{w:World}{A:Xf}{E:Value->We->Prop}{s:We}
def D3(t:Addr)(items:Array Value)(hsz:items.size<2 ^ 62):
 Meets (YI.«reversed.__new__» ⟨[.type "reversed", .ref t],[]⟩) (λ_ R s=>IsTup s.heap t items/\∀tk,R (.ok (.ret (.ref s.heap.objs.size))) {s with heap:=s.heap.push (w9 t ((items.size:Int) - 1)),toks:=tk}):=
 .of_wp λprog w A R s h=>by
  obtain⟨ht,h⟩:=h;unfold YI.«reversed.__new__»;refine V4 (Y7 (RV.newClass_rev _) ?_)
  try dsimp only
  refine V4 (Y7 (a:=()) (by first | rfl | kernel_rfl) ?_);refine V4 (Y7 (a:=()) (by first | rfl | kernel_rfl) ?_)
  try dsimp only
  refine V4 (Ze ht.typeIs RV.no_rev_tuple ?_)
  try dsimp only
  refine V4 ?_;refine V4 (m:=isInstance (.ref t) (.type "dict")) (Zv (T:="tuple") (b:=false) ht.typeIs RV.tuple_not_dict ?_);refine V4 (m:=specialOf (.ref t) "__getitem__") (Ze ht.typeIs slot_tuple_getitem.lookup ?_);refine V9 ?_;refine V4 (m:=call (.builtin "len") [.ref t]) (len_tuple ht (by omega) ?_);refine V4 (Y7 (a:=some (items.size:Int)) (by first | rfl | kernel_rfl) ?_);refine V4 (m:=newObj (.type "reversed") (.fields #[.ref t,YU ((items.size:Int) - 1)])) (WY ?_ (by size_fits));exact V9 ⟨_,rfl,h _⟩
def kX{t:Addr}{items:Array Value}{Q:Value->We->Prop}(ht:IsTup s.heap t items)(hsz:items.size<2 ^ 62)
 (h:∀tk,Q (.ref s.heap.objs.size) {s with heap:=s.heap.push (w9 t ((items.size:Int) - 1)),toks:=tk}):wpAny (model prog w) A (call (.type "reversed") [.ref t]) Q E s:=
 callType_new RV.called_rev (by decide) (RV.typeCall_rev _) (RV.newCall_rev _) (λobj=>F.args_object_init_2 obj _) RV.entry_rev_new (D3 t items hsz) ⟨ht,λtk=>⟨⟨_,Wr _ rfl,rfl⟩,h tk⟩⟩
def IsTupRev.typeIs{it t:Addr}{i:Int}(x:IsTupRev s.heap it t i):s.TypeIs (.ref it) "reversed":=let ⟨o,ho,hc,_⟩:=x;⟨o,ho,hc⟩
def IsTupRev.at{h h':Heap}{it t:Addr}{i:Int}(x:IsTupRev h it t i)(e:∀o,h.get? it=some o->h'.get? it=some o):IsTupRev h' it t i:=let ⟨o,ho,r⟩:=x;⟨o,e _ ho,r⟩
def sV{it t:Addr}{i:Nat}{items:Array Value}{x:Value}{Q:Option Value->We->Prop}(W1:IsTupRev s.heap it t (i:Int))(ht:IsTup s.heap t items)(hx:items[i]? =some x)(hb:items.size<2 ^ 62)
 (hQ:∀h' tk,IsTupRev h' it t ((i:Int) - 1)->XB it s.heap h'->Q (some x) {s with heap:=h',toks:=tk}):wpAny (model prog w) A (Zj (.ref it)) Q E s:=by
 obtain⟨o,ho,hc,hd⟩:=id W1;have hi:i<items.size:=(abk.mp hx).1;unfold Zj;refine V4 (YS (XA (name:=XO "__next__") W1.typeIs RV.slot_rev_next
  (W0 RV.slot_rev_next W1.typeIs RV.entry_rev_next ?_ (RV.args_rev_next _))))
 unfold YI.«reversed.__next__»;refine V4 (Y7 (a:=(Wy it,[])) rfl ?_)
 try dsimp only
 refine V4 (X6 ho hd (x:= .ref t) rfl ?_);refine V4 (X6 ho hd (x:=YU (i:Int)) rfl ?_);show wpAny _ _ (if (i:Int)<0 then _ else _) _ _ s;rw[ac6 (by omega)];refine V4 (m:=specialOf (.ref t) "__getitem__") (Ze ht.typeIs slot_tuple_getitem.lookup ?_);refine V4 (wpAny_mkInt ?_);refine V4 (YS (getItem_tuple (s:={s with toks:=s.toks+1}) ht (by omega) (by omega) (j:=i) (Ew hi) hx ?_))
 try dsimp only
 refine V4 (X6 (s:={s with toks:=s.toks+1}) ho hd (x:=YU (i:Int)) rfl ?_);refine V4 (Zq (s:={s with toks:=s.toks+1}) ho hd (by simp) ?_)
 first
 |refine V9 ⟨x,rfl,V9 (hQ _ _ ?_ (WE ..))⟩
 |refine V4 (V9 (V9 ⟨x,rfl,V9 (hQ _ _ ?_ (WE ..))⟩))
 exact⟨_,Xs _ ho (aag (YC hd _)),(Obj.cls_mapFields ..).trans hc,by
  rw[YC hd];simp⟩
def vL{it t:Addr}{k:Int}{Q:Option Value->We->Prop}(hh:A.handled=none)(W1:IsTupRev s.heap it t k)(hk:k<0)
 (hQ:∀h',ZS it s.heap h'->Q none {s with heap:=h'}):wpAny (model prog w) A (Zj (.ref it)) Q E s:=by
 obtain⟨o,ho,hc,hd⟩:=id W1;unfold Zj;refine V4 (YS (XA (name:=XO "__next__") W1.typeIs RV.slot_rev_next
  (W0 RV.slot_rev_next W1.typeIs RV.entry_rev_next ?_ (RV.args_rev_next _))))
 unfold YI.«reversed.__next__»;refine V4 (Y7 (a:=(Wy it,[])) rfl ?_)
 try dsimp only
 refine V4 (X6 ho hd (x:= .ref t) rfl ?_);refine V4 (X6 ho hd (x:=YU k) rfl ?_);show wpAny _ _ (if k<0 then _ else _) _ _ s;rw[ac5 hk];refine V4 (acr ?_);refine V4 ?_;refine V4 (m:=abR (.ref it) 1 (YU (-1))) (Zq ho hd (by simp) ?_);refine Zq (Xs _ ho (aag (YC hd _))) (YC hd _) (by simp) ?_
 dsimp only
 have hx:ZS it s.heap ((s.heap.update it (ZW λx=>x.setIfInBounds 1 (YU (-1)))).update it (ZW λx=>x.setIfInBounds 0 WJ)):=λb ob hb e=>
  ((WE ..).2 b hb).trans (((WE ..).2 b hb).trans e)
 revert hx;generalize (s.heap.update it (ZW λx=>x.setIfInBounds 1 (YU (-1)))).update it (ZW λx=>x.setIfInBounds 0 WJ)=h2;intro hx;refine V4 ?_;show wpAny _ _ (newExc (.type "StopIteration") []>>=_) _ _ _;refine V4 ?_;simp only[newExc,newTuple];refine V4 (WY ?_ (by size_fits));refine V4 (m:=ZV _ _) (Y7 (a:=WJ) (by first | rfl | (simp only[ZV];rfl)) ?_);refine WY ?_ (by size_fits);simp only[raiseNew];refine V4 (acB ?_)
 first | rw[show A.in1.handled=none from hh] | rw[hh]
 refine V4 (V9 (wpAny_throw ?_));refine V4 (Zv (T:="StopIteration") (b:=true) ⟨_,Wr _ rfl,rfl⟩ acg ?_);exact V9 (hQ _ ((hx.push _).push _))
def yk{it t:Addr}{i:Int}{Q:Value->We->Prop}(W1:IsTupRev s.heap it t i)(h:Q (.ref it) s):wpAny (model prog w) A (pyIter (.ref it)) Q E s:=by
 refine abl W1.typeIs RV.slot_rev_iter (W0 RV.slot_rev_iter W1.typeIs RV.entry_rev_iter ?_ (RV.args_rev_iter _));show wpAny _ _ (ret (.ref it)) _ _ s;exact V9 ⟨_,rfl,"reversed",_,W1.typeIs,RV.slot_rev_next.lookup,h⟩
end
def S9(K:Wm)(a:Addr)(n:Nat):It:=
 ⟨λi H=>∃xs x,SqT K H a xs/\xs.length=n/\xs.reverse[i]? =some x,λi H x H'=>H'=H/\∀xs,SqT K H a xs->xs.reverse[i]? =some x,λi H=>n<=i⟩
def H0{P:WU}{w:World}{K:Wm}{tg:Expr}(a it:Addr)(n:Nat):Turn P w K tg (S9 K a n) [it] it (λi h=>IsTupRev h it a ((n:Int) - 1 - (i:Int))) where
 mem:=by simp
 obj:=λi h st b hb=>by
  have e:b=it:=by simpa using hb
  subst e;obtain⟨o,e,c,d⟩:=st;exact⟨o,e,λv z=>by rw[d] at z;cases z⟩
 keep:=λi h h' st k=>st.at λo e=>k it (by simp) o e
 item:=by
  intro X hP hw hK hc i f8 s σ H E I hf st hg;subst hP hw hK;obtain⟨xs,x,hq,hn,hx⟩:=hg;obtain⟨aL,rv,p,hz⟩:=I.tuple hq;have hi:i<n:=by
   have:=(Wh.mp hx).1;rw[YV] at this;omega
  rw[Z8 (by omega)] at hx;obtain⟨u,hu,ru⟩:=rv.get hx;obtain⟨f0,f1,f2,f3,f4,f5⟩:=hf it (by simp);have hl:=rv.length;have hs:Ww=16777216:=XH;have e:(n:Int) - 1 - (i:Int)=((xs.length - 1 - i:Nat):Int):=by omega
  have st:=st;rw[e] at st;refine sV st p (x:=u) (by simpa using hu) (by rw[Wk];omega) λh' tk lX sb=>?_;have I1:Inv X f8 σ H {s with heap:=h',toks:=tk}:=I.turned (λb o hb e=>(sb.2 b hb).trans e) f0 f1 f3 f4 f5;obtain⟨o,e1,c,d⟩:=id lX;refine⟨u,rfl,qA (s:={s with heap:=h',toks:=tk}) e1 c d (by decide) ⟨x,H,I1,ru,⟨rfl,λys hy=>?_⟩,?_,λb hb=>(hf b hb).1⟩⟩
  ·rw[I.tuple_inj hy hq,Z8 (by omega)];exact hx
  ·have e2:((xs.length - 1 - i:Nat):Int) - 1=(n:Int) - 1 - ((i+1:Nat):Int):=by omega
   rw[e2] at lX;exact lX
 done:=by
  intro X hP hw hK hc i f8 s σ H E I hf st hg;subst hP hw hK;obtain⟨f0,f1,f2,f3,f4,f5⟩:=hf it (by simp);have hg:n<=i:=hg;exact vL (I.ok.hd hc) st (by omega) λh' eb=>⟨rfl,I.turned (t':=s.toks) (λb o hb e=>eb b o hb e) f0 f1 f3 f4 f5⟩
 self:=λ_ _ _ _ _ st h=>yk st h
def Jh{K:Wm}{F:Hp}{a:Addr}{vs:List V}{ds:List D}(h:SqT K F a vs)(hd:DenL K F ds vs):ItD K F (S9 K a vs.length) ds.reverse:=λF' H' i s1 s2=>by
 have hs:=Same.tup s2 (Same.tup s1 h);refine⟨λd e=>?_,λhl=>by rw[YV,hd.len] at hl;exact hl⟩;obtain⟨v,e1,q⟩:=hd.reverse.get e;refine⟨⟨vs,v,hs,rfl,e1⟩,λx H'' y=>?_⟩;obtain⟨e2,y⟩:=y;subst e2;have:=y vs hs;rw[e1] at this;cases this;exact⟨F',Ext.refl s2,Den.mono s1 q⟩
section
variable{X:Cx}{Xw:Nat->Hp->Prop}{tg e:Expr}{δs:DA}{pos p:Pos}
def Hs:List D->M (List D)
 |[.tup ds]=>ab ds.reverse
 |_=>ag
def JT(hg:Gl X "reversed")(hm:X.mg "reversed"=none)(ha:lr X Xw [e] δs)(hs:Wv [e] X.env=[(false,eval e X.env)]:=by rfl):zZ X Xw tg (.Call (.Name "reversed" p) [e] [] pos) (λρ=>δs ρ>>=Hs):=by
 intro f8 s σ H R I ⟨F,ρ,S,w⟩;refine Call_ (jM I hg hm boot_reversed (X2 (cp (ha pos f8 s σ H (λvs H1=>∃F1 ds,Ext F H F1 H1/\DenL X.K F1 ds vs/\WPI X.K Xw F1 H1 (Hs ds) R) I ⟨F,ρ,S,WPI.bindL w⟩) λus s1 ⟨vs,H1,I1,r1,F1,ds,e1,q1,w1⟩=>?_) hs rfl));unfold Hs at w1;split at w1
 ·rename_i ds;obtain⟨v,rfl,h1⟩:=q1.one;obtain⟨a,xs,rfl,h2,h3,h4⟩:=h1;obtain⟨u,rfl,r2⟩:=r1.one;cases (show u=_ from r2);obtain⟨aL,rv,pt,hz⟩:=I1.tuple (SqT.of (K:=X.K) (e1.fh _ _ h2));have hl:=rv.length;have nq:Ww=16777216:=XH;refine kX pt (by rw[Wk];omega) λtk=>?_;have en:((aL.toArray.size:Nat):Int) - 1=(xs.length:Int) - 1 - ((0:Nat):Int):=by rw[Wk];omega
  have Uh:IsTupRev (s1.heap.push (w9 a (((aL.toArray.size:Nat):Int) - 1))) s1.heap.objs.size a ((xs.length:Int) - 1 - ((0:Nat):Int)):=⟨_,Wr _ rfl,rfl,by rw[<-en];rfl⟩
  refine yk (s:={s1 with heap:=s1.heap.push (w9 a (((aL.toArray.size:Nat):Int) - 1)),toks:=tk}) Uh ?_;refine⟨s1.heap.objs.size,[s1.heap.objs.size],_,_,H1,rfl,I1.kept (t':=tk) λb o e=>V7 _ e,H0 a _ xs.length,Uh,λb hb=>?_,w1 _ _ _ (Ext.refl e1.fh) (Jh (SqT.of h2) h3)⟩;have e:b=s1.heap.objs.size:=by simpa using hb
  subst e;exact I1.fpOk (Wg _) (I1.hok.fresh (Wg _))
 ·exact w1.elim
end
end L3
namespace L3
open PySem PySem.Spec L2 SeqAt HT
open PyProof.Rows hiding St
def vF:D->Option Key
 | .int i=>some (.inl i)
 | .str x=>some (.inr x)
 |_=>none
def vG:List D->Option (List Key)
 |[]=>some []
 |d::ds=>match vF d,vG ds with
  |some k,some ks=>some (k::ks)
  |_,_=>none
def fe:D->Option (List Key)
 | .tup ds=>vG ds
 |_=>none
def mj{K:Wm}{F:Hp}(e:vF d=some k)(h:Den K F d v):v=kV k:=by
 cases d<;>first | cases e | skip
 ·exact h
 ·exact h.1
def jK{K:Wm}{F:Hp}:∀{ds:List D}{vs:List V}{ks:List Key},vG ds=some ks->DenL K F ds vs->vs=ks.map kV
 |[],_,_,e,h=>by cases e;exact h
 |d::ds,_,_,e,⟨v,r,h1,h2,h3⟩=>by
  unfold vG at e;split at e
  ·rename_i k ks e1 e2;cases e;subst h1;rw[Wb,mj e1 h2,jK e2 h3]
  ·cases e
section
variable{κ:Type}[DecidableEq κ]
def fi:List κ->List D->κ->Option D
 |k'::ks,d::ds,k=>if k'=k then some d else fi ks ds k
 |_,_,_=>none
def n_:List κ->List D->κ->D->List D
 |k'::ks,d'::ds,k,d=>(if k'=k then d else d')::n_ ks ds k d
 |_,_,_,_=>[]
def m6{K:Wm}{F:Hp}:∀{ks:List κ}{ds:List D}{vs:List V}(k:κ),DenL K F ds vs->ks.length=ds.length->
 (match fi ks ds k with | some d=>∃v,m8 (ks.zip vs) k=some v/\Den K F d v | none=>m8 (ks.zip vs) k=none)
 |[],[],_,_,_,_=>rfl
 |k'::ks,d::ds,_,k,⟨v,r,h1,h2,h3⟩,hl=>by
  subst h1;unfold fi;rw[Yz];by_cases e:k'=k
  ·rw[ac5 e,m_ e];exact⟨v,rfl,h2⟩
  ·rw[ac6 e,m9 e];exact m6 k h3 (by simpa using hl)
 |[],_::_,_,_,_,hl=>by simp at hl
 |_::_,[],_,_,_,hl=>by simp at hl
def ku{K:Wm}{F:Hp}(k:κ)(h:DenL K F ds vs)(hl:ks.length=ds.length):(m8 (ks.zip vs) k).isSome=(fi ks ds k).isSome:=by
 have:=m6 k h hl;split at this
 ·rename_i d e;obtain⟨v,e1,_⟩:=this;rw[e1,e];rfl
 ·rename_i e;rw[this,e];rfl
def zc{K:Wm}{F:Hp}(hd:Den K F d v):∀{ks:List κ}{ds:List D}{vs:List V}(k:κ),DenL K F ds vs->ks.length=ds.length->
 ∃ws,(ks.zip vs).map (λkv=>if kv.1=k then(kv.1,v) else kv)=ks.zip ws/\DenL K F (n_ ks ds k d) ws
 |[],[],_,_,h,_=>⟨[],rfl,rfl⟩
 |k'::ks,d'::ds,_,k,⟨v',r,h1,h2,h3⟩,hl=>by
  subst h1;obtain⟨ws,e1,e2⟩:=zc hd k h3 (by simpa using hl);by_cases e:k'=k
  ·refine⟨v::ws,?_,?_⟩
   ·rw[Yz,Wb,e1,ac5 e];rfl
   ·unfold n_;rw[ac5 e];exact .cons hd e2
  ·refine⟨v'::ws,?_,?_⟩
   ·rw[Yz,Wb,e1,ac6 e];rfl
   ·unfold n_;rw[ac6 e];exact .cons h2 e2
 |[],_::_,_,_,_,hl=>by simp at hl
 |_::_,[],_,_,_,hl=>by simp at hl
def j6:∀(ks:List κ) (ds:List D) (k:κ) (d:D),ks.length=ds.length->(n_ ks ds k d).length=ds.length
 |[],[],_,_,_=>rfl
 |_::ks,_::ds,k,d,h=>by unfold n_;rw[Wf,Wf,j6 ks ds k d (by simpa using h)]
 |[],_::_,_,_,h=>by simp at h
 |_::_,[],_,_,h=>by simp at h
def d8(ks:List κ)(ds:List D)(k:κ):List κ:=if (fi ks ds k).isSome then ks else ks++[k]
def da(ks:List κ)(ds:List D)(k:κ)(d:D):List D:=if (fi ks ds k).isSome then n_ ks ds k d else ds++[d]
def wo{K:Wm}(hd:Den K F d v)(k:κ)(h:DenL K F ds vs)(hl:ks.length=ds.length):
 ∃ws,putK (ks.zip vs) k v=(d8 ks ds k).zip ws/\DenL K F (da ks ds k d) ws/\(d8 ks ds k).length=(da ks ds k d).length:=by
 have hs:=ku k h hl;unfold putK d8 da;have ha:((ks.zip vs).any λkv=>decide (kv.1=k))=(m8 (ks.zip vs) k).isSome:=sA ..;rw[ha,hs];cases e:(fi ks ds k).isSome with
 |true=>
  rw[ac5 rfl,ac5 rfl,ac5 rfl];obtain⟨ws,e1,e2⟩:=zc hd k h hl;exact⟨ws,e1,e2,by rw[j6 ks ds k d hl];exact hl⟩
 |false=>
  rw[ac6 Wz,ac6 Wz,ac6 Wz];refine⟨vs++[v],?_,h.append (.cons hd .nil),by simp[hl]⟩;rw[abe (by rw[hl];exact h.len)];rfl
end
def C_{κ:Type}{K:Wm}{ks:List κ}(h:DenL K F ds vs)(hl:ks.length=ds.length):(ks.zip vs).length=ds.length:=by
 rw[Y2,hl,<-h.len];omega
def sq(ρ:cK)(i:Nat):Option D:=match ρ[i]? with
 |some (some (.fz d))=>some d
 |some (some (.ow c))=>some c.d
 |_=>none
def HG{K:Wm}(s:StE K F H σ ρ)(e:sq ρ i=some (.dct ks ds)):
 ∃a vs,σ[i]? =some (some (.ref a))/\Rd H a (.dT (ks.zip vs))/\DenL K F ds vs/\ks.length=ds.length/\ds.length<=lim:=by
 unfold sq at e;split at e
 ·rename_i d e1;cases e;obtain⟨v,h1,a,ob,vs,rfl,h2,h3,h4,h5⟩:=s.den i _ e1;exact⟨a,vs,h1, .inr ⟨ob,s.fh _ _ h2⟩,h3,h4,h5⟩
 ·rename_i c e1;cases c<;>cases e
  obtain⟨v,h1,a,o,rfl,h2,_,vs,rfl,h3,h4,h5⟩:=s.den i _ e1;exact⟨a,vs,h1, .inl h2,h3,h4,h5⟩
 ·cases e
def HF{K:Wm}(s:StE K F H σ ρ)(e:sq ρ i=some (.dci ks ds)):
 ∃a vs,σ[i]? =some (some (.ref a))/\Rd H a (.dK (ks.zip vs))/\DenL K F ds vs/\ks.length=ds.length/\ds.length<=lim:=by
 unfold sq at e;split at e
 ·rename_i d e1;cases e;obtain⟨v,h1,a,ob,vs,rfl,h2,h3,h4,h5⟩:=s.den i _ e1;exact⟨a,vs,h1, .inr ⟨ob,s.fh _ _ h2⟩,h3,h4,h5⟩
 ·rename_i c e1;cases c<;>cases e
  obtain⟨v,h1,a,o,rfl,h2,_,vs,rfl,h3,h4,h5⟩:=s.den i _ e1;exact⟨a,vs,h1, .inl h2,h3,h4,h5⟩
 ·cases e
def EN:D->D->Option (Option D)
 | .dct ks ds,k=>(fe k).map (fi ks ds)
 | .dci ks ds,k=>(vF k).map (fi ks ds)
 |_,_=>none
def BO{K:Wm}(s:StE K F H σ ρ)(hi:sq ρ i=some d)(hk:Den K F k y)(e:EN d k=some o):
 ∃a ov,σ[i]? =some (some (.ref a))/\lq H a y ov/\ov.isSome=o.isSome/\∀d',o=some d'->∃v,ov=some v/\Den K F d' v:=by
 unfold EN at e;split at e
 ·rename_i ks ds;cases q:fe k with
  |none=>rw[q] at e;cases e
  |some kk=>
   rw[q] at e;cases e;obtain⟨a,vs,h1,h2,h3,h4,h5⟩:=HG s hi;unfold fe at q;split at q
   ·rename_i es;obtain⟨b,ws,rfl,k2,k3,_⟩:=hk;have e1:=jK q k3;subst e1;refine⟨a,_,h1, .inr ⟨_,kk,b,h2,rfl,s.fh _ _ k2,rfl⟩,ku kk h3 h4,λd' xm=>?_⟩;have:=m6 kk h3 h4;rw[xm] at this;exact this
   ·cases q
 ·rename_i ks ds;cases q:vF k with
  |none=>rw[q] at e;cases e
  |some kk=>
   rw[q] at e;cases e;obtain⟨a,vs,h1,h2,h3,h4,h5⟩:=HF s hi;have e1:=mj q hk;subst e1;refine⟨a,_,h1, .inl ⟨_,kk,h2,rfl,rfl⟩,ku kk h3 h4,λd' xm=>?_⟩;have:=m6 kk h3 h4;rw[xm] at this;exact this
 ·cases e
section
variable{X:Cx}{Xw:Nat->Hp->Prop}{a e:Expr}{δ δk δv:DE}{pos p pos' M_:Pos}{x:Str}{i:Nat}
def Og(neg:Bool)(i:Nat)(δ:DE):DE:=λρ=>δ ρ>>=λk=>match sq ρ i with
 |some d=>match EN d k with
  |some o=>ab (.bl (if neg then !o.isSome else o.isSome))
  |none=>ag
 |none=>ag
def L9{neg:Bool}{σ:St}(h:tD X.K Xw (Og neg i δ) σ H Q):(λσ H Q=>tD X.K Xw δ σ H λy H1=>sv i σ H1 λx H2=>∃a o,x= .ref a/\lq H2 a y o/\Q (.bl (if neg then !o.isSome else o.isSome)) H2) σ H Q:=by
 obtain⟨F,ρ,s,w⟩:=h;refine⟨F,ρ,s,WP.mono (WP.bind w) λy H1 ⟨F1,k,e1,q1,w1⟩=>?_⟩;have s1:=s.ext e1;cases hi:sq ρ i with
 |none=>rw[hi] at w1;exact w1.elim
 |some d=>
  rw[hi] at w1;have w1:WP X.K Xw F1 H1 (match EN d k with | some o=>ab (.bl (if neg then !o.isSome else o.isSome)) | none=>ag) Q:=w1;cases he:EN d k with
  |none=>rw[he] at w1;exact w1.elim
  |some o=>
   rw[he] at w1;obtain⟨a,ov,h1,h2,h3,_⟩:=BO s1 hi q1 he;refine⟨.ref a,h1,a,ov,rfl,h2,?_⟩;rw[h3];exact WP.now w1 e1.fh rfl
def Ss(hu:X.A.units+64<cLine)(ha:PD X Xw a δ)(hv:PE X (.Name x p) (sv i))(hm:Xq .In (.Name x p)=false:=by rfl):PD X Xw (.Compare a [.In] [.Name x p] pos) (Og false i δ):=
 PE.weak (MW (MM (by omega) ha hv) hm) λσ H Q h=>L9 (neg:=false) h
def si(i:Nat):DS:=λρ=>ab (.nx (ρ.set i (some (.ow (.dct [] [])))))
def iH(hN:X.N.Nodup)(hi:X.N[i]? =some x)(hx:Loc X.env.scope x)(hf:X.fn x=true\/X.env.scope.names.lookup x=some .local:=by first | exact .inl rfl | exact .inr rfl):
 iR X Xw (.Assign [.Name x pos'] (.Dict [] [] M_) pos) (si i):=λs0 adf=>PS.weak (rZ G8 (a8 hN hi hx hf) rfl) λD σ H ⟨F,ρ,s,w⟩=>λq hq=>
 w _ F _ (s.setNew (c₀:= .dct [] []) hq ⟨[],rfl,rfl,rfl,WQ _⟩)
def k0:C->D->D->Option C
 | .dct ks ds,k,d=>match fe k with
   |some kk=>if ds.length<lim then some (.dct (d8 ks ds kk) (da ks ds kk d)) else none
   |none=>none
 | .dci ks ds,k,d=>match vF k with
   |some kk=>if ds.length<lim then some (.dci (d8 ks ds kk) (da ks ds kk d)) else none
   |none=>none
 |_,_,_=>none
def yS(ρ:cK)(i:Nat):Option C:=match ρ[i]? with
 |some (some (.ow c))=>some c
 |_=>none
def uA{ρ:cK}{i:Nat}(h:yS ρ i=some c):ρ[i]? =some (some (.ow c)):=by
 unfold yS at h;split at h
 ·rename_i c' e;cases h;exact e
 ·cases h
def g0(i:Nat)(δk δv:DE):DS:=λρ=>match yS ρ i with
 |some c=>δv ρ>>=λv=>δk ρ>>=λk=>match k0 c k v with
  |some c'=>ab (.nx (ρ.set i (some (.ow c'))))
  |none=>ag
 |none=>ag
def uP{κ:Type}[DecidableEq κ]{ks:List κ}{k:κ}(hl:ks.length=ds.length)(h:ds.length<lim):(da ks ds k d).length<=lim:=by
 unfold da;split
 ·rw[j6 ks ds k d hl];omega
 ·rw[Wq];exact h
def Hi{K:Wm}{F H:Hp}(hs:Same F H)(hb:H b=some o)(hc:DenC K F c o)(hk:Den K F k y)(hd:Den K F d v)(e:k0 c k d=some c'):∃o',DPut H b y v (upd H b o')/\DenC K F c' o':=by
 have OT:=fP;unfold k0 at e;split at e
 ·rename_i ks ds k d;obtain⟨vs,rfl,h3,h4,h5⟩:=hc;split at e
  ·rename_i kk q;split at e
   ·rename_i fJ;cases e;unfold fe at q;split at q
    ·rename_i es;obtain⟨b2,ws,rfl,k2,k3,_⟩:=hk;have e1:=jK q k3;subst e1;obtain⟨us,e2,e3,e4⟩:=wo hd kk h3 h4;refine⟨_,DPut.t hb (hs _ _ k2) (by rw[C_ h3 h4];omega),us,?_,e3,e4,uP h4 fJ⟩;rw[e2]
    ·cases q
   ·cases e
  ·cases e
 ·rename_i ks ds k d;obtain⟨vs,rfl,h3,h4,h5⟩:=hc;split at e
  ·rename_i kk q;split at e
   ·rename_i fJ;cases e;have e1:=mj q hk;subst e1;obtain⟨us,e2,e3,e4⟩:=wo hd kk h3 h4;refine⟨_,DPut.k hb (by rw[C_ h3 h4];omega),us,?_,e3,e4,uP h4 fJ⟩;rw[e2]
   ·cases e
  ·cases e
 ·cases e
def iI(hu:X.A.units+64<cLine)(hv:PE X (.Name x p) (sv i))(hk:PD X Xw a δk)(he:PD X Xw e δv)(hs:Z2 e (some (.Subscript (.Name x p) a pos')) pos.line X.env=pure false:=by rfl):
 iR X Xw (.Assign [.Subscript (.Name x p) a pos'] e pos) (g0 i δk δv):=λs0 adf=>PS.weak (J4 (by omega) hv hk he hs) λD σ H ⟨F,ρ,s,w⟩=>by
 unfold g0 at w;cases ho:yS ρ i with
 |none=>rw[ho] at w;exact w.elim
 |some c=>
  rw[ho] at w;have hi:=uA ho;have w:WPS X.K Xw s0 adf (δv ρ>>=λv=>δk ρ>>=λk=>match k0 c k v with | some c'=>ab (.nx (ρ.set i (some (.ow c')))) | none=>ag) D:=w;refine⟨F,ρ,s.st,?_⟩;rcases(δv ρ).cs with q | ⟨n,q⟩ | ⟨dv,q⟩
  ·rw[q] at w;exact w.elim
  ·rw[q] at w⊢;exact λF' H' e'=>w F' H' (s.ext.trans e')
  ·rw[q] at w⊢;intro v H1 F1 e1 hq;have s1:=s.ext' e1;obtain⟨u,h1,b,o,rfl,h2,h3,h4⟩:=s1.st.den i _ hi;have w:WPS X.K Xw s0 adf (δk ρ>>=λk=>match k0 c k dv with | some c'=>ab (.nx (ρ.set i (some (.ow c')))) | none=>ag) D:=w;refine⟨.ref b,h1,F1,ρ,s1.st,?_⟩;rcases(δk ρ).cs with q2 | ⟨n,q2⟩ | ⟨dk,q2⟩
   ·rw[q2] at w;exact w.elim
   ·rw[q2] at w⊢;exact λF' H' e'=>w F' H' (s1.ext.trans e')
   ·rw[q2] at w⊢;intro y H2 F2 e2 hy;have w:WPS X.K Xw s0 adf (match k0 c dk dv with | some c'=>ab (.nx (ρ.set i (some (.ow c')))) | none=>ag) D:=w;cases hp:k0 c dk dv with
    |none=>rw[hp] at w;exact w.elim
    |some c'=>
     rw[hp] at w;have s2:=s1.ext' e2;obtain⟨u2,k1,b2,o2,Rx,k2,k3,k4⟩:=s2.st.den i _ hi;rw[h1] at k1;cases k1;cases Rx;obtain⟨o',g,hc⟩:=Hi s2.st.fh k2 k4 hy (Den.mono e2.ff hq) hp;exact⟨b,_,rfl,g,w σ F2 _ (s2.chg hi h1 hc)⟩
end
def fB(c:DT)(body:DS):Nat->DS
 |0,_=>ag
 |n+1,ρ=>c ρ>>=λb=>if b then body ρ>>=λo=>match o with | .nx ρ'=>fB c body n ρ' | .rt d=>ab (.rt d) else ab (.nx ρ)
def Be(c:DT)(body:DS):DS:=λρ=>fB c body lim ρ
section
variable{X:Cx}{Xw:Nat->Hp->Prop}{τ:DS}{tc:DT}{pos:Pos}
def uN(hp:PassesOwn (model X.prog X.w) X.A X.env X.xe)(hc:pF X Xw c tc)(hb:PSDs X Xw body τ):iR X Xw (.While c body [] pos) (Be tc τ):=λs0 adf=>PS.weak (Hb hp hc hb.ex) λD σ H ⟨F,ρ,s,w⟩=>by
 refine⟨λm σ H=>∃F ρ,StOk X.K s0 adf F H σ ρ/\WPS X.K Xw s0 adf (fB tc τ m ρ) D,⟨lim,F,ρ,s,w⟩,?_⟩;rintro m σ H ⟨F,ρ,s,w⟩;cases m with
 |zero=>exact w.elim
 |succ m=>
  refine⟨F,ρ,s.st,?_⟩;unfold fB at w
  match tc ρ,w with
  |none,w=>exact w
  |some (.ex n),w=>exact λF' H' e'=>w F' H' (s.ext.trans e')
  |some (.ok false),w=>exact λH' F' e'=>w σ F' H' (s.ext' e')
  |some (.ok true),w=>
   intro H' F' e';have w:WPS X.K Xw s0 adf (τ ρ>>=λo=>match o with | .nx ρ'=>fB tc τ m ρ' | .rt d=>ab (.rt d)) D:=w;refine⟨λσ' H'=>∃F' ρ',StOk X.K s0 adf F' H' σ' ρ'/\WPS X.K Xw s0 adf (fB tc τ m ρ') D,λσ' H' h=>⟨m,abb m,h⟩,s0,adf,F',ρ,s.ext' e',?_⟩
   match τ ρ,w with
   |none,w=>exact w
   |some (.ok (.nx ρ')),w=>exact λσ' F' H' s'=>⟨F',ρ',s',w⟩
   |some (.ok (.rt d)),w=>exact w
   |some (.ex n),w=>exact w
end
def mm:List D->Option (List (List Key))
 |[]=>some []
 |d::ds=>match fe d,mm ds with
  |some k,some ks=>some (k::ks)
  |_,_=>none
def LK:∀{x y:D}{k k':Key}{n:Nat},vF x=some k->vF y=some k'->k9 n x y=some (decide (k=k'))
 | .int i, .int j,_,_,n,e1,e2=>by
   cases e1;cases e2;have:k9 n (.int i) (.int j)=some (i==j):=by cases n<;>rfl
   rw[this];congr 1;by_cases h:i=j
   ·subst h;simp
   ·simp[h]
 | .str x, .str y,_,_,n,e1,e2=>by
   cases e1;cases e2;have:k9 n (.str x) (.str y)=some (x==y):=by cases n<;>rfl
   rw[this];congr 1;by_cases h:x=y
   ·subst h;simp
   ·simp[h]
 | .int i, .str y,_,_,n,e1,e2=>by
   cases e1;cases e2;have:k9 n (.int i) (.str y)=some false:=by cases n<;>rfl
   rw[this];simp
 | .str x, .int j,_,_,n,e1,e2=>by
   cases e1;cases e2;have:k9 n (.str x) (.int j)=some false:=by cases n<;>rfl
   rw[this];simp
 | .non,_,_,_,_,e1,_=>by cases e1
 | .bl _,_,_,_,_,e1,_=>by cases e1
 | .raw _,_,_,_,_,e1,_=>by cases e1
 | .exc _,_,_,_,_,e1,_=>by cases e1
 | .scr _,_,_,_,_,e1,_=>by cases e1
 | .tup _,_,_,_,_,e1,_=>by cases e1
 | .lst _,_,_,_,_,e1,_=>by cases e1
 | .dct _ _,_,_,_,_,e1,_=>by cases e1
 | .dci _ _,_,_,_,_,e1,_=>by cases e1
 |_, .non,_,_,_,_,e2=>by cases e2
 |_, .bl _,_,_,_,_,e2=>by cases e2
 |_, .raw _,_,_,_,_,e2=>by cases e2
 |_, .exc _,_,_,_,_,e2=>by cases e2
 |_, .scr _,_,_,_,_,e2=>by cases e2
 |_, .tup _,_,_,_,_,e2=>by cases e2
 |_, .lst _,_,_,_,_,e2=>by cases e2
 |_, .dct _ _,_,_,_,_,e2=>by cases e2
 |_, .dci _ _,_,_,_,_,e2=>by cases e2
def BY:∀{xs ys:List D}{k k':List Key},vG xs=some k->vG ys=some k'->pG (k9 n) xs ys=some (decide (k=k'))
 |[],[],_,_,e1,e2=>by cases e1;cases e2;rfl
 |x::xs,[],_,_,e1,e2=>by
  cases e2;unfold vG at e1;split at e1
  ·cases e1;simp[pG]
  ·cases e1
 |[],y::ys,_,_,e1,e2=>by
  cases e1;unfold vG at e2;split at e2
  ·cases e2;simp[pG]
  ·cases e2
 |x::xs,y::ys,_,_,e1,e2=>by
  unfold vG at e1 e2;split at e1
  ·rename_i k ks q1 q2;cases e1;split at e2
   ·rename_i k' ks' q3 q4;cases e2;unfold pG;rw[LK q1 q3,BY q2 q4];simp
   ·cases e2
  ·cases e1
def IS(e1:fe x=some k)(e2:fe y=some k'):k9 (n+1) x y=some (decide (k=k')):=by
 cases x with
 |tup xs=>
  cases y with
  |tup ys=>exact BY e1 e2
  |_=>cases e2
 |_=>cases e1
def Gf{K:Wm}(e:fe d=some k)(h:Den K F d v):∃a,v= .ref a/\F a=some (.tup (k.map kV)):=by
 cases d with
 |tup ds=>
  obtain⟨a,vs,rfl,h2,h3,_⟩:=h;have:=jK e h3;subst this;exact⟨a,rfl,h2⟩
 |_=>cases e
def nT(k:List Key)(ks:List (List Key)):Bool:=ks.any λk'=>decide (k'=k)
open Classical in
noncomputable def isKey(H:Hp)(k:List Key)(u:Value):Bool:=decide (∃a,u= .ref a/\H a=some (.tup (k.map kV)))
def DQ{K:Wm}(hs:Same F H)(e:fe d=some k')(h:Den K F d v)(r:RelV v u):isKey H k u=decide (k'=k):=by
 obtain⟨a,rfl,h2⟩:=Gf e h;cases (show u=_ from r);unfold isKey;by_cases hk:k'=k
 ·subst hk;rw[ac7 rfl];exact @ac7 _ (abc _) ⟨a,rfl,hs _ _ h2⟩
 ·rw[ac8 hk];refine @ac8 _ (abc _) λ⟨b,e1,e2⟩=>hk ?_;cases e1;rw[hs _ _ h2] at e2;injection e2 with e2
  injection e2 with e2
  exact Ck e2
def nL(I:Inv X f8 σ H s)(hs:Same F H)(hu:A.units+6<cLine)(ex:fe x=some k)(hx:Den X.K F x v)(rx:RelV v u):
 ∀{ys:List D}{vs:List V}{aL:List Value}{ks:List (List Key)},mm ys=some ks->DenL X.K F ys vs->Vals vs aL->aL.any (isKey H k)=nT k ks/\∀t∈aL,EqAt A s t u (isKey H k t)
 |[],_,_,_,e,h,r=>by
  cases e;cases (show _=_ from h);cases r;exact⟨rfl,λt ht=>by cases ht⟩
 |y::ys,_,_,_,e,⟨w,ws,h1,h2,h3⟩,r=>by
  subst h1;unfold mm at e;split at e
  ·rename_i k' ks e1 e2;cases e;cases r with
   |cons r1 r2=>
    obtain⟨Sb,Sd⟩:=nL I hs hu ex hx rx e2 h3 r2;have hk:=DQ (k:=k) hs e1 h2 r1;refine⟨?_,λt ht=>?_⟩
    ·rw[Yp,Sb,hk];rfl
    ·rcases Ws.mp ht with rfl | ht
     ·rw[hk];exact(qt I hs 6 A y x w v t u _ hu h2 hx r1 rx (IS e1 ex)).eq
     ·exact Sd t ht
  ·cases e
def FF(neg:Bool):D->D->M D
 |x, .lst ys=>match fe x,mm ys with
  |some k,some ks=>ab (.bl (if neg then !nT k ks else nT k ks))
  |_,_=>ag
 |x, .tup ys=>match fe x,mm ys with
  |some k,some ks=>ab (.bl (if neg then !nT k ks else nT k ks))
  |_,_=>ag
 |_,_=>ag
def P9(K:Wm)(neg:Bool):R2:=λx y H Q=>∃F dx ys vs p k ks,Same F H/\Den K F dx x/\fe dx=some k/\mm ys=some ks/\DenL K F ys vs/\y= .ref p/\(SqL K H p vs\/SqT K H p vs)/\Q (.bl (if neg then !nT k ks else nT k ks)) H
section
variable{X:Cx}{Xw:Nat->Hp->Prop}{a b:Expr}{δa δb:DE}{pos:Pos}
def MG(hu:X.A.units+64<cLine):OpR X (Xd .In) (P9 X.K false):=by
 intro f8 s σ H x y v u Q I rx ry h;obtain⟨F,dx,ys,vs,p,k,ks,hs,hx,ex,ek,hd,rfl,hq,q⟩:=h;cases (show u=_ from ry);have T2:X.A.in1.units+6<cLine:=by show X.A.units+1+6<cLine;omega
 rcases hq with hq | hq
 ·obtain⟨aL,r,pl,hz⟩:=I.list hq;obtain⟨e1,e2⟩:=nL I hs T2 ex hx rx ek hd r;refine SeqAt.in_listAt (isKey H k) pl.isList (λw hw=>e2 w (by simpa using hw)) ⟨.bl _,H,I,rfl,?_⟩;rw[show aL.toArray.any (isKey H k)=aL.any (isKey H k) by simp,e1];exact q
 ·obtain⟨aL,r,pl,hz⟩:=I.tuple hq;obtain⟨e1,e2⟩:=nL I hs T2 ex hx rx ek hd r;refine acV (isKey H k) pl (λw hw=>e2 w (by simpa using hw)) ⟨.bl _,H,I,rfl,?_⟩;rw[show aL.toArray.any (isKey H k)=aL.any (isKey H k) by simp,e1];exact q
def L_{K:Wm}:zV K (P9 K neg) (FF neg):=λXw F H x y dx dy Q s hx hy w=>by
 unfold FF at w;split at w
 ·rename_i ys;split at w
  ·rename_i k ks e1 e2;obtain⟨p,vs,h1,h2,h3,_⟩:=hy;exact⟨F,dx,ys,vs,p,k,ks,s,hx,e1,e2,h3,h1, .inl (SqL.of (s _ _ h2)),WP.now w s rfl⟩
  ·exact w.elim
 ·rename_i ys;split at w
  ·rename_i k ks e1 e2;obtain⟨p,vs,h1,h2,h3,_⟩:=hy;exact⟨F,dx,ys,vs,p,k,ks,s,hx,e1,e2,h3,h1, .inr (SqT.of (s _ _ h2)),WP.now w s rfl⟩
  ·exact w.elim
 ·exact w.elim
def Nf(hu:X.A.units+64<cLine)(ha:PD X Xw a δa)(hb:PD X Xw b δb)(hm:Xq .In b=false:=by rfl):pF X Xw (.Compare a [.In] [b] pos) (dN (d2 (FF false) δa δb)):=f9 (MG hu) L_ ha hb hm
end
end L3
namespace L3
open PySem PySem.W PyProof.Rows
def bI(b:Nat->Nat->Bool):KasT α->α
 | .ret a=>a
 | .ask i j k=>bI b (k (b i j))
def cW(b:Nat->Nat->Bool)(f:α->KasT β):∀t:KasT α,bI b (t.bind f)=bI b (f (bI b t))
 | .ret _=>rfl
 | .ask i j k=>cW b f (k (b i j))
structure Lt (n:Nat) (b:Nat->Nat->Bool):Prop where
 tr:∀i j k,b i j=true->b j k=true->b i k=true
 Rn:∀i j,b i j=true->b j i=false
 tot:∀i j,i<n->j<n->i≠j->b i j=true\/b j i=true
abbrev at'(p:Array Nat)(i:Nat):Nat:=p.getD i 0
def Ri(b:Nat->Nat->Bool)(p:Array Nat)(k:Nat):Prop:=∀i j,i<j->j<k->b (at' p i) (at' p j)=true
def Fa(b:Nat->Nat->Bool)(p:Array Nat)(k:Nat):Prop:=∀i j,i<j->j<k->b (at' p j) (at' p i)=true
structure PN (n:Nat) (p:Array Nat):Prop where
 sz:p.size=n
 lt:∀i,i<n->at' p i<n
 inj:∀i j,i<n->j<n->at' p i=at' p j->i=j
section
variable{n:Nat}{b:Nat->Nat->Bool}(L:Lt n b)
include L
theorem Ri.more(h:Ri b p k)(h1:1<=k)(e:b (at' p (k - 1)) (at' p k)=true):Ri b p (k+1):=λi j jC hj=>by
 by_cases hk:j<k
 ·exact h i j jC hk
 ·have:j=k:=by omega
  subst this;by_cases hi:i=j - 1
  ·subst hi;exact e
  ·exact L.tr _ _ _ (h i (j - 1) (by omega) (by omega)) e
theorem Fa.more(h:Fa b p k)(h1:1<=k)(e:b (at' p k) (at' p (k - 1))=true):Fa b p (k+1):=λi j jC hj=>by
 by_cases hk:j<k
 ·exact h i j jC hk
 ·have:j=k:=by omega
  subst this;by_cases hi:i=j - 1
  ·subst hi;exact e
  ·exact L.tr _ _ _ e (h i (j - 1) (by omega) (by omega))
theorem u6(P:PN n p):∀(f k:Nat),1<=k->k+f<=n->Ri b p k->k<=bI b (kas_asc p f k)/\bI b (kas_asc p f k)<=k+f/\Ri b p (bI b (kas_asc p f k))/\(bI b (kas_asc p f k)<k+f->b (at' p (bI b (kas_asc p f k))) (at' p (bI b (kas_asc p f k) - 1))=true)
 |0,k,h1,hn,h=>⟨Wg _,Wg _,h,λz=>ac_ z (W4 _)⟩
 |f+1,k,h1,hn,h=>by
  have e:bI b (kas_asc p (f+1) k)=bI b (if b (at' p k) (at' p (k - 1))=true then KasT.ret k else kas_asc p f (k+1)):=rfl;rw[e];by_cases hb:b (at' p k) (at' p (k - 1))=true
  ·rw[ac5 hb];exact⟨Wg _,by show k<=_;omega,h,λ_=>hb⟩
  ·rw[ac6 hb];have hr:b (at' p (k - 1)) (at' p k)=true:=by
    rcases L.tot (at' p (k - 1)) (at' p k) (P.lt _ (by omega)) (P.lt _ (by omega)) (λz=>by have:=P.inj _ _ (by omega) (by omega) z;omega) with q | q
    ·exact q
    ·exact ac_ q hb
   obtain⟨a1,a2,a3,a4⟩:=u6 P f (k+1) (by omega) (by omega) (Ri.more L h h1 hr);exact⟨by omega,by omega,a3,λz=>a4 (by omega)⟩
theorem xJ(P:PN n p):∀(f k:Nat),1<=k->k+f<=n->Fa b p k->∃m,bI b (kas_desc f p k 0)=(p,m,0)/\k<=m/\m<=k+f/\Fa b p m
 |0,k,h1,hn,h=>⟨k,rfl,Wg _,Wg _,h⟩
 |f+1,k,h1,hn,h=>by
  have e:bI b (kas_desc (f+1) p k 0)=bI b (if b (at' p k) (at' p (k - 1))=true then(if 0>0 then kas_desc f (kas_rev p (k - (0+1)) k) (k+1) 0 else kas_desc f p (k+1) 0)
   else .ask (p.getD (k - 1) 0) (p.getD k 0) λd=>if d=true then .ret (p,k,0) else kas_desc f p (k+1) (0+1)):=rfl
  rw[e];by_cases hb:b (at' p k) (at' p (k - 1))=true
  ·rw[ac5 hb,ac6 (by omega)];obtain⟨m,e1,e2,e3,e4⟩:=xJ P f (k+1) (by omega) (by omega) (Fa.more L h h1 hb);exact⟨m,e1,by omega,by omega,e4⟩
  ·rw[ac6 hb];have hr:b (at' p (k - 1)) (at' p k)=true:=by
    rcases L.tot (at' p (k - 1)) (at' p k) (P.lt _ (by omega)) (P.lt _ (by omega)) (λz=>by have:=P.inj _ _ (by omega) (by omega) z;omega) with q | q
    ·exact q
    ·exact ac_ q hb
   refine⟨k,?_,Wg _,by omega,h⟩;show bI b (if b (at' p (k - 1)) (at' p k)=true then KasT.ret (p,k,0) else kas_desc f p (k+1) (0+1))=_;rw[ac5 hr];rfl
end
def cw(p:Array Nat)(k:Nat):at' p k=(p[k]?).getD 0:=by
 unfold at';rw[Array.getD_eq_getD_getElem?]
def Bc(hm:m<=p.size)(k:Nat):at' (kas_rev p 0 m) k=if k<m then at' p (m - 1 - k) else at' p k:=by
 have e:=getElem?_mirror_all (i:=0) hm k;rw[cw];show (((mirror p 0 m ((m - 0) / 2))[k]?).getD 0)=_;rw[e];by_cases h:k<m
 ·rw[ac5 ⟨WQ _,h⟩,ac5 h,cw,aaZ]
 ·rw[ac6 (λz=>h z.2),ac6 h,cw]
def z_(hk:k<p.size)(hl:l<=k)(j:Nat):at' (bubble p k (k - l)) j=if j=l then at' p k else if l<j/\j<=k then at' p (j - 1) else at' p j:=by
 have e:=getElem?_bubble hk (k - l) (by omega) j;have e2:k - (k - l)=l:=by omega
 rw[e2] at e;rw[cw (bubble p k (k - l)),e,cw p k,cw p (j - 1),cw p j];by_cases c1:j=l
 ·rw[ac5 c1,ac5 c1]
 ·rw[ac6 c1,ac6 c1];by_cases c2:l<j/\j<=k
  ·rw[ac5 c2,ac5 c2]
  ·rw[ac6 c2,ac6 c2]
section
variable{n:Nat}{b:Nat->Nat->Bool}
def PN.rev(P:PN n p)(hm:m<=n):PN n (kas_rev p 0 m):=by
 have ha:=Bc (by rw[P.sz];exact hm);refine⟨(mirror_size ..).trans P.sz,λi hi=>?_,λi j hi hj e=>?_⟩
 ·rw[ha];split
  ·exact P.lt _ (by omega)
  ·exact P.lt _ hi
 ·rw[ha,ha] at e;split at e<;>split at e
  ·have:=P.inj _ _ (by omega) (by omega) e;omega
  ·have:=P.inj _ _ (by omega) hj e;omega
  ·have:=P.inj _ _ hi (by omega) e;omega
  ·exact P.inj _ _ hi hj e
def PN.bub(P:PN n p)(hk:k<n)(hl:l<=k):PN n (bubble p k (k - l)):=by
 have ha:=z_ (by rw[P.sz];exact hk) hl;refine⟨(bubble_size ..).trans P.sz,λi hi=>?_,λi j hi hj e=>?_⟩
 ·rw[ha];split
  ·exact P.lt _ hk
  ·split
   ·exact P.lt _ (by omega)
   ·exact P.lt _ hi
 ·rw[ha,ha] at e;split at e
  ·split at e
   ·omega
   ·split at e
    ·have:=P.inj _ _ hk (by omega) e;omega
    ·have:=P.inj _ _ hk hj e;omega
  ·split at e
   ·split at e
    ·have:=P.inj _ _ (by omega) hk e;omega
    ·split at e
     ·have:=P.inj _ _ (by omega) (by omega) e;omega
     ·have:=P.inj _ _ (by omega) hj e;omega
   ·split at e
    ·have:=P.inj _ _ hi hk e;omega
    ·split at e
     ·have:=P.inj _ _ hi (by omega) e;omega
     ·exact P.inj _ _ hi hj e
def Fa.rev(P:PN n p)(hm:m<=n)(h:Fa b p m):Ri b (kas_rev p 0 m) m:=λi j jC hj=>by
 have ha:=Bc (by rw[P.sz];exact hm);rw[ha,ha,ac5 (by omega),ac5 hj];exact h _ _ (by omega) (by omega)
variable(L:Lt n b)
include L
theorem HX(P:PN n p)(h1:1<=m)(hm:m<=n)(h:Fa b p m):∃k q,bI b (kas_tail3 m n p)=(k,q)/\PN n q/\1<=k/\k<=n/\Ri b q k:=by
 unfold kas_tail3;rw[cW];obtain⟨a1,a2,a3,_⟩:=u6 L (P.rev hm) (n - m) m h1 (by omega) (Fa.rev P hm h);exact⟨_,_,rfl,P.rev hm,by omega,by omega,a3⟩
theorem Dy(P:PN n p)(h2:2<=n):∃k q,bI b (kas_count n p)=(k,q)/\PN n q/\1<=k/\k<=n/\Ri b q k:=by
 unfold kas_count;rw[cW];obtain⟨a1,a2,a3,a4⟩:=u6 L P (n - 1) 1 (Wg _) (by omega) (λi j jC hj=>by omega);generalize bI b (kas_asc p (n - 1) 1)=m at a1 a2 a3 a4;by_cases he:m=n
 ·subst he;rw[ac5 (by simp)];exact⟨m,p,rfl,P,by omega,Wg _,a3⟩
 ·rw[ac6 (by simpa using he)];by_cases hg:m>1
  ·rw[ac5 hg];have hb:b (p.getD 0 0) (p.getD (m - 1) 0)=true:=a3 0 (m - 1) (by omega) (by omega);show∃k q,bI b (if b (p.getD 0 0) (p.getD (m - 1) 0)=true then KasT.ret (m,p) else kas_descPart m n (kas_rev p 0 m))=(k,q)/\_;rw[ac5 hb];exact⟨m,p,rfl,P,by omega,by omega,a3⟩
  ·rw[ac6 hg];have hm:m=1:=by omega
   subst hm;have hb:=a4 (by omega);unfold kas_descPart;rw[cW];obtain⟨m,e1,e2,e3,e4⟩:=xJ L P (n - (1+1)) (1+1) (by omega) (by omega) (λi j jC hj=>by
    have hi:i=0:=by omega
    have hj:j=1:=by omega
    subst hi hj;exact hb)
   rw[e1]
   dsimp only
   rw[ac6 (by omega)];exact HX L P (by omega) (by omega) e4
theorem n5(P:PN n p)(hk:k<n)(h:Ri b p k):∀(f l r:Nat),l<=r->r<=k->r - l<=f->(∀i,i<l->b (at' p i) (at' p k)=true)->(∀i,r<=i->i<k->b (at' p k) (at' p i)=true)->
 bI b (kas_place p k f l r)<=k/\(∀i,i<bI b (kas_place p k f l r)->b (at' p i) (at' p k)=true)/\∀i,bI b (kas_place p k f l r)<=i->i<k->b (at' p k) (at' p i)=true
 |0,l,r,h1,h2,h3,h4,h5=>by
  have:r=l:=by omega
  subst this;exact⟨h2,h4,h5⟩
 |f+1,l,r,h1,h2,h3,h4,h5=>by
  unfold kas_place;by_cases OV:l>=r
  ·rw[ac5 OV];have:r=l:=by omega
   subst this;exact⟨h2,h4,h5⟩
  ·rw[ac6 OV];have hm:(l+r) / 2<r:=by omega
   have OW:l<=(l+r) / 2:=by omega
   show bI b (if b (at' p k) (at' p ((l+r) / 2))=true then kas_place p k f l ((l+r) / 2) else kas_place p k f ((l+r) / 2+1) r)<=k/\(∀i,i<bI b (if b (at' p k) (at' p ((l+r) / 2))=true then kas_place p k f l ((l+r) / 2) else kas_place p k f ((l+r) / 2+1) r)->_)/\∀i,bI b (if b (at' p k) (at' p ((l+r) / 2))=true then kas_place p k f l ((l+r) / 2) else kas_place p k f ((l+r) / 2+1) r)<=i->_;by_cases hb:b (at' p k) (at' p ((l+r) / 2))=true
   ·rw[ac5 hb];refine n5 P hk h f l ((l+r) / 2) OW (by omega) (by omega) h4 λi hi RH=>?_;by_cases e:i=(l+r) / 2
    ·rw[e];exact hb
    ·exact L.tr _ _ _ hb (h _ _ (by omega) RH)
   ·rw[ac6 hb];have hr:b (at' p ((l+r) / 2)) (at' p k)=true:=by
     rcases L.tot (at' p ((l+r) / 2)) (at' p k) (P.lt _ (by omega)) (P.lt _ hk) (λz=>by have:=P.inj _ _ (by omega) hk z;omega) with q | q
     ·exact q
     ·exact ac_ q hb
    refine n5 P hk h f ((l+r) / 2+1) r (by omega) h2 (by omega) (λi hi=>?_) h5;by_cases e:i=(l+r) / 2
    ·rw[e];exact hr
    ·exact L.tr _ _ _ (h i ((l+r) / 2) (by omega) (by omega)) hr
theorem BQ:∀(f:Nat) {p:Array Nat}{k:Nat},PN n p->k+f<=n->Ri b p k->PN n (bI b (kas_bin f p k))/\Ri b (bI b (kas_bin f p k)) (k+f)
 |0,p,k,P,_,h=>⟨P,h⟩
 |f+1,p,k,P,hn,h=>by
  have hk:k<n:=by omega
  unfold kas_bin;rw[cW];obtain⟨a1,a2,a3⟩:=n5 L P hk h k 0 k (WQ _) (Wg _) (by omega) (λi hi=>by omega) (λi h1 h2=>by omega);generalize bI b (kas_place p k k 0 k)=l at a1 a2 a3;have ha:=z_ (by rw[P.sz];exact hk) a1;have hR:Ri b (bubble p k (k - l)) (k+1):=λi j jC hj=>by
   rw[ha,ha];by_cases c1:i=l
   ·rw[ac5 c1,ac6 (by omega),ac5 ⟨by omega,by omega⟩];exact a3 _ (by omega) (by omega)
   ·rw[ac6 c1];by_cases c2:j=l
    ·rw[ac5 c2,ac6 (by omega)];exact a2 _ (by omega)
    ·rw[ac6 c2];by_cases c3:l<i/\i<=k
     ·rw[ac5 c3,ac5 ⟨by omega,by omega⟩];exact h _ _ (by omega) (by omega)
     ·rw[ac6 c3];by_cases c4:l<j/\j<=k
      ·rw[ac5 c4];exact h _ _ (by omega) (by omega)
      ·rw[ac6 c4];exact h _ _ jC (by omega)
  have:=BQ f (P.bub hk a1) (by omega) hR;rw[show k+(f+1)=k+1+f by omega];exact this
theorem zu(h2:2<=n):PN n (bI b (kas_sort n))/\Ri b (bI b (kas_sort n)) n:=by
 have P0:PN n (W5 (Wo n)):=by
  have e:∀i,i<n->at' (W5 (Wo n)) i=i:=λi hi=>by rw[cw];simp[hi]
  exact⟨by simp,λi hi=>by rw[e i hi];exact hi,λi j hi hj z=>by rw[e i hi,e j hj] at z;exact z⟩
 unfold kas_sort;rw[cW];obtain⟨k,q,e,P,k1,kn,hR⟩:=Dy L P0 h2;rw[e]
 dsimp only
 by_cases fJ:k<n
 ·rw[ac5 fJ];have:=BQ L (n - max k 1) (k:=max k 1) P (by omega) (by rw[show max k 1=k by omega];exact hR);rw[show max k 1+(n - max k 1)=n by omega] at this;exact this
 ·rw[ac6 fJ];have:k=n:=by omega
  subst this;exact⟨P,hR⟩
end
def Asks{α:Type}(n:Nat)(P:α->Prop):KasT α->Prop
 | .ret a=>P a
 | .ask i j k=>i<n/\j<n/\∀c,Asks n P (k c)
def Asks.bind{α β:Type}{n:Nat}{P:α->Prop}{Q:β->Prop}{f:α->KasT β}:∀{t:KasT α},Asks n P t->(∀a,P a->Asks n Q (f a))->Asks n Q (t.bind f)
 | .ret a,h,hf=>hf a h
 | .ask i j k,h,hf=>⟨h.1,h.2.1,λc=>Asks.bind (h.2.2 c) hf⟩
def wp_run{α:Type}{n:Nat}{P:α->Prop}{b:Nat->Nat->Bool}{cmp:Nat->Nat->(Bool->We->Prop)->We->Prop}{Q:α->We->Prop}{s:We}(hc:∀i j C,i<n->j<n->C (b i j) s->cmp i j C s):∀{t:KasT α},Asks n P t->Q (bI b t) s->t.kasWp cmp Q s
 | .ret a,_,h=>h
 | .ask i j k,ha,h=>hc i j _ ha.1 ha.2.1 (wp_run hc (ha.2.2 _) h)
def Below(n:Nat)(p:Array Nat):Prop:=∀x∈p,x<n
section
variable{n:Nat}(hn:0<n)
include hn
theorem Below.at{p:Array Nat}(h:Below n p)(i:Nat):at' p i<n:=by
 rw[cw];cases e:p[i]? with
 |none=>exact hn
 |some x=>exact h x (Array.mem_of_getElem? e)
theorem Below.rev{p:Array Nat}(h:Below n p)(i j:Nat):Below n (kas_rev p i j):=λx hx=>h x ((mirror_perm p i j ((j - i) / 2)).mem_iff.mp hx)
theorem Below.bub{p:Array Nat}(h:Below n p)(k d:Nat):Below n (bubble p k d):=λx hx=>h x ((bubble_perm p k d).mem_iff.mp hx)
theorem qa{p:Array Nat}(h:Below n p):∀f k,Asks n (λ_=>True) (kas_asc p f k)
 |0,k=>trivial
 |f+1,k=>⟨Below.at hn h _,Below.at hn h _,λc=>by
  show Asks n _ (if c=true then KasT.ret k else kas_asc p f (k+1));cases c
  ·exact qa h f (k+1)
  ·exact trivial⟩
theorem kz:∀f {p:Array Nat} k q,Below n p->Asks n (λr=>Below n r.1) (kas_desc f p k q)
 |0,p,k,q,h=>h
 |f+1,p,k,q,h=>⟨Below.at hn h _,Below.at hn h _,λc=>by
  cases c
  ·refine⟨Below.at hn h _,Below.at hn h _,λd=>?_⟩;cases d
   ·exact kz f _ _ h
   ·exact h
  ·show Asks n _ (if q>0 then kas_desc f (kas_rev p (k - (q+1)) k) (k+1) 0 else kas_desc f p (k+1) 0);split
   ·exact kz f _ _ (Below.rev hn h _ _)
   ·exact kz f _ _ h⟩
theorem tL{p:Array Nat}(h:Below n p)(m r:Nat):Asks n (λx=>Below n x.2) (kas_tail3 m r p):=Asks.bind (qa hn (Below.rev hn h 0 m) _ _) λ_ _=>Below.rev hn h 0 m
theorem qb{p:Array Nat}(h:Below n p)(m r:Nat):Asks n (λx=>Below n x.2) (kas_descPart m r p):=Asks.bind (kz hn _ _ _ h) λx hx=>by
 split
 ·exact tL hn (Below.rev hn hx _ _) _ _
 ·exact tL hn hx _ _
theorem z5{p:Array Nat}(h:Below n p)(r:Nat):Asks n (λx=>Below n x.2) (kas_count r p):=Asks.bind (qa hn h _ _) λm _=>by
 split
 ·exact h
 ·split
  ·refine⟨Below.at hn h _,Below.at hn h _,λc=>?_⟩;cases c
   ·exact qb hn (Below.rev hn h _ _) _ _
   ·exact h
  ·exact qb hn h _ _
theorem lu{p:Array Nat}(h:Below n p)(k:Nat):∀f l r,Asks n (λ_=>True) (kas_place p k f l r)
 |0,l,r=>trivial
 |f+1,l,r=>by
  unfold kas_place;split
  ·exact trivial
  ·refine⟨Below.at hn h _,Below.at hn h _,λc=>?_⟩;cases c
   ·exact lu h k f _ _
   ·exact lu h k f _ _
theorem xr:∀f {p:Array Nat} k,Below n p->Asks n (λ_=>True) (kas_bin f p k)
 |0,p,k,h=>trivial
 |f+1,p,k,h=>Asks.bind (lu hn h k _ _ _) λl _=>xr f _ (Below.bub hn h _ _)
theorem tK:Asks n (λ_=>True) (kas_sort n):=by
 have h0:Below n (W5 (Wo n)):=λx hx=>by simpa using hx
 refine Asks.bind (z5 hn h0 n) λx hx=>?_;split
 ·exact xr hn _ _ hx
 ·exact trivial
end
def cX:List Int->List Int->Bool
 |[],[]=>false
 |[],_::_=>true
 |_::_,[]=>false
 |x::xs,y::ys=>if x=y then cX xs ys else decide (x<y)
def kG:∀a b c:List Int,cX a b=true->cX b c=true->cX a c=true
 |[],[],_,h,_=>by cases h
 |[],_::_,[],_,h=>by cases h
 |[],_::_,_::_,_,_=>rfl
 |_::_,[],_,h,_=>by cases h
 |_::_,_::_,[],_,h=>by cases h
 |x::a,y::b,z::c,h1,h2=>by
  unfold cX at h1 h2⊢;by_cases e1:x=y
  ·subst e1;rw[ac5 rfl] at h1;by_cases e2:x=z
   ·subst e2;rw[ac5 rfl] at h2⊢;exact kG a b c h1 h2
   ·rw[ac6 e2] at h2⊢;exact h2
  ·rw[ac6 e1] at h1;have h1:=ac9 h1;by_cases e2:y=z
   ·subst e2;rw[ac6 e1];exact ac7 h1
   ·rw[ac6 e2] at h2;have h2:=ac9 h2;rw[ac6 (by omega)];exact ac7 (by omega)
def fL:∀a b:List Int,cX a b=true->cX b a=false
 |[],[],h=>by cases h
 |[],_::_,_=>rfl
 |_::_,[],h=>by cases h
 |x::a,y::b,h=>by
  unfold cX at h⊢;by_cases e:x=y
  ·subst e;rw[ac5 rfl] at h⊢;exact fL a b h
  ·rw[ac6 e] at h;have h:=ac9 h;rw[ac6 (λz=>e z.symm)];exact ac8 (by omega)
def iD:∀a b:List Int,a≠b->cX a b=true\/cX b a=true
 |[],[],h=>ac_ rfl h
 |[],_::_,_=> .inl rfl
 |_::_,[],_=> .inr rfl
 |x::a,y::b,h=>by
  unfold cX;by_cases e:x=y
  ·subst e;rw[ac5 rfl,ac5 rfl];exact iD a b λz=>h (by rw[z])
  ·rw[ac6 e,ac6 (λz=>e z.symm)];by_cases q:x<y
   ·exact .inl (ac7 q)
   ·exact .inr (ac7 (by omega))
section
variable{prog:WU}{w:World}{A:Xf}{E:Value->We->Prop}{s:We}
def yp{Q:Bool->We->Prop}:∀{us vs:List Value}{xs ys:List Int}(i:Nat) {fin:Bool},Ys us xs->Ys vs ys->fin=decide (xs.length<ys.length)->Q (cX xs ys) s->KatLex prog w A true fin Q (us.zip vs) i s
 |_,_,_,_,i,_, .nil, .nil,e,h=>by subst e;exact kat_nil h
 |_,_,_,_,i,_, .nil, .cons y t r,e,h=>by subst e;exact kat_nil h
 |_,_,_,_,i,_, .cons x t r, .nil,e,h=>by subst e;exact kat_nil h
 |_,_,_,_,i,_, .cons (vs:=us) (ns:=xs) x t r, .cons (vs:=vs) (ns:=ys) y u r',e,h=>by
  refine kat_cons (abK ?_);by_cases q:x=y
  ·subst q;rw[show (x==x)=true by simp];refine kat_yes (yp (i+1) r r' (by rw[e];simp) ?_);unfold cX at h;rw[ac5 rfl] at h;exact h
  ·rw[show (x==y)=false by simpa using q];unfold cX at h;rw[ac6 q] at h;refine kat_no ?_;by_cases hi:(i==0)=true
   ·rw[hi];exact oneLt_int h
   ·rw[show (i==0)=false by simpa using hi];exact kat_one _ _ (ZQ h)
def TupsAt(h:Heap):List Value->List (List Int)->Prop
 |[],[]=>True
 |v::vs,k::ks=>(∃a o us m,v= .ref a/\h.get? a=some o/\o.cls= .type "tuple"/\o.data= .seq (W5 us) m/\Ys us k/\k≠[])/\TupsAt h vs ks
 |_,_=>False
def TupsAt.len{h:Heap}:∀{vs:List Value}{ks:List (List Int)},TupsAt h vs ks->vs.length=ks.length
 |[],[],_=>rfl
 |v::vs,k::ks,t=>by rw[Wf,Wf,TupsAt.len t.2]
 |[],_::_,t=>t.elim
 |_::_,[],t=>t.elim
def TupsAt.get{h:Heap}:∀{vs:List Value}{ks:List (List Int)}{i:Nat},TupsAt h vs ks->i<vs.length->∃a o us m,vs.getD i WJ= .ref a/\h.get? a=some o/\o.cls= .type "tuple"/\o.data= .seq (W5 us) m/\Ys us (ks.getD i [])/\ks.getD i []≠[]
 |v::vs,k::ks,0,t,_=>t.1
 |v::vs,k::ks,i+1,t,hi=>TupsAt.get (i:=i) t.2 (by simpa using hi)
 |[],_,_,_,hi=>by simp at hi
 |_::_,[],_,t,_=>t.elim
def TupsAt.keep{h h':Heap}{a:Addr}(k:∀b o,b≠a->h.get? b=some o->h'.get? b=some o)(ha:∀o,h.get? a=some o->o.cls≠ .type "tuple"):∀{vs:List Value}{ks:List (List Int)},TupsAt h vs ks->TupsAt h' vs ks
 |[],[],_=>trivial
 |v::vs,x::ks,⟨⟨b,o,us,m,e1,e2,e3,e4⟩,t⟩=>⟨⟨b,o,us,m,e1,k b o (λz=>ha o (by rw[<-z];exact e2) e3) e2,e3,e4⟩,TupsAt.keep k ha t⟩
 |[],_::_,t=>t.elim
 |_::_,[],t=>t.elim
def qM:∀{us:List Value}{xs:List Int},Ys us xs->us.length=xs.length
 |_,_, .nil=>rfl
 |_,_, .cons x t r=>by rw[Wf,Wf,qM r]
def TupsAt.firsts{M:Model}{h:Heap}:∀{vs:List Value}{ks:List (List Int)},TupsAt h vs ks->∃fs,KatTups h vs fs/\fs.length=vs.length/\∀v∈fs,Looks M h (typeOf v) (.type "int")
 |[],[],_=>⟨[],KatTups.nil,rfl,λ_ z=>by cases z⟩
 |v::vs,k::ks,⟨⟨a,o,us,m,e1,e2,e3,e4,e5,e6⟩,t⟩=>by
  obtain⟨fs,q1,q2,q3⟩:=TupsAt.firsts (M:=M) t;subst e1;cases e5 with
  |nil=>exact ac_ rfl e6
  |cons x t r=>
   refine⟨.int x t::fs,KatTups.cons e2 e3 e4 (by simp) q1,by simp[q2],λv hv=>?_⟩;rcases Ws.mp hv with rfl | hv
   ·exact show Looks M h (pure (ZF "int")) (ZF "int") from .now
   ·exact q3 v hv
 |[],_::_,t=>t.elim
 |_::_,[],t=>t.elim
def asked{vs:List Value}{ks:List (List Int)}(t:TupsAt s.heap vs ks)(i j:Nat)(C:Bool->We->Prop)(hi:i<vs.length)(hj:j<vs.length)(h:C (cX (ks.getD i []) (ks.getD j [])) s):kas_ask prog w A (tuples' true) vs i j C s:=by
 obtain⟨a,o,us,m,e1,e2,_,e4,e5,_⟩:=t.get hi;obtain⟨a',o',V3,m',ES,NM,_,Uw,Tj,_⟩:=t.get hj;unfold kas_ask;rw[e1,ES];refine kat_lt e2 e4 NM Uw (yp 0 e5 Tj ?_ h);rw[Wk,Wk,qM e5,qM Tj]
def yz{α:Type}{l:List α}(h:l.Nodup){i j:Nat}(hi:i<l.length)(hj:j<l.length)(e:l[i]=l[j]):i=j:=by
 rcases Nat.lt_trichotomy i j with q | q | q
 ·exact ac_ e (W6.mp h i j hi hj q)
 ·exact q
 ·exact ac_ e.symm (W6.mp h j i hj hi q)
def uX{a:Addr}{c:Nat}{vs:List Value}{ks:List (List Int)}{P:ab8->We->Prop}(ho:s.heap.get? a=some (W_ "list" vs.toArray c))(ht:TupsAt s.heap vs ks)(hd:ks.Nodup)(pI:vs.length<64)
 (h:∀(p:Array Nat) (h':Heap) (c':Nat),PN vs.length p->Ri (λi j=>cX (ks.getD i []) (ks.getD j [])) p vs.length->h'.get? a=some (W_ "list" (W5 (p.toList.map λi=>vs.getD i WJ)) c')->
  (∀b o,b≠a->s.heap.get? b=some o->h'.get? b=some o)->P (.done (.ret .none)) {s with heap:=h'}):wpAny (model prog w) A (YI.«list.sort» ⟨[.ref a],[]⟩) P E s:=by
 have nq:Ww=16777216:=XH;have s1:=WE s.heap a (WO λ_=>(#[]:Array Value));obtain⟨e1,O0⟩:∃e1,(s.heap.update a (WO λ_=>(#[]:Array Value))).get? a=some (W_ "list" #[] e1):=⟨_,aau ho λ_=> #[]⟩
 have k1:∀b o,b≠a->s.heap.get? b=some o->(((s.heap.update a (WO λ_=>(#[]:Array Value))).push (W_ "tuple" vs.toArray 0)).push (W_ "list" #[] 0)).get? b=some o:=λb o hb e=>
  V7 _ (V7 _ ((s1.2 b hb).trans e))
 have L5:=V7 (W_ "list" #[] 0) (V7 (W_ "tuple" vs.toArray 0) O0);have t3:=ht.keep k1 (λo e z=>by rw[ho] at e;cases e;exact ac_ (ach z) (by decide));have fin:∀(st:SortSt) (p:Array Nat),PN vs.length p->Ri (λi j=>cX (ks.getD i []) (ks.getD j [])) p vs.length->(arrOf st).map (·.2)=W5 (p.toList.map λi=>vs.getD i WJ)->abS st=none->
  wpAny (model prog w) A (do
   let touched:=(<-seqEpoch a) !=e1
   aaR (.ref a) λ_=>(arrOf st).map (·.2)
   if let some e:=abS st then rule "list.sort.comparison-raised";throw e
   if touched then rule "list.sort.modified";raiseError "ValueError" "list modified during sort"
   ret .none) P E {s with heap:=((s.heap.update a (WO λ_=>(#[]:Array Value))).push (W_ "tuple" vs.toArray 0)).push (W_ "list" #[] 0)}:=λst p hp hr he hf=>by
  have hz:(W5 (p.toList.map λi=>vs.getD i WJ)).size=vs.length:=by rw[Wk,V5,Wn,hp.sz]
  rw[he,hf];refine V4 (ab4 L5 rfl (V4 (aa7 L5 rfl ?_ (WQ _) (by rw[hz,nq];omega))));simp only[bne_self_eq_false,WG,if_false];have s2:=WE (((s.heap.update a (WO λ_=>(#[]:Array Value))).push (W_ "tuple" vs.toArray 0)).push (W_ "list" #[] 0)) a (WO λ_=>W5 (p.toList.map λi=>vs.getD i WJ));exact V9 (h p _ _ hp hr (aau L5 λ_=>W5 (p.toList.map λi=>vs.getD i WJ)) λb o hb e=>(s2.2 b hb).trans (k1 b o hb e))
 rw[list_sort_plain];refine V4 (listItems_at ho rfl (V4 (aa7 ho rfl (V4 (ab4 O0 rfl ?_)) (by rw[Wk,nq];omega) (WQ _))));refine V4 (aaO (V4 (Zx (XQ ?_) (WQ _))) (by show vs.length<=_;rw[nq];omega));show wpAny (model prog w) A _ P E {s with heap:=((s.heap.update a (WO λ_=>(#[]:Array Value))).push (W_ "tuple" vs.toArray 0)).push (W_ "list" #[] 0)}
 dsimp only
 by_cases hs:vs.toArray.size<2
 ·rw[ac5 hs,ac5 hs];have t8:vs.length<2:=by simpa using hs
  refine V4 (V9 (V4 (V9 ?_)));refine fin (SortSt.mk' general' (vs.toArray.zip vs.toArray) #[] 7 none) (W5 (Wo vs.length)) ⟨by simp,λi hi=>?_,λi j hi hj _=>by omega⟩ (λi j jC hj=>by omega) ?_ rfl
  ·rw[cw];simp[hi]
  ·show (vs.toArray.zip vs.toArray).map (·.2)=_;apply ac3.mp;refine XN (by simp) λi a1 a2=>?_;simp at a1;simp[a1]
 ·rw[ac6 hs,ac6 hs];have t8:2<=vs.length:=by
   have:¬vs.length<2:=by simpa using hs
   omega
  obtain⟨fs,q1,q2,q3⟩:=t3.firsts (M:=model prog w);refine V4 (kat_kind q1 (by omega) q3 rfl ?_);have hb:Lt vs.length (λi j=>cX (ks.getD i []) (ks.getD j [])):=⟨λi j k=>kG _ _ _,λi j=>fL _ _,λi j hi hj jC=>iD _ _ λz=>jC (by
   rw[ht.len] at hi hj;rw[Wa,Wa,V6 hi,V6 hj] at z;exact yz hd hi hj (by simpa using z))⟩
  obtain⟨r1,r2⟩:=zu hb t8;have run:=kat_run (prog:=prog) (w:=w) (A:=A) (E:=E) (ks:=vs) (vs:=vs) (κ:=tuples' true) (Q:=λst s'=>s'={s with heap:=((s.heap.update a (WO λ_=>(#[]:Array Value))).push (W_ "tuple" vs.toArray 0)).push (W_ "list" #[] 0)}/\∃p,PN vs.length p/\Ri (λi j=>cX (ks.getD i []) (ks.getD j [])) p vs.length/\(arrOf st).map (·.2)=W5 (p.toList.map λi=>vs.getD i WJ)/\abS st=none)
   (G:=λp s'=>s'={s with heap:=((s.heap.update a (WO λ_=>(#[]:Array Value))).push (W_ "tuple" vs.toArray 0)).push (W_ "list" #[] 0)}/\PN vs.length p/\Ri (λi j=>cX (ks.getD i []) (ks.getD j [])) p vs.length) rfl t8 pI
   (λp lX s' a1 a2 a3 a4=>⟨a4.1,p,a4.2.1,a4.2.2,kat_snds rfl a2,a3⟩)
   (wp_run (s:={s with heap:=((s.heap.update a (WO λ_=>(#[]:Array Value))).push (W_ "tuple" vs.toArray 0)).push (W_ "list" #[] 0)}) (λi j C hi hj hC=>asked t3 i j C hi hj hC) (tK (by omega)) ⟨rfl,r1,r2⟩)
  refine V4 (Xz run ?_ λ_ _ e=>e);rintro⟨⟨⟩,lX⟩ s' ⟨rfl,p,a1,a2,a3,a4⟩;exact fin lX p a1 a2 a3 a4
end
section
variable{prog:WU}{w:World}{A:Xf}{E:Value->We->Prop}{s:We}
def uf(lo:(d==XM)=false)(ho:s.heap.get? d=some od)(hx:od.ExactDict)(hd:od.data= .dict es ep)
 (hQ:Q (.ref s.heap.objs.size) {s with heap:=s.heap.push {cls:= .type "dict_keyiterator",data:= .fields #[.ref d, .int 0 0, .int es.size 0, .int ep 0]} }):wpAny (model prog w) A (pyIter (.ref d)) Q E s:=by
 have hT:s.TypeIs (.ref d) "dict":=⟨od,ho,hx.1⟩
 refine abl hT F.slot_dict_iter (W0 F.slot_dict_iter hT F.entry_dict_iter ?_ (F.args_dict_iter_1 _));unfold YI.«dict.__iter__» Builtin.Dict.dictSlotNone;refine V4 (V4 (aar hT ?_));show wpAny _ _ (pure (Wy d)) _ _ s;refine V9 ?_;show wpAny _ _ (Yq d>>=_) _ _ s;unfold Yq;rw[ac6 (by rw[lo];exact Wz)];refine V4 (V9 (V4 (Xo ho hd (V4 (Ye ho hd ?_)))));refine V4 (WY (V9 ⟨_,rfl,"dict_keyiterator",_,⟨_,Wr _ rfl,rfl⟩,F.slot_dict_keyiterator_next.lookup,?_⟩));simpa[YU] using hQ
def yy(W1:s.heap.IsKeyIter it d i es.size ep)(me:s.heap.get? d=some od)(gU:od.data= .dict es ep)(hx:es[i]? =some e)
 (hQ:∀h',h'.IsKeyIter it d (i+1) es.size ep->XB it s.heap h'->Q (some e.key) {s with heap:=h'}):wpAny (model prog w) A (Zj (.ref it)) Q E s:=by
 obtain⟨o,ho,hc,hd⟩:=id W1;have fJ:i<es.size:=(abk.mp hx).1;have qH:Xx "dict_keyiterator"=false:=by decide
 unfold Zj;refine V4 (YS (XA W1.typeIs YG
  (W0 YG W1.typeIs abz ?_ (abh _))))
 refine V4 (V9 (V4 (V4 ?_)))
 first | refine V4 (YD W1.typeIs (V9 ?_)) | refine V4 (Y9 W1.typeIs (V9 ?_))
 refine V4 (ZT ho hd ?_);simp only[qH,WG,if_false];show wpAny _ _ (if (Wy d==WJ)=true then _ else _) _ _ s;rw[ac6 (show¬((Wy d==WJ)=true) from Wz)];refine V4 (V9 (V4 (Xo me gU ?_)));rw[ac6 (by simp)];refine V4 (V9 (V4 (Ye me gU ?_)));rw[ac6 (by simp)];refine V9 ?_;simp only[show¬((i:Int)<0) from by omega,if_false,YL,hx];refine V4 ?_
 first | refine V4 (YD W1.typeIs (V9 ?_)) | refine V4 (Y9 W1.typeIs (V9 ?_))
 refine V4 (wpAny_isOneOf_keyiter W1.typeIs ?_);show wpAny _ _ (abR (.ref it) 1 (YU ((i:Int)+1))>>=_) _ _ s;refine V4 (Zq ho hd (by simp) ?_);have IW:(s.heap.update it (ZW (·.setIfInBounds 1 (YU ((i:Int)+1))))).IsKeyIter it d (i+1) es.size ep:=
  ⟨_,Xs _ ho (aag (YC hd _)),(Obj.cls_mapFields ..).trans hc,by rw[YC hd];simp[YU]⟩
 refine V4 (XQ (V4 (wpAny_isOneOf_keyiter IW.typeIs ?_)));show wpAny _ _ (pure e.key) _ _ _;exact V9 (V9 ⟨_,rfl,V9 (hQ _ IW (WE ..))⟩)
def tY(hh:A.handled=none)(W1:s.heap.IsKeyIter it d i es.size ep)(hi:es.size<=i)(me:s.heap.get? d=some od)(gU:od.data= .dict es ep)
 (hQ:∀h',ZS it s.heap h'->Q none {s with heap:=h'}):wpAny (model prog w) A (Zj (.ref it)) Q E s:=by
 obtain⟨o,ho,hc,hd⟩:=id W1;have qH:Xx "dict_keyiterator"=false:=by decide
 unfold Zj;refine V4 (YS (XA W1.typeIs YG
  (W0 YG W1.typeIs abz ?_ (abh _))))
 refine V4 (V9 (V4 (V4 ?_)))
 first | refine V4 (YD W1.typeIs (V9 ?_)) | refine V4 (Y9 W1.typeIs (V9 ?_))
 refine V4 (ZT ho hd ?_);simp only[qH,WG,if_false];show wpAny _ _ (if (Wy d==WJ)=true then _ else _) _ _ s;rw[ac6 (show¬((Wy d==WJ)=true) from Wz)];refine V4 (V9 (V4 (Xo me gU ?_)));rw[ac6 (by simp)];refine V4 (V9 (V4 (Ye me gU ?_)));rw[ac6 (by simp)];refine V9 ?_;simp only[show¬((i:Int)<0) from by omega,if_false,YL,ab0 hi];refine V4 ?_
 first | refine V4 (YD W1.typeIs (V9 ?_)) | refine V4 (Y9 W1.typeIs (V9 ?_))
 show wpAny _ _ (abR (.ref it) 0 .none>>=_) _ _ s;refine V4 (Zq ho hd (by simp) ?_);show wpAny _ _ (newExc (.type "StopIteration") []>>=_) _ _ _;refine V4 ?_;simp only[newExc,newTuple];refine V4 (WY ?_ (by size_fits));refine V4 (Y7 (by first | rfl | (simp only[ZV];rfl)) ?_);refine WY ?_ (by size_fits);simp only[raiseNew];refine V4 (acB ?_);rw[show A.in1.handled=none from hh];refine V4 (V9 (wpAny_throw ?_));refine V4 (Zv ⟨_,Wr _ rfl,rfl⟩ acg ?_);exact V9 (hQ _ (((WE ..).extBut.push _).push _))
def Ft(hh:A.handled=none)(W1:s.heap.IsKeyIter it d es.size es.size ep)(me:s.heap.get? d=some od)(gU:od.data= .dict es ep)
 (hQ:∀h',ZS it s.heap h'->Q none {s with heap:=h'}):wpAny (model prog w) A (Zj (.ref it)) Q E s:=tY hh W1 (Wg _) me gU hQ
def KA(es:Array XS):Nat->Value->Prop:=λi v=>∃e,es[i]? =some e/\v=e.key
def Bz(hh:A.handled=none)(I d:Addr)(jI:d≠I)(gU:od.data= .dict es ep):
 Walks prog w A I [I,d] [I] es.size (KA es) (λi h=>h.IsKeyIter I d i es.size ep/\h.get? d=some od) where
 sub:=λb hb=>by simp at hb;simp[hb]
 frame:=λ_ _ _ st hk=>⟨st.1.at λo e=>hk I (by simp) o e,hk d (by simp) _ st.2⟩
 item:=λi s Q E hi st hQ=>by
  have hx:es[i]? =some es[i]:=WS hi;exact yy st.1 st.2 gU hx λh' IW EW=>hQ _ h' s.toks ⟨_,hx,rfl⟩ ⟨IW,(EW.2 d jI).trans st.2⟩ λb o hb e=>EW.extBut b o (λh=>hb (by simp[h])) e
 done:=λs Q E st hQ=>Ft hh st.1 st.2 gU λh' UW=>hQ h' s.toks λb o hb e=>UW b o (λh=>hb (by simp[h])) e
 self:=λ_ _ _ _ st hQ=>wpAny_pyIter_keyiter st.1 hQ
def zx(lo:(d==XM)=false)(hx:od.ExactDict)(gU:od.data= .dict es ep):KdlSrc prog w "dict" d d es.size (KA es) (λh=>h.get? d=some od) where
 type:=λ_ hm=>⟨od,hm,hx.1⟩
 there:=λ_ hm=>⟨Wi hm,Wi hm⟩
 keep:=λ_ _ hm hk=>hk d (.inl rfl) od hm
 notList:=by decide
 notTuple:=by decide
 hint:=λ_ _ s _ hm hq=>kdl_hint_dict ⟨od,hm,hx.1⟩ hq
 iter:=λ_ _ hh hm=>⟨_,_,(λ_ _ hq=>uf lo hm hx gU hq),Bz hh _ d (WB (Wi hm)) gU,⟨⟨_,Wr _ rfl,rfl,rfl⟩,V7 _ hm⟩⟩
end
end L3
namespace L3
open PySem
def insI(k:List Int):List (List Int)->List (List Int)
 |[]=>[k]
 |x::r=>if cX k x then k::x::r else x::insI k r
def sortI:List (List Int)->List (List Int)
 |[]=>[]
 |k::r=>insI k (sortI r)
def xo(l:List (List Int)):Prop:=l.Pairwise λa b=>cX a b=true
def mf:∀{l:List (List Int)},x∈insI k l↔x=k\/x∈l
 |[]=>by simp[insI]
 |y::r=>by
  unfold insI;split
  ·simp
  ·rw[Ws,mf,Ws];constructor
   ·rintro(h | h | h)<;>simp[h]
   ·rintro(h | h | h)<;>simp[h]
def ua:∀{l:List (List Int)},xo l->k∉l->xo (insI k l)
 |[],_,_=>abU _ _
 |x::r,h,hk=>by
  have h:=W7.mp h;unfold insI;split
  ·rename_i q;refine W7.mpr ⟨λy hy=>?_,W7.mpr h⟩;rcases Ws.mp hy with rfl | hy
   ·exact q
   ·exact kG _ _ _ q (h.1 y hy)
  ·rename_i q;have hx:cX x k=true:=by
    rcases iD k x (λz=>hk (by rw[z];exact V_ ..)) with z | z
    ·exact ac_ z q
    ·exact z
   refine W7.mpr ⟨λy hy=>?_,ua h.2 λz=>hk (V8 _ z)⟩;rcases mf.mp hy with rfl | hy
   ·exact hx
   ·exact h.1 y hy
def d5:∀{l:List (List Int)},x∈sortI l↔x∈l
 |[]=>Iff.rfl
 |k::r=>by unfold sortI;rw[mf,d5,Ws]
def jq:∀{l:List (List Int)},l.Nodup->xo (sortI l)
 |[],_=>abx
 |k::r,h=>by
  have h:=Xe.mp h;exact ua (jq h.2) λz=>h.1 (d5.mp z)
def mT:∀{a b:List (List Int)},xo a->xo b->(∀x,x∈a↔x∈b)->a=b
 |[],[],_,_,_=>rfl
 |[],y::b,_,_,h=>by have:=(h y).mpr (V_ ..);cases this
 |x::a,[],_,_,h=>by have:=(h x).mp (V_ ..);cases this
 |x::a,y::b,ha,hb,h=>by
  have ha:=W7.mp ha;have hb:=W7.mp hb;have e:x=y:=by
   rcases Ws.mp ((h x).mp (V_ ..)) with q | q
   ·exact q
   ·rcases Ws.mp ((h y).mpr (V_ ..)) with p | p
    ·exact p.symm
    ·have z1:=hb.1 x q;have z2:=ha.1 y p;rw[fL _ _ z1] at z2;cases z2
  subst e;have T7:∀k,cX k k≠true:=λk z=>by have:=fL _ _ z;rw[z] at this;cases this
  rw[mT ha.2 hb.2 λz=>?_];constructor
  ·intro hz;rcases Ws.mp ((h z).mp (V8 _ hz)) with q | q
   ·subst q;exact ac_ (ha.1 z hz) (T7 z)
   ·exact q
  ·intro hz;rcases Ws.mp ((h z).mpr (V8 _ hz)) with q | q
   ·subst q;exact ac_ (hb.1 z hz) (T7 z)
   ·exact q
def wj:∀(n:Nat) (l:List Nat),l.Nodup->(∀x∈l,x<n)->l.length=n->∀k,k<n->k∈l
 |0,_,_,_,_,k,hk=>by omega
 |n+1,l,hd,hl,hn,k,hk=>by
  by_cases h:n∈l
  ·by_cases e:k=n
   ·subst e;exact h
   ·refine List.mem_of_mem_erase (wj n (l.erase n) (hd.erase n) (λx hx=>?_) (by rw[YZ h,hn];rfl) k (by omega));have hx:=hd.mem_erase_iff.mp hx;have:=hl x hx.2;have:=hx.1;omega
  ·cases l with
   |nil=>simp at hn
   |cons x r=>
    have hd:=Xe.mp hd;have lt:∀y∈x::r,y<n:=λy hy=>by
     have:=hl y hy;have:y≠n:=λz=>h (by rw[<-z];exact hy);omega
    exact ac_ (wj n r hd.2 (λy hy=>lt y (V8 _ hy)) (by simpa using hn) x (lt x (V_ ..))) hd.1
def oz(hd:ks.Nodup)(P:PN ks.length p)(R:Ri (λi j=>cX (ks.getD i []) (ks.getD j [])) p ks.length):(p.toList.map λi=>ks.getD i [])=sortI ks:=by
 have hsz:p.toList.length=ks.length:=by rw[Wn];exact P.sz
 have qB:∀i (h:i<p.toList.length),p.toList[i]=at' p i:=λi h=>by
  have h':i<p.size:=by rw[Wn] at h;exact h
  rw[cw,WS h'];simp
 refine mT ?_ (jq hd) λx=>?_
 ·refine W6.mpr λi j hi hj jC=>?_;rw[V5] at hi hj;rw[W9,W9,qB i hi,qB j hj];exact R i j jC (by omega)
 ·rw[d5];constructor
  ·intro hx;obtain⟨i,hi,rfl⟩:=Wc.mp hx;obtain⟨j,hj,rfl⟩:=Xl.mp hi;have:=P.lt j (by omega);rw[qB j hj,Wa,V6 this];exact WR this
  ·intro hx;obtain⟨k,hk,rfl⟩:=Xl.mp hx;have O5:k∈p.toList:=by
    have hn:p.toList.Nodup:=W6.mpr λi j hi hj jC z=>by
     rw[qB i hi,qB j hj] at z;have:=P.inj i j (by omega) (by omega) z;omega
    exact wj ks.length p.toList hn (λx hx=>by
     obtain⟨j,hj,rfl⟩:=Xl.mp hx;rw[qB j hj];exact P.lt j (by omega)) hsz k hk
   refine Wc.mpr ⟨k,O5,?_⟩;rw[Wa,V6 hk];rfl
end L3
namespace L3
open PySem PySem.Spec L2 SeqAt HT
open PyProof.Rows hiding St
def tupI(k:List Int):D:= .tup (k.map D.int)
def F8:D->Option (List Int)
 | .tup ds=>nums ds
 |_=>none
def fo:List D->Option (List (List Int))
 |[]=>some []
 |d::ds=>match F8 d,fo ds with
  |some k,some ks=>some (k::ks)
  |_,_=>none
def d_(ks:List (List Int)):Bool:=decide ks.Nodup&&decide (ks.length<64)&&ks.all λk=>!k.isEmpty
def HJ:List D->M D
 |[.lst ds]=>match fo ds with
  |some ks=>if d_ ks then ab (.lst ((sortI ks).map tupI)) else ag
  |none=>ag
 |_=>ag
def df(H:Hp):List V->List (List Int)->Prop:=aba λv k=>∃a,v= .ref a/\H a=some (.tup (k.map V.int))
def nJ{K:Wm}(hs:Same F H):∀{ds:List D}{vs:List V}{ks:List (List Int)},fo ds=some ks->DenL K F ds vs->df H vs ks/\df F vs ks
 |[],_,_,e,h=>by cases e;cases (show _=_ from h);exact⟨.nil, .nil⟩
 |d::ds,_,_,e,⟨v,r,h1,h2,h3⟩=>by
  subst h1;unfold fo at e;split at e
  ·rename_i k ks e1 e2;cases e;obtain⟨Sb,Sd⟩:=nJ hs e2 h3;cases d with
   |tup es=>
    obtain⟨a,ws,rfl,k2,k3,_⟩:=h2;have:=eY e1 k3;subst this;exact⟨.cons ⟨a,rfl,hs _ _ k2⟩ Sb, .cons ⟨a,rfl,k2⟩ Sd⟩
   |_=>cases e1
  ·cases e
def j5{K:Wm}:∀{ws:List V}{ks:List (List Int)},df F ws ks->(∀k∈ks,k.length<=lim)->DenL K F (ks.map tupI) ws
 |_,_, .nil,_=>rfl
 |_,_, .cons (b:=k) h t,hl=>by
  obtain⟨a,rfl,h⟩:=h;exact .cons ⟨a,_,rfl,h,DenL.ints k,by rw[V5];exact hl k (V_ ..)⟩ (j5 t λk hk=>hl k (V8 _ hk))
def kQ(I:Inv X f8 σ H s):∀{vs:List V}{aL:List Value}{ks:List (List Int)},df H vs ks->Vals vs aL->(∀k∈ks,k≠[])->TupsAt s.heap aL ks
 |_,_,_, .nil,r,_=>by cases r;exact trivial
 |_,_,_, .cons (b:=k) h t,r,hn=>by
  obtain⟨a,rfl,h⟩:=h;cases r with
  |cons r1 r2=>
   cases (show _=_ from r1);obtain⟨us,ru,pt,_⟩:=I.tuple (SqT.of h);obtain⟨o,q1,q2,m,q3⟩:=pt;exact⟨⟨a,o,us,m,rfl,q1,q2,q3,intsAre_of ru,hn k (V_ ..)⟩,kQ I t r2 λk hk=>hn k (V8 _ hk)⟩
def zb:∀{vs:List V}{ks:List (List Int)}{i:Nat},df H vs ks->i<vs.length->∃a,vs.getD i .non= .ref a/\H a=some (.tup ((ks.getD i []).map V.int))
 |_,_,i, .nil,hi=>by simp at hi
 |_,_,0, .cons h t,_=>h
 |_,_,i+1, .cons h t,hi=>zb (i:=i) t (by simpa using hi)
def gE:∀{vs:List V}{ks:List (List Int)},df H vs ks->vs.length=ks.length
 |_,_, .nil=>rfl
 |_,_, .cons h t=>by rw[Wf,Wf,gE t]
def kP(h:df H vs ks):∀{is:List Nat},(∀i∈is,i<vs.length)->df H (is.map λi=>vs.getD i .non) (is.map λi=>ks.getD i [])
 |[],_=> .nil
 |i::is,hi=> .cons (zb h (hi i (V_ ..))) (kP h λj hj=>hi j (V8 _ hj))
def oB:∀{vs:List V}{us:List Value}(i:Nat),Vals vs us->i<vs.length->RelV (vs.getD i .non) (us.getD i WJ)
 |_,_,i, .nil,hi=>by simp at hi
 |_,_,0, .cons h t,_=>h
 |_,_,i+1, .cons h t,hi=>oB i t (by simpa using hi)
def kU(h:Vals vs us):∀{is:List Nat},(∀i∈is,i<vs.length)->Vals (is.map λi=>vs.getD i .non) (is.map λi=>us.getD i WJ)
 |[],_=> .nil
 |i::is,hi=> .cons (oB i h (hi i (V_ ..))) (kU h λj hj=>hi j (V8 _ hj))
def SA(K:Wm):List V->Hp->VK->Prop:=λxs H Q=>∃p vs ks,xs=[.ref p]/\SqL K H p vs/\df H vs ks/\d_ ks=true/\∀(q:Addr) (is:List Nat),H q=none->(∀i∈is,i<vs.length)->is.length=vs.length->(is.map λi=>ks.getD i [])=sortI ks->Q (.ref q) (upd H q (.lst (is.map λi=>vs.getD i .non)))
section
variable{X:Cx}{Xw:Nat->Hp->Prop}{e:Expr}{δs:DA}{pos p:Pos}
def Fb:CallR X (.builtin "sorted") (SA X.K):=by
 intro f8 s σ H xs us Q I r h;obtain⟨a,vs,ks,rfl,hq,hr,hk,q⟩:=h;obtain⟨u,rfl,r1⟩:=r.one;cases (show u=_ from r1);obtain⟨aL,rv,pl,hz⟩:=I.list hq;unfold d_ at hk;rw[Wl,Wl] at hk;have hd:ks.Nodup:=ac9 hk.1.1;have pI:ks.length<64:=ac9 hk.1.2;have jI:∀k∈ks,k≠[]:=λk sT z=>by have:=WI.mp hk.2 k sT;rw[z] at this;cases this
 have Aw:=gE hr;have t8:=rv.length;have nq:Ww=16777216:=XH;have ht:=kQ I hr rv jI;refine YQ ab5 abA abB (abE _) ?_;unfold YI.«sorted»;refine V4 (V9 (V4 (collect_list pl.isList (V4 (Zx ?_ (by rw[nq];omega))) (by rw[nq];omega))));have hsz:((s.heap.push (W_ "list" #[] 0)).update s.heap.objs.size (WO (· ++aL.toArray))).objs.size=s.heap.objs.size+1:=by rw[Heap.size_update,size_push']
 have keep:∀b o,s.heap.get? b=some o->(((s.heap.push (W_ "list" #[] 0)).update s.heap.objs.size (WO (· ++aL.toArray))).push (W_ "list" aL.toArray 0)).get? b=some o:=λb o e=>by
  have fJ:=Wi e;exact V7 _ ((acy _ _ _ _ (WB fJ)).trans (V7 _ e))
 have DL:(((s.heap.push (W_ "list" #[] 0)).update s.heap.objs.size (WO (· ++aL.toArray))).push (W_ "list" aL.toArray 0)).get? (s.heap.objs.size+1)=some (W_ "list" aL.toArray 0):=by
  rw[<-hsz];exact Wr _ rfl
 show wpAny _ _ _ _ _ {s with heap:=((s.heap.push (W_ "list" #[] 0)).update s.heap.objs.size (WO (· ++aL.toArray))).push (W_ "list" aL.toArray 0)};rw[hsz];refine V4 (XQ (W0 aaP ⟨_,DL,rfl⟩ aav (uX DL
  (ht.keep (λb o _ e=>keep b o e) (λo e=>ac_ (Wi e) (W4 _))) hd (by omega) λP h' c' hP hR vB jH=>?_) (aaQ _)))
 have B8:∀i∈P.toList,i<vs.length:=λi hi=>by
  obtain⟨j,hj,rfl⟩:=Xl.mp hi;have h':j<P.size:=by rw[Wn] at hj;exact hj
  have:=hP.lt j (by rw[hP.sz] at h';exact h');rw[cw,WS h'] at this;have e:P.toList[j]=P[j]:=by simp
  rw[e];have:P[j]<aL.length:=this;omega
 have B7:PN ks.length P:=by rw[<-Aw,t8];exact hP
 have OE:Ri (λi j=>cX (ks.getD i []) (ks.getD j [])) P ks.length:=by rw[<-Aw,t8];exact hR
 have Iq:=oz hd B7 OE;have Au:H (s.heap.objs.size+1)=none:=I.hok.fresh (ZX _);refine⟨_,rfl,V9 ⟨_,rfl,⟨.ref (s.heap.objs.size+1),_,I.laid (λb ob e=>jH b ob (WB (Nat.lt_succ_of_lt (Wi e))) (keep b ob e)) (ZX _) ?_,rfl,q _ P.toList Au B8 (by rw[Wn,hP.sz];omega) Iq⟩⟩⟩;exact⟨by rw[V5,Wn,hP.sz,nq];omega,_,c',kU rv B8,vB⟩
def nK{K:Wm}:∀{ds:List D}{vs:List V}{ks:List (List Int)},fo ds=some ks->DenL K F ds vs->∀k∈ks,k.length<=lim
 |[],_,_,e,_=>by cases e;exact λk hk=>by cases hk
 |d::ds,_,_,e,⟨v,r,h1,h2,h3⟩=>by
  unfold fo at e;split at e
  ·rename_i k ks e1 e2;cases e;intro k' sT;rcases Ws.mp sT with rfl | sT
   ·cases d with
    |tup es=>
     obtain⟨a,ws,rfl,k2,k3,k4⟩:=h2;have:=eY e1 k3;have hl:=k3.len;rw[this,V5] at hl;omega
    |_=>cases e1
   ·exact nK e2 h3 k' sT
  ·cases e
def gp:∀l:List (List Int),(sortI l).length=l.length
 |[]=>rfl
 |k::r=>by
  have ins:∀(k:List Int) (l:List (List Int)),(insI k l).length=l.length+1:=by
   intro k l;induction l with
   |nil=>rfl
   |cons x l ih=>
    unfold insI;split
    ·rfl
    ·rw[Wf,ih,Wf]
  unfold sortI;rw[ins,gp r,Wf]
def MU(hg:Gl X "sorted")(hm:X.mg "sorted"=none)(hb:WV "sorted"=some (.builtin "sorted"))(ha:lr X Xw [e] δs)(he:Wv [e] X.env=[(false,eval e X.env)]:=by rfl):PD X Xw (.Call (.Name "sorted" p) [e] [] pos) (dA HJ δs):=
 cV Fb (λXw F H vs ds Q s h w=>by
  unfold HJ at w;split at w
  ·rename_i ds;obtain⟨v,rfl,h1⟩:=h.one;obtain⟨a,ws,rfl,h2,h3,h4⟩:=h1;split at w
   ·rename_i ks FV;split at w
    ·rename_i hok;obtain⟨r1,r2⟩:=nJ s FV h3;have RN:=nK FV h3;refine⟨a,ws,ks,rfl,SqL.of (s _ _ h2),r1,hok,λq is hq hi hl hs=>WP.fin w (Ext.lay s hq) ⟨q,_,rfl,aK,DenL.mono (Ext.lay s hq).ff ?_,?_⟩⟩
     ·have:=kP r2 hi;rw[hs] at this;exact j5 this λk hk=>RN k (d5.mp hk)
     ·rw[V5,gp,<-gE r1,<-h3.len];exact h4
    ·exact w.elim
   ·exact w.elim
  ·exact w.elim) hg hm hb ha (by decide) (by decide) he rfl
end
def mi(k:List Int):List Key:=k.map aaV
def Qe:List V->Hp->VK->Prop:=λxs H Q=>∃p aB ks,xs=[.ref p]/\Rd H p (.dT aB)/\aB.map (·.1)=ks.map mi/\d_ ks=true/\∀(q:Addr) (ws:List V),H q=none->df H ws (sortI ks)->Q (.ref q) (upd H q (.lst ws))
def nM:∀{aB:List (List Key×V)}{xs:List (List Key×Addr×Value)}{ks:List (List Int)},aba (λ(p:List Key×V) (q:List Key×Addr×Value)=>p.1=q.1/\H q.2.1=some (.tup (p.1.map kV))/\RelV p.2 q.2.2) aB xs->
 aB.map (·.1)=ks.map mi->df H (xs.map λx=>V.ref x.2.1) ks
 |_,_,[], .nil,_=> .nil
 |_,_,_::_, .nil,e=>by simp at e
 |_,_,[], .cons h t,e=>by simp at e
 |_,_,k::ks, .cons h t,e=>by
  rw[Wb,Wb] at e;injection e with e1 e2
  refine .cons ⟨_,rfl,?_⟩ (nM t e2);have hk:(mi k).map kV=k.map V.int:=by unfold mi;rw[WA];rfl
  rw[h.2.1,e1,hk]
section
variable{X:Cx}{Xw:Nat->Hp->Prop}{e:Expr}{δs:DA}{pos p:Pos}
def Dt(hc:X.calm=true):CallR X (.builtin "sorted") Qe:=by
 intro f8 s σ H xs us Q I r h;obtain⟨a,aB,ks,rfl,hH,zX,hk,q⟩:=h;obtain⟨u,rfl,r1⟩:=r.one;cases (show u=_ from r1);obtain⟨z,lo,xs,rel,o,es,ep,g1,g2,g3,g4,g5⟩:=(show ObjOk X.prog X.w H s.heap a (.dT aB) from hH.ok I.hok)
 unfold d_ at hk;rw[Wl,Wl] at hk;have hd:ks.Nodup:=ac9 hk.1.1;have pI:ks.length<64:=ac9 hk.1.2;have jI:∀k∈ks,k≠[]:=λk sT z=>by have:=WI.mp hk.2 k sT;rw[z] at this;cases this
 have hr:=nM rel zX;have Aw:=gE hr;rw[V5] at Aw;have OO:es.size=xs.length:=by rw[<-Wn,g4,V5]
 have nq:Ww=16777216:=XH;refine YQ ab5 abA abB (abE _) ?_;unfold YI.«sorted»;refine V4 (V9 (V4 (PySem.W.kdu_collect (zx lo g2 g3) (I.ok.hd hc) g1 (by rw[OO,nq];omega) λh1 tk v0 ym i3=>?_)));have FN:v0.toList.length=xs.length:=by rw[Wn,<-OO];exact i3.1
 have I1:Inv X f8 σ H {s with heap:=h1,toks:=tk}:=I.kept λb ob e=>ym b ob e;have rv:Vals (xs.map λx=>V.ref x.2.1) v0.toList:=by
  have ext:∀{vs:List V}{us:List Value},vs.length=us.length->(∀(i:Nat) (v:V) (u:Value),vs[i]? =some v->us[i]? =some u->RelV v u)->Vals vs us:=by
   intro vs;induction vs with
   |nil=>intro us h _;cases us with | nil=>exact .nil | cons _ _=>simp at h
   |cons v vs ih=>
    intro us h hh;cases us with
    |nil=>simp at h
    |cons u us=>exact .cons (hh 0 v u rfl rfl) (ih (by simpa using h) λi v u h1 h2=>hh (i+1) v u h1 h2)
  refine ext (by rw[V5,FN]) λi v u e1 e2=>?_;rw[XF] at e2;obtain⟨en,q1,q2⟩:=i3.2 i u e2;rw[<-XF,g4,Wj] at q1;rw[Wj] at e1;cases w:xs[i]? with
  |none=>rw[w] at e1;cases e1
  |some x=>
   rw[w] at e1 q1;cases e1;cases q1;exact q2
 have ht:=kQ I1 hr rv jI;refine V4 (Zx ?_ (by rw[nq];omega));have DL:(h1.push (W_ "list" v0.toList.toArray 0)).get? h1.objs.size=some (W_ "list" v0.toList.toArray 0):=Wr _ rfl;refine V4 (XQ (W0 aaP ⟨_,DL,rfl⟩ aav (uX DL
  (ht.keep (λb o _ e=>V7 _ e) (λo e=>ac_ (Wi e) (W4 _))) hd (by omega) λP h' c' hP hR vB jH=>?_) (aaQ _)))
 have B8:∀i∈P.toList,i<(xs.map λx=>V.ref x.2.1).length:=λi hi=>by
  obtain⟨j,hj,rfl⟩:=Xl.mp hi;have h':j<P.size:=by rw[Wn] at hj;exact hj
  have:=hP.lt j (by rw[hP.sz] at h';exact h');rw[cw,WS h'] at this;have e:P.toList[j]=P[j]:=by simp
  rw[e,V5];have:P[j]<v0.toList.length:=this;omega
 have B7:PN ks.length P:=by rw[<-Aw,<-FN];exact hP
 have OE:Ri (λi j=>cX (ks.getD i []) (ks.getD j [])) P ks.length:=by rw[<-Aw,<-FN];exact hR
 have Iq:=oz hd B7 OE;have T3:=kP hr B8;rw[Iq] at T3;refine⟨_,rfl,V9 ⟨_,rfl,⟨.ref h1.objs.size,_,I1.laid (λb ob e=>jH b ob (WB (Wi e)) (V7 _ e)) (Wg _) ?_,rfl,q _ _ (I1.hok.fresh (Wg _)) T3⟩⟩⟩;exact⟨by rw[V5,Wn,hP.sz,nq];omega,_,c',kU rv B8,vB⟩
def uR(e:Same F F'):∀{ws:List V}{ks:List (List Int)},df F ws ks->df F' ws ks
 |_,_, .nil=> .nil
 |_,_, .cons ⟨b,q1,q2⟩ t=> .cons ⟨b,q1,e _ _ q2⟩ (uR e t)
def mQ(hs:Same F H):∀{ws:List V}{ks:List (List Int)},df H ws ks->∃F',Ext F H F' H/\df F' ws ks
 |_,_, .nil=>⟨F,Ext.refl hs, .nil⟩
 |_,_, .cons h t=>by
  obtain⟨a,rfl,h⟩:=h;obtain⟨F1,e1,r1⟩:=mQ hs t;have e2:=Ext.tup e1.fh h;refine⟨_,e1.trans e2, .cons ⟨a,rfl,aK⟩ ?_⟩;exact uR e2.ff r1
def ub:List Key->Option (List Int)
 |[]=>some []
 | .inl i::r=>(ub r).map (i:: ·)
 |_=>none
def eK:List (List Key)->Option (List (List Int))
 |[]=>some []
 |k::r=>match ub k,eK r with
  |some x,some xs=>some (x::xs)
  |_,_=>none
def yg:∀{k:List Key}{x:List Int},ub k=some x->k=mi x
 |[],_,e=>by cases e;rfl
 | .inl i::r,_,e=>by
   unfold ub at e;cases q:ub r with
   |none=>rw[q] at e;cases e
   |some y=>rw[q] at e;cases e;rw[yg q];rfl
 | .inr _::r,_,e=>by cases e
def iz:∀{kk:List (List Key)}{ks:List (List Int)},eK kk=some ks->kk=ks.map mi
 |[],_,e=>by cases e;rfl
 |k::r,_,e=>by
  unfold eK at e;split at e
  ·rename_i x xs e1 e2;cases e;rw[Wb,<-yg e1,<-iz e2]
  ·cases e
def zy:List D->M D
 |[.dct kk ds]=>match eK kk with
  |some ks=>if d_ ks&&ks.all (λk=>decide (k.length<=lim)) then ab (.lst ((sortI ks).map tupI)) else ag
  |none=>ag
 |_=>ag
def jt:∀{a:List α}{b:List β},a.length=b.length->(a.zip b).map (·.1)=a
 |[],[],_=>rfl
 |x::a,y::b,h=>by rw[Yz,Wb,jt (by simpa using h)]
 |[],_::_,h=>by simp at h
 |_::_,[],h=>by simp at h
def JP(hc:X.calm=true)(hg:Gl X "sorted")(hm:X.mg "sorted"=none)(hb:WV "sorted"=some (.builtin "sorted"))(ha:lr X Xw [e] δs)(he:Wv [e] X.env=[(false,eval e X.env)]:=by rfl):PD X Xw (.Call (.Name "sorted" p) [e] [] pos) (dA zy δs):=
 cV (Dt hc) (λXw F H vs ds Q s h w=>by
  unfold zy at w;split at w
  ·rename_i kk ds;obtain⟨v,rfl,h1⟩:=h.one;obtain⟨a,ob,ws,rfl,h2,h3,h4,h5⟩:=h1;split at w
   ·rename_i ks FV;split at w
    ·rename_i hok;rw[Wl] at hok;have hl:∀k∈ks,k.length<=lim:=λk hk=>ac9 (WI.mp hok.2 k hk);have pI:ks.length<64:=by
      have:=hok.1;unfold d_ at this;rw[Wl,Wl] at this;exact ac9 this.1.2
     refine⟨a,_,ks,rfl, .inr ⟨ob,s _ _ h2⟩,by rw[jt (by rw[h4];exact h3.len),iz FV],hok.1,λq us hq hr=>?_⟩;obtain⟨F1,e1,r1⟩:=mQ s hr;have e2:=Ext.lay (o:= .lst us) e1.fh hq;exact WP.fin w (e1.trans e2) ⟨q,_,rfl,aK,DenL.mono e2.ff (j5 r1 λk hk=>hl k (d5.mp hk)),by rw[V5,gp];unfold lim;omega⟩
    ·exact w.elim
   ·exact w.elim
  ·exact w.elim) hg hm hb ha (by decide) (by decide) he rfl
end
end L3
namespace L3
open PySem PySem.Spec L2
open PyProof.Rows hiding St
def orM(a b:M α):M α:=match a with
 |none=>b
 |some r=>some r
def Jb(a b:DA):DA:=λρ=>orM (a ρ) (b ρ)
section
variable{X:Cx}{Xw:Nat->Hp->Prop}{e tg:Expr}{δi δi':DA}
def CM(h:zZ X Xw tg e δi)(h':zZ X Xw tg e δi'):zZ X Xw tg e (Jb δi δi'):=λf8 s σ H Q I ⟨F,ρ,S,w⟩=>by
 unfold Jb orM at w;cases q:δi ρ with
 |none=>rw[q] at w;exact h' f8 s σ H Q I ⟨F,ρ,S,w⟩
 |some r=>rw[q] at w;exact h f8 s σ H Q I ⟨F,ρ,S,by rw[q];exact w⟩
def kO{st:Stmt}:iR X Xw st (λ_=>ag):=λs0 adf f8 s σ H D I ⟨F,ρ,S,w⟩=>w.elim
end
def fgt:List Nat->cK->cK
 |[],ρ=>ρ
 |i::is,ρ=>fgt is (ρ.set i none)
def PL(f:cK->cK):Out->M Out
 | .nx ρ=>ab (.nx (f ρ))
 | .rt d=>ab (.rt d)
def cY(is:List Nat)(τ:DS):DS:=λρ=>τ ρ>>=PL (fgt is)
def StOk.fgt1{K:Wm}(s:StOk K s0 adf F H σ ρ)(i:Nat):StOk K s0 adf F H σ (ρ.set i none):=by
 have get:∀(j:Nat) (sl:Sl),(ρ.set i none)[j]? =some (some sl)->ρ[j]? =some (some sl):=λj sl e=>by
  by_cases hj:j=i
  ·subst hj;by_cases hl:j<ρ.length
   ·rw[WC hl] at e;cases e
   ·rw[Zg (by simpa using hl)] at e;cases e
  ·rw[Wt (Xp hj)] at e;exact e
 exact⟨s.ext,⟨s.st.fh,λj sl e=>s.st.den j sl (get j sl e)⟩,by simp[s.len],λj c a e e'=>s.own j c a (get j _ e) e',λj k c c' a e1 e2 e3 e4=>s.sep j k c c' a (get j _ e1) (get k _ e2) e3 e4⟩
def StOk.fgt{K:Wm}:∀(is:List Nat) {ρ:cK},StOk K s0 adf F H σ ρ->StOk K s0 adf F H σ (L3.fgt is ρ)
 |[],_,s=>s
 |i::is,_,s=>StOk.fgt is (s.fgt1 i)
def WPS.fgt{K:Wm}(w:WPS K Xw s0 adf (m>>=PL (L3.fgt is)) Dn):WPS K Xw s0 adf m Dn:=by
 match m,w with
 |none,w=>exact w
 |some (.ok (.nx ρ)),w=>exact λσ F H s=>w σ F H (s.fgt is)
 |some (.ok (.rt d)),w=>exact w
 |some (.ex n),w=>exact w
section
variable{X:Cx}{Xw:Nat->Hp->Prop}{Ui:List Stmt}{τ:DS}{is:List Nat}
def bp(h:PSDs X Xw Ui τ):PSDs X Xw Ui (cY is τ):=λs0 adf=>PSs.weak (h s0 adf) λD σ H ⟨F,ρ,s,w⟩=>⟨F,ρ,s,WPS.fgt w⟩
end
def UD:Option Sl->Option Sl
 |some (.ow c)=>some (.fz c.d)
 |x=>x
def Ao(ρ:cK):cK:=ρ.map UD
def refA(h:Heap)(P:Addr->Prop)[DecidablePred P](H:Hp):Hp:=λb=>if P b then(H b).map (pH ((h.get? b).getD {cls:= .none,data:= .fields #[]})) else H b
def Ap(ob:Obj)(o:HO):pH ob o=o\/((∃k,o= .dT k)\/∃k,o= .dK k)/\pH ob o= .frz ob o:=by
 cases o<;>first | exact .inl rfl | exact .inr ⟨.inl ⟨_,rfl⟩,rfl⟩ | exact .inr ⟨.inr ⟨_,rfl⟩,rfl⟩
section
variable{X:Cx}{f8:List (Addr×Obj)}{σ:St}{H:Hp}{s:We}{P:Addr->Prop}[DecidablePred P]
def iM(e:H b=none):refA h P H b=none:=by
 unfold refA;split
 ·rw[e];rfl
 ·exact e
def uQ(e:H b=some o):refA h P H b=some o\/((∃k,o= .dT k)\/∃k,o= .dK k)/\P b/\refA h P H b=some (.frz ((h.get? b).getD {cls:= .none,data:= .fields #[]}) o):=by
 unfold refA;split
 ·rename_i hp;rw[e];rcases Ap ((h.get? b).getD {cls:= .none,data:= .fields #[]}) o with q | ⟨q1,q2⟩
  ·exact .inl (by show some _=_;rw[q])
  ·exact .inr ⟨q1,hp,by show some _=_;rw[q2]⟩
 ·exact .inl e
def iL(e:H b=some o)(n1:∀k,o≠ .dT k)(n2:∀k,o≠ .dK k):refA h P H b=some o:=by
 rcases uQ (P:=P) e with q | ⟨⟨k,q⟩ | ⟨k,q⟩,_⟩
 ·exact q
 ·exact ac_ q (n1 k)
 ·exact ac_ q (n2 k)
def Inv.refA(I:Inv X f8 σ H s):Inv X f8 σ (L3.refA s.heap P H) s:=by
 have obj:∀b o,H b=some o->((∃k,o=HO.dT k)\/∃k,o= .dK k)->∃ob,s.heap.get? b=some ob:=λb o e hu=>by
  have hk:=I.hok b o e;rcases hu with⟨k,h1⟩ | ⟨k,h1⟩
  ·subst h1;obtain⟨_,_,_,_,ob,_,_,q,_⟩:=hk;exact⟨ob,q⟩
  ·subst h1;obtain⟨_,_,_,_,ob,_,_,q,_⟩:=hk;exact⟨ob,q⟩
 refine⟨I.ok,I.os,I.bare,⟨I.base.keep,I.base.slot,λb q h1 h2 h3=>iM (I.base.free b q h1 h2 h3),I.base.there,λb xs q=>iL (I.base.tups b xs q) (λ_ z=>nomatch z) (λ_ z=>nomatch z),
  λb q1 v q=>iL (I.base.frzs b q1 v q) (λ_ z=>nomatch z) (λ_ z=>nomatch z),λb ps q=>?_⟩,I.loc,I.cell,iM I.free,λx c q=>iM (I.freeC x c q),λp hp=>?_,λb v q=>?_,I.len⟩
 ·obtain⟨m,this⟩:=I.base.tbls b ps q;exact⟨m,iL this (λ_ z=>nomatch z) (λ_ z=>nomatch z)⟩
 ·obtain⟨h1,h2,h3⟩:=I.pin p hp;exact⟨h1,iM h2,h3⟩
 ·have st:∀{c:Addr}{v:HO},ObjOk X.prog X.w H s.heap c v->ObjOk X.prog X.w (L3.refA s.heap P H) s.heap c v:=λ{c v} k=>k.stay (λ_ _ _ q=>q)
   (λc' q=>iL q (λ_ z=>nomatch z) (λ_ z=>nomatch z)) λc' xs q=>iL q (λ_ z=>nomatch z) (λ_ z=>nomatch z)
  cases e:H b with
  |none=>rw[iM e] at q;cases q
  |some o=>
   rcases uQ (P:=P) e with z | ⟨hu,hp,z⟩
   ·rw[z] at q;cases q;exact st (I.hok b _ e)
   ·rw[z] at q;cases q;obtain⟨ob,O1⟩:=obj b o e hu;rw[O1];exact⟨O1,st (I.hok b o e)⟩
def unA(P:Addr->Prop)[DecidablePred P](H:Hp):Hp:=λb=>if P b then(match H b with | some (.frz _ u)=>some u | x=>x) else H b
def Inv.unA(I:Inv X f8 σ H s)(hP:∀b,P b->∀o u,X.adf b≠some (.frz o u))(hQ:∀b,P b->∀o u,H b=some (.frz o u)->(∃k,u= .dT k)\/∃k,u= .dK k):Inv X f8 σ (L3.unA P H) s:=by
 have non:∀b,H b=none->L3.unA P H b=none:=λb e=>by unfold L3.unA;rw[e];split<;>rfl
 have keep:∀b o,H b=some o->(∀q u,o≠ .frz q u)->L3.unA P H b=some o:=λb o e n=>by
  unfold L3.unA;split
  ·rw[e];cases o<;>first | rfl | exact ac_ rfl (n _ _)
  ·exact e
 refine⟨I.ok,I.os,I.bare,⟨I.base.keep,I.base.slot,λb q h1 h2 h3=>non b (I.base.free b q h1 h2 h3),I.base.there,λb xs q=>keep b _ (I.base.tups b xs q) (λ_ _ z=>nomatch z),
  λb q1 v q=>?_,λb ps q=>?_⟩,I.loc,I.cell,non _ I.free,λx c q=>non _ (I.freeC x c q),λp hp=>?_,λb v q=>?_,I.len⟩
 ·have:=I.base.frzs b q1 v q;unfold L3.unA;rw[ac6 (λhp=>hP b hp q1 v q)];exact this
 ·obtain⟨m,this⟩:=I.base.tbls b ps q;exact⟨m,keep b _ this (λ_ _ z=>nomatch z)⟩
 ·obtain⟨h1,h2,h3⟩:=I.pin p hp;exact⟨h1,non _ h2,h3⟩
 ·have st:∀{c:Addr}{v:HO},ObjOk X.prog X.w H s.heap c v->ObjOk X.prog X.w (L3.unA P H) s.heap c v:=λ{c v} k=>k.stay (λ_ _ _ q=>q)
   (λc' q=>keep c' _ q (λ_ _ z=>nomatch z)) λc' xs q=>keep c' _ q (λ_ _ z=>nomatch z)
  cases e:H b with
  |none=>rw[non b e] at q;cases q
  |some o=>
   have ko:=I.hok b o e;by_cases hf:∃ob u,o= .frz ob u
   ·obtain⟨ob,u,rfl⟩:=hf;unfold L3.unA at q;split at q
    ·rw[e] at q;cases q;obtain⟨_,k2⟩:=ko;exact st k2
    ·rw[e] at q;cases q;exact st ko
   ·rw[keep b o e (λq u z=>hf ⟨q,u,z⟩)] at q;cases q;exact st ko
end
mutual
def B0:D->Bool
 | .non=>true
 | .bl _=>true
 | .int _=>true
 | .str _=>true
 | .tup ds=>B1 ds
 | .raw _=>false
 | .exc _=>false
 | .scr _=>false
 | .lst _=>false
 | .dct _ _=>false
 | .dci _ _=>false
def B1:List D->Bool
 |[]=>true
 |d::ds=>B0 d&&B1 ds
end
def qu(d:D):M D:=if B0 d then ab d else ag
def OwnAt(σ:St)(ρ:cK)(b:Addr):Prop:=∃(i:Nat) (c:C),ρ[i]? =some (some (Sl.ow c))/\σ[i]? =some (some (V.ref b))
section
variable{K:Wm}{F H F' H':Hp}{σ:St}{ρ:cK}{h:Heap}{b:Addr}
def OwnAt.obj(S:StE K F H σ ρ)(p:OwnAt σ ρ b):F b=none/\∃o,H b=some o/\((∃x,o= .lst x)\/(∃x,o= .dT x)\/∃x,o= .dK x):=by
 obtain⟨i,c,h1,h2⟩:=p;obtain⟨v,h3,a,o,rfl,h4,h5,h6⟩:=S.den i _ h1;rw[h3] at h2;cases h2;refine⟨h5,o,h4,?_⟩;cases c with
 |lst ds=>obtain⟨vs,rfl,_⟩:=h6;exact .inl ⟨_,rfl⟩
 |dct ks ds=>obtain⟨vs,rfl,_⟩:=h6;exact .inr (.inl ⟨_,rfl⟩)
 |dci ks ds=>obtain⟨vs,rfl,_⟩:=h6;exact .inr (.inr ⟨_,rfl⟩)
open Classical in
noncomputable def fA(σ:St)(ρ:cK)(H1 F:Hp):Hp:=λb=>if OwnAt σ ρ b then H1 b else F b
open Classical in
def BZ(S:StE K F H σ ρ):Same F (fA σ ρ H1 F):=λb u e=>by
 unfold fA;rw[ac6 (λp=>by rw[(OwnAt.obj S p).1] at e;cases e)];exact e
open Classical in
def FA(S:StE K F H σ ρ):StE K (fA σ ρ (refA h (OwnAt σ ρ) H) F) (refA h (OwnAt σ ρ) H) σ (Ao ρ):=by
 refine⟨λb u e=>?_,λj sl e=>?_⟩
 ·unfold fA at e;split at e
  ·exact e
  ·rename_i hp;unfold refA;rw[ac6 hp];exact S.fh b u e
 ·unfold Ao at e;rw[Wj] at e;cases q:ρ[j]? with
  |none=>rw[q] at e;cases e
  |some x=>
   rw[q] at e;cases x with
   |none=>cases e
   |some y=>
    cases y with
    |fz d=>
     cases e;obtain⟨v,h1,h2⟩:=S.den j _ q;exact⟨v,h1,Den.mono (BZ S) h2⟩
    |ow c=>
     cases e;obtain⟨v,h1,a,o,rfl,h4,h5,h6⟩:=S.den j _ q;refine⟨_,h1,DenC.den (ob:=(h.get? a).getD {cls:= .none,data:= .fields #[]}) h6 (BZ S) ?_⟩;have hp:OwnAt σ ρ a:=⟨j,c,q,h1⟩
     unfold fA refA;rw[ac5 hp,ac5 hp,h4];rfl
open Classical in
def x9(S:StE K F H σ ρ)(E:Ext (fA σ ρ (refA h (OwnAt σ ρ) H) F) (refA h (OwnAt σ ρ) H) F' H'):
 Ext F H (λb=>if OwnAt σ ρ b then none else F' b) (unA (OwnAt σ ρ) H')/\∀b,OwnAt σ ρ b->∀o u,H' b=some (.frz o u)->(∃k,u= .dT k)\/∃k,u= .dK k:=by
 have Tg:∀b,OwnAt σ ρ b->∃o,H b=some o/\H' b=some (pH ((h.get? b).getD {cls:= .none,data:= .fields #[]}) o)/\((∃x,o= .lst x)\/(∃x,o= .dT x)\/∃x,o= .dK x):=λb hp=>by
  obtain⟨_,o,h1,h2⟩:=OwnAt.obj S hp;refine⟨o,h1,E.hh b _ ?_,h2⟩;unfold refA;rw[ac5 hp,h1];rfl
 refine⟨⟨λb o e=>?_,λb u e=>?_,λb u e=>?_,λb hb=>?_⟩,λb hp o u e=>?_⟩
 ·unfold unA;by_cases hp:OwnAt σ ρ b
  ·obtain⟨o',h1,h2,h3⟩:=Tg b hp;rw[e] at h1;cases h1;rw[ac5 hp,h2];rcases h3 with⟨x,rfl⟩ | ⟨x,rfl⟩ | ⟨x,rfl⟩<;>rfl
  ·rw[ac6 hp];refine E.hh b o ?_;unfold refA;rw[ac6 hp];exact e
 ·have hp:¬OwnAt σ ρ b:=λp=>by rw[(OwnAt.obj S p).1] at e;cases e
  show (if OwnAt σ ρ b then none else F' b)=_;rw[ac6 hp];refine E.ff b u ?_;unfold fA;rw[ac6 hp];exact e
 ·have e:(if OwnAt σ ρ b then none else F' b)=some u:=e;split at e
  ·cases e
  ·rename_i hp;unfold unA;rw[ac6 hp];exact E.fh b u e
 ·show (if OwnAt σ ρ b then none else F' b)=F b\/_;by_cases hp:OwnAt σ ρ b
  ·rw[ac5 hp];exact .inl (OwnAt.obj S hp).1.symm
  ·rw[ac6 hp];have e1:refA h (OwnAt σ ρ) H b=H b:=by unfold refA;rw[ac6 hp]
   have e2:fA σ ρ (refA h (OwnAt σ ρ) H) F b=F b:=by unfold fA;rw[ac6 hp]
   rcases E.new b (by rw[e1];exact hb) with q | q
   ·exact .inl (q.trans e2)
   ·rw[e1] at q;exact .inr q
 ·obtain⟨o',h1,h2,h3⟩:=Tg b hp;rw[e] at h2;rcases h3 with⟨x,rfl⟩ | ⟨x,rfl⟩ | ⟨x,rfl⟩
  ·cases h2
  ·cases h2;exact .inl ⟨_,rfl⟩
  ·cases h2;exact .inr ⟨_,rfl⟩
open Classical in
mutual
def xU(S:StE K F H σ ρ)(E:Ext (fA σ ρ (refA h (OwnAt σ ρ) H) F) (refA h (OwnAt σ ρ) H) F' H'):∀{d:D}{v:V},B0 d=true->Den K F' d v->Den K (λb=>if OwnAt σ ρ b then none else F' b) d v
 | .non,_,_,q=>q
 | .bl _,_,_,q=>q
 | .int _,_,_,q=>q
 | .str _,_,_,q=>q
 | .tup ds,_,f,⟨a,vs,h1,h2,h3,h4⟩=>by
   refine⟨a,vs,h1,?_,tZ S E ?_ h3,h4⟩
   ·show (if OwnAt σ ρ a then none else F' a)=_;rw[ac6,h2];intro hp;obtain⟨_,o,k1,k2⟩:=OwnAt.obj S hp;have k3:fA σ ρ (refA h (OwnAt σ ρ) H) F a=some (pH ((h.get? a).getD {cls:= .none,data:= .fields #[]}) o):=by
     unfold fA refA;rw[ac5 hp,ac5 hp,k1];rfl
    have k4:=E.ff a _ k3;rw[h2] at k4;rcases k2 with⟨x,rfl⟩ | ⟨x,rfl⟩ | ⟨x,rfl⟩<;>cases k4
   ·exact f
 | .raw _,_,f,_=>by cases f
 | .exc _,_,f,_=>by cases f
 | .scr _,_,f,_=>by cases f
 | .lst _,_,f,_=>by cases f
 | .dct _ _,_,f,_=>by cases f
 | .dci _ _,_,f,_=>by cases f
def tZ(S:StE K F H σ ρ)(E:Ext (fA σ ρ (refA h (OwnAt σ ρ) H) F) (refA h (OwnAt σ ρ) H) F' H'):∀{ds:List D}{vs:List V},B1 ds=true->DenL K F' ds vs->DenL K (λb=>if OwnAt σ ρ b then none else F' b) ds vs
 |[],_,_,q=>q
 |d::ds,_,f,⟨v,r,h1,h2,h3⟩=>by
  unfold B1 at f;rw[Wl] at f;exact⟨v,r,h1,xU S E f.1 h2,tZ S E f.2 h3⟩
end
end
section
variable{X:Cx}{Xw:Nat->Hp->Prop}{e:Expr}{δ:DE}{τ:DT}
def uC(I:Inv X f8 σ H s)(S:StE X.K F H σ ρ)(b:Addr)(p:OwnAt σ ρ b)(o:Obj)(u:HO):X.adf b≠some (.frz o u):=λz=>by
 obtain⟨_,o',k1,k2⟩:=OwnAt.obj S p;have:=I.base.frzs b o u z;rw[k1] at this;rcases k2 with⟨x,rfl⟩ | ⟨x,rfl⟩ | ⟨x,rfl⟩<;>cases this
def rm(m:M α):noex m=ag\/∃a,m=ab a/\noex m=ab a:=by
 rcases m.cs with h | ⟨n,h⟩ | ⟨a,h⟩
 ·subst h;exact .inl rfl
 ·subst h;exact .inl rfl
 ·subst h;exact .inr ⟨a,rfl,rfl⟩
def wg(h:pF X Xw e τ):pF X Xw e (λρ=>noex (τ (Ao ρ))):=λf8 s σ H Q I ⟨F,ρ,S,w⟩=>by
 classical
 rcases rm (τ (Ao ρ)) with q | ⟨b,q,q2⟩
 ·have w:WPB Xw F H (noex (τ (Ao ρ))) Q:=w;rw[q] at w;exact w.elim
 ·have w:WPB Xw F H (noex (τ (Ao ρ))) Q:=w;rw[q2] at w;refine cp (h f8 s σ _ (λb' H'=>Q b' (unA (OwnAt σ ρ) H')/\∀c,OwnAt σ ρ c->∀o u,H' c=some (.frz o u)->(∃k,u= .dT k)\/∃k,u= .dK k) (Inv.refA I) ⟨_,_,FA S,?_⟩) λb' s' ⟨H',I',q1,q3⟩=>⟨_,Inv.unA I' (uC I S) q3,q1⟩
  rw[q];intro H' F' E;obtain⟨E1,q3⟩:=x9 S E;exact⟨w _ _ E1,q3⟩
def Lf(h:PD X Xw e δ):PD X Xw e (λρ=>noex (δ (Ao ρ))>>=qu):=λf8 s σ H Q I ⟨F,ρ,S,w⟩=>by
 classical
 rcases rm (δ (Ao ρ)) with q | ⟨d,q,q2⟩
 ·have w:WP X.K Xw F H (noex (δ (Ao ρ))>>=qu) Q:=w;rw[q] at w;exact w.elim
 ·have w:WP X.K Xw F H (noex (δ (Ao ρ))>>=qu) Q:=w;rw[q2,aw] at w;unfold qu at w;split at w
  ·rename_i hf;refine cp (h f8 s σ _ (λv H'=>Q v (unA (OwnAt σ ρ) H')/\∀c,OwnAt σ ρ c->∀o u,H' c=some (.frz o u)->(∃k,u= .dT k)\/∃k,u= .dK k) (Inv.refA I) ⟨_,_,FA S,?_⟩) λb' s' ⟨v,H',I',rv,q1,q3⟩=>⟨v,_,Inv.unA I' (uC I S) q3,rv,q1⟩
   rw[q];intro v H' F' E dn;obtain⟨E1,q3⟩:=x9 S E;exact⟨w _ _ _ E1 (xU S E hf dn),q3⟩
  ·exact w.elim
end
abbrev DF:=cK->M C
def WPF(K:Wm)(Xw:Nat->Hp->Prop)(F H:Hp)(m:M C)(Q:VK):Prop:=
 match m with
 |none=>False
 |some (.ok c)=>∀a o H' F',Ext F H F' H'->H' a=some o->F' a=none->H a=none->DenC K F' c o->Q (.ref a) H'
 |some (.ex n)=>∀F' H',Ext F H F' H'->Xw n H'
def VI(K:Wm)(Xw:Nat->Hp->Prop)(δ:DF):TE:=λσ H Q=>∃F ρ,StE K F H σ ρ/\WPF K Xw F H (δ ρ) Q
def NJ(X:Cx)(Xw:Nat->Hp->Prop)(e:Expr)(δ:DF):Prop:=PE X e (VI X.K Xw δ)
def CW(i:Nat)(δ:DF):DS:=λρ=>δ ρ>>=λc=>ab (.nx (ρ.set i (some (.ow c))))
def StOk.setFresh{K:Wm}(s:StOk K s0 adf F H σ ρ)(E:Ext F H F' H')(ho:H' a=some o)(nF:F' a=none)(n:H a=none)(h:DenC K F' c₀ o):
 StOk K s0 adf F' H' (σ.set i (some (.ref a))) (ρ.set i (some (.ow c₀))):=by
 have hle:=s.len;have get:∀(j:Nat) (sl:Sl),(ρ.set i (some (.ow c₀)))[j]? =some (some sl)->(j=i/\i<ρ.length/\sl= .ow c₀)\/(j≠i/\ρ[j]? =some (some sl)):=λj sl e=>by
  by_cases hj:j=i
  ·subst hj;have hi:j<ρ.length:=by
    have:=(Wh.mp e).1;simpa using this
   rw[WC hi] at e;cases e;exact .inl ⟨rfl,hi,rfl⟩
  ·rw[Wt (Xp hj)] at e;exact .inr ⟨hj,e⟩
 have old:∀(j:Nat) (c:C) (b:Addr),ρ[j]? =some (some (.ow c))->σ[j]? =some (some (.ref b))->b≠a:=λj c b e e' z=>by
  obtain⟨u,h1,b',o,h2,h3,_⟩:=s.st.den j _ e;rw[h1] at e';cases e';cases h2;rw[z,n] at h3;cases h3
 refine⟨s.ext.trans E,⟨E.fh,λj sl e=>?_⟩,by simp[hle],λj c b e e'=>?_,λj k c c' b e1 e2 e3 e4=>?_⟩
 ·rcases get j sl e with⟨rfl,hi,rfl⟩ | ⟨hj,e⟩
  ·exact⟨.ref a,by rw[WC (by omega)],a,_,rfl,ho,nF,h⟩
  ·obtain⟨u,h1,h2⟩:=s.st.den j sl e;exact⟨u,by rw[Wt (Xp hj)];exact h1,h2.ext E⟩
 ·rcases get j _ e with⟨rfl,hi,_⟩ | ⟨hj,e⟩
  ·rw[WC (by omega)] at e';cases e';exact Same.free s.ext.hh n
  ·rw[Wt (Xp hj)] at e';exact s.own j c b e e'
 ·rcases get j _ e1 with⟨rfl,hi,_⟩ | ⟨hj,e1⟩
  ·rw[WC (by omega)] at e3;cases e3;rcases get k _ e2 with⟨rfl,_,_⟩ | ⟨hk,e2⟩
   ·rfl
   ·rw[Wt (Xp hk)] at e4;exact ac_ rfl (old k c' a e2 e4)
  ·rcases get k _ e2 with⟨RM,hi,_⟩ | ⟨hk,e2⟩
   ·rw[RM,WC (by omega)] at e4;cases e4;rw[Wt (Xp hj)] at e3;exact ac_ rfl (old j c a (by assumption) e3)
   ·rw[Wt (Xp hj)] at e3;rw[Wt (Xp hk)] at e4;exact s.sep j k c c' b e1 e2 e3 e4
def WPF.mono{K:Wm}(h:WPF K Xw F H m Q)(k:∀v H',Q v H'->Q' v H'):WPF K Xw F H m Q':=by
 match m,h with
 |none,h=>exact h
 |some (.ok d),h=>exact λa o H' F' e h1 h2 h3 h4=>k _ _ (h a o H' F' e h1 h2 h3 h4)
 |some (.ex n),h=>exact h
def WPF.ext{K:Wm}(e:Ext F H F1 H1)(h:WPF K Xw F H m Q):WPF K Xw F1 H1 m Q:=by
 match m,h with
 |none,h=>exact h
 |some (.ok d),h=>exact λa o H' F' e' h1 h2 h3 h4=>h a o H' F' (e.trans e') h1 h2 (Same.free e.hh h3) h4
 |some (.ex n),h=>exact λF2 H2 e2=>h F2 H2 (e.trans e2)
def WPF.bind{K:Wm}(h:WPF K Xw F H (m>>=k) Q):WP K Xw F H m λv H1=>∃F1 d,Ext F H F1 H1/\Den K F1 d v/\WPF K Xw F1 H1 (k d) Q:=by
 match m,h with
 |none,h=>exact h
 |some (.ok d),h=>exact λv H2 F2 e2 q=>⟨F2,d,e2,q,WPF.ext e2 (show WPF K Xw F H (k d) Q from h)⟩
 |some (.ex n),h=>exact h
def LM(a b:DF):DF:=λρ=>orM (a ρ) (b ρ)
section
variable{X:Cx}{Xw:Nat->Hp->Prop}{e k v a b:Expr}{es:List Expr}{δ δ':DF}{pos pos':Pos}{x:Str}{i:Nat}
def JS(h:NJ X Xw e δ)(h':NJ X Xw e δ'):NJ X Xw e (LM δ δ'):=λf8 s σ H Q I ⟨F,ρ,S,w⟩=>by
 unfold LM orM at w;cases q:δ ρ with
 |none=>rw[q] at w;exact h' f8 s σ H Q I ⟨F,ρ,S,w⟩
 |some r=>rw[q] at w;exact h f8 s σ H Q I ⟨F,ρ,S,by rw[q];exact w⟩
def y8(hN:X.N.Nodup)(hi:X.N[i]? =some x)(hx:Loc X.env.scope x)(he:NJ X Xw e δ)(hf:X.fn x=true\/X.env.scope.names.lookup x=some .local:=by first | exact .inl rfl | exact .inr rfl)
 (hs:aa5 [.Name x pos'] e pos.line X.env=pure false:=by rfl):
 iR X Xw (.Assign [.Name x pos'] e pos) (CW i δ):=λs0 adf=>PS.weak (rZ he (a8 hN hi hx hf) hs) λD σ H ⟨F,ρ,s,w⟩=>by
 refine⟨F,ρ,s.st,?_⟩;unfold CW at w
 match δ ρ,w with
 |none,w=>exact w
 |some (.ok c),w=>exact λa o H' F' E h1 h2 h3 h4=>w _ F' H' (s.setFresh E h1 h2 h3 h4)
 |some (.ex n),w=>exact λF' H' e'=>w F' H' (s.ext.trans e')
def Oj{a:Addr}{y v:V}(hu:A.units+1<cLine)(I:Inv X f8 σ H s)(g:DPut H a y v H')(ry:RelV y u)(rv:RelV v r)(h:∀s',Inv X f8 σ H' s'->Q () s'):
 wpAny (model X.prog X.w) A (dictSet a u r) Q E s:=by
 rcases g with⟨aB,k,e,ey,l,eH⟩ | ⟨aB,k,b,e,ey,eb,l,eH⟩
 ·subst ey eH;obtain⟨z,hd,vs,rel,dd⟩:=KP I.hok e;have hz:vs.length<=Ww:=by rw[<-rel.length];exact z
  have hl:(putK aB k v).length<=Ww:=by have:=fK aB k v;omega
  refine wpAny_dictSet_pairs (oJ ry) dd λh' Fi hs=>h _ ?_;have he:∃q,h'.get? a=some q:=let ⟨q,_,_,hq,_⟩:=Fi;⟨q,hq⟩
  exact l6 I (by rw[e];exact Yv) hs he (Fo hl hd (rel.put k rv) Fi)
 ·subst ey eH;cases (show u=Wy b from ry);obtain⟨z,hd,xs,rel,dd⟩:=Fp I.hok e;have hz:xs.length<=Ww:=by rw[<-Yd rel];exact z
  have hl:(putK aB k v).length<=Ww:=by have:=fK aB k v;omega
  refine wpAny_dictSet_heap (by exact(show A.units<cLine by omega)) (jL I.hok eb) dd λh' Fi hs=>h _ ?_;obtain⟨q,es,ep,hq,h2,h3,h4,_,h5⟩:=Fi;refine l6 I (by rw[e];exact Yv) hs ⟨q,hq⟩ ⟨hl,hd,_,(rel.put k eb rv).keeps λc ys ec=>?_,q,es,ep,hq,h2,h3,h4,h5⟩;rw[aA (Gz ec e (λz=>nomatch z))];exact ec
end
section
variable{X:Cx}{Xw:Nat->Hp->Prop}{e k v a b:Expr}{es:List Expr}{δk δv δa δb:DE}{pos p:Pos}{x:Str}{i:Nat}
def xM(hu:X.A.units+1<cLine)(h0:∀(H:Hp) (h:Heap),XM<h.objs.size->ObjOk X.prog X.w H (h.push {cls:= .type "dict",data:= .dict #[]}) h.objs.size o0)(hk:PE X k tk)(hv:PE X v tv):
 PE X (.Dict [some k] [v] pos) (λσ H Q=>∀p,H p=none->tk σ (upd H p o0) λy H1=>tv σ H1 λz H2=>∃H3,DPut H2 p y z H3/\Q (.ref p) H3):=by
 intro f8 s σ H Q I q;have hn:=I.hok.fresh (Wg s.heap.objs.size);have I1:=I.laid (t':=s.toks) (λ_ _ q=>V7 _ q) (Wg _) (h0 _ s.heap I.big);refine wpAny_Dict_any rfl rfl (by simp) (by simp) (cp (Ha hk hv J2 f8 _ σ _ (λps H2=>∃y z H3,ps=[(y,z)]/\DPut H2 s.heap.objs.size y z H3/\Q (.ref s.heap.objs.size) H3) I1 ?_) λws s2 ⟨ps,H2,I2,rel,y,z,H3,ep,g,q2⟩=>?_)
 ·refine ?_;have:=q _ hn;show tk σ _ λy H1=>tv σ H1 λz H2=>∃y' z' H3,[(y,z)]=[(y',z')]/\DPut H2 s.heap.objs.size y' z' H3/\Q (.ref s.heap.objs.size) H3;have e:(λ(y:V) (H1:Hp)=>tv σ H1 λz H2=>∃y' z' H3,[(y,z)]=[(y',z')]/\DPut H2 s.heap.objs.size y' z' H3/\Q (.ref s.heap.objs.size) H3)=(λy H1=>tv σ H1 λz H2=>∃H3,DPut H2 s.heap.objs.size y z H3/\Q (.ref s.heap.objs.size) H3):=by
   funext y H1;congr 1;funext z H2;refine propext ⟨λ⟨y',z',H3,ee,r⟩=>?_,λ⟨H3,r⟩=>⟨y,z,H3,rfl,r⟩⟩;cases ee;exact⟨H3,r⟩
  rw[e];exact this
 ·subst ep;cases rel with
  | @cons a b as bs h t=>
    cases t;obtain⟨r1,r2⟩:=h;unfold storeAll;rw[abg];refine V4 (V4 (Oj hu I2 g r1 r2 λs3 I3=>?_));refine V9 ?_;show wpAny _ _ (forIn ([]:List (Value×Value)) Za _) _ _ _;rw[List.forIn_nil];exact V9 ⟨V.ref s.heap.objs.size,_,I3,rfl,q2⟩
def qp(k v:D):M C:=match fe k with
 |some kk=>ab (.dct [kk] [v])
 |none=>ag
def tX(k v:D):M C:=match vF k with
 |some kk=>ab (.dci [kk] [v])
 |none=>ag
def uM(hu:X.A.units+64<cLine)(hk:PD X Xw k δk)(hv:PD X Xw v δv):NJ X Xw (.Dict [some k] [v] pos) (λρ=>δk ρ>>=λx=>δv ρ>>=λy=>qp x y):=
 PE.weak (xM (o0:= .dT []) (by omega) (λH h hb=>xO h hb) hk hv) λσ H Q ⟨F,ρ,s,w⟩ q hq=>by
  have e0:=Ext.free (o:= .dT []) s.fh hq;refine⟨F,ρ,s.ext e0,?_⟩;have w:WPF X.K Xw F H (δk ρ>>=λx=>δv ρ>>=λy=>qp x y) Q:=w
  match sT:δk ρ,w with
  |none,w=>exact w
  |some (.ex n),w=>exact λF' H' e'=>w F' H' (e0.trans e')
  |some (.ok kd),w=>
   intro y H1 F1 e1 q1;refine⟨F1,ρ,(s.ext e0).ext e1,?_⟩;have w:WPF X.K Xw F H (δv ρ>>=λy=>qp kd y) Q:=w
   match NX:δv ρ,w with
   |none,w=>exact w
   |some (.ex n),w=>exact λF' H' e'=>w F' H' (e0.trans (e1.trans e'))
   |some (.ok vd),w=>
    intro z H2 F2 e2 q2;have w3:WPF X.K Xw F H (qp kd vd) Q:=w;clear w;unfold qp at w3;cases zX:fe kd with
    |none=>rw[zX] at w3;exact w3.elim
    |some kk=>
     rw[zX] at w3;have E:=e1.trans e2;have O4:H2 q=some (.dT []):=E.hh _ _ aK;have OA:F2 q=none:=by
      have:=E.old aK (λ_ z=>nomatch z);rw[this];exact Same.free s.fh hq
     unfold fe at zX;split at zX
     ·rename_i es;obtain⟨b,ws,rfl,k2,k3,_⟩:=Den.mono e2.ff q1;have e5:=jK zX k3;subst e5;refine⟨_,DPut.t O4 (e2.fh _ _ k2) (by rw[XH];decide),?_⟩;refine w3 q (.dT (putK [] kk z)) _ F2 ⟨λc u hc=>?_,(e0.trans E).ff,λc u hc=>?_,(e0.trans E).new⟩ aK OA hq ⟨[z],rfl, .cons q2 .nil,rfl,show 1<=lim by decide⟩
      ·rw[aA (λzz=>by rw[zz,hq] at hc;cases hc)];exact(e0.trans E).hh c u hc
      ·rw[aA (λzz=>by rw[zz,OA] at hc;cases hc)];exact e2.fh c u hc
     ·cases zX
def Ek(hu:X.A.units+64<cLine)(hk:PD X Xw k δk)(hv:PD X Xw v δv):NJ X Xw (.Dict [some k] [v] pos) (λρ=>δk ρ>>=λx=>δv ρ>>=λy=>tX x y):=
 PE.weak (xM (o0:= .dK []) (by omega) (λH h hb=>Fm h hb) hk hv) λσ H Q ⟨F,ρ,s,w⟩ q hq=>by
  have e0:=Ext.free (o:= .dK []) s.fh hq;refine⟨F,ρ,s.ext e0,?_⟩;have w:WPF X.K Xw F H (δk ρ>>=λx=>δv ρ>>=λy=>tX x y) Q:=w
  match sT:δk ρ,w with
  |none,w=>exact w
  |some (.ex n),w=>exact λF' H' e'=>w F' H' (e0.trans e')
  |some (.ok kd),w=>
   intro y H1 F1 e1 q1;refine⟨F1,ρ,(s.ext e0).ext e1,?_⟩;have w:WPF X.K Xw F H (δv ρ>>=λy=>tX kd y) Q:=w
   match NX:δv ρ,w with
   |none,w=>exact w
   |some (.ex n),w=>exact λF' H' e'=>w F' H' (e0.trans (e1.trans e'))
   |some (.ok vd),w=>
    intro z H2 F2 e2 q2;have w3:WPF X.K Xw F H (tX kd vd) Q:=w;clear w;unfold tX at w3;cases zX:vF kd with
    |none=>rw[zX] at w3;exact w3.elim
    |some kk=>
     rw[zX] at w3;have E:=e1.trans e2;have O4:H2 q=some (.dK []):=E.hh _ _ aK;have OA:F2 q=none:=by
      have:=E.old aK (λ_ z=>nomatch z);rw[this];exact Same.free s.fh hq
     have e5:=mj zX (Den.mono e2.ff q1);subst e5;refine⟨_,DPut.k O4 (by rw[XH];decide),?_⟩;refine w3 q (.dK (putK [] kk z)) _ F2 ⟨λc u hc=>?_,(e0.trans E).ff,λc u hc=>?_,(e0.trans E).new⟩ aK OA hq ⟨[z],rfl, .cons q2 .nil,rfl,show 1<=lim by decide⟩
     ·rw[aA (λzz=>by rw[zz,hq] at hc;cases hc)];exact(e0.trans E).hh c u hc
     ·rw[aA (λzz=>by rw[zz,OA] at hc;cases hc)];exact e2.fh c u hc
def u9{K:Wm}{d k:D}{x y:V}(s:Same F H)(hd:Den K F d x)(hk:Den K F k y)(e:EN d k=some o):
 ∃a ov,x= .ref a/\lq H a y ov/\ov.isSome=o.isSome/\∀d',o=some d'->∃v,ov=some v/\Den K F d' v:=by
 obtain⟨a,ov,h1,h2,h3,h4⟩:=BO (σ:=[some x]) (ρ:=[some (.fz d)]) (i:=0) ⟨s,λi sl q=>by
  match i,q with
  |0,q=>cases q;exact⟨x,rfl,hd⟩
  |i+1,q=>simp at q⟩ rfl hk e
 cases h1;exact⟨a,ov,rfl,h2,h3,h4⟩
def g_(neg:Bool)(k d:D):M D:=match EN d k with
 |some o=>ab (.bl (if neg then !o.isSome else o.isSome))
 |none=>ag
def Nk(neg:Bool):R2:=λy x H Q=>∃a o,x= .ref a/\lq H a y o/\Q (.bl (if neg then !o.isSome else o.isSome)) H
def MF(hu:X.A.units+64<cLine):OpR X (Xd .In) (Nk false):=λf8 s σ H y x v u Q I ry rx ⟨a,o,ex,g,q⟩=>by
 subst ex;obtain rfl:u=Wy a:=rx;exact Oi (by omega) I g ry λs' I'=>⟨.bl o.isSome,_,I',rfl,q⟩
def Eh(hu:X.A.units+64<cLine):OpR X (Xd .NotIn) (Nk true):=λf8 s σ H y x v u Q I ry rx ⟨a,o,ex,g,q⟩=>by
 subst ex;obtain rfl:u=Wy a:=rx;exact II (by omega) I g ry λs' I'=>⟨.bl (!o.isSome),_,I',rfl,q⟩
def CD{K:Wm}:zV K (Nk neg) (g_ neg):=λXw F H y x dk dd Q s hk hd w=>by
 unfold g_ at w;cases he:EN dd dk with
 |none=>rw[he] at w;exact w.elim
 |some o=>
  rw[he] at w;obtain⟨a,ov,h1,h2,h3,_⟩:=u9 s hd hk he;refine⟨a,ov,h1,h2,?_⟩;rw[h3];exact WP.now w s rfl
def He(hu:X.A.units+64<cLine)(ha:PD X Xw a δa)(hb:PD X Xw b δb)(hm:Xq .In b=false:=by rfl):pF X Xw (.Compare a [.In] [b] pos) (dN (d2 (g_ false) δa δb)):=f9 (MF hu) CD ha hb hm
def iJ(hu:X.A.units+64<cLine)(ha:PD X Xw a δa)(hb:PD X Xw b δb)(hm:Xq .NotIn b=false:=by rfl):pF X Xw (.Compare a [.NotIn] [b] pos) (dN (d2 (g_ true) δa δb)):=f9 (Eh hu) CD ha hb hm
def iZ(d k:D):M D:=match EN d k with
 |some (some v)=>ab v
 |_=>ag
def lM(hu:X.A.units+64<cLine)(ha:PD X Xw a δa)(hb:PD X Xw b δb)(hs:Lm b:=by intro _ _;rfl):PD X Xw (.Subscript a b pos) (d2 iZ δa δb):=
 PE.weak (JY (by omega) ha hb hs) λσ H Q ⟨F,ρ,s,w⟩=>by
  refine⟨F,ρ,s,WP.mono (WP.bind w) λx H1 ⟨F1,d,e1,q1,w1⟩=>?_⟩;refine⟨F1,ρ,s.ext e1,WP.mono (WP.bind w1) λy H2 ⟨F2,k,e2,q2,w2⟩=>?_⟩;unfold iZ at w2;cases he:EN d k with
  |none=>rw[he] at w2;exact w2.elim
  |some o=>
   cases o with
   |none=>rw[he] at w2;exact w2.elim
   |some d'=>
    rw[he] at w2;obtain⟨a,ov,h1,h2,h3,h4⟩:=u9 e2.fh (Den.mono e2.ff q1) q2 he;obtain⟨v,rfl,hd⟩:=h4 d' rfl;exact⟨a,v,h1,h2,WP.now w2 e2.fh hd⟩
end
section
variable{X:Cx}{f8:List (Addr×Obj)}{σ:St}{H:Hp}{s:We}{h':Heap}
def Inv.turnedLaid{ch:List Addr}(I:Inv X f8 σ H s)(k:∀b q,b∉ch->s.heap.get? b=some q->h'.get? b=some q)(hf:∀b∈ch,sM X f8 H b)(hp:s.heap.objs.size<=a)(new:ObjOk X.prog X.w (upd H a o) h' a o):
 Inv X f8 σ (upd H a o) {s with heap:=h',toks:=t'}:=by
 have hn:=I.hok.fresh hp;have K6:∀b u,H b=some u->b∉ch:=λb u e z=>by rw[(hf b z).1] at e;cases e
 refine I.step (λb hb=>?_) (λb q _ _ hc e _=>k b q hc e) (λb q _ _ hc e _=>⟨q.slots,k b q hc e⟩) (λb q hc e n=>?_)
  (λb q hc e=>⟨q,k b q hc e⟩) (λb xs e=>?_) (λb q u e=>?_) (λb ps e=>⟨#[],?_⟩) (λm hm=>?_) (λb u e=>?_) I.bare
 ·obtain⟨f0,f1,f2,f3,f4,f5⟩:=hf b hb;exact⟨f3,f1,f4,f5⟩
 ·rw[aA (λz=>by rw[z] at e;exact ac_ (Wi e) (Nat.not_lt.mpr hp))];exact n
 ·rw[aA (bG e hn)];exact e
 ·rw[aA (bG e hn)];exact e
 ·rw[aA (bG e hn),e];simp
 ·obtain⟨q,es,ep,ho,r⟩:=hm;exact⟨q,es,ep,k _ q (λz=>(hf _ z).2.1 rfl) ho,r⟩
 ·by_cases hb:b=a
  ·subst hb;rw[aK] at e;cases e;exact new
  ·rw[aA hb] at e;refine(I.hok b u e).stay (λc v hc q=>k c v ?_ q) (λc q=>by rw[aA (bG q hn)];exact q) λc xs q=>by rw[aA (bG q hn)];exact q
   rcases hc with z | z
   ·rw[z];exact K6 b u e
   ·exact K6 c _ z
def Inv.turnedL{ch:List Addr}(I:Inv X f8 σ H s)(k:∀b q,b∉ch->s.heap.get? b=some q->h'.get? b=some q)(hf:∀b∈ch,sM X f8 H b):Inv X f8 σ H {s with heap:=h',toks:=t'}:=by
 have K6:∀b u,H b=some u->b∉ch:=λb u e z=>by rw[(hf b z).1] at e;cases e
 refine I.step (λb hb=>?_) (λb q _ _ hc e _=>k b q hc e) (λb q _ _ hc e _=>⟨q.slots,k b q hc e⟩) (λb q hc e n=>n)
  (λb q hc e=>⟨q,k b q hc e⟩) (λb xs e=>e) (λb q u e=>e) (λb ps e=>⟨#[],by rw[e];simp⟩) (λm hm=>?_) (λb u e=>?_) I.bare
 ·obtain⟨f0,f1,f2,f3,f4,f5⟩:=hf b hb;exact⟨f3,f1,f4,f5⟩
 ·obtain⟨q,es,ep,ho,r⟩:=hm;exact⟨q,es,ep,k _ q (λz=>(hf _ z).2.1 rfl) ho,r⟩
 ·refine(I.hok b u e).stay (λc v hc q=>k c v ?_ q) (λc q=>q) λc xs q=>q;rcases hc with z | z
  ·rw[z];exact K6 b u e
  ·exact K6 c _ z
end
def S8(K:Wm)(a:Addr):It:=
 ⟨λi H=>∃xs x,SqL K H a xs/\xs[i]? =some x,λi H x H'=>∃p,x= .ref p/\H p=none/\∃v,(∀xs,SqL K H a xs->xs[i]? =some v)/\H'=upd H p (.tup [.int (i:Int),v]),λi H=>∃xs,SqL K H a xs/\xs.length<=i⟩
def EE{K:Wm}(l e it:Addr)(TM:e≠it):
 Turn P w K (.Tuple es x1 tp) (S8 K l) [e,it] e (λi h=>∃old,IsEnum h e it (i:Int) old/\h.IsListIter it l i) where
 mem:=by simp
 obj:=λi h ⟨old,HN,Bq⟩ b hb=>by
  rcases Ws.mp hb with z | z
  ·subst z;exact⟨_,HN,λv z=>nomatch z⟩
  ·have z:b=it:=by simpa using z
   subst z;obtain⟨o,e1,c,d⟩:=Bq;exact⟨o,e1,λv z=>by rw[d] at z;cases z⟩
 keep:=λi h h' ⟨old,HN,Bq⟩ k=>⟨old,k e (by simp) _ HN,Bq.at λo q=>k it (by simp) o q⟩
 item:=by
  intro X hP hw hK hc i f8 s σ H E I hf st hg;subst hP hw hK;obtain⟨old,HN,Bq⟩:=st;obtain⟨xs,x,hq,hx⟩:=hg;obtain⟨aL,rv,p,hz⟩:=I.list hq;obtain⟨u,hu,ru⟩:=rv.get hx;refine wpAny_pyNext_enum_item HN Bq p.isList (by simpa using hu) TM λh1 k1 k2 k3 k4 k5=>?_;refine⟨_,rfl,wpAny_letOwnedTupleGo_enum k1 λh2 m1 m2=>?_⟩;have jI:s.heap.objs.size≠e:=Xm (Wi HN);have S1:h2.get? s.heap.objs.size=some {cls:= .type "tuple",data:= .seq #[.int i s.toks,u]}:=(m2.2 _ jI).trans k3;have keep:∀b q,b∉[e,it]->s.heap.get? b=some q->h2.get? b=some q:=λb q hb e1=>by
   have TC:b≠e:=λz=>hb (by simp[z]);have Rx:b≠it:=λz=>hb (by simp[z]);exact(m2.2 b TC).trans (k5 b q TC Rx e1)
  have I2:Inv X f8 σ (upd H s.heap.objs.size (.tup [.int (i:Int),x])) {s with heap:=h2,toks:=s.toks+1}:=by
   refine Inv.turnedLaid I keep hf (Wg _) ⟨?_,[.int i s.toks,u], .cons ⟨_,rfl⟩ (.cons ru .nil),_,S1,rfl,_,rfl⟩;rw[XH];show 2<=_;decide
  refine⟨.ref s.heap.objs.size,_,I2,rfl,⟨_,rfl,I.hok.fresh (Wg _),x,λys hy=>by rw[I.list_inj hy hq];exact hx,rfl⟩,⟨u,?_,?_⟩,λb hb=>?_⟩
  ·have:((i+1:Nat):Int)=(i:Int)+1:=by push_cast;rfl
   rw[this];exact m1
  ·exact k2.at λo q=>(m2.2 it (Xp TM)).trans q
  ·rw[aA (λz=>by
    rcases Ws.mp hb with y | y
    ·exact ac_ (Wi HN) (by rw[<-y,z];exact W4 _)
    ·have y:b=it:=by simpa using y
     obtain⟨o,q1,_⟩:=id Bq;exact ac_ (Wi q1) (by rw[<-y,z];exact W4 _))]
   exact(hf b hb).1
 done:=by
  intro X hP hw hK hc i f8 s σ H E I hf st hg;subst hP hw hK;obtain⟨old,HN,Bq⟩:=st;obtain⟨xs,hq,hx⟩:=hg;obtain⟨aL,rv,p,hz⟩:=I.list hq;have hl:=rv.length;exact wpAny_pyNext_enum_end (I.ok.hd hc) HN Bq p.isList (by simp;omega) λh' eb=>⟨rfl,Inv.turnedL I (λb q hb e1=>eb b q (λz=>hb (by simp[z])) e1) λb hb=>hf b (V8 _ hb)⟩
 self:=λA i s Q E st h=>by
  obtain⟨old,HN,Bq⟩:=st;exact wpAny_pyIter_enum HN h
def Gb{K:Wm}{F:Hp}(h:SqL K F a vs)(hd:DenL K F ds vs):ItD K F (S8 K a) (ds.mapIdx λi d=> .tup [.int (i:Int),d]):=λF' H' i s1 s2=>by
 have hs:=Same.seq s2 (Same.seq s1 h);refine⟨λd e=>?_,λhl=>⟨vs,hs,by rw[List.length_mapIdx,hd.len] at hl;exact hl⟩⟩;rw[aco] at e;cases q:ds[i]? with
 |none=>rw[q] at e;cases e
 |some d0=>
  rw[q] at e;cases e;obtain⟨v,e1,q1⟩:=hd.get q;refine⟨⟨vs,v,hs,e1⟩,λx H'' ⟨p,y1,y2,u,y3,y4⟩=>?_⟩;subst y1 y4;have:=y3 vs hs;rw[e1] at this;cases this;have E:=Ext.lay (o:= .tup [.int (i:Int),v]) s2 y2;exact⟨_,E,p,_,rfl,aK, .cons rfl (.cons (Den.mono E.ff (Den.mono s1 q1)) .nil),by show 2<=lim;decide⟩
section
variable{X:Cx}{Xw:Nat->Hp->Prop}{e:Expr}{es:List Expr}{δs:DA}{pos p tp:Pos}{x1:Nat}
def qr:List D->M (List D)
 |[.lst ds]=>ab (ds.mapIdx λi d=> .tup [.int (i:Int),d])
 |_=>ag
def rT(hg:Gl X "enumerate")(hm:X.mg "enumerate"=none)(ha:lr X Xw [e] δs)(hs:Wv [e] X.env=[(false,eval e X.env)]:=by rfl):zZ X Xw (.Tuple es x1 tp) (.Call (.Name "enumerate" p) [e] [] pos) (λρ=>δs ρ>>=qr):=by
 intro f8 s σ H R I ⟨F,ρ,S,w⟩;refine Call_ (jM I hg hm (show WV "enumerate"=some (.type "enumerate") from rfl) (X2 (cp (ha pos f8 s σ H (λvs H1=>∃F1 ds,Ext F H F1 H1/\DenL X.K F1 ds vs/\WPI X.K Xw F1 H1 (qr ds) R) I ⟨F,ρ,S,WPI.bindL w⟩) λus s1 ⟨vs,H1,I1,r1,F1,ds,e1,q1,w1⟩=>?_) hs rfl));unfold qr at w1;split at w1
 ·rename_i ds;obtain⟨v,rfl,h1⟩:=q1.one;obtain⟨a,xs,rfl,h2,h3,h4⟩:=h1;obtain⟨u,rfl,r2⟩:=r1.one;cases (show u=_ from r2);obtain⟨aL,rv,pl,hz⟩:=I1.list (SqL.of (K:=X.K) (e1.fh _ _ h2));refine call_enumerate_list pl.isList λh' k1 k2 k3 k4=>?_;refine wpAny_pyIter_enum k1 ?_;refine⟨s1.heap.objs.size+1,[s1.heap.objs.size+1,s1.heap.objs.size],_,_,H1,rfl,I1.kept λb o e=>k4 b o e,EE a _ _ (Xm (abb _)),⟨.none,k1,k2⟩,λb hb=>?_,w1 _ _ _ (Ext.refl e1.fh) (Gb (SqL.of h2) h3)⟩;have e:s1.heap.objs.size<=b:=by
   rcases Ws.mp hb with z | z
   ·rw[z];exact ZX _
   ·have z:b=s1.heap.objs.size:=by simpa using z
    rw[z];exact Wg _
  exact I1.fpOk e (I1.hok.fresh e)
 ·exact w1.elim
end
def Jn:Key->D
 | .inl i=> .int i
 | .inr x=> .str x
def Kz(H:Hp)(d:Addr)(od:Obj)(i:Nat)(x:V):Prop:=
 (∃aB k b,H d=some (.frz od (.dT aB))/\(aB.map (·.1))[i]? =some k/\x= .ref b/\H b=some (.tup (k.map kV)))\/
 ∃aB k,H d=some (.frz od (.dK aB))/\(aB.map (·.1))[i]? =some k/\x=kV k
def S7(d:Addr)(od:Obj):It:=
 ⟨λi H=>(∃aB,H d=some (.frz od (.dT aB))/\i<aB.length)\/∃aB,H d=some (.frz od (.dK aB))/\i<aB.length,λi H x H'=>H'=H/\Kz H d od i x,
  λi H=>(∃aB,H d=some (.frz od (.dT aB))/\aB.length<=i)\/∃aB,H d=some (.frz od (.dK aB))/\aB.length<=i⟩
def pd{R:α->β->Prop}(h:∀a b,R a b->f a=g b):∀{l:List α}{m:List β},aba R l m->l.map f=m.map g
 |_,_, .nil=>rfl
 |_,_, .cons r t=>by rw[Wb,Wb,h _ _ r,pd h t]
def jc:∀{l:List α}{m:List β}{i:Nat}{a:α},aba R l m->l[i]? =some a->∃b,m[i]? =some b/\R a b
 |_,_,i,_, .nil,e=>by simp at e
 |_,_,0,_, .cons r t,e=>by simp at e;subst e;exact⟨_,rfl,r⟩
 |_,_,i+1,_, .cons r t,e=>by
  obtain⟨b,e1,e2⟩:=jc t (by simpa using e);exact⟨b,by simpa using e1,e2⟩
def Ej{w:World}{κ:Type}[DecidableEq κ]{knd:KeyKind prog w κ}:∀{es:List XS}{aB:List (κ×Value)}{i:Nat}{kv:κ×Value},Pairs knd es aB->aB[i]? =some kv->∃e,es[i]? =some e/\knd.is kv.1 e.key=true:=by
 intro es aB i kv h e;induction h generalizing i with
 |nil=>simp at e
 | @cons en V2 NO VD h1 h2 h3 ih=>
   cases i with
   |zero=>simp at e;subst e;exact⟨en,rfl,h1⟩
   |succ i=>
    obtain⟨q,e1,e2⟩:=ih (by simpa using e);exact⟨q,by simpa using e1,e2⟩
def Mn(h:qR k u=true):RelV (kV k) u:=by
 rcases cb h with⟨i,t,rfl,rfl⟩ | ⟨x,t,rfl,rfl⟩
 ·exact⟨t,rfl⟩
 ·exact⟨t,rfl⟩
def qo{σ:St}{H:Hp}(I:Inv X f8 σ H s)
 (h:(∃aB,H d=some (.frz od (.dT aB))/\n=aB.length)\/∃aB,H d=some (.frz od (.dK aB))/\n=aB.length):
 ∃es ep,(d==XM)=false/\s.heap.get? d=some od/\od.ExactDict/\od.data= .dict es ep/\es.size=n/\∀i,i<n->∃e x,es[i]? =some e/\RelV x e.key/\Kz H d od i x:=by
 rcases h with⟨aB,e,rfl⟩ | ⟨aB,e,rfl⟩
 ·obtain⟨ho,z,lo,xs,rel,o,es,ep,h1,h2,h3,h4,h5⟩:=(show ObjOk X.prog X.w H s.heap d (.frz od (.dT aB)) from I.hok d _ e)
  rw[ho] at h1;cases h1;have hl:es.size=aB.length:=by
   rw[<-Wn,h4,V5];exact(Yd rel).symm
  refine⟨es,ep,lo,ho,h2,h3,hl,λi hi=>?_⟩;obtain⟨q,e1,e2,e3,e4⟩:=jc rel (V6 hi);refine⟨abq (YE (bD X.prog X.w)) q, .ref q.2.1,?_,rfl, .inl ⟨aB,aB[i].1,q.2.1,e,?_,rfl,e3⟩⟩
  ·rw[<-XF,h4,Wj,e1];rfl
  ·rw[Wj,V6 hi];rfl
 ·obtain⟨ho,z,lo,vs,rel,o,es,ep,h1,h2,h3,h4,h5,h6⟩:=(show ObjOk X.prog X.w H s.heap d (.frz od (.dK aB)) from I.hok d _ e)
  rw[ho] at h1;cases h1;have hl:es.size=aB.length:=by
   rw[<-Wn,h5.length];exact(Yd rel).symm
  refine⟨es,ep,lo,ho,h2,h3,hl,λi hi=>?_⟩;obtain⟨q,e1,e2,e3⟩:=jc rel (V6 hi);obtain⟨en,e4,e5⟩:=Ej h5 e1;refine⟨en,kV aB[i].1,by rw[<-XF];exact e4,?_, .inr ⟨aB,aB[i].1,e,by rw[Wj,V6 hi];rfl,rfl⟩⟩;rw[e2];exact Mn e5
def EG{K:Wm}(d it:Addr)(od:Obj)(es:Array XS)(ep:Nat)(gU:od.data= .dict es ep):
 Turn P w K tg (S7 d od) [it] it (λi h=>h.IsKeyIter it d i es.size ep) where
 mem:=by simp
 obj:=λi h st b hb=>by
  have e:b=it:=by simpa using hb
  subst e;obtain⟨o,e,c,dd⟩:=st;exact⟨o,e,λv z=>by rw[dd] at z;cases z⟩
 keep:=λi h h' st k=>st.at λo e=>k it (by simp) o e
 item:=by
  intro X hP hw hK hc i f8 s σ H E I hf st hg;subst hP hw hK;obtain⟨n,hn,hi⟩:∃n,((∃aB,H d=some (.frz od (.dT aB))/\n=aB.length)\/∃aB,H d=some (.frz od (.dK aB))/\n=aB.length)/\i<n:=by
   rcases hg with⟨aB,e,hi⟩ | ⟨aB,e,hi⟩
   ·exact⟨_, .inl ⟨aB,e,rfl⟩,hi⟩
   ·exact⟨_, .inr ⟨aB,e,rfl⟩,hi⟩
  obtain⟨NO,IQ,lo,ho,hx,xm,hsz,hk⟩:=qo I hn;rw[gU] at xm;cases xm;obtain⟨en,x,e1,rx,ka⟩:=hk i hi;obtain⟨f0,f1,f2,f3,f4,f5⟩:=hf it (by simp);refine yy st ho gU e1 λh' lX sb=>?_;have I1:Inv X f8 σ H {s with heap:=h'}:=I.turned (λb o hb e=>(sb.2 b hb).trans e) f0 f1 f3 f4 f5;obtain⟨o,e2,c,dd⟩:=id lX;exact⟨_,rfl,qA e2 c dd (by decide) ⟨x,H,I1,rx,⟨rfl,ka⟩,lX,λb hb=>(hf b hb).1⟩⟩
 done:=by
  intro X hP hw hK hc i f8 s σ H E I hf st hg;subst hP hw hK;obtain⟨n,hn,hi⟩:∃n,((∃aB,H d=some (.frz od (.dT aB))/\n=aB.length)\/∃aB,H d=some (.frz od (.dK aB))/\n=aB.length)/\n<=i:=by
   rcases hg with⟨aB,e,hi⟩ | ⟨aB,e,hi⟩
   ·exact⟨_, .inl ⟨aB,e,rfl⟩,hi⟩
   ·exact⟨_, .inr ⟨aB,e,rfl⟩,hi⟩
  obtain⟨NO,IQ,lo,ho,hx,xm,hsz,hk⟩:=qo I hn;rw[gU] at xm;cases xm;obtain⟨f0,f1,f2,f3,f4,f5⟩:=hf it (by simp);exact tY (I.ok.hd hc) st (by omega) ho gU λh' eb=>⟨rfl,I.turned (λb o hb e=>eb b o hb e) f0 f1 f3 f4 f5⟩
 self:=λ_ _ _ _ _ st h=>wpAny_pyIter_keyiter st h
def tupK(k:List Key):D:= .tup (k.map Jn)
def CC:Key->Bool
 | .inl _=>true
 | .inr x=>decide (x.length<=lim)
def ml:D->M (List D)
 | .dct ks _=>if ks.all (λk=>decide (k.length<=lim)&&k.all CC) then ab (ks.map tupK) else ag
 | .dci ks _=>if ks.all CC then ab (ks.map Jn) else ag
 |_=>ag
def yn{K:Wm}(h:CC k=true):Den K F (Jn k) (kV k):=by
 cases k with
 |inl i=>exact rfl
 |inr x=>exact⟨rfl,ac9 h⟩
def ug{K:Wm}:∀{k:List Key},k.all CC=true->DenL K F (k.map Jn) (k.map kV)
 |[],_=>rfl
 |x::k,h=>by
  rw[Zs,Wl] at h;exact .cons (yn h.1) (ug h.2)
def Gd{K:Wm}(hd:Den K F d (.ref a))(hF:∃u,F a=some (.frz ob u))(e:ml d=ab ds):ItD K F (S7 a ob) ds:=λF' H' i s1 s2=>by
 unfold ml at e;split at e
 ·rename_i ks es;split at e
  ·rename_i hok;obtain rfl:=f_ e;obtain⟨a',VF,vs,z,h2,h3,h4,h5⟩:=hd;cases z;obtain⟨u,hu⟩:=hF;rw[h2] at hu;cases hu;have hh:=s2 _ _ (s1 _ _ h2);have hz:=jt (b:=vs) (by rw[h4];exact h3.len);have hl:(ks.zip vs).length=ks.length:=by rw[<-V5,hz]
   refine⟨λd e=>?_,λhle=> .inl ⟨_,hh,by rw[hl];simpa using hle⟩⟩;rw[Wj] at e;cases q:ks[i]? with
   |none=>rw[q] at e;cases e
   |some k=>
    rw[q] at e;cases e;have hi:=(Wh.mp q).1;refine⟨.inl ⟨_,hh,by rw[hl];exact hi⟩,λx H'' ⟨y1,y2⟩=>?_⟩;subst y1;have hk:=WI.mp hok k (Wx q);rw[Wl] at hk;rcases y2 with⟨aB,k',b,q1,q2,rfl,q3⟩ | ⟨aB,k',q1,q2,rfl⟩
    ·rw[hh] at q1;cases q1;rw[hz,q] at q2;cases q2;have E:=Ext.tup s2 q3;exact⟨_,E,b,_,rfl,aK,ug hk.2,by rw[V5];exact ac9 hk.1⟩
    ·rw[hh] at q1;cases q1
  ·exact(gL e).elim
 ·rename_i ks es;split at e
  ·rename_i hok;obtain rfl:=f_ e;obtain⟨a',VF,vs,z,h2,h3,h4,h5⟩:=hd;cases z;obtain⟨u,hu⟩:=hF;rw[h2] at hu;cases hu;have hh:=s2 _ _ (s1 _ _ h2);have hz:=jt (b:=vs) (by rw[h4];exact h3.len);have hl:(ks.zip vs).length=ks.length:=by rw[<-V5,hz]
   refine⟨λd e=>?_,λhle=> .inr ⟨_,hh,by rw[hl];simpa using hle⟩⟩;rw[Wj] at e;cases q:ks[i]? with
   |none=>rw[q] at e;cases e
   |some k=>
    rw[q] at e;cases e;have hi:=(Wh.mp q).1;refine⟨.inr ⟨_,hh,by rw[hl];exact hi⟩,λx H'' ⟨y1,y2⟩=>?_⟩;subst y1;have hk:=WI.mp hok k (Wx q);rcases y2 with⟨aB,k',b,q1,q2,rfl,q3⟩ | ⟨aB,k',q1,q2,rfl⟩
    ·rw[hh] at q1;cases q1
    ·rw[hh] at q1;cases q1;rw[hz,q] at q2;cases q2;exact⟨F',Ext.refl s2,yn hk⟩
  ·exact(gL e).elim
 ·exact(gL e).elim
section
variable{X:Cx}{Xw:Nat->Hp->Prop}{tg l:Expr}{δ:DE}
def yY(h:PD X Xw l δ):zZ X Xw tg l (λρ=>δ ρ>>=ml):=by
 intro f8 s σ H R I ⟨F,ρ,S,w⟩;refine cp (h f8 s σ H (λv H1=>∃F1 d,Ext F H F1 H1/\Den X.K F1 d v/\WPI X.K Xw F1 H1 (ml d) R) I ⟨F,ρ,S,WPI.bind w⟩) λu s1 ⟨v,H1,I1,r1,F1,d,e1,q1,w1⟩=>?_;rcases(ml d).cs with z | ⟨n,z⟩ | ⟨ds,z⟩
 ·rw[z] at w1;exact w1.elim
 ·exfalso
  unfold ml at z;split at z
  ·split at z<;>cases z
  ·split at z<;>cases z
  ·cases z
 ·rw[z] at w1;obtain⟨a,ob,u',rfl,hF,hn⟩:∃a ob u',v= .ref a/\F1 a=some (.frz ob u')/\∃n,((∃aB,H1 a=some (.frz ob (.dT aB))/\n=aB.length)\/∃aB,H1 a=some (.frz ob (.dK aB))/\n=aB.length):=by
   unfold ml at z;split at z
   ·obtain⟨a,ob,vs,e,h2,_⟩:=q1;exact⟨a,ob,_,e,h2,_, .inl ⟨_,e1.fh _ _ h2,rfl⟩⟩
   ·obtain⟨a,ob,vs,e,h2,_⟩:=q1;exact⟨a,ob,_,e,h2,_, .inr ⟨_,e1.fh _ _ h2,rfl⟩⟩
   ·exact(gL z).elim
  obtain⟨n,hn⟩:=hn;cases (show u=_ from r1);obtain⟨es,ep,lo,ho,hx,hd,hsz,hk⟩:=qo I1 hn;refine uf lo ho hx hd ?_;refine⟨s1.heap.objs.size,[s1.heap.objs.size],_,_,H1,rfl,I1.kept (t':=s1.toks) λb o e=>V7 _ e,EG a _ ob es ep hd,⟨_,Wr _ rfl,rfl,rfl⟩,λb hb=>?_,w1 _ _ _ (Ext.refl e1.fh) (Gd q1 ⟨_,hF⟩ z)⟩;have e:b=s1.heap.objs.size:=by simpa using hb
  subst e;exact I1.fpOk (Wg _) (I1.hok.fresh (Wg _))
end
end L3
namespace L3
open PySem
section
variable{prog:WU}{w:World}{K:Type}[DecidableEq K]{knd:HeapKind prog w K}{A:Xf}{E:Value->We->Prop}{s:We}
def sm(hu:knd.room A)(Av:knd.is s.heap k a)(hm:s.heap.DictOfH knd d xs)(hsz:xs.length<=Ww)
 (hQ:∀h',h'.DictOfH knd d (aad xs k a v)->XB d s.heap h'->Q () {s with heap:=h'}):wpAny (model prog w) A (aa8 d (.ref a) (knd.hash k) v) Q E s:=by
 obtain⟨o,es,ep,ho,hc,hd,he,RK,hn⟩:=hm;unfold aa8;refine XQ (V4 (wpAny_dictFind_heap hu Av ho hd he RK hn (λFW=>?_) λj p hj=>?_))
 ·have e0:=atKey_none_of_get FW;have hz:es.size<=Ww:=by rw[ab3 he];exact hsz
  refine V4 (acr (wpAny_updateDictKeys ho hd (hQ _ ?_ (WE ..))));rw[storedH_new e0];refine⟨_,_,ep+1,Xs _ ho (aay (Zr hd _)),hc.mapDictKeys _,Zr hd _,by simp[he,abq],λx hx=>?_,?_⟩
  ·rcases WZ.mp hx with hx | hx
   ·exact knd.keeps (RK x hx) ho hd (WE ..)
   ·obtain rfl:x=(k,a,v):=by simpa using hx
    exact knd.keeps Av ho hd (WE ..)
  ·rw[Xk];refine XG.mpr ⟨hn,by simp,λx hx y hy z=>?_⟩;have hy:y=k:=by simpa using hy
   exact not_mem_keys_of_get FW (by rw[<-hy,<-z];exact hx)
 ·have e0:=atKey_of_get hn hj;refine V4 (acr (V4 (wpAny_updateDict ho hd (wpAny_point (hQ _ ?_ (WE ..))))));rw[storedH_old e0];refine⟨_,_,ep,Xs _ ho (aay (Obj.data_mapDict hd _)),hc.mapDict _,Obj.data_mapDict hd _,?_,λx hx=>?_,by rw[keys_map_putAt];exact hn⟩
  ·have:=modify_map_putAt (abq knd) (λe:XS=>{e with val:=v}) k v (λ_ _=>rfl) hn hj;rw[<-he] at this;obtain⟨l⟩:=es;simpa using this
  ·obtain⟨y,hy,rfl⟩:=Wc.mp hx;unfold putAt;split<;>exact knd.keeps (RK y hy) ho hd (WE ..)
def dI(xs ys:List (K×Addr×Value)):List (K×Addr×Value):=ys.foldl (λv0 y=>aad v0 y.1 y.2.1 y.2.2) xs
def zB(xs:List (K×Addr×Value))(k:K)(a:Addr)(v:Value):(aad xs k a v).length<=xs.length+1:=by
 unfold aad;split<;>simp
def oK:∀(ys xs:List (K×Addr×Value)),(dI xs ys).length<=xs.length+ys.length
 |[],xs=>Wg _
 |y::ys,xs=>by
  have h1:=oK ys (aad xs y.1 y.2.1 y.2.2);have h2:=zB xs y.1 y.2.1 y.2.2;show (dI (aad xs y.1 y.2.1 y.2.2) ys).length<=_;rw[Wf];omega
def vJ{xs ys:List (K×Addr×Value)}(h:ys[i]? =some y):dI xs (ys.take (i+1))=aad (dI xs (ys.take i)) y.1 y.2.1 y.2.2:=by
 rw[acZ,h];unfold dI;rw[List.foldl_append];rfl
def oM:∀(ys v0:List (K×Addr×Value)),((v0++ys).map (·.1)).Nodup->dI v0 ys=v0++ys
 |[],v0,_=>by simp[dI]
 |y::ys,v0,hn=>by
  show dI (aad v0 y.1 y.2.1 y.2.2) ys=_;have RP:y.1∉v0.map (·.1):=λh=>by
   rw[Xk] at hn;exact(XG.mp hn).2.2 _ h _ (by simp) rfl
  have e0:atKey v0 y.1=none:=atKey_none_of_get λj p hj=>RP (Wc.mpr ⟨_,Wx hj,rfl⟩);rw[storedH_new e0,oM ys (v0++[(y.1,y.2.1,y.2.2)]) (by simpa using hn)];simp
def vn{id:String}(ho:s.heap.get? o=some ob)(hd:ob.data= .dict es ep)
 (hq:∀e∈es.toList,∃a,e.key= .ref a/\s.TypeIs (.ref a) "tuple")(hh:∀e∈es.toList,(es.filter (·.hash==e.hash)).size<=1)(h:Q es s):wpAny (model prog w) A (aal id o) Q E s:=by
 unfold aal;refine V4 (Xo ho hd ?_);rw[<-Array.forIn_toList];refine V4 (abJ _ (λT0 _ s'=>s'=s/\∀e∈T0,e∈es.toList) _ ?_ ?_ _ _ ⟨rfl,λ_ h=>h⟩)
 ·rintro e T0 b s' ⟨rfl,hr⟩;obtain⟨a,ea,ta⟩:=hq e (hr e (V_ ..));have hf:=hh e (hr e (V_ ..));have fJ:¬((es.filter (·.hash==e.hash)).size>1):=by omega
  rw[ea];unfold Builtin.Dict.quietEq;refine V4 (V4 (Ze ta F.slot_tuple_eq.lookup (V9 ?_)));simp only[fJ,if_false];have:(some (Value.builtin "tuple.__eq__")==some (Value.builtin "object.__eq__"))=false:=by decide
  simp only[this,aam,if_true];exact V9 ⟨rfl,λx hx=>hr x (V8 _ hx)⟩
 ·rintro b s' ⟨rfl,_⟩;exact V9 h
def q9(hu:knd.room A)(TL:d≠o)(Vj:(o==XM)=false)(hd:s.heap.DictOfH knd d xs)(ho:s.heap.DictOfH knd o ys)
 (Vb:∀{h:Heap}{k:K}{a:Addr},knd.is h k a->∃ob,h.get? a=some ob/\ob.cls= .type "tuple")(hh:xs=[]->(ys.map λy=>knd.hash y.1).Nodup)(hsz:xs.length+ys.length<=Ww)
 (hQ:∀h',h'.DictOfH knd d (dI xs ys)->XB d s.heap h'->Q () {s with heap:=h'}):wpAny (model prog w) A (aaY nm d o) Q E s:=by
 obtain⟨od,Uz,Ux,me,zW,gU,UY,VZ,DK⟩:=id hd;obtain⟨oo,Ak,Uy,O3,VX,DI,EV,RJ,FW⟩:=id ho;have P3:=ab3 EV;unfold aaY;rw[ac6 (by simpa using TL)];unfold Yq;rw[ac6 (by rw[Vj];exact Wz)];refine V4 (V9 (V4 (Xo O3 DI ?_)));have loop:∀(body:Nat->PUnit->Sem (ForInStep PUnit)),body=(λi (_:PUnit)=>(do
       let l'<-dictEntries o
       match l'[i]? with
        |some e=>do
         holding [e.key,e.val] (aa8 d e.key e.hash e.val)
         let IQ<-dictEpoch o
         if (IQ !=Uy)=true then do (unsupported (toString nm++toString ":source-changed-during-callback"):Sem PUnit);pure (Xy Za) else pure (Xy Za)
        |_=>do
         (unsupported "internal:dict-merge":Sem PUnit)
         pure (Xy Za):Sem (ForInStep PUnit)))->wpAny (model prog w) A (forIn [:Ak.size] Za body) (λ_ s'=>Q () s') E s:=by
  rintro _ rfl;rw[Std.Legacy.Range.forIn_eq_forIn_range'];simp only[Std.Legacy.Range.size,Nat.sub_zero,Nat.add_sub_cancel,Nat.div_one];refine abJ _ (λT0 _ s'=>∃h' i,s'={s with heap:=h'}/\T0=Xr i (Ak.size - i)/\i<=Ak.size/\h'.DictOfH knd d (dI xs (ys.take i))/\h'.get? o=some oo/\XB d s.heap h') _ ?_ ?_ _ _
   ⟨s.heap,0,rfl,by simp,WQ _,by simpa[dI] using hd,O3,aab _ _⟩
  ·rintro x T0 b s' ⟨h',i,rfl,hr,hi,xm,L6,EW⟩;have fJ:i<Ak.size:=by
    by_cases h:i<Ak.size
    ·exact h
    ·rw[show Ak.size - i=0 by omega] at hr;simp at hr
   rw[show Ak.size - i=(Ak.size - (i+1))+1 by omega,ZY] at hr;injection hr with h1 h2
   subst h1;refine V4 (Xo L6 DI ?_);obtain⟨y,hy⟩:∃y,ys[x]? =some y:=⟨_,V6 (by omega)⟩
   rw[entry_at EV x,hy];have Vg:(dI xs (ys.take x)).length<=Ww:=by
    have e1:=oK (ys.take x) xs;rw[aa2] at e1;omega
   have Vc:knd.is h' y.1 y.2.1:=knd.keeps (RJ y (Wx hy)) me gU EW;refine V4 (XQ (sm hu Vc xm Vg λNP RA O9=>?_));have K2:NP.get? o=some oo:=(O9.2 o (Xp TL)).trans L6;refine V4 (Ye K2 DI ?_);rw[ac6 (by simp)];exact V9 ⟨NP,x+1,rfl,h2,fJ,by rw[vJ hy];exact RA,K2,EW.trans O9⟩
  ·rintro b s' ⟨h',i,rfl,hr,hi,xm,L6,EW⟩;have nI:i=Ak.size:=by
    by_cases h:i<Ak.size
    ·rw[show Ak.size - i=(Ak.size - (i+1))+1 by omega,ZY] at hr;exact nomatch hr
    ·omega
   refine hQ h' ?_ EW;rw[nI,P3,List.take_length] at xm;exact xm
 have go:wpAny (model prog w) A (do
  let Oo<-dictEpoch o
  let l<-dictEntries o
  forIn [:l.size] Za λi (_:PUnit)=>(do
   let l'<-dictEntries o
   match l'[i]? with
    |some e=>do
     holding [e.key,e.val] (aa8 d e.key e.hash e.val)
     let IQ<-dictEpoch o
     if (IQ !=Oo)=true then do (unsupported (toString nm++toString ":source-changed-during-callback"):Sem PUnit);pure (Xy Za) else pure (Xy Za)
    |_=>do
     (unsupported "internal:dict-merge":Sem PUnit)
     pure (Xy Za):Sem (ForInStep PUnit))
  pure ()) Q E s:=by
  refine V4 (Ye O3 DI (V4 (Xo O3 DI (V4 ?_))));exact Xz (loop _ rfl) (λ_ _ h=>V9 h) λ_ _ h=>h
 dsimp only
 split
 ·refine V4 (Xo me gU ?_);split
  ·rename_i RB;have Pe:xs=[]:=by
    have h0:Uz= #[]:=acT.mp RB;have:=ab3 UY;rw[h0] at this;exact Y3.mp (by simpa using this.symm)
   subst Pe;have Vh:=hh rfl;refine V4 (vn O3 DI (λe he=>?_) (λe he=>?_) ?_)
   ·rw[EV] at he;obtain⟨y,hy,rfl⟩:=Wc.mp he;obtain⟨ob,h1,h2⟩:=Vb (RJ y hy);exact⟨y.2.1,rfl,ob,h1,h2⟩
   ·have:(Ak.filter (·.hash==e.hash)).size=((ys.map λy=>knd.hash y.1).filter (· ==e.hash)).length:=by
     rw[<-Wn,Array.toList_filter,EV,aaa,aaa,V5,V5];rfl
    rw[this];have hc:=List.nodup_iff_count.mp Vh e.hash;rw[List.count_eq_countP,Xc] at hc;exact hc
   ·have hm:dI ([]:List (K×Addr×Value)) ys=ys:=by
     rw[oM ys [] (by simpa using FW)];rfl
    rw[hm] at hQ;split
    ·have Vs:Ak.size<=Ww+1:=by simp at hsz;omega
     refine V4 (wpAny_updateDictKeysTo me gU (V9 (hQ _ ⟨_,_,Ux+1,Xs _ me (aay (Zr gU _)),zW.mapDictKeys _,Zr gU _,EV,λx hx=>?_,FW⟩ (WE ..))) Vs);exact knd.keeps (RJ x hx) me gU (WE ..)
    ·rename_i jI;have h0:Ak= #[]:=acT.mp (by simpa using jI);have Ve:ys=[]:=Y3.mp (by rw[<-P3,h0];rfl);subst Ve;exact V9 (hQ _ hd (aab _ _))
  ·exact go
 ·exact go
end
end L3
namespace L3
open PySem PySem.Spec L2
open PyProof.Rows hiding St
def Ku(h1:(YE (bD P w)).is h k a):∃ob,h.get? a=some ob/\ob.cls= .type "tuple":=by
 obtain⟨ob,aL,n,q1,q2,_⟩:=h1;exact⟨ob,q1,q2⟩
def jQ(aB more:List (List Key×V)):List (List Key×V):=more.foldl (λv0 kv=>putK v0 kv.1 kv.2) aB
def Ct:∀{more:List (List Key×V)}{ys:List (List Key×Addr×Value)},KT H more ys->∀{aB:List (List Key×V)}{xs:List (List Key×Addr×Value)},KT H aB xs->KT H (jQ aB more) (dI xs ys)
 |_,_, .nil,_,_,q=>q
 |_,_, .cons h t,aB,xs,r=>by
  refine Ct t ?_;have:=KT.put r _ h.2.1 h.2.2;rw[h.1] at this;show KT H (putK aB _ _) (aad xs _ _ _);rw[h.1];exact this
def qU:∀(more aB:List (List Key×V)),(jQ aB more).length<=aB.length+more.length
 |[],aB=>Wg _
 |p::r,aB=>by
  have h1:=qU r (putK aB p.1 p.2);have h2:=fK aB p.1 p.2;show (jQ (putK aB p.1 p.2) r).length<=_;rw[Wf];omega
def gT(k:List Int):Int:=reduceHash (aaA (k.map hashInt))
def FO(k:List Int):(YE (bD P w)).hash (mi k)=gT k:=by
 show reduceHash (aaA ((mi k).map (Po w)))=_;unfold gT mi;rw[WA];rfl
section
variable{X:Cx}{f8:List (Addr×Obj)}{σ:St}{H:Hp}{s:We}{a b:Addr}{A:Xf}{E:Value->We->Prop}
def Fh{ks:List (List Int)}(hu:A.units+2<cLine)(I:Inv X f8 σ H s)(ha:H a=some (.dT aB))(hb:Rd H b (.dT more))(QJ:a≠b)(hk:more.map (·.1)=ks.map mi)
 (hh:aB=[]->(ks.map gT).Nodup)(hz:aB.length+more.length<=Ww)(h:∀s',Inv X f8 σ (upd H a (.dT (jQ aB more))) s'->Q .none s'):
 wpAny (model X.prog X.w) A (call (.builtin "dict.update") [.ref a, .ref b]) Q E s:=by
 obtain⟨z1,lo1,xs,Qg,Ti⟩:=Fp I.hok ha;obtain⟨z2,VE,ys,Kb,DC⟩:=l7 I.hok hb;have l1:=Yd Qg;have l2:=Yd Kb;have hT:=Ti.typeIs;refine W0 abd hT PySem.F.entry_dict_update ?_ (PySem.F.args_dict_update_2 _ _);unfold YI.«dict.update»;refine V4 ?_;unfold Builtin.Dict.selfAndRest;refine V4 (aar hT ?_);show wpAny _ _ (pure (a,[Wy b])) _ _ s;refine V9 ?_;show wpAny _ _ (aaS "dict.update" a (.ref b) [] .none) _ _ s;unfold aaS;refine V4 (wpAny_typeOf DC.typeIs ?_);rw[ac6 (by decide)];refine V4 ?_;unfold Builtin.Dict.merge;refine V4 ?_;unfold Builtin.Dict.readDirectly;refine V4 (Zv DC.typeIs isSubtype_dict_dict ?_);simp only[abZ,WG,if_false];refine V4 (Ze DC.typeIs PySem.F.slot_dict_iter.lookup (V9 ?_));simp only[beq_self_eq_true,if_true];refine V4 (V9 ?_);refine q9 (show A.in1.units<cLine by show A.units+1<cLine;omega) QJ VE Ti DC Ku (λe0=>?_) (by omega) λh' Fi EW=>?_
 ·have e1:aB=[]:=Y3.mp (by rw[l1,e0];rfl);have:=hh e1;have e2:(ys.map λy=>(YE (bD X.prog X.w)).hash y.1)=ks.map gT:=by
   have e3:more.map (·.1)=ys.map (·.1):=pd (λ_ _ r=>r.1) Kb;rw[show (λy:List Key×Addr×Value=>(YE (bD X.prog X.w)).hash y.1)=(YE (bD X.prog X.w)).hash∘(·.1) from rfl,<-WA,<-e3,hk,WA];exact WN λk _=>FO k
  rw[e2];exact this
 ·show wpAny _ _ (Builtin.Dict.addKeywords a []>>=_) _ _ _;refine V4 (V9 (V9 ⟨.none,rfl,h _ ?_⟩));obtain⟨q,es,ep,hq,h2,h3,h4,_,h5⟩:=Fi;have hl:(jQ aB more).length<=Ww:=by have:=qU more aB;omega
  refine l6 I (by rw[ha];exact Yv) EW ⟨q,hq⟩ ⟨hl,lo1,_,(Ct Kb Qg).keeps λc ys ec=>?_,q,es,ep,hq,h2,h3,h4,h5⟩;rw[aA (Gz ec ha (λz=>nomatch z))];exact ec
end
def dm(ks:List (List Key))(ds:List D):List (List Key)->List D->List (List Key)×List D
 |k::ks',d::ds'=>dm (d8 ks ds k) (da ks ds k d) ks' ds'
 |_,_=>(ks,ds)
def H_(ks:List (List Key))(ds:List D):D->Option C
 | .dct ks' ds'=>match eK ks' with
   |some ns=>if ds.length+ds'.length<=lim/\(ks.isEmpty=true->(ns.map gT).Nodup) then some (.dct (dm ks ds ks' ds').1 (dm ks ds ks' ds').2) else none
   |none=>none
 |_=>none
def qZ{K:Wm}:∀{ks':List (List Key)}{ds':List D}{iQ:List V}{ks:List (List Key)}{ds:List D}{vs:List V},DenL K F ds' iQ->ks'.length=ds'.length->DenL K F ds vs->ks.length=ds.length->
 ∃ws,jQ (ks.zip vs) (ks'.zip iQ)=(dm ks ds ks' ds').1.zip ws/\DenL K F (dm ks ds ks' ds').2 ws/\(dm ks ds ks' ds').1.length=(dm ks ds ks' ds').2.length
 |[],[],iQ,ks,ds,vs,h',_,h,hl=>⟨vs,rfl,h,hl⟩
 |k::ks',d::ds',iQ,ks,ds,vs,⟨v,r,e,h1,h2⟩,Im,h,hl=>by
  subst e;obtain⟨ws,e1,e2,e3⟩:=wo h1 k h hl;obtain⟨us,q1,q2,q3⟩:=qZ h2 (by simpa using Im) e2 e3;refine⟨us,?_,q2,q3⟩;show jQ (putK (ks.zip vs) k v) (ks'.zip r)=_;rw[e1];exact q1
 |[],_::_,_,_,_,_,_,Im,_,_=>by simp at Im
 |_::_,[],_,_,_,_,_,Im,_,_=>by simp at Im
def Hk[DecidableEq κ]{k:κ}(hl:ks.length=ds.length):(da ks ds k d).length<=ds.length+1:=by
 unfold da;split
 ·rw[j6 ks ds k d hl];omega
 ·simp
def Hl[DecidableEq κ]{k:κ}(hl:ks.length=ds.length):(d8 ks ds k).length=(da ks ds k d).length:=by
 unfold da d8;split
 ·rw[j6 ks ds k d hl];exact hl
 ·simp[hl]
def q0:∀{ks':List (List Key)}{ds':List D}{ks:List (List Key)}{ds:List D},ks.length=ds.length->(dm ks ds ks' ds').2.length<=ds.length+ds'.length
 |[],ds',ks,ds,_=>by show ds.length<=_;omega
 |_::_,[],ks,ds,_=>by show ds.length<=_;simp
 |k::ks',d::ds',ks,ds,hl=>by
  have h1:=q0 (ks':=ks') (ds':=ds') (ks:=d8 ks ds k) (ds:=da ks ds k d) (Hl hl);have h2:=Hk (k:=k) (d:=d) hl;show (dm (d8 ks ds k) (da ks ds k d) ks' ds').2.length<=_;rw[Wf];omega
section
variable{X:Cx}{Xw:Nat->Hp->Prop}{o e:Expr}{δ:DE}{pos p v6 bz:Pos}{x:Str}{i:Nat}
def Er(i:Nat)(δ:DE):DS:=λρ=>match yS ρ i with
 |some (.dct ks ds)=>δ ρ>>=λd=>match H_ ks ds d with
  |some c'=>ab (.nx (ρ.set i (some (.ow c'))))
  |none=>ag
 |_=>ag
def M6(hu:X.A.units+2<cLine)(ho:PE X o td)(he:PE X e ty)(m:M1 X o "update" v6 e bz):
 PE X (.Call (.Attribute o "update" v6) [e] [] bz) (λσ H Q=>td σ H λx H1=>∃a,x= .ref a/\N4 H1 a/\ty σ H1 λy H2=>∃(b:Addr) (aB more:List (List Key×V)) (ks:List (List Int)),y= .ref b/\H2 a=some (.dT aB)/\Rd H2 b (.dT more)/\a≠b/\more.map (·.1)=ks.map mi/\(aB=[]->(ks.map gT).Nodup)/\aB.length+more.length<=Ww/\Q .non (upd H2 a (.dT (jQ aB more)))):=by
 intro f8 s σ H Q I h;refine abo m.base m.few m.line YY abd (by rfl) (cp (ho f8 s σ H _ I h) λu s1 ⟨x,H1,I1,rx,a,ex,d,q1⟩=>?_);subst ex;obtain rfl:u=Wy a:=rx;obtain⟨t1,t2,_⟩:=Az I1 d;refine⟨t1,t2,?_⟩;rw[m.trees];refine Yw rfl (Zl (Yx (cp (he f8 s1 σ H1 _ I1 q1) λiv s2 ⟨y,H2,I2,ry,b,aB,more,ks,ey,k1,k2,k3,k4,k5,k6,q2⟩=>Zc ?_)));subst ey;obtain rfl:iv=Wy b:=ry;exact Fh hu I2 k1 k2 k3 k4 k5 k6 λs3 I3=>⟨.non,_,I3,rfl,q2⟩
def CP(hu:X.A.units+64<cLine)(hv:PE X (.Name x p) (sv i))(he:PD X Xw e δ)(m:M1 X (.Name x p) "update" v6 e bz)(hs:Z2 (.Call (.Attribute (.Name x p) "update" v6) [e] [] bz) none pos.line X.env=pure false:=by rfl):
 iR X Xw (.Expr (.Call (.Attribute (.Name x p) "update" v6) [e] [] bz) pos) (Er i δ):=λs0 adf=>PS.weak (p7 (M6 (by omega) hv he m) hs) λD σ H ⟨F,ρ,s,w⟩=>by
 unfold Er at w;split at w
 ·rename_i ks ds QP;have hi:=uA QP;obtain⟨v,NX,a,oh,rfl,hH,hF,vs,rfl,hd,hl,hz⟩:=s.st.den i _ hi;refine⟨.ref a,NX,a,rfl, .inr ⟨_, .inl hH⟩,F,ρ,s.st,?_⟩;rcases(δ ρ).cs with q | ⟨n,q⟩ | ⟨d,q⟩
  ·rw[q] at w;exact w.elim
  ·rw[q] at w⊢;exact λF' H' e'=>w F' H' (s.ext.trans e')
  ·rw[q] at w⊢;intro u H1 F1 e1 hq;have w:WPS X.K Xw s0 adf (match H_ ks ds d with | some c'=>ab (.nx (ρ.set i (some (.ow c')))) | none=>ag) D:=w;cases d with
   |dct ks' ds'=>
    obtain⟨b,ob,iQ,rfl,k2,k3,k4,k5⟩:=hq;cases hc:H_ ks ds (.dct ks' ds') with
    |none=>rw[hc] at w;exact w.elim
    |some c'=>
     rw[hc] at w;have hc:(match eK ks' with | some ns=>if ds.length+ds'.length<=lim/\(ks.isEmpty=true->(ns.map gT).Nodup) then some (C.dct (dm ks ds ks' ds').1 (dm ks ds ks' ds').2) else none | none=>none)=some c':=hc;cases hn:eK ks' with
     |none=>rw[hn] at hc;cases hc
     |some ns=>
      rw[hn] at hc;have hc:(if ds.length+ds'.length<=lim/\(ks.isEmpty=true->(ns.map gT).Nodup) then some (C.dct (dm ks ds ks' ds').1 (dm ks ds ks' ds').2) else none)=some c':=hc;split at hc
      ·rename_i OK;cases hc;have TJ:=DenL.mono e1.ff hd;have l1:=TJ.len;have l2:=k3.len;have QJ:a≠b:=λz=>by
        have:=e1.old hH (λ_ z=>nomatch z);rw[hF,z,k2] at this;cases this
       obtain⟨ws,m1,m2,m3⟩:=qZ k3 k4 TJ hl;refine⟨b,ks.zip vs,ks'.zip iQ,ns,rfl,e1.hh _ _ hH, .inr ⟨ob,e1.fh _ _ k2⟩,QJ,by rw[jt (by rw[k4];exact l2),iz hn],λz=>OK.2 ?_,?_,?_⟩
       ·have:=jt (a:=ks) (b:=vs) (by rw[hl];exact l1);rw[z] at this;rw[<-this];rfl
       ·rw[Y2,Y2];have:=fP;omega
       ·rw[m1];exact w σ F1 _ ((s.ext' e1).chg hi NX ⟨ws,rfl,m2,m3,by have:=q0 (ks':=ks') (ds':=ds') hl;omega⟩)
      ·cases hc
   |_=>exact w.elim
 ·exact w.elim
end
section
variable{X:Cx}{Xw:Nat->Hp->Prop}{o e f:Expr}{δo δe δf:DE}{v6 bz:Pos}{x:Str}
def F_:D->Bool
 | .dct _ _=>true
 | .dci _ _=>true
 |_=>false
def Ci{K:Wm}{F H:Hp}{d:D}{x:V}(s:Same F H)(hd:Den K F d x)(e:F_ d=true):∃a,x= .ref a/\N4 H a:=by
 cases d with
 |dct ks ds=>obtain⟨a,ob,vs,rfl,h2,_⟩:=hd;exact⟨a,rfl, .inr ⟨_, .inr ⟨ob,s _ _ h2⟩⟩⟩
 |dci ks ds=>obtain⟨a,ob,vs,rfl,h2,_⟩:=hd;exact⟨a,rfl, .inl ⟨_, .inr ⟨ob,s _ _ h2⟩⟩⟩
 |_=>cases e
def getM(d k v:D):M D:=match EN d k with
 |some (some x)=>ab x
 |some none=>ab v
 |none=>ag
def Of(δo δe:DE):DE:=λρ=>δo ρ>>=λd=>if F_ d then δe ρ>>=λk=>getM d k .non else ag
def BU(δo δe δf:DE):DE:=λρ=>δo ρ>>=λd=>if F_ d then δe ρ>>=λk=>δf ρ>>=λv=>getM d k v else ag
def ya{F H:Hp}{d k v:D}{a:Addr}{y z:V}{Q:VK}(s:Same F H)(q1:Den X.K F d (.ref a))(q2:Den X.K F k y)(q3:Den X.K F v z)(w:WP X.K Xw F H (getM d k v) Q):∃ov,lq H a y ov/\Q (ov.getD z) H:=by
 unfold getM at w;cases qB:EN d k with
 |none=>rw[qB] at w;exact w.elim
 |some o'=>
  rw[qB] at w;obtain⟨a',ov,zz,h2,h3,h4⟩:=u9 s q1 q2 qB;cases zz;refine⟨ov,h2,?_⟩;cases o' with
  |none=>
   cases ov with
   |none=>exact WP.now w s q3
   |some _=>cases h3
  |some d'=>
   obtain⟨v,rfl,hv⟩:=h4 d' rfl;exact WP.now w s hv
def Q1(hu:X.A.units+64<cLine)(ho:PD X Xw o δo)(he:PD X Xw e δe)(m:M1 X o "get" v6 e bz):PD X Xw (.Call (.Attribute o "get" v6) [e] [] bz) (Of δo δe):=
 PE.weak (G6 (by omega) ho he m) λσ H Q ⟨F,ρ,s,w⟩=>by
  refine⟨F,ρ,s,WP.mono (WP.bind w) λx H1 ⟨F1,d,e1,q1,w1⟩=>?_⟩;split at w1
  ·rename_i hd;obtain⟨a,rfl,Sf⟩:=Ci e1.fh q1 hd;refine⟨a,rfl,Sf,F1,ρ,s.ext e1,WP.mono (WP.bind w1) λy H2 ⟨F2,k,e2,q2,w2⟩=>?_⟩;exact ya (v:= .non) (z:= .non) e2.fh (Den.mono e2.ff q1) q2 (show V.non=V.non from rfl) w2
  ·exact w1.elim
def JN(hu:X.A.units+64<cLine)(ho:PD X Xw o δo)(he:PD X Xw e δe)(hf:PD X Xw f δf)(m:M2 X o "get" v6 e f bz):PD X Xw (.Call (.Attribute o "get" v6) [e,f] [] bz) (BU δo δe δf):=
 PE.weak (G7 (by omega) ho he hf m) λσ H Q ⟨F,ρ,s,w⟩=>by
  refine⟨F,ρ,s,WP.mono (WP.bind w) λx H1 ⟨F1,d,e1,q1,w1⟩=>?_⟩;split at w1
  ·rename_i hd;obtain⟨a,rfl,Sf⟩:=Ci e1.fh q1 hd;refine⟨a,rfl,Sf,F1,ρ,s.ext e1,WP.mono (WP.bind w1) λy H2 ⟨F2,k,e2,q2,w2⟩=>?_⟩;refine⟨F2,ρ,(s.ext e1).ext e2,WP.mono (WP.bind w2) λz H3 ⟨F3,v,e3,q3,w3⟩=>?_⟩;exact ya e3.fh (Den.mono e3.ff (Den.mono e2.ff q1)) (Den.mono e3.ff q2) q3 w3
  ·exact w1.elim
end
section
variable{a:Expr}
end
def vv:List Nat->KC
 |[]=>Oy
 |i::is=>KY (FI i) (vv is)
def Bj:List Nat->List D->cK->cK
 |i::is,d::ds,ρ=>Bj is ds (ρ.set i (some (.fz d)))
 |_,_,ρ=>ρ
def r6(is:List Nat):D->cK->Option cK
 | .tup ds,ρ=>if ds.length=is.length then some (Bj is ds ρ) else none
 |_,_=>none
def uV{K:Wm}{s0 adf F H:Hp}{Q:St->Hp->Prop}:∀(is:List Nat) (ds:List D) (vs:List V) (σ:St) (ρ:cK),ds.length=is.length->StOk K s0 adf F H σ ρ->DenL K F ds vs->(∀σ',StOk K s0 adf F H σ' (Bj is ds ρ)->Q σ' H)->vv is vs σ H Q
 |[],[],vs,σ,ρ,_,s,h,k=>⟨h,k σ s⟩
 |i::is,d::ds,vs,σ,ρ,hl,s,⟨v,r,e,h1,h2⟩,k=>by
  subst e;exact⟨v,r,rfl,uV is ds r _ _ (by simpa using hl) (s.set h1) h2 k⟩
 |[],_::_,_,_,_,hl,_,_,_=>by simp at hl
 |_::_,[],_,_,_,hl,_,_,_=>by simp at hl
def p8{K:Wm}{is:List Nat}:BK K (LQ K is.length (vv is)) (r6 is):=λs0 adf F H σ ρ ρ' d v Q s q e k=>by
 unfold r6 at e;split at e
 ·rename_i ds;split at e
  ·rename_i hl;cases e;obtain⟨a,vs,rfl,hs,hd,_⟩:=q;exact⟨a,vs,rfl,SqT.of (s.st.fh _ _ hs),by rw[<-hd.len];exact hl,uV is ds vs σ ρ hl s hd k⟩
  ·cases e
 ·cases e
def Kj:∀{σ' σ:St},1<σ'.length->σ'.drop 2=σ->∀v1 v2:V,(σ'.set 0 (some v1)).set 1 (some v2)=[v1,v2].map some++σ
 |x1::x2::r,_,_,hd,v1,v2=>by subst hd;rfl
 |[],_,h,_,_,_=>by simp at h
 |[_],_,h,_,_,_=>by simp at h
def Jr:∀{ds:List D},ds.length=2->∃a b,ds=[a,b]
 |[a,b],_=>⟨a,b,rfl⟩
 |[],h=>by simp at h
 |[_],h=>by simp at h
 |_::_::_::_,h=>by simp at h
def HZ{X:Cx}{x y:Str}{px py pt:Pos}{x1:Nat}{σ:St}(hN:X.N.Nodup)(h0:X.N[0]? =some x)(h1:X.N[1]? =some y)(hx:X.env.scope.names.lookup x=some .local)(hy:X.env.scope.names.lookup y=some .local)(hc:X.calm=true)
 (hn:(Yr [abi x px, .Name y py] X.env).length=2:=by rfl)(t_:(Yr [abi x px, .Name y py] X.env).findIdx? (·.1)=none:=by rfl)
 (hs:(Yr [abi x px, .Name y py] X.env).map (·.2)=assign (.Name x px) X.env::(Yr [abi y py] X.env).map (·.2):=by rfl)(NW:(Yr [abi y py] X.env).map (·.2)=assign (.Name y py) X.env::(Yr [] X.env).map (·.2):=by rfl):Dc X (.Tuple [.Name x px, .Name y py] x1 pt) 2 σ:=λf8 s σ' F H d ts v u I fh hd rv q e=>by
 cases d with
 |tup ds=>
  have e:(if ds.length=2 then ab ds else ag)=ab ts:=e;split at e
  ·rename_i hl;obtain rfl:=f_ e;obtain⟨d1,d2,rfl⟩:=Jr hl
   ·obtain⟨a,vs,rfl,EW,xm,_⟩:=q;obtain⟨v1,v2,rfl,q1,q2⟩:=xm.two;have G:PG X (.Tuple [.Name x px, .Name y py] x1 pt) (LQ X.K 2 (vv [0,1])):=rW hc (dD (a8 hN h0 (.inl hx) (.inr hx)) (dD (a8 hN h1 (.inl hy) (.inr hy)) mP NW) hs) hn t_;refine cp (G f8 s σ' H (.ref a) u (λσ2 H2=>H2=H/\σ2=(σ'.set 0 (some v1)).set 1 (some v2)) I rv ⟨a,[v1,v2],rfl,SqT.of (fh _ _ EW),rfl,v1,[v2],rfl,v2,[],rfl,rfl,rfl,rfl⟩) λ_ s2 ⟨σ2,H2,I2,e1,e2⟩=>?_;subst e1 e2;refine⟨[v1,v2],?_, .cons q1 (.cons q2 .nil)⟩;have hl:1<σ'.length:=by rw[I.len];exact(Wh.mp h1).1
    have:=Kj hl (show σ'.drop 2=σ from hd) v1 v2;rw[<-this];exact I2
  ·exact(gL e).elim
 |_=>exact(gL e).elim
mutual
def KO:D->Bool
 | .non=>true
 | .bl _=>true
 | .int _=>true
 | .str _=>true
 | .tup ds=>xH ds
 | .lst ds=>xH ds
 | .raw _=>false
 | .exc _=>false
 | .scr _=>false
 | .dct _ _=>false
 | .dci _ _=>false
def xH:List D->Bool
 |[]=>true
 |d::ds=>KO d&&xH ds
end
def yT(ρ:cK):Bool:=ρ.all λx=>match x with
 |some (.ow (.lst _))=>false
 |_=>true
def GU{i:Nat}(h:yT ρ=true)(e:ρ[i]? =some (some (.ow (.lst ds)))):False:=by
 have:=WI.mp h _ (Wx e);cases this
section
variable{K:Wm}{F H F' H':Hp}{σ:St}{ρ:cK}{h:Heap}{b:Addr}
def OwnAt.dict(S:StE K F H σ ρ)(hd:yT ρ=true)(p:OwnAt σ ρ b):∃o,H b=some o/\((∃x,o= .dT x)\/∃x,o= .dK x):=by
 obtain⟨i,c,h1,h2⟩:=p;obtain⟨v,h3,a,o,rfl,h4,h5,h6⟩:=S.den i _ h1;rw[h3] at h2;cases h2;refine⟨o,h4,?_⟩;cases c with
 |lst ds=>exact(GU hd h1).elim
 |dct ks ds=>obtain⟨vs,rfl,_⟩:=h6;exact .inl ⟨_,rfl⟩
 |dci ks ds=>obtain⟨vs,rfl,_⟩:=h6;exact .inr ⟨_,rfl⟩
open Classical in
def CA(S:StE K F H σ ρ)(hd:yT ρ=true)(E:Ext (fA σ ρ (refA h (OwnAt σ ρ) H) F) (refA h (OwnAt σ ρ) H) F' H'){o:HO}(e:F' a=some o)(jI:∀q u,o≠ .frz q u):(if OwnAt σ ρ a then none else F' a)=some o:=by
 rw[ac6,e];intro hp;obtain⟨o',k1,k2⟩:=OwnAt.dict S hd hp;have k3:fA σ ρ (refA h (OwnAt σ ρ) H) F a=some (pH ((h.get? a).getD {cls:= .none,data:= .fields #[]}) o'):=by
  unfold fA refA;rw[ac5 hp,ac5 hp,k1];rfl
 have k4:=E.ff a _ k3;rw[e] at k4;rcases k2 with⟨x,rfl⟩ | ⟨x,rfl⟩<;>cases k4<;>exact jI _ _ rfl
open Classical in
mutual
def Fj(S:StE K F H σ ρ)(hd:yT ρ=true)(E:Ext (fA σ ρ (refA h (OwnAt σ ρ) H) F) (refA h (OwnAt σ ρ) H) F' H'):∀{d:D}{v:V},KO d=true->Den K F' d v->Den K (λb=>if OwnAt σ ρ b then none else F' b) d v
 | .non,_,_,q=>q
 | .bl _,_,_,q=>q
 | .int _,_,_,q=>q
 | .str _,_,_,q=>q
 | .tup ds,_,f,⟨a,vs,h1,h2,h3,h4⟩=>⟨a,vs,h1,CA S hd E h2 (λ_ _ z=>nomatch z),nG S hd E f h3,h4⟩
 | .lst ds,_,f,⟨a,vs,h1,h2,h3,h4⟩=>⟨a,vs,h1,CA S hd E h2 (λ_ _ z=>nomatch z),nG S hd E f h3,h4⟩
 | .raw _,_,f,_=>by cases f
 | .exc _,_,f,_=>by cases f
 | .scr _,_,f,_=>by cases f
 | .dct _ _,_,f,_=>by cases f
 | .dci _ _,_,f,_=>by cases f
def nG(S:StE K F H σ ρ)(hd:yT ρ=true)(E:Ext (fA σ ρ (refA h (OwnAt σ ρ) H) F) (refA h (OwnAt σ ρ) H) F' H'):∀{ds:List D}{vs:List V},xH ds=true->DenL K F' ds vs->DenL K (λb=>if OwnAt σ ρ b then none else F' b) ds vs
 |[],_,_,q=>q
 |d::ds,_,f,⟨v,r,h1,h2,h3⟩=>by
  unfold xH at f;rw[Wl] at f;exact⟨v,r,h1,Fj S hd E f.1 h2,nG S hd E f.2 h3⟩
end
end
def Oh(δ:DE):DE:=λρ=>noex (δ (Ao ρ))>>=qu
def Iv(τ:DT):DT:=λρ=>noex (τ (Ao ρ))
section
variable{a b:Expr}
def Km{x y:Str}(h:x.cps.toList=y.cps.toList):x=y:=by
 obtain⟨⟨a⟩⟩:=x;obtain⟨⟨b⟩⟩:=y;cases (show a=b from h);rfl
end
def Mc(x:Int):List Int->List Int
 |[]=>[x]
 |y::r=>if x<=y then x::y::r else y::Mc x r
def DO(x:Int):∀l,(Mc x l).Perm (x::l)
 |[]=>acx _
 |y::r=>by
  unfold Mc;split
  ·exact acx _
  ·exact((DO x r).cons y).trans (List.Perm.swap ..)
def tW{K:Wm}{F:Hp}:∀{xs:List Int},DenL K F (xs.map D.int) (xs.map V.int)
 |[]=> .nil
 |x::r=> .cons rfl tW
section
variable{a:Expr}
end
def sC:∀{xs:List V}{us:List Value},xs.length=us.length->(∀(i:Nat) x u,xs[i]? =some x->us[i]? =some u->RelV x u)->Vals xs us
 |[],[],_,_=> .nil
 |x::xs,u::us,hl,h=> .cons (h 0 x u rfl rfl) (sC (by simpa using hl) λi y v e1 e2=>h (i+1) y v (by simpa using e1) (by simpa using e2))
end L3
namespace L3
open PySem PySem.SetTable
def nU[DecidableEq α]:∀{l U:List α},l.Nodup->(∀x∈l,x∈U)->l.length<=U.length
 |[],_,_,_=>WQ _
 |a::l,U,hn,h=>by
  have ha:=h a (V_ ..);have Ca:=Xe.mp hn;have:=nU Ca.2 λx hx=>(aak (λe:x=a=>Ca.1 (e▸hx))).mpr (h x (V8 _ hx));rw[YZ ha] at this;have:0<U.length:=Xn ha;rw[Wf];omega
def iK(m b:Nat):Nat->Nat×Nat
 |0=>(b % (m+1),b)
 |k+1=>leap m (iK m b k).1 (iK m b k).2
def N2(m i:Nat):Nat:=(i*5+1) % (m+1)
def it(m:Nat):Nat->Nat->Nat
 |0,x=>x
 |n+1,x=>N2 m (it m n x)
def qO(m:Nat):∀a b x,it m (a+b) x=it m a (it m b x)
 |0,b,x=>by rw[aaZ];rfl
 |a+1,b,x=>by rw[acX];show N2 m _=N2 m _;rw[qO m a b x]
def Pj(m b:Nat):∀k,(iK m b k).2=b / 32 ^ k
 |0=>by simp[iK]
 |k+1=>by
  show (iK m b k).2 / 32=_;rw[Pj m b k,ab_,Nat.pow_succ]
def Cc{m b:Nat}(hb:b<2 ^ 64):∀k,(iK m b (k+13)).1=it m k (iK m b 13).1
 |0=>by rw[aaZ];rfl
 |k+1=>by
  rw[acX];have hq:(iK m b (k+13)).2 / 32=0:=by
   rw[Pj];refine Nat.div_eq_of_lt ?_;refine ZA (m:=b / 32 ^ 13) ?_ ?_
   ·rw[Nat.pow_add,Nat.mul_comm,<-ab_];exact Nat.div_le_self ..
   ·have:b / 32 ^ 13<1:=Nat.div_lt_of_lt_mul (by omega);omega
  show ((iK m b (k+13)).1*5+1+(iK m b (k+13)).2 / 32) % (m+1)=N2 m _;rw[hq,Cc hb k];rfl
def Ra(m:Nat):Prop:=m=7\/m=31\/m=127
def Sr(m:Nat):Nat->Nat->List Nat
 |0,_=>[]
 |n+1,x=>x::Sr m n (N2 m x)
def A5(m:Nat):∀(n x j:Nat),j∈Sr m n x->∃a,a<n/\it m a x=j
 |0,x,j,h=>by cases h
 |n+1,x,j,h=>by
  rcases Ws.mp h with rfl | h
  ·exact⟨0,by omega,rfl⟩
  ·obtain⟨a,ha,e⟩:=A5 m n (N2 m x) j h;exact⟨a+1,by omega,by rw[qO m a 1 x];exact e⟩
def JI(hm:Ra m):(∀j,j<m+1->j∈Sr m (m+1) 0)/\it m (m+1) 0=0:=by
 rcases hm with rfl | rfl | rfl
 ·exact⟨by decide+kernel,by decide+kernel⟩
 ·exact⟨by decide+kernel,by decide+kernel⟩
 ·exact⟨by decide+kernel,by decide+kernel⟩
def Uu(hm:Ra m)(hi:i<m+1)(hj:j<m+1):∃n,n<=m/\it m n i=j:=by
 obtain⟨h1,h2⟩:=JI hm;obtain⟨a,ha,rfl⟩:=A5 m _ 0 i (h1 i hi);obtain⟨b,hb,rfl⟩:=A5 m _ 0 j (h1 j hj);by_cases h:a<=b
 ·exact⟨b - a,by omega,by rw[<-qO,Nat.sub_add_cancel h]⟩
 ·refine⟨m+1 - a+b,by omega,?_⟩;rw[<-qO,show m+1 - a+b+a=b+(m+1) by omega,qO,h2]
def Ph(m b k:Nat):(iK m b k).1<m+1:=by
 cases k with
 |zero=>exact Nat.mod_lt _ (by omega)
 |succ k=>exact Nat.mod_lt _ (by omega)
def reach(hm:Ra m)(hb:b<2 ^ 64)(hj:j<m+1):∃k,k<=m+13/\(iK m b k).1=j:=by
 obtain⟨n,hn,e⟩:=Uu hm (Ph m b 13) hj;exact⟨n+13,by omega,by rw[Cc hb,e]⟩
def Td(t:SetTable):Nat->Probe->Probe
 |0,p=>p
 |n+1,p=>Td t n (t.advance p)
def vals(o:Array (Option Nat))(n:Nat):List Nat:=(Wo n).filterMap λj=>o.getD j none
end L3
namespace L3
open PySem PySem.Spec L2 HT
open PyProof.Rows hiding St
def items_int{P:WU}{w:World}:∀{us:List Value}{ns:List Int},Ys us ns->ItemsAre (intKind P w) ns us
 |_,_, .nil=> .nil
 |_,_, .cons n t h=> .cons (intKind_is _ _ _ _) (items_int h)
end L3
namespace L3
open PySem PySem.SetTable PySem.W PyProof.Rows
def IsSI(h:Heap)(it a:Addr)(sl k n ep:Nat):Prop:=∃o,h.get? it=some o/\o.cls= .type "set_iterator"/\o.data= .fields #[YU sl,YU k, .ref a,YU n,YU ep]
def IsSI.typeIs{s:We}{it a:Addr}{sl k n ep:Nat}(x:IsSI s.heap it a sl k n ep):s.TypeIs (.ref it) "set_iterator":=let ⟨o,ho,hc,_⟩:=x;⟨o,ho,hc⟩
end L3
namespace L3
open PySem PySem.Spec L2 HT
open PyProof.Rows hiding St
section
variable{X:Cx}{Xw:Nat->Hp->Prop}{e:Expr}{δs:DA}{pos p:Pos}
def mZ:List D->M D
 |[.lst ds]=>match nums ds with
  |some ns=>ab (.int ns.sum)
  |none=>ag
 |_=>ag
def Dv(hc:X.calm=true):CallR X (.builtin "sum") (λxs H Q=>∃(p:Addr) (ns:List Int),xs=[.ref p]/\SqL X.K H p (ns.map V.int)/\Q (.int ns.sum) H):=by
 intro f8 s σ H xs us Q I r h;obtain⟨a,ns,rfl,hq,q⟩:=h;obtain⟨u,rfl,r1⟩:=r.one;cases (show u=_ from r1);obtain⟨aL,rv,pl,hz⟩:=I.list hq;have hi:Ys aL ns:=by simpa using intsAre_of rv
 obtain⟨xs,hx⟩:=hi.allInts.items;refine sum_intListG (I.ok.hd hc) (show s.heap.IsList a (intItems xs) from hx▸pl.isList) λh' tk t' hk=>?_;have e1:ns=xs.toList.map (·.1):=by
  rw[<-nums_intItems,<-hx];exact(show numsOf aL.toArray.toList=ns from hi.numsOf).symm
 rw[show preSum (numAt xs) xs.size=ns.sum by rw[preSum_eq,List.take_of_length_le (by simp),e1]];exact⟨.int ns.sum,H,I.kept hk,⟨_,rfl⟩,q⟩
def wc(hc:X.calm=true)(hg:Gl X "sum")(hm:X.mg "sum"=none)(hb:WV "sum"=some (.builtin "sum"))(ha:lr X Xw [e] δs)(he:Wv [e] X.env=[(false,eval e X.env)]:=by rfl):PD X Xw (.Call (.Name "sum" p) [e] [] pos) (dA mZ δs):=
 cV (Dv hc) (λXw F H vs ds Q s h w=>by
  unfold mZ at w;split at w
  ·rename_i ds;obtain⟨v,rfl,h1⟩:=h.one;obtain⟨a,ws,rfl,h2,h3,h4⟩:=h1;split at w
   ·rename_i ns Io;have e:=eY Io h3;subst e;exact⟨a,ns,rfl,SqL.of (s _ _ h2),WP.now w s rfl⟩
   ·exact w.elim
  ·exact w.elim) hg hm hb ha (by decide) (by decide) he rfl
end
end L3
namespace L3
open PySem PySem.Spec L2 SeqAt HT
open PyProof.Rows hiding St
def Qc:List V->Hp->VK->Prop:=λxs H Q=>∃p aB ks,xs=[.ref p]/\Rd H p (.dT aB)/\aB.map (·.1)=ks.map mi/\ks.length<=lim/\∀(q:Addr) (ws:List V),H q=none->df H ws ks->Q (.ref q) (upd H q (.lst ws))
section
variable{X:Cx}{Xw:Nat->Hp->Prop}{e:Expr}{δs:DA}{pos p:Pos}
def Af(hc:X.calm=true):CallR X (.type "list") Qc:=by
 intro f8 s σ H xs us Q I r h;obtain⟨a,aB,ks,rfl,hH,zX,hk,q⟩:=h;obtain⟨u,rfl,r1⟩:=r.one;cases (show u=_ from r1);obtain⟨z,lo,xs,rel,o,es,ep,g1,g2,g3,g4,g5⟩:=(show ObjOk X.prog X.w H s.heap a (.dT aB) from hH.ok I.hok)
 have hr:=nM rel zX;have Aw:=gE hr;rw[V5] at Aw;have OO:es.size=xs.length:=by rw[<-Wn,g4,V5]
 have nq:Ww=16777216:=XH;have V0:lim=4096:=rfl;refine PySem.W.kdl_call (zx lo g2 g3) (I.ok.hd hc) g1 (by rw[OO,nq];omega) λh1 tk v0 c ym vB i3=>?_;have FN:v0.toList.length=xs.length:=by rw[Wn,<-OO];exact i3.1
 have rv:Vals (xs.map λx=>V.ref x.2.1) v0.toList:=by
  refine sC (by rw[V5,FN]) λi v u e1 e2=>?_;rw[XF] at e2;obtain⟨en,q1,q2⟩:=i3.2 i u e2;rw[<-XF,g4,Wj] at q1;rw[Wj] at e1;cases w:xs[i]? with
  |none=>rw[w] at e1;cases e1
  |some x=>
   rw[w] at e1 q1;cases e1;cases q1;exact q2
 refine⟨.ref s.heap.objs.size,_,I.laid (t':=tk) ym (Wg _) (show ObjOk X.prog X.w _ h1 _ (.lst (xs.map λx=>V.ref x.2.1)) from⟨by rw[V5];omega,v0.toList,c,rv,by simpa using vB⟩),rfl,q _ _ (I.hok.fresh (Wg _)) hr⟩
def Cs:List D->M D
 |[.dct kk ds]=>match eK kk with
  |some ks=>if ks.length<=lim/\ks.all (λk=>decide (k.length<=lim)) then ab (.lst (ks.map tupI)) else ag
  |none=>ag
 |_=>ag
def G0(hc:X.calm=true)(hg:Gl X "list")(hm:X.mg "list"=none)(hb:WV "list"=some (.type "list"))(ha:lr X Xw [e] δs)(he:Wv [e] X.env=[(false,eval e X.env)]:=by rfl):PD X Xw (.Call (.Name "list" p) [e] [] pos) (dA Cs δs):=
 uJ (Af hc) (λXw F H vs ds Q s h w=>by
  unfold Cs at w;split at w
  ·rename_i kk ds;obtain⟨v,rfl,h1⟩:=h.one;obtain⟨a,ob,ws,rfl,h2,h3,h4,h5⟩:=h1;split at w
   ·rename_i ks FV;split at w
    ·rename_i hok;have hl:∀k∈ks,k.length<=lim:=λk hk=>ac9 (WI.mp hok.2 k hk);refine⟨a,_,ks,rfl, .inr ⟨ob,s _ _ h2⟩,by rw[jt (by rw[h4];exact h3.len),iz FV],hok.1,λq us hq hr=>?_⟩;obtain⟨F1,e1,r1⟩:=mQ s hr;have e2:=Ext.lay (o:= .lst us) e1.fh hq;exact WP.fin w (e1.trans e2) ⟨q,_,rfl,aK,DenL.mono e2.ff (j5 r1 hl),by rw[V5];exact hok.1⟩
    ·exact w.elim
   ·exact w.elim
  ·exact w.elim) hg hm hb ha (by decide) (by decide) he rfl
end
end L3
namespace L3
open PySem PySem.Spec L2 HT
open PyProof.Rows hiding St
def fQ:List Int->Int
 |[]=>0
 |[x]=>x
 |x::r=>max x (fQ r)
def jR:List Int->Int
 |[]=>0
 |[x]=>x
 |x::r=>min x (jR r)
def gj:∀{l:List Int},0<l.length->fQ l∈l/\∀a∈l,a<=fQ l
 |[x],_=>⟨by simp[fQ],λa h=>by rw[X1.mp h];exact Int.le_refl _⟩
 |x::y::r,_=>by
  obtain⟨h1,h2⟩:=gj (l:=y::r) (aa0 _);have e:fQ (x::y::r)=max x (fQ (y::r)):=rfl;rw[e];refine⟨?_,λa ha=>?_⟩
  ·rcases Int.le_total x (fQ (y::r)) with q | q
   ·rw[Int.max_eq_right q];exact V8 _ h1
   ·rw[Int.max_eq_left q];exact V_ ..
  ·rcases Ws.mp ha with q | q
   ·rw[q];exact Int.le_max_left ..
   ·exact Int.le_trans (h2 a q) (Int.le_max_right ..)
def kI:∀{l:List Int},0<l.length->jR l∈l/\∀a∈l,jR l<=a
 |[x],_=>⟨by simp[jR],λa h=>by rw[X1.mp h];exact Int.le_refl _⟩
 |x::y::r,_=>by
  obtain⟨h1,h2⟩:=kI (l:=y::r) (aa0 _);have e:jR (x::y::r)=min x (jR (y::r)):=rfl;rw[e];refine⟨?_,λa ha=>?_⟩
  ·rcases Int.le_total x (jR (y::r)) with q | q
   ·rw[Int.min_eq_left q];exact V_ ..
   ·rw[Int.min_eq_right q];exact V8 _ h1
  ·rcases Ws.mp ha with q | q
   ·rw[q];exact Int.min_le_left ..
   ·exact Int.le_trans (Int.min_le_right ..) (h2 a q)
section
variable{X:Cx}{Xw:Nat->Hp->Prop}{e:Expr}{δs:DA}{pos p:Pos}
def jw:List D->M D
 |[.lst ds]=>match nums ds with
  |some ns=>if 0<ns.length then ab (.int (fQ ns)) else ag
  |none=>ag
 |_=>ag
def mr:List D->M D
 |[.lst ds]=>match nums ds with
  |some ns=>if 0<ns.length then ab (.int (jR ns)) else ag
  |none=>ag
 |_=>ag
def qP{aL:List Value}{ns:List Int}(hi:Ys aL ns):∃xs:Array (Int×Tok),aL.toArray=intItems xs/\xs.size=ns.length/\∀i,i<xs.size->numAt xs i∈ns/\ns[i]? =some (numAt xs i):=by
 obtain⟨xs,hx⟩:=hi.allInts.items;have e1:ns=xs.toList.map (·.1):=by
  rw[<-nums_intItems,<-hx];exact(show numsOf aL.toArray.toList=ns from hi.numsOf).symm
 refine⟨xs,hx,by rw[e1];simp,λi h=>?_⟩;have:ns[i]? =some (numAt xs i):=by
  rw[e1,Wj,XF];unfold numAt;rw[WS h];rfl
 exact⟨Wx this,this⟩
def Dq(hc:X.calm=true):CallR X (.builtin "max") (λxs H Q=>∃(p:Addr) (ns:List Int),xs=[.ref p]/\SqL X.K H p (ns.map V.int)/\0<ns.length/\Q (.int (fQ ns)) H):=by
 intro f8 s σ H xs us Q I r h;obtain⟨a,ns,rfl,hq,h0,q⟩:=h;obtain⟨u,rfl,r1⟩:=r.one;cases (show u=_ from r1);obtain⟨aL,rv,pl,hz⟩:=I.list hq;have hi:Ys aL ns:=by simpa using intsAre_of rv
 obtain⟨xs,hx,hsz,qB⟩:=qP hi;obtain⟨g1,g2⟩:=argBest_gt (numAt xs) (xs.size - 1);refine max_intList (I.ok.hd hc) (show s.heap.IsList a (intItems xs) from hx▸pl.isList) (by omega) λv h' tk hv hk=>?_;obtain⟨t,rfl⟩:=intItems_at hv;have hM:=qB (argBest (λi j=>decide (numAt xs i>numAt xs j)) (xs.size - 1)) (by omega);obtain⟨m1,m2⟩:=gj h0;have e:numAt xs (argBest (λi j=>decide (numAt xs i>numAt xs j)) (xs.size - 1))=fQ ns:=by
  refine Int.le_antisymm (m2 _ hM.1) ?_;obtain⟨j,hj,e⟩:=X_ m1;have h2:=(qB j (by omega)).2;rw[V6 hj,e] at h2;rw[WW h2];exact g2 j (by omega)
 rw[e];exact⟨.int (fQ ns),H,I.kept hk,⟨_,rfl⟩,q⟩
def Ds(hc:X.calm=true):CallR X (.builtin "min") (λxs H Q=>∃(p:Addr) (ns:List Int),xs=[.ref p]/\SqL X.K H p (ns.map V.int)/\0<ns.length/\Q (.int (jR ns)) H):=by
 intro f8 s σ H xs us Q I r h;obtain⟨a,ns,rfl,hq,h0,q⟩:=h;obtain⟨u,rfl,r1⟩:=r.one;cases (show u=_ from r1);obtain⟨aL,rv,pl,hz⟩:=I.list hq;have hi:Ys aL ns:=by simpa using intsAre_of rv
 obtain⟨xs,hx,hsz,qB⟩:=qP hi;obtain⟨g1,g2⟩:=argBest_lt (numAt xs) (xs.size - 1);refine min_intList (I.ok.hd hc) (show s.heap.IsList a (intItems xs) from hx▸pl.isList) (by omega) λv h' tk hv hk=>?_;obtain⟨t,rfl⟩:=intItems_at hv;have hM:=qB (argBest (λi j=>decide (numAt xs i<numAt xs j)) (xs.size - 1)) (by omega);obtain⟨m1,m2⟩:=kI h0;have e:numAt xs (argBest (λi j=>decide (numAt xs i<numAt xs j)) (xs.size - 1))=jR ns:=by
  refine Int.le_antisymm ?_ (m2 _ hM.1);obtain⟨j,hj,e⟩:=X_ m1;have h2:=(qB j (by omega)).2;rw[V6 hj,e] at h2;rw[WW h2];exact g2 j (by omega)
 rw[e];exact⟨.int (jR ns),H,I.kept hk,⟨_,rfl⟩,q⟩
def mO(hc:X.calm=true)(hg:Gl X "max")(hm:X.mg "max"=none)(hb:WV "max"=some (.builtin "max"))(ha:lr X Xw [e] δs)(he:Wv [e] X.env=[(false,eval e X.env)]:=by rfl):PD X Xw (.Call (.Name "max" p) [e] [] pos) (dA jw δs):=
 cV (Dq hc) (λXw F H vs ds Q s h w=>by
  unfold jw at w;split at w
  ·rename_i ds;obtain⟨v,rfl,h1⟩:=h.one;obtain⟨a,ws,rfl,h2,h3,h4⟩:=h1;split at w
   ·rename_i ns Io;split at w
    ·rename_i h0;have e:=eY Io h3;subst e;exact⟨a,ns,rfl,SqL.of (s _ _ h2),h0,WP.now w s rfl⟩
    ·exact w.elim
   ·exact w.elim
  ·exact w.elim) hg hm hb ha (by decide) (by decide) he rfl
def p6(hc:X.calm=true)(hg:Gl X "min")(hm:X.mg "min"=none)(hb:WV "min"=some (.builtin "min"))(ha:lr X Xw [e] δs)(he:Wv [e] X.env=[(false,eval e X.env)]:=by rfl):PD X Xw (.Call (.Name "min" p) [e] [] pos) (dA mr δs):=
 cV (Ds hc) (λXw F H vs ds Q s h w=>by
  unfold mr at w;split at w
  ·rename_i ds;obtain⟨v,rfl,h1⟩:=h.one;obtain⟨a,ws,rfl,h2,h3,h4⟩:=h1;split at w
   ·rename_i ns Io;split at w
    ·rename_i h0;have e:=eY Io h3;subst e;exact⟨a,ns,rfl,SqL.of (s _ _ h2),h0,WP.now w s rfl⟩
    ·exact w.elim
   ·exact w.elim
  ·exact w.elim) hg hm hb ha (by decide) (by decide) he rfl
end
end L3
namespace L3
open PySem PySem.Spec L2
open PyProof.Rows hiding St
section
variable{X:Cx}{Xw:Nat->Hp->Prop}{a b:Expr}{δa δb:DE}{pos:Pos}
def P1(ha:PD X Xw a δa)(hb:PD X Xw b δb):pF X Xw (.Compare a [.GtE] [b] pos) (dN (d2 QF δa δb)):=f9 K_ (rD λ_ _ _=>rfl) ha hb
def PO(ha:PD X Xw a δa)(hb:PD X Xw b δb):PD X Xw (.Compare a [.GtE] [b] pos) (d2 QF δa δb):=v_ K_ (rD λ_ _ _=>rfl) ha hb
end
end L3
namespace L3
open PySem PySem.Spec L2 SeqAt HT
open PyProof.Rows hiding St
section
variable{X:Cx}{Xw:Nat->Hp->Prop}{a e o:Expr}{δo:DE}{δs:DA}{p v6 bz:Pos}
def Se(n:Int):Value->Bool
 | .int i _=>i==n
 |_=>false
def ye:D->List D->M D
 | .lst ds,[.int n]=>match nums ds with
   |some ns=>if ns.contains n then ab (.int (ns.idxOf n)) else ag
   |none=>ag
 |_,_=>ag
def P8(K:Wm):V->List V->Hp->VK->Prop:=λx vs H Q=>∃(a:Addr) (ns:List Int) (n:Int),x= .ref a/\vs=[.int n]/\H a=some (.lst (ns.map V.int))/\ns.contains n=true/\Q (.int (ns.idxOf n)) H
def Jw:Qx X "list.index" (P8 X.K):=by
 intro f8 s σ H x vs v us Q I rx rv h;obtain⟨a,ns,n,rfl,rfl,hH,hc,q⟩:=h;cases rx;obtain⟨u,rfl,r1⟩:=rv.one;obtain⟨t,rfl⟩:=r1;obtain⟨z,aL,m,r,hl,e⟩:=I.lstM hH;have P3:=r.length;rw[V5] at P3;have at':∀i (h:i<aL.length),∃t,aL[i]= .int (ns[i]'(by omega)) t:=λi h=>by
  have q:=oB i r (by rw[V5];omega);rw[Wa,Wj,V6 (by omega:i<ns.length),Wa,V6 h] at q;exact q
 have hm:n∈ns:=by simpa using hc
 have fJ:ns.idxOf n<ns.length:=abQ.mpr hm;have hz:ns.length<=Ww:=by simpa using z
 have hs:Ww=16777216:=XH;refine call_meets F.slot_list_index ⟨_,e,rfl⟩ F.entry_list_index (F.args_list_index_2 _ _) (list_indexAt a _ m none #[] (.int n t) (Se n) (ns.idxOf n) (by simp;omega) (by omega) ?_ ?_) ⟨e,λy hy=>?_,?_⟩
 ·obtain⟨t',e1⟩:=at' (ns.idxOf n) (by omega);have:ns[ns.idxOf n]=n:=acM fJ;simp[Se,e1,this]
 ·intro k sT IX;have U_:k<aL.length:=by simpa using sT
  obtain⟨t',e1⟩:=at' k U_;have:ns[k]'(by omega)≠n:=λz=>by
   have:=List.not_of_lt_findIdx (p:=(· ==n)) (xs:=ns) (i:=k) IX;rw[z] at this;simp at this
  simp[Se,e1,this]
 ·have hy:y∈aL:=by simpa using hy
  obtain⟨i,hi,rfl⟩:=X_ hy;obtain⟨t',e1⟩:=at' i hi;rw[e1];exact EqAt.int_int _ _ _ _
 ·exact⟨.int (ns.idxOf n),H,I.tok _,⟨_,rfl⟩,q⟩
def JO(ho:PD X Xw o δo)(ha:lr X Xw [e] δs)(ix:Yy o "index" X.env (eval o X.env)=eval o X.env:=by rfl)
 (qF:((YO bz (Wv [e] X.env)).all (λx=>!x.1)&&(aaE bz (Zm [] X.env)).all (λx=>x.1.isSome)&&decide ([e].length+([]:List Zf).length+(if ([]:List Zf).isEmpty then 0 else 1)<30))=true:=by rfl)
 (iy:(v6.endLine==bz.line)=true:=by rfl)(t_:Wv [e] X.env=[(false,eval e X.env)]:=by rfl):PD X Xw (.Call (.Attribute o "index" v6) [e] [] bz) (dM uc ye δo δs):=
 Ld ZH PySem.F.slot_list_index PySem.F.type_list_index Jw Ga (λXw F H x vs d ds Q s hx hv w=>by
  unfold ye at w;split at w
  ·rename_i ds n;obtain⟨v,rfl,h1⟩:=hv.one;cases (show _=_ from h1);obtain⟨a,ws,rfl,h2,h3,_⟩:=hx;split at w
   ·rename_i ns hb;split at w
    ·rename_i hc;exact⟨a,ns,n,rfl,rfl,by rw[<-eY hb h3];exact s _ _ h2,hc,WP.now w s rfl⟩
    ·exact w.elim
   ·exact w.elim
  ·exact w.elim) ho ha ix qF iy t_ rfl
end
section
variable{a:Expr}
end
end L3
namespace L3
open PySem PySem.Spec L2
open PyProof.Rows hiding St
section
variable{prog:WU}{w:World}{A:Xf}{E:Value->We->Prop}{s:We}
def By{d:Addr}{od:Obj}{es:Array XS}{ep:Nat}{Q:Value->We->Prop}(lo:(d==XM)=false)(ho:s.heap.get? d=some od)(hx:od.ExactDict)(hd:od.data= .dict es ep)
 (hQ:Q (.ref s.heap.objs.size) {s with heap:=s.heap.push {cls:= .type "dict_items",data:= .fields #[.ref d]} }):wpAny (model prog w) A (call (.builtin "dict.items") [.ref d]) Q E s:=by
 have hT:s.TypeIs (.ref d) "dict":=⟨od,ho,hx.1⟩
 refine W0 F.slot_dict_items hT F.entry_dict_items ?_ (F.args_dict_items_1 _);unfold YI.«dict.items»;refine V4 ?_;unfold Builtin.Dict.noArgs;refine V4 (aar hT ?_);show wpAny _ _ (pure d) _ _ s;refine V9 ?_;show wpAny _ _ (Yq d>>=_) _ _ s;unfold Yq;rw[ac6 (by rw[lo];exact Wz)];refine V4 (V9 ?_);exact V4 (WY (V9 ⟨_,rfl,hQ⟩))
def AG{v d:Addr}{od:Obj}{es:Array XS}{ep:Nat}{Q:Value->We->Prop}(hv:s.heap.IsItemsView v d)(ho:s.heap.get? d=some od)(OL:od.data= .dict es ep)
 (hQ:Q (.ref s.heap.objs.size) {s with heap:=s.heap.push {cls:= .type "dict_itemiterator",data:= .fields #[.none, .bool false, .ref d, .int 0 0, .int es.size 0, .int ep 0, .none, .none]} }):
 wpAny (model prog w) A (pyIter (.ref v)) Q E s:=by
 obtain⟨ov,Vl,VY,UU⟩:=id hv;refine abl hv.typeIs acz (W0 acz hv.typeIs F.entry_dict_items_iter ?_ (F.args_dict_items_iter_1 _));unfold YI.«dict_items.__iter__»;refine V4 (V9 ?_);refine V4 ?_;unfold Builtin.Dict_items.dictOf;refine V4 (X6 Vl UU (x:= .ref d) rfl (V9 ?_));refine V4 ?_;unfold Builtin.Dict_items.newIterator;refine V4 (Xo ho OL ?_);refine V4 (Ye ho OL ?_);have qH:Xx "dict_itemiterator"=true:=by decide
 simp only[qH,if_true];refine WY (V9 ⟨_,rfl,"dict_itemiterator",_,⟨_,Wr _ rfl,rfl⟩,F.slot_dict_itemiterator_next.lookup,?_⟩)
  (by simp only[sizeOk,Zw,Wk,Wq,Wf,XC,XH];omega)
 simpa[YU,Zw] using hQ
def next_item{it d:Addr}{od:Obj}{es:Array XS}{i ep:Nat}{e:XS}{ok ov:Value}{Q:Option Value->We->Prop}(W1:aaK s.heap it d i es.size ep ok ov)(me:s.heap.get? d=some od)(gU:od.data= .dict es ep)(hx:es[i]? =some e)
 (hQ:∀h',acQ h' it d (i+1) es.size ep e.key e.val s.heap.objs.size->h'.get? s.heap.objs.size=some {cls:= .type "tuple",data:= .seq #[e.key,e.val]}->h'.objs.size=s.heap.objs.size+1->
  (∀b o,b≠it->s.heap.get? b=some o->h'.get? b=some o)->Q (some (.ref s.heap.objs.size)) {s with heap:=h'}):
 wpAny (model prog w) A (Zj (.ref it)) Q E s:=by
 obtain⟨hp,g,dr,tk,os⟩:=s;have hT:aap ⟨hp,g,dr,tk,os⟩ (.ref it) "dict_itemiterator":=⟨_,W1,rfl⟩
 unfold Zj;refine V4 (YS (XA (name:=XO "__next__") hT XE
  (W0 XE hT Zp ?_ (Zh _))))
 refine V4 (V9 ?_);refine V4 ?_;refine V4 ?_
 first | refine V4 (XD hT (V9 ?_)) | refine V4 (X0 hT (V9 ?_))
 refine V4 (ZT W1 rfl ?_);have qH:Xx "dict_itemiterator"=true:=by decide
 simp only[qH,if_true];show wpAny _ _ (if (Wy d==WJ)=true then _ else _) _ _ _;rw[ac6 (show¬((Wy d==WJ)=true) from Wz)];refine V4 (V9 ?_);refine V4 (Xo me gU ?_);rw[ac6 (by simp)];refine V4 (V9 ?_);refine V4 (Ye me gU ?_);rw[ac6 (by simp)];refine V9 ?_;simp only[show¬((i:Int)<0) from by omega,if_false,YL,hx];refine V4 ?_
 first | refine V4 (XD hT (V9 ?_)) | refine V4 (X0 hT (V9 ?_))
 refine V4 (Yh hT ?_);show wpAny _ _ (abR (.ref it) 3 (YU ((i:Int)+1))>>=_) _ _ ⟨hp,g,dr,tk,os⟩;refine V4 (Yk W1 (by simp) λh₁ FQ FZ=>?_)
 replace FZ:XB it hp h₁:=FZ
 replace FQ:aaK h₁ it d (i+1) es.size ep ok ov:=by
  have e:((i+1:Nat):Int)=(i:Int)+1:=by omega
  unfold aaK;rw[e];simpa[YU] using FQ
 have LV:aap ⟨h₁,g,dr,tk,os⟩ (.ref it) "dict_itemiterator":=⟨_,FQ,rfl⟩
 refine V4 (XQ ?_);refine V4 (Yh LV ?_);refine V4 (Yh LV ?_);show wpAny _ _ (X5 (.ref it) 6 e.key e.val) _ _ ⟨h₁,g,dr,tk,os⟩;unfold X5;refine V4 (aaO ?_);have FR:aaK (h₁.push {cls:= .type "tuple",data:= .seq #[e.key,e.val]}) it d (i+1) es.size ep ok ov:=V7 _ FQ;generalize IV:h₁.push {cls:= .type "tuple",data:= .seq #[e.key,e.val]}=h₂ at FR;have Ja:h₁.objs.size=hp.objs.size:=FZ.1;have Il:it<hp.objs.size:=Wi W1;have RZ:h₂.get? hp.objs.size=some {cls:= .type "tuple",data:= .seq #[e.key,e.val]}:=by rw[<-IV,<-Ja];exact Wr _ rfl
 have R9:h₂.objs.size=hp.objs.size+1:=by rw[<-IV,ZC,Ja]
 have QM:∀b o,b≠it->hp.get? b=some o->h₂.get? b=some o:=λb o hb e=>by rw[<-IV];exact V7 _ (FZ.extBut b o hb e)
 show wpAny _ _ (XX (.ref it)>>=_) _ _ ⟨h₂,g,dr,tk,os⟩;rw[Ja];clear IV FQ FZ LV Ja h₁;refine V4 ?_;unfold XX;refine V4 (X6 FR rfl (x:= .none) rfl (V9 ?_));simp only[if_true];refine V4 (X6 FR rfl (x:=ok) rfl ?_);refine V4 (X6 FR rfl (x:=ov) rfl ?_);refine V4 (Yk FR (by simp) λh₃ LZ DM=>?_)
 replace DM:XB it h₂ h₃:=DM
 replace LZ:aaK h₃ it d (i+1) es.size ep e.key ov:=LZ
 refine V4 (Yk LZ (by simp) λh₄ RC Pa=>?_)
 replace Pa:XB it h₃ h₄:=Pa
 replace RC:aaK h₄ it d (i+1) es.size ep e.key e.val:=RC
 refine V4 (Yk RC (by simp) λh₅ RD Pb=>?_)
 replace Pb:XB it h₄ h₅:=Pb
 replace RD:acQ h₅ it d (i+1) es.size ep e.key e.val hp.objs.size:=RD
 refine V4 (Yk RD (by simp) λh₆ RE Pc=>?_)
 replace Pc:XB it h₅ h₆:=Pc
 replace RE:acQ h₆ it d (i+1) es.size ep e.key e.val hp.objs.size:=RE
 refine V4 (wpAny_letGo (V9 (V9 ⟨_,rfl,V9 (hQ h₆ RE ?_ ?_ ?_)⟩)))
 ·exact Pc.extBut _ _ (Xm Il) (Pb.extBut _ _ (Xm Il) (Pa.extBut _ _ (Xm Il) (DM.extBut _ _ (Xm Il) RZ)))
 ·show h₆.objs.size=hp.objs.size+1;rw[Pc.1,Pb.1,Pa.1,DM.1,R9]
 ·exact λb o hb e=>Pc.extBut b o hb (Pb.extBut b o hb (Pa.extBut b o hb (DM.extBut b o hb (QM b o hb e))))
end
def DD{X:Cx}{f8:List (Addr×Obj)}{σ:St}{H:Hp}{s:We}{d:Addr}{od:Obj}{aB:List (List Key×V)}(I:Inv X f8 σ H s)(h:H d=some (.frz od (.dT aB))):
 ∃es ep,(d==XM)=false/\s.heap.get? d=some od/\od.ExactDict/\od.data= .dict es ep/\es.size=aB.length/\∀(i:Nat) (k:List Key) (v:V),aB[i]? =some (k,v)->∃(e:XS) (b:Addr),es[i]? =some e/\e.key= .ref b/\H b=some (.tup (k.map kV))/\RelV v e.val:=by
 obtain⟨ho,z,lo,xs,rel,o,es,ep,h1,h2,h3,h4,h5⟩:=(show ObjOk X.prog X.w H s.heap d (.frz od (.dT aB)) from I.hok d _ h)
 rw[ho] at h1;cases h1;have hl:es.size=aB.length:=by
  rw[<-Wn,h4,V5];exact(Yd rel).symm
 refine⟨es,ep,lo,ho,h2,h3,hl,λi k v hi=>?_⟩;obtain⟨q,e1,e2,e3,e4⟩:=jc rel hi;refine⟨abq (YE (bD X.prog X.w)) q,q.2.1,?_,rfl,e3,e4⟩;rw[<-XF,h4,Wj,e1];rfl
end L3
namespace L3
open PySem PySem.Spec L2 HT
open PyProof.Rows hiding St
end L3
namespace L3
open PySem PySem.Spec L2 SeqAt HT
open PyProof.Rows hiding St
abbrev VT:=List (Key×List Key)
def Tf(ρ:cK):Bool:=ρ.all λx=>match x with | some (.ow _)=>false | _=>true
end L3
namespace L3
open PySem PySem.SetTable
def tM(m:Nat):SetTable:={mask:=m,place:= #[],dummies:= #[],finger:=0,led:=false,moves:=0,plain:=true}
def pos(m:Nat)(h:Int)(n:Nat):Nat:=(Td (tM m) n ((tM m).probeStart h)).j
end L3
namespace L3
open PySem PySem.Spec L2 SeqAt
open PyProof.Rows hiding St
def anyM:List D->M D
 |[.lst ds]=>match bools ds with
  |some bs=>ab (.bl (bs.any id))
  |none=>ag
 |_=>ag
section
variable{X:Cx}{Xw:Nat->Hp->Prop}{e:Expr}{δs:DA}{pos p:Pos}
def Sw:List V->Hp->VK->Prop:=λxs H Q=>∃(a:Addr) (bs:List Bool),xs=[.ref a]/\H a=some (.lst (bs.map V.bl))/\Q (.bl (bs.any id)) H
def any_range{bs:List Bool}:(Wo bs.length).any (λi=>bs.getD i false)=bs.any id:=by
 induction bs with
 |nil=>rfl
 |cons b bs ih=>
  rw[Wf,Z0,Yp,acd,Yp];congr 1
def Dm(hc:X.calm=true):CallR X (.builtin "any") Sw:=by
 intro f8 s σ H xs us Q I r h;obtain⟨a,bs,rfl,hH,q⟩:=h;obtain⟨u,rfl,r1⟩:=vals1 r;cases (show u=_ from r1);obtain⟨aL,r2,pl,hz⟩:=I.list (SqL.of (K:=X.K) hH);obtain rfl:=xa r2;have jI:a≠s.heap.objs.size:=WB (I.hok.lt hH);refine call_any_walk (abm pl.isList ?_);refine⟨s.heap.objs.size,_,_,_,_,_,λi=>bs.getD i false,rfl,Walks.list (A:=X.A.in1) (show X.A.in1.handled=none from I.ok.hd hc) s.heap.objs.size a jI (bs.map X7).toArray,⟨⟨_,Wr _ rfl,rfl,rfl⟩,ace pl.isList λo e=>V7 _ e⟩,?_,λh' tk k=>?_⟩
 ·intro i v s' Q' E' hv hq;have hv:(bs.map X7).toArray[i]? =some v:=hv;rw[acb,Wj] at hv;cases q':bs[i]? with
  |none=>rw[q'] at hv;cases hv
  |some b=>
   rw[q'] at hv;cases hv;have:bs.getD i false=b:=by rw[Wa,q'];rfl
   have hq:Q' (bs.getD i false) s':=hq;rw[this] at hq;exact XJ hq
 ·have e:(Wo (bs.map X7).toArray.size).any (λi=>bs.getD i false)=bs.any id:=by
   rw[Wk,V5];exact any_range
  rw[e];refine⟨.bl (bs.any id),H,I.kept (h':=h') (t':=tk) λb o e'=>k b o (λz=>?_) (V7 _ e'),rfl,q⟩;have z:b=s.heap.objs.size:=by simpa using z
  exact ac_ (Wi e') (by rw[z];exact W4 _)
def MN(hc:X.calm=true)(hg:Gl X "any")(hm:X.mg "any"=none)(hb:WV "any"=some (.builtin "any"))(ha:lr X Xw [e] δs)(he:Wv [e] X.env=[(false,eval e X.env)]:=by rfl):PD X Xw (.Call (.Name "any" p) [e] [] pos) (dA anyM δs):=
 cV (Dm hc) (λXw F H vs ds Q s h w=>by
  unfold anyM at w;split at w
  ·rename_i ds;obtain⟨v,rfl,h1⟩:=h.one;obtain⟨a,ws,rfl,h2,h3,_⟩:=h1;split at w
   ·rename_i bs hb;exact⟨a,bs,rfl,by rw[<-nv hb h3];exact s _ _ h2,WP.now w s rfl⟩
   ·exact w.elim
  ·exact w.elim) hg hm hb ha (by decide) (by decide) he rfl
end
section
variable{X:Cx}{Xw:Nat->Hp->Prop}{a b:Expr}{δa δb:DE}{pos:Pos}
def GZ(ha:PD X Xw a δa)(hb:PD X Xw b δb)(hm:Xq .In b=false:=by rfl):PD X Xw (.Compare a [.In] [b] pos) (d2 (sS false) δa δb):=v_ Ef F0 ha hb hm
end
end L3
namespace L3
open PySem PySem.Spec L2 SeqAt HT
open PyProof.Rows hiding St
end L3
namespace L3
open PySem PySem.Spec L2 PySem.W
open PyProof.Rows hiding St
section
variable{prog:WU}{w:World}{A:Xf}{E:Value->We->Prop}{s:We}
def GC{it d a:Addr}{od oa:Obj}{es:Array XS}{i ep:Nat}{e:XS}{ok ov:Value}{f:Bool}{Q:Option Value->We->Prop}(W1:KdxIt s.heap it d i es.size ep ok ov a f)(ha:s.heap.get? a=some oa)(OG:a≠it)
 (me:s.heap.get? d=some od)(gU:od.data= .dict es ep)(hx:es[i]? =some e)
 (hQ:∀h',KdxIt h' it d (i+1) es.size ep ok ov a true->h'.get? s.heap.objs.size=some {cls:= .type "tuple",data:= .seq #[e.key,e.val]}->h'.objs.size=s.heap.objs.size+1->
  (∀b o,b≠it->s.heap.get? b=some o->h'.get? b=some o)->Q (some (.ref s.heap.objs.size)) {s with heap:=h'}):
 wpAny (model prog w) A (Zj (.ref it)) Q E s:=by
 obtain⟨hp,g,dr,tk,os⟩:=s;have hT:aap ⟨hp,g,dr,tk,os⟩ (.ref it) "dict_itemiterator":=⟨_,W1,rfl⟩
 unfold Zj;refine V4 (YS (XA (name:=XO "__next__") hT XE (W0 XE hT Zp ?_ (Zh _))));refine V4 (V9 (V4 (V4 ?_)))
 first | refine V4 (XD hT (V9 ?_)) | refine V4 (X0 hT (V9 ?_))
 refine V4 (ZT W1 rfl ?_);have qH:Xx "dict_itemiterator"=true:=by decide
 simp only[qH,if_true];show wpAny _ _ (if (Wy d==WJ)=true then _ else _) _ _ _;rw[ac6 (show¬((Wy d==WJ)=true) from Wz)];refine V4 (V9 (V4 (Xo me gU ?_)));rw[ac6 (by simp)];refine V4 (V9 (V4 (Ye me gU ?_)));rw[ac6 (by simp)];refine V9 ?_;simp only[show¬((i:Int)<0) from by omega,if_false,YL,hx];refine V4 ?_
 first | refine V4 (XD hT (V9 ?_)) | refine V4 (X0 hT (V9 ?_))
 refine V4 (Yh hT ?_);show wpAny _ _ (abR (.ref it) 3 (YU ((i:Int)+1))>>=_) _ _ ⟨hp,g,dr,tk,os⟩;refine V4 (Yk W1 (by simp) λh₁ FQ FZ=>?_)
 replace FZ:XB it hp h₁:=FZ
 replace FQ:KdxIt h₁ it d (i+1) es.size ep ok ov a f:=by
  have e:((i+1:Nat):Int)=(i:Int)+1:=by omega
  unfold KdxIt;rw[e];simpa[YU] using FQ
 have LV:aap ⟨h₁,g,dr,tk,os⟩ (.ref it) "dict_itemiterator":=⟨_,FQ,rfl⟩
 refine V4 (XQ (V4 (Yh LV (V4 (Yh LV ?_)))));show wpAny _ _ (X5 (.ref it) 6 e.key e.val) _ _ ⟨h₁,g,dr,tk,os⟩;unfold X5;refine V4 (aaO ?_);have FR:KdxIt (h₁.push {cls:= .type "tuple",data:= .seq #[e.key,e.val]}) it d (i+1) es.size ep ok ov a f:=V7 _ FQ;generalize IV:h₁.push {cls:= .type "tuple",data:= .seq #[e.key,e.val]}=h₂ at FR;have Ja:h₁.objs.size=hp.objs.size:=FZ.1;have Il:it<hp.objs.size:=Wi W1;have RZ:h₂.get? hp.objs.size=some {cls:= .type "tuple",data:= .seq #[e.key,e.val]}:=by rw[<-IV,<-Ja];exact Wr _ rfl
 have R9:h₂.objs.size=hp.objs.size+1:=by rw[<-IV,ZC,Ja]
 have QM:∀b o,b≠it->hp.get? b=some o->h₂.get? b=some o:=λb o hb e=>by rw[<-IV];exact V7 _ (FZ.extBut b o hb e)
 show wpAny _ _ (XX (.ref it)>>=_) _ _ ⟨h₂,g,dr,tk,os⟩;rw[Ja];clear IV FQ FZ LV Ja h₁;refine V4 ?_;unfold XX;refine V4 (X6 FR rfl (x:=YU a) rfl ?_);show wpAny _ _ (loadIfAlive ((a:Int).toNat)>>=_) _ _ _;rw[YL];refine V4 (kdx_alive (QM a oa OG ha) ?_);simp only[Option.isNone_some,WG,if_false];refine V4 (X6 FR rfl (x:= .bool f) rfl ?_);have fin:∀h₃:Heap,KdxIt h₃ it d (i+1) es.size ep ok ov a true->XB it h₂ h₃->Q (some (.ref hp.objs.size)) ⟨h₃,g,dr,tk,os⟩:=λh₃ LZ DM=>
  hQ h₃ LZ (DM.extBut _ _ (Xm Il) RZ) (by show h₃.objs.size=hp.objs.size+1;rw[DM.1,R9]) λb o hb e=>DM.extBut b o hb (QM b o hb e)
 cases f with
 |true=>
  rw[ac6 (show¬((X7 true !=X7 true)=true) from Wz)];refine V9 ?_;simp only[WG,if_false];exact V9 (V9 ⟨_,rfl,V9 (fin h₂ FR (aab _ _))⟩)
 |false=>
  rw[ac5 (show (X7 false !=X7 true)=true from rfl)];refine V4 (Yk FR (by simp) λh₃ LZ DM=>V9 ?_);simp only[WG,if_false];exact V9 (V9 ⟨_,rfl,V9 (fin h₃ LZ DM)⟩)
def BW{it d:Addr}{od:Obj}{es:Array XS}{i ep:Nat}{y0 y1 ok ov:Value}{Q:Option Value->We->Prop}(hh:A.handled=none)
 (W1:s.heap.get? it=some {cls:= .type "dict_itemiterator",dict:=none,data:= .fields #[y0,y1, .ref d, .int i 0, .int es.size 0, .int ep 0,ok,ov],slots:= #[]})(U4:es.size<=i)(me:s.heap.get? d=some od)(gU:od.data= .dict es ep)
 (hQ:∀h',ZS it s.heap h'->Q none {s with heap:=h'}):wpAny (model prog w) A (Zj (.ref it)) Q E s:=by
 have hT:s.TypeIs (.ref it) "dict_itemiterator":=⟨_,W1,rfl⟩
 unfold Zj;refine V4 (YS (XA (name:=XO "__next__") hT XE (W0 XE hT Zp ?_ (Zh _))));refine V4 (V9 (V4 (V4 ?_)))
 first | refine V4 (XD hT (V9 ?_)) | refine V4 (X0 hT (V9 ?_))
 refine V4 (ZT W1 rfl ?_);have qH:Xx "dict_itemiterator"=true:=by decide
 simp only[qH,if_true];show wpAny _ _ (if (Wy d==WJ)=true then _ else _) _ _ s;rw[ac6 (show¬((Wy d==WJ)=true) from Wz)];refine V4 (V9 (V4 (Xo me gU ?_)));rw[ac6 (by simp)];refine V4 (V9 (V4 (Ye me gU ?_)));rw[ac6 (by simp)];refine V9 ?_;simp only[show¬((i:Int)<0) from by omega,if_false,YL,ab0 U4];refine V4 ?_
 first | refine V4 (XD hT (V9 ?_)) | refine V4 (X0 hT (V9 ?_))
 show wpAny _ _ (abR (.ref it) 2 .none>>=_) _ _ s;refine V4 (Zq W1 rfl (by simp) ?_);show wpAny _ _ (newExc (.type "StopIteration") []>>=_) _ _ _;refine V4 ?_;simp only[newExc,newTuple];refine V4 (WY ?_ (by size_fits));refine V4 (m:=ZV _ _) (Y7 (a:=WJ) (by first | rfl | (simp only[ZV];rfl)) ?_);refine WY ?_ (by size_fits);simp only[raiseNew];refine V4 (acB ?_);rw[show A.in1.handled=none from hh];refine V4 (V9 (wpAny_throw ?_));refine V4 (Zv (T:="StopIteration") (b:=true) ⟨_,Wr _ rfl,rfl⟩ acg ?_);exact V9 (hQ _ (((WE ..).extBut.push _).push _))
def Prs(es:Array XS)(lo:Addr)(h:Heap)(n:Nat)(as:List Addr):Prop:=as.length=n/\as.Nodup/\∀(j:Nat) (a:Addr),as[j]? =some a->lo<a/\∃e,es[j]? =some e/\h.get? a=some {cls:= .type "tuple",data:= .seq #[e.key,e.val]}
def Prs.keep{es:Array XS}{lo Ua:Addr}{h h':Heap}{n:Nat}{as:List Addr}(p:Prs es lo h n as)(hl:Ua<=lo)(hk:∀b o,lo<b->h.get? b=some o->h'.get? b=some o):Prs es Ua h' n as:=⟨p.1,p.2.1,λj a hj=>by
 obtain⟨h1,e,h2,h3⟩:=p.2.2 j a hj;exact⟨ZA hl h1,e,h2,hk a _ h1 h3⟩⟩
variable{R:Result->We->Prop}
def Jg{S I d:Addr}{od:Obj}{es:Array XS}{ep:Nat}(hh:A.handled=none)(OF:S<I)(QI:d≠S)(UK:d≠I)(gU:od.data= .dict es ep)(hn:es.size<=Ww)(res:Value){h₁:Heap}
 (hR:∀h' tk v0 c as,(∀b o,b≠S->b≠I->h₁.get? b=some o->h'.get? b=some o)->h'.get? S=some {cls:= .type "list",dict:=none,data:= .seq v0 c,slots:= #[]}->Prs es I h' es.size as->v0.toList=as.map Wy->R (.ok (.ret res)) {s with heap:=h',toks:=tk}):
 ∀(k i:Nat) (h:Heap) (tk c:Nat) (v0:Array Value) (as:List Addr),es.size - i=k->i<=es.size->KdxSt h I d S i es.size ep->h.get? d=some od->(∀b o,b≠S->b≠I->h₁.get? b=some o->h.get? b=some o)->
  h.get? S=some {cls:= .type "list",dict:=none,data:= .seq v0 c,slots:= #[]}->v0.toList=as.map Wy->Prs es I h i as->I<h.objs.size->
  aae (model prog w) A (.builtin "list.extend.loop" ⟨[.ref S, .ref I,res],[]⟩) R {s with heap:=h,toks:=tk}:=by
 have jI:S≠I:=WB OF;intro k;induction k with
 |zero=>
  intro i h tk c v0 as hk hi t_ hD jH hS i3 hP QG;have nI:i=es.size:=by omega
  subst nI;refine aaw F.entry_extend_loop ?_;rw[Zi Y0 _];show wpAny _ A.in1 (Zj (.ref I)>>=_) _ _ _;have last:∀h',ZS I h h'->R (.ok (.ret res)) {s with heap:=h',toks:=tk}:=λh' he=>hR h' tk v0 c as (λb o h1 h2 e=>he b o h2 (jH b o h1 h2 e)) (he S _ jI hS) (hP.keep (Wg _) λb o hb e=>he b o (Xm hb) e) i3;rcases t_ with⟨_,ok,ov,W1⟩ | ⟨ok,ov,a,f,oa,W1,_,_,_⟩
  ·rename_i e0;rw[<-e0] at W1;exact V4 (BW (s:={s with heap:=h,toks:=tk}) (A:=A.in1) hh W1 (Wg _) hD gU λh' he=>V9 (last h' he))
  ·exact V4 (BW (s:={s with heap:=h,toks:=tk}) (A:=A.in1) hh W1 (Wg _) hD gU λh' he=>V9 (last h' he))
 |succ k ih=>
  intro i h tk c v0 as hk hi t_ hD jH hS i3 hP QG;have fJ:i<es.size:=by omega
  obtain⟨e,hx⟩:∃e,es[i]? =some e:=⟨es[i],WS fJ⟩
  have hsz:v0.size=i:=by rw[<-Wn,i3,V5,hP.1]
  have Tz:S<h.objs.size:=Wi hS;refine aaw F.entry_extend_loop ?_;rw[Zi Y0 _];show wpAny _ A.in1 (Zj (.ref I)>>=_) _ _ _;have go:∀h':Heap,KdxSt h' I d S (i+1) es.size ep->h'.get? h.objs.size=some {cls:= .type "tuple",data:= .seq #[e.key,e.val]}->(∀b o,b≠I->h.get? b=some o->h'.get? b=some o)->
   wpAny (model prog w) A.in1 (updateSeq S (·.push (Wy h.objs.size))>>=λ_=>again (.builtin "list.extend.loop" ⟨[.ref S, .ref I,res],[]⟩)) (λfin s'=>match fin with | .done f=>R (.ok f) s' | .again c'=>c'.quiet=true/\aae (model prog w) A c' R s') (λe s'=>R (.error e) s') {s with heap:=h',toks:=tk}:=λh' RX ht QL=>by
   have ET:=QL S _ jI hS;have up:∀b o,b≠S->h'.get? b=some o->(h'.update S (WO (·.push (Wy h.objs.size)))).get? b=some o:=λb o hb e=>(Zb _ _ (Xp hb)).trans e;have OZ:=up _ _ (Xm Tz) ht;refine V4 (ab1 ET rfl (V9 ⟨aa6 Y0 _,ih (i+1) _ tk _ (v0.push (Wy h.objs.size)) (as++[h.objs.size]) (by omega) fJ (RX.keep up (Xp jI)) (up d _ QI (QL d _ UK hD))
    (λb o h1 h2 e=>up b o h1 (QL b o h2 (jH b o h1 h2 e))) (Xs _ ET rfl) (by rw[Array.toList_push,i3,Xk];rfl) ⟨by rw[Wq,hP.1];rfl,?_,λj b hj=>?_⟩ (Yn QG (Wi OZ))⟩) (by rw[hsz];omega) (by show (v0.push (Wy h.objs.size)).size<=Ww+1;rw[Array.size_push,hsz];omega))
   ·refine XG.mpr ⟨hP.2.1,by simp,λa ha b hb z=>?_⟩;obtain⟨j,hj⟩:=aca.mp ha;obtain⟨_,e',_,h3⟩:=hP.2.2 j a hj;have:=Wi h3;rw[z,X1.mp hb] at this;exact W4 _ this
   by_cases NS:j<as.length
   ·rw[Xb NS] at hj;obtain⟨h1,e',h2,h3⟩:=hP.2.2 j b hj;exact⟨h1,e',h2,up b _ (Xm (Yn OF h1)) (QL b _ (Xm h1) h3)⟩
   ·rw[W8 (by omega)] at hj;by_cases h0:j - as.length=0
    ·rw[h0] at hj;cases hj;exact⟨QG,e,by rw[show j=i by have:=hP.1;omega];exact hx,OZ⟩
    ·rw[Zg (by simp;omega)] at hj;cases hj
  rcases t_ with⟨e0,ok,ov,W1⟩ | ⟨ok,ov,a,f,oa,W1,ha,OG,UP⟩
  ·subst e0;refine V4 (next_item (s:={s with heap:=h,toks:=tk}) (A:=A.in1) W1 hD gU hx λh' h1 h2 h3 h4=>?_);exact go h' (.inr ⟨e.key,e.val,_,false,_,h1,h2,Xm QG,Xm Tz⟩) h2 h4
  ·refine V4 (GC (s:={s with heap:=h,toks:=tk}) (A:=A.in1) W1 ha OG hD gU hx λh' h1 h2 h3 h4=>?_);exact go h' (.inr ⟨ok,ov,a,true,oa,h1,h4 a oa OG ha,OG,UP⟩) h2 h4
def DV{r d:Addr}{od:Obj}{es:Array XS}{ep:Nat}(hh:A.handled=none)(hv:s.heap.IsItemsView r d)(me:s.heap.get? d=some od)(gU:od.data= .dict es ep)(hn:es.size<=Ww){S:Addr}(UN:S≠r)(QI:d≠S)(res:Value){c₀:Nat}(hS:s.heap.get? S=some {cls:= .type "list",data:= .seq #[] c₀})
 (hR:∀h' tk v0 c as,(∀b o,b≠S->s.heap.get? b=some o->h'.get? b=some o)->h'.get? S=some {cls:= .type "list",dict:=none,data:= .seq v0 c,slots:= #[]}->Prs es s.heap.objs.size h' es.size as->v0.toList=as.map Wy->R (.ok (.ret res)) {s with heap:=h',toks:=tk}):
 wpAny (model prog w) A.in1 (Zd (.ref S) (.ref r) res)
  (λfin s'=>match fin with | .done f=>R (.ok f) s' | .again c'=>c'.quiet=true/\aae (model prog w) A c' R s') (λe s'=>R (.error e) s') s:=by
 have OF:S<s.heap.objs.size:=Wi hS;have UT:d<s.heap.objs.size:=Wi me;have key:∀(h:Heap) (c₁ tk:Nat),(∀b o,b≠S->(s.heap.push {cls:= .type "dict_itemiterator",data:= .fields #[.none, .bool false, .ref d, .int 0 0, .int es.size 0, .int ep 0, .none, .none]}).get? b=some o->h.get? b=some o)->
  h.get? S=some {cls:= .type "list",data:= .seq #[] c₁}->aae (model prog w) A (.builtin "list.extend.loop" ⟨[.ref S, .ref s.heap.objs.size,res],[]⟩) R {s with heap:=h,toks:=tk}:=λh c₁ tk hk LU=>by
  have hI:=hk s.heap.objs.size _ (Xm OF) (Wr _ rfl);exact Jg (s:=s) (h₁:=s.heap) hh OF QI (WB UT) gU hn res (λh' VP v0 c as sT ET hP i3=>hR h' VP v0 c as (λb o hb e=>sT b o hb (WB (Wi e)) e) ET hP i3)
   es.size 0 h tk c₁ #[] [] (Nat.sub_zero _) (WQ _) (.inl ⟨rfl, .none, .none,hI⟩) (hk d _ QI (V7 _ me)) (λb o hb _ e=>hk b o hb (V7 _ e)) LU rfl ⟨rfl,Yj,λj a hj=>by simp at hj⟩ (Wi hI)
 unfold Zd;refine V4 (wpAny_typeOf (T:="dict_items") hv.typeIs ?_);have h1:aaN (.ref S) (.ref r)=false:=by simp[aaN,UN]
 have h2:(ZF "dict_items"==ZF "list")=false:=by decide
 have h3:(ZF "dict_items"==ZF "tuple")=false:=by decide
 simp only[h1,h2,h3,aaL,WG,if_false];refine V4 (AG hv me gU ?_);have LU:=V7 {cls:= .type "dict_itemiterator",data:= .fields #[.none, .bool false, .ref d, .int 0 0, .int es.size 0, .int ep 0, .none, .none]} hS;refine V4 (XQ (kdx_hint (let ⟨o,ho,hc,_⟩:=hv;⟨o,V7 _ ho,hc⟩) ?_));refine wpAny_ite_split (λ_=>?_) (λ_=>V9 ⟨aa6 Y0 _,key _ c₀ _ (λb o _ e=>e) LU⟩);refine V4 (acr (V4 ?_));show wpAny _ _ (updateSeq S (·.push .none)>>=λ_=>updateSeq S (·.pop)) _ _ _;refine V4 (ab1 LU rfl ?_);have TB:=Xs (WO (·.push WJ)) LU rfl;refine ab1 (hz:=by seq_fits) TB rfl ?_;exact V9 ⟨aa6 Y0 _,key _ _ _ (λb o hb e=>(Zb _ _ (Xp hb)).trans ((Zb _ _ (Xp hb)).trans e)) (Xs (WO (·.pop)) TB rfl)⟩
def AF{r d:Addr}{od:Obj}{es:Array XS}{ep:Nat}{C:List Value->We->Prop}(hh:A.handled=none)(hv:s.heap.IsItemsView r d)(me:s.heap.get? d=some od)(gU:od.data= .dict es ep)(hn:es.size<=Ww)
 (h:∀(h':Heap) (tk:Nat) (as:List Addr),(∀b o,s.heap.get? b=some o->h'.get? b=some o)->Prs es s.heap.objs.size h' es.size as->C (as.map Wy) {s with heap:=h',toks:=tk}):
 wpAny (model prog w) A (collect (.ref r)) C E s:=by
 obtain⟨rv,TX,Vn,TV⟩:=id hv;have hr:r<s.heap.objs.size:=Wi TX;have hd:d<s.heap.objs.size:=Wi me;unfold collect;refine V4 (wpAny_runValue (aaw entry_proto_collect' ?_));rw[Zi F.plain_proto_collect _];show wpAny _ A.in1 (newList []>>=λl=>again (.builtin "list.__iadd__" ⟨[l, .ref r],[]⟩)) _ _ s;refine V4 (WY (V9 ⟨aa6 F.plain_list_iadd _,aaw entry_list_iadd' ?_⟩));rw[Zi F.plain_list_iadd _];have LU:(s.heap.push {cls:= .type "list",data:= .seq ([]:List Value).toArray}).get? s.heap.objs.size=some {cls:= .type "list",data:= .seq #[]}:=Wr _ rfl;show wpAny _ A.in1 (Zd (.ref s.heap.objs.size) (.ref r) (.ref s.heap.objs.size)) _ _ _;have fin:∀{Z:Prop}(q:Result) (s':We),(∃(h':Heap) (tk:Nat) (lY:Array Value) (c':Nat) (as:List Addr),q= .ok (.ret (.ref s.heap.objs.size))/\s'={s with heap:=h',toks:=tk}/\(∀b o,s.heap.get? b=some o->h'.get? b=some o)/\
  h'.get? s.heap.objs.size=some {cls:= .type "list",dict:=none,data:= .seq lY c',slots:= #[]}/\Prs es s.heap.objs.size h' es.size as/\lY.toList=as.map Wy)->
  (∀(h':Heap) (tk:Nat) (lY:Array Value) (c':Nat),q= .ok (.ret (.ref s.heap.objs.size))->s'={s with heap:=h',toks:=tk}->h'.get? s.heap.objs.size=some {cls:= .type "list",dict:=none,data:= .seq lY c',slots:= #[]}->C lY.toList {s with heap:=h',toks:=tk}->Z)->Z:=λq s' ⟨h',tk,lY,c',as,e1,e2,hk,ET,hP,i3⟩ k=>k h' tk lY c' e1 e2 ET (by rw[i3];exact h h' tk as hk hP)
 refine Xz (DV (A:=A) (s:={s with heap:=s.heap.push {cls:= .type "list",data:= .seq ([]:List Value).toArray} })
  (R:=λ(q:Result) (s':We)=>∃(h':Heap) (tk:Nat) (lY:Array Value) (c':Nat) (as:List Addr),q= .ok (.ret (.ref s.heap.objs.size))/\s'={s with heap:=h',toks:=tk}/\(∀b o,s.heap.get? b=some o->h'.get? b=some o)/\
   h'.get? s.heap.objs.size=some {cls:= .type "list",dict:=none,data:= .seq lY c',slots:= #[]}/\Prs es s.heap.objs.size h' es.size as/\lY.toList=as.map Wy)
  hh ⟨rv,V7 _ TX,Vn,TV⟩ (V7 _ me) gU hn (Xm hr) (WB hd) (.ref s.heap.objs.size) LU
  (λh' tk lY c' as hk ET hP i3=>⟨h',tk,lY,c',as,rfl,rfl,λb o e=>hk b o (WB (Wi e)) (V7 _ e),ET,hP.keep (by show s.heap.objs.size<=(s.heap.push _).objs.size;rw[ZC];exact ZX _) (λ_ _ _ e=>e),i3⟩)) (λfn s' x=>?_) λe s' x=>?_
 ·cases fn with
  |done f=>
   refine fin _ _ x λh' tk lY c' e1 e2 ET hC=>?_;cases e1;subst e2;show wpAny _ A (load s.heap.objs.size>>=_) _ _ _;exact V4 (wpAny_load ET (V9 hC))
  |again c₁=>
   refine⟨x.1,abC x.2 λq t0 y=>fin _ _ y λh' tk lY c' e1 e2 ET hC=>?_⟩;subst e1 e2;show wpAny _ A (load s.heap.objs.size>>=_) _ _ _;exact V4 (wpAny_load ET (V9 hC))
 ·obtain⟨_,_,_,_,_,e',_⟩:=x;cases e'
end
end L3
namespace L3
open PySem PySem.Spec L2 PySem.W SeqAt
open PyProof.Rows hiding St
section
variable{prog:WU}{w:World}{A:Xf}{E:Value->We->Prop}{s:We}
def uW{R:Array Nat->Prop}{a:Addr}{c:Nat}{vs:List Value}{bt:Nat->Nat->Bool}{κ:SortKind}{P:ab8->We->Prop}{G:Heap->Prop}(ho:s.heap.get? a=some (W_ "list" vs.toArray c))(pI:vs.length<64)
 (RU:2<=vs.length->PN vs.length (bI bt (kas_sort vs.length))/\R (bI bt (kas_sort vs.length)))(Vp:∀p,vs.length<2->R p)(hG:∀h',(∀b o,b≠a->s.heap.get? b=some o->h'.get? b=some o)->G h')
 (yd:∀(h':Heap) (Q:SortKind->We->Prop),G h'->2<=vs.length->Q κ {s with heap:=h'}->wpAny (model prog w) A (keyKind' vs.toArray) Q E {s with heap:=h'})
 (LW:∀(h':Heap),G h'->∀i j C,i<vs.length->j<vs.length->C (bt i j) {s with heap:=h'}->kas_ask prog w A κ vs i j C {s with heap:=h'})
 (h:∀(p:Array Nat) (h':Heap) (c':Nat),PN vs.length p->R p->h'.get? a=some (W_ "list" (W5 (p.toList.map λi=>vs.getD i WJ)) c')->
  (∀b o,b≠a->s.heap.get? b=some o->h'.get? b=some o)->P (.done (.ret .none)) {s with heap:=h'}):wpAny (model prog w) A (YI.«list.sort» ⟨[.ref a],[]⟩) P E s:=by
 have nq:Ww=16777216:=XH;have s1:=WE s.heap a (WO λ_=>(#[]:Array Value));obtain⟨e1,O0⟩:∃e1,(s.heap.update a (WO λ_=>(#[]:Array Value))).get? a=some (W_ "list" #[] e1):=⟨_,aau ho λ_=> #[]⟩
 have k1:∀b o,b≠a->s.heap.get? b=some o->(((s.heap.update a (WO λ_=>(#[]:Array Value))).push (W_ "tuple" vs.toArray 0)).push (W_ "list" #[] 0)).get? b=some o:=λb o hb e=>
  V7 _ (V7 _ ((s1.2 b hb).trans e))
 have L5:=V7 (W_ "list" #[] 0) (V7 (W_ "tuple" vs.toArray 0) O0);have g3:=hG _ k1;have fin:∀(st:SortSt) (p:Array Nat),PN vs.length p->R p->(arrOf st).map (·.2)=W5 (p.toList.map λi=>vs.getD i WJ)->abS st=none->
  wpAny (model prog w) A (do
   let touched:=(<-seqEpoch a) !=e1
   aaR (.ref a) λ_=>(arrOf st).map (·.2)
   if let some e:=abS st then rule "list.sort.comparison-raised";throw e
   if touched then rule "list.sort.modified";raiseError "ValueError" "list modified during sort"
   ret .none) P E {s with heap:=((s.heap.update a (WO λ_=>(#[]:Array Value))).push (W_ "tuple" vs.toArray 0)).push (W_ "list" #[] 0)}:=λst p hp hr he hf=>by
  have hz:(W5 (p.toList.map λi=>vs.getD i WJ)).size=vs.length:=by rw[Wk,V5,Wn,hp.sz]
  rw[he,hf];refine V4 (ab4 L5 rfl (V4 (aa7 L5 rfl ?_ (WQ _) (by rw[hz,nq];omega))));simp only[bne_self_eq_false,WG,if_false];have s2:=WE (((s.heap.update a (WO λ_=>(#[]:Array Value))).push (W_ "tuple" vs.toArray 0)).push (W_ "list" #[] 0)) a (WO λ_=>W5 (p.toList.map λi=>vs.getD i WJ));exact V9 (h p _ _ hp hr (aau L5 λ_=>W5 (p.toList.map λi=>vs.getD i WJ)) λb o hb e=>(s2.2 b hb).trans (k1 b o hb e))
 rw[list_sort_plain];refine V4 (listItems_at ho rfl (V4 (aa7 ho rfl (V4 (ab4 O0 rfl ?_)) (by rw[Wk,nq];omega) (WQ _))));refine V4 (aaO (V4 (Zx (XQ ?_) (WQ _))) (by show vs.length<=_;rw[nq];omega));show wpAny (model prog w) A _ P E {s with heap:=((s.heap.update a (WO λ_=>(#[]:Array Value))).push (W_ "tuple" vs.toArray 0)).push (W_ "list" #[] 0)}
 dsimp only
 by_cases hs:vs.toArray.size<2
 ·rw[ac5 hs,ac5 hs];have t8:vs.length<2:=by simpa using hs
  refine V4 (V9 (V4 (V9 ?_)));refine fin (SortSt.mk' general' (vs.toArray.zip vs.toArray) #[] 7 none) (W5 (Wo vs.length)) ⟨by simp,λi hi=>?_,λi j hi hj _=>by omega⟩ (Vp _ t8) ?_ rfl
  ·rw[cw];simp[hi]
  ·show (vs.toArray.zip vs.toArray).map (·.2)=_;apply ac3.mp;refine XN (by simp) λi a1 a2=>?_;simp at a1;simp[a1]
 ·rw[ac6 hs,ac6 hs];have t8:2<=vs.length:=by
   have:¬vs.length<2:=by simpa using hs
   omega
  refine V4 (yd _ _ g3 t8 ?_);obtain⟨r1,r2⟩:=RU t8;have run:=kat_run (prog:=prog) (w:=w) (A:=A) (E:=E) (ks:=vs) (vs:=vs) (κ:=κ) (Q:=λst s'=>s'={s with heap:=((s.heap.update a (WO λ_=>(#[]:Array Value))).push (W_ "tuple" vs.toArray 0)).push (W_ "list" #[] 0)}/\∃p,PN vs.length p/\R p/\(arrOf st).map (·.2)=W5 (p.toList.map λi=>vs.getD i WJ)/\abS st=none)
   (G:=λp s'=>s'={s with heap:=((s.heap.update a (WO λ_=>(#[]:Array Value))).push (W_ "tuple" vs.toArray 0)).push (W_ "list" #[] 0)}/\PN vs.length p/\R p) rfl t8 pI
   (λp lX s' a1 a2 a3 a4=>⟨a4.1,p,a4.2.1,a4.2.2,kat_snds rfl a2,a3⟩)
   (wp_run (s:={s with heap:=((s.heap.update a (WO λ_=>(#[]:Array Value))).push (W_ "tuple" vs.toArray 0)).push (W_ "list" #[] 0)}) (λi j C hi hj hC=>LW _ g3 i j C hi hj hC) (tK (by omega)) ⟨rfl,r1,r2⟩)
  refine V4 (Xz run ?_ λ_ _ e=>e);rintro⟨⟨⟩,lX⟩ s' ⟨rfl,p,a1,a2,a3,a4⟩;exact fin lX p a1 a2 a3 a4
def HH{a:Addr}{c:Nat}{vs:List Value}{bt:Nat->Nat->Bool}{κ:SortKind}{P:ab8->We->Prop}{G:Heap->Prop}(ho:s.heap.get? a=some (W_ "list" vs.toArray c))(pI:vs.length<64)
 (hb:2<=vs.length->Lt vs.length bt)(hG:∀h',(∀b o,b≠a->s.heap.get? b=some o->h'.get? b=some o)->G h')
 (yd:∀(h':Heap) (Q:SortKind->We->Prop),G h'->2<=vs.length->Q κ {s with heap:=h'}->wpAny (model prog w) A (keyKind' vs.toArray) Q E {s with heap:=h'})
 (LW:∀(h':Heap),G h'->∀i j C,i<vs.length->j<vs.length->C (bt i j) {s with heap:=h'}->kas_ask prog w A κ vs i j C {s with heap:=h'})
 (h:∀(p:Array Nat) (h':Heap) (c':Nat),PN vs.length p->Ri bt p vs.length->h'.get? a=some (W_ "list" (W5 (p.toList.map λi=>vs.getD i WJ)) c')->
  (∀b o,b≠a->s.heap.get? b=some o->h'.get? b=some o)->P (.done (.ret .none)) {s with heap:=h'}):wpAny (model prog w) A (YI.«list.sort» ⟨[.ref a],[]⟩) P E s:=
 uW ho pI (λh2=>zu (hb h2) h2) (λp hl i j jC hj=>by omega) hG yd LW h
def Cr:∀a b:List Int,HT.lexLt a b=cX a b
 |[],[]=>rfl
 |[],_::_=>rfl
 |_::_,[]=>rfl
 |x::a,y::b=>by rw[HT.lexLt_cons,cX,Cr a b]
def nP(n m:Int):∀{k l:List Int},k.length=l.length->cX (k++[n]) (l++[m])=if k=l then decide (n<m) else cX k l
 |[],[],_=>by
  show (if n=m then false else decide (n<m))=decide (n<m);by_cases h:n=m
  ·rw[ac5 h,ac8 (by omega)]
  ·rw[ac6 h]
 |[],_::_,h=>by simp at h
 |_::_,[],h=>by simp at h
 |x::k,y::l,h=>by
  show (if x=y then cX (k++[n]) (l++[m]) else decide (x<y))=if x::k=y::l then decide (n<m) else if x=y then cX k l else decide (x<y)
  rw[nP n m (by simpa using h)];by_cases e:x=y
  ·subst e;rw[ac5 rfl,ac5 rfl];by_cases e2:k=l
   ·subst e2;rw[ac5 rfl,ac5 rfl]
   ·rw[ac6 e2,ac6 (λz=>e2 (acP z).2)]
  ·rw[ac6 e,ac6 e,ac6 (λz=>e (acP z).1)]
def E6{p p' b b':Addr}{k k':List Int}{n n':Int}{t t':Tok}{C:Bool->We->Prop}(hp:s.heap.get? p=some {cls:= .type "tuple",data:= .seq #[.ref b, .int n t]})(QQ:s.heap.get? p'=some {cls:= .type "tuple",data:= .seq #[.ref b', .int n' t']})
 (heq:EqAt A s (.ref b) (.ref b') (decide (k=k')))(fJ:∀(Q:Value->We->Prop),Q (.bool (cX k k')) s->wpAny (model prog w) A (Xd .Lt (.ref b) (.ref b')) Q (λ_ _=>False) s)(hk:k.length=k'.length)(h:C (cX (k++[n]) (k'++[n'])) s):
 wpAny (model prog w) A (keyLt' (tuples' false) (.ref p) (.ref p')) C E s:=by
 rw[nP n n' hk] at h;refine kat_lt hp rfl QQ rfl (kat_cons (heq prog w _ _ ?_));by_cases e:k=k'
 ·rw[ac5 e] at h;rw[ac7 e];refine kat_yes (kat_cons (abK ?_));by_cases q:n=n'
  ·subst q;rw[show (n==n)=true by simp];refine kat_yes (kat_nil ?_);rw[ac8 (by omega)] at h;exact h
  ·rw[show (n==n')=false by simpa using q];exact kat_no (kat_one _ _ (ZQ h))
 ·rw[ac6 e] at h;rw[ac8 e];exact kat_no (kat_one _ _ (fJ _ h))
def qS{h:Heap}{p b:Nat->Addr}{v:Nat->Value}:∀(l:List Nat),(∀i∈l,h.get? (p i)=some {cls:= .type "tuple",data:= .seq #[.ref (b i),v i]})->KatTups h (l.map λi=> .ref (p i)) (l.map λi=> .ref (b i))
 |[],_=>KatTups.nil
 |i::l,hl=>KatTups.cons (hl i (V_ ..)) rfl rfl rfl (qS l λj hj=>hl j (V8 _ hj))
end
def pL(l:List (Addr×HO))(H:Hp):Hp:=l.foldl (λH p=>upd H p.1 p.2) H
def mn{b:Addr}:∀{l:List (Addr×HO)}{H:Hp},(∀p∈l,p.1≠b)->pL l H b=H b
 |[],_,_=>rfl
 |p::l,H,h=>by
  show pL l (upd H p.1 p.2) b=_;rw[mn λq hq=>h q (V8 _ hq),aA (Xp (h p (V_ ..)))]
def vH:∀{l:List (Addr×HO)}{H:Hp}{p:Addr×HO},(l.map (·.1)).Nodup->p∈l->pL l H p.1=some p.2
 |q::l,H,p,hn,hp=>by
  rw[Wb] at hn;have hn:=Xe.mp hn;show pL l (upd H q.1 q.2) p.1=_;rcases Ws.mp hp with rfl | hp
  ·rw[mn λr hr z=>hn.1 (Wc.mpr ⟨r,hr,z⟩),aK]
  ·exact vH hn.2 hp
def xQ:∀{l:List (Addr×HO)}{F H:Hp},Same F H->(l.map (·.1)).Nodup->(∀p∈l,H p.1=none)->Ext F H (pL l F) (pL l H)
 |[],_,_,h,_,_=>Ext.refl h
 |p::l,F,H,h,hn,hp=>by
  rw[Wb] at hn;have hn:=Xe.mp hn;have e:=Ext.lay (o:=p.2) h (hp p (V_ ..));exact e.trans (xQ e.fh hn.2 λq hq=>by
   rw[aA (λz=>hn.1 (Wc.mpr ⟨q,hq,z⟩))];exact hp q (V8 _ hq))
def F9{X:Cx}{f8:List (Addr×Obj)}{σ:St}{H:Hp}{s:We}{h':Heap}{t':Nat}{l:List (Addr×HO)}(I:Inv X f8 σ H s)(k:∀b u,s.heap.get? b=some u->h'.get? b=some u)(hn:(l.map (·.1)).Nodup)(hp:∀p∈l,s.heap.objs.size<=p.1)
 (new:∀p∈l,ObjOk X.prog X.w (pL l H) h' p.1 p.2):Inv X f8 σ (pL l H) {s with heap:=h',toks:=t'}:=by
 have out:∀b,b<s.heap.objs.size->pL l H b=H b:=λb hb=>mn λp hq z=>by
  have:=hp p hq;rw[z] at this;exact ac_ (WM hb this) (W4 _)
 have old:∀b u,H b=some u->pL l H b=some u:=λb u e=>(out b (I.hok.lt e)).trans e;refine I.un ⟨λb u q _ _ _=>k b u q,λb u q _ _ _=>⟨u.slots,k b u q⟩,λb u q n _=>(out b (Wi q)).trans n,λb u q _=>⟨u,k b u q⟩,λb xs q=>old b _ q,λb u xs q=>old b _ q,λb ps q=>⟨#[],by rw[old b _ q];simp⟩⟩ λb u e=>?_;by_cases hb:∃p∈l,p.1=b
 ·obtain⟨p,h1,rfl⟩:=hb;rw[vH hn h1] at e;cases e;exact new p h1
 ·rw[mn λp hq z=>hb ⟨p,hq,z⟩] at e;exact(I.hok b u e).stay (λc v _ q=>k c v q) (λc q=>old c _ q) λc xs q=>old c _ q
def lU(kk:List (List Int))(ns:List Int):List (List Int):=List.zipWith (λk n=>k++[n]) kk ns
def CH:List Int->D
 |[a,b,n]=> .tup [.tup [.int a, .int b], .int n]
 |_=> .non
def oA:D->M D
 | .dct ks ds=>match eK ks,nums ds with
   |some kk,some ns=>if kk.length=ns.length/\kk.all (λk=>decide (k.length=2))=true/\d_ (lU kk ns)=true then ab (.lst ((sortI (lU kk ns)).map CH)) else ag
   |_,_=>ag
 |_=>ag
def Bt{kk:List (List Int)}{ns:List Int}(hl:kk.length=ns.length){i:Nat}(hi:i<kk.length):(lU kk ns).getD i []=kk.getD i []++[ns.getD i 0]:=by
 unfold lU;rw[Wa,List.getElem?_zipWith,Wa,Wa,V6 hi,V6 (by omega:i<ns.length)];rfl
def kB(n:Nat):∀(a b:List Int),pG (k9 n) (a.map D.int) (b.map D.int)=some (decide (a=b))
 |[],[]=>rfl
 |[],_::_=>by simp[pG]
 |_::_,[]=>by simp[pG]
 |x::a,y::b=>by
  show (match k9 n (.int x) (.int y),pG (k9 n) (a.map D.int) (b.map D.int) with | some p,some q=>some (p&&q) | _,_=>none)=_;rw[kB n a b,show k9 n (.int x) (.int y)=some (x==y) by cases n<;>rfl];show some ((x==y)&&decide (a=b))=_;congr 1;by_cases h1:x=y<;>by_cases h2:a=b<;>simp[h1,h2]
def CU{H:Hp}{b:Nat->Addr}{k:Nat->List Int}:∀(l:List Nat),(∀i∈l,H (b i)=some (.tup ((k i).map V.int)))->df H (l.map λi=> .ref (b i)) (l.map k)
 |[],_=> .nil
 |i::l,h=> .cons ⟨b i,rfl,h i (V_ ..)⟩ (CU l λj hj=>h j (V8 _ hj))
def za{H:Hp}{b:Nat->Addr}{k:Nat->List Int}:∀{l:List Nat},df H (l.map λi=> .ref (b i)) (l.map k)->∀i∈l,H (b i)=some (.tup ((k i).map V.int))
 |_::_, .cons ⟨a,e1,e2⟩ t,i,hi=>by
  rcases Ws.mp hi with rfl | hi
  ·cases e1;exact e2
  ·exact za t i hi
def xI{K:Wm}{F:Hp}{g:Nat->D}{p:Nat->Addr}:∀(l:List Nat),(∀i∈l,Den K F (g i) (.ref (p i)))->DenL K F (l.map g) (l.map λi=> .ref (p i))
 |[],_=> .nil
 |i::l,h=> .cons (h i (V_ ..)) (xI l λj hj=>h j (V8 _ hj))
def u3{p:Nat->Addr}:∀(l:List Nat),Vals (l.map λi=>V.ref (p i)) (l.map λi=>Wy (p i))
 |[]=> .nil
 |i::l=> .cons rfl (u3 l)
section
variable{X:Cx}{Xw:Nat->Hp->Prop}{o:Expr}{δ:DE}{pos p v6 bz:Pos}
def G2(hc:X.calm=true)(hu:X.A.units+64<cLine)(hg:Gl X "sorted")(hm:X.mg "sorted"=none)(hb:WV "sorted"=some (.builtin "sorted"))(ha:PD X Xw o δ)(ix:Yy o "items" X.env (eval o X.env)=eval o X.env:=by rfl)(iy:(v6.endLine==bz.line)=true:=by rfl)
 (he:Wv [.Call (.Attribute o "items" v6) [] [] bz] X.env=[(false,eval (.Call (.Attribute o "items" v6) [] [] bz) X.env)]:=by rfl):
 PD X Xw (.Call (.Name "sorted" p) [.Call (.Attribute o "items" v6) [] [] bz] [] pos) (d1 oA δ):=λf8 s σ H Q I ⟨F,ρ,S,w⟩=>by
 have w:WP X.K Xw F H (δ ρ>>=oA) Q:=w;refine ZO (jM I hg hm hb ?_ (by decide) (by decide));refine aaf ?_ he rfl;rw[he];refine Yx (wpAny_Call_method0_late ix iy (cp (ha f8 s σ H _ I ⟨F,ρ,S,WP.bind w⟩) λu s1 ⟨v,H1,I1,r,F1,d,e1,q1,w1⟩=>?_));unfold oA at w1;split at w1
 ·rename_i ks ds;split at w1
  ·rename_i kk ns FV Io;split at w1
   ·rename_i hok;obtain⟨NT,Rq,hok⟩:=hok;obtain⟨a,ob,vs,rfl,h2,h3,h4,h5⟩:=q1;cases (show u=_ from r);obtain⟨es,ep,lo,ho,hx,hd,hsz,hk⟩:=DD I1 (e1.fh _ _ h2);have Vw:=eY Io h3;subst Vw;have zX:=iz FV;subst zX;have O2:=hok;unfold d_ at hok;rw[Wl,Wl] at hok;have TK:(lU kk ns).Nodup:=ac9 hok.1.1;have Pd:(lU kk ns).length=kk.length:=by unfold lU;rw[List.length_zipWith];omega
    have pI:kk.length<64:=by rw[<-Pd];exact ac9 hok.1.2
    have hn:es.size=kk.length:=by rw[hsz,Y2,V5,V5];omega
    have nq:Ww=16777216:=XH;have hf:∀i,∃q:XS×Addr×Tok,i<kk.length->es[i]? =some q.1/\q.1.key= .ref q.2.1/\H1 q.2.1=some (.tup ((kk.getD i []).map V.int))/\q.1.val= .int (ns.getD i 0) q.2.2:=λi=>by
     by_cases hi:i<kk.length
     ·have yc:i<ns.length:=by omega
      obtain⟨e,b,q1,q2,q3,t,q4⟩:=hk i (mi kk[i]) (.int ns[i]) (abG.mpr ⟨by rw[Wj,V6 hi];rfl,by rw[Wj,V6 yc];rfl⟩);refine⟨(e,b,t),λ_=>⟨q1,q2,?_,?_⟩⟩
      ·rw[q3,Wa,V6 hi];unfold mi;rw[WA];rfl
      ·rw[Wa,V6 yc];exact q4
     ·exact⟨(default,0,0),λz=>ac_ z hi⟩
    obtain⟨g,FT⟩:∃g:Nat->XS×Addr×Tok,∀i,i<kk.length->es[i]? =some (g i).1/\(g i).1.key= .ref (g i).2.1/\H1 (g i).2.1=some (.tup ((kk.getD i []).map V.int))/\(g i).1.val= .int (ns.getD i 0) (g i).2.2:=⟨λi=>aaz (hf i),λi hi=>ZN (hf i) hi⟩
    refine⟨"dict","dict.items",YY,PySem.F.slot_dict_items,PySem.F.type_dict_items,⟨ob,ho,hx.1⟩,?_,Yw rfl (PySem.evalArgs_none (By lo ho hx hd (Zc ?_)))⟩
    ·rintro _ ⟨⟩;exact⟨ob,ho,hx.2.1⟩
    refine YQ ab5 abA abB (abE _) ?_;unfold YI.«sorted»;refine V4 (m:=checkCount "sorted" 1 1 _) (V9 (V4 (AF (A:=X.A.in1) (I1.ok.hd hc) ⟨_,Wr _ rfl,rfl,rfl⟩ (V7 _ ho) hd (by rw[hn,nq];omega) λh1 tk as ym hP=>?_)));have keep:∀b u,s1.heap.get? b=some u->h1.get? b=some u:=λb u e=>ym b u (V7 _ e);have FN:as.length=kk.length:=hP.1.trans hn;have NV:∀i,i<kk.length->s1.heap.objs.size<=as.getD i 0/\h1.get? (as.getD i 0)=some {cls:= .type "tuple",data:= .seq #[.ref (g i).2.1, .int (ns.getD i 0) (g i).2.2]}:=λi hi=>by
     have yc:i<as.length:=by omega
     obtain⟨z1,e,z2,z3⟩:=hP.2.2 i as[i] (V6 yc);obtain⟨y1,y2,y3,y4⟩:=FT i hi;rw[y1] at z2;cases z2;rw[y2,y4] at z3;rw[show as.getD i 0=as[i] by rw[Wa,V6 yc];rfl];refine⟨?_,z3⟩;rw[ZC] at z1;exact X8 (Nat.lt_of_succ_lt z1)
    have R3:as.map Wy=(Wo kk.length).map λi=>Wy (as.getD i 0):=by
     refine XN (by simp[FN]) λi a1 a2=>?_;have hi:i<as.length:=by simpa using a1
     rw[W9,W9,Yi,Wa,V6 hi];rfl
    rw[R3];have Cb:((Wo kk.length).map λi=>Wy (as.getD i 0)).length=kk.length:=by rw[V5,XU]
    have I_:∀i,i<kk.length->((Wo kk.length).map λi=>Wy (as.getD i 0)).getD i WJ= .ref (as.getD i 0):=λi hi=>by
     rw[Wa,Wj,YW hi];rfl
    generalize hv:(Wo kk.length).map (λi=>Wy (as.getD i 0))=vals at Cb I_;have I2:Inv X f8 σ H1 {s1 with heap:=h1,toks:=tk}:=I1.kept keep;refine V4 (Zx ?_ (by rw[nq];omega));have DL:(h1.push (W_ "list" vals.toArray 0)).get? h1.objs.size=some (W_ "list" vals.toArray 0):=Wr _ rfl;refine V4 (XQ (W0 aaP ⟨_,DL,rfl⟩ aav (HH (s:={s1 with heap:=h1.push (W_ "list" vals.toArray 0),toks:=tk}) (κ:=tuples' false) (bt:=λi j=>cX ((lU kk ns).getD i []) ((lU kk ns).getD j [])) (G:=λh'=>∀b o,h1.get? b=some o->h'.get? b=some o) DL (by omega) (λ_=>?_) (λh' kp b o e=>kp b o (WB (Wi e)) (V7 _ e)) (λh' Q' gk Oz hq=>?_) (λh' gk i j C hi hj hC=>?_) λP h' c' OD hR vB jH=>?_) (aaQ _)))
    ·rw[Cb];exact⟨λi j k=>kG _ _ _,λi j=>fL _ _,λi j hi hj jC=>iD _ _ λz=>jC (by
      rw[<-Pd] at hi hj;rw[Wa,Wa,V6 hi,V6 hj] at z;exact yz TK hi hj (by simpa using z))⟩
    ·have kt:=qS (h:=h') (p:=λi=>as.getD i 0) (b:=λi=>(g i).2.1) (v:=λi=> .int (ns.getD i 0) (g i).2.2) (Wo kk.length) λi hi=>gk _ _ (NV i (WT.mp hi)).2;rw[hv] at kt;refine kat_kind (s:={s1 with heap:=h',toks:=tk}) (T:= .type "tuple") kt (by rw[V5,XU];omega) (λv NX=>?_) rfl hq;obtain⟨i,hi,rfl⟩:=Wc.mp NX;obtain⟨us,ru,⟨ot,q1,q2,_⟩,_⟩:=I2.tuple (SqT.of (K:=X.K) (FT i (WT.mp hi)).2.2.1);have lk:Looks (model X.prog X.w) h' (typeOf (.ref (g i).2.1)) ot.cls:=(Looks.ld (gk _ _ q1)).andThen .now;rw[q2] at lk;exact lk
    ·rw[Cb] at hi hj;have I3:Inv X f8 σ H1 {s1 with heap:=h',toks:=tk}:=I2.kept gk;obtain⟨_,_,a3,_⟩:=FT i hi;obtain⟨_,_,b3,_⟩:=FT j hj;have li:(kk.getD i []).length=2:=ac9 (WI.mp Rq _ (by rw[Wa,V6 hi];exact WR hi));have lj:(kk.getD j []).length=2:=ac9 (WI.mp Rq _ (by rw[Wa,V6 hj];exact WR hj));have dn:∀{m:Nat}{b:Addr},(kk.getD m []).length=2->H1 b=some (.tup ((kk.getD m []).map V.int))->Den X.K H1 (tupI (kk.getD m [])) (.ref b):=λUE Oz=>⟨_,_,rfl,Oz,tW,by rw[V5,UE];decide⟩
     unfold kas_ask;rw[I_ i hi,I_ j hj];rw[Bt NT hi,Bt NT hj] at hC;refine E6 (s:={s1 with heap:=h',toks:=tk}) (k:=kk.getD i []) (k':=kk.getD j []) (gk _ _ (NV i hi).2) (gk _ _ (NV j hj).2) ?_ (λQ' hq=>?_) (by rw[li,lj]) hC
     ·exact(qt I3 (Same.refl H1) 6 _ _ _ _ _ _ _ _ (by show X.A.units+1+1+6<cLine;omega) (dn li a3) (dn lj b3) rfl rfl (kB 5 _ _)).eq
     ·obtain⟨ui,r1,p1,_⟩:=I3.tuple (SqT.of (K:=X.K) a3);obtain⟨uj,r2,p2,_⟩:=I3.tuple (SqT.of (K:=X.K) b3);exact HT.lt_tupInts p1 p2 (by simpa using intsAre_of r1) (by simpa using intsAre_of r2) (by show X.A.units+1+1<cLine;omega) (by rw[Cr];exact hq)
    ·rw[Cb] at OD hR;have B8:∀i∈P.toList,i<kk.length:=λi hi=>by
      obtain⟨j,hj,rfl⟩:=Xl.mp hi;have NP:j<P.size:=by rw[Wn] at hj;exact hj
      have:=OD.lt j (by rw[OD.sz] at NP;exact NP);rw[cw,WS NP] at this;simpa using this
     have Iq:=oz TK (by rw[Pd];exact OD) (by rw[Pd];exact hR);have QN:(((Wo kk.length).map λi=>(as.getD i 0,HO.tup [.ref (g i).2.1, .int (ns.getD i 0)])).map (·.1)).Nodup:=by
      rw[WA];have:(Wo kk.length).map ((·.1)∘λi=>(as.getD i 0,HO.tup [.ref (g i).2.1, .int (ns.getD i 0)]))=as:=by
       refine XN (by simp[FN]) λi a1 a2=>?_;rw[W9,Yi];show as.getD i 0=_;rw[Wa,V6 a2];rfl
      rw[this];exact hP.2.1
     have mem:∀i,i<kk.length->(as.getD i 0,HO.tup [.ref (g i).2.1, .int (ns.getD i 0)])∈(Wo kk.length).map λi=>(as.getD i 0,HO.tup [.ref (g i).2.1, .int (ns.getD i 0)]):=λi hi=>Wc.mpr ⟨i,WT.mpr hi,rfl⟩;generalize hL:((Wo kk.length).map λi=>(as.getD i 0,HO.tup [.ref (g i).2.1, .int (ns.getD i 0)]))=L at QN mem;have of:∀q∈L,∃i,i<kk.length/\q=(as.getD i 0,HO.tup [.ref (g i).2.1, .int (ns.getD i 0)]):=λq hq=>by
      rw[<-hL] at hq;obtain⟨i,hi,rfl⟩:=Wc.mp hq;exact⟨i,WT.mp hi,rfl⟩
     have I4:Inv X f8 σ (pL L H1) {s1 with heap:=h1,toks:=tk}:=F9 I1 keep QN (λq hq=>by obtain⟨i,hi,rfl⟩:=of q hq;exact(NV i hi).1) λq hq=>by
      obtain⟨i,hi,rfl⟩:=of q hq;exact⟨by rw[nq];show 2<=_;decide,[.ref (g i).2.1, .int (ns.getD i 0) (g i).2.2], .cons rfl (.cons ⟨_,rfl⟩ .nil),_,(NV i hi).2,rfl,_,rfl⟩
     have Ik:pL L H1 h1.objs.size=none:=I4.hok.fresh (Wg _);have I5:=I4.laid (h':=h') (a:=h1.objs.size) (t':=tk) (o:= .lst (P.toList.map λi=>V.ref (as.getD i 0))) (λb ob e=>jH b ob (WB (Wi e)) (V7 _ e)) (Wg _) ⟨by rw[V5,Wn,OD.sz,nq];omega,P.toList.map λi=>Wy (as.getD i 0),c',u3 _,by
      rw[show (P.toList.map λi=>Wy (as.getD i 0))=P.toList.map λi=>vals.getD i WJ from WN λi hi=>(I_ i (B8 i hi)).symm];exact vB⟩
     refine⟨_,rfl,V9 ⟨_,rfl,⟨.ref h1.objs.size,_,I5,rfl,?_⟩⟩⟩;obtain⟨F2,x2,r2⟩:=mQ e1.fh (CU (H:=H1) (b:=λi=>(g i).2.1) (k:=λi=>kk.getD i []) (Wo kk.length) λi hi=>(FT i (WT.mp hi)).2.2.1);have x3:=xQ (l:=L) x2.fh QN λq hq=>by obtain⟨i,hi,rfl⟩:=of q hq;exact I1.hok.fresh (NV i hi).1
     have x4:=Ext.lay (o:= .lst (P.toList.map λi=>V.ref (as.getD i 0))) x3.fh Ik;refine WP.fin w1 (x2.trans (x3.trans x4)) ⟨h1.objs.size,_,rfl,aK,?_,by rw[V5,gp,Pd];unfold lim;omega⟩;rw[<-Iq,WA];refine xI (g:=CH∘λi=>(lU kk ns).getD i []) (p:=λi=>as.getD i 0) P.toList λi hi=>?_;have hi:=B8 i hi;have li:(kk.getD i []).length=2:=ac9 (WI.mp Rq _ (by rw[Wa,V6 hi];exact WR hi));show Den X.K _ (CH ((lU kk ns).getD i [])) _;rw[Bt NT hi];have Av:=za r2 i (WT.mpr hi);obtain⟨ka,kb,ek⟩:∃ka kb,kk.getD i []=[ka,kb]:=match kk.getD i [],li with | [ka,kb],_=>⟨ka,kb,rfl⟩
     rw[ek] at Av⊢;refine⟨as.getD i 0,[.ref (g i).2.1, .int (ns.getD i 0)],rfl,x4.ff _ _ (vH QN (mem i hi)), .cons ⟨(g i).2.1,[.int ka, .int kb],rfl,x4.ff _ _ (x3.ff _ _ Av), .cons rfl (.cons rfl .nil),by show 2<=lim;decide⟩ (.cons rfl .nil),by show 2<=lim;decide⟩
   ·exact w1.elim
  ·exact w1.elim
 ·exact w1.elim
end
end L3
namespace L3
open PySem PySem.Spec L2
open PyProof.Rows hiding St
section
variable{X:Cx}{Xw:Nat->Hp->Prop}{e:Expr}{δ:DE}{pos pos':Pos}
def HA(i:Nat)(δ:DE):DS:=λρ=>match ρ[i]? with
 |some (some (.fz (.int a)))=>δ ρ>>=λd=>match d with
  | .int b=>ab (.nx (ρ.set i (some (.fz (.int (a+b))))))
  |_=>ag
 |_=>ag
def J6{i:Nat}{x:Str}(hN:X.N.Nodup)(hi:X.N[i]? =some x)(hx:Loc X.env.scope x)(he:PD X Xw e δ)(hf:X.fn x=true\/X.env.scope.names.lookup x=some .local:=by first | exact .inl rfl | exact .inr rfl):
 iR X Xw (.AugAssign (.Name x pos') .Add e pos) (HA i δ):=λs0 adf=>PS.weak (Na hN hi hx he Md hf) λD σ H ⟨F,ρ,s,w⟩=>by
 have w:WPS X.K Xw s0 adf (HA i δ ρ) D:=w;unfold HA at w;split at w
 ·rename_i a ha;obtain⟨v,h1,h2⟩:=s.st.den i _ ha;cases (show v=_ from h2);refine⟨_,h1,F,ρ,s.st,?_⟩
  match δ ρ,w with
  |none,w=>exact w
  |some (.ok (.int b)),w=>exact λu H' F' e' q=>⟨a,b,rfl,q,w _ F' H' ((s.ext' e').set rfl)⟩
  |some (.ex n),w=>exact λF' H' e'=>w F' H' (s.ext.trans e')
 ·exact w.elim
end
end L3
namespace L3
open PySem PySem.W PyProof.Rows
section
variable{κ:Nat->List Int}{n:Nat}
abbrev bK(κ:Nat->List Int)(i j:Nat):Bool:=cX (κ i) (κ j)
def leK(κ:Nat->List Int)(i j:Nat):Prop:=κ i=κ j\/bK κ i j=true
def leK.tr{i j k:Nat}(h:leK κ i j)(h2:leK κ j k):leK κ i k:=by
 rcases h with h | h<;>rcases h2 with h2 | h2
 ·exact .inl (h.trans h2)
 ·exact .inr (by unfold bK at*;rw[h];exact h2)
 ·exact .inr (by unfold bK at*;rw[<-h2];exact h)
 ·exact .inr (kG _ _ _ h h2)
def leK.of{i j:Nat}(h:¬bK κ j i=true):leK κ i j:=by
 by_cases e:κ i=κ j
 ·exact .inl e
 ·rcases iD _ _ e with q | q
  ·exact .inr q
  ·exact ac_ q h
def leK.lt{i j:Nat}(h:bK κ i j=true):leK κ i j:= .inr h
def leK.anti{i j:Nat}(h:leK κ i j)(h2:leK κ j i):κ i=κ j:=by
 rcases h with h | h
 ·exact h
 ·rcases h2 with h2 | h2
  ·exact h2.symm
  ·have:=fL _ _ h;unfold bK at h2;rw[h2] at this;cases this
def Rw(κ:Nat->List Int)(p:Array Nat)(k:Nat):Prop:=∀i j,i<j->j<k->leK κ (at' p i) (at' p j)
def Fw(κ:Nat->List Int)(p:Array Nat)(k:Nat):Prop:=∀i j,i<j->j<k->leK κ (at' p j) (at' p i)
def Rw.more{p:Array Nat}{k:Nat}(h:Rw κ p k)(h1:1<=k)(e:leK κ (at' p (k - 1)) (at' p k)):Rw κ p (k+1):=λi j jC hj=>by
 by_cases hk:j<k
 ·exact h i j jC hk
 ·have:j=k:=by omega
  subst this;by_cases hi:i=j - 1
  ·subst hi;exact e
  ·exact(h i (j - 1) (by omega) (by omega)).tr e
def Fw.more{p:Array Nat}{k:Nat}(h:Fw κ p k)(h1:1<=k)(e:leK κ (at' p k) (at' p (k - 1))):Fw κ p (k+1):=λi j jC hj=>by
 by_cases hk:j<k
 ·exact h i j jC hk
 ·have:j=k:=by omega
  subst this;by_cases hi:i=j - 1
  ·subst hi;exact e
  ·exact e.tr (h i (j - 1) (by omega) (by omega))
def E5{p:Array Nat}:∀(f k:Nat),1<=k->Rw κ p k->k<=bI (bK κ) (kas_asc p f k)/\bI (bK κ) (kas_asc p f k)<=k+f/\Rw κ p (bI (bK κ) (kas_asc p f k))/\(bI (bK κ) (kas_asc p f k)<k+f->bK κ (at' p (bI (bK κ) (kas_asc p f k))) (at' p (bI (bK κ) (kas_asc p f k) - 1))=true)
 |0,k,h1,h=>⟨Wg _,Wg _,h,λz=>ac_ z (W4 _)⟩
 |f+1,k,h1,h=>by
  have e:bI (bK κ) (kas_asc p (f+1) k)=bI (bK κ) (if bK κ (at' p k) (at' p (k - 1))=true then KasT.ret k else kas_asc p f (k+1)):=rfl;rw[e];by_cases hb:bK κ (at' p k) (at' p (k - 1))=true
  ·rw[ac5 hb];exact⟨Wg _,by show k<=_;omega,h,λ_=>hb⟩
  ·rw[ac6 hb];obtain⟨a1,a2,a3,a4⟩:=E5 f (k+1) (by omega) (h.more h1 (.of hb));exact⟨by omega,by omega,a3,λz=>a4 (by omega)⟩
def CV{p:Array Nat}{i m:Nat}(hm:m<=p.size)(k:Nat):at' (kas_rev p i m) k=if i<=k/\k<m then at' p (i+m - 1 - k) else at' p k:=by
 have e:=getElem?_mirror_all (xs:=p) (i:=i) hm k;rw[cw];show (((mirror p i m ((m - i) / 2))[k]?).getD 0)=_;rw[e];split
 ·rw[cw]
 ·rw[cw]
def PN.revs{p:Array Nat}(P:PN n p){i m:Nat}(hm:m<=n):PN n (kas_rev p i m):=by
 have ha:=CV (p:=p) (i:=i) (m:=m) (by rw[P.sz];exact hm);refine⟨(mirror_size ..).trans P.sz,λa hi=>?_,λa b hi hj e=>?_⟩
 ·rw[ha];split
  ·exact P.lt _ (by omega)
  ·exact P.lt _ hi
 ·rw[ha,ha] at e;split at e<;>split at e
  ·have:=P.inj _ _ (by omega) (by omega) e;omega
  ·have:=P.inj _ _ (by omega) hj e;omega
  ·have:=P.inj _ _ hi (by omega) e;omega
  ·exact P.inj _ _ hi hj e
def Al(κ:Nat->List Int)(p:Array Nat)(k q:Nat):Prop:=q<k/\∀i,k - (q+1)<=i->i<k->κ (at' p i)=κ (at' p (k - 1))
def sf{p:Array Nat}(P:PN n p){k q:Nat}(hk:k<=n)(h:Al κ p k q)(i:Nat):κ (at' (kas_rev p (k - (q+1)) k) i)=κ (at' p i):=by
 rw[CV (by rw[P.sz];exact hk)];split
 ·rename_i c;rw[h.2 _ (by have:=h.1;omega) (by have:=h.1;omega),h.2 i c.1 c.2]
 ·rfl
def leK.congr{i j i' j':Nat}(h:leK κ i j)(e1:κ i'=κ i)(e2:κ j'=κ j):leK κ i' j':=by
 unfold leK bK at*;rw[e1,e2];exact h
def Fw.keys{p p':Array Nat}{k:Nat}(h:Fw κ p k)(e:∀i,κ (at' p' i)=κ (at' p i)):Fw κ p' k:=λi j jC hj=>(h i j jC hj).congr (e j) (e i)
def vk:∀(f k q:Nat) {p:Array Nat},PN n p->1<=k->k+f<=n->Fw κ p k->Al κ p k q->∃p' m q',bI (bK κ) (kas_desc f p k q)=(p',m,q')/\PN n p'/\1<=m/\m<=n/\Fw κ p' m/\Al κ p' m q'
 |0,k,q,p,P,h1,hn,h,ha=>⟨p,k,q,rfl,P,h1,by omega,h,ha⟩
 |f+1,k,q,p,P,h1,hn,h,ha=>by
  have e:bI (bK κ) (kas_desc (f+1) p k q)=bI (bK κ) (if bK κ (at' p k) (at' p (k - 1))=true then(if q>0 then kas_desc f (kas_rev p (k - (q+1)) k) (k+1) 0 else kas_desc f p (k+1) 0)
   else .ask (p.getD (k - 1) 0) (p.getD k 0) λd=>if d=true then .ret (p,k,q) else kas_desc f p (k+1) (q+1)):=rfl
  rw[e];by_cases hb:bK κ (at' p k) (at' p (k - 1))=true
  ·rw[ac5 hb];have Te:∀p':Array Nat,Al κ p' (k+1) 0:=λp'=>⟨by omega,λi a b=>by rw[show i=k by omega];rfl⟩
   by_cases hq:q>0
   ·rw[ac5 hq];have hk:=sf P (by omega) ha;exact vk f (k+1) 0 (P.revs (by omega)) (by omega) (by omega) ((h.more h1 (.lt hb)).keys hk) (Te _)
   ·rw[ac6 hq];exact vk f (k+1) 0 P (by omega) (by omega) (h.more h1 (.lt hb)) (Te _)
  ·rw[ac6 hb];show∃p' m q',bI (bK κ) (if bK κ (at' p (k - 1)) (at' p k)=true then KasT.ret (p,k,q) else kas_desc f p (k+1) (q+1))=(p',m,q')/\_;by_cases hd:bK κ (at' p (k - 1)) (at' p k)=true
   ·rw[ac5 hd];exact⟨p,k,q,rfl,P,h1,by omega,h,ha⟩
   ·rw[ac6 hd];have ee:κ (at' p k)=κ (at' p (k - 1)):=leK.anti (.of hd) (.of hb);refine vk f (k+1) (q+1) P (by omega) (by omega) (h.more h1 (.inl ee)) ⟨by have:=ha.1;omega,λi a b=>?_⟩;show _=κ (at' p k);by_cases hi:i=k
    ·rw[hi]
    ·rw[ee];exact ha.2 i (by omega) (by omega)
def Fw.rev{p:Array Nat}(P:PN n p){m:Nat}(hm:m<=n)(h:Fw κ p m):Rw κ (kas_rev p 0 m) m:=λi j jC hj=>by
 have ha:=Bc (p:=p) (m:=m) (by rw[P.sz];exact hm);rw[ha,ha,ac5 (by omega),ac5 hj];exact h _ _ (by omega) (by omega)
def HY{p:Array Nat}(P:PN n p){m:Nat}(h1:1<=m)(hm:m<=n)(h:Fw κ p m):∃k q,bI (bK κ) (kas_tail3 m n p)=(k,q)/\PN n q/\1<=k/\k<=n/\Rw κ q k:=by
 unfold kas_tail3;rw[cW];obtain⟨a1,a2,a3,_⟩:=E5 (p:=kas_rev p 0 m) (n - m) m h1 (Fw.rev P hm h);exact⟨_,_,rfl,P.rev hm,by omega,by omega,a3⟩
def BV{p:Array Nat}(P:PN n p){m:Nat}(h1:1<=m)(hm:m<n)(h:Fw κ p (m+1)):∃k q,bI (bK κ) (kas_descPart m n p)=(k,q)/\PN n q/\1<=k/\k<=n/\Rw κ q k:=by
 unfold kas_descPart;rw[cW];obtain⟨p',m',q',e,P',c1,c2,F',A'⟩:=vk (n - (m+1)) (m+1) 0 P (by omega) (by omega) h ⟨by omega,λi a b=>by rw[show i=m by omega];rfl⟩;rw[e]
 dsimp only
 by_cases hq:q'>0
 ·rw[ac5 hq];exact HY (P'.revs c2) c1 c2 (F'.keys (sf P' c2 A'))
 ·rw[ac6 hq];exact HY P' c1 c2 F'
def IF{p:Array Nat}(P:PN n p)(h2:2<=n):∃k q,bI (bK κ) (kas_count n p)=(k,q)/\PN n q/\1<=k/\k<=n/\Rw κ q k:=by
 unfold kas_count;rw[cW];obtain⟨a1,a2,a3,a4⟩:=E5 (κ:=κ) (p:=p) (n - 1) 1 (Wg _) (λi j jC hj=>by omega);generalize bI (bK κ) (kas_asc p (n - 1) 1)=m at a1 a2 a3 a4;by_cases he:m=n
 ·subst he;rw[ac5 (by simp)];exact⟨m,p,rfl,P,by omega,Wg _,a3⟩
 ·rw[ac6 (by simpa using he)];have hb:=a4 (by omega);by_cases hg:m>1
  ·rw[ac5 hg];show∃k q,bI (bK κ) (if bK κ (p.getD 0 0) (p.getD (m - 1) 0)=true then KasT.ret (m,p) else kas_descPart m n (kas_rev p 0 m))=(k,q)/\_;by_cases h0:bK κ (p.getD 0 0) (p.getD (m - 1) 0)=true
   ·rw[ac5 h0];exact⟨m,p,rfl,P,by omega,by omega,a3⟩
   ·rw[ac6 h0];have el:κ (at' p 0)=κ (at' p (m - 1)):=leK.anti (a3 0 (m - 1) (by omega) (by omega)) (.of h0);have al:∀i,i<m->κ (at' p i)=κ (at' p (m - 1)):=λi hi=>by
     by_cases i0:i=0
     ·rw[i0];exact el
     ·by_cases i1:i=m - 1
      ·rw[i1]
      ·refine leK.anti (a3 i (m - 1) (by omega) (by omega)) ((leK.congr (a3 0 i (by omega) hi) el.symm rfl))
    have hk:=sf (κ:=κ) P (k:=m) (q:=m - 1) (by omega) ⟨by omega,λi _ hi=>al i hi⟩;rw[show m - (m - 1+1)=0 by omega] at hk;refine BV (P.rev (by omega)) (by omega) (by omega) (Fw.keys (p:=p) (λi j jC hj=>?_) hk);by_cases NS:j<m
    ·exact .inl ((al j NS).trans (al i (by omega)).symm)
    ·have:j=m:=by omega
     subst this;exact(leK.lt hb).congr rfl (al i jC)
  ·rw[ac6 hg];have hm:m=1:=by omega
   subst hm;refine BV P (by omega) (by omega) λi j jC hj=>?_;have hi:i=0:=by omega
   have hj:j=1:=by omega
   subst hi hj;exact .lt hb
def wk{p:Array Nat}{k:Nat}(h:Rw κ p k):∀(f l r:Nat),l<=r->r<=k->r - l<=f->(∀i,i<l->leK κ (at' p i) (at' p k))->(∀i,r<=i->i<k->leK κ (at' p k) (at' p i))->
 bI (bK κ) (kas_place p k f l r)<=k/\(∀i,i<bI (bK κ) (kas_place p k f l r)->leK κ (at' p i) (at' p k))/\∀i,bI (bK κ) (kas_place p k f l r)<=i->i<k->leK κ (at' p k) (at' p i)
 |0,l,r,h1,h2,h3,h4,h5=>by
  have:r=l:=by omega
  subst this;exact⟨h2,h4,h5⟩
 |f+1,l,r,h1,h2,h3,h4,h5=>by
  unfold kas_place;by_cases OV:l>=r
  ·rw[ac5 OV];have:r=l:=by omega
   subst this;exact⟨h2,h4,h5⟩
  ·rw[ac6 OV];show bI (bK κ) (if bK κ (at' p k) (at' p ((l+r) / 2))=true then kas_place p k f l ((l+r) / 2) else kas_place p k f ((l+r) / 2+1) r)<=k/\(∀i,i<bI (bK κ) (if bK κ (at' p k) (at' p ((l+r) / 2))=true then kas_place p k f l ((l+r) / 2) else kas_place p k f ((l+r) / 2+1) r)->_)/\∀i,bI (bK κ) (if bK κ (at' p k) (at' p ((l+r) / 2))=true then kas_place p k f l ((l+r) / 2) else kas_place p k f ((l+r) / 2+1) r)<=i->_;by_cases hb:bK κ (at' p k) (at' p ((l+r) / 2))=true
   ·rw[ac5 hb];refine wk h f l ((l+r) / 2) (by omega) (by omega) (by omega) h4 λi hi RH=>?_;by_cases e:i=(l+r) / 2
    ·rw[e];exact .lt hb
    ·exact(leK.lt hb).tr (h _ _ (by omega) RH)
   ·rw[ac6 hb];refine wk h f ((l+r) / 2+1) r (by omega) h2 (by omega) (λi hi=>?_) h5;by_cases e:i=(l+r) / 2
    ·rw[e];exact .of hb
    ·exact(h i ((l+r) / 2) (by omega) (by omega)).tr (.of hb)
def KH:∀(f:Nat) {p:Array Nat}{k:Nat},PN n p->k+f<=n->Rw κ p k->PN n (bI (bK κ) (kas_bin f p k))/\Rw κ (bI (bK κ) (kas_bin f p k)) (k+f)
 |0,p,k,P,_,h=>⟨P,h⟩
 |f+1,p,k,P,hn,h=>by
  have hk:k<n:=by omega
  unfold kas_bin;rw[cW];obtain⟨a1,a2,a3⟩:=wk h k 0 k (WQ _) (Wg _) (by omega) (λi hi=>by omega) (λi h1 h2=>by omega);generalize bI (bK κ) (kas_place p k k 0 k)=l at a1 a2 a3;have ha:=z_ (p:=p) (k:=k) (l:=l) (by rw[P.sz];exact hk) a1;have hR:Rw κ (bubble p k (k - l)) (k+1):=λi j jC hj=>by
   rw[ha,ha];by_cases c1:i=l
   ·rw[ac5 c1,ac6 (by omega),ac5 ⟨by omega,by omega⟩];exact a3 _ (by omega) (by omega)
   ·rw[ac6 c1];by_cases c2:j=l
    ·rw[ac5 c2,ac6 (by omega)];exact a2 _ (by omega)
    ·rw[ac6 c2];by_cases c3:l<i/\i<=k
     ·rw[ac5 c3,ac5 ⟨by omega,by omega⟩];exact h _ _ (by omega) (by omega)
     ·rw[ac6 c3];by_cases c4:l<j/\j<=k
      ·rw[ac5 c4];exact h _ _ (by omega) (by omega)
      ·rw[ac6 c4];exact h _ _ jC (by omega)
  have:=KH f (P.bub hk a1) (by omega) hR;rw[show k+(f+1)=k+1+f by omega];exact this
def Nw(h2:2<=n):PN n (bI (bK κ) (kas_sort n))/\Rw κ (bI (bK κ) (kas_sort n)) n:=by
 have P0:PN n (W5 (Wo n)):=by
  have e:∀i,i<n->at' (W5 (Wo n)) i=i:=λi hi=>by rw[cw];simp[hi]
  exact⟨by simp,λi hi=>by rw[e i hi];exact hi,λi j hi hj z=>by rw[e i hi,e j hj] at z;exact z⟩
 unfold kas_sort;rw[cW];obtain⟨k,q,e,P,k1,kn,hR⟩:=IF (κ:=κ) P0 h2;rw[e]
 dsimp only
 by_cases fJ:k<n
 ·rw[ac5 fJ];have:=KH (κ:=κ) (n - max k 1) (k:=max k 1) P (by omega) (by rw[show max k 1=k by omega];exact hR);rw[show max k 1+(n - max k 1)=n by omega] at this;exact this
 ·rw[ac6 fJ];have:k=n:=by omega
  subst this;exact⟨P,hR⟩
end
end L3
namespace L3
open PySem PySem.Spec L2 PySem.W SeqAt
open PyProof.Rows hiding St
section
variable{e:Expr}{p:Pos}
def Th:D->List D->M D
 | .lst ds,[.int k]=>match nums ds with | some ns=>ab (.int (ns.count k:Nat)) | none=>ag
 |_,_=>ag
def leL(a b:List Int):Prop:=a=b\/cX a b=true
def leL.tr{a b c:List Int}(h:leL a b)(h2:leL b c):leL a c:=by
 rcases h with rfl | h
 ·exact h2
 ·rcases h2 with rfl | h2
  ·exact .inr h
  ·exact .inr (kG _ _ _ h h2)
def leL.anti{a b:List Int}(h:leL a b)(h2:leL b a):a=b:=by
 rcases h with h | h
 ·exact h
 ·rcases h2 with h2 | h2
  ·exact h2.symm
  ·rw[fL _ _ h] at h2;cases h2
def leL.of{a b:List Int}(h:¬cX b a=true):leL a b:=by
 by_cases e:a=b
 ·exact .inl e
 ·rcases iD _ _ e with q | q
  ·exact .inr q
  ·exact ac_ q h
def insI_perm(k:List Int):∀l,(insI k l).Perm (k::l)
 |[]=> .refl _
 |x::r=>by
  unfold insI;split
  ·exact .refl _
  ·exact((insI_perm k r).cons x).trans (.swap ..)
def sortI_perm:∀l,(sortI l).Perm l
 |[]=> .refl _
 |k::r=>(insI_perm k _).trans ((sortI_perm r).cons k)
def Cg{k:List Int}:∀{l:List (List Int)},l.Pairwise leL->(insI k l).Pairwise leL
 |[],_=>abU _ _
 |x::r,h=>by
  have h:=W7.mp h;unfold insI;split
  ·rename_i q;refine W7.mpr ⟨λy hy=>?_,W7.mpr h⟩;rcases Ws.mp hy with rfl | hy
   ·exact .inr q
   ·exact leL.tr (.inr q) (h.1 y hy)
  ·rename_i q;refine W7.mpr ⟨λy hy=>?_,Cg h.2⟩;rcases mf.mp hy with rfl | hy
   ·exact .of q
   ·exact h.1 y hy
def mX:∀l,(sortI l).Pairwise leL
 |[]=> .nil
 |_::r=>Cg (mX r)
def Gh{a b:List (List Int)}(ha:a.Pairwise leL)(hb:b.Pairwise leL)(h:a.Perm b):a=b:=h.eq_of_pairwise (λ_ _ _ _=>leL.anti) ha hb
def zt{a b:List (List Int)}(h:a.Perm b):sortI a=sortI b:=Gh (mX a) (mX b) ((sortI_perm a).trans (h.trans (sortI_perm b).symm))
def J1{n:Nat}{p:Array Nat}(P:PN n p):p.toList.Perm (Wo n):=by
 have hsz:p.toList.length=n:=by rw[Wn];exact P.sz
 have qB:∀i (h:i<p.toList.length),p.toList[i]=at' p i:=λi h=>by
  have h':i<p.size:=by rw[Wn] at h;exact h
  rw[cw,WS h'];simp
 have hd:p.toList.Nodup:=List.nodup_iff_pairwise_ne.mpr (W6.mpr λi j hi hj jC z=>by
  rw[qB i hi,qB j hj] at z;have:=P.inj i j (by omega) (by omega) z;omega)
 have hl:∀x∈p.toList,x<n:=λx hx=>by
  obtain⟨j,hj,rfl⟩:=Xl.mp hx;rw[qB j hj];exact P.lt j (by omega)
 exact(XR hd List.nodup_range).mpr λx=>⟨λh=>WT.mpr (hl x h),λh=>wj n _ hd hl hsz x (WT.mp h)⟩
def Bp{ks:List (List Int)}{p:Array Nat}(P:PN ks.length p)(R:Rw (λi=>ks.getD i []) p ks.length):(p.toList.map λi=>ks.getD i [])=sortI ks:=by
 have hsz:p.toList.length=ks.length:=by rw[Wn];exact P.sz
 have qB:∀i (h:i<p.toList.length),p.toList[i]=at' p i:=λi h=>by
  have h':i<p.size:=by rw[Wn] at h;exact h
  rw[cw,WS h'];simp
 refine Gh ?_ (mX ks) (((J1 P).map _).trans ?_)
 ·refine W6.mpr λi j hi hj jC=>?_;rw[V5] at hi hj;rw[W9,W9,qB i hi,qB j hj];exact R i j jC (by omega)
 ·refine .trans (.of_eq ?_) (sortI_perm ks).symm;refine XN (by simp) λi a1 a2=>?_;rw[W9,Yi,Wa,V6 a2];rfl
end
section
variable{prog:WU}{w:World}{A:Xf}{E:Value->We->Prop}{s:We}
def Bo{a:Addr}{c:Nat}{vs:List Value}{ks:List (List Int)}{P:ab8->We->Prop}(ho:s.heap.get? a=some (W_ "list" vs.toArray c))(ht:TupsAt s.heap vs ks)(pI:vs.length<64)
 (h:∀(p:Array Nat) (h':Heap) (c':Nat),PN vs.length p->Rw (λi=>ks.getD i []) p vs.length->h'.get? a=some (W_ "list" (W5 (p.toList.map λi=>vs.getD i WJ)) c')->
  (∀b o,b≠a->s.heap.get? b=some o->h'.get? b=some o)->P (.done (.ret .none)) {s with heap:=h'}):wpAny (model prog w) A (YI.«list.sort» ⟨[.ref a],[]⟩) P E s:=
 uW (κ:=tuples' true) (bt:=bK λi=>ks.getD i []) (G:=λh'=>TupsAt h' vs ks) ho pI (λh2=>Nw h2) (λp hl=>λi j jC hj=>by omega) (λh' k=>ht.keep k λo e z=>by rw[ho] at e;cases e;exact ac_ (ach z) (by decide))
  (λh' Q g h2 hq=>by
   obtain⟨fs,q1,q2,q3⟩:=TupsAt.firsts (M:=model prog w) g;exact kat_kind (s:={s with heap:=h'}) q1 (by omega) q3 rfl hq)
  (λh' g i j C hi hj hC=>asked (s:={s with heap:=h'}) g i j C hi hj hC) h
end
def PH(ks:List (List Int)):Bool:=decide (ks.length<64)&&ks.all λk=>!k.isEmpty
def zA:List D->M D
 |[.lst ds]=>match fo ds with
  |some ks=>if PH ks then ab (.lst ((sortI ks).map tupI)) else ag
  |none=>ag
 |_=>ag
def Qf(K:Wm):List V->Hp->VK->Prop:=λxs H Q=>∃p vs ks,xs=[.ref p]/\SqL K H p vs/\df H vs ks/\PH ks=true/\∀(q:Addr) (is:List Nat),H q=none->(∀i∈is,i<vs.length)->is.length=vs.length->(is.map λi=>ks.getD i [])=sortI ks->Q (.ref q) (upd H q (.lst (is.map λi=>vs.getD i .non)))
section
variable{X:Cx}{Xw:Nat->Hp->Prop}{e:Expr}{δs:DA}{pos p:Pos}
def Du:CallR X (.builtin "sorted") (Qf X.K):=by
 intro f8 s σ H xs us Q I r h;obtain⟨a,vs,ks,rfl,hq,hr,hk,q⟩:=h;obtain⟨u,rfl,r1⟩:=r.one;cases (show u=_ from r1);obtain⟨aL,rv,pl,hz⟩:=I.list hq;unfold PH at hk;rw[Wl] at hk;have pI:ks.length<64:=ac9 hk.1;have jI:∀k∈ks,k≠[]:=λk sT z=>by have:=WI.mp hk.2 k sT;rw[z] at this;cases this
 have Aw:=gE hr;have t8:=rv.length;have nq:Ww=16777216:=XH;have ht:=kQ I hr rv jI;refine YQ ab5 abA abB (abE _) ?_;unfold YI.«sorted»;refine V4 (V9 (V4 (collect_list pl.isList (V4 (Zx ?_ (by rw[nq];omega))) (by rw[nq];omega))));have hsz:((s.heap.push (W_ "list" #[] 0)).update s.heap.objs.size (WO (· ++aL.toArray))).objs.size=s.heap.objs.size+1:=by rw[Heap.size_update,size_push']
 have keep:∀b o,s.heap.get? b=some o->(((s.heap.push (W_ "list" #[] 0)).update s.heap.objs.size (WO (· ++aL.toArray))).push (W_ "list" aL.toArray 0)).get? b=some o:=λb o e=>by
  have fJ:=Wi e;exact V7 _ ((acy _ _ _ _ (WB fJ)).trans (V7 _ e))
 have DL:(((s.heap.push (W_ "list" #[] 0)).update s.heap.objs.size (WO (· ++aL.toArray))).push (W_ "list" aL.toArray 0)).get? (s.heap.objs.size+1)=some (W_ "list" aL.toArray 0):=by
  rw[<-hsz];exact Wr _ rfl
 show wpAny _ _ _ _ _ {s with heap:=((s.heap.push (W_ "list" #[] 0)).update s.heap.objs.size (WO (· ++aL.toArray))).push (W_ "list" aL.toArray 0)};rw[hsz];refine V4 (XQ (W0 aaP ⟨_,DL,rfl⟩ aav (Bo DL
  (ht.keep (λb o _ e=>keep b o e) (λo e=>ac_ (Wi e) (W4 _))) (by omega) λP h' c' hP hR vB jH=>?_) (aaQ _)))
 have B8:∀i∈P.toList,i<vs.length:=λi hi=>by
  obtain⟨j,hj,rfl⟩:=Xl.mp hi;have h':j<P.size:=by rw[Wn] at hj;exact hj
  have:=hP.lt j (by rw[hP.sz] at h';exact h');rw[cw,WS h'] at this;have e:P.toList[j]=P[j]:=by simp
  rw[e];have:P[j]<aL.length:=this;omega
 have B7:PN ks.length P:=by rw[<-Aw,t8];exact hP
 have OE:Rw (λi=>ks.getD i []) P ks.length:=by rw[<-Aw,t8];exact hR
 have Iq:=Bp B7 OE;have Au:H (s.heap.objs.size+1)=none:=I.hok.fresh (ZX _);refine⟨_,rfl,V9 ⟨_,rfl,⟨.ref (s.heap.objs.size+1),_,I.laid (λb ob e=>jH b ob (WB (Nat.lt_succ_of_lt (Wi e))) (keep b ob e)) (ZX _) ?_,rfl,q _ P.toList Au B8 (by rw[Wn,hP.sz];omega) Iq⟩⟩⟩;exact⟨by rw[V5,Wn,hP.sz,nq];omega,_,c',kU rv B8,vB⟩
def JQ(hg:Gl X "sorted")(hm:X.mg "sorted"=none)(hb:WV "sorted"=some (.builtin "sorted"))(ha:lr X Xw [e] δs)(he:Wv [e] X.env=[(false,eval e X.env)]:=by rfl):PD X Xw (.Call (.Name "sorted" p) [e] [] pos) (dA zA δs):=
 cV Du (λXw F H vs ds Q s h w=>by
  unfold zA at w;split at w
  ·rename_i ds;obtain⟨v,rfl,h1⟩:=h.one;obtain⟨a,ws,rfl,h2,h3,h4⟩:=h1;split at w
   ·rename_i ks FV;split at w
    ·rename_i hok;obtain⟨r1,r2⟩:=nJ s FV h3;have RN:=nK FV h3;refine⟨a,ws,ks,rfl,SqL.of (s _ _ h2),r1,hok,λq is hq hi hl hs=>WP.fin w (Ext.lay s hq) ⟨q,_,rfl,aK,DenL.mono (Ext.lay s hq).ff ?_,?_⟩⟩
     ·have:=kP r2 hi;rw[hs] at this;exact j5 this λk hk=>RN k (d5.mp hk)
     ·rw[V5,gp,<-gE r1,<-h3.len];exact h4
    ·exact w.elim
   ·exact w.elim
  ·exact w.elim) hg hm hb ha (by decide) (by decide) he rfl
end
end L3
namespace L3
def Q2(n:Nat)(δs:DA):DS:=λ_=>ag
end L3
namespace K1
open PySem PySem.Spec L2 L3
open PyProof.Rows hiding St
def BD:DS:=(bq (gr (dA jA (aC (dV 0) (aC (dC (.raw (.ty "int"))) aN))) (KL (dA jA (aC (dV 0) (aC (dC (.raw (.ty "bool"))) aN))))))
def bF:List D->M D:=bN 1 (BD)
def zO:DS:=(bq (gr (dA jA (aC (dV 0) (aC (dC (.raw (.ty "str"))) aN))) (gr (d2 nj (dA bu (aC (dV 0) aN)) (dC (.int 1))) (d2 (FE false) (dV 0) (dC (.str "abcdef"))))))
def dO:List D->M D:=bN 1 (zO)
def sE:DS:=(bq (bb 0 (λρ=>(aC (dA bu (aC (d2 bf (dV 0) (dC (.int 0))) aN)) aN) ρ>>=j8) bO (dA d7 (aC (dV 2) (aC (dV 0) aN)))))
def cS:List D->M D:=bN 2 (sE)
def zS:DS:=(bq (d2 qw (d2 bf (dV 0) (d2 bf (dV 1) (dC (.int 0)))) (d2 bf (dV 1) (dC (.int 1)))))
def c0:List D->M D:=bN 2 (zS)
def BA:DS:=(aD (bX 3 (dA E2 (aC (d2 lG (d2 bf (dV 0) (dC (.int 0))) (d2 bf (dV 1) (dC (.int 0)))) aN))) (aD (bX 4 (dA E2 (aC (d2 lG (d2 bf (dV 0) (dC (.int 1))) (d2 bf (dV 1) (dC (.int 1)))) aN))) (aD (jB (dN (d2 nj (dV 2) (dC (.int 4)))) (bq (d2 nj (d2 eW (dV 3) (dV 4)) (dC (.int 1)))) eA) (bq (d2 nj (dA AK (aC (dV 3) (aC (dV 4) aN))) (dC (.int 1)))))))
def eJ:List D->M D:=bN 5 (BA)
def Kx:DS:=(aD (si 1) (aD (λρ=>noex ((ez (putN 2) (Jb (bJ (dV 0)) (λρ=>(dV 0) ρ>>=ml)) (cY [2] (g0 1 (dV 2) (dC (.bl true))))) ρ)) (zf 1 (bq (dV 1)))))
def eE:List D->M D:=bN 3 (Kx)
def sG:DS:=(aD (jB (dN (d2 nj (dV 0) (dA eZ aN))) (bq (d2 i2 (dC (.int 7)) (dV 1))) eA) (bq (d2 eW (d2 FG (dV 0) (d2 ma (dV 1) (dA bu (aC (dV 0) aN)))) (d2 i2 (dC (.int 6553)) (d2 sR (dV 1) (dA bu (aC (dV 0) aN)))))))
def gx:List D->M D:=bN 2 (sG)
def zP:DS:=(aD (jB (oF (cR (cg (dA jA (aC (dV 0) (aC (dC (.raw (.ty "str"))) aN))))) (cR (dN (sJ (λi j=>decide (i<=j)) (λi j=>decide (i<=j)) (dC (.int 1)) (dA bu (aC (dV 0) aN)) (dC (.int 8)))))) (bq (dC (.bl false))) eA) (bq (dA allM (aC (bb 0 (λρ=>(dV 0) ρ>>=Nu) bO (ar 1 dO (aC (dV 0) aN))) aN))))
def gw:List D->M D:=bN 1 (zP)
def u4:DS:=(aD (jB (oF (cR (cg (dA jA (aC (dV 1) (aC (dC (.raw (.ty "tuple"))) aN))))) (dN (d2 vw (dA bu (aC (dV 1) aN)) (dC (.int 2))))) (bq (dC (.bl false))) eA) (aD (jB (oF (cR (cg (ar 1 bF (aC (d2 bf (dV 1) (dC (.int 0))) aN)))) (cR (cg (ar 1 bF (aC (d2 bf (dV 1) (dC (.int 1))) aN))))) (bq (dC (.bl false))) eA) (bq (gr (sJ (λi j=>decide (i<=j)) (λi j=>decide (i<j)) (dC (.int 0)) (d2 bf (dV 1) (dC (.int 0))) (dA bu (aC (dV 0) aN))) (sJ (λi j=>decide (i<=j)) (λi j=>decide (i<j)) (dC (.int 0)) (d2 bf (dV 1) (dC (.int 1))) (dA bu (aC (d2 bf (dV 0) (dC (.int 0))) aN)))))))
def kC:List D->M D:=bN 2 (u4)
def zU:DS:=(jB (oF (cR (cg (ar 1 bF (aC (dV 0) aN)))) (dN (d2 (sS true) (dV 0) (dA d7 (aC (dC (.int 4)) (aC (dC (.int 8)) aN)))))) (Q2 1 (aC (dC (.str "ways are 4 or 8")) aN)) eA)
def bB:List D->M D:=bN 1 (zU)
def zM:DS:=(aD (tj 1) (aD (λρ=>noex ((ez (putN 2) (λρ=>(aC (dA bu (aC (dV 0) aN)) aN) ρ>>=j8) (cY [2] (Bd 1 (ar 2 cS (aC (dV 0) (aC (dV 2) aN)))))) ρ)) (zf 1 (bq (dV 1)))))
def b_:List D->M D:=bN 3 (zM)
def xh:DS:=(aD (tj 3) (aD (λρ=>noex ((ez (putN 4) (λρ=>(aC (dA AK (aC (d2 lG (d2 bf (dV 1) (dC (.int 0))) (dC (.int 1))) (aC (dC (.int 0)) aN))) (aC (dA D4 (aC (d2 eW (d2 bf (dV 1) (dC (.int 0))) (dC (.int 2))) (aC (dA bu (aC (dV 0) aN)) aN))) aN)) ρ>>=uU) (cY [4,5] (ez (putN 5) (λρ=>(aC (dA AK (aC (d2 lG (d2 bf (dV 1) (dC (.int 1))) (dC (.int 1))) (aC (dC (.int 0)) aN))) (aC (dA D4 (aC (d2 eW (d2 bf (dV 1) (dC (.int 1))) (dC (.int 2))) (aC (dA bu (aC (d2 bf (dV 0) (dC (.int 0))) aN)) aN))) aN)) ρ>>=uU) (cY [5] (jB (cg (ar 3 eJ (aC (dV 1) (aC (dA d7 (aC (dV 4) (aC (dV 5) aN))) (aC (dV 2) aN))))) (mU 3 (dA d7 (aC (dV 4) (aC (dV 5) aN)))) eA))))) ρ)) (zf 3 (bq (dV 3)))))
def aV:List D->M D:=bN 6 (xh)
def pj:DS:=(aD (bX 3 (d2 ma (d2 eW (d2 i2 (d2 ma (ar 2 gx (aC (dV 0) (aC (dV 1) aN))) (dC (.int 2147483563))) (dC (.int 69069))) (d2 i2 (dC (.int 104723)) (d2 eW (dV 1) (dC (.int 1))))) (dC (.int 2147483563)))) (aD (bX 3 (d2 ma (d2 eW (d2 i2 (dV 3) (dV 3)) (d2 sR (dV 3) (dC (.int 3)))) (dC (.int 2147483399)))) (bq (d2 ma (d2 sR (d2 ma (d2 eW (d2 i2 (dV 3) (dV 3)) (d2 sR (dV 3) (dC (.int 7)))) (dC (.int 2147483647))) (dC (.int 11))) (dV 2)))))
def a_:List D->M D:=bN 4 (pj)
def sF:DS:=(aD (jB (oF (cR (cg (dA jA (aC (dV 0) (aC (dC (.raw (.ty "tuple"))) aN))))) (cR (dN (sJ (λi j=>decide (i<=j)) (λi j=>decide (i<=j)) (dC (.int 1)) (dA bu (aC (dV 0) aN)) (dC (.int 8)))))) (bq (dC (.bl false))) eA) (aD (jB (cR (cg (dA allM (aC (bb 0 (sP (dV 0)) bO (ar 1 gw (aC (dV 0) aN))) aN)))) (bq (dC (.bl false))) eA) (bq (dA allM (aC (bb 0 (sP (dV 0)) bO (d2 nj (dA bu (aC (dV 0) aN)) (dA bu (aC (d2 bf (dV 1) (dC (.int 0))) aN)))) aN)))))
def iX:List D->M D:=bN 1 (sF)
def zT:DS:=(jB (cR (cg (ar 2 kC (aC (dV 0) (aC (dV 1) aN))))) (Q2 2 (aC (dC (.str "a tuple (row, column) on the board is asked for")) aN)) eA)
def gS:List D->M D:=bN 2 (zT)
def xc:DS:=(aD (bX 3 (ar 2 c0 (aC (dV 0) (aC (dV 1) aN)))) (bq (bb 0 (bJ (ar 3 aV (aC (dV 0) (aC (dV 1) (aC (dV 2) aN))))) (dN (d2 nj (ar 2 c0 (aC (dV 1) (aC (dV 0) aN))) (dV 4))) (dV 0))))
def di:List D->M D:=bN 4 (xc)
def S3:DE:=bb 0 (λρ=>(aC (dV 4) aN) ρ>>=j8) bO (d2 qw (dV 6) (ar 3 a_ (aC (dV 1) (aC (d2 eW (d2 eW (d2 eW (dV 2) (dC (.int 3))) (d2 i2 (dC (.int 7)) (dV 8))) (dV 0)) (aC (dA bu (aC (dV 6) aN)) aN)))))
def S5:DS:=bX 6 (d2 B4 (dV 6) (dA d7 (aC (dM Me joinM (dC (.str "")) (aC (dV 8) aN)) aN)))
def zQ:DS:=(aD (bX 3 (d2 eW (dC (.int 1)) (ar 3 a_ (aC (dV 0) (aC (dV 1) (aC (dV 2) aN)))))) (aD (bX 4 (d2 eW (dC (.int 1)) (ar 3 a_ (aC (dV 0) (aC (d2 eW (dV 1) (dC (.int 1))) (aC (dV 2) aN)))))) (aD (bX 5 (d2 kY (dA eZ (aC (dC (.str "ab")) (aC (dC (.str "abc")) (aC (dC (.str "aab")) (aC (dC (.str "fa")) aN))))) (ar 3 a_ (aC (dV 0) (aC (d2 eW (dV 1) (dC (.int 2))) (aC (dC (.int 4)) aN)))))) (aD (bX 6 (dA d7 aN)) (aD (λρ=>noex ((ez (putN 7) (λρ=>(aC (dV 3) aN) ρ>>=j8) (cY [7,8] (aD (bX 8 (S3)) (S5)))) ρ)) (bq (dV 6)))))))
def dP:List D->M D:=bN 9 (zQ)
def xg:DS:=(jB (cR (cg (ar 1 iX (aC (dV 0) aN)))) (Q2 0 (aC (dC (.str "a tuple of 1 to 8 texts of 1 to 8 letters, all as long, is asked for")) aN)) eA)
def aM:List D->M D:=bN 1 (xg)
def Nq:DS:=cY [7] (jB (Iv (dN (d2 (g_ true) (dV 7) (dV 3)))) (aD (g0 3 (dV 7) (dV 6)) (mU 5 (dV 7))) eA)
def xk:DS:=(aD (CW 3 (λρ=>(dV 1) ρ>>=λx=>(dC .non) ρ>>=λy=>qp x y)) (aD (bX 4 (dA eZ (aC (dV 1) aN))) (aD (λρ=>noex ((Be (cg (dV 4)) (cY [5,6,7] (aD (tj 5) (aD (ez (putN 6) (bJ (dV 4)) (cY [6,7] (ez (putN 7) (bJ (ar 3 di (aC (dV 0) (aC (dV 6) (aC (dV 2) aN))))) (Nq)))) (zf 5 (bX 4 (dV 5))))))) ρ)) (zf 3 (bq (dV 3))))))
def dZ:List D->M D:=bN 8 (xk)
def k7:DS:=(bq (dM Me joinM (dC (.str "")) (aC (bb 0 (λρ=>(aC (dV 0) aN) ρ>>=Hs) bO (d2 qw (dV 0) (dV 2))) aN)))
def b8:List D->M D:=bN 2 (k7)
def xi:DS:=(aD (si 1) (aD (λρ=>noex ((ez (r6 [2,3]) (λρ=>(aC (dV 0) aN) ρ>>=qr) (cY [2,3,4] (ez (putN 4) (bJ (dV 3)) (cY [4] (g0 1 (dV 4) (dV 2)))))) ρ)) (zf 1 (bq (dV 1)))))
def fX:List D->M D:=bN 5 (xi)
def Om:DS:=(cY [6] (jB (Iv (dN (d2 (g_ true) (dV 6) (dV 2)))) (aD (g0 2 (dV 6) (Oh (d2 eW (d2 iZ (dV 2) (dV 5)) (dC (.int 1))))) (mU 4 (dV 6))) eA))
def Ol:DS:=(cY [5,6] (ez (putN 6) (Jb (bJ (d2 iZ (dV 0) (dV 5))) (λρ=>(d2 iZ (dV 0) (dV 5)) ρ>>=ml)) Om))
def LG:DS:=(cY [4,5,6] (aD (tj 4) (aD (ez (putN 5) (bJ (dV 3)) Ol) (zf 4 (bX 3 (dV 4))))))
def zN:DS:=(aD (CW 2 (LM (λρ=>(dV 1) ρ>>=λx=>(dC (.int 0)) ρ>>=λy=>qp x y) (λρ=>(dV 1) ρ>>=λx=>(dC (.int 0)) ρ>>=λy=>tX x y))) (aD (bX 3 (dA eZ (aC (dV 1) aN))) (aD (λρ=>noex ((Be (cg (dV 3)) LG) ρ)) (zf 2 (bq (dV 2))))))
def gR:List D->M D:=bN 7 (zN)
def xb:DS:=(bq (IH (d2 (sS false) (d2 bf (dV 1) (dC (.int 0))) (dA d7 (aC (dC (.int 0)) (aC (d2 lG (dA bu (aC (dV 0) aN)) (dC (.int 1))) aN)))) (d2 (sS false) (d2 bf (dV 1) (dC (.int 1))) (dA d7 (aC (dC (.int 0)) (aC (d2 lG (dA bu (aC (d2 bf (dV 0) (dC (.int 0))) aN)) (dC (.int 1))) aN))))))
def dX:List D->M D:=bN 2 (xb)
def tI:DS:=(jB (oF (cR (cg (ar 1 bF (aC (dV 1) aN)))) (cR (dN (sJ (λi j=>decide (i<=j)) (λi j=>decide (i<j)) (dC (.int 0)) (dV 1) (dV 0))))) (Q2 4 (aC (dC (.str "the number of a patch of the board is asked for")) aN)) eA)
def ei:List D->M D:=bN 2 (tI)
def pT:DS:=(bq (dA anyM (aC (bb 0 (bJ (dV 1)) bO (ar 2 dX (aC (dV 1) (aC (dV 0) aN)))) aN)))
def br:List D->M D:=bN 2 (pT)
def Ue:DS:=(cY [5] (g0 4 (dV 5) (bb 0 (bJ (ar 3 aV (aC (dV 0) (aC (dV 5) (aC (dV 2) aN))))) (dN (d2 (g_ false) (dV 0) (dV 4))) (dV 0))))
def xf:DS:=(aD (bX 3 (ar 1 eE (aC (dV 1) aN))) (aD (si 4) (aD (λρ=>noex ((ez (putN 5) (bJ (dV 1)) Ue) ρ)) (zf 4 (bq (dV 4))))))
def fW:List D->M D:=bN 6 (xf)
def Q4:DS:=(cY [5,6] (jB (dN (d2 Ox (d2 iZ (dV 2) (dV 4)) (d2 iZ (dV 2) (dV 5)))) (aD (bX 6 (dA d7 (aC (d2 iZ (dV 2) (dV 4)) (aC (d2 iZ (dV 2) (dV 5)) aN)))) (g0 3 (dV 6) (Oh (d2 eW (BU (dV 3) (dV 6) (dC (.int 0))) (dC (.int 1)))))) eA))
def sI:DS:=(aD (bX 2 (ar 1 fX (aC (dV 1) aN))) (aD (si 3) (aD (λρ=>noex ((ez (putN 4) (bJ (ar 1 b_ (aC (dV 0) aN))) (cY [4,5,6] (ez (putN 5) (bJ (ar 3 aV (aC (dV 0) (aC (dV 4) (aC (dC (.int 4)) aN))))) Q4))) ρ)) (zf 3 (bq (dV 3))))))
def cT:List D->M D:=bN 7 (sI)
def Su:DS:=(cY [6,7] (jB (Iv (dN (d2 (g_ true) (dV 6) (dV 5)))) (aD (bX 7 (dA Cs (aC (ar 2 gR (aC (dV 3) (aC (dV 6) aN))) aN))) (aD (mU 4 (dV 7)) (Er 5 (ar 1 eE (aC (dV 7) aN))))) eA))
def BG:DS:=(aD (bX 3 (ar 3 fW (aC (dV 0) (aC (dV 1) (aC (dV 2) aN))))) (aD (tj 4) (aD (si 5) (aD (λρ=>noex ((ez (putN 6) (bJ (dV 1)) Su) ρ)) (zf 4 (bq (dV 4)))))))
def iY:List D->M D:=bN 8 (BG)
def zR:DS:=(aD (gM (ar 1 aM (aC (dV 0) aN))) (aD (gM (ar 2 gS (aC (dV 0) (aC (dV 1) aN)))) (bq (ar 2 c0 (aC (dV 0) (aC (dV 1) aN))))))
def eM:List D->M D:=bN 2 (zR)
def Ic:DS:=(aD (gM (ar 1 aM (aC (dV 0) aN))) (bq (dA C7 (aC (bb 0 (λρ=>(aC (dA bu (aC (d2 bf (dV 0) (dC (.int 0))) aN)) aN) ρ>>=j8) bO (ar 2 b8 (aC (dV 1) (aC (dV 0) aN)))) aN))))
def iq:List D->M D:=bN 1 (Ic)
def BF:DS:=(aD (gM (ar 1 aM (aC (dV 0) aN))) (bq (dA C7 (aC (bb 0 (sP (dV 0)) bO (LB (dV 0) (d1 My (dC (.int 1))))) aN))))
def fm:List D->M D:=bN 1 (BF)
def Rm:DS:=(cY [4,5] (jB (Iv (dN (d2 (g_ true) (dV 4) (dV 3)))) (aD (bX 5 (dA zy (aC (ar 3 dZ (aC (dV 0) (aC (dV 4) (aC (dV 1) aN)))) aN))) (aD (mU 2 (dV 5)) (Er 3 (ar 1 eE (aC (dV 5) aN))))) eA))
def tH:DS:=(aD (tj 2) (aD (si 3) (aD (λρ=>noex ((ez (putN 4) (bJ (ar 1 b_ (aC (dV 0) aN))) Rm) ρ)) (zf 2 (bq (dV 2))))))
def aO:List D->M D:=bN 6 (tH)
def xj:DS:=(aD (bX 3 (ar 1 eE (aC (dV 2) aN))) (aD (bX 4 (bb 0 (bJ (ar 1 b_ (aC (dV 0) aN))) (dN (d2 (g_ true) (dV 0) (dV 4))) (dV 0))) (aD (bX 5 (NL (dN (d2 nj (dV 1) (dC (.int 4)))) (dC (.int 8)) (dC (.int 4)))) (bq (bb 0 (bJ (ar 3 iY (aC (dV 0) (aC (dV 4) (aC (dV 5) aN))))) (cR (cg (ar 2 br (aC (dV 1) (aC (dV 0) aN))))) (dV 0))))))
def dY:List D->M D:=bN 6 (xj)
def EL:DS:=(aD (gM (ar 1 aM (aC (dV 0) aN))) (aD (gM (ar 1 bB (aC (dV 1) aN))) (bq (ar 2 aO (aC (dV 0) (aC (dV 1) aN))))))
def ip:List D->M D:=bN 2 (EL)
def BC:DS:=(aD (gM (ar 1 aM (aC (dV 0) aN))) (aD (gM (ar 1 bB (aC (dV 1) aN))) (bq (dA bu (aC (ar 2 aO (aC (dV 0) (aC (dV 1) aN))) aN)))))
def iV:List D->M D:=bN 2 (BC)
def g7:DS:=(aD (gM (ar 1 aM (aC (dV 0) aN))) (aD (gM (ar 1 bB (aC (dV 1) aN))) (aD (bX 3 (ar 2 aO (aC (dV 0) (aC (dV 1) aN)))) (aD (gM (ar 2 ei (aC (dA bu (aC (dV 3) aN)) (aC (dV 2) aN)))) (bq (d2 kY (dV 3) (dV 2)))))))
def aT:List D->M D:=bN 4 (g7)
def BH:DS:=(aD (gM (ar 1 aM (aC (dV 0) aN))) (aD (gM (ar 1 bB (aC (dV 1) aN))) (bq (d1 oA (ar 2 cT (aC (dV 0) (aC (ar 2 aO (aC (dV 0) (aC (dV 1) aN))) aN)))))))
def cI:List D->M D:=bN 2 (BH)
def BB:DS:=(aD (gM (ar 1 aM (aC (dV 0) aN))) (aD (gM (ar 1 bB (aC (dV 1) aN))) (aD (bX 2 (bb 0 (bJ (ar 2 aO (aC (dV 0) (aC (dV 1) aN)))) bO (dA bu (aC (dV 0) aN)))) (bq (dM uc ye (dV 2) (aC (dA jw (aC (dV 2) aN)) aN))))))
def gu:List D->M D:=bN 3 (BB)
def EK:DS:=(aD (gM (ar 1 aM (aC (dV 0) aN))) (aD (gM (ar 1 bB (aC (dV 1) aN))) (bq (bb 2 (λρ=>(aC (ar 2 aO (aC (dV 0) (aC (dV 1) aN))) aN) ρ>>=qr) (cg (ar 2 br (aC (dV 2) (aC (dV 1) aN)))) (dV 0)))))
def il:List D->M D:=bN 2 (EK)
def NI:DS:=(bq (dA bu (aC (ar 3 aT (aC (dV 0) (aC (dV 1) (aC (dV 2) aN)))) aN)))
def jF:List D->M D:=bN 3 (NI)
def Qv:DS:=(aD (bX 3 (ar 3 aT (aC (dV 0) (aC (dV 1) (aC (dV 2) aN))))) (aD (bX 4 (ar 1 eE (aC (dV 3) aN))) (aD (bX 5 (dC (.int 0))) (aD (λρ=>noex ((ez (putN 6) (bJ (dV 3)) (cY [6] (HA 5 (d2 lG (dC (.int 4)) (dA bu (aC (bb 0 (bJ (ar 3 aV (aC (dV 0) (aC (dV 6) (aC (dC (.int 4)) aN))))) (dN (d2 (g_ false) (dV 0) (dV 5))) (dV 0)) aN)))))) ρ)) (bq (dV 5))))))
def xS:List D->M D:=bN 7 (Qv)
def Qu:DS:=(aD (bX 3 (ar 3 aT (aC (dV 0) (aC (dV 1) (aC (dV 2) aN))))) (aD (bX 4 (bb 0 (bJ (dV 3)) bO (d2 bf (dV 0) (dC (.int 0))))) (aD (bX 5 (bb 0 (bJ (dV 3)) bO (d2 bf (dV 0) (dC (.int 1))))) (bq (dA d7 (aC (dA mr (aC (dV 4) aN)) (aC (dA mr (aC (dV 5) aN)) (aC (dA jw (aC (dV 4) aN)) (aC (dA jw (aC (dV 5) aN)) aN)))))))))
def xR:List D->M D:=bN 6 (Qu)
def EM:DS:=(aD (bX 3 (ar 3 aT (aC (dV 0) (aC (dV 1) (aC (dV 2) aN))))) (aD (tj 4) (aD (λρ=>noex ((ez (putN 5) (bJ (ar 3 dY (aC (dV 0) (aC (dV 1) (aC (dV 3) aN))))) (cY [5] (Bd 4 (dV 5)))) ρ)) (zf 4 (bq (dA HJ (aC (dV 4) aN)))))))
def kE:List D->M D:=bN 6 (EM)
def Kw:DS:=(aD (bX 3 (ar 3 aT (aC (dV 0) (aC (dV 1) (aC (dV 2) aN))))) (bq (dA bu (aC (ar 3 dY (aC (dV 0) (aC (dV 1) (aC (dV 3) aN)))) aN))))
def iU:List D->M D:=bN 4 (Kw)
def sH:DS:=(aD (tj 2) (aD (λρ=>noex ((ez (putN 3) (λρ=>(aC (ar 2 iV (aC (dV 0) (aC (dV 1) aN))) aN) ρ>>=j8) (cY [3] (mU 2 (dA d7 (aC (ar 3 jF (aC (dV 0) (aC (dV 1) (aC (dV 3) aN)))) (aC (ar 3 xS (aC (dV 0) (aC (dV 1) (aC (dV 3) aN)))) (aC (ar 3 iU (aC (dV 0) (aC (dV 1) (aC (dV 3) aN)))) aN))))))) ρ)) (zf 2 (bq (dA zA (aC (dV 2) aN))))))
def cj:List D->M D:=bN 4 (sH)
def BE:DS:=(aD (Hy (r6 [4,5,6,7]) (ar 3 xR (aC (dV 0) (aC (dV 1) (aC (dV 2) aN))))) (aD (bX 8 (ar 3 kE (aC (dV 0) (aC (dV 1) (aC (dV 2) aN))))) (aD (jB (dN (d2 vw (bb 0 (bJ (dV 3)) (cR (Ff (dN (sJ (λi j=>decide (i<=j)) (λi j=>decide (i<=j)) (dV 5) (d2 bf (dV 0) (dC (.int 0))) (dV 7))) (dN (sJ (λi j=>decide (i<=j)) (λi j=>decide (i<=j)) (dV 6) (d2 bf (dV 0) (dC (.int 1))) (dV 8))))) (dV 0)) (dA eZ aN))) (bq (dC (.bl false))) eA) (aD (jB (dN (d2 vw (bb 0 (bJ (dV 8)) (cR (Ff (dN (sJ (λi j=>decide (i<j)) (λi j=>decide (i<j)) (dV 5) (d2 bf (dV 0) (dC (.int 0))) (dV 7))) (dN (sJ (λi j=>decide (i<j)) (λi j=>decide (i<j)) (dV 6) (d2 bf (dV 0) (dC (.int 1))) (dV 8))))) (dV 0)) (dA eZ aN))) (bq (dC (.bl false))) eA) (aD (jB (oF (dN (d2 vw (bb 0 (bJ (dV 8)) (dN (d2 (FF false) (dV 0) (dV 4))) (dV 0)) (dA eZ aN))) (dN (d2 vw (d2 nj (dV 8) (dA eZ aN)) (d2 nj (ar 3 iU (aC (dV 0) (aC (dV 1) (aC (dV 2) aN)))) (dC (.int 0)))))) (bq (dC (.bl false))) eA) (aD (bX 9 (bb 0 (bJ (dV 3)) bO (d2 bf (dV 0) (dC (.int 0))))) (aD (bX 10 (bb 0 (bJ (dV 3)) bO (d2 bf (dV 0) (dC (.int 1))))) (bq (d2 nj (dA eZ (aC (dA mr (aC (dV 9) aN)) (aC (dA jw (aC (dV 9) aN)) (aC (dA mr (aC (dV 10) aN)) (aC (dA jw (aC (dV 10) aN)) aN))))) (dA eZ (aC (dV 4) (aC (dV 6) (aC (dV 5) (aC (dV 7) aN))))))))))))))
def gy:List D->M D:=bN 11 (BE)
def pk:DS:=(bX 1 (ar 3 dP (aC (dV 0) (aC (dC (.int 0)) (aC (dC (.int 4)) aN)))))
def pq:DS:=(bX 2 (d2 kY (dA eZ (aC (dC (.int 4)) (aC (dC (.int 8)) aN))) (ar 3 a_ (aC (dV 0) (aC (dC (.int 50)) (aC (dC (.int 2)) aN))))))
def pw:DS:=(bX 3 (ar 2 ip (aC (dV 1) (aC (dV 2) aN))))
def pz:DS:=(bX 4 (ar 2 cj (aC (dV 1) (aC (dV 2) aN))))
def pA:DS:=(jB (dN (d2 vw (dA mZ (aC (bb 0 (bJ (dV 4)) bO (d2 bf (dV 0) (dC (.int 0)))) aN)) (d2 i2 (dA bu (aC (dV 1) aN)) (dA bu (aC (d2 bf (dV 1) (dC (.int 0))) aN))))) (bq (dC (.bl false))) eA)
def pB:DS:=(bX 5 (dA mZ (aC (bb 2 (bJ (ar 2 cI (aC (dV 1) (aC (dV 2) aN)))) bO (dV 1)) aN)))
def pC:DS:=(jB (dN (d2 vw (dA mZ (aC (bb 0 (bJ (dV 4)) bO (d2 bf (dV 0) (dC (.int 1)))) aN)) (d2 eW (d2 i2 (dC (.int 2)) (dV 5)) (d2 i2 (dC (.int 2)) (d2 eW (dA bu (aC (dV 1) aN)) (dA bu (aC (d2 bf (dV 1) (dC (.int 0))) aN))))))) (bq (dC (.bl false))) eA)
def pD:DS:=(bX 6 (NL (dN (d2 nj (ar 3 a_ (aC (dV 0) (aC (dC (.int 51)) (aC (dC (.int 2)) aN)))) (dC (.int 0)))) (ar 1 iq (aC (dV 1) aN)) (ar 1 fm (aC (dV 1) aN))))
def pE:DS:=(jB (dN (d2 vw (ar 2 cj (aC (dV 6) (aC (dV 2) aN))) (dV 4))) (bq (dC (.bl false))) eA)
def kx:DS:=(λρ=>noex ((ez (r6 [7,8]) (λρ=>(aC (dV 3) aN) ρ>>=qr) (cY [7,8] (jB (oF (cR (cg (ar 4 gy (aC (dV 1) (aC (dV 2) (aC (dV 7) (aC (dV 8) aN))))))) (dN (d2 vw (ar 3 jF (aC (dV 1) (aC (dV 2) (aC (dV 7) aN)))) (dA bu (aC (dV 8) aN))))) (bq (dC (.bl false))) eA))) ρ))
def ng:DS:=(bX 9 (ar 2 gu (aC (dV 1) (aC (dV 2) aN))))
def nh:DS:=(jB (oF (dN (d2 vw (bb 0 (bJ (dV 3)) (dN (d2 Ts (dA bu (aC (dV 0) aN)) (dA bu (aC (d2 kY (dV 4) (dV 10)) aN)))) (dV 0)) (dA eZ aN))) (dN (d2 Ox (dA bu (aC (ar 2 il (aC (dV 1) (aC (dV 2) aN))) aN)) (dC (.int 1))))) (bq (dC (.bl false))) eA)
def ju:DS:=(λρ=>noex ((ez (r6 [10,11]) (bJ (ar 2 cI (aC (dV 1) (aC (dV 2) aN)))) (cY [10,11] (aD (jB (oF (dN (d2 QF (d2 bf (dV 10) (dC (.int 0))) (d2 bf (dV 10) (dC (.int 1))))) (dN (d2 Ox (dV 11) (dC (.int 1))))) (bq (dC (.bl false))) eA) (jB (dN (d2 nj (ar 2 eM (aC (dV 1) (aC (d2 kY (d2 kY (dV 3) (d2 bf (dV 10) (dC (.int 0)))) (dC (.int 0))) aN))) (ar 2 eM (aC (dV 1) (aC (d2 kY (d2 kY (dV 3) (d2 bf (dV 10) (dC (.int 1)))) (dC (.int 0))) aN))))) (bq (dC (.bl false))) eA)))) ρ))
def ni:DS:=(bq (d2 QF (dA bu (aC (ar 2 cI (aC (dV 1) (aC (dV 2) aN))) aN)) (d2 lG (dA bu (aC (dV 3) aN)) (dC (.int 1)))))
def oD:DS:=(aD pk (aD pq (aD pw (aD pz (aD pA (aD pB (aD pC (aD pD (aD pE (aD kx (aD ng (aD nh (aD ju ni)))))))))))))
def kD:List D->M D:=bN 12 oD
structure Bl (K:Wm) (mg:Str->Option Value) (base:Heap) (cv:Nat->Value) (cA:Nat->Addr) (Cp:Addr):Prop where
 len:mg "len"=none
 isinstance:mg "isinstance"=none
 all:mg "all"=none
 any:mg "any"=none
 abs:mg "abs"=none
 max:mg "max"=none
 min:mg "min"=none
 sum:mg "sum"=none
 range:mg "range"=none
 str:mg "str"=none
 int:mg "int"=none
 bool:mg "bool"=none
 tuple:mg "tuple"=none
 list:mg "list"=none
 sorted:mg "sorted"=none
 reversed:mg "reversed"=none
 enumerate:mg "enumerate"=none
 LETTERS:∃t,mg "LETTERS"=some (.str "abcdef" t)
 MOST_ROWS:∃t,mg "MOST_ROWS"=some (.int 8 t)
 MOST_COLUMNS:∃t,mg "MOST_COLUMNS"=some (.int 8 t)
section
variable{P:WU}{w:World}{K:Wm}{mg:Str->Option Value}{base:Heap}{cv:Nat->Value}{cA:Nat->Addr}{Cp:Addr}{f:Addr}
abbrev lQ:Stmt:=top 10
def rh:List Str:=["thing"]
def rK:List Str:=["thing"]
def mR{j k:Nat}{A:Xf}(r:Room k A)(h:j<=k:=by decide):Room j A:=r.mono h
def ck{N Q:List Str}{sc:Scope}(k:sc.kind= .function:=by rfl)(c:sc.isCoroutine=false:=by rfl)(g:sc.isGenerator=false:=by rfl)(p:N.take Q.length=Q:=by rfl)(h:N.Nodup/\(∀x∈Q,sc.names.lookup x=some .local\/sc.names.lookup x=some .cell)/\∀y∈sc.names,y.2≠ .free:=by decide+kernel):FnScope N Q sc:=⟨k,c,g,h.1,p,h.2.1,h.2.2⟩
def zl:FnScope rh rK (ah lQ):=ck
def yM(B:Bl K mg base cv cA Cp)(T:bj K mg "is_whole" lQ f):aj P w K mg base cv 1 "is_whole" 1 (bF):=
 ay (N:=rh) (ps:=rK) T zl (λ_ _ _ _ _ _ us hl=>match us,hl with | [_],_=>rfl) λ_ _ _ _ _ _ hr=>
  (aq (az (v9 (nZ rfl B.isinstance rfl (aa (ae (pv 0)) (aa (uL rfl B.int rfl) af))) (wb (MS (nZ rfl B.isinstance rfl (aa (ae (pv 0)) (aa (uL rfl B.bool rfl) af))))))))
abbrev kc:Stmt:=top 11
def oR:List Str:=["thing"]
def o5:List Str:=["thing"]
def wD:FnScope oR o5 (ah kc):=ck
def vU(B:Bl K mg base cv cA Cp)(T:bj K mg "is_letter" kc f):aj P w K mg base cv 1 "is_letter" 1 (dO):=
 ay (N:=oR) (ps:=o5) T wD (λ_ _ _ _ _ _ us hl=>match us,hl with | [_],_=>rfl) λ_ _ _ _ _ _ hr=>
  (aq (az (v9 (nZ rfl B.isinstance rfl (aa (ae (pv 0)) (aa (uL rfl B.str rfl) af))) (v9 (rS hr.units (bw rfl B.len (aa (ae (pv 0)) af)) au) (wb (MO (ae (pv 0)) (JR rfl B.LETTERS (by decide))))))))
abbrev e_:Stmt:=top 18
def e7:List Str:=["board","row"]
def j0:List Str:=["board","row"]
def pR:FnScope e7 j0 (ah e_):=ck
def pM(B:Bl K mg base cv cA Cp)(T:bj K mg "cells_of_row" e_ f):aj P w K mg base cv 1 "cells_of_row" 2 (cS):=
 ay (N:=e7) (ps:=j0) T pR (λ_ _ _ _ _ _ us hl=>match us,hl with | [_,_],_=>rfl) λ_ _ _ _ _ _ hr=>
  (aq (az (bY (tn:=["column"]) (n:=0) (aS (N:=e7) (osc:=(ah e_)) rfl rfl (by decide+kernel)) rfl rfl (fw rfl B.range (aa (bw rfl B.len (aa (bc (ae (pv 0)) au) af)) af)) (λ_ _ _ _ _ _ _=>bE (show W2 (((["column"]:List Str))++bP ["column"] e7) by decide+kernel) rfl rfl) (λ_ _ _ _ _ _=>bW) (λ_ _ _ _ _ _=>(gD (aa (ae (pv 2)) (aa (ae (pv 0)) af)))))))
abbrev kg:Stmt:=top 20
def oU:List Str:=["board","cell"]
def o9:List Str:=["board","cell"]
def wG:FnScope oU o9 (ah kg):=ck
def vY(B:Bl K mg base cv cA Cp)(T:bj K mg "letter_of" kg f):aj P w K mg base cv 1 "letter_of" 2 (c0):=
 ay (N:=oU) (ps:=o9) T wG (λ_ _ _ _ _ _ us hl=>match us,hl with | [_,_],_=>rfl) λ_ _ _ _ _ _ hr=>
  (aq (az (A9 (bc (ae (pv 0)) (bc (ae (pv 1)) au)) (bc (ae (pv 1)) au))))
abbrev lO:Stmt:=top 21
def ra:List Str:=["one","other","ways","down","along"]
def rF:List Str:=["one","other","ways"]
def kj:FnScope ra rF (ah lO):=ck
def yI(B:Bl K mg base cv cA Cp)(T:bj K mg "are_next" lO f):aj P w K mg base cv 1 "are_next" 3 (eJ):=
 ay (N:=ra) (ps:=rF) T kj (λ_ _ _ _ _ _ us hl=>match us,hl with | [_,_,_],_=>rfl) λ_ _ _ _ _ _ hr=>
  (ai (aW kj.nd rfl (.inl rfl) (GX rfl B.abs (aa (j4 (bc (ae (pv 0)) au) (bc (ae (pv 1)) au)) af) rfl)) (ai (aW kj.nd rfl (.inl rfl) (GX rfl B.abs (aa (j4 (bc (ae (pv 0)) au) (bc (ae (pv 1)) au)) af) rfl)) (ai (bM (uO hr.units (ae (pv 2)) au) (aq (az (rS hr.units (du (ae (pv 3)) (ae (pv 4))) au))) bx) (aq (az (rS hr.units (A_ rfl rfl B.max rfl (aa (ae (pv 3)) (aa (ae (pv 4)) af))) au))))))
abbrev wB:Stmt:=top 23
def Cy:List Str:=["things","found","thing"]
def CG:List Str:=["things"]
def sj:FnScope Cy CG (ah wB):=ck
def GP(B:Bl K mg base cv cA Cp)(T:bj K mg "keyed" wB f):aj P w K mg base cv 1 "keyed" 1 (eE):=
 ay (N:=Cy) (ps:=CG) T sj (λ_ _ _ _ _ _ us hl=>match us,hl with | [_],_=>rfl) λ_ _ _ _ _ _ hr=>
  (ai (iH sj.nd rfl (.inl rfl)) (ai (cO (bQ WH rfl (CM (aR (ae (pv 0))) (yY (ae (pv 0)))) (a8 sj.nd rfl (.inl rfl)) bL (bp (aq (iI hr.units (pv 1) (ae (pv 2)) fU))))) (aq (dJ (i:=1) (az (ae (pv 1)))))))
abbrev cP:Stmt:=top 25
def cM:List Str:=["board","column"]
def fT:List Str:=["board","column"]
def kl:FnScope cM fT (ah cP):=ck
def jY(B:Bl K mg base cv cA Cp)(T:bj K mg "column_from_below" cP f):aj P w K mg base cv 1 "column_from_below" 2 (b8):=
 ay (N:=cM) (ps:=fT) T kl (λ_ _ _ _ _ _ us hl=>match us,hl with | [_,_],_=>rfl) λ_ _ _ _ _ _ hr=>
  (aq (az (CL n4 (aa (bY (tn:=["row"]) (n:=0) (aS (N:=cM) (osc:=(ah cP)) rfl rfl (by decide+kernel)) rfl rfl (JT rfl B.reversed (aa (ae (pv 0)) af)) (λ_ _ _ _ _ _ _=>bE (show W2 (((["row"]:List Str))++bP ["row"] cM) by decide+kernel) rfl rfl) (λ_ _ _ _ _ _=>bW) (λ_ _ _ _ _ _=>(A9 (ae (pv 0)) (ae (pv 2))))) af))))
abbrev ji:Stmt:=top 32
def mB:List Str:=["found","numbers","number","patch","cell"]
def mL:List Str:=["found"]
def eB:FnScope mB mL (ah ji):=ck
def s_(B:Bl K mg base cv cA Cp)(T:bj K mg "numbers_of" ji f):aj P w K mg base cv 1 "numbers_of" 1 (fX):=
 ay (N:=mB) (ps:=mL) T eB (λ_ _ _ _ _ _ us hl=>match us,hl with | [_],_=>rfl) λ_ _ _ _ _ _ hr=>
  (ai (iH eB.nd rfl (.inl rfl)) (ai (cO (bQ WH rfl (rT rfl B.enumerate (aa (ae (pv 0)) af)) (rW rfl (dD (a8 eB.nd rfl (.inl rfl)) (dD (a8 eB.nd rfl (.inl rfl)) mP))) (p8 (is:=[2,3])) (bp (aq (bQ WH rfl (aR (ae (pv 3))) (a8 eB.nd rfl (.inl rfl)) bL (bp (aq (iI hr.units (pv 1) (ae (pv 4)) (ae (pv 2)))))))))) (aq (dJ (i:=1) (az (ae (pv 1)))))))
abbrev j_:Stmt:=top 34
def oO:List Str:=["near","start","far","ring","further","thing","other"]
def o4:List Str:=["near","start"]
def dw:FnScope oO o4 (ah j_):=ck
def vT(B:Bl K mg base cv cA Cp)(T:bj K mg "distances" j_ f):aj P w K mg base cv 1 "distances" 2 (gR):=
 ay (N:=oO) (ps:=o4) T dw (λ_ _ _ _ _ _ us hl=>match us,hl with | [_,_],_=>rfl) λ_ _ _ _ _ _ hr=>
  (ai (y8 dw.nd rfl (.inl rfl) (JS (uM hr.units (ae (pv 1)) au) (Ek hr.units (ae (pv 1)) au))) (ai (aW dw.nd rfl (.inl rfl) (fR (aa (ae (pv 1)) af))) (ai (cO (uN WH (cN (ae (pv 3))) (bp (ai (gZ dw.nd rfl (.inl rfl)) (ai (bQ WH rfl (aR (ae (pv 3))) (a8 dw.nd rfl (.inl rfl)) bL (bp (aq (bQ WH rfl (CM (aR (lM hr.units (ae (pv 0)) (ae (pv 5)))) (yY (lM hr.units (ae (pv 0)) (ae (pv 5))))) (a8 dw.nd rfl (.inl rfl)) bL (bp (aq (bM (wg (iJ hr.units (ae (pv 6)) (ae (pv 2)))) (ai (iI hr.units (pv 2) (ae (pv 6)) (Lf (du (lM hr.units (ae (pv 2)) (ae (pv 5))) au))) (aq (kN (pv 4) (ae (pv 6))))) bx))))))) (aq (dJ (i:=4) (aW dw.nd rfl (.inl rfl) (ae (pv 4)))))))))) (aq (dJ (i:=2) (az (ae (pv 2))))))))
abbrev je:Stmt:=top 41
def mw:List Str:=["board","cell"]
def mG:List Str:=["board","cell"]
def tq:FnScope mw mG (ah je):=ck
def sX(B:Bl K mg base cv cA Cp)(T:bj K mg "is_at_edge" je f):aj P w K mg base cv 1 "is_at_edge" 2 (dX):=
 ay (N:=mw) (ps:=mG) T tq (λ_ _ _ _ _ _ us hl=>match us,hl with | [_,_],_=>rfl) λ_ _ _ _ _ _ hr=>
  (aq (az (PQ (GZ (bc (ae (pv 1)) au) (gD (aa au (aa (j4 (bw rfl B.len (aa (ae (pv 0)) af)) au) af)))) (wb (GZ (bc (ae (pv 1)) au) (gD (aa au (aa (j4 (bw rfl B.len (aa (bc (ae (pv 0)) au) af)) au) af))))))))
abbrev lR:Stmt:=top 54
def ri:List Str:=["_law_script","_law_k"]
def rL:List Str:=["_law_script","_law_k"]
def zm:FnScope ri rL (ah lR):=ck
def yN(B:Bl K mg base cv cA Cp)(T:bj K mg "_law_cell" lR f):aj P w K mg base cv 1 "_law_cell" 2 (gx):=
 ay (N:=ri) (ps:=rL) T zm (λ_ _ _ _ _ _ us hl=>match us,hl with | [_,_],_=>rfl) λ_ _ _ _ _ _ hr=>
  (ai (bM (uO hr.units (ae (pv 0)) (fR af)) (aq (az (h7 au (ae (pv 1))))) bx) (aq (az (du (MP (ae (pv 0)) (n0 (ae (pv 1)) (bw rfl B.len (aa (ae (pv 0)) af)))) (h7 au (wa (ae (pv 1)) (bw rfl B.len (aa (ae (pv 0)) af))))))))
abbrev mV:Stmt:=top 12
def mx:List Str:=["thing"]
def yU:List Str:=["thing"]
def Es:FnScope mx yU (ah mV):=ck
def Ec(B:Bl K mg base cv cA Cp)(xy:aj P w K mg base cv 1 "is_letter" 1 dO)(T:bj K mg "is_row" mV f):aj P w K mg base cv 2 "is_row" 1 (gw):=
 ay (N:=mx) (ps:=yU) T Es (λ_ _ _ _ _ _ us hl=>match us,hl with | [_],_=>rfl) λ_ _ _ _ _ _ hr=>
  (ai (bM (PDW.t (h9 (cF (cN (nZ rfl B.isinstance rfl (aa (ae (pv 0)) (aa (uL rfl B.str rfl) af))))) (fE (cF (lN jZ jZ au (bw rfl B.len (aa (ae (pv 0)) af)) (CJ rfl B.MOST_COLUMNS)))))) (aq (az fU)) bx) (aq (az (A8 rfl rfl B.all rfl (aa (bY (tn:=["sign"]) (n:=0) (aS (N:=mx) (osc:=(ah mV)) rfl rfl (by decide+kernel)) rfl rfl (JU (ae (pv 0))) (λ_ _ _ _ _ _ _=>bE (show W2 (((["sign"]:List Str))++bP ["sign"] mx) by decide+kernel) rfl rfl) (λ_ _ _ _ _ _=>bW) (λ_ _ _ _ _ _=>(aU xy (mR hr) rfl cu (aa (ae (pv 0)) af) rfl))) af)))))
abbrev oi:Stmt:=top 14
def uv:List Str:=["board","thing"]
def uE:List Str:=["board","thing"]
def Bh:FnScope uv uE (ah oi):=ck
def A1(B:Bl K mg base cv cA Cp)(fk:aj P w K mg base cv 1 "is_whole" 1 bF)(T:bj K mg "is_cell" oi f):aj P w K mg base cv 2 "is_cell" 2 (kC):=
 ay (N:=uv) (ps:=uE) T Bh (λ_ _ _ _ _ _ us hl=>match us,hl with | [_,_],_=>rfl) λ_ _ _ _ _ _ hr=>
  (ai (bM (PDW.t (h9 (cF (cN (nZ rfl B.isinstance rfl (aa (ae (pv 1)) (aa (uL rfl B.tuple rfl) af))))) (fE (ll hr.units (bw rfl B.len (aa (ae (pv 1)) af)) au)))) (aq (az fU)) bx) (ai (bM (PDW.t (h9 (cF (cN (aU fk (mR hr) rfl aQ (aa (bc (ae (pv 1)) au) af) rfl))) (fE (cF (cN (aU fk (mR hr) rfl aQ (aa (bc (ae (pv 1)) au) af) rfl)))))) (aq (az fU)) bx) (aq (az (v9 (GY jZ oZ au (bc (ae (pv 1)) au) (bw rfl B.len (aa (ae (pv 0)) af))) (wb (GY jZ oZ au (bc (ae (pv 1)) au) (bw rfl B.len (aa (bc (ae (pv 0)) au) af)))))))))
abbrev ki:Stmt:=top 17
def oW:List Str:=["thing"]
def pb:List Str:=["thing"]
def wI:FnScope oW pb (ah ki):=ck
def v3(B:Bl K mg base cv cA Cp)(fk:aj P w K mg base cv 1 "is_whole" 1 bF)(T:bj K mg "need_ways" ki f):aj P w K mg base cv 2 "need_ways" 1 (bB):=
 ay (N:=oW) (ps:=pb) T wI (λ_ _ _ _ _ _ us hl=>match us,hl with | [_],_=>rfl) λ_ _ _ _ _ _ hr=>
  (aq (bM (PDW.t (h9 (cF (cN (aU fk (mR hr) rfl aQ (aa (ae (pv 0)) af) rfl))) (fE (Eo (ae (pv 0)) (gD (aa au (aa au af))))))) (aq kO) bx))
abbrev j9:Stmt:=top 19
def oN:List Str:=["board","found","row"]
def o3:List Str:=["board"]
def jk:FnScope oN o3 (ah j9):=ck
def vS(B:Bl K mg base cv cA Cp)(qd:aj P w K mg base cv 1 "cells_of_row" 2 cS)(T:bj K mg "all_cells" j9 f):aj P w K mg base cv 2 "all_cells" 1 (b_):=
 ay (N:=oN) (ps:=o3) T jk (λ_ _ _ _ _ _ us hl=>match us,hl with | [_],_=>rfl) λ_ _ _ _ _ _ hr=>
  (ai (gZ jk.nd rfl (.inl rfl)) (ai (cO (bQ WH rfl (fw rfl B.range (aa (bw rfl B.len (aa (ae (pv 0)) af)) af)) (a8 jk.nd rfl (.inl rfl)) bL (bp (aq (CO (pv 1) (aU qd (mR hr) rfl cu (aa (ae (pv 0)) (aa (ae (pv 2)) af)) rfl)))))) (aq (dJ (i:=1) (az (ae (pv 1)))))))
abbrev jh:Stmt:=top 22
def mz:List Str:=["board","cell","ways","found","row","column"]
def mK:List Str:=["board","cell","ways"]
def fG:FnScope mz mK (ah jh):=ck
def s9(B:Bl K mg base cv cA Cp)(Aa:aj P w K mg base cv 1 "are_next" 3 eJ)(T:bj K mg "next_cells" jh f):aj P w K mg base cv 2 "next_cells" 3 (aV):=
 ay (N:=mz) (ps:=mK) T fG (λ_ _ _ _ _ _ us hl=>match us,hl with | [_,_,_],_=>rfl) λ_ _ _ _ _ _ hr=>
  (ai (gZ fG.nd rfl (.inl rfl)) (ai (cO (bQ WH rfl (rV rfl B.range (aa (A_ rfl rfl B.max rfl (aa (j4 (bc (ae (pv 1)) au) au) (aa au af))) (aa (G1 rfl rfl B.min rfl (aa (du (bc (ae (pv 1)) au) au) (aa (bw rfl B.len (aa (ae (pv 0)) af)) af))) af))) (a8 fG.nd rfl (.inl rfl)) bL (bp (aq (bQ WH rfl (rV rfl B.range (aa (A_ rfl rfl B.max rfl (aa (j4 (bc (ae (pv 1)) au) au) (aa au af))) (aa (G1 rfl rfl B.min rfl (aa (du (bc (ae (pv 1)) au) au) (aa (bw rfl B.len (aa (bc (ae (pv 0)) au) af)) af))) af))) (a8 fG.nd rfl (.inl rfl)) bL (bp (aq (bM (cN (aU Aa (mR hr) rfl cu (aa (ae (pv 1)) (aa (gD (aa (ae (pv 4)) (aa (ae (pv 5)) af))) (aa (ae (pv 2)) af))) rfl)) (aq (kN (pv 3) (gD (aa (ae (pv 4)) (aa (ae (pv 5)) af))))) bx)))))))) (aq (dJ (i:=3) (az (ae (pv 3)))))))
abbrev ig:Stmt:=top 39
def lb:List Str:=["many","thing"]
def lh:List Str:=["many","thing"]
def sk:FnScope lb lh (ah ig):=ck
def rC(B:Bl K mg base cv cA Cp)(fk:aj P w K mg base cv 1 "is_whole" 1 bF)(T:bj K mg "need_number" ig f):aj P w K mg base cv 2 "need_number" 2 (ei):=
 ay (N:=lb) (ps:=lh) T sk (λ_ _ _ _ _ _ us hl=>match us,hl with | [_,_],_=>rfl) λ_ _ _ _ _ _ hr=>
  (aq (bM (PDW.t (h9 (cF (cN (aU fk (mR hr) rfl aQ (aa (ae (pv 1)) af) rfl))) (fE (cF (lN jZ oZ au (ae (pv 1)) (ae (pv 0))))))) (aq kO) bx))
abbrev eG:Stmt:=top 42
def eF:List Str:=["board","some"]
def jy:List Str:=["board","some"]
def oq:FnScope eF jy (ah eG):=ck
def nW(B:Bl K mg base cv cA Cp)(vb:aj P w K mg base cv 1 "is_at_edge" 2 dX)(T:bj K mg "comes_to_edge" eG f):aj P w K mg base cv 2 "comes_to_edge" 2 (br):=
 ay (N:=eF) (ps:=jy) T oq (λ_ _ _ _ _ _ us hl=>match us,hl with | [_,_],_=>rfl) λ_ _ _ _ _ _ hr=>
  (aq (az (MN rfl rfl B.any rfl (aa (bY (tn:=["cell"]) (n:=0) (aS (N:=eF) (osc:=(ah eG)) rfl rfl (by decide+kernel)) rfl rfl (aR (ae (pv 1))) (λ_ _ _ _ _ _ _=>bE (show W2 (((["cell"]:List Str))++bP ["cell"] eF) by decide+kernel) rfl rfl) (λ_ _ _ _ _ _=>bW) (λ_ _ _ _ _ _=>(aU vb (mR hr) rfl cu (aa (ae (pv 1)) (aa (ae (pv 0)) af)) rfl))) af))))
abbrev ke:Stmt:=top 55
def oS:List Str:=["_law_script","_law_k","_law_many","_law_cell_here"]
def o7:List Str:=["_law_script","_law_k","_law_many"]
def jl:FnScope oS o7 (ah ke):=ck
def vW(B:Bl K mg base cv cA Cp)(Ad:aj P w K mg base cv 1 "_law_cell" 2 gx)(T:bj K mg "_law_drawn" ke f):aj P w K mg base cv 2 "_law_drawn" 3 (a_):=
 ay (N:=oS) (ps:=o7) T jl (λ_ _ _ _ _ _ us hl=>match us,hl with | [_,_,_],_=>rfl) λ_ _ _ _ _ _ hr=>
  (ai (aW jl.nd rfl (.inl rfl) (n0 (du (h7 (n0 (aU Ad (mR hr) rfl aQ (aa (ae (pv 0)) (aa (ae (pv 1)) af)) rfl) au) au) (h7 au (du (ae (pv 1)) au))) au)) (ai (aW jl.nd rfl (.inl rfl) (n0 (du (h7 (ae (pv 3)) (ae (pv 3))) (wa (ae (pv 3)) au)) au)) (aq (az (n0 (wa (n0 (du (h7 (ae (pv 3)) (ae (pv 3))) (wa (ae (pv 3)) au)) au) au) (ae (pv 2)))))))
abbrev gG:Stmt:=top 13
def fq:List Str:=["thing"]
def rJ:List Str:=["thing"]
def zk:FnScope fq rJ (ah gG):=ck
def yL(B:Bl K mg base cv cA Cp)(E8:aj P w K mg base cv 2 "is_row" 1 gw)(T:bj K mg "is_board" gG f):aj P w K mg base cv 3 "is_board" 1 (iX):=
 ay (N:=fq) (ps:=rJ) T zk (λ_ _ _ _ _ _ us hl=>match us,hl with | [_],_=>rfl) λ_ _ _ _ _ _ hr=>
  (ai (bM (PDW.t (h9 (cF (cN (nZ rfl B.isinstance rfl (aa (ae (pv 0)) (aa (uL rfl B.tuple rfl) af))))) (fE (cF (lN jZ jZ au (bw rfl B.len (aa (ae (pv 0)) af)) (CJ rfl B.MOST_ROWS)))))) (aq (az fU)) bx) (ai (bM (cF (cN (A8 rfl rfl B.all rfl (aa (bY (tn:=["row"]) (n:=0) (aS (N:=fq) (osc:=(ah gG)) rfl rfl (by decide+kernel)) rfl rfl (we (ae (pv 0))) (λ_ _ _ _ _ _ _=>bE (show W2 (((["row"]:List Str))++bP ["row"] fq) by decide+kernel) rfl rfl) (λ_ _ _ _ _ _=>bW) (λ_ _ _ _ _ _=>(aU E8 (mR hr) rfl cu (aa (ae (pv 0)) af) rfl))) af)))) (aq (az fU)) bx) (aq (az (A8 rfl rfl B.all rfl (aa (bY (tn:=["row"]) (n:=0) (aS (N:=fq) (osc:=(ah gG)) rfl rfl (by decide+kernel)) rfl rfl (we (ae (pv 0))) (λ_ _ _ _ _ _ _=>bE (show W2 (((["row"]:List Str))++bP ["row"] fq) by decide+kernel) rfl rfl) (λ_ _ _ _ _ _=>bW) (λ_ _ _ _ _ _=>(rS hr.units (bw rfl B.len (aa (ae (pv 0)) af)) (bw rfl B.len (aa (bc (ae (pv 1)) au) af))))) af))))))
abbrev kh:Stmt:=top 16
def oV:List Str:=["board","thing"]
def o_:List Str:=["board","thing"]
def wH:FnScope oV o_ (ah kh):=ck
def vZ(B:Bl K mg base cv cA Cp)(Dj:aj P w K mg base cv 2 "is_cell" 2 kC)(T:bj K mg "need_cell" kh f):aj P w K mg base cv 3 "need_cell" 2 (gS):=
 ay (N:=oV) (ps:=o_) T wH (λ_ _ _ _ _ _ us hl=>match us,hl with | [_,_],_=>rfl) λ_ _ _ _ _ _ hr=>
  (aq (bM (cF (cN (aU Dj (mR hr) rfl aQ (aa (ae (pv 0)) (aa (ae (pv 1)) af)) rfl))) (aq kO) bx))
abbrev gb:Stmt:=top 29
def fZ:List Str:=["board","cell","ways","letter"]
def mH:List Str:=["board","cell","ways"]
def lp:FnScope fZ mH (ah gb):=ck
def sY(B:Bl K mg base cv cA Cp)(gP:aj P w K mg base cv 1 "letter_of" 2 c0)(dg:aj P w K mg base cv 2 "next_cells" 3 aV)(T:bj K mg "like_cells" gb f):aj P w K mg base cv 3 "like_cells" 3 (di):=
 ay (N:=fZ) (ps:=mH) T lp (λ_ _ _ _ _ _ us hl=>match us,hl with | [_,_,_],_=>rfl) λ_ _ _ _ _ _ hr=>
  (ai (aW lp.nd rfl (.inr rfl) (aU gP (mR hr) rfl aQ (aa (ae (pv 0)) (aa (ae (pv 1)) af)) rfl)) (aq (az (bY (tn:=["near"]) (n:=0) (aS (N:=fZ) (osc:=(ah gb)) rfl rfl (by decide+kernel)) rfl rfl (aR (aU dg (mR hr) rfl aQ (aa (ae (pv 0)) (aa (ae (pv 1)) (aa (ae (pv 2)) af))) rfl)) (λ_ _ _ _ _ _ _=>bE (show W2 (((["near"]:List Str))++bP ["near"] fZ) by decide+kernel) rfl rfl) (λ_ _ _ _ _ _=>(eD (uO hr.units (aU gP (mR hr) rfl cu (aa (ae (pv 1)) (aa (ae (pv 0)) af)) rfl) (ae (pv 4))))) (λ_ _ _ _ _ _=>(ae (pv 0)))))))
abbrev gc:Stmt:=top 33
def f6:List Str:=["board","some","ways","among","near","cell"]
def mI:List Str:=["board","some","ways"]
def fF:FnScope f6 mI (ah gc):=ck
def sZ(B:Bl K mg base cv cA Cp)(fV:aj P w K mg base cv 1 "keyed" 1 eE)(dg:aj P w K mg base cv 2 "next_cells" 3 aV)(T:bj K mg "near_among" gc f):aj P w K mg base cv 3 "near_among" 3 (fW):=
 ay (N:=f6) (ps:=mI) T fF (λ_ _ _ _ _ _ us hl=>match us,hl with | [_,_,_],_=>rfl) λ_ _ _ _ _ _ hr=>
  (ai (aW fF.nd rfl (.inr rfl) (aU fV (mR hr) rfl aQ (aa (ae (pv 1)) af) rfl)) (ai (iH fF.nd rfl (.inl rfl)) (ai (cO (bQ WH rfl (aR (ae (pv 1))) (a8 fF.nd rfl (.inl rfl)) bL (bp (aq (iI hr.units (pv 4) (ae (pv 5)) (bY (tn:=["other"]) (n:=0) (aS (N:=f6) (osc:=(ah gc)) rfl rfl (by decide+kernel)) rfl rfl (aR (aU dg (mR hr) rfl cu (aa (ae (pv 0)) (aa (ae (pv 5)) (aa (ae (pv 2)) af))) rfl)) (λ_ _ _ _ _ _ _=>bE (show W2 (((["other"]:List Str))++bP ["other"] f6) by decide+kernel) rfl rfl) (λ_ _ _ _ _ _=>(eD (He hr.units (ae (pv 0)) (ae (pv 4))))) (λ_ _ _ _ _ _=>(ae (pv 0))))))))) (aq (dJ (i:=4) (az (ae (pv 4))))))))
abbrev gJ:Stmt:=top 44
def jU:List Str:=["board","found","numbers","shared","cell","near","pair"]
def j2:List Str:=["board","found"]
def cy:FnScope jU j2 (ah gJ):=ck
def pO(B:Bl K mg base cv cA Cp)(vf:aj P w K mg base cv 1 "numbers_of" 1 fX)(fI:aj P w K mg base cv 2 "all_cells" 1 b_)(dg:aj P w K mg base cv 2 "next_cells" 3 aV)(T:bj K mg "shared_sides" gJ f):aj P w K mg base cv 3 "shared_sides" 2 (cT):=
 ay (N:=jU) (ps:=j2) T cy (λ_ _ _ _ _ _ us hl=>match us,hl with | [_,_],_=>rfl) λ_ _ _ _ _ _ hr=>
  (ai (aW cy.nd rfl (.inl rfl) (aU vf (mR hr) rfl aQ (aa (ae (pv 1)) af) rfl)) (ai (iH cy.nd rfl (.inl rfl)) (ai (cO (bQ WH rfl (aR (aU fI (mR hr) rfl cu (aa (ae (pv 0)) af) rfl)) (a8 cy.nd rfl (.inl rfl)) bL (bp (aq (bQ WH rfl (aR (aU dg (mR hr) rfl cu (aa (ae (pv 0)) (aa (ae (pv 4)) (aa au af))) rfl)) (a8 cy.nd rfl (.inl rfl)) bL (bp (aq (bM (Hf (lM hr.units (ae (pv 2)) (ae (pv 4))) (lM hr.units (ae (pv 2)) (ae (pv 5)))) (ai (aW cy.nd rfl (.inl rfl) (gD (aa (lM hr.units (ae (pv 2)) (ae (pv 4))) (aa (lM hr.units (ae (pv 2)) (ae (pv 5))) af)))) (aq (iI hr.units (pv 3) (ae (pv 6)) (Lf (du (JN hr.units (ae (pv 3)) (ae (pv 6)) au ⟨rfl,rfl,rfl,rfl⟩) au))))) bx)))))))) (aq (dJ (i:=3) (az (ae (pv 3))))))))
abbrev g6:Stmt:=top 56
def gW:List Str:=["_law_script","_law_at","_law_most","_law_rows","_law_wide","_law_alphabet","_law_found","_law_row","_law_signs"]
def o6:List Str:=["_law_script","_law_at","_law_most"]
def cH:FnScope gW o6 (ah g6):=ck
def vV(B:Bl K mg base cv cA Cp)(bR:aj P w K mg base cv 2 "_law_drawn" 3 a_)(T:bj K mg "_law_board" g6 f):aj P w K mg base cv 3 "_law_board" 3 (dP):=
 ay (N:=gW) (ps:=o6) T cH (λ_ _ _ _ _ _ us hl=>match us,hl with | [_,_,_],_=>rfl) λ_ _ _ _ _ _ hr=>
  (ai (aW cH.nd rfl (.inl rfl) (du au (aU bR (mR hr) rfl aQ (aa (ae (pv 0)) (aa (ae (pv 1)) (aa (ae (pv 2)) af))) rfl))) (ai (aW cH.nd rfl (.inl rfl) (du au (aU bR (mR hr) rfl aQ (aa (ae (pv 0)) (aa (du (ae (pv 1)) au) (aa (ae (pv 2)) af))) rfl))) (ai (aW cH.nd rfl (.inr rfl) (j3 (fR (aa n4 (aa n4 (aa n4 (aa n4 af))))) (aU bR (mR hr) rfl aQ (aa (ae (pv 0)) (aa (du (ae (pv 1)) au) (aa au af))) rfl))) (ai (aW cH.nd rfl (.inl rfl) (gD af)) (ai (cO (bQ WH rfl (fw rfl B.range (aa (ae (pv 3)) af)) (a8 cH.nd rfl (.inr rfl)) bL (bp (ai (dS (tn:=["_law_k"]) (n:=0) cH.nd rfl (.inl rfl) (aS (N:=gW) (osc:=(ah g6)) rfl rfl (by decide+kernel)) rfl rfl (fw rfl B.range (aa (ae (pv 4)) af)) (λ_ _ _ _ _ _ _=>bE (show W2 (((["_law_k"]:List Str))++bP ["_law_k"] gW) by decide+kernel) rfl rfl) (λ_ _ _ _ _ _=>bW) (λ_ _ _ _ _ _=>(A9 (ae (pv 6)) (aU bR (mR hr) rfl cu (aa (ae (pv 1)) (aa (du (du (du (ae (pv 2)) au) (h7 au (ae (pv 8)))) (ae (pv 0))) (aa (bw rfl B.len (aa (ae (pv 6)) af)) af))) rfl)))) (aq (aW cH.nd rfl (.inl rfl) (JM (ae (pv 6)) (gD (aa (CL n4 (aa (ae (pv 8)) af)) af))))))))) (aq (az (ae (pv 6)))))))))
abbrev jg:Stmt:=top 15
def my:List Str:=["thing"]
def mJ:List Str:=["thing"]
def tu:FnScope my mJ (ah jg):=ck
def s8(B:Bl K mg base cv cA Cp)(Ac:aj P w K mg base cv 3 "is_board" 1 iX)(T:bj K mg "need_board" jg f):aj P w K mg base cv 4 "need_board" 1 (aM):=
 ay (N:=my) (ps:=mJ) T tu (λ_ _ _ _ _ _ us hl=>match us,hl with | [_],_=>rfl) λ_ _ _ _ _ _ hr=>
  (aq (bM (cF (cN (aU Ac (mR hr) rfl aQ (aa (ae (pv 0)) af) rfl))) (aq kO) bx))
abbrev jj:Stmt:=top 30
def mC:List Str:=["board","start","ways","back","ring","further","cell","near"]
def mN:List Str:=["board","start","ways"]
def cJ:FnScope mC mN (ah jj):=ck
def th(B:Bl K mg base cv cA Cp)(vc:aj P w K mg base cv 3 "like_cells" 3 di)(T:bj K mg "steps_back" jj f):aj P w K mg base cv 4 "steps_back" 3 (dZ):=
 ay (N:=mC) (ps:=mN) T cJ (λ_ _ _ _ _ _ us hl=>match us,hl with | [_,_,_],_=>rfl) λ_ _ _ _ _ _ hr=>
  (ai (y8 cJ.nd rfl (.inl rfl) (uM hr.units (ae (pv 1)) MR)) (ai (aW cJ.nd rfl (.inl rfl) (fR (aa (ae (pv 1)) af))) (ai (cO (uN WH (cN (ae (pv 4))) (bp (ai (gZ cJ.nd rfl (.inl rfl)) (ai (bQ WH rfl (aR (ae (pv 4))) (a8 cJ.nd rfl (.inl rfl)) bL (bp (aq (bQ WH rfl (aR (aU vc (mR hr) rfl cu (aa (ae (pv 0)) (aa (ae (pv 6)) (aa (ae (pv 2)) af))) rfl)) (a8 cJ.nd rfl (.inl rfl)) bL (bp (aq (bM (wg (iJ hr.units (ae (pv 7)) (ae (pv 3)))) (ai (iI hr.units (pv 3) (ae (pv 7)) (ae (pv 6))) (aq (kN (pv 5) (ae (pv 7))))) bx))))))) (aq (dJ (i:=5) (aW cJ.nd rfl (.inl rfl) (ae (pv 5)))))))))) (aq (dJ (i:=3) (az (ae (pv 3))))))))
abbrev lS:Stmt:=top 35
def rj:List Str:=["board","some","ways","near","parts","seen","cell","part"]
def rO:List Str:=["board","some","ways"]
def eR:FnScope rj rO (ah lS):=ck
def yQ(B:Bl K mg base cv cA Cp)(ve:aj P w K mg base cv 3 "near_among" 3 fW)(xx:aj P w K mg base cv 1 "distances" 2 gR)(fV:aj P w K mg base cv 1 "keyed" 1 eE)(T:bj K mg "parts_of" lS f):aj P w K mg base cv 4 "parts_of" 3 (iY):=
 ay (N:=rj) (ps:=rO) T eR (λ_ _ _ _ _ _ us hl=>match us,hl with | [_,_,_],_=>rfl) λ_ _ _ _ _ _ hr=>
  (ai (aW eR.nd rfl (.inl rfl) (aU ve (mR hr) rfl aQ (aa (ae (pv 0)) (aa (ae (pv 1)) (aa (ae (pv 2)) af))) rfl)) (ai (gZ eR.nd rfl (.inl rfl)) (ai (iH eR.nd rfl (.inl rfl)) (ai (cO (bQ WH rfl (aR (ae (pv 1))) (a8 eR.nd rfl (.inl rfl)) bL (bp (aq (bM (wg (iJ hr.units (ae (pv 6)) (ae (pv 5)))) (ai (aW eR.nd rfl (.inl rfl) (G0 rfl rfl B.list rfl (aa (aU xx (mR hr) rfl cu (aa (ae (pv 3)) (aa (ae (pv 6)) af)) rfl) af))) (ai (kN (pv 4) (ae (pv 7))) (aq (CP hr.units (pv 5) (aU fV (mR hr) rfl cu (aa (ae (pv 7)) af) rfl) ⟨rfl,rfl,rfl,rfl⟩)))) bx))))) (aq (dJ (i:=4) (az (ae (pv 4)))))))))
abbrev kf:Stmt:=top 24
def oT:List Str:=["board","cell"]
def o8:List Str:=["board","cell"]
def wF:FnScope oT o8 (ah kf):=ck
def vX(B:Bl K mg base cv cA Cp)(a6:aj P w K mg base cv 4 "need_board" 1 aM)(xA:aj P w K mg base cv 3 "need_cell" 2 gS)(gP:aj P w K mg base cv 1 "letter_of" 2 c0)(T:bj K mg "letter_at" kf f):aj P w K mg base cv 5 "letter_at" 2 (eM):=
 ay (N:=oT) (ps:=o8) T wF (λ_ _ _ _ _ _ us hl=>match us,hl with | [_,_],_=>rfl) λ_ _ _ _ _ _ hr=>
  (ai (cG (aU a6 (mR hr) rfl aQ (aa (ae (pv 0)) af) rfl)) (ai (cG (aU xA (mR hr) rfl aQ (aa (ae (pv 0)) (aa (ae (pv 1)) af)) rfl)) (aq (az (aU gP (mR hr) rfl aQ (aa (ae (pv 0)) (aa (ae (pv 1)) af)) rfl)))))
abbrev mW:Stmt:=top 26
def mD:List Str:=["board"]
def yV:List Str:=["board"]
def Et:FnScope mD yV (ah mW):=ck
def Ed(B:Bl K mg base cv cA Cp)(a6:aj P w K mg base cv 4 "need_board" 1 aM)(kW:aj P w K mg base cv 1 "column_from_below" 2 b8)(T:bj K mg "turned" mW f):aj P w K mg base cv 5 "turned" 1 (iq):=
 ay (N:=mD) (ps:=yV) T Et (λ_ _ _ _ _ _ us hl=>match us,hl with | [_],_=>rfl) λ_ _ _ _ _ _ hr=>
  (ai (cG (aU a6 (mR hr) rfl aQ (aa (ae (pv 0)) af) rfl)) (aq (az (yX rfl B.tuple rfl (aa (bY (tn:=["column"]) (n:=0) (aS (N:=mD) (osc:=(ah mW)) rfl rfl (by decide+kernel)) rfl rfl (fw rfl B.range (aa (bw rfl B.len (aa (bc (ae (pv 0)) au) af)) af)) (λ_ _ _ _ _ _ _=>bE (show W2 (((["column"]:List Str))++bP ["column"] mD) by decide+kernel) rfl rfl) (λ_ _ _ _ _ _=>bW) (λ_ _ _ _ _ _=>(aU kW (mR hr) rfl cu (aa (ae (pv 1)) (aa (ae (pv 0)) af)) rfl))) af)))))
abbrev jf:Stmt:=top 27
def jb:List Str:=["board"]
def rN:List Str:=["board"]
def zo:FnScope jb rN (ah jf):=ck
def yP(B:Bl K mg base cv cA Cp)(a6:aj P w K mg base cv 4 "need_board" 1 aM)(T:bj K mg "mirrored" jf f):aj P w K mg base cv 5 "mirrored" 1 (fm):=
 ay (N:=jb) (ps:=rN) T zo (λ_ _ _ _ _ _ us hl=>match us,hl with | [_],_=>rfl) λ_ _ _ _ _ _ hr=>
  (ai (cG (aU a6 (mR hr) rfl aQ (aa (ae (pv 0)) af) rfl)) (aq (az (yX rfl B.tuple rfl (aa (bY (tn:=["row"]) (n:=0) (aS (N:=jb) (osc:=(ah jf)) rfl rfl (by decide+kernel)) rfl rfl (we (ae (pv 0))) (λ_ _ _ _ _ _ _=>bE (show W2 (((["row"]:List Str))++bP ["row"] jb) by decide+kernel) rfl rfl) (λ_ _ _ _ _ _=>bW) (λ_ _ _ _ _ _=>(MT (ae (pv 0)) (MQ au)))) af)))))
abbrev ie:Stmt:=top 31
def la:List Str:=["board","ways","found","seen","cell","patch"]
def lg:List Str:=["board","ways"]
def dW:FnScope la lg (ah ie):=ck
def rB(B:Bl K mg base cv cA Cp)(fI:aj P w K mg base cv 2 "all_cells" 1 b_)(vg:aj P w K mg base cv 4 "steps_back" 3 dZ)(fV:aj P w K mg base cv 1 "keyed" 1 eE)(T:bj K mg "all_patches" ie f):aj P w K mg base cv 5 "all_patches" 2 (aO):=
 ay (N:=la) (ps:=lg) T dW (λ_ _ _ _ _ _ us hl=>match us,hl with | [_,_],_=>rfl) λ_ _ _ _ _ _ hr=>
  (ai (gZ dW.nd rfl (.inl rfl)) (ai (iH dW.nd rfl (.inl rfl)) (ai (cO (bQ WH rfl (aR (aU fI (mR hr) rfl cu (aa (ae (pv 0)) af) rfl)) (a8 dW.nd rfl (.inl rfl)) bL (bp (aq (bM (wg (iJ hr.units (ae (pv 4)) (ae (pv 3)))) (ai (aW dW.nd rfl (.inl rfl) (JP rfl rfl B.sorted rfl (aa (aU vg (mR hr) rfl cu (aa (ae (pv 0)) (aa (ae (pv 4)) (aa (ae (pv 1)) af))) rfl) af))) (ai (kN (pv 2) (ae (pv 5))) (aq (CP hr.units (pv 3) (aU fV (mR hr) rfl cu (aa (ae (pv 5)) af) rfl) ⟨rfl,rfl,rfl,rfl⟩)))) bx))))) (aq (dJ (i:=2) (az (ae (pv 2))))))))
abbrev fc:Stmt:=top 43
def d4:List Str:=["board","ways","patch","inside","others","other_ways"]
def mM:List Str:=["board","ways","patch"]
def fH:FnScope d4 mM (ah fc):=ck
def tf(B:Bl K mg base cv cA Cp)(fV:aj P w K mg base cv 1 "keyed" 1 eE)(fI:aj P w K mg base cv 2 "all_cells" 1 b_)(Ae:aj P w K mg base cv 4 "parts_of" 3 iY)(fO:aj P w K mg base cv 2 "comes_to_edge" 2 br)(T:bj K mg "shut_parts" fc f):aj P w K mg base cv 5 "shut_parts" 3 (dY):=
 ay (N:=d4) (ps:=mM) T fH (λ_ _ _ _ _ _ us hl=>match us,hl with | [_,_,_],_=>rfl) λ_ _ _ _ _ _ hr=>
  (ai (aW fH.nd rfl (.inr rfl) (aU fV (mR hr) rfl aQ (aa (ae (pv 2)) af) rfl)) (ai (dS (tn:=["cell"]) (n:=0) fH.nd rfl (.inl rfl) (aS (N:=d4) (osc:=(ah fc)) rfl rfl (by decide+kernel)) rfl rfl (aR (aU fI (mR hr) rfl aQ (aa (ae (pv 0)) af) rfl)) (λ_ _ _ _ _ _ _=>bE (show W2 (((["cell"]:List Str))++bP ["cell"] d4) by decide+kernel) rfl rfl) (λ_ _ _ _ _ _=>(eD (iJ hr.units (ae (pv 0)) (ae (pv 4))))) (λ_ _ _ _ _ _=>(ae (pv 0)))) (ai (aW fH.nd rfl (.inl rfl) (Le (uO hr.units (ae (pv 1)) au) au au)) (aq (az (bY (tn:=["part"]) (n:=0) (aS (N:=d4) (osc:=(ah fc)) rfl rfl (by decide+kernel)) rfl rfl (aR (aU Ae (mR hr) rfl aQ (aa (ae (pv 0)) (aa (ae (pv 4)) (aa (ae (pv 5)) af))) rfl)) (λ_ _ _ _ _ _ _=>bE (show W2 (((["part"]:List Str))++bP ["part"] d4) by decide+kernel) rfl rfl) (λ_ _ _ _ _ _=>(eD (cF (cN (aU fO (mR hr) rfl cu (aa (ae (pv 1)) (aa (ae (pv 0)) af)) rfl))))) (λ_ _ _ _ _ _=>(ae (pv 0)))))))))
abbrev oj:Stmt:=top 36
def uw:List Str:=["board","ways"]
def uF:List Str:=["board","ways"]
def Bi:FnScope uw uF (ah oj):=ck
def A2(B:Bl K mg base cv cA Cp)(a6:aj P w K mg base cv 4 "need_board" 1 aM)(bS:aj P w K mg base cv 2 "need_ways" 1 bB)(bC:aj P w K mg base cv 5 "all_patches" 2 aO)(T:bj K mg "patches" oj f):aj P w K mg base cv 6 "patches" 2 (ip):=
 ay (N:=uw) (ps:=uF) T Bi (λ_ _ _ _ _ _ us hl=>match us,hl with | [_,_],_=>rfl) λ_ _ _ _ _ _ hr=>
  (ai (cG (aU a6 (mR hr) rfl aQ (aa (ae (pv 0)) af) rfl)) (ai (cG (aU bS (mR hr) rfl aQ (aa (ae (pv 1)) af) rfl)) (aq (az (aU bC (mR hr) rfl aQ (aa (ae (pv 0)) (aa (ae (pv 1)) af)) rfl)))))
abbrev lP:Stmt:=top 37
def rf:List Str:=["board","ways"]
def rH:List Str:=["board","ways"]
def zj:FnScope rf rH (ah lP):=ck
def yK(B:Bl K mg base cv cA Cp)(a6:aj P w K mg base cv 4 "need_board" 1 aM)(bS:aj P w K mg base cv 2 "need_ways" 1 bB)(bC:aj P w K mg base cv 5 "all_patches" 2 aO)(T:bj K mg "how_many" lP f):aj P w K mg base cv 6 "how_many" 2 (iV):=
 ay (N:=rf) (ps:=rH) T zj (λ_ _ _ _ _ _ us hl=>match us,hl with | [_,_],_=>rfl) λ_ _ _ _ _ _ hr=>
  (ai (cG (aU a6 (mR hr) rfl aQ (aa (ae (pv 0)) af) rfl)) (ai (cG (aU bS (mR hr) rfl aQ (aa (ae (pv 1)) af) rfl)) (aq (az (bw rfl B.len (aa (aU bC (mR hr) rfl aQ (aa (ae (pv 0)) (aa (ae (pv 1)) af)) rfl) af))))))
abbrev fb:Stmt:=top 40
def gX:List Str:=["board","ways","number","found"]
def gY:List Str:=["board","ways","number"]
def gK:FnScope gX gY (ah fb):=ck
def lK(B:Bl K mg base cv cA Cp)(a6:aj P w K mg base cv 4 "need_board" 1 aM)(bS:aj P w K mg base cv 2 "need_ways" 1 bB)(bC:aj P w K mg base cv 5 "all_patches" 2 aO)(sN:aj P w K mg base cv 2 "need_number" 2 ei)(T:bj K mg "patch_of_number" fb f):aj P w K mg base cv 6 "patch_of_number" 3 (aT):=
 ay (N:=gX) (ps:=gY) T gK (λ_ _ _ _ _ _ us hl=>match us,hl with | [_,_,_],_=>rfl) λ_ _ _ _ _ _ hr=>
  (ai (cG (aU a6 (mR hr) rfl aQ (aa (ae (pv 0)) af) rfl)) (ai (cG (aU bS (mR hr) rfl aQ (aa (ae (pv 1)) af) rfl)) (ai (aW gK.nd rfl (.inl rfl) (aU bC (mR hr) rfl aQ (aa (ae (pv 0)) (aa (ae (pv 1)) af)) rfl)) (ai (cG (aU sN (mR hr) rfl aQ (aa (bw rfl B.len (aa (ae (pv 3)) af)) (aa (ae (pv 2)) af)) rfl)) (aq (az (j3 (ae (pv 3)) (ae (pv 2)))))))))
abbrev lT:Stmt:=top 50
def rk:List Str:=["board","ways"]
def rP:List Str:=["board","ways"]
def zp:FnScope rk rP (ah lT):=ck
def yR(B:Bl K mg base cv cA Cp)(a6:aj P w K mg base cv 4 "need_board" 1 aM)(bS:aj P w K mg base cv 2 "need_ways" 1 bB)(qe:aj P w K mg base cv 3 "shared_sides" 2 cT)(bC:aj P w K mg base cv 5 "all_patches" 2 aO)(T:bj K mg "touching" lT f):aj P w K mg base cv 6 "touching" 2 (cI):=
 ay (N:=rk) (ps:=rP) T zp (λ_ _ _ _ _ _ us hl=>match us,hl with | [_,_],_=>rfl) λ_ _ _ _ _ _ hr=>
  (ai (cG (aU a6 (mR hr) rfl aQ (aa (ae (pv 0)) af) rfl)) (ai (cG (aU bS (mR hr) rfl aQ (aa (ae (pv 1)) af) rfl)) (aq (az (G2 rfl hr.units rfl B.sorted rfl (aU qe (mR hr) rfl aQ (aa (ae (pv 0)) (aa (aU bC (mR hr) rfl aQ (aa (ae (pv 0)) (aa (ae (pv 1)) af)) rfl) af)) rfl))))))
abbrev jd:Stmt:=top 51
def ja:List Str:=["board","ways","lengths"]
def rG:List Str:=["board","ways"]
def pe:FnScope ja rG (ah jd):=ck
def yJ(B:Bl K mg base cv cA Cp)(a6:aj P w K mg base cv 4 "need_board" 1 aM)(bS:aj P w K mg base cv 2 "need_ways" 1 bB)(bC:aj P w K mg base cv 5 "all_patches" 2 aO)(T:bj K mg "greatest" jd f):aj P w K mg base cv 6 "greatest" 2 (gu):=
 ay (N:=ja) (ps:=rG) T pe (λ_ _ _ _ _ _ us hl=>match us,hl with | [_,_],_=>rfl) λ_ _ _ _ _ _ hr=>
  (ai (cG (aU a6 (mR hr) rfl aQ (aa (ae (pv 0)) af) rfl)) (ai (cG (aU bS (mR hr) rfl aQ (aa (ae (pv 1)) af) rfl)) (ai (dS (tn:=["patch"]) (n:=0) pe.nd rfl (.inl rfl) (aS (N:=ja) (osc:=(ah jd)) rfl rfl (by decide+kernel)) rfl rfl (aR (aU bC (mR hr) rfl aQ (aa (ae (pv 0)) (aa (ae (pv 1)) af)) rfl)) (λ_ _ _ _ _ _ _=>bE (show W2 (((["patch"]:List Str))++bP ["patch"] ja) by decide+kernel) rfl rfl) (λ_ _ _ _ _ _=>bW) (λ_ _ _ _ _ _=>(bw rfl B.len (aa (ae (pv 0)) af)))) (aq (az (JO (ae (pv 2)) (aa (mO rfl rfl B.max rfl (aa (ae (pv 2)) af)) af)))))))
abbrev kR:Stmt:=top 52
def kJ:List Str:=["board","ways"]
def uD:List Str:=["board","ways"]
def Bg:FnScope kJ uD (ah kR):=ck
def A0(B:Bl K mg base cv cA Cp)(a6:aj P w K mg base cv 4 "need_board" 1 aM)(bS:aj P w K mg base cv 2 "need_ways" 1 bB)(fO:aj P w K mg base cv 2 "comes_to_edge" 2 br)(bC:aj P w K mg base cv 5 "all_patches" 2 aO)(T:bj K mg "at_edge" kR f):aj P w K mg base cv 6 "at_edge" 2 (il):=
 ay (N:=kJ) (ps:=uD) T Bg (λ_ _ _ _ _ _ us hl=>match us,hl with | [_,_],_=>rfl) λ_ _ _ _ _ _ hr=>
  (ai (cG (aU a6 (mR hr) rfl aQ (aa (ae (pv 0)) af) rfl)) (ai (cG (aU bS (mR hr) rfl aQ (aa (ae (pv 1)) af) rfl)) (aq (az (bY (tn:=["number","patch"]) (n:=2) (aS (N:=kJ) (osc:=(ah kR)) rfl rfl (by decide+kernel)) rfl rfl (rT rfl B.enumerate (aa (aU bC (mR hr) rfl aQ (aa (ae (pv 0)) (aa (ae (pv 1)) af)) rfl) af)) (λ_ _ _ _ _ _ _=>HZ (show W2 (((["number","patch"]:List Str))++bP ["number","patch"] kJ) by decide+kernel) rfl rfl rfl rfl rfl) (λ_ _ _ _ _ _=>(eD (cN (aU fO (mR hr) rfl cu (aa (ae (pv 2)) (aa (ae (pv 1)) af)) rfl)))) (λ_ _ _ _ _ _=>(ae (pv 0))))))))
abbrev Bf:Stmt:=top 45
def Gy:List Str:=["board","ways","number"]
def GV:List Str:=["board","ways","number"]
def Ki:FnScope Gy GV (ah Bf):=ck
def JA(B:Bl K mg base cv cA Cp)(bg:aj P w K mg base cv 6 "patch_of_number" 3 aT)(T:bj K mg "size" Bf f):aj P w K mg base cv 7 "size" 3 (jF):=
 ay (N:=Gy) (ps:=GV) T Ki (λ_ _ _ _ _ _ us hl=>match us,hl with | [_,_,_],_=>rfl) λ_ _ _ _ _ _ hr=>
  (aq (az (bw rfl B.len (aa (aU bg (mR hr) rfl aQ (aa (ae (pv 0)) (aa (ae (pv 1)) (aa (ae (pv 2)) af))) rfl) af))))
abbrev CY:Stmt:=top 46
def Cz:List Str:=["board","ways","number","patch","inside","told","cell"]
def Lc:List Str:=["board","ways","number"]
def ou:FnScope Cz Lc (ah CY):=ck
def MD(B:Bl K mg base cv cA Cp)(bg:aj P w K mg base cv 6 "patch_of_number" 3 aT)(fV:aj P w K mg base cv 1 "keyed" 1 eE)(dg:aj P w K mg base cv 2 "next_cells" 3 aV)(T:bj K mg "rim" CY f):aj P w K mg base cv 7 "rim" 3 (xS):=
 ay (N:=Cz) (ps:=Lc) T ou (λ_ _ _ _ _ _ us hl=>match us,hl with | [_,_,_],_=>rfl) λ_ _ _ _ _ _ hr=>
  (ai (aW ou.nd rfl (.inl rfl) (aU bg (mR hr) rfl aQ (aa (ae (pv 0)) (aa (ae (pv 1)) (aa (ae (pv 2)) af))) rfl)) (ai (aW ou.nd rfl (.inr rfl) (aU fV (mR hr) rfl aQ (aa (ae (pv 3)) af) rfl)) (ai (aW ou.nd rfl (.inl rfl) au) (ai (cO (bQ WH rfl (aR (ae (pv 3))) (a8 ou.nd rfl (.inl rfl)) bL (bp (aq (J6 ou.nd rfl (.inl rfl) (j4 au (bw rfl B.len (aa (bY (tn:=["near"]) (n:=0) (aS (N:=Cz) (osc:=(ah CY)) rfl rfl (by decide+kernel)) rfl rfl (aR (aU dg (mR hr) rfl cu (aa (ae (pv 0)) (aa (ae (pv 6)) (aa au af))) rfl)) (λ_ _ _ _ _ _ _=>bE (show W2 (((["near"]:List Str))++bP ["near"] Cz) by decide+kernel) rfl rfl) (λ_ _ _ _ _ _=>(eD (He hr.units (ae (pv 0)) (ae (pv 5))))) (λ_ _ _ _ _ _=>(ae (pv 0)))) af)))))))) (aq (az (ae (pv 5))))))))
abbrev zg:Stmt:=top 47
def uu:List Str:=["board","ways","number","patch","rows","columns"]
def Lb:List Str:=["board","ways","number"]
def wC:FnScope uu Lb (ah zg):=ck
def MC(B:Bl K mg base cv cA Cp)(bg:aj P w K mg base cv 6 "patch_of_number" 3 aT)(T:bj K mg "box" zg f):aj P w K mg base cv 7 "box" 3 (xR):=
 ay (N:=uu) (ps:=Lb) T wC (λ_ _ _ _ _ _ us hl=>match us,hl with | [_,_,_],_=>rfl) λ_ _ _ _ _ _ hr=>
  (ai (aW wC.nd rfl (.inl rfl) (aU bg (mR hr) rfl aQ (aa (ae (pv 0)) (aa (ae (pv 1)) (aa (ae (pv 2)) af))) rfl)) (ai (dS (tn:=["cell"]) (n:=0) wC.nd rfl (.inl rfl) (aS (N:=uu) (osc:=(ah zg)) rfl rfl (by decide+kernel)) rfl rfl (aR (ae (pv 3))) (λ_ _ _ _ _ _ _=>bE (show W2 (((["cell"]:List Str))++bP ["cell"] uu) by decide+kernel) rfl rfl) (λ_ _ _ _ _ _=>bW) (λ_ _ _ _ _ _=>(bc (ae (pv 0)) au))) (ai (dS (tn:=["cell"]) (n:=0) wC.nd rfl (.inl rfl) (aS (N:=uu) (osc:=(ah zg)) rfl rfl (by decide+kernel)) rfl rfl (aR (ae (pv 3))) (λ_ _ _ _ _ _ _=>bE (show W2 (((["cell"]:List Str))++bP ["cell"] uu) by decide+kernel) rfl rfl) (λ_ _ _ _ _ _=>bW) (λ_ _ _ _ _ _=>(bc (ae (pv 0)) au))) (aq (az (gD (aa (p6 rfl rfl B.min rfl (aa (ae (pv 4)) af)) (aa (p6 rfl rfl B.min rfl (aa (ae (pv 5)) af)) (aa (mO rfl rfl B.max rfl (aa (ae (pv 4)) af)) (aa (mO rfl rfl B.max rfl (aa (ae (pv 5)) af)) af))))))))))
abbrev om:Stmt:=top 48
def ux:List Str:=["board","ways","number","patch","told","part"]
def uG:List Str:=["board","ways","number"]
def jm:FnScope ux uG (ah om):=ck
def A3(B:Bl K mg base cv cA Cp)(bg:aj P w K mg base cv 6 "patch_of_number" 3 aT)(iT:aj P w K mg base cv 5 "shut_parts" 3 dY)(T:bj K mg "shut_in" om f):aj P w K mg base cv 7 "shut_in" 3 (kE):=
 ay (N:=ux) (ps:=uG) T jm (λ_ _ _ _ _ _ us hl=>match us,hl with | [_,_,_],_=>rfl) λ_ _ _ _ _ _ hr=>
  (ai (aW jm.nd rfl (.inl rfl) (aU bg (mR hr) rfl aQ (aa (ae (pv 0)) (aa (ae (pv 1)) (aa (ae (pv 2)) af))) rfl)) (ai (gZ jm.nd rfl (.inl rfl)) (ai (cO (bQ WH rfl (aR (aU iT (mR hr) rfl cu (aa (ae (pv 0)) (aa (ae (pv 1)) (aa (ae (pv 3)) af))) rfl)) (a8 jm.nd rfl (.inl rfl)) bL (bp (aq (CO (pv 4) (ae (pv 5))))))) (aq (dJ (i:=4) (az (MU rfl B.sorted rfl (aa (ae (pv 4)) af))))))))
abbrev wA:Stmt:=top 49
def Cw:List Str:=["board","ways","number","patch"]
def CF:List Str:=["board","ways","number"]
def zi:FnScope Cw CF (ah wA):=ck
def GO(B:Bl K mg base cv cA Cp)(bg:aj P w K mg base cv 6 "patch_of_number" 3 aT)(iT:aj P w K mg base cv 5 "shut_parts" 3 dY)(T:bj K mg "holes" wA f):aj P w K mg base cv 7 "holes" 3 (iU):=
 ay (N:=Cw) (ps:=CF) T zi (λ_ _ _ _ _ _ us hl=>match us,hl with | [_,_,_],_=>rfl) λ_ _ _ _ _ _ hr=>
  (ai (aW zi.nd rfl (.inl rfl) (aU bg (mR hr) rfl aQ (aa (ae (pv 0)) (aa (ae (pv 1)) (aa (ae (pv 2)) af))) rfl)) (aq (az (bw rfl B.len (aa (aU iT (mR hr) rfl aQ (aa (ae (pv 0)) (aa (ae (pv 1)) (aa (ae (pv 3)) af))) rfl) af)))))
abbrev gH:Stmt:=top 59
def jT:List Str:=["_law_board_here","_law_ways","_law_found","_law_number"]
def j1:List Str:=["_law_board_here","_law_ways"]
def fS:FnScope jT j1 (ah gH):=ck
def pN(B:Bl K mg base cv cA Cp)(Ab:aj P w K mg base cv 6 "how_many" 2 iV)(qf:aj P w K mg base cv 7 "size" 3 jF)(Oa:aj P w K mg base cv 7 "rim" 3 xS)(va:aj P w K mg base cv 7 "holes" 3 iU)(T:bj K mg "_law_measures" gH f):aj P w K mg base cv 8 "_law_measures" 2 (cj):=
 ay (N:=jT) (ps:=j1) T fS (λ_ _ _ _ _ _ us hl=>match us,hl with | [_,_],_=>rfl) λ_ _ _ _ _ _ hr=>
  (ai (gZ fS.nd rfl (.inl rfl)) (ai (cO (bQ WH rfl (fw rfl B.range (aa (aU Ab (mR hr) rfl cu (aa (ae (pv 0)) (aa (ae (pv 1)) af)) rfl) af)) (a8 fS.nd rfl (.inl rfl)) bL (bp (aq (kN (pv 2) (gD (aa (aU qf (mR hr) rfl cu (aa (ae (pv 0)) (aa (ae (pv 1)) (aa (ae (pv 3)) af))) rfl) (aa (aU Oa (mR hr) rfl cu (aa (ae (pv 0)) (aa (ae (pv 1)) (aa (ae (pv 3)) af))) rfl) (aa (aU va (mR hr) rfl cu (aa (ae (pv 0)) (aa (ae (pv 1)) (aa (ae (pv 3)) af))) rfl) af))))))))) (aq (dJ (i:=2) (az (JQ rfl B.sorted rfl (aa (ae (pv 2)) af)))))))
abbrev dU:Stmt:=top 60
def bZ:List Str:=["_law_board_here","_law_ways","_law_number","_law_patch","_law_top","_law_left","_law_bottom","_law_right","_law_inner","_law_rows","_law_columns"]
def rM:List Str:=["_law_board_here","_law_ways","_law_number","_law_patch"]
def de:FnScope bZ rM (ah dU):=ck
def yO(B:Bl K mg base cv cA Cp)(N_:aj P w K mg base cv 7 "box" 3 xR)(Dk:aj P w K mg base cv 7 "shut_in" 3 kE)(va:aj P w K mg base cv 7 "holes" 3 iU)(T:bj K mg "_law_lies" dU f):aj P w K mg base cv 8 "_law_lies" 4 (gy):=
 ay (N:=bZ) (ps:=rM) T de (λ_ _ _ _ _ _ us hl=>match us,hl with | [_,_,_,_],_=>rfl) λ_ _ _ _ _ _ hr=>
  (ai (J5 (aU N_ (mR hr) rfl aQ (aa (ae (pv 0)) (aa (ae (pv 1)) (aa (ae (pv 2)) af))) rfl) (rW rfl (dD (a8 de.nd rfl (.inr rfl)) (dD (a8 de.nd rfl (.inr rfl)) (dD (a8 de.nd rfl (.inr rfl)) (dD (a8 de.nd rfl (.inr rfl)) mP))))) (p8 (is:=[4,5,6,7]))) (ai (aW de.nd rfl (.inl rfl) (aU Dk (mR hr) rfl aQ (aa (ae (pv 0)) (aa (ae (pv 1)) (aa (ae (pv 2)) af))) rfl)) (ai (bM (ll hr.units (bY (tn:=["_law_cell_here"]) (n:=0) (aS (N:=bZ) (osc:=(ah dU)) rfl rfl (by decide+kernel)) rfl rfl (aR (ae (pv 3))) (λ_ _ _ _ _ _ _=>bE (show W2 (((["_law_cell_here"]:List Str))++bP ["_law_cell_here"] bZ) by decide+kernel) rfl rfl) (λ_ _ _ _ _ _=>(eD (cF (PDW.t (CN (lN jZ jZ (ae (pv 5)) (bc (ae (pv 0)) au) (ae (pv 7))) (yZ (lN jZ jZ (ae (pv 6)) (bc (ae (pv 0)) au) (ae (pv 8))))))))) (λ_ _ _ _ _ _=>(ae (pv 0)))) (fR af)) (aq (az fU)) bx) (ai (bM (ll hr.units (bY (tn:=["_law_cell_here"]) (n:=0) (aS (N:=bZ) (osc:=(ah dU)) rfl rfl (by decide+kernel)) rfl rfl (aR (ae (pv 8))) (λ_ _ _ _ _ _ _=>bE (show W2 (((["_law_cell_here"]:List Str))++bP ["_law_cell_here"] bZ) by decide+kernel) rfl rfl) (λ_ _ _ _ _ _=>(eD (cF (PDW.t (CN (lN oZ oZ (ae (pv 5)) (bc (ae (pv 0)) au) (ae (pv 7))) (yZ (lN oZ oZ (ae (pv 6)) (bc (ae (pv 0)) au) (ae (pv 8))))))))) (λ_ _ _ _ _ _=>(ae (pv 0)))) (fR af)) (aq (az fU)) bx) (ai (bM (PDW.t (h9 (ll hr.units (bY (tn:=["_law_cell_here"]) (n:=0) (aS (N:=bZ) (osc:=(ah dU)) rfl rfl (by decide+kernel)) rfl rfl (aR (ae (pv 8))) (λ_ _ _ _ _ _ _=>bE (show W2 (((["_law_cell_here"]:List Str))++bP ["_law_cell_here"] bZ) by decide+kernel) rfl rfl) (λ_ _ _ _ _ _=>(eD (Nf hr.units (ae (pv 0)) (ae (pv 4))))) (λ_ _ _ _ _ _=>(ae (pv 0)))) (fR af)) (fE (ll hr.units (rS hr.units (ae (pv 8)) (fR af)) (rS hr.units (aU va (mR hr) rfl aQ (aa (ae (pv 0)) (aa (ae (pv 1)) (aa (ae (pv 2)) af))) rfl) au))))) (aq (az fU)) bx) (ai (dS (tn:=["_law_cell_here"]) (n:=0) de.nd rfl (.inl rfl) (aS (N:=bZ) (osc:=(ah dU)) rfl rfl (by decide+kernel)) rfl rfl (aR (ae (pv 3))) (λ_ _ _ _ _ _ _=>bE (show W2 (((["_law_cell_here"]:List Str))++bP ["_law_cell_here"] bZ) by decide+kernel) rfl rfl) (λ_ _ _ _ _ _=>bW) (λ_ _ _ _ _ _=>(bc (ae (pv 0)) au))) (ai (dS (tn:=["_law_cell_here"]) (n:=0) de.nd rfl (.inl rfl) (aS (N:=bZ) (osc:=(ah dU)) rfl rfl (by decide+kernel)) rfl rfl (aR (ae (pv 3))) (λ_ _ _ _ _ _ _=>bE (show W2 (((["_law_cell_here"]:List Str))++bP ["_law_cell_here"] bZ) by decide+kernel) rfl rfl) (λ_ _ _ _ _ _=>bW) (λ_ _ _ _ _ _=>(bc (ae (pv 0)) au))) (aq (az (rS hr.units (fR (aa (p6 rfl rfl B.min rfl (aa (ae (pv 9)) af)) (aa (mO rfl rfl B.max rfl (aa (ae (pv 9)) af)) (aa (p6 rfl rfl B.min rfl (aa (ae (pv 10)) af)) (aa (mO rfl rfl B.max rfl (aa (ae (pv 10)) af)) af))))) (fR (aa (ae (pv 4)) (aa (ae (pv 6)) (aa (ae (pv 5)) (aa (ae (pv 7)) af)))))))))))))))
abbrev av:Stmt:=top 61
def aZ:List Str:=["_law_script","_law_board_here","_law_ways","_law_rows","_law_told","_law_sides","_law_other","_law_number","_law_patch","_law_top","_law_pair","_law_many"]
def nX:List Str:=["_law_script"]
def b0:FnScope aZ nX (ah av):=ck
def wK(B:Bl K mg base cv cA Cp)(jD:aj P w K mg base cv 3 "_law_board" 3 dP){dz:Value}{A:Xf}{outer:List Env}{s:We}{H:Hp}{E:XK}(hr:Room 8 (A.deeper (YF "law" (ah av) s.heap.objs.size f dz))):
 Box (iR (eS (lW P w cv) P w K mg base aZ "law" (ah av) f dz A outer s H E) (λn H'=>E (cv n) none H') ((bo av).getD 0 (.Pass ⟨0,0,0,0⟩)) pk):=
 ⟨(aW b0.nd rfl (.inl rfl) (aU jD (mR hr) rfl aQ (aa (ae (pv 0)) (aa au (aa au af))) rfl))⟩
def wL(B:Bl K mg base cv cA Cp)(bR:aj P w K mg base cv 2 "_law_drawn" 3 a_){dz:Value}{A:Xf}{outer:List Env}{s:We}{H:Hp}{E:XK}(hr:Room 8 (A.deeper (YF "law" (ah av) s.heap.objs.size f dz))):
 Box (iR (eS (lW P w cv) P w K mg base aZ "law" (ah av) f dz A outer s H E) (λn H'=>E (cv n) none H') ((bo av).getD 1 (.Pass ⟨0,0,0,0⟩)) pq):=
 ⟨(aW b0.nd rfl (.inl rfl) (j3 (fR (aa au (aa au af))) (aU bR (mR hr) rfl aQ (aa (ae (pv 0)) (aa au (aa au af))) rfl)))⟩
def wM(B:Bl K mg base cv cA Cp)(nz:aj P w K mg base cv 6 "patches" 2 ip){dz:Value}{A:Xf}{outer:List Env}{s:We}{H:Hp}{E:XK}(hr:Room 8 (A.deeper (YF "law" (ah av) s.heap.objs.size f dz))):
 Box (iR (eS (lW P w cv) P w K mg base aZ "law" (ah av) f dz A outer s H E) (λn H'=>E (cv n) none H') ((bo av).getD 2 (.Pass ⟨0,0,0,0⟩)) pw):=
 ⟨(aW b0.nd rfl (.inr rfl) (aU nz (mR hr) rfl aQ (aa (ae (pv 1)) (aa (ae (pv 2)) af)) rfl))⟩
def wN(B:Bl K mg base cv cA Cp)(cQ:aj P w K mg base cv 8 "_law_measures" 2 cj){dz:Value}{A:Xf}{outer:List Env}{s:We}{H:Hp}{E:XK}(hr:Room 8 (A.deeper (YF "law" (ah av) s.heap.objs.size f dz))):
 Box (iR (eS (lW P w cv) P w K mg base aZ "law" (ah av) f dz A outer s H E) (λn H'=>E (cv n) none H') ((bo av).getD 3 (.Pass ⟨0,0,0,0⟩)) pz):=
 ⟨(aW b0.nd rfl (.inl rfl) (aU cQ (mR hr) rfl aQ (aa (ae (pv 1)) (aa (ae (pv 2)) af)) rfl))⟩
def wO(B:Bl K mg base cv cA Cp){dz:Value}{A:Xf}{outer:List Env}{s:We}{H:Hp}{E:XK}(hr:Room 8 (A.deeper (YF "law" (ah av) s.heap.objs.size f dz))):
 Box (iR (eS (lW P w cv) P w K mg base aZ "law" (ah av) f dz A outer s H E) (λn H'=>E (cv n) none H') ((bo av).getD 4 (.Pass ⟨0,0,0,0⟩)) pA):=
 ⟨(bM (ll hr.units (wc rfl rfl B.sum rfl (aa (bY (tn:=["_law_one"]) (n:=0) (aS (N:=aZ) (osc:=(ah av)) rfl rfl (by decide+kernel)) rfl rfl (aR (ae (pv 4))) (λ_ _ _ _ _ _ _=>bE (show W2 (((["_law_one"]:List Str))++bP ["_law_one"] aZ) by decide+kernel) rfl rfl) (λ_ _ _ _ _ _=>bW) (λ_ _ _ _ _ _=>(bc (ae (pv 0)) au))) af)) (h7 (bw rfl B.len (aa (ae (pv 1)) af)) (bw rfl B.len (aa (bc (ae (pv 1)) au) af)))) (aq (az fU)) bx)⟩
def wQ(B:Bl K mg base cv cA Cp)(dh:aj P w K mg base cv 6 "touching" 2 cI){dz:Value}{A:Xf}{outer:List Env}{s:We}{H:Hp}{E:XK}(hr:Room 8 (A.deeper (YF "law" (ah av) s.heap.objs.size f dz))):
 Box (iR (eS (lW P w cv) P w K mg base aZ "law" (ah av) f dz A outer s H E) (λn H'=>E (cv n) none H') ((bo av).getD 5 (.Pass ⟨0,0,0,0⟩)) pB):=
 ⟨(aW b0.nd rfl (.inl rfl) (wc rfl rfl B.sum rfl (aa (bY (tn:=["_law_pair","_law_many"]) (n:=2) (aS (N:=aZ) (osc:=(ah av)) rfl rfl (by decide+kernel)) rfl rfl (aR (aU dh (mR hr) rfl aQ (aa (ae (pv 1)) (aa (ae (pv 2)) af)) rfl)) (λ_ _ _ _ _ _ _=>HZ (show W2 (((["_law_pair","_law_many"]:List Str))++bP ["_law_pair","_law_many"] aZ) by decide+kernel) rfl rfl rfl rfl rfl) (λ_ _ _ _ _ _=>bW) (λ_ _ _ _ _ _=>(ae (pv 1)))) af)))⟩
def wR(B:Bl K mg base cv cA Cp){dz:Value}{A:Xf}{outer:List Env}{s:We}{H:Hp}{E:XK}(hr:Room 8 (A.deeper (YF "law" (ah av) s.heap.objs.size f dz))):
 Box (iR (eS (lW P w cv) P w K mg base aZ "law" (ah av) f dz A outer s H E) (λn H'=>E (cv n) none H') ((bo av).getD 6 (.Pass ⟨0,0,0,0⟩)) pC):=
 ⟨(bM (ll hr.units (wc rfl rfl B.sum rfl (aa (bY (tn:=["_law_one"]) (n:=0) (aS (N:=aZ) (osc:=(ah av)) rfl rfl (by decide+kernel)) rfl rfl (aR (ae (pv 4))) (λ_ _ _ _ _ _ _=>bE (show W2 (((["_law_one"]:List Str))++bP ["_law_one"] aZ) by decide+kernel) rfl rfl) (λ_ _ _ _ _ _=>bW) (λ_ _ _ _ _ _=>(bc (ae (pv 0)) au))) af)) (du (h7 au (ae (pv 5))) (h7 au (du (bw rfl B.len (aa (ae (pv 1)) af)) (bw rfl B.len (aa (bc (ae (pv 1)) au) af)))))) (aq (az fU)) bx)⟩
def wU(B:Bl K mg base cv cA Cp)(bR:aj P w K mg base cv 2 "_law_drawn" 3 a_)(qg:aj P w K mg base cv 5 "turned" 1 iq)(lz:aj P w K mg base cv 5 "mirrored" 1 fm){dz:Value}{A:Xf}{outer:List Env}{s:We}{H:Hp}{E:XK}(hr:Room 8 (A.deeper (YF "law" (ah av) s.heap.objs.size f dz))):
 Box (iR (eS (lW P w cv) P w K mg base aZ "law" (ah av) f dz A outer s H E) (λn H'=>E (cv n) none H') ((bo av).getD 7 (.Pass ⟨0,0,0,0⟩)) pD):=
 ⟨(aW b0.nd rfl (.inl rfl) (Le (uO hr.units (aU bR (mR hr) rfl aQ (aa (ae (pv 0)) (aa au (aa au af))) rfl) au) (aU qg (mR hr) rfl aQ (aa (ae (pv 1)) af) rfl) (aU lz (mR hr) rfl aQ (aa (ae (pv 1)) af) rfl)))⟩
def wV(B:Bl K mg base cv cA Cp)(cQ:aj P w K mg base cv 8 "_law_measures" 2 cj){dz:Value}{A:Xf}{outer:List Env}{s:We}{H:Hp}{E:XK}(hr:Room 8 (A.deeper (YF "law" (ah av) s.heap.objs.size f dz))):
 Box (iR (eS (lW P w cv) P w K mg base aZ "law" (ah av) f dz A outer s H E) (λn H'=>E (cv n) none H') ((bo av).getD 8 (.Pass ⟨0,0,0,0⟩)) pE):=
 ⟨(bM (ll hr.units (aU cQ (mR hr) rfl aQ (aa (ae (pv 6)) (aa (ae (pv 2)) af)) rfl) (ae (pv 4))) (aq (az fU)) bx)⟩
def wW(B:Bl K mg base cv cA Cp)(ly:aj P w K mg base cv 8 "_law_lies" 4 gy)(qf:aj P w K mg base cv 7 "size" 3 jF){dz:Value}{A:Xf}{outer:List Env}{s:We}{H:Hp}{E:XK}(hr:Room 8 (A.deeper (YF "law" (ah av) s.heap.objs.size f dz))):
 Box (iR (eS (lW P w cv) P w K mg base aZ "law" (ah av) f dz A outer s H E) (λn H'=>E (cv n) none H') ((bo av).getD 9 (.Pass ⟨0,0,0,0⟩)) kx):=
 ⟨(cO (bQ WH rfl (rT rfl B.enumerate (aa (ae (pv 3)) af)) (rW rfl (dD (a8 b0.nd rfl (.inl rfl)) (dD (a8 b0.nd rfl (.inl rfl)) mP))) (p8 (is:=[7,8])) (bp (aq (bM (PDW.t (h9 (cF (cN (aU ly (mR hr) rfl cu (aa (ae (pv 1)) (aa (ae (pv 2)) (aa (ae (pv 7)) (aa (ae (pv 8)) af)))) rfl))) (fE (ll hr.units (aU qf (mR hr) rfl cu (aa (ae (pv 1)) (aa (ae (pv 2)) (aa (ae (pv 7)) af))) rfl) (bw rfl B.len (aa (ae (pv 8)) af)))))) (aq (az fU)) bx)))))⟩
def tB(B:Bl K mg base cv cA Cp)(lx:aj P w K mg base cv 6 "greatest" 2 gu){dz:Value}{A:Xf}{outer:List Env}{s:We}{H:Hp}{E:XK}(hr:Room 8 (A.deeper (YF "law" (ah av) s.heap.objs.size f dz))):
 Box (iR (eS (lW P w cv) P w K mg base aZ "law" (ah av) f dz A outer s H E) (λn H'=>E (cv n) none H') ((bo av).getD 10 (.Pass ⟨0,0,0,0⟩)) ng):=
 ⟨(aW b0.nd rfl (.inr rfl) (aU lx (mR hr) rfl aQ (aa (ae (pv 1)) (aa (ae (pv 2)) af)) rfl))⟩
def tE(B:Bl K mg base cv cA Cp)(ny:aj P w K mg base cv 6 "at_edge" 2 il){dz:Value}{A:Xf}{outer:List Env}{s:We}{H:Hp}{E:XK}(hr:Room 8 (A.deeper (YF "law" (ah av) s.heap.objs.size f dz))):
 Box (iR (eS (lW P w cv) P w K mg base aZ "law" (ah av) f dz A outer s H E) (λn H'=>E (cv n) none H') ((bo av).getD 11 (.Pass ⟨0,0,0,0⟩)) nh):=
 ⟨(bM (PDW.t (h9 (ll hr.units (bY (tn:=["_law_patch"]) (n:=0) (aS (N:=aZ) (osc:=(ah av)) rfl rfl (by decide+kernel)) rfl rfl (aR (ae (pv 3))) (λ_ _ _ _ _ _ _=>bE (show W2 (((["_law_patch"]:List Str))++bP ["_law_patch"] aZ) by decide+kernel) rfl rfl) (λ_ _ _ _ _ _=>(eD (P2 (bw rfl B.len (aa (ae (pv 0)) af)) (bw rfl B.len (aa (j3 (ae (pv 4)) (ae (pv 10))) af))))) (λ_ _ _ _ _ _=>(ae (pv 0)))) (fR af)) (fE (Hf (bw rfl B.len (aa (aU ny (mR hr) rfl aQ (aa (ae (pv 1)) (aa (ae (pv 2)) af)) rfl) af)) au)))) (aq (az fU)) bx)⟩
def tF(B:Bl K mg base cv cA Cp)(dh:aj P w K mg base cv 6 "touching" 2 cI)(gO:aj P w K mg base cv 5 "letter_at" 2 eM){dz:Value}{A:Xf}{outer:List Env}{s:We}{H:Hp}{E:XK}(hr:Room 8 (A.deeper (YF "law" (ah av) s.heap.objs.size f dz))):
 Box (iR (eS (lW P w cv) P w K mg base aZ "law" (ah av) f dz A outer s H E) (λn H'=>E (cv n) none H') ((bo av).getD 12 (.Pass ⟨0,0,0,0⟩)) ju):=
 ⟨(cO (bQ WH rfl (aR (aU dh (mR hr) rfl cu (aa (ae (pv 1)) (aa (ae (pv 2)) af)) rfl)) (rW rfl (dD (a8 b0.nd rfl (.inl rfl)) (dD (a8 b0.nd rfl (.inl rfl)) mP))) (p8 (is:=[10,11])) (bp (ai (bM (PDW.t (h9 (P1 (bc (ae (pv 10)) au) (bc (ae (pv 10)) au)) (fE (Hf (ae (pv 11)) au)))) (aq (az fU)) bx) (aq (bM (uO hr.units (aU gO (mR hr) rfl cu (aa (ae (pv 1)) (aa (j3 (j3 (ae (pv 3)) (bc (ae (pv 10)) au)) au) af)) rfl) (aU gO (mR hr) rfl cu (aa (ae (pv 1)) (aa (j3 (j3 (ae (pv 3)) (bc (ae (pv 10)) au)) au) af)) rfl)) (aq (az fU)) bx))))))⟩
def tG(B:Bl K mg base cv cA Cp)(dh:aj P w K mg base cv 6 "touching" 2 cI){dz:Value}{A:Xf}{outer:List Env}{s:We}{H:Hp}{E:XK}(hr:Room 8 (A.deeper (YF "law" (ah av) s.heap.objs.size f dz))):
 Box (iR (eS (lW P w cv) P w K mg base aZ "law" (ah av) f dz A outer s H E) (λn H'=>E (cv n) none H') ((bo av).getD 13 (.Pass ⟨0,0,0,0⟩)) ni):=
 ⟨(az (PO (bw rfl B.len (aa (aU dh (mR hr) rfl aQ (aa (ae (pv 1)) (aa (ae (pv 2)) af)) rfl) af)) (j4 (bw rfl B.len (aa (ae (pv 3)) af)) au)))⟩
def yH{fd:Y5}(B:Bl K mg base cv cA Cp)(jD:aj P w K mg base cv 3 "_law_board" 3 dP)(nz:aj P w K mg base cv 6 "patches" 2 ip)(cQ:aj P w K mg base cv 8 "_law_measures" 2 cj)(lx:aj P w K mg base cv 6 "greatest" 2 gu)(dh:aj P w K mg base cv 6 "touching" 2 cI)(bR:aj P w K mg base cv 2 "_law_drawn" 3 a_)(qg:aj P w K mg base cv 5 "turned" 1 iq)(lz:aj P w K mg base cv 5 "mirrored" 1 fm)(gO:aj P w K mg base cv 5 "letter_at" 2 eM)(ly:aj P w K mg base cv 8 "_law_lies" 4 gy)(qf:aj P w K mg base cv 7 "size" 3 jF)(ny:aj P w K mg base cv 6 "at_edge" 2 il)(Fn:Fun K "law" "law" av f fd):FnOk P w K mg base (lW P w cv) 9 f fd nX (N0 K cv 1 kD):=
 Ov (N:=aZ) (ps:=nX) (τ:=oD) Fn b0 λdz A outer s H E hr=>by
  obtain⟨VW⟩:Box (PSDs (eS (lW P w cv) P w K mg base aZ "law" (ah av) f dz A outer s H E) (λn H'=>E (cv n) none H') (bo av) oD):=(fj (wK B jD hr) (fj (wL B bR hr) (fj (wM B nz hr) (fj (wN B cQ hr) (fj (wO B hr) (fj (wQ B dh hr) (fj (wR B hr) (fj (wU B bR qg lz hr) (fj (wV B cQ hr) (fj (wW B ly qf hr) (fj (tB B lx hr) (fj (tE B ny hr) (fj (tF B dh gO hr) (Lz (tG B dh hr)))))))))))))))
  assumption
end
end K1
namespace K1
open PySem L2 L3
def Gw{ds:List D}(h:ds.length<=lim):eZ ds=ab (.lst ds):=ac5 h
def cq:lim=4096:=rfl
def ij{i:Nat}{x:α}(h:xs[i]? =some x):L2.atI xs (i:Int)=some x:=by
 obtain⟨hi,e⟩:=Wh.mp h;unfold L2.atI Mi;rw[ac5 (Int.natCast_nonneg i),ac5 (by exact Int.ofNat_lt.mpr hi)];exact h
def ak{δs:DA}(h:δs ρ=ab ds)(hl:ds.length=m):ar m g δs ρ=g ds:=by
 unfold ar;rw[h];exact ac5 hl
def aE{ρ:cK}(h1:a ρ=ab x)(h2:r ρ=ab xs):aC a r ρ=ab (x::xs):=by
 unfold aC;rw[h1,aw,h2];rfl
def aH{ρ:cK}{x y:D}(h1:a ρ=ab x)(h2:b ρ=ab y):d2 g a b ρ=g x y:=by
 unfold d2;rw[h1,aw,h2];rfl
def a7{ρ:cK}{xs:List D}(h:a ρ=ab xs):dA g a ρ=g xs:=by
 unfold dA;rw[h];rfl
def iw{i j:Int}(h:0<j):ma (.int i) (.int j)=ab (.int (i % j)):=by
 show (if decide (0<j)=true then _ else _)=_;rw[ac5 (ac7 h)]
def l_{i j:Int}(h:0<j)(h2:j<1073741824):sR (.int i) (.int j)=ab (.int (i / j)):=by
 show (if decide (0<j/\j<1073741824)=true then _ else _)=_;rw[ac5 (ac7 ⟨h,h2⟩)]
def eX{i j:Int}(h:(-(2 ^ 64)<i/\i<2 ^ 64)\/(-(2 ^ 64)<j/\j<2 ^ 64)):i2 (.int i) (.int j)=ab (.int (i*j)):=by
 show (if decide _=true then _ else _)=_;rw[ac5 (ac7 h)]
def jG{i j:Int}:eW (.int i) (.int j)=ab (.int (i+j)):=rfl
def Fc(ns:List Int)(hl:ns.length<=63)(k:Nat):∃v,gx [.scr ns, .int (k:Int)]=ab (.int v):=by
 cases ns with
 |nil=>
  refine⟨7*(k:Int),?_⟩;rfl
 |cons n r=>
  have hp:0<(n::r).length:=aa0 _;generalize e:(n::r)=ns at*;have he:k9 6 (.scr ns) (.lst [])=some false:=by subst e;rfl
  obtain⟨y,hy⟩:∃y,ns[k % ns.length]? =some y:=⟨_,V6 (Nat.mod_lt _ hp)⟩
  have QQ:(0:Int)<(ns.length:Int):=by omega
  have h1:ma (.int (k:Int)) (.int (ns.length:Int))=ab (.int ((k % ns.length:Nat):Int)):=iw QQ;have h2:sR (.int (k:Int)) (.int (ns.length:Int))=ab (.int ((k:Int) / (ns.length:Int))):=l_ QQ (by omega);have h3:FG (.scr ns) (.int ((k % ns.length:Nat):Int))=ab (.int y):=by
   show (match L2.atI ns ((k % ns.length:Nat):Int) with | some n=>ab (D.int n) | none=>ag)=_;rw[ij hy]
  have h4:i2 (.int 6553) (.int ((k:Int) / (ns.length:Int)))=ab (.int (6553*((k:Int) / (ns.length:Int)))):=eX (.inl ⟨by decide,by decide⟩);refine⟨y+6553*((k:Int) / (ns.length:Int)),?_⟩;simp only[gx,sG,bN,aD,jB,bq,eA,dN,d2,dV,dC,dA,aC,aN,eZ,bu,Dg,nj,he,aw,h1,h2,h3,h4,Wb,Yl,Zk,Xj,Wf,XC,Xi,Xu,cq,Nat.reduceAdd,WQ,if_true,WG,if_false,eW,gI]
def gi(ns:List Int)(hl:ns.length<=63)(k m:Nat)(hm:0<m):∃v:Nat,v<m/\a_ [.scr ns, .int (k:Int), .int (m:Int)]=ab (.int (v:Int)):=by
 obtain⟨c,hc⟩:=Fc ns hl k;have b1:=aby (c % 2147483563*69069+104723*((k:Int)+1)) (b:=2147483563) (by decide);have b2:=aaM (c % 2147483563*69069+104723*((k:Int)+1)) (b:=2147483563) (by decide);generalize hx:(c % 2147483563*69069+104723*((k:Int)+1)) % 2147483563=x at b1 b2;have b3:=aby (x*x+x / 3) (b:=2147483399) (by decide);have b4:=aaM (x*x+x / 3) (b:=2147483399) (by decide);generalize hy:(x*x+x / 3) % 2147483399=y at b3 b4;have m1:i2 (.int (c % 2147483563)) (.int 69069)=_:=eX (.inr ⟨by decide,by decide⟩);have m2:i2 (.int 104723) (.int ((k:Int)+1))=_:=eX (.inl ⟨by decide,by decide⟩);have m3:i2 (.int x) (.int x)=_:=eX (.inl ⟨by omega,by omega⟩);have m4:i2 (.int y) (.int y)=_:=eX (.inl ⟨by omega,by omega⟩);have hM:(0:Int)<(m:Int):=Int.ofNat_lt.mpr hm;have n1:=aby ((y*y+y / 7) % 2147483647 / 11) (b:=(m:Int)) (by omega);have n2:=aaM ((y*y+y / 7) % 2147483647 / 11) hM;have q1:ma (.int c) (.int 2147483563)=_:=iw (by decide);have q2:ma (.int (c % 2147483563*69069+104723*((k:Int)+1))) (.int 2147483563)=_:=iw (by decide);have q3:sR (.int x) (.int 3)=_:=l_ (by decide) (by decide);have q4:ma (.int (x*x+x / 3)) (.int 2147483399)=_:=iw (by decide);have q5:sR (.int y) (.int 7)=_:=l_ (by decide) (by decide);have q6:ma (.int (y*y+y / 7)) (.int 2147483647)=_:=iw (by decide);have q7:sR (.int ((y*y+y / 7) % 2147483647)) (.int 11)=_:=l_ (by decide) (by decide);have q8:ma (.int ((y*y+y / 7) % 2147483647 / 11)) (.int (m:Int))=_:=iw hM;refine⟨((y*y+y / 7) % 2147483647 / 11 % (m:Int)).toNat,by omega,?_⟩;rw[Int.toNat_of_nonneg n1];rw[hx] at q2;rw[hy] at q4;simp only[a_,pj,bN,aD,bX,bq,ar,d2,dV,dC,dA,aC,aN,aw,hc,Wb,Yl,Zk,Xj,Wf,XC,Xi,Xu,Xg,aaH,aaI,Nat.reduceAdd,Nat.reduceSub,if_true,jG,m1,m2,m3,m4,q1,q2,q3,q4,q5,q6,q7,q8]
def GG{α:Type}(a:α):noex (ab a)=ab a:=rfl
def xZ{I:Nat->cK->Prop}:∀(ds:List D) (i:Nat) (ρ:cK),I i ρ->
 (∀j d,ds[j]? =some d->∀ρ,I (i+j) ρ->∃ρ1 ρ2,put d ρ=some ρ1/\body ρ1=ab (.nx ρ2)/\I (i+j+1) ρ2)->∃ρ',forL put body ds ρ=ab (.nx ρ')/\I (i+ds.length) ρ'
 |[],i,ρ,h,_=>⟨ρ,rfl,h⟩
 |d::ds,i,ρ,h,step=>by
  obtain⟨ρ1,ρ2,e1,e2,h2⟩:=step 0 d rfl ρ h;obtain⟨ρ',e3,h3⟩:=xZ (I:=I) ds (i+1) ρ2 h2 λj d' hd ρ hI=>by
   have:=step (j+1) d' hd ρ (by rw[show i+(j+1)=i+1+j by omega];exact hI);rw[show i+(j+1)+1=i+1+j+1 by omega] at this;exact this
  refine⟨ρ',?_,?_⟩
  ·show (match put d ρ with | none=>ag | some ρ1=>body ρ1>>=λo=>match o with | .nx ρ2=>forL put body ds ρ2 | .rt v=>ab (.rt v))=_;rw[e1];show (body ρ1>>=λo=>match o with | .nx ρ2=>forL put body ds ρ2 | .rt v=>ab (.rt v))=_;rw[e2];exact e3
  ·rw[show i+(d::ds).length=i+1+ds.length by simp;omega];exact h3
def tV{Pr:D->Prop}:∀(ds:List D),(∀d∈ds,∃y,f d=ab (some y)/\Pr y)->∃ys,d6 f ds=ab ys/\ys.length=ds.length/\∀y∈ys,Pr y
 |[],_=>⟨[],rfl,rfl,λ_ h=>by cases h⟩
 |d::ds,h=>by
  obtain⟨y,e,hy⟩:=h d (V_ ..);obtain⟨ys,e2,hl,hp⟩:=tV ds λd' hd=>h d' (V8 _ hd);refine⟨y::ys,?_,by simp[hl],λz hz=>?_⟩
  ·rw[eI,e,aw,e2];rfl
  ·cases hz with
   |head=>exact hy
   |tail _ hz=>exact hp z hz
def ik{g:D->D}:∀(ds:List D),(∀d∈ds,f d=ab (some (g d)))->d6 f ds=ab (ds.map g)
 |[],_=>rfl
 |d::ds,h=>by
  rw[eI,h d (V_ ..),aw,ik ds λd' hd=>h d' (V8 _ hd)];rfl
def K3(x:Str):Bool:=!(YR ("abcdef":Str) x 0 ("abcdef":Str).length 1).isEmpty
structure Row (W:Nat) (r:Str):Prop where
 len:r.length=W
 let':∀c∈r.cps.toList,K3 ⟨#[c]⟩=true
structure Good (bd:List Str) (W:Nat):Prop where
 r1:1<=bd.length
 r5:bd.length<=5
 w1:1<=W
 w5:W<=5
 rows:∀r∈bd,Row W r
abbrev lE(c:Nat):Prop:=K3 ⟨#[c]⟩=true/\c≠101/\c≠100
def Uq(r:Str):Prop:=∀c∈r.cps.toList,c≠101
def Qy(r:Str):Prop:=∀c∈r.cps.toList,c≠101/\c≠100
def zH:∀(ys:List D),(∀y∈ys,∃c,y= .str ⟨#[c]⟩/\lE c)->∃xs,pS ys=some xs/\xs.length=ys.length/\(xs.map (·.length)).sum=ys.length/\Row ys.length (eU xs)/\Qy (eU xs)
 |[],_=>⟨[],rfl,rfl,rfl,⟨rfl,λc h=>by cases h⟩,λc h=>by cases h⟩
 |y::ys,h=>by
  obtain⟨c,e,hc⟩:=h y (V_ ..);obtain⟨xs,e1,e2,e3,e4,e5⟩:=zH ys λz hz=>h z (V8 _ hz);subst e;have nI:∀z,z∈((⟨#[c]⟩:Str)++eU xs).cps.toList->z=c\/z∈(eU xs).cps.toList:=λz hz=>by
   have:((⟨#[c]⟩:Str)++eU xs).cps= #[c]++(eU xs).cps:=rfl;rw[this] at hz;simpa using hz
  refine⟨⟨#[c]⟩::xs,?_,by simp[e2],?_,⟨?_,λz hz=>?_⟩,λz hz=>?_⟩
  ·show (pS ys).map _=_;rw[e1];rfl
  ·rw[Wb,WK,e3];show 1+ys.length=_;simp;omega
  ·show ((⟨#[c]⟩:Str)++eU xs).length=_;rw[km,e4.len];show 1+ys.length=_;simp;omega
  ·rcases nI z hz with rfl | q
   ·exact hc.1
   ·exact e4.let' z q
  ·rcases nI z hz with rfl | q
   ·exact hc.2
   ·exact e5 z q
def Hw{n:Nat}{d:D}(h:d∈iN lo n):∃i:Nat,i<n/\d= .int (lo+(i:Int)):=by
 unfold iN at h;obtain⟨i,hi,e⟩:=Wc.mp h;exact⟨i,WT.mp hi,e.symm⟩
def Kd{n j:Nat}{d:D}(h:(iN lo n)[j]? =some d):j<n/\d= .int (lo+(j:Int)):=by
 unfold iN at h;rw[Wj] at h;by_cases hj:j<n
 ·rw[YW hj] at h;cases h;exact⟨hj,rfl⟩
 ·rw[Zg (by simpa using hj)] at h;cases h
def j7(lo:Int)(n:Nat):(iN lo n).length=n:=by simp[iN]
abbrev iW(w:Nat):D:= .int w
abbrev fz(d:D):Option Sl:=some (.fz d)
def g9{ρ:cK}{d:D}:gQ 0 bO δe ρ d=(δe (fz d::ρ)>>=λy=>ab (some y)):=rfl
def nB{ρ:cK}{d:D}:gQ 0 δt δe ρ d=(δt (fz d::ρ)>>=λb=>if b then δe (fz d::ρ)>>=λy=>ab (some y) else ab none):=rfl
def ao{ρ ρ':cK}{o:M Out}(h:a ρ=ab (.nx ρ'))(h2:b ρ'=o):aD a b ρ=o:=by
 unfold aD;rw[h];exact h2
def e9{ρ:cK}{d:D}(h:a ρ=ab (.rt d)):aD a b ρ=ab (.rt d):=by
 unfold aD;rw[h];rfl
def aI{ρ:cK}{d:D}(h:δ ρ=ab d):bX i δ ρ=ab (.nx (ρ.set i (fz d))):=by
 unfold bX;rw[h];rfl
def fM{ρ:cK}{o:M Out}(h:c ρ=ab true)(h2:a ρ=o):jB c a b ρ=o:=by
 unfold jB;rw[h];exact h2
def dE{ρ:cK}{o:M Out}(h:c ρ=ab false)(h2:b ρ=o):jB c a b ρ=o:=by
 unfold jB;rw[h];exact h2
def aF{ρ:cK}{d:D}(h:δ ρ=ab d):bq δ ρ=ab (.rt d):=by
 unfold bq;rw[h];rfl
def bV{ρ:cK}{d:D}(h:δ ρ=ab d):gM δ ρ=ab (.nx ρ):=by
 unfold gM;rw[h];rfl
def aP{ds:List D}{d:D}(h:τ (ds.map (λd=>some (Sl.fz d))++Xg (n - ds.length) none)=ab (.rt d)):bN n τ ds=ab d:=by
 unfold bN;rw[h];rfl
def wz{ds:List D}{ρ:cK}(h:τ (ds.map (λd=>some (Sl.fz d))++Xg (n - ds.length) none)=ab (.nx ρ)):bN n τ ds=ab .non:=by
 unfold bN;rw[h];rfl
def HB{ρ:cK}(h:δi ρ=ab ds)(h2:forL put b ds ρ=ab o):noex (ez put δi b ρ)=ab o:=by
 unfold ez;rw[h,aw,h2];rfl
def bh{τ:DS}{ρ ρ':cK}(h:τ ρ=ab (.nx ρ')):cY is τ ρ=ab (.nx (fgt is ρ')):=by
 unfold cY;rw[h];rfl
def ba{δe:DE}(h:δi ρ=ab ds)(h2:d6 (gQ n δt δe ρ) ds=ab ys)(h3:ys.length<=lim):bb n δi δt δe ρ=ab (.lst ys):=by
 unfold bb;rw[h,aw,h2,GG,aw,Gw h3]
def og{n:Nat}(h:n<=4096):j8 [.int (n:Int)]=ab (iN 0 n):=by
 show (if -4096<=(n:Int)/\(n:Int)<=4096 then ab (iN 0 (n:Int).toNat) else ag)=_;rw[ac5 ⟨by omega,by omega⟩];rfl
structure Alpha (al:Str):Prop where
 pos:0<al.length
 ok:∀c∈al.cps.toList,lE c
def Lp:Alpha "ab"/\Alpha "abc"/\Alpha "aab"/\Alpha "fa":=by
 refine⟨⟨by decide+kernel,?_⟩,⟨by decide+kernel,?_⟩,⟨by decide+kernel,?_⟩,⟨by decide+kernel,?_⟩⟩<;>decide+kernel
def FH{i:Nat}(h:i<x.length):∃c,c∈x.cps.toList/\x.cps.toList[i]? =some c/\qw (.str x) (.int (i:Int))=ab (.str ⟨#[c]⟩):=by
 have h:i<x.cps.toList.length:=by rw[Wn];exact h
 refine⟨x.cps.toList[i],WR h,V6 h,?_⟩;show (match L2.atI x.cps.toList (i:Int) with | some c=>ab (D.str ⟨#[c]⟩) | none=>ag)=_;rw[ij (V6 h)]
abbrev brd(bd:List Str):D:= .tup (bd.map D.str)
abbrev sgn(at' mo:Nat)(ns:List Int)(W:Nat)(al:Str)(bd:List Str)(R:Nat)(x7 x8:Option Sl):cK:=[fz (.scr ns),fz (.int (at':Int)),fz (.int (mo:Int)),fz (.int (R:Int)),fz (.int (W:Int)),fz (.str al),fz (brd bd),x7,x8]
def Ez(at' mo:Nat)(ns:List Int)(hl:ns.length<=63)(al:Str)(ha:Alpha al)(j W R:Nat)(hW:W<=5)(bd:List Str)(x8:Option Sl):
 ∃ys,S3 (sgn at' mo ns W al bd R (fz (.int (0+(j:Int)))) x8)=ab (.lst ys)/\ys.length=W/\∀y∈ys,∃c,y= .str ⟨#[c]⟩/\lE c:=by
 obtain⟨ys,e,Im,hp⟩:=tV (f:=gQ 0 bO (d2 qw (dV 6) (ar 3 a_ (aC (dV 1) (aC (d2 eW (d2 eW (d2 eW (dV 2) (dC (.int 3))) (d2 i2 (dC (.int 7)) (dV 8))) (dV 0)) (aC (dA bu (aC (dV 6) aN)) aN)))))
  (sgn at' mo ns W al bd R (fz (.int (0+(j:Int)))) x8)) (Pr:=λy=>∃c,y= .str ⟨#[c]⟩/\lE c) (iN 0 W) λd hd=>by
  obtain⟨i,hi,rfl⟩:=Hw hd;obtain⟨v,hv,e⟩:=gi ns hl (at'+3+7*j+i) al.length ha.pos;obtain⟨c,hc,_,e2⟩:=FH hv;refine⟨.str ⟨#[c]⟩,?_,c,rfl,ha.ok c hc⟩;rw[g9];have k:(at':Int)+3+7*(0+(j:Int))+(0+(i:Int))=((at'+3+7*j+i:Nat):Int):=by omega
  have m1:i2 (.int 7) (.int (0+(j:Int)))=ab (.int (7*(0+(j:Int)))):=eX (.inl ⟨by decide,by decide⟩);simp only[ar,d2,dV,dC,dA,aC,aN,aw,Wf,XC,Xi,Xu,Nat.reduceAdd,if_true,jG,m1,k,bu,e,e2]
 refine⟨ys,ba (og (n:=W) (by omega)) e (by rw[Im,j7,cq];omega),by rw[Im,j7],hp⟩
def ID(at' mo:Nat)(ns:List Int)(W:Nat)(al:Str)(bd:List Str)(R:Nat)(x7:Option Sl)(ys:List D)(hb:bd.length<=5)(hy:ys.length<=5)(s3:∀y∈ys,∃c,y= .str ⟨#[c]⟩/\lE c):
 ∃r,(Row ys.length r/\Qy r)/\S5 (sgn at' mo ns W al bd R x7 (fz (.lst ys)))=ab (.nx (sgn at' mo ns W al (bd++[r]) R x7 (fz (.lst ys)))):=by
 obtain⟨xs,t1,t2,t3,t4⟩:=zH ys s3;refine⟨eU xs,t4,?_⟩;have jn:joinM (.str "") [.lst ys]=ab (.str (eU xs)):=by
  show (match pS ys with | some (xs:List Str)=>if ("":Str).length=0/\(xs.map (λx:Str=>x.length)).sum<=lim then ab (D.str (eU xs)) else ag | none=>ag)=_;rw[t1];show (if ("":Str).length=0/\(xs.map (λx:Str=>x.length)).sum<=lim then ab (D.str (eU xs)) else ag)=_;rw[ac5 ⟨rfl,by rw[t3,cq];omega⟩]
 have ct:B4 (brd bd) (.tup [.str (eU xs)])=ab (brd (bd++[eU xs])):=by
  show (if (bd.map D.str).length+1<=lim then ab (D.tup (bd.map D.str++[.str (eU xs)])) else ag)=_;rw[ac5 (by rw[V5,cq];omega)];simp[brd]
 refine(aI (d:=brd (bd++[eU xs])) ?_).trans rfl;simp only[d2,dV,dC,dA,aC,aN,dM,Me,aw,Xi,Xu,if_true,jn,d7,Wf,XC,cq,Nat.reduceAdd,Nat.reduceLeDiff,ct]
def z8(ns:List Int)(hl:ns.length<=63)(at' mo:Nat)(m0:0<mo)(m5:mo<=5):∃bd W,Good bd W/\(∀r∈bd,Qy r)/\bd.length<=mo/\W<=mo/\dP [.scr ns, .int (at':Int), .int (mo:Int)]=ab (brd bd):=by
 obtain⟨r,hr,e1⟩:=gi ns hl at' mo m0;obtain⟨c,hc,e2⟩:=gi ns hl (at'+1) mo m0;obtain⟨a,ha,e3⟩:=gi ns hl (at'+2) 4 (by decide);obtain⟨al,FN,e4⟩:∃al,Alpha al/\kY (.lst [.str "ab", .str "abc", .str "aab", .str "fa"]) (.int (a:Int))=ab (.str al):=by
  obtain⟨a1,a2,a3,a4⟩:=Lp
  match a,ha with
  |0,_=>exact⟨_,a1,rfl⟩
  |1,_=>exact⟨_,a2,rfl⟩
  |2,_=>exact⟨_,a3,rfl⟩
  |3,_=>exact⟨_,a4,rfl⟩
 have k1:(1:Int)+(r:Int)=((r+1:Nat):Int):=by omega
 have k2:(1:Int)+(c:Int)=((c+1:Nat):Int):=by omega
 have ES:a_ [.scr ns, .int (at':Int), .int (mo:Int)]=ab (.int (r:Int)):=e1;have NM:a_ [.scr ns, .int ((at':Int)+1), .int (mo:Int)]=ab (.int (c:Int)):=e2;have QC:a_ [.scr ns, .int ((at':Int)+2), .int 4]=ab (.int (a:Int)):=e3;obtain⟨ρ',f1,bd,f2,f3,f4⟩:=xZ (put:=putN 7) (body:=cY [7,8] (aD (bX 8 S3) S5))
  (I:=λi ρ=>∃bd,ρ=sgn at' mo ns (c+1) al bd (r+1) none none/\bd.length=i/\∀z∈bd,Row (c+1) z/\Qy z)
  (iN 0 (r+1)) 0 (sgn at' mo ns (c+1) al [] (r+1) none none) ⟨[],rfl,rfl,λ_ h=>by cases h⟩ λj d hd ρ ⟨bd,hρ,hb,hw⟩=>by
   obtain⟨hj,rfl⟩:=Kd hd;subst hρ;obtain⟨ys,s1,s2,s3⟩:=Ez at' mo ns hl al FN j (c+1) (r+1) (by omega) bd none;obtain⟨zY,t1,t2⟩:=ID at' mo ns (c+1) al bd (r+1) (fz (.int (0+(j:Int)))) ys (by omega) (by omega) s3;refine⟨_,_,rfl,bh (ao (aI s1) t2),bd++[zY],rfl,by simp[hb],λz hz=>?_⟩;rcases WZ.mp hz with h | h
   ·exact hw z h
   ·have h:z=zY:=by simpa using h
    subst h;rw[s2] at t1;exact t1
 refine⟨bd,c+1,⟨by rw[f3,j7];omega,by rw[f3,j7];omega,by omega,by omega,λr q=>(f4 r q).1⟩,λr q=>(f4 r q).2,by rw[f3,j7];omega,by omega,?_⟩;subst f2;refine aP ?_;refine ao (aI (d:= .int ((r+1:Nat):Int)) ?_) ?_
 ·simp only[ar,d2,dV,dC,aC,aN,aw,Wb,Yl,Zk,Xj,Wf,XC,Xi,Xu,Nat.reduceAdd,if_true,jG,ES,k1]
 refine ao (aI (d:= .int ((c+1:Nat):Int)) ?_) ?_
 ·simp only[ar,d2,dV,dC,aC,aN,aw,Wb,Yl,Zk,Xj,Wf,XC,Xg,aaH,aaI,Nat.reduceSub,Xi,Xu,Nat.reduceAdd,if_true,jG,NM,k2]
 refine ao (aI (d:= .str al) ?_) ?_
 ·simp only[ar,d2,dV,dC,dA,aC,aN,aw,Wb,Yl,Zk,Xj,Wf,XC,Xg,aaH,aaI,Nat.reduceSub,Xi,Xu,Nat.reduceAdd,if_true,jG,QC,eZ,cq,Nat.reduceLeDiff,e4]
 refine ao (aI rfl) ?_;refine ao (HB (og (by omega)) f1) ?_;exact aF rfl
def z7(ns:List Int)(hl:ns.length<=63)(at' mo:Nat)(m0:0<mo)(m5:mo<=5):∃bd W,Good bd W/\(∀r∈bd,Uq r)/\bd.length<=mo/\W<=mo/\dP [.scr ns, .int (at':Int), .int (mo:Int)]=ab (brd bd):=
 let ⟨bd,W,h1,h3,h2⟩:=z8 ns hl at' mo m0 m5
 ⟨bd,W,h1,λr hr c hc=>(h3 r hr c hc).1,h2⟩
def z9(ns:List Int)(hl:ns.length<=63)(at' mo:Nat)(m0:0<mo)(m5:mo<=5):∃bd W,Good bd W/\bd.length<=mo/\W<=mo/\dP [.scr ns, .int (at':Int), .int (mo:Int)]=ab (brd bd):=
 let ⟨bd,W,h1,_,h2⟩:=z7 ns hl at' mo m0 m5
 ⟨bd,W,h1,h2⟩
def Plain:D->Prop
 | .non | .bl _ | .int _ | .str _ | .tup _ | .lst _=>True
 |_=>False
def isStr:D->Bool
 | .str _=>true
 |_=>false
def isTup:D->Bool
 | .tup _=>true
 |_=>false
def gV{d:D}(h:Plain d):jA [d, .raw (.ty "str")]=ab (.bl (isStr d)):=by
 cases d<;>first | rfl | exact h.elim
def pZ{d:D}(h:Plain d):jA [d, .raw (.ty "tuple")]=ab (.bl (isTup d)):=by
 cases d<;>first | rfl | exact h.elim
def vI:D->Bool
 | .str x=>(x.length==1)&&K3 x
 |_=>false
def d9{i:Nat}{d:D}(h:ρ[i]? =some (fz d)):dV i ρ=ab d:=by
 unfold dV;rw[h]
def eq_int(i j:Int):nj (.int i) (.int j)=ab (.bl (i==j)):=rfl
def ne_int(i j:Int):vw (.int i) (.int j)=ab (.bl (!(i==j))):=rfl
def len_str(x:Str):bu [.str x]=ab (.int (x.length:Int)):=rfl
def in_str(x:Str):FE false (.str x) (.str "abcdef")=ab (.bl (K3 x)):=rfl
def uy(a b:Nat):((a:Int)==(b:Int))=(a==b):=by
 by_cases h:a=b
 ·subst h;simp
 ·have h2:¬(a:Int)=(b:Int):=by omega
  rw[adb.mpr h,adb.mpr h2]
def Js(h:Plain d){i:Nat}{ρ:cK}(hρ:ρ[i]? =some (fz d)):
 gr (dA jA (aC (dV i) (aC (dC (.raw (.ty "str"))) aN))) (gr (d2 nj (dA bu (aC (dV i) aN)) (dC (.int 1))) (d2 (FE false) (dV i) (dC (.str "abcdef")))) ρ=ab (.bl (vI d)):=by
 have hv:=d9 hρ;have e1:=uy;cases d with
 |str x=>
  have k:((x.length:Int)==1)=(x.length==1):=uy x.length 1;simp only[gr,dA,aC,aN,dC,d2,hv,aw,gV h,isStr,Dg,if_true,len_str,eq_int,k,in_str,vI];cases x.length==1<;>rfl
 |non=>simp only[gr,dA,aC,aN,dC,d2,hv,aw,gV h,isStr,Dg,if_false,WG,vI]
 |bl b=>simp only[gr,dA,aC,aN,dC,d2,hv,aw,gV h,isStr,Dg,if_false,WG,vI]
 |int b=>simp only[gr,dA,aC,aN,dC,d2,hv,aw,gV h,isStr,Dg,if_false,WG,vI]
 |tup b=>simp only[gr,dA,aC,aN,dC,d2,hv,aw,gV h,isStr,Dg,if_false,WG,vI]
 |lst b=>simp only[gr,dA,aC,aN,dC,d2,hv,aw,gV h,isStr,Dg,if_false,WG,vI]
 |raw _=>exact h.elim
 |exc _=>exact h.elim
 |scr _=>exact h.elim
 |dct _ _=>exact h.elim
 |dci _ _=>exact h.elim
def sU{d:D}(h:Plain d):dO [d]=ab (.bl (vI d)):=aP (aF (Js h rfl))
def kF(x:Str):Bool:=x.cps.toList.all λc=>K3 ⟨#[c]⟩
def pQ:D->Bool
 | .str x=>(decide (1<=x.length)&&decide (x.length<=8))&&kF x
 |_=>false
def tT(l:List Bool):bools (l.map D.bl)=some l:=by
 induction l with
 |nil=>rfl
 |cons b r ih=>show (bools (r.map D.bl)).map _=_;rw[ih];rfl
def all_map(l:List Bool):allM [.lst (l.map D.bl)]=ab (.bl (l.all id)):=by
 show (match bools (l.map D.bl) with | some bs=>ab (D.bl (bs.all id)) | none=>ag)=_;rw[tT]
def Fd{ρ:cK}{n:Nat}(h:δ ρ=ab (.int (n:Int))):
 dN (sJ (λi j=>decide (i<=j)) (λi j=>decide (i<=j)) (dC (.int 1)) δ (dC (.int 8))) ρ=ab (decide (1<=n)&&decide (n<=8)):=by
 have k1:decide ((1:Int)<=(n:Int))=decide (1<=n):=by by_cases h:1<=n<;>simp[h]<;>omega
 have k2:decide ((n:Int)<=8)=decide (n<=8):=by by_cases h:n<=8<;>simp[h]<;>omega
 simp only[dN,sJ,dC,h,aw,k1,k2,gI,Dg];cases decide (1<=n)<;>rfl
def AB(h:Plain d):gw [d]=ab (.bl (pQ d)):=by
 refine aP ?_;have hρ:([d].map (λd=>some (Sl.fz d))++Xg (1 - [d].length) none)=[fz d]:=rfl;rw[hρ];have hv:dV 0 [fz d]=ab d:=rfl;have no:isStr d=false->zP [fz d]=ab (.rt (.bl false)):=λhs=>by
  refine e9 (fM ?_ (aF rfl));simp only[oF,cR,cg,dA,aC,aN,dC,hv,aw,gV h,hs,zG,aam,if_true]
 cases d with
 |str x=>
  have hi:cg (dA jA (aC (dV 0) (aC (dC (.raw (.ty "str"))) aN))) [fz (.str x)]=ab true:=by
   simp only[cg,dA,aC,aN,dC,hv,aw,gV h,isStr,zG]
  have hl:dA bu (aC (dV 0) aN) [fz (.str x)]=ab (.int (x.length:Int)):=rfl;have hc:=Fd hl;by_cases hr:(decide (1<=x.length)&&decide (x.length<=8))=true
  ·rw[hr] at hc;refine ao (dE ?_ rfl) (aF ?_)
   ·unfold oF cR;rw[hi,aw,aw,hc];rfl
   ·have hb:x.length<=8:=by simp only[Wl,ac4] at hr;exact hr.2
    have cm:bb 0 (λρ=>(dV 0) ρ>>=Nu) bO (ar 1 dO (aC (dV 0) aN)) [fz (.str x)]=ab (.lst ((x.cps.toList.map λc=>K3 ⟨#[c]⟩).map D.bl)):=by
     refine ba rfl ?_ ?_
     ·have:=ik (f:=gQ 0 bO (ar 1 dO (aC (dV 0) aN)) [fz (.str x)]) (g:=λd=>D.bl (vI d)) (signs x) λd hd=>by
       rw[g9];obtain⟨c,_,rfl⟩:=Wc.mp hd;show (dO [.str ⟨#[c]⟩]>>=λy=>ab (some y))=_;rw[sU (d:= .str ⟨#[c]⟩) trivial];rfl
      rw[this];unfold signs;rw[WA,WA];congr 1
     ·rw[V5,V5,Wn,cq];exact WX hb (by decide)
    rw[a7 (aE cm rfl),all_map];show ab (D.bl ((x.cps.toList.map λc=>K3 ⟨#[c]⟩).all id))=ab (D.bl ((decide (1<=x.length)&&decide (x.length<=8))&&kF x));rw[hr];unfold kF;rw[Zz];rfl
  ·have hr:(decide (1<=x.length)&&decide (x.length<=8))=false:=by simpa using hr
   rw[hr] at hc;have:pQ (.str x)=false:=by
    show ((decide (1<=x.length)&&decide (x.length<=8))&&kF x)=false;rw[hr];rfl
   rw[this];refine e9 (fM ?_ (aF rfl));unfold oF cR;rw[hi,aw,aw,hc];rfl
 |non=>exact no rfl
 |bl b=>exact no rfl
 |int b=>exact no rfl
 |tup b=>exact no rfl
 |lst b=>exact no rfl
 |raw _=>exact h.elim
 |exc _=>exact h.elim
 |scr _=>exact h.elim
 |dct _ _=>exact h.elim
 |dci _ _=>exact h.elim
def lH:D->Nat
 | .str x=>x.length
 |_=>0
def qc:D->Bool
 | .tup ds=>(decide (1<=ds.length)&&decide (ds.length<=8))&&(ds.all pQ&&ds.all λd=>lH d==lH (ds.headD .non))
 |_=>false
def Plain2:D->Prop
 | .tup ds=>∀d∈ds,Plain d
 |d=>Plain d
def Plain2.plain{d:D}(h:Plain2 d):Plain d:=by
 cases d<;>first | exact h | exact trivial
def VC{i:Nat}{ds:List D}(h:ρ[i]? =some (fz (.tup ds))):sP (dV i) ρ=ab ds:=by
 unfold sP;rw[d9 h];rfl
def Jq{ds:List D}:bu [.tup ds]=ab (.int (ds.length:Int)):=rfl
def Sh{r:List D}(h:ds=d::r):bf (.tup ds) (.int 0)=ab d:=by
 subst h;show (match L2.atI (d::r) ((0:Nat):Int) with | some d=>ab d | none=>ag)=_;rw[ij (x:=d) rfl]
def Kf{d:D}(h:pQ d=true):∃x,d= .str x:=by
 cases d<;>first | exact⟨_,rfl⟩ | cases h
def DG{d:D}(h:Plain d):oF (cR (cg (dA jA (aC (dV 0) (aC (dC (.raw (.ty "tuple"))) aN))))) (cR (dN (sJ (λi j=>decide (i<=j)) (λi j=>decide (i<=j)) (dC (.int 1)) (dA bu (aC (dV 0) aN)) (dC (.int 8))))) [fz d]=
 ab (match d with | .tup ds=>!(decide (1<=ds.length)&&decide (ds.length<=8)) | _=>true):=by
 have hv:dV 0 [fz d]=ab d:=rfl;have no:isTup d=false->oF (cR (cg (dA jA (aC (dV 0) (aC (dC (.raw (.ty "tuple"))) aN))))) (cR (dN (sJ (λi j=>decide (i<=j)) (λi j=>decide (i<=j)) (dC (.int 1)) (dA bu (aC (dV 0) aN)) (dC (.int 8))))) [fz d]=ab true:=λhs=>by
  simp only[oF,cR,cg,dA,aC,aN,dC,hv,aw,pZ h,hs,zG,aam,if_true]
 cases d with
 |tup ds=>
  have hi:cg (dA jA (aC (dV 0) (aC (dC (.raw (.ty "tuple"))) aN))) [fz (.tup ds)]=ab true:=by
   simp only[cg,dA,aC,aN,dC,hv,aw,pZ h,isTup,zG]
  have hl:dA bu (aC (dV 0) aN) [fz (.tup ds)]=ab (.int (ds.length:Int)):=rfl;unfold oF cR;rw[hi,aw,aw,Fd hl];rfl
 |non=>exact no rfl
 |bl b=>exact no rfl
 |int b=>exact no rfl
 |str b=>exact no rfl
 |lst b=>exact no rfl
 |raw _=>exact h.elim
 |exc _=>exact h.elim
 |scr _=>exact h.elim
 |dct _ _=>exact h.elim
 |dci _ _=>exact h.elim
def all_rows(h:∀d∈ds,Plain d)(hl:ds.length<=8):dA allM (aC (bb 0 (sP (dV 0)) bO (ar 1 gw (aC (dV 0) aN))) aN) [fz (.tup ds)]=ab (.bl (ds.all pQ)):=by
 have cm:bb 0 (sP (dV 0)) bO (ar 1 gw (aC (dV 0) aN)) [fz (.tup ds)]=ab (.lst ((ds.map pQ).map D.bl)):=by
  refine ba (ds:=ds) rfl ?_ (by rw[V5,V5,cq];omega);rw[WA];refine ik (g:=D.bl∘pQ) ds λd hd=>?_;rw[g9];show (gw [d]>>=λy=>ab (some y))=_;rw[AB (h d hd)];rfl
 rw[a7 (aE cm rfl),all_map,Zz];rfl
def all_lens(hs:∀d∈ds,∃x,d= .str x)(h0:1<=ds.length)(hl:ds.length<=8):
 dA allM (aC (bb 0 (sP (dV 0)) bO (d2 nj (dA bu (aC (dV 0) aN)) (dA bu (aC (d2 bf (dV 1) (dC (.int 0))) aN)))) aN) [fz (.tup ds)]=ab (.bl (ds.all λd=>lH d==lH (ds.headD .non))):=by
 obtain⟨d0,r,e0⟩:∃d0 r,ds=d0::r:=by
  cases ds with
  |nil=>simp at h0
  |cons a r=>exact⟨a,r,rfl⟩
 have hh:ds.headD .non=d0:=by rw[e0];rfl
 obtain⟨x0,T4⟩:=hs d0 (by rw[e0];exact V_ ..);have cm:bb 0 (sP (dV 0)) bO (d2 nj (dA bu (aC (dV 0) aN)) (dA bu (aC (d2 bf (dV 1) (dC (.int 0))) aN))) [fz (.tup ds)]=ab (.lst ((ds.map λd=>lH d==lH (ds.headD .non)).map D.bl)):=by
  refine ba (ds:=ds) rfl ?_ (by rw[V5,V5,cq];omega);rw[WA];refine ik (g:=D.bl∘λd=>lH d==lH (ds.headD .non)) ds λd hd=>?_;rw[g9];obtain⟨x,rfl⟩:=hs d hd;have k:((x.length:Int)==(x0.length:Int))=(x.length==x0.length):=uy _ _;have i0:bf (.tup ds) (.int 0)=ab (.str x0):=by rw[Sh e0,T4]
  have U7:ds.headD .non= .str x0:=by rw[hh,T4]
  simp only[d2,dA,aC,aN,dC,dV,aw,Xi,Xu,len_str,i0,eq_int,k,ac2,lH,U7]
 rw[a7 (aE cm rfl),all_map,Zz];rfl
def vE{d:D}(h:Plain2 d):iX [d]=ab (.bl (qc d)):=by
 refine aP ?_;have hρ:([d].map (λd=>some (Sl.fz d))++Xg (1 - [d].length) none)=[fz d]:=rfl;rw[hρ];have hf:=DG h.plain;have no:(∀ds,d≠ .tup ds)->sF [fz d]=ab (.rt (.bl (qc d))):=λhn=>by
  cases d<;>first | exact ac_ rfl (hn _) | exact e9 (fM hf (aF rfl))
 cases d with
 |tup ds=>
  have hf:_=ab (!(decide (1<=ds.length)&&decide (ds.length<=8))):=hf;by_cases hr:(decide (1<=ds.length)&&decide (ds.length<=8))=true
  ·rw[hr] at hf;have hb:=hr;simp only[Wl,ac4] at hb;have e:qc (.tup ds)=(ds.all pQ&&ds.all λd=>lH d==lH (ds.headD .non)):=by
    show ((decide (1<=ds.length)&&decide (ds.length<=8))&&_)=_;rw[hr,abY]
   rw[e];have a1:=all_rows h hb.2;refine ao (dE hf rfl) ?_;cases hc:ds.all pQ with
   |false=>
    rw[hc] at a1;refine e9 (fM ?_ (aF rfl));unfold cR cg;rw[a1];rfl
   |true=>
    rw[hc] at a1;refine ao (dE ?_ rfl) (aF ?_)
    ·unfold cR cg;rw[a1];rfl
    ·rw[abY];exact all_lens (λd hd=>Kf (WI.mp hc d hd)) hb.1 hb.2
  ·have hr:(decide (1<=ds.length)&&decide (ds.length<=8))=false:=by simpa using hr
   rw[hr] at hf;have e:qc (.tup ds)=false:=by
    show ((decide (1<=ds.length)&&decide (ds.length<=8))&&_)=_;rw[hr];rfl
   rw[e];exact e9 (fM hf (aF rfl))
 |non=>exact no λ_ z=>by cases z
 |bl b=>exact no λ_ z=>by cases z
 |int b=>exact no λ_ z=>by cases z
 |str b=>exact no λ_ z=>by cases z
 |lst b=>exact no λ_ z=>by cases z
 |raw _=>exact h.elim
 |exc _=>exact h.elim
 |scr _=>exact h.elim
 |dct _ _=>exact h.elim
 |dci _ _=>exact h.elim
structure Brd (ob:List Str) (V:Nat):Prop where
 r1:1<=ob.length
 r8:ob.length<=8
 w1:1<=V
 w8:V<=8
 rows:∀r∈ob,Row V r
def Good.brd(hg:Good bd W):Brd bd W:=⟨hg.r1,by have:=hg.r5;omega,hg.w1,by have:=hg.w5;omega,hg.rows⟩
def Brd.board{V:Nat}(h:Brd ob V):qc (brd ob)=true:=by
 have RT:∀r∈ob,pQ (.str r)=true:=λr hr=>by
  have q:=h.rows r hr;show ((decide (1<=r.length)&&decide (r.length<=8))&&kF r)=true;rw[q.len];have a:decide (1<=V)=true:=ac7 h.w1;have b:decide (V<=8)=true:=ac7 h.w8;rw[a,b];show kF r=true;exact WI.mpr λc hc=>q.let' c hc
 have h0:lH ((ob.map D.str).headD .non)=V:=by
  have:=h.r1;have hr:=h.rows;cases ob with
  |nil=>simp at this
  |cons x l=>exact(hr x (V_ ..)).len
 show ((decide (1<=(ob.map D.str).length)&&decide ((ob.map D.str).length<=8))&&((ob.map D.str).all pQ&&(ob.map D.str).all λd=>lH d==lH ((ob.map D.str).headD .non)))=true;rw[h0,V5,ac7 h.r1,ac7 h.r8];have a:(ob.map D.str).all pQ=true:=WI.mpr λd hd=>by
  obtain⟨r,hr,rfl⟩:=Wc.mp hd;exact RT r hr
 have b:((ob.map D.str).all λd=>lH d==V)=true:=WI.mpr λd hd=>by
  obtain⟨r,hr,rfl⟩:=Wc.mp hd;show (r.length==V)=true;rw[(h.rows r hr).len];simp
 rw[a,b];rfl
def Di:Plain2 (brd bd):=λd hd=>by
 obtain⟨r,_,rfl⟩:=Wc.mp hd;trivial
def lC(h:δ ρ=ab (.bl b)):cg δ ρ=ab b:=by
 unfold cg;rw[h];rfl
def eg(h:δ ρ=ab (.bl b)):dN δ ρ=ab b:=by
 unfold dN;rw[h];rfl
def jE(h:τ ρ=ab b):cR τ ρ=ab (!b):=by
 unfold cR;rw[h];rfl
def xG(h1:a ρ=ab p)(h2:c ρ=ab q):oF a c ρ=ab (p||q):=by
 unfold oF;rw[h1,aw];cases p
 ·exact h2
 ·rfl
def Fg(h1:a ρ=ab p)(h2:c ρ=ab q):Ff a c ρ=ab (p&&q):=by
 unfold Ff;rw[h1,aw];cases p
 ·rfl
 ·exact h2
def LA(h1:a ρ=ab (.bl p))(h2:c ρ=ab (.bl q)):IH a c ρ=ab (.bl (p||q)):=by
 unfold IH;rw[h1,aw];cases p
 ·exact h2
 ·rfl
def KJ(h:c ρ=ab p):NL c a b ρ=if p then a ρ else b ρ:=by
 unfold NL;rw[h];rfl
def Brd.nb{V:Nat}(h:Brd ob V):aM [brd ob]=ab .non:=by
 refine wz (dE (jE (lC (b:=true) ?_)) rfl);refine(ak (ds:=[brd ob]) rfl rfl).trans ?_;rw[vE Di,h.board]
structure Ln (V:Nat) (r:Str):Prop where
 len:r.length=V
structure Wd (ob:List Str) (V:Nat):Prop where
 r1:1<=ob.length
 r8:ob.length<=8
 w1:1<=V
 w8:V<=8
 rows:∀r∈ob,Ln V r
def Brd.wd{V:Nat}(h:Brd ob V):Wd ob V:=⟨h.r1,h.r8,h.w1,h.w8,λr hr=>⟨(h.rows r hr).len⟩⟩
def Wd.len0{V:Nat}(h:Wd ob V)(hρ:ρ[i]? =some (fz (brd ob))):dA bu (aC (d2 bf (dV i) (dC (.int 0))) aN) ρ=ab (.int (V:Int)):=by
 have h1:=h.r1;have hr:=h.rows;obtain⟨x,l,e⟩:∃x l,ob=x::l:=by
  cases ob with
  |nil=>simp at h1
  |cons x l=>exact⟨x,l,rfl⟩
 have hx:x.length=V:=(hr x (by rw[e];exact V_ ..)).len;have i0:bf (brd ob) (.int 0)=ab (.str x):=Sh (show ob.map D.str=D.str x::l.map D.str by rw[e];rfl);have k:=aH (g:=bf) (d9 hρ) (show dC (.int 0) ρ=ab (.int 0) from rfl);rw[i0] at k;rw[a7 (aE k rfl)];show ab (D.int (x.length:Int))=_;rw[hx]
def Brd.len0{V:Nat}(h:Brd ob V)(hρ:ρ[i]? =some (fz (brd ob))):dA bu (aC (d2 bf (dV i) (dC (.int 0))) aN) ρ=ab (.int (V:Int)):=h.wd.len0 hρ
def Gi(hρ:ρ[i]? =some (fz (brd bd))):dA bu (aC (dV i) aN) ρ=ab (.int (bd.length:Int)):=by
 have:bu [brd bd]=ab (.int (bd.length:Int)):=by
  show ab (D.int ((bd.map D.str).length:Int))=_;rw[V5]
 simp only[dA,aC,aN,d9 hρ,aw,this]
def js:D->Bool
 | .int _=>true
 |_=>false
def oC(h:Plain d):bF [d]=ab (.bl (js d)):=by
 cases d<;>first | rfl | exact h.elim
def Ob(R W:Nat):D->D->Bool
 | .int a, .int b=>(decide (0<=a)&&decide (a<(R:Int)))&&(decide (0<=b)&&decide (b<(W:Int)))
 |_,_=>false
def KI(R W:Nat):D->Bool
 | .tup [u,v]=>Ob R W u v
 |_=>false
def Od(h:δ ρ=ab (.int i))(h2:ε ρ=ab (.int n)):
 sJ (λi j=>decide (i<=j)) (λi j=>decide (i<j)) (dC (.int 0)) δ ε ρ=ab (.bl (decide (0<=i)&&decide (i<n))):=by
 simp only[sJ,dC,h,h2,aw,gI];cases decide (0<=i)<;>rfl
def yi(hg:Brd bd W)(h:Plain2 d):kC [brd bd,d]=ab (.bl (KI bd.length W d)):=by
 refine aP ?_;have hρ:([brd bd,d].map (λd=>some (Sl.fz d))++Xg (2 - [brd bd,d].length) none)=[fz (brd bd),fz d]:=rfl;rw[hρ];have hv:dV 1 [fz (brd bd),fz d]=ab d:=rfl;have no:isTup d=false->u4 [fz (brd bd),fz d]=ab (.rt (.bl false)):=λhs=>by
  refine e9 (fM ?_ (aF rfl));simp only[oF,cR,cg,dA,aC,aN,dC,hv,aw,pZ h.plain,hs,zG,aam,if_true]
 cases d with
 |tup ds=>
  have hi:cR (cg (dA jA (aC (dV 1) (aC (dC (.raw (.ty "tuple"))) aN)))) [fz (brd bd),fz (.tup ds)]=ab false:=by
   simp only[cR,cg,dA,aC,aN,dC,hv,aw,pZ h.plain,isTup,zG,abZ]
  have k:((ds.length:Int)==2)=(ds.length==2):=uy ds.length 2;have hl:oF (cR (cg (dA jA (aC (dV 1) (aC (dC (.raw (.ty "tuple"))) aN))))) (dN (d2 vw (dA bu (aC (dV 1) aN)) (dC (.int 2)))) [fz (brd bd),fz (.tup ds)]=ab (!(ds.length==2)):=by
   unfold oF;rw[hi];simp only[dN,d2,dA,aC,aN,dC,hv,aw,Jq,ne_int,k,Dg,WG,if_false]
  match ds,h,hl with
  |[],h,hl=>exact e9 (fM hl (aF rfl))
  |[_],h,hl=>exact e9 (fM hl (aF rfl))
  |_::_::_::_,h,hl=>
   refine e9 (fM (hl.trans ?_) (aF rfl));simp
  |[u,v],h,hl=>
   refine ao (dE hl rfl) ?_;have pu:Plain u:=h u (by simp);have pv:Plain v:=h v (by simp);have w1:ar 1 bF (aC (d2 bf (dV 1) (dC (.int 0))) aN) [fz (brd bd),fz (.tup [u,v])]=ab (.bl (js u)):=oC pu;have w2:ar 1 bF (aC (d2 bf (dV 1) (dC (.int 1))) aN) [fz (brd bd),fz (.tup [u,v])]=ab (.bl (js v)):=oC pv;have hw:oF (cR (cg (ar 1 bF (aC (d2 bf (dV 1) (dC (.int 0))) aN)))) (cR (cg (ar 1 bF (aC (d2 bf (dV 1) (dC (.int 1))) aN)))) [fz (brd bd),fz (.tup [u,v])]=ab (!(js u&&js v)):=by
    unfold oF cR cg;rw[w1,w2];simp only[aw,zG];cases js u<;>cases js v<;>rfl
   have bad:(js u&&js v)=false->aD (jB (oF (cR (cg (ar 1 bF (aC (d2 bf (dV 1) (dC (.int 0))) aN)))) (cR (cg (ar 1 bF (aC (d2 bf (dV 1) (dC (.int 1))) aN))))) (bq (dC (.bl false))) eA) (bq (gr (sJ (λi j=>decide (i<=j)) (λi j=>decide (i<j)) (dC (.int 0)) (d2 bf (dV 1) (dC (.int 0))) (dA bu (aC (dV 0) aN))) (sJ (λi j=>decide (i<=j)) (λi j=>decide (i<j)) (dC (.int 0)) (d2 bf (dV 1) (dC (.int 1))) (dA bu (aC (d2 bf (dV 0) (dC (.int 0))) aN))))) [fz (brd bd),fz (.tup [u,v])]=ab (.rt (.bl false)):=λhz=>by
    rw[hz] at hw;exact e9 (fM hw (aF rfl))
   match u,v,hw,bad with
   | .int a, .int b,hw,bad=>
     refine ao (dE hw rfl) (aF ?_);obtain⟨x0,r,e0⟩:∃x0 r,bd=x0::r:=by
      have:=hg.r1;cases bd with
      |nil=>simp at this
      |cons x r=>exact⟨x,r,rfl⟩
     have hx:x0.length=W:=(hg.rows x0 (by rw[e0];simp)).len;have l0:dA bu (aC (dV 0) aN) [fz (brd bd),fz (.tup [.int a, .int b])]=ab (.int (bd.length:Int)):=by
      show ab (D.int ((bd.map D.str).length:Int))=_;rw[V5]
     have l1:dA bu (aC (d2 bf (dV 0) (dC (.int 0))) aN) [fz (brd bd),fz (.tup [.int a, .int b])]=ab (.int (W:Int)):=by
      have i0:bf (brd bd) (.int 0)=ab (.str x0):=Sh (by rw[e0];rfl);simp only[dA,aC,aN,d2,dC,dV,Xi,aw,i0,len_str,hx]
     have c1:=Od (δ:=d2 bf (dV 1) (dC (.int 0))) rfl l0;have c2:=Od (δ:=d2 bf (dV 1) (dC (.int 1))) rfl l1;unfold gr;rw[c1,aw];show (if (decide (0<=a)&&decide (a<(bd.length:Int)))=true then _ else _)=ab (D.bl ((decide (0<=a)&&decide (a<(bd.length:Int)))&&(decide (0<=b)&&decide (b<(W:Int)))));cases (decide (0<=a)&&decide (a<(bd.length:Int)))
     ·rfl
     ·rw[ac5 rfl,c2,abY]
   | .non,_,_,bad=>exact bad rfl
   | .bl _,_,_,bad=>exact bad rfl
   | .str _,_,_,bad=>exact bad rfl
   | .tup _,_,_,bad=>exact bad rfl
   | .lst _,_,_,bad=>exact bad rfl
   | .raw _,_,_,_=>exact pu.elim
   | .exc _,_,_,_=>exact pu.elim
   | .scr _,_,_,_=>exact pu.elim
   | .int a, .non,_,bad=>exact bad rfl
   | .int a, .bl _,_,bad=>exact bad rfl
   | .int a, .str _,_,bad=>exact bad rfl
   | .int a, .tup _,_,bad=>exact bad rfl
   | .int a, .lst _,_,bad=>exact bad rfl
   | .int a, .raw _,_,_=>exact pv.elim
   | .int a, .exc _,_,_=>exact pv.elim
   | .int a, .scr _,_,_=>exact pv.elim
 |non=>exact no rfl
 |bl b=>exact no rfl
 |int b=>exact no rfl
 |str b=>exact no rfl
 |lst b=>exact no rfl
 |raw _=>exact h.elim
 |exc _=>exact h.elim
 |scr _=>exact h.elim
 |dct _ _=>exact h.elim
 |dci _ _=>exact h.elim
abbrev Cell:=Nat×Nat
def cD(c:Cell):D:= .tup [.int (c.1:Int), .int (c.2:Int)]
def On(R W:Nat)(c:Cell):Prop:=c.1<R/\c.2<W
instance {R W:Nat}{c:Cell}:Decidable (On R W c):=by unfold On;infer_instance
def E7:Plain2 (cD c):=λd hd=>by
 have:d= .int (c.1:Int)\/d= .int (c.2:Int):=by simpa[cD] using hd
 rcases this with rfl | rfl<;>trivial
def IE(h:On R W c):KI R W (cD c)=true:=by
 show ((decide ((0:Int)<=(c.1:Int))&&decide ((c.1:Int)<(R:Int)))&&(decide ((0:Int)<=(c.2:Int))&&decide ((c.2:Int)<(W:Int))))=true;obtain⟨h1,h2⟩:=h;simp;omega
def Brd.nc(hg:Brd bd W)(h:On bd.length W c):gS [brd bd,cD c]=ab .non:=by
 refine wz (dE (jE (lC (b:=true) ?_)) rfl);refine(ak (ds:=[brd bd,cD c]) rfl rfl).trans ?_;rw[yi hg E7,IE h]
def Ways(w:Nat):Prop:=w=4\/w=8
def Ways.nw(h:Ways w):bB [iW w]=ab .non:=by
 rcases h with rfl | rfl<;>rfl
def ch(x:Str)(j:Nat):Nat:=x.cps.toList.getD j 0
def at2(bd:List Str)(i j:Nat):Nat:=ch (bd.getD i ⟨#[]⟩) j
abbrev lt(bd:List Str)(c:Cell):Nat:=at2 bd c.1 c.2
def sg(n:Nat):D:= .str ⟨#[n]⟩
def C0{c:Nat}(h:c<x.length):qw (.str x) (.int (c:Int))=ab (sg (ch x c)):=by
 have h':c<x.cps.toList.length:=by rw[Wn];exact h
 show (match L2.atI x.cps.toList (c:Int) with | some c=>ab (D.str ⟨#[c]⟩) | none=>ag)=_;rw[ij (V6 h')];unfold sg ch;rw[Wa,V6 h'];rfl
def getD_mem{bd:List Str}(h:i<bd.length):bd.getD i ⟨#[]⟩∈bd:=by
 rw[Wa,V6 h];exact WR h
def Mj{i:Nat}(h:i<bd.length):bf (brd bd) (.int (i:Int))=ab (.str (bd.getD i ⟨#[]⟩)):=by
 show (match L2.atI (bd.map D.str) (i:Int) with | some d=>ab d | none=>ag)=_;rw[ij ?_];rw[Wj,V6 h,Wa,V6 h];rfl
def hZ(hg:Brd bd W)(h:On bd.length W c):c0 [brd bd,cD c]=ab (sg (lt bd c)):=by
 refine aP (aF ?_);refine(aH ((aH rfl rfl).trans (Mj h.1)) rfl).trans ?_;exact C0 (by rw[(hg.rows _ (getD_mem h.1)).len];exact h.2)
def KS(a b:Nat):nj (sg a) (sg b)=ab (.bl (decide (a=b))):=by
 show ab (D.bl (decide ((⟨#[a]⟩:Str)=⟨#[b]⟩)))=_;congr 2;by_cases h:a=b
 ·subst h;simp
 ·have:¬((⟨#[a]⟩:Str)=⟨#[b]⟩):=λz=>by
   injection z with z
   exact h (by simpa using z)
  rw[ac8 h,ac8 this]
def gh(a b:Nat):Nat:=max a b - min a b
def eT(w:Nat)(a b:Cell):Bool:=if w=4 then decide (gh a.1 b.1+gh a.2 b.2=1) else decide (max (gh a.1 b.1) (gh a.2 b.2)=1)
def BM(a b:Nat):E2 [.int ((a:Int) - (b:Int))]=ab (.int (gh a b:Int)):=by
 show ab (D.int _)=_;congr 2;unfold gh;omega
def u5(hw:Ways w)(a b:Cell):eJ [cD a,cD b,iW w]=ab (.bl (eT w a b)):=by
 refine aP ?_;refine ao ((aI (BM a.1 b.1)).trans rfl) ?_;refine ao ((aI (BM a.2 b.2)).trans rfl) ?_;rcases hw with rfl | rfl
 ·refine e9 (fM (eg rfl) (aF ?_));show ab (D.bl (((gh a.1 b.1:Int)+(gh a.2 b.2:Int))==1))=_;unfold eT;rw[ac5 rfl];congr 2;have:((gh a.1 b.1:Int)+(gh a.2 b.2:Int))=((gh a.1 b.1+gh a.2 b.2:Nat):Int):=by omega
  rw[this];have e:=uy (gh a.1 b.1+gh a.2 b.2) 1;exact e.trans rfl
 ·refine ao (dE (eg rfl) rfl) (aF ?_);show ab (D.bl ((if (gh a.1 b.1:Int)<(gh a.2 b.2:Int) then(gh a.2 b.2:Int) else(gh a.1 b.1:Int))==1))=_;have hn:eT 8 a b=decide (max (gh a.1 b.1) (gh a.2 b.2)=1):=rfl;rw[hn];congr 2;have:(if (gh a.1 b.1:Int)<(gh a.2 b.2:Int) then(gh a.2 b.2:Int) else(gh a.1 b.1:Int))=((max (gh a.1 b.1) (gh a.2 b.2):Nat):Int):=by split<;>omega
  rw[this];have e:=uy (max (gh a.1 b.1) (gh a.2 b.2)) 1;exact e.trans rfl
def iF(w:Nat)(a b:Cell):eT w a b=eT w b a:=by
 have e:∀x y:Nat,gh x y=gh y x:=λx y=>by unfold gh;rw[ack,Nat.min_comm]
 unfold eT;rw[e a.1,e a.2]
def K8(h:eT 4 a b=true):eT 8 a b=true:=by
 unfold eT at h⊢;rw[ac5 rfl] at h;rw[ac6 (by decide)];have h:=ac9 h;exact ac7 (by omega)
def cU(h1:put d ρ=some ρ1)(h2:body ρ1=ab (.nx ρ2)):forL put body (d::ds) ρ=forL put body ds ρ2:=by
 show (match put d ρ with | none=>ag | some ρ1=>body ρ1>>=λo=>match o with | .nx ρ2=>forL put body ds ρ2 | .rt v=>ab (.rt v))=_;rw[h1];show (body ρ1>>=λo=>match o with | .nx ρ2=>forL put body ds ρ2 | .rt v=>ab (.rt v))=_;rw[h2];rfl
section
variable{α σ:Type}{put:D->cK->Option cK}{body:DS}
def iu(enc:α->D)(mk:σ->cK)(step:σ->α->σ)(I:σ->Prop):∀(xs:List α) (s:σ),I s->(∀s,I s->∀x∈xs,I (step s x)/\∃ρ1,put (enc x) (mk s)=some ρ1/\body ρ1=ab (.nx (mk (step s x))))->
 I (xs.foldl step s)/\forL put body (xs.map enc) (mk s)=ab (.nx (mk (xs.foldl step s)))
 |[],s,h,_=>⟨h,rfl⟩
 |x::xs,s,h,st=>by
  obtain⟨h2,ρ1,e1,e2⟩:=st s h x (V_ ..);obtain⟨h3,e3⟩:=iu enc mk step I xs (step s x) h2 λs hs y hy=>st s hs y (V8 _ hy);exact⟨h3,(cU e1 e2).trans e3⟩
def nH(enc:α->D)(ρ:cK):∀(xs:List α),(∀x∈xs,∃ρ1,put (enc x) ρ=some ρ1/\body ρ1=ab (.nx ρ))->forL put body (xs.map enc) ρ=ab (.nx ρ)
 |[],_=>rfl
 |x::xs,st=>by
  obtain⟨ρ1,e1,e2⟩:=st x (V_ ..);exact(cU e1 e2).trans (nH enc ρ xs λy hy=>st y (V8 _ hy))
def ir(enc:α->D)(mk:List D->cK)(g:α->List D):∀(xs:List α) (v0:List D),(v0++xs.flatMap g).length<=B->(∀x∈xs,∀v0,(v0++g x).length<=B->∃ρ1,put (enc x) (mk v0)=some ρ1/\body ρ1=ab (.nx (mk (v0++g x))))->
 forL put body (xs.map enc) (mk v0)=ab (.nx (mk (v0++xs.flatMap g)))
 |[],v0,_,_=>by simp;rfl
 |x::xs,v0,hB,st=>by
  have Tt:((v0++g x)++xs.flatMap g).length<=B:=by simpa[XW,YK] using hB
  obtain⟨ρ1,e1,e2⟩:=st x (V_ ..) v0 (WX (by simp only[Wq];omega) Tt);have e3:=ir enc mk g xs (v0++g x) Tt λy hy=>st y (V8 _ hy);rw[Wb,cU e1 e2,e3,XW,YK]
end
def eQ(h:δi ρ=ab ds)(h2:forL put b ds ρ=m):ez put δi b ρ=m:=by
 unfold ez;rw[h];exact h2
def dq{τ:DS}(h:τ ρ=ab o):(λρ=>noex (τ ρ)) ρ=ab o:=by
 show noex (τ ρ)=_;rw[h];rfl
def zd(lo n:Nat):iN (lo:Int) n=(Xr lo n).map λ(k:Nat)=>D.int (k:Int):=by
 unfold iN;rw[acm];have:∀(n a:Nat),(Xr a n).map (λ(i:Nat)=>D.int ((lo:Int)+(i:Int)))=(Xr (lo+a) n).map λ(k:Nat)=>D.int (k:Int):=by
  intro n;induction n with
  |zero=>intro a;rfl
  |succ n ih=>
   intro a;rw[ZY,ZY,Wb,Wb,ih (a+1)];rfl
 exact this n 0
def Hv(h:δ ρ=ab (.int (n:Int)))(hn:n<=4096):(aC δ aN ρ>>=j8)=ab ((Wo n).map λ(k:Nat)=>D.int (k:Int)):=by
 rw[aE h rfl,aw,og hn,show iN 0 n=iN ((0:Nat):Int) n from rfl,zd,acm]
def Qi(h:δ ρ=ab (.int (i:Int)))(h2:ε ρ=ab (.int (j:Int)))(hi:i<=4096)(hj:j<=4096):(aC δ (aC ε aN) ρ>>=uU)=ab ((Xr i (j - i)).map λ(k:Nat)=>D.int (k:Int)):=by
 rw[aE h (aE h2 rfl),aw];show (if (-4096<=(i:Int)/\(i:Int)<=4096)/\(-4096<=(j:Int)/\(j:Int)<=4096) then ab (iN (i:Int) ((j:Int) - (i:Int)).toNat) else ag)=_;rw[ac5 ⟨⟨by omega,by omega⟩,by omega,by omega⟩,show ((j:Int) - (i:Int)).toNat=j - i by omega,zd]
def gF(W r:Nat):List Cell:=(Wo W).map λk=>(r,k)
def aY(R W:Nat):List Cell:=(Wo R).flatMap (gF W)
def aJ:c∈aY R W↔On R W c:=by
 unfold aY gF On;simp only[Yt,WT,Wc];constructor
 ·rintro⟨r,hr,k,hk,rfl⟩;exact⟨hr,hk⟩
 ·rintro⟨h1,h2⟩;exact⟨c.1,h1,c.2,h2,rfl⟩
def bA(R W:Nat):(aY R W).length=R*W:=by
 unfold aY;have:∀l:List Nat,(l.flatMap (gF W)).length=l.length*W:=by
  intro l;induction l with
  |nil=>simp
  |cons a l ih=>rw[XW,Wq,ih,Wf,Nat.succ_mul];simp[gF];omega
 rw[this,XU]
def nA(hg:Brd bd W)(r:Nat):cS [brd bd, .int (r:Int)]=ab (.lst ((gF W r).map cD)):=by
 have:=hg.w8;refine aP (aF (ba (Hv (hg.len0 rfl) (by omega)) ?_ (by simp[gF,cq];omega)));rw[show (gF W r).map cD=((Wo W).map λ(k:Nat)=>D.int (k:Int)).map (λe=> .tup [.int (r:Int),e]) by simp[gF,WA];intro a _;rfl];exact ik _ λe _=>rfl
def g8(hg:Brd bd W):b_ [brd bd]=ab (.lst ((aY bd.length W).map cD)):=by
 have h8:=hg.r8;have w8:=hg.w8;have hm:bd.length*W<=64:=ZJ h8 w8;have NR:(Wo bd.length).flatMap (λr=>(gF W r).map cD)=(aY bd.length W).map cD:=by
  unfold aY;rw[List.map_flatMap]
 have e:=ir (put:=putN 2) (body:=cY [2] (Bd 1 (ar 2 cS (aC (dV 0) (aC (dV 2) aN))))) (λ(k:Nat)=>D.int (k:Int)) (λv0=>[fz (brd bd),some (.ow (.lst v0)),none]) (λr=>(gF W r).map cD) (Wo bd.length) []
  (by rw[Xj,NR,V5,bA];exact hm) λr hr v0 hB=>by
   refine⟨[fz (brd bd),some (.ow (.lst v0)),fz (.int (r:Int))],rfl,?_⟩;refine(bh (ρ':=[fz (brd bd),some (.ow (.lst (v0++(gF W r).map cD))),fz (.int (r:Int))]) ?_).trans rfl;show (cS [brd bd, .int (r:Int)]>>=λd=>lstM d>>=λes=>if v0.length+es.length<=lim then ab (Out.nx (List.set [fz (brd bd),some (.ow (.lst v0)),fz (.int (r:Int))] 1 (some (.ow (.lst (v0++es)))))) else ag)=_;rw[nA hg,aw];show (if v0.length+((gF W r).map cD).length<=lim then ab (Out.nx [fz (brd bd),some (.ow (.lst (v0++(gF W r).map cD))),fz (.int (r:Int))]) else ag)=_;rw[ac5 (by rw[Wq] at hB;rw[cq];omega)]
 rw[Xj,NR] at e;refine aP (ao rfl (ao (dq (eQ (Hv (Gi rfl) (by omega)) e)) ?_));rfl
def c_(R W w:Nat)(c:Cell):List Cell:=
 (Xr (c.1 - 1) (min (c.1+2) R - (c.1 - 1))).flatMap λr=>((Xr (c.2 - 1) (min (c.2+2) W - (c.2 - 1))).map λk=>(r,k)).filter (eT w c)
def dF(hw:Ways w):x∈c_ R W w c↔On R W x/\eT w c x=true:=by
 unfold c_ On;simp only[Yt,Wu,Wc,List.mem_range'_1];constructor
 ·rintro⟨r,⟨h1,h2⟩,⟨k,⟨h3,h4⟩,rfl⟩,h5⟩;refine⟨⟨?_,?_⟩,h5⟩
  ·show r<R;omega
  ·show k<W;omega
 ·rintro⟨⟨h1,h2⟩,h5⟩;have h6:gh c.1 x.1<=1/\gh c.2 x.2<=1:=by
   unfold eT at h5;rcases hw with rfl | rfl
   ·have h5:=ac9 h5;exact⟨h5▸Nat.le_add_right ..,h5▸Nat.le_add_left ..⟩
   ·have h5:=ac9 h5;exact⟨h5▸Nat.le_max_left ..,h5▸Nat.le_max_right ..⟩
  have g:∀{a b B:Nat},gh a b<=1->b<B->a - 1<=b/\b<a - 1+(min (a+2) B - (a - 1)):=λ{a b B} h k=>by
   have h1:b<=a+1/\a<=b+1:=by unfold gh at h;omega
   have h2:min (a+2) B=a+2\/min (a+2) B=B:=by omega
   omega
  exact⟨x.1,g h6.1 h1,⟨x.2,g h6.2 h2,rfl⟩,h5⟩
def nO(R W w:Nat)(c:Cell):(c_ R W w c).length<=9:=by
 unfold c_;rw[acw];have h:∀r,(((Xr (c.2 - 1) (min (c.2+2) W - (c.2 - 1))).map λk=>(r,k)).filter (eT w c)).length<=3:=λr=>by
  refine WX (Xh ..) ?_;rw[V5,aaJ];omega
 have:∀(l:List Nat),(l.map λr=>(((Xr (c.2 - 1) (min (c.2+2) W - (c.2 - 1))).map λk=>(r,k)).filter (eT w c)).length).sum<=3*l.length:=by
  intro l;induction l with
  |nil=>simp
  |cons a l ih=>rw[Wb,WK,Wf];have:=h a;omega
 refine WX (this _) ?_;rw[aaJ];omega
abbrev nc(b c w:D)(v0:List D)(x4 x5:Option Sl):cK:=[fz b,fz c,fz w,some (.ow (.lst v0)),x4,x5]
def e8(hg:Brd bd W)(hw:Ways w)(hc:On bd.length W c):aV [brd bd,cD c,iW w]=ab (.lst ((c_ bd.length W w c).map cD)):=by
 have h8:=hg.r8;have w8:=hg.w8;obtain⟨c1,c2⟩:=hc;have OX:∀n:Nat,AK [.int ((n:Int) - 1), .int 0]=ab (.int ((n - 1:Nat):Int)):=λn=>by
  show ab (D.int (if (0:Int)>(n:Int) - 1 then 0 else(n:Int) - 1))=_;congr 2;split<;>omega
 have OY:∀n m:Nat,D4 [.int ((n:Int)+2), .int (m:Int)]=ab (.int ((min (n+2) m:Nat):Int)):=λn m=>by
  show ab (D.int (if (m:Int)<(n:Int)+2 then(m:Int) else(n:Int)+2))=_;congr 2;split<;>omega
 have inner:∀(r:Nat) (v0:List D),v0.length<=16->forL (putN 5) (cY [5] (jB (cg (ar 3 eJ (aC (dV 1) (aC (dA d7 (aC (dV 4) (aC (dV 5) aN))) (aC (dV 2) aN))))) (mU 3 (dA d7 (aC (dV 4) (aC (dV 5) aN)))) eA))
  ((Xr (c.2 - 1) (min (c.2+2) W - (c.2 - 1))).map λ(k:Nat)=>D.int (k:Int)) (nc (brd bd) (cD c) (iW w) v0 (fz (.int (r:Int))) none)=
  ab (.nx (nc (brd bd) (cD c) (iW w) (v0++(Xr (c.2 - 1) (min (c.2+2) W - (c.2 - 1))).flatMap λk=>if eT w c (r,k) then [cD (r,k)] else []) (fz (.int (r:Int))) none)):=λr v0 i3=>by
  refine ir (λ(k:Nat)=>D.int (k:Int)) (λv0=>nc (brd bd) (cD c) (iW w) v0 (fz (.int (r:Int))) none) (λk=>if eT w c (r,k) then [cD (r,k)] else []) (B:=64) _ v0 ?_ λk hk v0 hB=>?_
  ·rw[Wq,acw];have:∀l:List Nat,(l.map λk=>(if eT w c (r,k) then [cD (r,k)] else []).length).sum<=l.length:=by
    intro l;induction l with
    |nil=>simp
    |cons a l ih=>rw[Wb,WK,Wf];split<;>simp<;>omega
   have h2:=this (Xr (c.2 - 1) (min (c.2+2) W - (c.2 - 1)));rw[aaJ] at h2;omega
  ·refine⟨nc (brd bd) (cD c) (iW w) v0 (fz (.int (r:Int))) (fz (.int (k:Int))),rfl,?_⟩;have ht:cg (ar 3 eJ (aC (dV 1) (aC (dA d7 (aC (dV 4) (aC (dV 5) aN))) (aC (dV 2) aN)))) (nc (brd bd) (cD c) (iW w) v0 (fz (.int (r:Int))) (fz (.int (k:Int))))=ab (eT w c (r,k)):=
    lC ((ak rfl rfl).trans (u5 hw c (r,k)))
   cases hn:eT w c (r,k) with
   |true=>
    rw[hn] at ht;rw[hn,ac5 rfl,Wq] at hB;refine(bh (ρ':=nc (brd bd) (cD c) (iW w) (v0++[cD (r,k)]) (fz (.int (r:Int))) (fz (.int (k:Int)))) (fM ht ?_)).trans rfl;show (if v0.length<lim then ab (Out.nx (nc (brd bd) (cD c) (iW w) (v0++[cD (r,k)]) (fz (.int (r:Int))) (fz (.int (k:Int))))) else ag)=_;rw[ac5 (by rw[cq];simp at hB;omega)]
   |false=>
    rw[hn] at ht;refine(bh (dE ht rfl)).trans ?_;simp;rfl
 have flt:∀r,((Xr (c.2 - 1) (min (c.2+2) W - (c.2 - 1))).flatMap λk=>if eT w c (r,k) then [cD (r,k)] else [])=(((Xr (c.2 - 1) (min (c.2+2) W - (c.2 - 1))).map λk=>(r,k)).filter (eT w c)).map cD:=λr=>by
  generalize Xr (c.2 - 1) (min (c.2+2) W - (c.2 - 1))=l;induction l with
  |nil=>rfl
  |cons a l ih=>
   rw[XW,ih,Wb,X3];cases eT w c (r,a)<;>rfl
 have tot:(Xr (c.1 - 1) (min (c.1+2) bd.length - (c.1 - 1))).flatMap (λr=>(((Xr (c.2 - 1) (min (c.2+2) W - (c.2 - 1))).map λk=>(r,k)).filter (eT w c)).map cD)=(c_ bd.length W w c).map cD:=by
  unfold c_;rw[List.map_flatMap]
 have outer:=ir (put:=putN 4) (body:=cY [4,5] (ez (putN 5) (λρ=>(aC (dA AK (aC (d2 lG (d2 bf (dV 1) (dC (.int 1))) (dC (.int 1))) (aC (dC (.int 0)) aN))) (aC (dA D4 (aC (d2 eW (d2 bf (dV 1) (dC (.int 1))) (dC (.int 2))) (aC (dA bu (aC (d2 bf (dV 0) (dC (.int 0))) aN)) aN))) aN)) ρ>>=uU) (cY [5] (jB (cg (ar 3 eJ (aC (dV 1) (aC (dA d7 (aC (dV 4) (aC (dV 5) aN))) (aC (dV 2) aN))))) (mU 3 (dA d7 (aC (dV 4) (aC (dV 5) aN)))) eA))))
  (λ(k:Nat)=>D.int (k:Int)) (λv0=>nc (brd bd) (cD c) (iW w) v0 none none) (λr=>(((Xr (c.2 - 1) (min (c.2+2) W - (c.2 - 1))).map λk=>(r,k)).filter (eT w c)).map cD) (Xr (c.1 - 1) (min (c.1+2) bd.length - (c.1 - 1))) []
  (by rw[Xj,tot,V5];have:=nO bd.length W w c;omega) λr hr v0 hB=>by
   refine⟨nc (brd bd) (cD c) (iW w) v0 (fz (.int (r:Int))) none,rfl,?_⟩;have e:=inner r v0 (by rw[Wq] at hB;omega);rw[flt r] at e;refine(bh (eQ (Qi ?_ ?_ (by omega) (by omega)) e)).trans rfl
   ·exact(a7 rfl).trans (OX c.2)
   ·refine(a7 ?_).trans (OY c.2 W);exact aE (show d2 eW (d2 bf (dV 1) (dC (.int 1))) (dC (.int 2)) (nc (brd bd) (cD c) (iW w) v0 (fz (.int (r:Int))) none)=ab (.int ((c.2:Int)+2)) from rfl) (aE (hg.len0 rfl) rfl)
 rw[Xj,tot] at outer;refine aP (ao rfl (ao (dq (eQ (Qi ?_ ?_ (by omega) (by omega)) outer)) ?_))
 ·exact(a7 rfl).trans (OX c.1)
 ·refine(a7 ?_).trans (OY c.1 bd.length);exact aE (show d2 eW (d2 bf (dV 1) (dC (.int 0))) (dC (.int 2)) (nc (brd bd) (cD c) (iW w) [] none none)=ab (.int ((c.1:Int)+2)) from rfl) (aE (Gi rfl) rfl)
 ·rfl
def bH(bd:List Str)(W w:Nat)(c:Cell):List Cell:=(c_ bd.length W w c).filter λx=>decide (lt bd x=lt bd c)
def eO(hw:Ways w):x∈bH bd W w c↔On bd.length W x/\eT w c x=true/\lt bd x=lt bd c:=by
 unfold bH;rw[Wu,dF hw,ac4,and_assoc]
def D1(bd:List Str)(W w:Nat)(c:Cell):(bH bd W w c).length<=9:=WX (Xh ..) (nO ..)
def gg(enc:α->D)(p:α->Bool):∀(xs:List α),(∀x∈xs,f (enc x)=ab (if p x then some (enc x) else none))->d6 f (xs.map enc)=ab ((xs.filter p).map enc)
 |[],_=>rfl
 |x::xs,h=>by
  rw[Wb,eI,h x (V_ ..),aw,gg enc p xs λy hy=>h y (V8 _ hy),X3];cases p x<;>rfl
def qV(hg:Brd bd W)(hw:Ways w)(hc:On bd.length W c):di [brd bd,cD c,iW w]=ab (.lst ((bH bd W w c).map cD)):=by
 refine aP (ao (ρ':=[fz (brd bd),fz (cD c),fz (iW w),fz (sg (lt bd c))]) ((aI ((ak rfl rfl).trans (hZ hg hc))).trans rfl) (aF ?_));refine ba ?_ (gg cD _ _ λx hx=>?_) (by rw[V5,cq];exact WX (D1 bd W w c) (by decide))
 ·show (ar 3 aV _ _>>=lstM)=_;have e:ar 3 aV (aC (dV 0) (aC (dV 1) (aC (dV 2) aN))) [fz (brd bd),fz (cD c),fz (iW w),fz (sg (lt bd c))]=ab (.lst ((c_ bd.length W w c).map cD)):=e8 hg hw hc;rw[e];rfl
 ·have Vx:=(dF hw).mp hx;rw[nB];have e:dN (d2 nj (ar 2 c0 (aC (dV 1) (aC (dV 0) aN))) (dV 4)) (fz (cD x)::[fz (brd bd),fz (cD c),fz (iW w),fz (sg (lt bd c))])=ab (decide (lt bd x=lt bd c)):=by
   refine eg ?_;exact(aH ((ak rfl rfl).trans (hZ hg Vx.1)) rfl).trans (KS _ _)
  rw[e,aw];cases decide (lt bd x=lt bd c)<;>rfl
end K1
namespace K1
section
variable{α:Type}[DecidableEq α]
structure Bk (α:Type) where
 ks:List α
 ps:List (Option α)
 fu:List α
def cZ(c:α)(s:Bk α)(x:α):Bk α:=if x∈s.ks then s else⟨s.ks++[x],s.ps++[some c],s.fu++[x]⟩
variable(nb:α->List α)
def gN(s:Bk α)(c:α):Bk α:=(nb c).foldl (cZ c) s
def b7(s:Bk α)(u8:List α):Bk α:=u8.foldl (gN nb) s
def Rb(a:α):Nat->α->Prop
 |0,x=>x=a
 |k+1,x=>Rb a k x\/∃y,Rb a k y/\x∈nb y
variable{nb}{a:α}
def Rb.mono(h:i<=j)(r:Rb nb a i x):Rb nb a j x:=by
 induction h with
 |refl=>exact r
 |step _ ih=>exact .inl ih
structure Grown (P:α->α->Prop) (s t:Bk α):Prop where
 ex:∃fs:List (α×α),t.ks=s.ks++fs.map (·.1)/\t.ps=s.ps++fs.map (λp=>some p.2)/\t.fu=s.fu++fs.map (·.1)/\(∀p∈fs,P p.2 p.1)
 nd:s.ks.Nodup->t.ks.Nodup
def Grown.refl(s:Bk α):Grown P s s:=⟨⟨[],by simp,by simp,by simp,λ_ h=>by cases h⟩,id⟩
def Grown.trans(h1:Grown P s t)(h2:Grown P t u):Grown P s u:=by
 obtain⟨fs,a1,a2,a3,a4⟩:=h1.ex;obtain⟨gs,b1,b2,b3,b4⟩:=h2.ex;refine⟨⟨fs++gs,by rw[b1,a1];simp,by rw[b2,a2];simp,by rw[b3,a3];simp,λp hp=>?_⟩,λh=>h2.nd (h1.nd h)⟩;rcases WZ.mp hp with h | h
 ·exact a4 p h
 ·exact b4 p h
def xu(s:Bk α)(h:P c x):Grown P s (cZ c s x):=by
 unfold cZ;split
 ·exact Grown.refl s
 ·rename_i hx;refine⟨⟨[(x,c)],rfl,rfl,rfl,λp hp=>?_⟩,λhn=>?_⟩
  ·have:p=(x,c):=by simpa using hp
   subst this;exact h
  ·refine XG.mpr ⟨hn,by simp,λy hy z hz e=>?_⟩;have hz:z=x:=by simpa using hz
   rw[e,hz] at hy;exact hx hy
def tN(s:Bk α):y∈(cZ c s x).ks↔y∈s.ks\/y=x:=by
 unfold cZ;split
 ·rename_i hx;exact⟨.inl,λh=>h.elim id λe=>by rw[e];exact hx⟩
 ·simp
def foldStep:∀(l:List α) (s:Bk α),(∀x∈l,P c x)->Grown P s (l.foldl (cZ c) s)/\∀y,y∈(l.foldl (cZ c) s).ks↔y∈s.ks\/y∈l
 |[],s,_=>⟨Grown.refl s,λy=>by simp⟩
 |x::l,s,h=>by
  obtain⟨h1,h2⟩:=foldStep l (cZ c s x) λy hy=>h y (V8 _ hy);refine⟨(xu s (h x (V_ ..))).trans h1,λy=>?_⟩;rw[Z9,h2 y,tN];simp[or_assoc]
def xX:∀(l:List α) (s:Bk α),(∀c∈l,∀x∈nb c,P c x)->Grown P s (b7 nb s l)/\∀y,y∈(b7 nb s l).ks↔y∈s.ks\/∃c∈l,y∈nb c
 |[],s,_=>⟨Grown.refl s,λy=>by simp[b7]⟩
 |c::l,s,h=>by
  obtain⟨g1,m1⟩:=foldStep (nb c) s (h c (V_ ..));obtain⟨g2,m2⟩:=xX l (gN nb s c) λc' hc=>h c' (V8 _ hc);refine⟨g1.trans g2,λy=>?_⟩;show y∈(b7 nb (gN nb s c) l).ks↔_;rw[m2 y];show (y∈((nb c).foldl (cZ c) s).ks\/_)↔_;rw[m1 y];simp[or_assoc]
structure Rng (nb:α->List α) (a:α) (k:Nat) (ks:List α) (ps:List (Option α)) (u8:List α):Prop where
 len:ks.length=ps.length
 nd:ks.Nodup
 mem:∀x,x∈ks↔Rb nb a k x
 rg:∀x,x∈u8↔Rb nb a k x/\∀j,Rb nb a j x->k<=j
 par:∀x p,(x,some p)∈ks.zip ps->x∈nb p/\p∈ks/\∀j,Rb nb a j x->∃i,j=i+1/\Rb nb a i p
 non:∀x,(x,none)∈ks.zip ps->x=a
 sz:k<=ks.length/\(u8≠[]->k+1<=ks.length)
def Rng.zero(nb:α->List α)(a:α):Rng nb a 0 [a] [none] [a] where
 len:=rfl
 nd:=by simp
 mem:=λx=>by simp[Rb]
 rg:=λx=>by simp[Rb]
 par:=λx p h=>by simp at h
 non:=λx h=>by simpa using h
 sz:=⟨by simp,λ_=>by simp⟩
def Rng.next(h:Rng nb a k ks ps u8)(hr:u8≠[]):Rng nb a (k+1) (b7 nb ⟨ks,ps,[]⟩ u8).ks (b7 nb ⟨ks,ps,[]⟩ u8).ps (b7 nb ⟨ks,ps,[]⟩ u8).fu:=by
 obtain⟨g,m⟩:=xX (P:=λc x=>c∈u8/\x∈nb c) u8 ⟨ks,ps,[]⟩ λc hc x hx=>⟨hc,hx⟩
 obtain⟨fs,e1,e2,e3,e4⟩:=g.ex;have DK:=g.nd h.nd;have hm:∀x,x∈(b7 nb ⟨ks,ps,[]⟩ u8).ks↔Rb nb a (k+1) x:=λx=>by
  rw[m x];show (x∈ks\/_)↔(Rb nb a k x\/_);constructor
  ·rintro(q | ⟨c,hc,hx⟩)
   ·exact .inl ((h.mem x).mp q)
   ·exact .inr ⟨c,((h.rg c).mp hc).1,hx⟩
  ·rintro(q | ⟨y,hy,hx⟩)
   ·exact .inl ((h.mem x).mpr q)
   ·by_cases hk:∀j,Rb nb a j y->k<=j
    ·exact .inr ⟨y,(h.rg y).mpr ⟨hy,hk⟩,hx⟩
    ·refine .inl ((h.mem x).mpr ?_);obtain⟨j,hj⟩:=abI.mp hk;obtain⟨RL,U8⟩:=ab9.mp hj;exact Rb.mono (i:=j+1) (by omega) (.inr ⟨y,RL,hx⟩)
 have ES:(b7 nb ⟨ks,ps,[]⟩ u8).ks=ks++fs.map (·.1):=e1;have NM:(b7 nb ⟨ks,ps,[]⟩ u8).ps=ps++fs.map (λp=>some p.2):=e2;have QC:(b7 nb ⟨ks,ps,[]⟩ u8).fu=fs.map (·.1):=e3;have new:∀x,x∈fs.map (·.1)->¬Rb nb a k x:=λx hx hk=>by
  rw[ES] at DK;exact(XG.mp DK).2.2 x ((h.mem x).mpr hk) x hx rfl
 have Pp:∀x,¬Rb nb a k x->∀j,Rb nb a j x->k+1<=j:=λx hx j hj=>by
  by_cases U9:k+1<=j
  ·exact U9
  ·exact ac_ (Rb.mono (by omega) hj) hx
 have Pg:(b7 nb ⟨ks,ps,[]⟩ u8).ks.zip (b7 nb ⟨ks,ps,[]⟩ u8).ps=ks.zip ps++fs.map λp=>(p.1,some p.2):=by
  rw[ES,NM,abe h.len];congr 1;rw[List.zip_map']
 refine⟨?_,DK,hm,λx=>?_,λx p hp=>?_,λx hx=>?_,?_⟩
 ·rw[ES,NM,Wq,Wq,V5,V5,h.len]
 ·rw[QC];constructor
  ·intro hx;exact⟨(hm x).mp (by rw[ES];exact Xa _ hx),Pp x (new x hx)⟩
  ·rintro⟨h1,h2⟩;have h3:=(hm x).mpr h1;rw[ES] at h3;rcases WZ.mp h3 with q | q
   ·have:=h2 k ((h.mem x).mp q);omega
   ·exact q
 ·rw[Pg] at hp;rcases WZ.mp hp with q | q
  ·obtain⟨q1,q2,q3⟩:=h.par x p q;exact⟨q1,by rw[ES];exact Zo _ q2,q3⟩
  ·obtain⟨f,hf,e⟩:=Wc.mp q;cases e;obtain⟨f1,f2⟩:=e4 f hf;have hc:=(h.rg f.2).mp f1;refine⟨f2,by rw[ES];exact Zo _ ((h.mem _).mpr hc.1),λj hj=>?_⟩;have:=Pp f.1 (new f.1 (Wc.mpr ⟨f,hf,rfl⟩)) j hj;exact⟨j - 1,by omega,Rb.mono (by omega) hc.1⟩
 ·rw[Pg] at hx;rcases WZ.mp hx with q | q
  ·exact h.non x q
  ·obtain⟨f,hf,e⟩:=Wc.mp q;cases e
 ·have hs:=h.sz.2 hr;rw[ES,Wq,V5];refine⟨by omega,λjI=>?_⟩;have:fs≠[]:=λz=>jI (by rw[QC,z];rfl);have:=List.length_pos_iff.mpr this;omega
def Rng.last(h:Rng nb a k ks ps []):∀x,x∈ks↔∃j,Rb nb a j x:=by
 have none:∀x,¬(Rb nb a k x/\∀j,Rb nb a j x->k<=j):=λx q=>by
  have:=(h.rg x).mpr q;cases this
 have hk:∀x,Rb nb a k x->∃i,i<k/\Rb nb a i x:=λx hx=>by
  by_cases q:∀j,Rb nb a j x->k<=j
  ·exact ac_ ⟨hx,q⟩ (none x)
  ·obtain⟨j,hj⟩:=abI.mp q;obtain⟨RL,U8⟩:=ab9.mp hj;exact⟨j,by omega,RL⟩
 have all:∀j x,Rb nb a j x->Rb nb a k x:=by
  intro j;induction j with
  |zero=>intro x hx;exact Rb.mono (WQ _) hx
  |succ j ih=>
   rintro x (q | ⟨y,hy,hx⟩)
   ·exact ih x q
   ·obtain⟨i,hi,hr⟩:=hk y (ih y hy);exact Rb.mono (i:=i+1) (by omega) (.inr ⟨y,hr,hx⟩)
 exact λx=>⟨λq=>⟨k,(h.mem x).mp q⟩,λ⟨j,hj⟩=>(h.mem x).mpr (all j x hj)⟩
def bU{l U:List α}(hn:l.Nodup)(h:∀x∈l,x∈U):l.length<=U.length:=by
 induction l generalizing U with
 |nil=>simp
 |cons a l ih=>
  rw[Xe] at hn;have hl:∀x∈l,x∈U.erase a:=λx hx=>by
   have jI:x≠a:=λz=>hn.1 (by rw[<-z];exact hx);exact(aak jI).mpr (h x (V8 _ hx))
  have h1:=ih hn.2 hl;have h2:=YZ (h a (V_ ..));have h3:=Xn (h a (V_ ..));rw[Wf];omega
end
end K1
namespace K1
open PySem L2 L3
def keyOf(c:Cell):List Key:=[.inl (c.1:Int), .inl (c.2:Int)]
def iB(h:keyOf a=keyOf b):a=b:=by
 unfold keyOf at h;injection h with h1 h2
 injection h1 with h1
 injection h2 with h2 _
 injection h2 with h2
 exact aaF (aai h1) (aai h2)
def fY(c:Cell):fe (cD c)=some (keyOf c):=rfl
def gq:∀{ks:List Cell}{ds:List D},c∉ks->fi (ks.map keyOf) ds (keyOf c)=none
 |[],_,_=>by simp[fi]
 |k::ks,[],_=>by simp[fi]
 |k::ks,d::ds,h=>by
  rw[Wb];unfold fi;rw[ac6 (λz=>h (by rw[iB z];exact V_ ..))];exact gq λz=>h (V8 _ z)
def kT:∀{ks:List Cell}{ds:List D},ks.length=ds.length->c∈ks->∃d,fi (ks.map keyOf) ds (keyOf c)=some d/\(c,d)∈ks.zip ds
 |[],_,_,h=>by cases h
 |k::ks,[],hl,_=>by simp at hl
 |k::ks,d::ds,hl,h=>by
  rw[Wb];unfold fi;by_cases hk:k=c
  ·subst hk;rw[ac5 rfl];exact⟨d,rfl,by simp⟩
  ·rw[ac6 (λz=>hk (iB z))];have hc:c∈ks:=by
    rcases Ws.mp h with q | q
    ·exact ac_ q.symm hk
    ·exact q
   obtain⟨d',e1,e2⟩:=kT (by simpa using hl) hc;exact⟨d',e1,by simp[e2]⟩
def i6{ks:List Cell}(hl:ks.length=ds.length):g_ neg (cD c) (.dct (ks.map keyOf) ds)=ab (.bl (if neg then !decide (c∈ks) else decide (c∈ks))):=by
 show (match (fe (cD c)).map (fi (ks.map keyOf) ds) with | some o=>ab (D.bl (if neg then !o.isSome else o.isSome)) | none=>ag)=_;rw[fY];show ab (D.bl (if neg then !(fi (ks.map keyOf) ds (keyOf c)).isSome else(fi (ks.map keyOf) ds (keyOf c)).isSome))=_;by_cases h:c∈ks
 ·obtain⟨d,e,_⟩:=kT hl h;rw[e,ac7 h];rfl
 ·rw[gq h,ac8 h];rfl
def r0(h:c∉ks)(hl:ds.length<lim):k0 (.dct (ks.map keyOf) ds) (cD c) d=some (.dct ((ks++[c]).map keyOf) (ds++[d])):=by
 show (match fe (cD c) with | some kk=>if ds.length<lim then some (C.dct (d8 (ks.map keyOf) ds kk) (da (ks.map keyOf) ds kk d)) else none | none=>none)=_;rw[fY];show (if ds.length<lim then some (C.dct (d8 (ks.map keyOf) ds (keyOf c)) (da (ks.map keyOf) ds (keyOf c) d)) else none)=_;rw[ac5 hl];unfold d8 da;rw[gq h];simp
def C4(h:τ (Ao ρ)=ab b):Iv τ ρ=ab b:=by
 unfold Iv;rw[h];rfl
def KN(h:δ (Ao ρ)=ab d)(hf:B0 d=true):Oh δ ρ=ab d:=by
 unfold Oh;rw[h];show qu d=_;unfold qu;rw[hf];rfl
def zL(h1:c ρ=ab true)(h2:body ρ=ab (.nx ρ'))(h3:fB c body n ρ'=m):fB c body (n+1) ρ=m:=by
 show (c ρ>>=λb=>if b then body ρ>>=λo=>match o with | .nx ρ'=>fB c body n ρ' | .rt d=>ab (.rt d) else ab (.nx ρ))=_;rw[h1,aw,ac5 rfl,h2];exact h3
def zK(h1:c ρ=ab false):fB c body (n+1) ρ=ab (.nx ρ):=by
 show (c ρ>>=λb=>if b then body ρ>>=λo=>match o with | .nx ρ'=>fB c body n ρ' | .rt d=>ab (.rt d) else ab (.nx ρ))=_;rw[h1];rfl
def GW:Option Cell->D
 |none=> .non
 |some c=>cD c
abbrev KD(ks:List Cell)(ps:List (Option Cell)):C:= .dct (ks.map keyOf) (ps.map GW)
abbrev KG(ks:List Cell)(ps:List (Option Cell)):D:= .dct (ks.map keyOf) (ps.map GW)
abbrev sb(b s w:D)(ks:List Cell)(ps:List (Option Cell))(x4 x5 x6 x7:Option Sl):cK:=[fz b,fz s,fz w,some (.ow (KD ks ps)),x4,x5,x6,x7]
structure Bok (R W:Nat) (s:Bk Cell):Prop where
 len:s.ks.length=s.ps.length
 nd:s.ks.Nodup
 on:∀x∈s.ks,On R W x
 fu:s.fu.length<=s.ks.length
def Bok.le(h:Bok R W s):s.ks.length<=R*W:=by
 rw[<-bA R W];exact bU h.nd λx hx=>aJ.mpr (h.on x hx)
def Bok.step(h:Bok R W s)(hx:On R W x):Bok R W (cZ c s x):=by
 unfold cZ;split
 ·exact h
 ·rename_i hn;refine⟨by simp[h.len],?_,λy hy=>?_,by simp;exact h.fu⟩
  ·refine XG.mpr ⟨h.nd,by simp,λy hy z hz e=>?_⟩;have hz:z=x:=by simpa using hz
   rw[e,hz] at hy;exact hn hy
  ·rcases WZ.mp hy with q | q
   ·exact h.on y q
   ·have:y=x:=by simpa using q
    rw[this];exact hx
def Kh(hg:Brd bd W)(h:Bok bd.length W s):
 Nq (sb (brd bd) (cD a) w s.ks s.ps r (some (.ow (.lst (s.fu.map cD)))) (fz (cD c)) (fz (cD x)))=ab (.nx (sb (brd bd) (cD a) w (cZ c s x).ks (cZ c s x).ps r (some (.ow (.lst ((cZ c s x).fu.map cD)))) (fz (cD c)) none)):=by
 have hle:=h.le;have hm:bd.length*W<=64:=ZJ hg.r8 hg.w8;have ht:Iv (dN (d2 (g_ true) (dV 7) (dV 3))) (sb (brd bd) (cD a) w s.ks s.ps r (some (.ow (.lst (s.fu.map cD)))) (fz (cD c)) (fz (cD x)))=ab (!decide (x∈s.ks)):=
  C4 (eg ((aH rfl rfl).trans (i6 (by rw[V5];exact h.len))))
 by_cases hx:x∈s.ks
 ·rw[ac7 hx] at ht;have e:cZ c s x=s:=ac5 hx;rw[e];exact(bh (dE ht rfl)).trans rfl
 ·rw[ac8 hx] at ht;have e:cZ c s x=⟨s.ks++[x],s.ps++[some c],s.fu++[x]⟩:=ac6 hx;rw[e];refine(bh (ρ':=sb (brd bd) (cD a) w (s.ks++[x]) (s.ps++[some c]) r (some (.ow (.lst ((s.fu++[x]).map cD)))) (fz (cD c)) (fz (cD x))) (fM ht (ao (ρ':=sb (brd bd) (cD a) w (s.ks++[x]) (s.ps++[some c]) r (some (.ow (.lst (s.fu.map cD)))) (fz (cD c)) (fz (cD x))) ?_ ?_))).trans rfl
  ·show (match k0 (KD s.ks s.ps) (cD x) (cD c) with | some c'=>ab (Out.nx (List.set (sb (brd bd) (cD a) w s.ks s.ps r (some (.ow (.lst (s.fu.map cD)))) (fz (cD c)) (fz (cD x))) 3 (some (.ow c')))) | none=>ag)=_;rw[r0 hx (by rw[V5,<-h.len,cq];omega)];rw[show s.ps.map GW++[cD c]=(s.ps++[some c]).map GW by simp[GW]];rfl
  ·show (if (s.fu.map cD).length<lim then ab (Out.nx (sb (brd bd) (cD a) w (s.ks++[x]) (s.ps++[some c]) r (some (.ow (.lst (s.fu.map cD++[cD x])))) (fz (cD c)) (fz (cD x)))) else ag)=_;have:=h.fu;rw[ac5 (by rw[V5,cq];omega)];rw[show s.fu.map cD++[cD x]=(s.fu++[x]).map cD by simp]
def Ql:DS:=cY [6,7] (ez (putN 7) (bJ (ar 3 di (aC (dV 0) (aC (dV 6) (aC (dV 2) aN))))) Nq)
def CZ(hg:Brd bd W)(hw:Ways w)(hc:On bd.length W c)(h:Bok bd.length W s):
 Bok bd.length W (gN (bH bd W w) s c)/\Ql (sb (brd bd) (cD a) (iW w) s.ks s.ps r (some (.ow (.lst (s.fu.map cD)))) (fz (cD c)) none)=
  ab (.nx (sb (brd bd) (cD a) (iW w) (gN (bH bd W w) s c).ks (gN (bH bd W w) s c).ps r (some (.ow (.lst ((gN (bH bd W w) s c).fu.map cD)))) none none)):=by
 obtain⟨h1,e⟩:=iu (put:=putN 7) cD (λs:Bk Cell=>sb (brd bd) (cD a) (iW w) s.ks s.ps r (some (.ow (.lst (s.fu.map cD)))) (fz (cD c)) none) (cZ c) (Bok bd.length W) (bH bd W w c) s h λs hs x hx=>
  ⟨hs.step ((eO hw).mp hx).1,_,rfl,Kh hg hs⟩
 refine⟨h1,(bh (eQ ?_ e)).trans rfl⟩;show (ar 3 di (aC (dV 0) (aC (dV 6) (aC (dV 2) aN))) (sb (brd bd) (cD a) (iW w) s.ks s.ps r (some (.ow (.lst (s.fu.map cD)))) (fz (cD c)) none)>>=lstM)=_;have e2:ar 3 di (aC (dV 0) (aC (dV 6) (aC (dV 2) aN))) (sb (brd bd) (cD a) (iW w) s.ks s.ps r (some (.ow (.lst (s.fu.map cD)))) (fz (cD c)) none)=ab (.lst ((bH bd W w c).map cD)):=qV hg hw hc;rw[e2];rfl
def Qk:DS:=cY [5,6,7] (aD (tj 5) (aD (ez (putN 6) (bJ (dV 4)) Ql) (zf 5 (bX 4 (dV 5)))))
def Kg(hg:Brd bd W)(hw:Ways w)(hr:∀c∈u8,On bd.length W c)(h:Bok bd.length W s)(hf:s.fu=[]):
 Bok bd.length W (b7 (bH bd W w) s u8)/\Qk (sb (brd bd) (cD a) (iW w) s.ks s.ps (fz (.lst (u8.map cD))) none none none)=
  ab (.nx (sb (brd bd) (cD a) (iW w) (b7 (bH bd W w) s u8).ks (b7 (bH bd W w) s u8).ps (fz (.lst ((b7 (bH bd W w) s u8).fu.map cD))) none none none)):=by
 obtain⟨h1,e⟩:=iu (put:=putN 6) cD (λs:Bk Cell=>sb (brd bd) (cD a) (iW w) s.ks s.ps (fz (.lst (u8.map cD))) (some (.ow (.lst (s.fu.map cD)))) none none) (gN (bH bd W w)) (Bok bd.length W) u8 s h λs hs c hc=>
  ⟨(CZ (a:=a) (r:=fz (.lst (u8.map cD))) hg hw (hr c hc) hs).1,_,rfl,(CZ hg hw (hr c hc) hs).2⟩
 refine⟨h1,(bh (ρ':=sb (brd bd) (cD a) (iW w) (b7 (bH bd W w) s u8).ks (b7 (bH bd W w) s u8).ps (fz (.lst ((b7 (bH bd W w) s u8).fu.map cD))) (fz (.lst ((b7 (bH bd W w) s u8).fu.map cD))) none none) ?_).trans rfl⟩;refine ao rfl (ao (ρ':=sb (brd bd) (cD a) (iW w) (b7 (bH bd W w) s u8).ks (b7 (bH bd W w) s u8).ps (fz (.lst (u8.map cD))) (some (.ow (.lst ((b7 (bH bd W w) s u8).fu.map cD)))) none none) ?_ rfl);rw[hf] at e;exact eQ rfl e
def zh(hg:Brd bd W)(hw:Ways w)(ha:On bd.length W a):∀(fuel k:Nat) (ks:List Cell) (ps:List (Option Cell)) (u8:List Cell),bd.length*W+2<=fuel+k->Rng (bH bd W w) a k ks ps u8->(∀x∈ks,On bd.length W x)->
 ∃k' ks' Lh,Rng (bH bd W w) a k' ks' Lh []/\(∀x∈ks',On bd.length W x)/\fB (cg (dV 4)) Qk fuel (sb (brd bd) (cD a) (iW w) ks ps (fz (.lst (u8.map cD))) none none none)=ab (.nx (sb (brd bd) (cD a) (iW w) ks' Lh (fz (.lst [])) none none none))
 |0,k,ks,ps,u8,hf,hR,eN=>by
  have h1:ks.length<=bd.length*W:=by
   rw[<-bA bd.length W];exact bU hR.nd λx hx=>aJ.mpr (eN x hx)
  have:=hR.sz.1;omega
 |fuel+1,k,ks,ps,[],hf,hR,eN=>⟨k,ks,ps,hR,eN,zK rfl⟩
 |fuel+1,k,ks,ps,c::u8,hf,hR,eN=>by
  have jI:c::u8≠[]:=by simp
  have hN:=hR.next jI;have O8:∀x∈c::u8,On bd.length W x:=λx hx=>eN x ((hR.mem x).mpr ((hR.rg x).mp hx).1);obtain⟨hb,e⟩:=Kg hg hw O8 (s:=⟨ks,ps,[]⟩) ⟨hR.len,hR.nd,eN,WQ _⟩ rfl;obtain⟨k',ks',Lh,q1,q2,q3⟩:=zh hg hw ha fuel (k+1) _ _ _ (by omega) hN hb.on;exact⟨k',ks',Lh,q1,q2,zL rfl e q3⟩
def sr(hg:Brd bd W)(hw:Ways w)(ha:On bd.length W a):
 ∃k ks ps,Rng (bH bd W w) a k ks ps []/\(∀x∈ks,On bd.length W x)/\dZ [brd bd,cD a,iW w]=ab (KG ks ps):=by
 have hm:bd.length*W<=64:=ZJ hg.r8 hg.w8;obtain⟨k,ks,ps,h1,h2,h3⟩:=zh hg hw ha lim 0 [a] [none] [a] (by rw[cq];omega) (Rng.zero _ _) (λx hx=>(show x=a by simpa using hx)▸ha);refine⟨k,ks,ps,h1,h2,aP (ao rfl (ao rfl (ao (dq h3) rfl)))⟩
def E0[DecidableEq α](n:Nat)(enc:α->D):Prop:=∀k x y,k9 (n+k) (enc x) (enc y)=some (decide (x=y))
def pX(n:Nat)(i j:Int):k9 n (.int i) (.int j)=some (i==j):=by cases n<;>rfl
def BX[DecidableEq α](h:∀x y,f (enc x) (enc y)=some (decide (x=y))):∀(xs ys:List α),pG f (xs.map enc) (ys.map enc)=some (decide (xs=ys))
 |[],[]=>rfl
 |[],_::_=>by simp[pG]
 |_::_,[]=>by simp[pG]
 |x::xs,y::ys=>by
  rw[Wb,Wb];show (match f (enc x) (enc y),pG f (xs.map enc) (ys.map enc) with | some b,some r=>some (b&&r) | _,_=>none)=_;rw[h,BX h xs ys];show some (decide (x=y)&&decide (xs=ys))=_;congr 1;by_cases h1:x=y<;>by_cases h2:xs=ys<;>simp[h1,h2]
def IP[DecidableEq α](h:E0 n enc):E0 (n+1) (λl:List α=> .lst (l.map enc)):=λk x y=>by
 rw[show n+1+k=(n+k)+1 by omega];exact BX (h k) x y
abbrev cL(l:List Cell):D:= .lst (l.map cD)
def ic(c:Cell):List Int:=[(c.1:Int),(c.2:Int)]
def vj(a b:Cell):Bool:=if a.1=b.1 then decide (a.2<b.2) else decide (a.1<b.1)
def Je(k:Cell):List Cell->List Cell
 |[]=>[k]
 |x::r=>if vj k x then k::x::r else x::Je k r
def jz:List Cell->List Cell
 |[]=>[]
 |k::r=>Je k (jz r)
def AI(a b:Cell):cX (ic a) (ic b)=vj a b:=by
 show (if (a.1:Int)=(b.1:Int) then(if (a.2:Int)=(b.2:Int) then false else decide ((a.2:Int)<(b.2:Int))) else decide ((a.1:Int)<(b.1:Int)))=_;unfold vj;by_cases h:a.1=b.1
 ·rw[ac5 h,ac5 (by omega)];by_cases h2:a.2=b.2
  ·rw[ac5 (by omega),h2];simp
  ·rw[ac6 (by omega)];by_cases h3:a.2<b.2
   ·rw[ac7 h3,ac7 (by omega)]
   ·rw[ac8 h3,ac8 (by omega)]
 ·rw[ac6 h,ac6 (by omega)];by_cases h3:a.1<b.1
  ·rw[ac7 h3,ac7 (by omega)]
  ·rw[ac8 h3,ac8 (by omega)]
def F7(k:Cell):∀l:List Cell,insI (ic k) (l.map ic)=(Je k l).map ic
 |[]=>rfl
 |x::r=>by
  rw[Wb];unfold insI Je;rw[AI];cases vj k x with
  |true=>rfl
  |false=>rw[ac6 (by decide),ac6 (by decide),Wb,F7 k r]
def mY:∀l:List Cell,sortI (l.map ic)=(jz l).map ic
 |[]=>rfl
 |k::r=>by
  rw[Wb];unfold sortI jz;rw[mY r,F7]
def qJ(h:ic a=ic b):a=b:=by
 unfold ic at h;injection h with h1 h2
 injection h2 with h2 _
 exact aaF (aai h1) (aai h2)
def gm:x∈jz l↔x∈l:=by
 have h:=d5 (x:=ic x) (l:=l.map ic);rw[mY] at h;constructor
 ·intro hx;obtain⟨y,hy,e⟩:=Wc.mp (h.mp (Wc.mpr ⟨x,hx,rfl⟩));rw[<-qJ e];exact hy
 ·intro hx;obtain⟨y,hy,e⟩:=Wc.mp (h.mpr (Wc.mpr ⟨x,hx,rfl⟩));rw[<-qJ e];exact hy
def RiseC(l:List Cell):Prop:=l.Pairwise λa b=>vj a b=true
def p9:xo (l.map ic)↔RiseC l:=by
 unfold xo RiseC;rw[XT];constructor<;>intro h<;>refine XZ ?_ h<;>intro a b q
 ·rw[<-AI];exact q
 ·rw[AI];exact q
def yA{l:List Cell}(h:l.Nodup):(l.map ic).Nodup:=by
 unfold W2 at h⊢;rw[XT];exact XZ (λh z=>h (qJ z)) h
def jo{l:List Cell}(h:l.Nodup):RiseC (jz l):=by
 have:=jq (yA h);rw[mY] at this;exact p9.mp this
def oe(ha:RiseC a)(hb:RiseC b)(h:∀x,x∈a↔x∈b):a=b:=by
 have e:=mT (p9.mpr ha) (p9.mpr hb) λx=>by
  constructor
  ·intro hx;obtain⟨y,hy,rfl⟩:=Wc.mp hx;exact Wc.mpr ⟨y,(h y).mp hy,rfl⟩
  ·intro hx;obtain⟨y,hy,rfl⟩:=Wc.mp hx;exact Wc.mpr ⟨y,(h y).mpr hy,rfl⟩
 have inj:∀(a b:List Cell),a.map ic=b.map ic->a=b:=by
  intro a;induction a with
  |nil=>intro b h;cases b with
   |nil=>rfl
   |cons=>simp at h
  |cons x a ih=>intro b h;cases b with
   |nil=>simp at h
   |cons y b=>
    rw[Wb,Wb] at h;injection h with h1 h2
    rw[qJ h1,ih b h2]
 exact inj a b e
def RiseC.nodup(h:RiseC l):l.Nodup:=by
 refine XZ ?_ h;intro a b q z;subst z;unfold vj at q;rw[ac5 rfl] at q;have:=ac9 q;omega
def iA:∀ks:List Cell,eK (ks.map keyOf)=some (ks.map ic)
 |[]=>rfl
 |k::r=>by
  show (match ub (keyOf k),eK (r.map keyOf) with | some x,some xs=>some (x::xs) | _,_=>none)=_;rw[iA r];rfl
def K9{ks:List Cell}(h:ks.Nodup)(hl:ks.length<64):d_ (ks.map ic)=true:=by
 unfold d_;rw[V5,ac7 (yA h),ac7 hl];simp;intro a b _ z;cases z
def HI(h:ks.Nodup)(hl:ks.length<64):zy [.dct (ks.map keyOf) ds]=ab (cL (jz ks)):=by
 show (match eK (ks.map keyOf) with | some ks=>if d_ ks&&ks.all (λk=>decide (k.length<=lim)) then ab (D.lst ((sortI ks).map tupI)) else ag | none=>ag)=_;rw[iA];show (if d_ (ks.map ic)&&(ks.map ic).all (λk=>decide (k.length<=lim)) then ab (D.lst ((sortI (ks.map ic)).map tupI)) else ag)=_;rw[K9 h hl];have:(ks.map ic).all (λk=>decide (k.length<=lim))=true:=by
  simp;intro a b _;show 2<=lim
  decide
 rw[this,Bool.and_true,ac5 rfl,mY,WA];rfl
def Cn(bd:List Str)(W w:Nat)(a b:Cell):Prop:=∃j,Rb (bH bd W w) a j b
def Cn.refl:Cn bd W w a a:=⟨0,rfl⟩
def AJ(hw:Ways w)(ha:On bd.length W a)(h:b∈bH bd W w a):a∈bH bd W w b:=by
 obtain⟨h1,h2,h3⟩:=(eO hw).mp h;exact(eO hw).mpr ⟨ha,by rw[iF];exact h2,h3.symm⟩
def CT(hw:Ways w)(ha:On bd.length W a):∀{j:Nat},Rb (bH bd W w) a j b->On bd.length W b
 |0,h=>by rw[show b=a from h];exact ha
 |j+1, .inl h=>CT hw ha h
 |j+1, .inr ⟨y,_,hy⟩=>((eO hw).mp hy).1
def r_(h:c∈bH bd W w a):∀{j:Nat},Rb (bH bd W w) c j b->Rb (bH bd W w) a (j+1) b
 |0,q=> .inr ⟨a,rfl,by rw[show b=c from q];exact h⟩
 |j+1, .inl q=> .inl (r_ h q)
 |j+1, .inr ⟨y,q,hy⟩=> .inr ⟨y,r_ h q,hy⟩
def wq(hw:Ways w)(ha:On bd.length W a):∀{j:Nat},Rb (bH bd W w) a j b->Rb (bH bd W w) b j a
 |0,h=>show a=b from(show b=a from h).symm
 |j+1, .inl h=> .inl (wq hw ha h)
 |j+1, .inr ⟨y,q,hy⟩=>r_ (AJ hw (CT hw ha q) hy) (wq hw ha q)
def sd(h:Rb (bH bd W w) a i b):∀{j:Nat},Rb (bH bd W w) b j c->Rb (bH bd W w) a (i+j) c
 |0,q=>by rw[show c=b from q];exact h
 |j+1, .inl q=> .inl (sd h q)
 |j+1, .inr ⟨y,q,hy⟩=> .inr ⟨y,sd h q,hy⟩
def n6(hw:Ways w):∀{j:Nat},Rb (bH bd W w) a j b->lt bd b=lt bd a
 |0,h=>by rw[show b=a from h]
 |j+1, .inl h=>n6 hw h
 |j+1, .inr ⟨y,q,hy⟩=>((eO hw).mp hy).2.2.trans (n6 hw q)
section
variable{bd:List Str}{W w:Nat}{a b c:Cell}
def Cn.on(hw:Ways w)(ha:On bd.length W a)(h:Cn bd W w a b):On bd.length W b:=let ⟨_,q⟩:=h;CT hw ha q
def Cn.symm(hw:Ways w)(ha:On bd.length W a)(h:Cn bd W w a b):Cn bd W w b a:=let ⟨j,q⟩:=h;⟨j,wq hw ha q⟩
def Cn.trans(h:Cn bd W w a b)(h2:Cn bd W w b c):Cn bd W w a c:=let ⟨i,q⟩:=h;let ⟨j,r⟩:=h2;⟨i+j,sd q r⟩
def Cn.letter(hw:Ways w)(h:Cn bd W w a b):lt bd b=lt bd a:=let ⟨_,q⟩:=h;n6 hw q
def Cn.step(h:Cn bd W w a b)(h2:c∈bH bd W w b):Cn bd W w a c:=let ⟨j,q⟩:=h;⟨j+1, .inr ⟨b,q,h2⟩⟩
end
structure IsPatch (bd:List Str) (W w:Nat) (a:Cell) (P:List Cell):Prop where
 rise:RiseC P
 mem:∀x,x∈P↔Cn bd W w a x
def IsPatch.one(h:IsPatch bd W w a P)(h2:IsPatch bd W w a Q):P=Q:=oe h.rise h2.rise λx=>(h.mem x).trans (h2.mem x).symm
def pU{bd:List Str}{ks:List Cell}(hn:ks.Nodup)(eN:∀x∈ks,On bd.length W x):ks.length<=bd.length*W:=by
 rw[<-bA bd.length W];exact bU hn λx hx=>aJ.mpr (eN x hx)
def Rl(w:Nat):List Cell->Bool
 |a::b::r=>eT w a b&&Rl w (b::r)
 |_=>true
abbrev wr(bd w a b k t:D):cK:=[fz bd,fz w,fz a,fz b,fz k,fz t]
def cf(enc:α->D)(g:α->D):∀(xs:List α),(∀x∈xs,f (enc x)=ab (some (g x)))->d6 f (xs.map enc)=ab (xs.map g)
 |[],_=>rfl
 |x::xs,h=>by
  rw[Wb,eI,h x (V_ ..),aw,cf enc g xs λy hy=>h y (V8 _ hy)];rfl
def Sg(h:ρ[i]? =some (fz (.lst ds))):bJ (dV i) ρ=ab ds:=by
 unfold bJ;rw[d9 h];rfl
def b6(ks:List Cell)(c:Cell):List Cell:=if c∈ks then ks else ks++[c]
def bT(l:List Cell):List Cell:=l.foldl b6 []
def a9(ks:List Cell):List D:=ks.map λ_=> .bl true
def eh:x∈b6 ks c↔x∈ks\/x=c:=by
 unfold b6;split
 ·rename_i h;exact⟨.inl,λq=>q.elim id λe=>by rw[e];exact h⟩
 ·simp
def jv:∀(l ks:List Cell),(ks.Nodup->(l.foldl b6 ks).Nodup)/\(∀x,x∈l.foldl b6 ks↔x∈ks\/x∈l)/\(l.foldl b6 ks).length<=ks.length+l.length
 |[],ks=>⟨id,λx=>by simp,by simp⟩
 |c::l,ks=>by
  obtain⟨h1,h2,h3⟩:=jv l (b6 ks c);refine⟨λhn=>h1 ?_,λx=>?_,?_⟩
  ·unfold b6;split
   ·exact hn
   ·rename_i hc;refine XG.mpr ⟨hn,by simp,λy hy z hz e=>?_⟩;have hz:z=c:=by simpa using hz
    rw[e,hz] at hy;exact hc hy
  ·rw[Z9,h2 x,eh];simp[or_assoc]
  ·rw[Z9,Wf];have:(b6 ks c).length<=ks.length+1:=by unfold b6;split<;>simp
   omega
def d3:x∈bT l↔x∈l:=by
 unfold bT;rw[(jv l []).2.1 x];simp
def yx(l:List Cell):(bT l).Nodup:=(jv l []).1 Yj
def D0(l:List Cell):(bT l).length<=l.length:=by have:=(jv l []).2.2;simpa[bT] using this
def uS:∀{ks:List (List Key)}{l:List Cell},ks.length=l.length->n_ ks (a9 l) k (.bl true)=a9 l
 |[],[],_=>rfl
 |k'::ks,c::l,h=>by
  show (if k'=k then D.bl true else D.bl true)::n_ ks (a9 l) k (.bl true)=_;rw[uS (by simpa using h)];split<;>rfl
 |[],_::_,h=>by simp at h
 |_::_,[],h=>by simp at h
def Hj(hl:ks.length<lim):k0 (.dct (ks.map keyOf) (a9 ks)) (cD c) (.bl true)=some (.dct ((b6 ks c).map keyOf) (a9 (b6 ks c))):=by
 have P3:(a9 ks).length=ks.length:=by simp[a9]
 unfold b6;by_cases h:c∈ks
 ·rw[ac5 h];show (match fe (cD c) with | some kk=>if (a9 ks).length<lim then some (C.dct (d8 (ks.map keyOf) (a9 ks) kk) (da (ks.map keyOf) (a9 ks) kk (.bl true))) else none | none=>none)=_;rw[fY];show (if (a9 ks).length<lim then some (C.dct (d8 (ks.map keyOf) (a9 ks) (keyOf c)) (da (ks.map keyOf) (a9 ks) (keyOf c) (.bl true))) else none)=_;rw[ac5 (by rw[P3];exact hl)];obtain⟨d,e,_⟩:=kT P3.symm h;unfold d8 da;rw[e];show some (C.dct (ks.map keyOf) (n_ (ks.map keyOf) (a9 ks) (keyOf c) (.bl true)))=_;rw[uS (by simp)]
 ·rw[ac6 h,r0 h (by rw[P3];exact hl)];simp[a9]
abbrev hX(l:List Cell):D:= .dct ((bT l).map keyOf) (a9 (bT l))
def iC(hl:l.length<4000):eE [cL l]=ab (hX l):=by
 have e:∀(xs ks:List Cell),ks.length+xs.length<4000->forL (putN 2) (cY [2] (g0 1 (dV 2) (dC (.bl true)))) (xs.map cD) [fz (cL l),some (.ow (.dct (ks.map keyOf) (a9 ks))),none]=ab (.nx [fz (cL l),some (.ow (.dct ((xs.foldl b6 ks).map keyOf) (a9 (xs.foldl b6 ks)))),none]):=by
  intro xs;induction xs with
  |nil=>intro ks _;rfl
  |cons x xs ih=>
   intro ks hk;rw[Wf] at hk;have hle:(b6 ks x).length<=ks.length+1:=by unfold b6;split<;>simp
   refine(cU rfl ?_).trans (ih (b6 ks x) (by omega));refine(bh (ρ':=[fz (cL l),some (.ow (.dct ((b6 ks x).map keyOf) (a9 (b6 ks x)))),fz (cD x)]) ?_).trans rfl;show (match k0 (.dct (ks.map keyOf) (a9 ks)) (cD x) (.bl true) with | some c'=>ab (Out.nx [fz (cL l),some (.ow c'),fz (cD x)]) | none=>ag)=_;rw[Hj (by rw[cq];omega)]
 refine aP (ao rfl (ao (dq (eQ rfl (e l [] (by simpa using hl)))) rfl))
def yq:∀{l:List Cell},nT (keyOf x) (l.map keyOf)=decide (x∈l)
 |[]=>rfl
 |y::l=>by
  show (decide (keyOf y=keyOf x)||nT (keyOf x) (l.map keyOf))=_;rw[yq];by_cases h:y=x
  ·subst h;simp
  ·have h2:¬keyOf y=keyOf x:=λz=>h (iB z);rw[ac8 h2,Bool.false_or,ade];constructor
   ·exact λq=>V8 _ q
   ·intro q;rcases Ws.mp q with q | q
    ·exact ac_ q.symm h
    ·exact q
def uh:∀{l:List Cell},mm (l.map cD)=some (l.map keyOf)
 |[]=>rfl
 |y::l=>by
  show (match fe (cD y),mm (l.map cD) with | some k,some ks=>some (k::ks) | _,_=>none)=_;rw[uh];rfl
def Jc:FF neg (cD x) (cL l)=ab (.bl (if neg then !decide (x∈l) else decide (x∈l))):=by
 show (match fe (cD x),mm (l.map cD) with | some k,some ks=>ab (D.bl (if neg then !nT k ks else nT k ks)) | _,_=>ag)=_;rw[uh,fY];show ab (D.bl (if neg then !nT (keyOf x) (l.map keyOf) else nT (keyOf x) (l.map keyOf)))=_;rw[yq]
def nN(l:List Cell):bu [cL l]=ab (.int (l.length:Int)):=by
 show ab (D.int ((l.map cD).length:Int))=_;rw[V5]
def Fl(ks:List Cell)(f:Cell->D):C:= .dct (ks.map keyOf) (ks.map f)
def EO(ks:List Cell)(f:Cell->D):D:= .dct (ks.map keyOf) (ks.map f)
def fN(f:Cell->D)(x:Cell)(d:D):Cell->D:=λy=>if y=x then d else f y
def m7:∀{ks:List Cell},x∈ks->fi (ks.map keyOf) (ks.map f) (keyOf x)=some (f x)
 |y::ks,h=>by
  show (if keyOf y=keyOf x then some (f y) else fi (ks.map keyOf) (ks.map f) (keyOf x))=_;by_cases e:y=x
  ·subst e;rw[ac5 rfl]
  ·rw[ac6 (λz=>e (iB z))];rcases Ws.mp h with q | q
   ·exact ac_ q.symm e
   ·exact m7 q
def AH(h:x∈ks):iZ (EO ks f) (cD x)=ab (f x):=by
 show (match ((fe (cD x)).map λk=>fi (ks.map keyOf) (ks.map f) k) with | some (some v)=>ab v | _=>ag)=_;rw[fY];show (match some (fi (ks.map keyOf) (ks.map f) (keyOf x)) with | some (some v)=>ab v | _=>ag)=_;rw[m7 h]
def IT(h:x∈ks):getM (EO ks f) (cD x) v=ab (f x):=by
 show (match ((fe (cD x)).map λk=>fi (ks.map keyOf) (ks.map f) k) with | some (some x)=>ab x | some none=>ab v | none=>ag)=_;rw[fY];show (match some (fi (ks.map keyOf) (ks.map f) (keyOf x)) with | some (some x)=>ab x | some none=>ab v | none=>ag)=_;rw[m7 h]
def FJ(h:x∉ks):getM (EO ks f) (cD x) v=ab v:=by
 show (match ((fe (cD x)).map λk=>fi (ks.map keyOf) (ks.map f) k) with | some (some x)=>ab x | some none=>ab v | none=>ag)=_;rw[fY];show (match some (fi (ks.map keyOf) (ks.map f) (keyOf x)) with | some (some x)=>ab x | some none=>ab v | none=>ag)=_;rw[gq h]
def wx:∀{ks:List Cell},n_ (ks.map keyOf) (ks.map f) (keyOf x) d=ks.map (fN f x d)
 |[]=>rfl
 |y::ks=>by
  show (if keyOf y=keyOf x then d else f y)::n_ (ks.map keyOf) (ks.map f) (keyOf x) d=_;rw[wx,Wb];congr 1;unfold fN;by_cases e:y=x
  ·subst e;rw[ac5 rfl,ac5 rfl]
  ·rw[ac6 (λz=>e (iB z)),ac6 e]
def J_(hl:ks.length<lim):k0 (Fl ks f) (cD x) d=some (Fl (b6 ks x) (fN f x d)):=by
 show (match fe (cD x) with | some kk=>if (ks.map f).length<lim then some (C.dct (d8 (ks.map keyOf) (ks.map f) kk) (da (ks.map keyOf) (ks.map f) kk d)) else none | none=>none)=_;rw[fY];show (if (ks.map f).length<lim then some (C.dct (d8 (ks.map keyOf) (ks.map f) (keyOf x)) (da (ks.map keyOf) (ks.map f) (keyOf x) d)) else none)=_;rw[ac5 (by rw[V5];exact hl)];unfold Fl b6 d8 da;by_cases h:x∈ks
 ·rw[m7 h,ac5 h];show some (C.dct (ks.map keyOf) (n_ (ks.map keyOf) (ks.map f) (keyOf x) d))=_;rw[wx]
 ·rw[gq h,ac6 h];show some (C.dct (ks.map keyOf++[keyOf x]) (ks.map f++[d]))=_;have e1:ks.map f=ks.map (fN f x d):=WN λy hy=>by
   unfold fN;rw[ac6 (λz:y=x=>h (z▸hy))]
  have e2:(ks++[x]).map (fN f x d)=ks.map (fN f x d)++[d]:=by
   rw[Xk];congr 1;show [fN f x d x]=[d]
   unfold fN;rw[ac5 rfl]
  rw[Xk,e1,e2];rfl
def wm(h0:ρ[i]? =some (some (.ow (Fl ks f))))(hv:δv ρ=ab d)(hk:δk ρ=ab (cD x))(hl:ks.length<lim):
 g0 i δk δv ρ=ab (.nx (ρ.set i (some (.ow (Fl (b6 ks x) (fN f x d)))))):=by
 unfold g0 yS;rw[h0];show (δv ρ>>=λv=>δk ρ>>=λk=>match k0 (Fl ks f) k v with | some c'=>ab (Out.nx (ρ.set i (some (.ow c')))) | none=>ag)=_;rw[hv,aw,hk,aw,J_ hl]
def vq(enc:α->D)(I:σ->cK->Prop)(step:σ->α->σ):∀(xs:List α) (s:σ) (ρ:cK),I s ρ->(∀s ρ,I s ρ->∀x∈xs,∃ρ1 ρ2,put (enc x) ρ=some ρ1/\body ρ1=ab (.nx ρ2)/\I (step s x) ρ2)->
 ∃ρ',forL put body (xs.map enc) ρ=ab (.nx ρ')/\I (xs.foldl step s) ρ'
 |[],s,ρ,h,_=>⟨ρ,rfl,h⟩
 |x::xs,s,ρ,h,st=>by
  obtain⟨ρ1,ρ2,e1,e2,h2⟩:=st s ρ h x (V_ ..);obtain⟨ρ',e3,h3⟩:=vq enc I step xs (step s x) ρ2 h2 λs ρ h y hy=>st s ρ h y (V8 _ hy);exact⟨ρ',by rw[Wb,cU e1 e2,e3],h3⟩
def Hm(h0:ρ[i]? =some (some (.ow c)))(hv:δv ρ=ab d)(hk:δk ρ=ab k)(hp:k0 c k d=some c'):g0 i δk δv ρ=ab (.nx (ρ.set i (some (.ow c')))):=by
 unfold g0 yS;rw[h0];show (δv ρ>>=λv=>δk ρ>>=λk=>match k0 c k v with | some c'=>ab (Out.nx (ρ.set i (some (.ow c')))) | none=>ag)=_;rw[hv,aw,hk,aw,hp]
def Jk{ks:List Cell}{vs:List Int}(hl:ks.length=vs.length)(h:c∈ks):∃i:Int,iZ (.dct (ks.map keyOf) (vs.map D.int)) (cD c)=ab (.int i):=by
 obtain⟨d,e1,e2⟩:=kT (ds:=vs.map D.int) (by rw[V5];exact hl) h;obtain⟨i,_,rfl⟩:=Wc.mp (Z6 e2).2;refine⟨i,?_⟩;show (match (fe (cD c)).map (fi (ks.map keyOf) (vs.map D.int)) with | some (some v)=>ab v | _=>ag)=_;rw[fY];show (match some (fi (ks.map keyOf) (vs.map D.int) (keyOf c)) with | some (some v)=>ab v | _=>ag)=_;rw[e1]
structure Sok (S:List Cell) (s:Bk Cell):Prop where
 len:s.ks.length=s.ps.length
 nd:s.ks.Nodup
 on:∀x∈s.ks,x∈S
 fu:s.fu.length<=s.ks.length
def Sok.step(h:Sok S s)(hx:x∈S):Sok S (cZ c s x):=by
 unfold cZ;split
 ·exact h
 ·rename_i hn;refine⟨by simp[h.len],?_,λy hy=>?_,by simp;exact h.fu⟩
  ·refine XG.mpr ⟨h.nd,by simp,λy hy z hz e=>?_⟩;have hz:z=x:=by simpa using hz
   rw[e,hz] at hy;exact hn hy
  ·rcases WZ.mp hy with q | q
   ·exact h.on y q
   ·have:y=x:=by simpa using q
    rw[this];exact hx
abbrev dR(nr a:D)(ks:List Cell)(vs:List Int)(x3 x4 x5 x6:Option Sl):cK:=[fz nr,fz a,some (.ow (.dct (ks.map keyOf) (vs.map D.int))),x3,x4,x5,x6]
def IL(pI:S.length<=64)(h:Sok S s)(hc:c∈s.ks)(hv:s.ks.length=vs.length):
 ∃iQ,(cZ c s x).ks.length=iQ.length/\Om (dR nr a s.ks vs r (some (.ow (.lst (s.fu.map cD)))) (fz (cD c)) (fz (cD x)))=ab (.nx (dR nr a (cZ c s x).ks iQ r (some (.ow (.lst ((cZ c s x).fu.map cD)))) (fz (cD c)) none)):=by
 have hle:s.ks.length<=S.length:=bU h.nd h.on;have ht:Iv (dN (d2 (g_ true) (dV 6) (dV 2))) (dR nr a s.ks vs r (some (.ow (.lst (s.fu.map cD)))) (fz (cD c)) (fz (cD x)))=ab (!decide (x∈s.ks)):=
  C4 (eg ((aH rfl rfl).trans (i6 (by rw[V5];exact hv))))
 by_cases hx:x∈s.ks
 ·rw[ac7 hx] at ht;have e:cZ c s x=s:=ac5 hx;rw[e];exact⟨vs,hv,(bh (dE ht rfl)).trans rfl⟩
 ·rw[ac8 hx] at ht;have e:cZ c s x=⟨s.ks++[x],s.ps++[some c],s.fu++[x]⟩:=ac6 hx;rw[e];obtain⟨i,hi⟩:=Jk hv hc;have hp:k0 (.dct (s.ks.map keyOf) (vs.map D.int)) (cD x) (.int (i+1))=some (.dct ((s.ks++[x]).map keyOf) ((vs++[i+1]).map D.int)):=by
   rw[r0 hx (by rw[V5,<-hv,cq];omega),Xk (f:=D.int)];rfl
  refine⟨vs++[i+1],by simp[hv],(bh (ρ':=dR nr a (s.ks++[x]) (vs++[i+1]) r (some (.ow (.lst ((s.fu++[x]).map cD)))) (fz (cD c)) (fz (cD x))) (fM ht (ao ((Hm rfl (KN ((aH ((aH rfl rfl).trans hi) rfl).trans rfl) rfl) rfl hp).trans rfl) ?_))).trans rfl⟩;show (if (s.fu.map cD).length<lim then ab (Out.nx (dR nr a (s.ks++[x]) (vs++[i+1]) r (some (.ow (.lst (s.fu.map cD++[cD x])))) (fz (cD c)) (fz (cD x)))) else ag)=_;have:=h.fu;rw[ac5 (by rw[V5,cq];omega),show s.fu.map cD++[cD x]=(s.fu++[x]).map cD by simp]
def ej(S:List Cell)(nb:Cell->List Cell):D:=EO S λy=>cL (nb y)
section
variable{S:List Cell}{nb:Cell->List Cell}
def Df{s:Bk Cell}(h:y∈s.ks):y∈(cZ c s x).ks:=(tN s).mpr (.inl h)
def De(h:y∈s.ks):y∈(gN nb s c).ks:=((foldStep (P:=λ_ _=>True) (nb c) s λ_ _=>trivial).2 y).mpr (.inl h)
def IJ(pI:S.length<=64)(hS:∀y∈S,∀x∈nb y,x∈S)(h:Sok S s)(hc:c∈s.ks)(hv:s.ks.length=vs.length):
 Sok S (gN nb s c)/\∃iQ,(gN nb s c).ks.length=iQ.length/\Ol (dR (ej S nb) a s.ks vs r (some (.ow (.lst (s.fu.map cD)))) (fz (cD c)) none)=ab (.nx (dR (ej S nb) a (gN nb s c).ks iQ r (some (.ow (.lst ((gN nb s c).fu.map cD)))) none none)):=by
 have TF:=h.on c hc;obtain⟨ρ',e,h1,h2,iQ,h3,rfl⟩:=vq (put:=putN 6) cD (λ(s:Bk Cell) ρ=>Sok S s/\c∈s.ks/\∃vs:List Int,s.ks.length=vs.length/\ρ=dR (ej S nb) a s.ks vs r (some (.ow (.lst (s.fu.map cD)))) (fz (cD c)) none) (cZ c) (nb c) s _ ⟨h,hc,vs,hv,rfl⟩ λs ρ ⟨h,hc,vs,hv,e⟩ x hx=>by
  subst e;obtain⟨iQ,h1,h2⟩:=IL pI h hc hv;exact⟨_,_,rfl,h2,h.step (hS c TF x hx),Df hc,iQ,h1,rfl⟩
 refine⟨h1,iQ,h3,(bh (eQ ?_ e)).trans rfl⟩;have e0:d2 iZ (dV 0) (dV 5) (dR (ej S nb) a s.ks vs r (some (.ow (.lst (s.fu.map cD)))) (fz (cD c)) none)=ab (cL (nb c)):=(aH rfl rfl).trans (AH TF);show orM (bJ (d2 iZ (dV 0) (dV 5)) _) _=_;rw[show bJ (d2 iZ (dV 0) (dV 5)) (dR (ej S nb) a s.ks vs r (some (.ow (.lst (s.fu.map cD)))) (fz (cD c)) none)=ab ((nb c).map cD) by
  show (d2 iZ (dV 0) (dV 5) _>>=lstM)=_;rw[e0];rfl]
 rfl
def IK(pI:S.length<=64)(hS:∀y∈S,∀x∈nb y,x∈S)(hr:∀c∈u8,c∈s.ks)(h:Sok S s)(hf:s.fu=[])(hv:s.ks.length=vs.length):
 Sok S (b7 nb s u8)/\∃iQ,(b7 nb s u8).ks.length=iQ.length/\LG (dR (ej S nb) a s.ks vs (fz (.lst (u8.map cD))) none none none)=ab (.nx (dR (ej S nb) a (b7 nb s u8).ks iQ (fz (.lst ((b7 nb s u8).fu.map cD))) none none none)):=by
 obtain⟨ρ',e,h1,h2,iQ,h3,rfl⟩:=vq (put:=putN 5) cD (λ(s:Bk Cell) ρ=>Sok S s/\(∀c∈u8,c∈s.ks)/\∃vs:List Int,s.ks.length=vs.length/\ρ=dR (ej S nb) a s.ks vs (fz (.lst (u8.map cD))) (some (.ow (.lst (s.fu.map cD)))) none none) (gN nb) u8 s _ ⟨h,hr,vs,hv,rfl⟩ λs ρ ⟨h,hr,vs,hv,e⟩ c hc=>by
  subst e;obtain⟨g1,iQ,g2,g3⟩:=IJ pI hS h (hr c hc) hv;exact⟨_,_,rfl,g3,g1,λc' Ih=>De (hr c' Ih),iQ,g2,rfl⟩
 rw[hf] at e;refine⟨h1,iQ,h3,(bh (ρ':=dR (ej S nb) a (b7 nb s u8).ks iQ (fz (.lst ((b7 nb s u8).fu.map cD))) (fz (.lst ((b7 nb s u8).fu.map cD))) none none) ?_).trans rfl⟩;refine ao rfl (ao (ρ':=dR (ej S nb) a (b7 nb s u8).ks iQ (fz (.lst (u8.map cD))) (some (.ow (.lst ((b7 nb s u8).fu.map cD)))) none none) ?_ rfl);exact eQ rfl e
def xN(pI:S.length<=64)(hS:∀y∈S,∀x∈nb y,x∈S)(ha:a∈S):∀(fuel k:Nat) (ks:List Cell) (ps:List (Option Cell)) (u8:List Cell) (vs:List Int),S.length+2<=fuel+k->Rng nb a k ks ps u8->(∀x∈ks,x∈S)->ks.length=vs.length->
 ∃k' ks' Lh iQ,Rng nb a k' ks' Lh []/\(∀x∈ks',x∈S)/\ks'.length=iQ.length/\fB (cg (dV 3)) LG fuel (dR (ej S nb) (cD a) ks vs (fz (.lst (u8.map cD))) none none none)=ab (.nx (dR (ej S nb) (cD a) ks' iQ (fz (.lst [])) none none none))
 |0,k,ks,ps,u8,vs,hf,hR,eN,hv=>by
  have h1:ks.length<=S.length:=bU hR.nd eN;have:=hR.sz.1;omega
 |fuel+1,k,ks,ps,[],vs,hf,hR,eN,hv=>⟨k,ks,ps,vs,hR,eN,hv,zK rfl⟩
 |fuel+1,k,ks,ps,c::u8,vs,hf,hR,eN,hv=>by
  have hN:=hR.next (by simp);have O8:∀x∈c::u8,x∈ks:=λx hx=>(hR.mem x).mpr ((hR.rg x).mp hx).1;obtain⟨hb,VR,Vv,e⟩:=IK pI hS (s:=⟨ks,ps,[]⟩) O8 ⟨hR.len,hR.nd,eN,WQ _⟩ rfl hv;obtain⟨k',ks',Lh,iQ,q1,q2,q3,q4⟩:=xN pI hS ha fuel (k+1) _ _ _ VR (by omega) hN hb.on Vv;exact⟨k',ks',Lh,iQ,q1,q2,q3,zL rfl e q4⟩
def sQ(pI:S.length<=64)(hS:∀y∈S,∀x∈nb y,x∈S)(ha:a∈S):
 ∃(ks:List Cell) (vs:List Int),ks.Nodup/\(∀x∈ks,x∈S)/\(∀x,x∈ks↔∃j,Rb nb a j x)/\ks.length=vs.length/\gR [ej S nb,cD a]=ab (.dct (ks.map keyOf) (vs.map D.int)):=by
 obtain⟨k,ks,ps,vs,h1,h2,h3,h4⟩:=xN pI hS ha lim 0 [a] [none] [a] [0] (by rw[cq];omega) (Rng.zero _ _) (λx hx=>(show x=a by simpa using hx)▸ha) rfl;refine⟨ks,vs,h1.nd,h2,h1.last,h3,aP (ao rfl (ao rfl (ao (dq h4) rfl)))⟩
end
def rank(W:Nat)(x:Cell):Nat:=x.1*W+x.2
def eV(ha:On R W a)(hb:On R W b):vj a b=true↔rank W a<rank W b:=by
 unfold vj rank;have h1:=ha.2;have h2:=hb.2;by_cases h:a.1=b.1
 ·rw[ac5 h,ac4,h];omega
 ·rw[ac6 h,ac4];constructor
  ·intro q;have:(a.1+1)*W<=b.1*W:=acv _ q;rw[abw,Nat.one_mul] at this;omega
  ·intro q;refine Classical.byContradiction λz=>?_;have:(b.1+1)*W<=a.1*W:=acv _ (by omega);rw[abw,Nat.one_mul] at this;omega
def r9(ha:On R W a)(hb:On R W b)(h:rank W a=rank W b):a=b:=by
 have n1:¬vj a b=true:=λz=>by have:=(eV ha hb).mp z;omega
 have n2:¬vj b a=true:=λz=>by have:=(eV hb ha).mp z;omega
 unfold vj at n1 n2;obtain⟨a1,a2⟩:=a;obtain⟨b1,b2⟩:=b;simp only at n1 n2;by_cases h1:a1=b1
 ·rw[ac5 h1,ac4] at n1;rw[ac5 h1.symm,ac4] at n2;rw[Prod.mk.injEq];exact⟨h1,by omega⟩
 ·rw[ac6 h1,ac4] at n1;rw[ac6 (Xp h1),ac4] at n2;omega
section
variable{W:Nat}
def mu(R W:Nat)(L:Cell->Cell):Nat:=((aY R W).map λx=>rank W (L x)).sum
end
def Mh(h:δ ρ=ab (cL l)):bJ δ ρ=ab (l.map cD):=by
 show (δ ρ>>=lstM)=_;rw[h];rfl
def cz(R W:Nat):RiseC (aY R W):=by
 unfold RiseC aY gF;rw[Z5];constructor
 ·intro r _;rw[XT];exact List.pairwise_lt_range.imp λh=>by show (if _ then _ else _)=true;rw[ac5 rfl,ac4];exact h
 ·refine List.pairwise_lt_range.imp λ{a b} h x hx y hy=>?_;obtain⟨i,_,rfl⟩:=Wc.mp hx;obtain⟨j,_,rfl⟩:=Wc.mp hy;show (if a=b then _ else decide (a<b))=true;rw[ac6 (by omega),ac4];exact h
section
variable{bd:List Str}{W w:Nat}
def qT(f:α->List β)(h:∀a,(f a).length<=n):∀l:List α,(l.flatMap f).length<=n*l.length
 |[]=>WQ _
 |a::l=>by
  rw[XW,Wq,Wf,Nat.mul_add,Nat.mul_one];have:=h a;have:=qT f h l;omega
def Least(bd:List Str)(W w:Nat)(x m:Cell):Prop:=Cn bd W w x m/\∀z,Cn bd W w x z->rank W m<=rank W z
end
def OH:((aY 8 8).map λc=>gT (ic c)).Nodup:=by decide+kernel
def uz:∀{l:List α},(l.map f).Nodup->∀a∈l,∀b∈l,f a=f b->a=b
 |x::l,h,a,ha,b,hb,e=>by
  rw[Wb,Xe] at h;by_cases h1:a=x
  ·by_cases h2:b=x
   ·rw[h1,h2]
   ·have hb:b∈l:=(Ws.mp hb).resolve_left h2;exact ac_ (Wc.mpr ⟨b,hb,by rw[<-h1];exact e.symm⟩) h.1
  ·have ha:a∈l:=(Ws.mp ha).resolve_left h1;by_cases h2:b=x
   ·exact ac_ (Wc.mpr ⟨a,ha,by rw[<-h2];exact e⟩) h.1
   ·exact uz h.2 a ha b ((Ws.mp hb).resolve_left h2) e
def B9(hR:R<=8)(hW:W<=8){l:List Cell}(hn:l.Nodup)(eN:∀x∈l,On R W x):(l.map λc=>gT (ic c)).Nodup:=by
 have h8:∀x∈l,x∈aY 8 8:=λx hx=>aJ.mpr ⟨by have:=(eN x hx).1;omega,by have:=(eN x hx).2;omega⟩;rw[W2,XT];refine List.Pairwise.imp_of_mem (λ{a b} ha hb h z=>h ?_) hn;exact uz OH a (h8 a ha) b (h8 b hb) z
def yh:∀l:List Cell,fo (l.map cD)=some (l.map ic)
 |[]=>rfl
 |c::l=>by
  show (match F8 (cD c),fo (l.map cD) with | some k,some ks=>some (k::ks) | _,_=>none)=_;rw[yh l];rfl
def Kk(h:l.Nodup)(hl:l.length<64):HJ [cL l]=ab (cL (jz l)):=by
 show (match fo (l.map cD) with | some ks=>if d_ ks then ab (D.lst ((sortI ks).map tupI)) else ag | none=>ag)=_;rw[yh];refine(ac5 (K9 h hl)).trans ?_;rw[mY,WA];rfl
def Nh{ks:List Cell}{f:Cell->D}{x:Cell}{d:D}:d8 (ks.map keyOf) (ks.map f) (keyOf x)=(b6 ks x).map keyOf/\da (ks.map keyOf) (ks.map f) (keyOf x) d=(b6 ks x).map (fN f x d):=by
 unfold b6 d8 da;by_cases h:x∈ks
 ·rw[m7 h,ac5 h];exact⟨rfl,wx⟩
 ·rw[gq h,ac6 h];have e1:ks.map f=ks.map (fN f x d):=WN λy hy=>by
   unfold fN;rw[ac6 (λz:y=x=>h (z▸hy))]
  have e2:(ks++[x]).map (fN f x d)=ks.map (fN f x d)++[d]:=by
   rw[Xk];congr 1;show [fN f x d x]=[d]
   unfold fN;rw[ac5 rfl]
  exact⟨by rw[Xk];rfl,by rw[e2,<-e1];rfl⟩
def q_:∀(l ks:List Cell),dm (ks.map keyOf) (a9 ks) (l.map keyOf) (a9 l)=((l.foldl b6 ks).map keyOf,a9 (l.foldl b6 ks))
 |[],ks=>rfl
 |x::l,ks=>by
  show dm (d8 (ks.map keyOf) (a9 ks) (keyOf x)) (da (ks.map keyOf) (a9 ks) (keyOf x) (.bl true)) (l.map keyOf) (a9 l)=_;have h:=Nh (ks:=ks) (f:=λ_=>D.bl true) (x:=x) (d:= .bl true);have e:fN (λ_=>D.bl true) x (.bl true)=λ_=>D.bl true:=by
   funext y;unfold fN;split<;>rfl
  rw[e] at h;rw[show a9 ks=ks.map (λ_=>D.bl true) from rfl,h.1,h.2];exact q_ l (b6 ks x)
def xY{l ks:List Cell}(h:ks.Nodup):(l.foldl b6 ks).Nodup:=(jv l ks).1 h
section
open Classical
variable{bd:List Str}{W w:Nat}
noncomputable def aG(bd:List Str)(W w:Nat)(m:Cell):List Cell:=(aY bd.length W).filter λx=>decide (Cn bd W w m x)
noncomputable def cB(bd:List Str)(W w:Nat)(l:List Cell):List Cell:=l.filter λx=>decide (Least bd W w x x)
def aX(hw:Ways w){m:Cell}(hm:On bd.length W m):IsPatch bd W w m (aG bd W w m):=by
 refine⟨(cz _ _).filter _,λx=>?_⟩;unfold aG;rw[Wu,aJ,ac4];exact⟨λh=>h.2,λh=>⟨h.on hw hm,h⟩⟩
def Least.on(hw:Ways w){x m:Cell}(hx:On bd.length W x)(h:Least bd W w x m):On bd.length W m:=h.1.on hw hx
def Least.move(hw:Ways w){x y m:Cell}(hx:On bd.length W x)(h:Least bd W w x m)(hy:Cn bd W w x y):Least bd W w y m:=
 ⟨(hy.symm hw hx).trans h.1,λz hz=>h.2 z (hy.trans hz)⟩
def Least.one(hw:Ways w){x m n:Cell}(hx:On bd.length W x)(h:Least bd W w x m)(h2:Least bd W w x n):m=n:=
 r9 (h.on hw hx) (h2.on hw hx) (Y8 (h.2 n h2.1) (h2.2 m h.1))
def Least.self(hw:Ways w){x m:Cell}(hx:On bd.length W x)(h:Least bd W w x m):Least bd W w m m:=h.move hw hx h.1
variable(L:Cell->Cell)
def uk(hw:Ways w):∃L:Cell->Cell,∀x,On bd.length W x->Least bd W w x (L x):=by
 have h:∀x,∃m,On bd.length W x->Least bd W w x m:=λx=>by
  by_cases hx:On bd.length W x
  ·have hP:=aX hw hx;cases hp:aG bd W w x with
   |nil=>have:=(hP.mem x).mpr Cn.refl;rw[hp] at this;cases this
   |cons m r=>
    rw[hp] at hP;have hm:=(hP.mem m).mp (V_ ..);refine⟨m,λ_=>⟨hm,λz hz=>?_⟩⟩;rcases Ws.mp ((hP.mem z).mpr hz) with rfl | QV
    ·exact Wg _
    ·exact X8 ((eV (hm.on hw hx) (hz.on hw hx)).mp ((W7.mp hP.rise).1 z QV))
  ·exact⟨x,λz=>ac_ z hx⟩
 exact⟨λx=>aaz (h x),λx=>ZN (h x)⟩
noncomputable def rR(bd:List Str)(W w:Nat):D:= .lst ((cB bd W w (aY bd.length W)).map λm=>cL (aG bd W w m))
end
section
open Classical
variable{bd:List Str}{W w:Nat}
noncomputable def Dd(bd:List Str)(W w:Nat)(s:List Cell):List D:=(cB bd W w s).map λm=>cL (aG bd W w m)
noncomputable def Lq(bd:List Str)(W w:Nat)(s ks:List Cell)(x4 x5:Option Sl):cK:=[fz (brd bd),fz (iW w),some (.ow (.lst (Dd bd W w s))),some (.ow (.dct (ks.map keyOf) (a9 ks))),x4,x5]
structure Seen (bd:List Str) (W w:Nat) (s ks:List Cell):Prop where
 nd:ks.Nodup
 on:∀y∈ks,On bd.length W y
 mem:∀y,y∈ks↔∃m∈cB bd W w s,Cn bd W w m y
def zI(h0:ρ[i]? =some (some (.ow (.dct (ks.map keyOf) (a9 ks)))))(hd:δ ρ=ab (hX l))(hz:ks.length+l.length<=4096)(hh:ks=[]->((bT l).map λc=>gT (ic c)).Nodup):
 Er i δ ρ=ab (.nx (ρ.set i (some (.ow (.dct (((bT l).foldl b6 ks).map keyOf) (a9 ((bT l).foldl b6 ks))))))):=by
 unfold Er yS;rw[h0];show (δ ρ>>=λd=>match H_ (ks.map keyOf) (a9 ks) d with | some c'=>ab (Out.nx (ρ.set i (some (.ow c')))) | none=>ag)=_;rw[hd,aw];have:H_ (ks.map keyOf) (a9 ks) (hX l)=some (.dct (((bT l).foldl b6 ks).map keyOf) (a9 ((bT l).foldl b6 ks))):=by
  show (match eK ((bT l).map keyOf) with | some ns=>if (a9 ks).length+(a9 (bT l)).length<=lim/\((ks.map keyOf).isEmpty=true->(ns.map gT).Nodup) then some (C.dct (dm (ks.map keyOf) (a9 ks) ((bT l).map keyOf) (a9 (bT l))).1 (dm (ks.map keyOf) (a9 ks) ((bT l).map keyOf) (a9 (bT l))).2) else none | none=>none)=_;rw[iA];show (if (a9 ks).length+(a9 (bT l)).length<=lim/\((ks.map keyOf).isEmpty=true->(((bT l).map ic).map gT).Nodup) then some (C.dct (dm (ks.map keyOf) (a9 ks) ((bT l).map keyOf) (a9 (bT l))).1 (dm (ks.map keyOf) (a9 ks) ((bT l).map keyOf) (a9 (bT l))).2) else none)=_;have c1:(a9 ks).length+(a9 (bT l)).length<=lim:=by
   have:=D0 l;unfold a9;rw[V5,V5,cq];omega
  have c2:(ks.map keyOf).isEmpty=true->(((bT l).map ic).map gT).Nodup:=λz=>by
   rw[WA];exact hh (by cases ks with | nil=>rfl | cons _ _=>cases z)
  rw[ac5 ⟨c1,c2⟩,q_]
 rw[this]
def zw(hg:Brd bd W)(hs:bd.length*W<64)(hw:Ways w)(hx:On bd.length W x)(h0:dV 0 ρ=ab (brd bd))(h1:dV 1 ρ=ab (iW w))(h4:dV 4 ρ=ab (cD x)):
 dA zy (aC (ar 3 dZ (aC (dV 0) (aC (dV 4) (aC (dV 1) aN)))) aN) ρ=ab (cL (aG bd W w x)):=by
 obtain⟨k,ks,ps,q1,q2,q3⟩:=sr hg hw hx;have e1:ar 3 dZ (aC (dV 0) (aC (dV 4) (aC (dV 1) aN))) ρ=ab (KG ks ps):=(ak (aE h0 (aE h4 (aE h1 rfl))) rfl).trans q3;refine(a7 (aE e1 rfl)).trans ((HI q1.nd (ZA (pU q1.nd q2) hs)).trans ?_);have:jz ks=aG bd W w x:=IsPatch.one ⟨jo q1.nd,λx=>gm.trans (q1.last x)⟩ (aX hw hx);rw[this]
def i_(s:List Cell)(x:Cell):cB bd W w (s++[x])=if Least bd W w x x then cB bd W w s++[x] else cB bd W w s:=by
 unfold cB;rw[acN];by_cases h:Least bd W w x x
 ·rw[ac5 h,abW (by rw[ac4];exact h),Z_]
 ·rw[ac6 h,abX (by rw[ac4];exact h),Z_,XY]
def Iz(hg:Brd bd W)(hs:bd.length*W<64)(hw:Ways w){L:Cell->Cell}(hL:∀x,On bd.length W x->Least bd W w x (L x))(e:s++x::r=aY bd.length W)(h:Seen bd W w s ks):
 ∃ks',Seen bd W w (s++[x]) ks'/\Rm (Lq bd W w s ks (fz (cD x)) none)=ab (.nx (Lq bd W w (s++[x]) ks' none none)):=by
 have hx:On bd.length W x:=aJ.mp (by rw[<-e];simp);have qI:=cz bd.length W;rw[<-e] at qI;have Iq:∀y∈s,On bd.length W y:=λy hy=>aJ.mp (by rw[<-e];simp[hy]);have O8:∀y∈r,On bd.length W y:=λy hy=>aJ.mp (by rw[<-e];simp[hy]);have vz:∀y∈s,rank W y<rank W x:=λy hy=>(eV (Iq y hy) hx).mp ((Zn.mp qI).2.2 y hy x (V_ ..));have As:∀y∈r,rank W x<rank W y:=λy hy=>(eV hx (O8 y hy)).mp ((W7.mp (Zn.mp qI).2.1).1 y hy);have OR:ks.length<=64:=by have:=pU h.nd h.on;omega
 have nq:s.length<64:=by
  have:=ada List.length e;rw[bA,Wq,Wf] at this;omega
 have ht:Iv (dN (d2 (g_ true) (dV 4) (dV 3))) (Lq bd W w s ks (fz (cD x)) none)=ab (!decide (x∈ks)):=
  C4 (eg ((aH rfl rfl).trans (i6 (by simp[a9]))))
 by_cases hl:Least bd W w x x
 ·have R7:x∉ks:=λz=>by
   obtain⟨m,hm,hc⟩:=(h.mem x).mp z;unfold cB at hm;rw[Wu,ac4] at hm;have h1:=vz m hm.1;have h2:=hl.2 m (hc.symm hw (Iq m hm.1));omega
  rw[ac8 R7] at ht;have hP:=aX hw hx;have LS:∀y∈aG bd W w x,On bd.length W y:=λy hy=>((hP.mem y).mp hy).on hw hx;have B8:(aG bd W w x).length<=64:=by have:=pU hP.rise.nodup LS;omega
  have NR:(Dd bd W w s).length<lim:=by
   unfold Dd;rw[V5,cq];have:=Xh (λx=>decide (Least bd W w x x)) s;unfold cB;omega
  refine⟨(bT (aG bd W w x)).foldl b6 ks,⟨xY h.nd,λy hy=>?_,λy=>?_⟩,?_⟩
  ·rcases((jv (bT (aG bd W w x)) ks).2.1 y).mp hy with q | q
   ·exact h.on y q
   ·exact LS y (d3.mp q)
  ·rw[(jv (bT (aG bd W w x)) ks).2.1 y,d3,h.mem y,i_,ac5 hl,hP.mem y];constructor
   ·rintro(⟨m,hm,hc⟩ | hc)
    ·exact⟨m,WZ.mpr (.inl hm),hc⟩
    ·exact⟨x,by simp,hc⟩
   ·rintro⟨m,hm,hc⟩;rcases WZ.mp hm with hm | hm
    ·exact .inl ⟨m,hm,hc⟩
    ·rw[X1.mp hm] at hc;exact .inr hc
  ·have ef:Dd bd W w (s++[x])=Dd bd W w s++[cL (aG bd W w x)]:=by
    unfold Dd;rw[i_,ac5 hl,Xk];rfl
   refine(bh (ρ':=[fz (brd bd),fz (iW w),some (.ow (.lst (Dd bd W w s++[cL (aG bd W w x)]))),some (.ow (.dct (((bT (aG bd W w x)).foldl b6 ks).map keyOf) (a9 ((bT (aG bd W w x)).foldl b6 ks)))),fz (cD x),fz (cL (aG bd W w x))]) (fM ht (ao ((aI (zw hg hs hw hx rfl rfl rfl)).trans rfl) (ao (ρ':=[fz (brd bd),fz (iW w),some (.ow (.lst (Dd bd W w s++[cL (aG bd W w x)]))),some (.ow (.dct (ks.map keyOf) (a9 ks))),fz (cD x),fz (cL (aG bd W w x))]) ?_ ?_)))).trans ?_
   ·show (if (Dd bd W w s).length<lim then ab (Out.nx [fz (brd bd),fz (iW w),some (.ow (.lst (Dd bd W w s++[cL (aG bd W w x)]))),some (.ow (.dct (ks.map keyOf) (a9 ks))),fz (cD x),fz (cL (aG bd W w x))]) else ag)=_;rw[ac5 NR]
   ·exact(zI rfl ((ak rfl rfl).trans (iC (by omega))) (by omega) (λ_=>B9 hg.r8 hg.w8 (yx _) λy hy=>LS y (d3.mp hy))).trans rfl
   ·unfold Lq;rw[ef];rfl
 ·have hm:=hL x hx;have jI:L x≠x:=λz=>hl (by rw[z] at hm;exact hm);have fJ:rank W (L x)<rank W x:=by
   have h1:=hm.2 x Cn.refl;have h2:rank W (L x)≠rank W x:=λz=>jI (r9 (hm.on hw hx) hx z);omega
  have Vf:L x∈s:=by
   have:L x∈s++x::r:=by rw[e];exact aJ.mpr (hm.on hw hx)
   rcases WZ.mp this with q | q
   ·exact q
   ·rcases Ws.mp q with q | q
    ·exact ac_ q jI
    ·have:=As _ q;omega
  have R7:x∈ks:=(h.mem x).mpr ⟨L x,by unfold cB;rw[Wu,ac4];exact⟨Vf,hm.self hw hx⟩,hm.1.symm hw hx⟩;rw[ac7 R7] at ht;refine⟨ks,⟨h.nd,h.on,λy=>by rw[i_,ac6 hl];exact h.mem y⟩,?_⟩;have ef:Dd bd W w (s++[x])=Dd bd W w s:=by
   unfold Dd;rw[i_,ac6 hl]
  refine(bh (dE ht rfl)).trans ?_;unfold Lq;rw[ef];rfl
def BN(hg:Brd bd W)(hs:bd.length*W<64)(hw:Ways w){L:Cell->Cell}(hL:∀x,On bd.length W x->Least bd W w x (L x)):∀(r s ks:List Cell),s++r=aY bd.length W->Seen bd W w s ks->
 ∃ks',forL (putN 4) Rm (r.map cD) (Lq bd W w s ks none none)=ab (.nx (Lq bd W w (aY bd.length W) ks' none none))
 |[],s,ks,e,h=>by
  rw[XY] at e;exact⟨ks,by rw[e];rfl⟩
 |x::r,s,ks,e,h=>by
  obtain⟨Si,h1,e1⟩:=Iz hg hs hw hL e h;obtain⟨Sj,e2⟩:=BN hg hs hw hL r (s++[x]) Si (by rw[YK];exact e) h1;exact⟨Sj,(cU rfl e1).trans e2⟩
def cx(hg:Brd bd W)(hs:bd.length*W<64)(hw:Ways w):aO [brd bd,iW w]=ab (rR bd W w):=by
 obtain⟨L,hL⟩:=uk hw;obtain⟨ks,e⟩:=BN hg hs hw hL (aY bd.length W) [] [] rfl ⟨Yj,(λy hy=>(by cases hy)),(λy=>⟨λz=>(by cases z),λ⟨m,hm,_⟩=>(by cases hm)⟩)⟩;refine aP (ao rfl (ao rfl (ao (dq (eQ (Mh ((ak rfl rfl).trans (g8 hg))) e)) rfl)))
end
end K1
namespace K1
open PySem PySem.Spec L2 L3
open PyProof.Rows hiding St
section
variable{nb:Cell->List Cell}
def qx(h:c∈nb a):∀{j:Nat},Rb nb c j b->Rb nb a (j+1) b
 |0,q=> .inr ⟨a,rfl,(show b=c from q)▸h⟩
 |j+1,q=>q.elim (λq=> .inl (qx h q)) λ⟨y,q1,q2⟩=> .inr ⟨y,qx h q1,q2⟩
def qz(h:Rb nb a i b):∀{j:Nat},Rb nb b j c->Rb nb a (i+j) c
 |0,q=>(show c=b from q)▸h
 |j+1,q=>q.elim (λq=> .inl (qz h q)) λ⟨y,q1,q2⟩=> .inr ⟨y,qz h q1,q2⟩
def B5{P:Cell->Prop}(hP:∀y,P y->∀x∈nb y,P x)(ha:P a):∀{j:Nat},Rb nb a j b->P b
 |0,q=>(show b=a from q)▸ha
 |j+1,q=>q.elim (λq=>B5 hP ha q) λ⟨y,q1,q2⟩=>hP y (B5 hP ha q1) b q2
def vx{P:Cell->Prop}(hP:∀y,P y->∀x∈nb y,P x)(hs:∀y,P y->∀x∈nb y,y∈nb x)(ha:P a):∀{j:Nat},Rb nb a j b->Rb nb b j a
 |0,q=>(show b=a from q).symm
 |j+1,q=>q.elim (λq=> .inl (vx hP hs ha q)) λ⟨y,q1,q2⟩=>qx (hs y (B5 hP ha q1) b q2) (vx hP hs ha q1)
end
def sL(R W w:Nat)(S:List Cell)(y:Cell):List Cell:=(c_ R W w y).filter λx=>decide (x∈S)
def kH(hw:Ways w):x∈sL R W w S y↔On R W x/\eT w y x=true/\x∈S:=by
 unfold sL;rw[Wu,dF hw,ac4,and_assoc]
def CnS(R W w:Nat)(S:List Cell)(a b:Cell):Prop:=∃j,Rb (sL R W w S) a j b
section
open Classical
variable{bd:List Str}{W w:Nat}{S:List Cell}{R:Nat}
def AM(hw:Ways w):∀y,y∈S->∀x∈sL R W w S y,x∈S:=λy _ x hx=>((kH hw).mp hx).2.2
def Mw(hw:Ways w)(eN:∀y∈S,On R W y):∀y,y∈S->∀x∈sL R W w S y,y∈sL R W w S x:=λy hy x hx=>(kH hw).mpr ⟨eN y hy,by rw[iF];exact((kH hw).mp hx).2.1,hy⟩
def CnS.refl:CnS R W w S a a:=⟨0,rfl⟩
def CnS.trans(h:CnS R W w S a b)(h2:CnS R W w S b c):CnS R W w S a c:=let ⟨i,p⟩:=h;let ⟨j,q⟩:=h2;⟨i+j,qz p q⟩
def CnS.symm(hw:Ways w)(eN:∀y∈S,On R W y)(ha:a∈S)(h:CnS R W w S a b):CnS R W w S b a:=let ⟨j,q⟩:=h;⟨j,vx (AM hw) (Mw hw eN) ha q⟩
def CnS.mem(hw:Ways w){a b:Cell}(ha:a∈S)(h:CnS R W w S a b):b∈S:=let ⟨_,q⟩:=h;B5 (AM hw) ha q
def Ky(R W w:Nat)(S:List Cell)(x:Cell):Prop:=∀y,CnS R W w S x y->rank W x<=rank W y
noncomputable def lF(R W w:Nat)(S t:List Cell):List Cell:=t.filter λx=>decide (Ky R W w S x)
def foldl_addK:∀(l t:List Cell),(t++l).Nodup->l.foldl b6 t=t++l
 |[],t,_=>by simp
 |x::l,t,h=>by
  have hx:x∉t:=λq=>(XG.mp h).2.2 x q x (V_ ..) rfl;rw[Z9,show b6 t x=t++[x] from ac6 hx,foldl_addK l (t++[x]) (by rw[YK];exact h),YK];rfl
def GA(hg:Brd bd W)(hw:Ways w)(hn:S.Nodup)(eN:∀y∈S,On bd.length W y):fW [brd bd,cL S,iW w]=ab (ej S (sL bd.length W w S)):=by
 have hm:bd.length*W<=64:=ZJ hg.r8 hg.w8;have pI:S.length<=64:=by
  have:=bU hn λx hx=>aJ.mpr (eN x hx);rw[bA] at this;omega
 obtain⟨_,e⟩:=iu (put:=putN 5) (body:=Ue) cD (λt:List Cell=>[fz (brd bd),fz (cL S),fz (iW w),fz (hX S),some (.ow (Fl t λy=>cL (sL bd.length W w S y))),none]) b6 (λt=>t.Nodup/\∀y∈t,y∈S) S [] ⟨Yj,λ_ h=>by cases h⟩ λt ⟨h1,h2⟩ x hx=>by
  have hl:=bU h1 h2;refine⟨⟨(jv [x] t).1 h1,λy hy=>(eh.mp hy).elim (h2 y) λq=>q▸hx⟩,_,rfl,?_⟩;refine(bh (ρ':=[fz (brd bd),fz (cL S),fz (iW w),fz (hX S),some (.ow (Fl (b6 t x) λy=>cL (sL bd.length W w S y))),fz (cD x)]) ?_).trans rfl;refine(wm (d:=cL (sL bd.length W w S x)) rfl (ba (Mh ((ak rfl rfl).trans (e8 hg hw (eN x hx)))) (gg cD _ _ λy hy=>?_) ?_) rfl (by rw[cq];omega)).trans ?_
  ·rw[nB,eg (b:=decide (y∈S)) ((aH rfl rfl).trans ((i6 (by simp[a9])).trans (by rw[ac6 (by decide)];congr 2;rw[ade];exact d3))),aw];cases decide (y∈S)<;>rfl
  ·rw[V5,cq];exact WX (Xh ..) (WX (nO ..) (by decide))
  ·have:fN (λy=>cL (sL bd.length W w S y)) x (cL (sL bd.length W w S x))=λy=>cL (sL bd.length W w S y):=by
    funext y;unfold fN;split
    ·rename_i q;rw[q]
    ·rfl
   rw[this];rfl
 rw[foldl_addK S [] (by simpa using hn),Xj] at e;exact aP (ao ((aI ((ak rfl rfl).trans (iC (by omega)))).trans rfl) (ao rfl (ao (dq (eQ rfl e)) rfl)))
def Gn(h:ks.length<=64):Cs [.dct (ks.map keyOf) ds]=ab (cL ks):=by
 show (match eK (ks.map keyOf) with | some ks=>if ks.length<=lim/\ks.all (λk=>decide (k.length<=lim)) then ab (D.lst (ks.map tupI)) else ag | none=>ag)=_;rw[iA];show (if (ks.map ic).length<=lim/\(ks.map ic).all (λk=>decide (k.length<=lim)) then ab (D.lst ((ks.map ic).map tupI)) else ag)=_;rw[ac5 ⟨by rw[V5,cq];omega,WI.mpr λk hk=>by obtain⟨c,_,rfl⟩:=Wc.mp hk;rfl⟩,WA];rfl
abbrev Nd(b w nr:D)(S:List Cell)(v0:List D)(ks:List Cell)(x6 x7:Option Sl):cK:=[fz b,fz (cL S),fz w,fz nr,some (.ow (.lst v0)),some (.ow (.dct (ks.map keyOf) (a9 ks))),x6,x7]
structure SeenS (R W w:Nat) (S t ks:List Cell):Prop where
 nd:ks.Nodup
 on:∀y∈ks,y∈S
 mem:∀y,y∈ks↔∃m∈t,CnS R W w S m y
def t7(t:List Cell)(x:Cell):lF R W w S (t++[x])=if Ky R W w S x then lF R W w S t++[x] else lF R W w S t:=by
 unfold lF;rw[acN];by_cases h:Ky R W w S x
 ·rw[ac5 h,abW (by rw[ac4];exact h),Z_]
 ·rw[ac6 h,abX (by rw[ac4];exact h),Z_,XY]
end
end K1
namespace K1
open PySem L2 L3
def PtL(R W w:Nat)(S fs:List Cell)(Ls:List (List Cell)):Prop:=Ls.length=fs.length/\∀p∈fs.zip Ls,p.2.Nodup/\∀y,y∈p.2↔CnS R W w S p.1 y
def PtL.snoc(h:PtL R W w S fs Ls)(h1:l.Nodup)(h2:∀y,y∈l↔CnS R W w S x y):PtL R W w S (fs++[x]) (Ls++[l]):=by
 refine⟨by rw[Wq,Wq,h.1];rfl,λp hp=>?_⟩;rw[abe h.1.symm] at hp;rcases WZ.mp hp with q | q
 ·exact h.2 p q
 ·rw[X1.mp q];exact⟨h1,h2⟩
section
variable{bd:List Str}{W w:Nat}{S:List Cell}
def Hg(hg:Brd bd W)(hs:bd.length*W<64)(hw:Ways w)(hS:RiseC S)(eN:∀y∈S,On bd.length W y)(e:t++x::r=S)(h:SeenS bd.length W w S t ks)(ha:PtL bd.length W w S (lF bd.length W w S t) Ls):
 ∃Ls' ks',SeenS bd.length W w S (t++[x]) ks'/\PtL bd.length W w S (lF bd.length W w S (t++[x])) Ls'/\Su (Nd (brd bd) (iW w) (ej S (sL bd.length W w S)) S (Ls.map cL) ks (fz (cD x)) none)=ab (.nx (Nd (brd bd) (iW w) (ej S (sL bd.length W w S)) S (Ls'.map cL) ks' none none)):=by
 have QT:x∈S:=by rw[<-e];simp
 have hx:=eN x QT;have hn:=RiseC.nodup hS;have hl:S.length<=bd.length*W:=pU hn eN;have pI:S.length<=64:=by omega
 have qI:=hS;rw[<-e] at qI;have TZ:∀y∈t,y∈S:=λy hy=>by rw[<-e];simp[hy]
 have vz:∀y∈t,rank W y<rank W x:=λy hy=>(eV (eN y (TZ y hy)) hx).mp ((Zn.mp qI).2.2 y hy x (V_ ..));have As:∀y∈r,rank W x<rank W y:=λy hy=>(eV hx (eN y (by rw[<-e];simp[hy]))).mp ((W7.mp (Zn.mp qI).2.1).1 y hy);have OR:ks.length<=64:=by have:=bU h.nd h.on;omega
 have FN:Ls.length<=64:=by
  rw[ha.1];have h1:(lF bd.length W w S t).length<=t.length:=by unfold lF;exact Xh ..
  have h2:t.length<=S.length:=by rw[<-e,Wq];omega
  omega
 have ht:Iv (dN (d2 (g_ true) (dV 6) (dV 5))) (Nd (brd bd) (iW w) (ej S (sL bd.length W w S)) S (Ls.map cL) ks (fz (cD x)) none)=ab (!decide (x∈ks)):=
  C4 (eg ((aH rfl rfl).trans (i6 (by simp[a9]))))
 by_cases hk:x∈ks
 ·rw[ac7 hk] at ht;obtain⟨m,hm,hc⟩:=(h.mem x).mp hk;have hf:¬Ky bd.length W w S x:=λq=>by
   have:=q m (hc.symm hw eN (TZ m hm));have:=vz m hm;omega
  refine⟨Ls,ks,⟨h.nd,h.on,λy=>?_⟩,by rw[t7,ac6 hf];exact ha,(bh (dE ht rfl)).trans rfl⟩;rw[h.mem y];constructor
  ·rintro⟨m,hm,q⟩;exact⟨m,by simp[hm],q⟩
  ·rintro⟨n,Ca,q⟩;rcases WZ.mp Ca with z | z
   ·exact⟨n,z,q⟩
   ·rw[X1.mp z] at q;exact⟨m,hm,hc.trans q⟩
 ·rw[ac8 hk] at ht;have hf:Ky bd.length W w S x:=λy hy=>by
   have T5:=hy.mem hw QT;rw[<-e] at T5;rcases WZ.mp T5 with q | q
   ·exact ac_ ((h.mem x).mpr ⟨y,q,hy.symm hw eN QT⟩) hk
   ·rcases Ws.mp q with q | q
    ·rw[q];exact Wg _
    ·exact X8 (As y q)
  obtain⟨l,vs,l1,l2,l3,l4,l5⟩:=sQ pI (AM hw) QT;have RO:l.length<=64:=by have:=bU l1 l2;omega
  refine⟨Ls++[l],(bT l).foldl b6 ks,⟨xY h.nd,λy hy=>?_,λy=>?_⟩,by rw[t7,ac5 hf];exact ha.snoc l1 l3,?_⟩
  ·rcases((jv (bT l) ks).2.1 y).mp hy with q | q
   ·exact h.on y q
   ·exact l2 y (d3.mp q)
  ·rw[(jv (bT l) ks).2.1 y,d3,h.mem y,l3 y];constructor
   ·rintro(⟨m,hm,q⟩ | q)
    ·exact⟨m,by simp[hm],q⟩
    ·exact⟨x,by simp,q⟩
   ·rintro⟨m,hm,q⟩;rcases WZ.mp hm with z | z
    ·exact .inl ⟨m,z,q⟩
    ·rw[X1.mp z] at q;exact .inr q
  ·rw[Xk];refine(bh (ρ':=Nd (brd bd) (iW w) (ej S (sL bd.length W w S)) S (Ls.map cL++[cL l]) ((bT l).foldl b6 ks) (fz (cD x)) (fz (cL l))) (fM ht (ao ((aI ((a7 (aE ((ak rfl rfl).trans l5) rfl)).trans (Gn RO))).trans rfl) (ao (ρ':=Nd (brd bd) (iW w) (ej S (sL bd.length W w S)) S (Ls.map cL++[cL l]) ks (fz (cD x)) (fz (cL l))) ?_ ?_)))).trans rfl
   ·show (if (Ls.map cL).length<lim then ab (Out.nx _) else ag)=_;rw[ac5 (by rw[V5,cq];omega)];rfl
   ·exact(zI rfl ((ak rfl rfl).trans (iC (by omega))) (by omega) (λ_=>B9 hg.r8 hg.w8 (yx _) λy hy=>eN y (l2 y (d3.mp hy)))).trans rfl
def y9(hg:Brd bd W)(hs:bd.length*W<64)(hw:Ways w)(hS:RiseC S)(eN:∀y∈S,On bd.length W y):∀(r t ks:List Cell) (Ls:List (List Cell)),t++r=S->SeenS bd.length W w S t ks->PtL bd.length W w S (lF bd.length W w S t) Ls->
 ∃Ls' ks',PtL bd.length W w S (lF bd.length W w S S) Ls'/\forL (putN 6) Su (r.map cD) (Nd (brd bd) (iW w) (ej S (sL bd.length W w S)) S (Ls.map cL) ks none none)=ab (.nx (Nd (brd bd) (iW w) (ej S (sL bd.length W w S)) S (Ls'.map cL) ks' none none))
 |[],t,ks,Ls,e,h,ha=>by
  rw[XY] at e;subst e;exact⟨Ls,ks,ha,rfl⟩
 |x::r,t,ks,Ls,e,h,ha=>by
  obtain⟨a1,k1,h1,h2,h3⟩:=Hg hg hs hw hS eN e h ha;obtain⟨a2,k2,g1,g2⟩:=y9 hg hs hw hS eN r (t++[x]) k1 a1 (by rw[YK];exact e) h1 h2;exact⟨a2,k2,g1,(cU rfl h3).trans g2⟩
def A7(hg:Brd bd W)(hs:bd.length*W<64)(hw:Ways w)(hS:RiseC S)(eN:∀y∈S,On bd.length W y):∃Ls:List (List Cell),PtL bd.length W w S (lF bd.length W w S S) Ls/\iY [brd bd,cL S,iW w]=ab (.lst (Ls.map cL)):=by
 obtain⟨Ls,ks,h1,h2⟩:=y9 hg hs hw hS eN S [] [] [] rfl ⟨Yj,(λ_ h=>by cases h),λy=>by simp⟩ ⟨rfl,λp hp=>by simp[lF] at hp⟩;exact⟨Ls,h1,aP (ao ((aI ((ak rfl rfl).trans (GA hg hw (RiseC.nodup hS) eN))).trans rfl) (ao rfl (ao rfl (ao (dq (eQ rfl h2)) rfl))))⟩
end
end K1
namespace K1
open PySem L2 L3 HT
def Jy(l:List Nat):Str:=⟨l.toArray⟩
def jr(l:List Nat):(Jy l).cps.toList=l:=by simp[Jy]
def Jo(l:List Nat):(Jy l).length=l.length:=by simp[Jy,Str.length]
def z4(x y:Str):(x++y).cps.toList=x.cps.toList++y.cps.toList:=by
 show (x.cps++y.cps).toList=_;simp
end K1
namespace K1
open PySem PySem.Spec L2 L3
open PyProof.Rows hiding St
def qK(R W:Nat)(x:Cell):Bool:=(decide (0<x.1)&&decide (x.1+1<R))&&(decide (0<x.2)&&decide (x.2+1<W))
def Pn(i a b:Int):sS false (.int i) (.tup [.int a, .int b])=ab (.bl (decide (i=a)||decide (i=b))):=by
 show ab (D.bl ([a,b].contains i))=_;congr 2;simp[acO]
def pK(h:δ ρ=ab (.lst ds)):bJ δ ρ=ab ds:=by
 unfold bJ;rw[h];rfl
section
open Classical
variable{bd:List Str}{W:Nat}
def yj(hg:Brd bd W)(hc:On bd.length W c):dX [brd bd,cD c]=ab (.bl (!qK bd.length W c)):=by
 have r1:=hg.r1;have w1:=hg.w1;have c1:=hc.1;have c2:=hc.2;refine aP (aF ?_);have e1:d2 (sS false) (d2 bf (dV 1) (dC (.int 0))) (dA d7 (aC (dC (.int 0)) (aC (d2 lG (dA bu (aC (dV 0) aN)) (dC (.int 1))) aN))) [fz (brd bd),fz (cD c)]=ab (.bl (decide ((c.1:Int)=0)||decide ((c.1:Int)=(bd.length:Int) - 1))):=
  (aH rfl ((a7 (aE rfl (aE ((aH (Gi rfl) rfl).trans rfl) rfl))).trans rfl)).trans (Pn _ _ _)
 have e2:d2 (sS false) (d2 bf (dV 1) (dC (.int 1))) (dA d7 (aC (dC (.int 0)) (aC (d2 lG (dA bu (aC (d2 bf (dV 0) (dC (.int 0))) aN)) (dC (.int 1))) aN))) [fz (brd bd),fz (cD c)]=ab (.bl (decide ((c.2:Int)=0)||decide ((c.2:Int)=(W:Int) - 1))):=
  (aH rfl ((a7 (aE rfl (aE ((aH (hg.len0 rfl) rfl).trans rfl) rfl))).trans rfl)).trans (Pn _ _ _)
 refine(LA e1 e2).trans ?_;congr 2;rw[aac];unfold qK;simp only[Y6,ac4,aaT,Bool.and_eq_false_iff,decide_eq_false_iff_not];omega
def Dh{l:List Bool}(h:ds=l.map D.bl):anyM [.lst ds]=ab (.bl (l.any id)):=by
 show (match bools ds with | some bs=>ab (D.bl (bs.any id)) | none=>ag)=_;rw[h,tT]
def tU(hg:Brd bd W)(hl:∀c∈l,On bd.length W c)(hn:l.length<=64):br [brd bd,cL l]=ab (.bl (l.any λc=>!qK bd.length W c)):=by
 refine aP (aF ?_);have cm:bb 0 (bJ (dV 1)) bO (ar 2 dX (aC (dV 1) (aC (dV 0) aN))) [fz (brd bd),fz (cL l)]=ab (.lst ((l.map λc=>!qK bd.length W c).map D.bl)):=by
  refine ba rfl ?_ (by rw[V5,V5,cq];omega);rw[WA];refine cf cD (λc=> .bl (!qK bd.length W c)) l λc hc=>?_;rw[g9,show ar 2 dX _ _=ab (.bl (!qK bd.length W c)) from(ak rfl rfl).trans (yj hg (hl c hc))];rfl
 refine(a7 (aE cm rfl)).trans ((Dh rfl).trans ?_);rw[acd];rfl
end
section
open Classical
variable{bd:List Str}{R W w:Nat}{P:List Cell}
def dB(R W:Nat)(P:List Cell):List Cell:=(aY R W).filter λx=>!decide (x∈P)
def jP:x∈dB R W P↔On R W x/\x∉P:=by
 unfold dB;rw[Wu,aJ,aaT,decide_eq_false_iff_not]
def BJ(R W:Nat)(x:Cell):Prop:=0<x.1/\x.1+1<R/\0<x.2/\x.2+1<W
def yf:qK R W x=true↔BJ R W x:=by
 unfold qK BJ;simp only[Wl,ac4];omega
def PtL.of(h:PtL R W w S fs Ls)(hl:l∈Ls):∃f∈fs,l.Nodup/\∀y,y∈l↔CnS R W w S f y:=by
 obtain⟨i,hi,rfl⟩:=X_ hl;have yc:i<fs.length:=h.1▸hi;have hz:(fs[i],Ls[i])∈fs.zip Ls:=Xl.mpr ⟨i,by rw[Y2];omega,by rw[List.getElem_zip]⟩;exact⟨fs[i],WR _,h.2 _ hz⟩
def eC(R W:Nat)(l:List Cell):Bool:=!(l.any λc=>!qK R W c)
def oy:eC R W l=true↔∀c∈l,BJ R W c:=by
 unfold eC;rw[aaT,ac1];constructor
 ·intro h c hc;have:=h c hc;rw[Bool.not_eq_true,acR] at this;exact yf.mp this
 ·intro h c hc;rw[Bool.not_eq_true,acR];exact yf.mpr (h c hc)
def dQ:∀y∈dB R W P,On R W y:=λy hy=>(jP.mp hy).1
def rE:RiseC (dB R W P):=(cz _ _).filter _
def lV(hw:Ways w):Ways (12 - w):=by rcases hw with rfl | rfl;exact .inr rfl;exact .inl rfl
def so(hg:Brd bd W)(hs:bd.length*W<64)(hw:Ways w)(B8:P.length<64):∃Ls:List (List Cell),PtL bd.length W (12 - w) (dB bd.length W P) (lF bd.length W (12 - w) (dB bd.length W P) (dB bd.length W P)) Ls/\Ls.length<=64/\dY [brd bd,iW w,cL P]=ab (.lst ((Ls.filter (eC bd.length W)).map cL)):=by
 obtain⟨Ls,h1,h2⟩:=A7 hg hs (lV hw) (rE (P:=P)) dQ;have ho:(dB bd.length W P).length<=bd.length*W:=by
  have:=Xh (λx=>!decide (x∈P)) (aY bd.length W);rw[bA] at this;exact this
 have hl:Ls.length<=64:=by
  rw[h1.1];have:=Xh (λx=>decide (Ky bd.length W (12 - w) (dB bd.length W P) x)) (dB bd.length W P);unfold lF;omega
 refine⟨Ls,h1,hl,aP ?_⟩;refine ao ((aI ((ak rfl rfl).trans (iC (by omega)))).trans rfl) ?_;refine ao ((aI (ba (pK ((ak rfl rfl).trans (g8 hg))) (gg cD (λx=>!decide (x∈P)) _ λx hx=>?_) ?_)).trans rfl) ?_
 ·rw[nB,show dN (d2 (g_ true) (dV 0) (dV 4)) _=ab (!decide (x∈P)) from eg ((aH rfl rfl).trans ((i6 (by simp[a9])).trans (by rw[ac5 rfl];congr 3;rw[ade];exact d3)))];cases decide (x∈P)<;>rfl
 ·rw[V5,cq];exact WX ho (by omega)
 refine ao ((aI (d:= .int ((12 - w:Nat):Int)) ?_).trans rfl) ?_
 ·rcases hw with rfl | rfl<;>rfl
 refine aF (ba (pK ((ak rfl rfl).trans h2)) (gg cL (eC bd.length W) _ λl Im=>?_) ?_)
 ·obtain⟨f,hf,DK,hm⟩:=h1.of Im;have UZ:f∈dB bd.length W P:=(Wu.mp hf).1;have eN:∀c∈l,On bd.length W c:=λc hc=>dQ c (CnS.mem (lV hw) UZ ((hm c).mp hc));have RO:l.length<=64:=by
   have:=bU DK λx hx=>aJ.mpr (eN x hx);rw[bA] at this;omega
  rw[nB,show cR (cg (ar 2 br (aC (dV 1) (aC (dV 0) aN)))) _=ab (eC bd.length W l) from jE (lC ((ak rfl rfl).trans (tU hg eN RO)))];cases eC bd.length W l<;>rfl
 ·rw[V5,cq];exact WX (Xh ..) (by omega)
end
end K1
namespace K1
open PySem L2 L3 HT
def C9:∀l:List Nat,pS (l.map sg)=some (l.map λc=>(⟨#[c]⟩:Str))
 |[]=>rfl
 |c::r=>by
  show (pS (r.map sg)).map _=_;rw[C9 r];rfl
def BR:∀l:List Nat,eU (l.map λc=>(⟨#[c]⟩:Str))=Jy l
 |[]=>rfl
 |c::r=>by
  refine Km ?_;show ((⟨#[c]⟩:Str)++eU (r.map λc=>(⟨#[c]⟩:Str))).cps.toList=_;rw[z4,BR r,jr,jr];rfl
def HR:∀l:List Nat,((l.map λc=>(⟨#[c]⟩:Str)).map (·.length)).sum=l.length
 |[]=>rfl
 |c::r=>by
  show 1+((r.map λc=>(⟨#[c]⟩:Str)).map (·.length)).sum=_;rw[HR r,Wf];omega
def Jm{l:List Nat}(h:l.length<=4096):joinM (.str "") [.lst (l.map sg)]=ab (.str (Jy l)):=by
 show (match pS (l.map sg) with | some (xs:List Str)=>if ("":Str).length=0/\(xs.map λx:Str=>x.length).sum<=lim then ab (D.str (eU xs)) else ag | none=>ag)=_;rw[C9];show (if ("":Str).length=0/\((l.map λc=>(⟨#[c]⟩:Str)).map λx:Str=>x.length).sum<=lim then ab (D.str (eU (l.map λc=>(⟨#[c]⟩:Str)))) else ag)=_;rw[ac5 ⟨rfl,by have:=HR l;rw[cq];exact WX (aa1 this) h⟩,BR]
def Ce(c:Nat):K3 ⟨#[c]⟩=decide (c∈[97,98,99,100,101,102]):=StrLaws.found_one "abcdef" c
abbrev Rj:List Nat:=[97,98,99,100,101,102]
def Ke{W:Nat}{r:Str}(h:Row W r){c:Nat}(hc:c∈r.cps.toList):c∈[97,98,99,100,101,102]:=by
 have:=h.let' c hc;rw[Ce] at this;exact ac9 this
def Iy(bd:List Str):List Nat:=(bd.map (·.cps.toList)).flatten
def yr{bd:List Str}{c:Nat}:c∈Iy bd↔∃r∈bd,c∈r.cps.toList:=by
 unfold Iy;rw[ZZ];constructor
 ·rintro⟨l,hl,h⟩;obtain⟨r,hr,rfl⟩:=Wc.mp hl;exact⟨r,hr,h⟩
 ·rintro⟨r,hr,h⟩;exact⟨_,Wc.mpr ⟨r,hr,rfl⟩,h⟩
def E4{bd:List Str}{W:Nat}(hg:Brd bd W){c:Nat}(h:c∈Iy bd):c∈Rj:=by
 obtain⟨r,hr,h⟩:=yr.mp h;exact Ke (hg.rows r hr) h
def Jt{bd:List Str}{W:Nat}(hg:Brd bd W){c:Cell}(hc:On bd.length W c):lt bd c∈Iy bd:=by
 have h1:c.1<bd.length:=hc.1;have hr:(bd.getD c.1 ⟨#[]⟩).cps.toList.length=W:=(hg.rows _ (getD_mem h1)).len;have h2:c.2<(bd.getD c.1 ⟨#[]⟩).cps.toList.length:=by rw[hr];exact hc.2
 refine yr.mpr ⟨_,getD_mem h1,?_⟩;show ch (bd.getD c.1 ⟨#[]⟩) c.2∈_;generalize bd.getD c.1 ⟨#[]⟩=r at h2;unfold ch;rw[Wa,V6 h2];exact WR h2
def u7{bd:List Str}{i j:Nat}(hi:i<bd.length)(hj:j<bd[i].cps.toList.length):at2 bd i j=bd[i].cps.toList[j]:=by
 unfold at2 ch;rw[Wa (l:=bd),V6 hi,acJ,Wa,V6 hj,acJ]
def Ar{α:Type}{l:List α}{i:Nat}{x:α}(h:l[i]? =some x)(hi:i<l.length):l[i]=x:=by
 rw[V6 hi] at h;exact WW h
def D6(R W:Nat)(g:Nat->Nat->Nat):List Str:=(Wo R).map λi=>Jy ((Wo W).map (g i))
def mv(R W:Nat)(g:Nat->Nat->Nat):(D6 R W g).length=R:=by simp[D6]
def Jv{R W:Nat}{g:Nat->Nat->Nat}:∀r∈D6 R W g,r.length=W:=λr hr=>by
 obtain⟨i,_,rfl⟩:=Wc.mp hr;rw[Jo,V5,XU]
def Mv{R W:Nat}{g:Nat->Nat->Nat}{i j:Nat}(hi:i<R)(hj:j<W):at2 (D6 R W g) i j=g i j:=by
 have h1:i<(D6 R W g).length:=by rw[mv];exact hi
 have e0:(D6 R W g)[i]? =some (Jy ((Wo W).map (g i))):=by
  unfold D6;rw[Wj,YW hi];rfl
 have e1:(D6 R W g)[i].cps.toList=(Wo W).map (g i):=by rw[Ar e0 h1,jr]
 have h2:j<(D6 R W g)[i].cps.toList.length:=by rw[e1,V5,XU];exact hj
 rw[u7 h1 h2];have:(D6 R W g)[i].cps.toList[j]? =some (g i j):=by rw[e1,Wj,YW hj];rfl
 exact Ar this h2
def Gv{R W:Nat}{g:Nat->Nat->Nat}(r1:1<=R)(r5:R<=5)(w1:1<=W)(w5:W<=5)(h:∀i j,i<R->j<W->g i j∈Rj):Good (D6 R W g) W:=by
 refine⟨by rw[mv];exact r1,by rw[mv];exact r5,w1,w5,λr hr=>⟨Jv r hr,λc hc=>?_⟩⟩;obtain⟨i,hi,rfl⟩:=Wc.mp hr;rw[jr] at hc;obtain⟨j,hj,rfl⟩:=Wc.mp hc;exact(Ce _).trans (ac7 (h i j (WT.mp hi) (WT.mp hj)))
def IA{bd:List Str}{W i j:Nat}(hg:Brd bd W)(hi:i<bd.length)(hj:j<W):at2 bd i j∈Rj:=E4 hg (Jt (c:=(i,j)) hg ⟨hi,hj⟩)
def turn(bd:List Str)(W:Nat):List Str:=D6 W bd.length λi j=>at2 bd (bd.length - 1 - j) i
def Ag{bd:List Str}{W:Nat}(hg:Brd bd W){k:Nat}(hk:k<W):b8 [brd bd, .int (k:Int)]=ab (.str (Jy ((Wo bd.length).map λj=>at2 bd (bd.length - 1 - j) k))):=by
 have h8:=hg.r8;have cm:bb 0 (λρ=>(aC (dV 0) aN) ρ>>=Hs) bO (d2 qw (dV 0) (dV 2)) [fz (brd bd),fz (.int (k:Int))]=ab (.lst (((Wo bd.length).map λj=>at2 bd (bd.length - 1 - j) k).map sg)):=by
  have e0:bd.reverse=(Wo bd.length).map λj=>bd.getD (bd.length - 1 - j) ⟨#[]⟩:=by
   refine XN (by simp) λi h1 h2=>?_;have hi:i<bd.length:=by simpa using h1
   rw[W9,Yi,acn,Wa,V6 (by omega)];rfl
  refine ba (ds:=bd.reverse.map D.str) ?_ ?_ (by simp[cq];omega)
  ·show ab ((bd.map D.str).reverse)=_;rw[List.map_reverse]
  ·rw[e0,WA,WA];refine cf (D.str∘λj=>bd.getD (bd.length - 1 - j) ⟨#[]⟩) _ _ λj hj=>?_;have hj:=WT.mp hj;have hl:k<(bd.getD (bd.length - 1 - j) ⟨#[]⟩).length:=by rw[(hg.rows _ (getD_mem (by omega))).len];exact hk
   rw[g9];show (qw (.str (bd.getD (bd.length - 1 - j) ⟨#[]⟩)) (.int (k:Int))>>=λy=>ab (some y))=_;rw[C0 hl];rfl
 refine aP (aF ?_);show (if Me (.str "") then((aC _ aN) [fz (brd bd),fz (.int (k:Int))]>>=λds=>joinM (.str "") ds) else ag)=_;rw[ac5 (show Me (.str "")=true from rfl),aE cm (xs:=[]) rfl,aw];exact Jm (by simp;omega)
def Bx{bd:List Str}{W:Nat}(hg:Brd bd W):iq [brd bd]=ab (brd (turn bd W)):=by
 have w8:=hg.w8;refine aP (ao (bV ((ak (ds:=[brd bd]) rfl rfl).trans hg.nb)) (aF ?_));refine(a7 (xs:=[.lst ((turn bd W).map D.str)]) (aE (ba (Hv (n:=W) (hg.len0 (i:=0) rfl) (by omega)) (ys:=(turn bd W).map D.str) ?_ (by rw[V5];unfold turn;rw[mv,cq];omega)) rfl)).trans rfl;unfold turn D6;rw[WA];refine cf (λ(k:Nat)=>D.int (k:Int)) _ _ λk hk=>?_;rw[g9,(ak (ds:=[brd bd, .int (k:Int)]) rfl rfl:ar 2 b8 (aC (dV 1) (aC (dV 0) aN)) _=_),Ag hg (WT.mp hk)];rfl
def EF{bd:List Str}{W:Nat}(hG:Good bd W):Good (turn bd W) bd.length:=Gv hG.w1 hG.w5 hG.r1 hG.r5 λi j hi hj=>IA hG.brd (by omega) hi
def kr(bd:List Str)(W:Nat):(turn bd W).length=W:=mv ..
def C8{bd:List Str}{W i j:Nat}(hi:i<W)(hj:j<bd.length):at2 (turn bd W) i j=at2 bd (bd.length - 1 - j) i:=Mv hi hj
end K1
namespace K1
open PySem L2 L3
def Fy{S:α->Prop}(f:α->Nat):∀(n:Nat) (x:α),S x->f x<=n->∃y,S y/\∀z,S z->f y<=f z
 |0,x,h,hn=>⟨x,h,λz _=>by omega⟩
 |n+1,x,h,hn=>by
  by_cases q:∃y,S y/\f y<f x
  ·obtain⟨y,h1,h2⟩:=q;exact Fy f n y h1 (by omega)
  ·exact⟨x,h,λz hz=>Nat.le_of_not_lt λc=>q ⟨z,hz,c⟩⟩
section
open Classical
variable{R W v:Nat}{P:List Cell}{Ls:List (List Cell)}
noncomputable def x_(R W v:Nat)(P:List Cell):List Cell:=lF R W v (dB R W P) (dB R W P)
def dj(h:f∈x_ R W v P):f∈dB R W P:=(Wu.mp h).1
def Aq(hw:Ways v)(hx:x∈dB R W P):∃f∈x_ R W v P,CnS R W v (dB R W P) f x:=by
 obtain⟨f,h1,h2⟩:=Fy (rank W) _ x CnS.refl (Wg _);have hf:=CnS.mem hw hx h1;exact⟨f,Wu.mpr ⟨hf,ac7 λy hy=>h2 y (h1.trans hy)⟩,h1.symm hw dQ hx⟩
def B3(hw:Ways v)(hf:f∈x_ R W v P)(hg:g∈x_ R W v P)(h:CnS R W v (dB R W P) f g):f=g:=by
 have a1:Ky R W v (dB R W P) f:=ac9 (Wu.mp hf).2;have a2:Ky R W v (dB R W P) g:=ac9 (Wu.mp hg).2;exact r9 (dQ f (dj hf)) (dQ g (dj hg)) (Y8 (a1 g h) (a2 f (h.symm hw dQ (dj hf))))
def FC:(x_ R W v P).Nodup:=RiseC.nodup (rE.filter _)
def z0(R W v:Nat)(P:List Cell)(x:Cell):Prop:=∀y,CnS R W v (dB R W P) x y->BJ R W y
def PtL.at(h:PtL R W v S fs Ls)(hi:i<Ls.length):Ls[i].Nodup/\∀y,y∈Ls[i]↔CnS R W v S (fs[i]'(h.1▸hi)) y:=by
 have yc:i<fs.length:=h.1▸hi;exact h.2 (fs[i],Ls[i]) (Xl.mpr ⟨i,by rw[Y2];omega,by rw[List.getElem_zip]⟩)
def uo(hw:Ways v)(h:PtL R W v (dB R W P) (x_ R W v P) Ls):x∈(Ls.filter (eC R W)).flatten↔x∈dB R W P/\z0 R W v P x:=by
 rw[ZZ];constructor
 ·rintro⟨l,hl,hx⟩;obtain⟨Aw,t8⟩:=Wu.mp hl;obtain⟨f,hf,_,hm⟩:=h.of Aw;have hc:=(hm x).mp hx;exact⟨CnS.mem hw (dj hf) hc,λy hy=>oy.mp t8 y ((hm y).mpr (hc.trans hy))⟩
 ·rintro⟨hx,RW⟩;obtain⟨f,hf,hc⟩:=Aq hw hx;obtain⟨i,hi,rfl⟩:=X_ hf;have yc:i<Ls.length:=h.1▸hi;obtain⟨_,hm⟩:=h.at yc;exact⟨Ls[i],Wu.mpr ⟨WR _,oy.mpr λc EU=>RW c ((hc.symm hw dQ (dj hf)).trans ((hm c).mp EU))⟩,(hm x).mpr hc⟩
def Fz(hw:Ways v)(h:PtL R W v (dB R W P) (x_ R W v P) Ls):(Ls.filter (eC R W)).flatten.Nodup:=by
 refine List.pairwise_flatten.mpr ⟨λl hl=>?_,aa4 _ ?_⟩
 ·obtain⟨f,_,hn,_⟩:=h.of (Wu.mp hl).1;exact hn
 ·refine W6.mpr λi j hi hj jC x hx y hy e=>?_;subst e;have yc:i<(x_ R W v P).length:=h.1▸hi;have NS:j<(x_ R W v P).length:=h.1▸hj;have c1:=((h.at hi).2 x).mp hx;have c2:=((h.at hj).2 x).mp hy;have:=B3 hw (WR yc) (WR NS) (c1.trans (c2.symm hw dQ (dj (WR NS))));have:=(List.getElem_inj FC).mp this;omega
noncomputable def Ex(R W v:Nat)(P:List Cell):List Cell:=(x_ R W v P).filter λf=>decide (z0 R W v P f)
def HE(hw:Ways v)(h:PtL R W v (dB R W P) (x_ R W v P) Ls):(Ls.filter (eC R W)).length=(Ex R W v P).length:=by
 have e1:Ls=((x_ R W v P).zip Ls).map abT:=(List.map_snd_zip (aa1 h.1)).symm;have e2:x_ R W v P=((x_ R W v P).zip Ls).map acI:=(List.map_fst_zip (aa1 h.1.symm)).symm;have a1:(Ls.filter (eC R W)).length=(((x_ R W v P).zip Ls).filter (eC R W∘abT)).length:=by
  conv=>lhs;rw[e1]
  rw[aaa,V5]
 have a2:(Ex R W v P).length=(((x_ R W v P).zip Ls).filter ((λf=>decide (z0 R W v P f))∘acI)).length:=by
  unfold Ex
  conv=>lhs;rw[e2]
  rw[aaa,V5]
 rw[a1,a2];congr 1;refine ac0 λp hp=>?_;obtain⟨_,hm⟩:=h.2 p hp;show eC R W p.2=decide (z0 R W v P p.1);rw[aac,oy,ac4];exact⟨λq y hy=>q y ((hm y).mpr hy),λq c hc=>q c ((hm c).mp hc)⟩
end
structure NumOk (R W:Nat) (Ps:List (List Cell)) (ks:List Cell) (f:Cell->Nat):Prop where
 nd:ks.Nodup
 on:∀y∈ks,On R W y
 num:∀y∈ks,∃P,Ps[f y]? =some P/\y∈P
def Ud:DS:=cY [4] (g0 1 (dV 4) (dV 2))
def QZ(Ps:List (List Cell))(ks:List Cell)(f:Cell->Nat)(x2 x3 x4:Option Sl):cK:=[fz (.lst (Ps.map cL)),some (.ow (Fl ks λy=> .int (f y:Int))),x2,x3,x4]
def tJ:x∈b6 ks x:=eh.mpr (.inr rfl)
def K7(hm:R*W<=64){i:Nat}(hP:Ps[i]? =some P)(eN:∀y∈P,On R W y):∀(l ks:List Cell) (f:Cell->Nat),(∀y∈l,y∈P)->NumOk R W Ps ks f->
 ∃ks' f',NumOk R W Ps ks' f'/\(∀y∈ks,y∈ks')/\(∀y∈l,y∈ks')/\forL (putN 4) Ud (l.map cD) (QZ Ps ks f (fz (.int (i:Int))) x3 none)=ab (.nx (QZ Ps ks' f' (fz (.int (i:Int))) x3 none))
 |[],ks,f,_,h=>⟨ks,f,h,λy hy=>hy,(λy hy=>(by cases hy)),rfl⟩
 |x::l,ks,f,hl,h=>by
  have hx:=hl x (V_ ..);have OR:ks.length<=64:=by
   have h1:=bU h.nd λy hy=>aJ.mpr (h.on y hy);rw[bA] at h1;omega
  have h1:NumOk R W Ps (b6 ks x) (λy=>if y=x then i else f y):=by
   refine⟨(jv [x] ks).1 h.nd,λy hy=>?_,λy hy=>?_⟩
   ·rcases eh.mp hy with q | q
    ·exact h.on y q
    ·rw[q];exact eN x hx
   ·by_cases e:y=x
    ·refine⟨P,?_,by rw[e];exact hx⟩;show Ps[if y=x then i else f y]? =_;rw[ac5 e];exact hP
    ·rcases eh.mp hy with q | q
     ·obtain⟨Q,q1,q2⟩:=h.num y q;refine⟨Q,?_,q2⟩;show Ps[if y=x then i else f y]? =_;rw[ac6 e];exact q1
     ·exact ac_ q e
  obtain⟨ks',f',a1,a2,a3,a4⟩:=K7 hm hP eN l (b6 ks x) _ (λy hy=>hl y (V8 _ hy)) h1;refine⟨ks',f',a1,λy hy=>a2 y (eh.mpr (.inl hy)),λy hy=>?_,?_⟩
  ·rcases Ws.mp hy with rfl | hy
   ·exact a2 _ tJ
   ·exact a3 y hy
  ·refine(cU rfl ?_).trans a4;refine(bh ((wm rfl rfl rfl (by rw[cq];omega)).trans rfl)).trans ?_;have ef:fN (λy=>D.int (f y:Int)) x (.int (i:Int))=λy=>D.int ((if y=x then i else f y:Nat):Int):=by
    funext y;unfold fN;by_cases e:y=x
    ·rw[ac5 e,ac5 e]
    ·rw[ac6 e,ac6 e]
   show ab (Out.nx [fz (.lst (Ps.map cL)),some (.ow (Fl (b6 ks x) (fN (λy=>D.int (f y:Int)) x (.int (i:Int))))),fz (.int (i:Int)),x3,none])=_;rw[ef];rfl
def LI(q:Nat×List Cell):D:= .tup [.int (q.1:Int),cL q.2]
def GD(hm:R*W<=64){Ps:List (List Cell)}(eN:∀P∈Ps,∀y∈P,On R W y):∀(qs:List (Nat×List Cell)) (ks:List Cell) (f:Cell->Nat),(∀q∈qs,Ps[q.1]? =some q.2)->NumOk R W Ps ks f->
 ∃ks' f',NumOk R W Ps ks' f'/\(∀y∈ks,y∈ks')/\(∀q∈qs,∀y∈q.2,y∈ks')/\forL (r6 [2,3]) (cY [2,3,4] (ez (putN 4) (bJ (dV 3)) Ud)) (qs.map LI) (QZ Ps ks f none none none)=ab (.nx (QZ Ps ks' f' none none none))
 |[],ks,f,_,h=>⟨ks,f,h,λy hy=>hy,(λq hq=>(by cases hq)),rfl⟩
 |q::qs,ks,f,hq,h=>by
  have hP:=hq q (V_ ..);obtain⟨Si,f1,a1,a2,a3,a4⟩:=K7 hm hP (eN q.2 (Wx hP)) q.2 ks f (λy hy=>hy) h;obtain⟨Sj,f2,b1,b2,b3,b4⟩:=GD hm eN qs Si f1 (λq' O6=>hq q' (V8 _ O6)) a1;refine⟨Sj,f2,b1,λy hy=>b2 y (a2 y hy),λq' O6 y hy=>?_,?_⟩
  ·rcases Ws.mp O6 with rfl | O6
   ·exact b2 y (a3 y hy)
   ·exact b3 q' O6 y hy
  ·exact(cU rfl ((bh (eQ (Sg rfl) a4)).trans rfl)).trans b4
def nS(Ps:List (List Cell)):(Ps.map cL).mapIdx (λi d=>D.tup [.int (i:Int),d])=(Ps.zipIdx.map λq:List Cell×Nat=>(q.2,q.1)).map LI:=by
 apply List.ext_getElem?;intro i;simp only[aco,Wj,List.getElem?_zipIdx,Option.map_map,aaZ];cases Ps[i]? <;>simp[LI]
def rn(hm:R*W<=64)(eN:∀P∈Ps,∀y∈P,On R W y):∃ks f,NumOk R W Ps ks f/\(∀P∈Ps,∀y∈P,y∈ks)/\fX [.lst (Ps.map cL)]=ab (EO ks λy=> .int (f y:Int)):=by
 have hq:∀q∈Ps.zipIdx.map (λq:List Cell×Nat=>(q.2,q.1)),Ps[q.1]? =some q.2:=λq hq=>by
  obtain⟨⟨P,i⟩,h1,rfl⟩:=Wc.mp hq;exact YA.mp h1
 obtain⟨ks,f,a1,a2,a3,a4⟩:=GD hm eN (Ps.zipIdx.map λq:List Cell×Nat=>(q.2,q.1)) [] (λ_=>0) hq ⟨Yj,(λy hy=>(by cases hy)),(λy hy=>(by cases hy))⟩;refine⟨ks,f,a1,λP hP y hy=>?_,?_⟩
 ·obtain⟨i,hi,rfl⟩:=X_ hP;refine a3 (i,Ps[i]) (Wc.mpr ⟨(Ps[i],i),YA.mpr (by rw[V6 hi]),rfl⟩) y hy
 ·refine aP (ao rfl (ao (dq (eQ ?_ a4)) rfl));show ab ((Ps.map cL).mapIdx λi d=>D.tup [.int (i:Int),d])=_;rw[nS]
section
open Classical
variable{bd:List Str}{W w:Nat}
noncomputable def ax(bd:List Str)(W w:Nat):List (List Cell):=(cB bd W w (aY bd.length W)).map (aG bd W w)
def ft:rR bd W w= .lst ((ax bd W w).map cL):=by
 unfold rR ax;rw[WA];rfl
def cC(h:m∈cB bd W w (aY bd.length W)):On bd.length W m:=by
 unfold cB at h;exact aJ.mp (Wu.mp h).1
def dH(hw:Ways w):∀P∈ax bd W w,∀y∈P,On bd.length W y:=λP hP y hy=>by
 unfold ax at hP;obtain⟨m,hm,rfl⟩:=Wc.mp hP;exact(((aX hw (cC hm)).mem y).mp hy).on hw (cC hm)
def eL(hg:Brd bd W)(hw:Ways w)(hx:On bd.length W x):∃P∈ax bd W w,x∈P:=by
 obtain⟨L,hL⟩:=uk hw;have hm:=hL x hx;have NU:=hm.on hw hx;refine⟨aG bd W w (L x),Wc.mpr ⟨L x,?_,rfl⟩,((aX hw NU).mem x).mpr (hm.1.symm hw hx)⟩;unfold cB;rw[Wu,ac4];exact⟨aJ.mpr NU,hm.self hw hx⟩
def gA:(ax bd W w).length<=bd.length*W:=by
 unfold ax cB;rw[V5,<-bA bd.length W];exact Xh ..
def yW(hg:Brd bd W)(hs:bd.length*W<64)(hw:Ways w):ip [brd bd,iW w]=ab (.lst ((ax bd W w).map cL)):=by
 rw[<-ft];exact aP (ao (bV ((ak rfl rfl).trans hg.nb)) (ao (bV ((ak rfl rfl).trans hw.nw)) (aF ((ak rfl rfl).trans (cx hg hs hw)))))
def vD(hg:Brd bd W)(hs:bd.length*W<64)(hw:Ways w):iV [brd bd,iW w]=ab (.int ((ax bd W w).length:Int)):=by
 refine aP (ao (bV ((ak rfl rfl).trans hg.nb)) (ao (bV ((ak rfl rfl).trans hw.nw)) (aF ((a7 (aE ((ak rfl rfl).trans (cx hg hs hw)) rfl)).trans ?_))));rw[ft];show ab (D.int (((ax bd W w).map cL).length:Int))=_;rw[V5]
end
end K1
namespace K1
open PySem PySem.Spec L2 L3
open PyProof.Rows hiding St
section
open Classical
variable{bd:List Str}{W w:Nat}
def Cu:(cB bd W w (aY bd.length W)).Nodup:=by
 unfold cB;exact(RiseC.nodup (cz _ _)).filter _
def uq:RiseC (cB bd W w (aY bd.length W)):=by
 unfold cB;exact(cz _ _).filter _
def Gs:m∈cB bd W w l↔m∈l/\Least bd W w m m:=by
 unfold cB;rw[Wu,ac4]
def jN(hw:Ways w){m x:Cell}(hm:m∈cB bd W w (aY bd.length W))(hx:x∈aG bd W w m):Least bd W w x m:=
 (Gs.mp hm).2.move hw (cC hm) (((aX hw (cC hm)).mem x).mp hx)
def kL{i:Nat}(h:(ax bd W w)[i]? =some P):∃m,(cB bd W w (aY bd.length W))[i]? =some m/\P=aG bd W w m:=by
 unfold ax at h;rw[Wj] at h;cases q:(cB bd W w (aY bd.length W))[i]? with
 |none=>rw[q] at h;cases h
 |some m=>rw[q] at h;cases h;exact⟨m,rfl,rfl⟩
def Gu{i j:Nat}(h:(cB bd W w (aY bd.length W))[i]? =some m)(h2:(cB bd W w (aY bd.length W))[j]? =some m):i=j:=
 (List.getElem?_inj (Wh.mp h).1 Cu).mp (h.trans h2.symm)
def qY{l:List α}{i:Nat}(h:l[i]? =some x):x∈l:=Wx h
def Cd(hw:Ways w){i j:Nat}(hi:(ax bd W w)[i]? =some P)(hj:(ax bd W w)[j]? =some Q)(hx:x∈P)(hy:x∈Q):i=j:=by
 obtain⟨m,e1,rfl⟩:=kL hi;obtain⟨n,e2,rfl⟩:=kL hj;have hm:=qY e1;have hn:=qY e2;have eN:On bd.length W x:=(((aX hw (cC hm)).mem x).mp hx).on hw (cC hm);have:=(jN hw hm hx).one hw eN (jN hw hn hy);subst this;exact Gu e1 e2
def B2{f:Cell->List Cell}:∀l:List Cell,l.Nodup->(∀a∈l,(f a).Nodup)->(∀a∈l,∀b∈l,∀x,x∈f a->x∈f b->a=b)->(l.flatMap f).Nodup
 |[],_,_,_=>Yj
 |a::l,h1,h2,h3=>by
  rw[XW,XG];obtain⟨g1,g2⟩:=Xe.mp h1;refine⟨h2 a (V_ ..),B2 l g2 (λb hb=>h2 b (V8 _ hb)) λb hb c hc=>h3 b (V8 _ hb) c (V8 _ hc),λx hx y hy e=>?_⟩;subst e;obtain⟨b,hb,q⟩:=Yt.mp hy;have:=h3 a (V_ ..) b (V8 _ hb) x hx q;subst this;exact g1 hb
def An:(ax bd W w).flatten=(cB bd W w (aY bd.length W)).flatMap (aG bd W w):=by
 unfold ax;rw[aa3]
def Ia(hw:Ways w):(ax bd W w).flatten.Nodup:=by
 rw[An];refine B2 _ Cu (λa ha=>RiseC.nodup (aX hw (cC ha)).rise) λa ha b hb x hx hy=>?_;exact(jN hw ha hx).one hw ((((aX hw (cC ha)).mem x).mp hx).on hw (cC ha)) (jN hw hb hy)
def Ib(hw:Ways w){x:Cell}(h:x∈(ax bd W w).flatten):On bd.length W x:=by
 obtain⟨P,hP,hx⟩:=ZZ.mp h;exact dH hw P hP x hx
def nV(hw:Ways w)(i j:Nat):eT w (i,j) (i,j+1)=true:=by
 rcases hw with rfl | rfl
 ·simp[eT,gh]
 ·simp[eT,gh]
def ro(hw:Ways w)(i j:Nat):eT w (i,j) (i+1,j)=true:=by
 rcases hw with rfl | rfl
 ·simp[eT,gh]
 ·simp[eT,gh]
end
end K1
namespace K1
open PySem L2 L3
section
open Classical
variable{bd:List Str}{W w:Nat}
abbrev Iu(bd:List Str)(S:D)(nk:List Cell)(f:Cell->Nat)(ks:List Cell)(g:Cell->Int)(x4 x5 x6:Option Sl):cK:=[fz (brd bd),fz S,fz (EO nk λy=> .int (f y:Int)),some (.ow (Fl ks λk=> .int (g k))),x4,x5,x6]
structure SOk (bd:List Str) (W n:Nat) (f:Cell->Nat) (ks:List Cell):Prop where
 nd:ks.Nodup
 is:∀k∈ks,∃x y,On bd.length W x/\On bd.length W y/\eT 4 x y=true/\f x<f y/\k=(f x,f y)
noncomputable def KW(ks:List Cell)(g:Cell->Int)(k:Cell):Int:=if k∈ks then g k else 0
def EY(f:Cell->Nat)(k x y:Cell):Bool:=decide (f x<f y/\(f x,f y)=k)
def Kl(hn:∀z,On bd.length W z->z∈nk/\f z<64)(hx:On bd.length W x)(hy:On bd.length W y)(Pf:eT 4 x y=true)(h:SOk bd W 64 f ks):
 ∃ks' g',SOk bd W 64 f ks'/\(∀k∈ks,k∈ks')/\(f x<f y->(f x,f y)∈ks')/\(∀k,KW ks' g' k=KW ks g k+(if EY f k x y then 1 else 0))/\Q4 (Iu bd S nk f ks g (fz (cD x)) (fz (cD y)) none)=ab (.nx (Iu bd S nk f ks' g' (fz (cD x)) none none)):=by
 have i4:∀{o x6:Option Sl},d2 iZ (dV 2) (dV 4) [fz (brd bd),fz S,fz (EO nk λy=> .int (f y:Int)),o,fz (cD x),fz (cD y),x6]=ab (.int (f x:Int)):=(aH rfl rfl).trans (AH (hn x hx).1);have i5:∀{o x6:Option Sl},d2 iZ (dV 2) (dV 5) [fz (brd bd),fz S,fz (EO nk λy=> .int (f y:Int)),o,fz (cD x),fz (cD y),x6]=ab (.int (f y:Int)):=(aH rfl rfl).trans (AH (hn y hy).1);have Q7:dN (d2 Ox (d2 iZ (dV 2) (dV 4)) (d2 iZ (dV 2) (dV 5))) (Iu bd S nk f ks g (fz (cD x)) (fz (cD y)) none)=ab (decide (f x<f y)):=by
  refine eg ((aH i4 i5).trans ?_);show ab (D.bl (decide ((f x:Int)<(f y:Int))))=_;congr 2;exact ade.mpr (by omega)
 have OR:ks.length<lim:=by
  have:ks.length<=(aY 63 64).length:=bU h.nd λk hk=>by
   obtain⟨a,b,ha,hb,_,QJ,rfl⟩:=h.is k hk;have:=(hn b hb).2;exact aJ.mpr ⟨by show f a<63;omega,this⟩
  rw[bA] at this;rw[cq];omega
 by_cases fJ:f x<f y
 ·rw[ac7 fJ] at Q7;refine⟨b6 ks (f x,f y),λk=>if k=(f x,f y) then(if (f x,f y)∈ks then g (f x,f y) else 0)+1 else g k,⟨(jv [(f x,f y)] ks).1 h.nd,λk hk=>?_⟩,λk hk=>eh.mpr (.inl hk),λ_=>tJ,λk=>?_,?_⟩
  ·rcases eh.mp hk with q | q
   ·exact h.is k q
   ·exact⟨x,y,hx,hy,Pf,fJ,q⟩
  ·unfold KW EY;by_cases e:k=(f x,f y)
   ·subst e;rw[ac5 (eh.mpr (.inr rfl)),ac7 ⟨fJ,rfl⟩];simp only[if_true]
   ·rw[ac8 λq=>e q.2.symm];have:k∈b6 ks (f x,f y)↔k∈ks:=eh.trans ⟨λq=>q.resolve_right e, .inl⟩;simp only[this,ac6 e];simp
  ·have hv:Oh (d2 eW (BU (dV 3) (dV 6) (dC (.int 0))) (dC (.int 1))) (Iu bd S nk f ks g (fz (cD x)) (fz (cD y)) (fz (cD (f x,f y))))=ab (.int ((if (f x,f y)∈ks then g (f x,f y) else 0)+1)):=by
    refine KN ?_ rfl;have e:BU (dV 3) (dV 6) (dC (.int 0)) (Ao (Iu bd S nk f ks g (fz (cD x)) (fz (cD y)) (fz (cD (f x,f y)))))=ab (.int (if (f x,f y)∈ks then g (f x,f y) else 0)):=by
     show getM (EO ks λk=> .int (g k)) (cD (f x,f y)) (.int 0)=_;by_cases q:(f x,f y)∈ks
     ·rw[IT q,ac5 q]
     ·rw[FJ q,ac6 q]
    exact(aH e rfl).trans rfl
   refine(bh (ρ':=Iu bd S nk f (b6 ks (f x,f y)) (λk=>if k=(f x,f y) then(if (f x,f y)∈ks then g (f x,f y) else 0)+1 else g k) (fz (cD x)) (fz (cD y)) (fz (cD (f x,f y)))) (fM Q7 (ao ((aI ((a7 (aE i4 (aE i5 rfl))).trans rfl)).trans rfl) ?_))).trans rfl;refine(wm rfl hv rfl OR).trans ?_;have ef:fN (λk=>D.int (g k)) (f x,f y) (.int ((if (f x,f y)∈ks then g (f x,f y) else 0)+1))=λk=>D.int (if k=(f x,f y) then(if (f x,f y)∈ks then g (f x,f y) else 0)+1 else g k):=by
    funext k;unfold fN;by_cases e:k=(f x,f y)
    ·rw[ac5 e,ac5 e]
    ·rw[ac6 e,ac6 e]
   rw[ef];rfl
 ·rw[ac8 fJ] at Q7;exact⟨ks,g,h,λk hk=>hk,λq=>ac_ q fJ,λk=>by unfold EY;rw[ac8 λq=>fJ q.1];simp,(bh (dE Q7 rfl)).trans rfl⟩
def Lk(hn:∀z,On bd.length W z->z∈nk/\f z<64)(hx:On bd.length W x):∀(l:List Cell) (ks:List Cell) (g:Cell->Int),(∀y∈l,On bd.length W y/\eT 4 x y=true)->SOk bd W 64 f ks->
 ∃ks' g',SOk bd W 64 f ks'/\(∀k∈ks,k∈ks')/\(∀y∈l,f x<f y->(f x,f y)∈ks')/\(∀k,KW ks' g' k=KW ks g k+((l.filter (EY f k x)).length:Int))/\forL (putN 5) Q4 (l.map cD) (Iu bd S nk f ks g (fz (cD x)) none none)=ab (.nx (Iu bd S nk f ks' g' (fz (cD x)) none none))
 |[],ks,g,_,h=>⟨ks,g,h,λk hk=>hk,(λy hy=>(by cases hy)),λk=>by simp,rfl⟩
 |y::l,ks,g,hl,h=>by
  obtain⟨y1,y2⟩:=hl y (V_ ..);obtain⟨k1,g1,a1,a2,a3,a5,a4⟩:=Kl hn hx y1 y2 h;obtain⟨k2,g2,b1,b2,b3,b5,b4⟩:=Lk hn hx l k1 g1 (λz hz=>hl z (V8 _ hz)) a1;refine⟨k2,g2,b1,λk hk=>b2 k (a2 k hk),λz hz q=>?_,λk=>?_,(cU rfl a4).trans b4⟩
  ·rcases Ws.mp hz with e | hz
   ·subst e;exact b2 _ (a3 q)
   ·exact b3 z hz q
  ·rw[b5 k,a5 k,X3];cases EY f k x y
   ·simp
   ·simp;omega
def HM(hg:Brd bd W)(hn:∀z,On bd.length W z->z∈nk/\f z<64):∀(l:List Cell) (ks:List Cell) (g:Cell->Int),(∀x∈l,On bd.length W x)->SOk bd W 64 f ks->
 ∃ks' g',SOk bd W 64 f ks'/\(∀k∈ks,k∈ks')/\(∀x∈l,∀y,On bd.length W y->eT 4 x y=true->f x<f y->(f x,f y)∈ks')/\(∀k,KW ks' g' k=KW ks g k+(((l.map λx=>((c_ bd.length W 4 x).filter (EY f k x)).length).sum:Nat):Int))/\
  forL (putN 4) (cY [4,5,6] (ez (putN 5) (bJ (ar 3 aV (aC (dV 0) (aC (dV 4) (aC (dC (.int 4)) aN))))) Q4)) (l.map cD) (Iu bd S nk f ks g none none none)=ab (.nx (Iu bd S nk f ks' g' none none none))
 |[],ks,g,_,h=>⟨ks,g,h,λk hk=>hk,(λy hy=>(by cases hy)),λk=>by simp,rfl⟩
 |x::l,ks,g,hl,h=>by
  have hx:=hl x (V_ ..);have R4:Ways 4:= .inl rfl;obtain⟨k1,g1,a1,a2,a3,a5,a4⟩:=Lk hn hx (c_ bd.length W 4 x) ks g (λy hy=>(dF R4).mp hy) h;obtain⟨k2,g2,b1,b2,b3,b5,b4⟩:=HM hg hn l k1 g1 (λz hz=>hl z (V8 _ hz)) a1;refine⟨k2,g2,b1,λk hk=>b2 k (a2 k hk),λz hz y hy q1 q2=>?_,λk=>by rw[b5 k,a5 k,Wb,WK,Int.natCast_add,Int.add_assoc],(cU rfl ((bh (eQ ?_ a4)).trans rfl)).trans b4⟩
  ·rcases Ws.mp hz with e | hz
   ·subst e;exact b2 _ (a3 y ((dF R4).mpr ⟨hy,q1⟩) q2)
   ·exact b3 z hz y hy q1 q2
  ·show (ar 3 aV (aC (dV 0) (aC (dV 4) (aC (dC (.int 4)) aN))) _>>=lstM)=_;rw[(ak (ds:=[brd bd,cD x, .int ((4:Nat):Int)]) rfl rfl:ar 3 aV (aC (dV 0) (aC (dV 4) (aC (dC (.int 4)) aN))) _=_),e8 hg R4 hx];rfl
def Bm(hg:Brd bd W)(hs:bd.length*W<64)(hw:Ways w):∃(f:Cell->Nat) (ks:List Cell) (g:Cell->Int),(∀x,On bd.length W x->∃P,(ax bd W w)[f x]? =some P/\x∈P)/\SOk bd W 64 f ks/\(∀x y,On bd.length W x->On bd.length W y->eT 4 x y=true->f x<f y->(f x,f y)∈ks)/\(∀k∈ks,g k=((((aY bd.length W).map λx=>((c_ bd.length W 4 x).filter (EY f k x)).length).sum:Nat):Int))/\
 cT [brd bd, .lst ((ax bd W w).map cL)]=ab (EO ks λk=> .int (g k)):=by
 obtain⟨nk,f,h1,h2,h3⟩:=rn (X8 hs) (dH hw);have hf:∀x,On bd.length W x->x∈nk/\∃P,(ax bd W w)[f x]? =some P/\x∈P:=λx hx=>by
  obtain⟨P,p1,p2⟩:=eL hg hw hx;have:=h2 P p1 x p2;exact⟨this,h1.num x this⟩
 have hl:=gA (bd:=bd) (W:=W) (w:=w);obtain⟨ks,g,a1,a2,a3,a5,a4⟩:=HM hg (f:=f) (λz hz=>⟨(hf z hz).1,by
  obtain⟨P,e,_⟩:=(hf z hz).2;have:=(Wh.mp e).1;omega⟩) (aY bd.length W) [] (λ_=>0) (λx hx=>aJ.mp hx) ⟨Yj,(λk hk=>(by cases hk))⟩
 refine⟨f,ks,g,λx hx=>(hf x hx).2,a1,λx y hx hy=>a3 x (aJ.mpr hx) y hy,λk hk=>by have:=a5 k;unfold KW at this;rw[ac5 hk] at this;simpa using this,?_⟩;refine aP (ao ((aI ((ak rfl rfl).trans h3)).trans rfl) (ao rfl (ao (dq (eQ ?_ a4)) rfl)));show (ar 1 b_ (aC (dV 0) aN) _>>=lstM)=_;rw[(ak rfl rfl:ar 1 b_ (aC (dV 0) aN) _=_),g8 hg];rfl
end
def sh(P Q:List Cell):Nat:=(P.map λx=>(Q.filter λy=>eT 4 x y).length).sum
def iP(f g:α->Nat):∀l:List α,(l.map λx=>f x+g x).sum=(l.map f).sum+(l.map g).sum
 |[]=>rfl
 |a::l=>by
  simp only[Wb,WK,iP f g l];omega
def C1(p:α->Bool)(c:α->Nat):∀l:List α,(l.map λx=>if p x then c x else 0).sum=((l.filter p).map c).sum
 |[]=>rfl
 |a::l=>by
  rw[Wb,WK,C1 p c l,X3];cases p a
  ·simp
  ·simp
def jV(R W w:Nat)(c:Cell):RiseC (c_ R W w c):=by
 unfold c_ RiseC;refine Z5.mpr ⟨λr _=>aa4 _ (XT.mpr ?_),?_⟩
 ·refine XZ (λ{a b} h=>?_) (abV ..);show (if r=r then decide (a<b) else _)=true;rw[ac5 rfl,ac7 h]
 ·refine XZ (λ{a b} h x hx y hy=>?_) (abV ..);obtain⟨_,_,rfl⟩:=Wc.mp (Wu.mp hx).1;obtain⟨_,_,rfl⟩:=Wc.mp (Wu.mp hy).1;show (if a=b then _ else decide (a<b))=true;rw[ac6 (WB h),ac7 h]
section
open Classical
variable{bd:List Str}{W w:Nat}
def lL(hw:Ways w)(hP:P∈ax bd W w):RiseC P:=by
 unfold ax at hP;obtain⟨m,_,rfl⟩:=Wc.mp hP;exact(cz _ _).filter _
end
section
open Classical
variable{bd:List Str}{W w:Nat}
def Gj:∀{l:List α},(∀a∈l,p a=true->q a=false)->(l.filter λa=>p a||q a).length=(l.filter p).length+(l.filter q).length
 |[],_=>rfl
 |a::l,h=>by
  have ih:=Gj λb hb=>h b (V8 _ hb);rw[X3,X3,X3];cases hp:p a with
  |true=>
   rw[h a (V_ ..) hp];simp only[aaL,if_true,WG,if_false,Wf,ih];omega
  |false=>
   cases hq:q a<;>simp only[aaL,Bool.or_true,if_true,WG,if_false,Wf,ih]
   omega
def len_same{α:Type}[DecidableEq α]{a b:List α}(ha:a.Nodup)(hb:b.Nodup)(h:∀x,x∈a↔x∈b):a.length=b.length:=Y8 (nU ha λx hx=>(h x).mp hx) (nU hb λx hx=>(h x).mpr hx)
def LF(x:Cell):List Cell:=[(x.1+1,x.2),(x.1,x.2+1)]
def Gr{x y:Cell}:y∈LF x↔(y.1=x.1+1/\y.2=x.2)\/(y.1=x.1/\y.2=x.2+1):=by
 unfold LF;obtain⟨y1,y2⟩:=y;simp
def MA{x y:Cell}:eT 4 x y=true↔y∈LF x\/x∈LF y:=by
 rw[Gr,Gr];unfold eT gh;rw[ac5 rfl,ac4];omega
def Ks(ks:List Cell)(g:Cell->Int):D:= .lst (ks.map λk=> .tup [cD k, .int (g k)])
def vM{g:α->Int}:∀ks:List α,nums (ks.map λk=> .int (g k))=some (ks.map g)
 |[]=>rfl
 |k::ks=>by
  show (nums (ks.map λk=> .int (g k))).map _=_;rw[vM ks];rfl
def C6(g:Cell->Int):∀ks:List Cell,lU (ks.map ic) (ks.map g)=ks.map λk=>ic k++[g k]
 |[]=>rfl
 |k::ks=>by
  show (ic k++[g k])::lU (ks.map ic) (ks.map g)=_;rw[C6 g ks];rfl
def Kt{g:Cell->Int}{a b:Cell}(h:ic a++[g a]=ic b++[g b]):a=b:=qJ (List.append_inj_left h rfl)
def EB{g:Cell->Int}(hn:ks.Nodup)(hl:ks.length<64):oA (EO ks λk=> .int (g k))=ab (Ks (jz ks) g):=by
 show (match eK (ks.map keyOf),nums (ks.map λk=> .int (g k)) with
  |some kk,some ns=>if kk.length=ns.length/\kk.all (λk=>decide (k.length=2))=true/\d_ (lU kk ns)=true then ab (D.lst ((sortI (lU kk ns)).map CH)) else ag
  |_,_=>ag)=_
 rw[iA,vM]
 dsimp only
 rw[C6];have DK:(ks.map λk=>ic k++[g k]).Nodup:=by
  rw[W2,XT];exact XZ (λh z=>h (Kt z)) hn
 rw[ac5 ⟨by rw[V5,V5],WI.mpr λk hk=>by obtain⟨c,_,rfl⟩:=Wc.mp hk;rfl,by
  unfold d_;rw[Wl,Wl];refine⟨⟨ac7 DK,ac7 (by rw[V5];exact hl)⟩,WI.mpr λk hk=>?_⟩;obtain⟨c,_,rfl⟩:=Wc.mp hk;rfl⟩]
 have e:sortI (ks.map λk=>ic k++[g k])=(jz ks).map λk=>ic k++[g k]:=by
  refine mT (jq DK) ?_ λx=>?_
  ·unfold xo;rw[XT];refine XZ (λ{a b} h=>?_) (XT.mp (p9.mpr (jo hn)));rw[nP _ _ (show (ic a).length=(ic b).length from rfl),ac6 λz=>by rw[z] at h;have:=fL _ _ h;rw[h] at this;cases this];exact h
  ·rw[d5,Wc,Wc];constructor
   ·rintro⟨c,hc,e⟩;exact⟨c,gm.mpr hc,e⟩
   ·rintro⟨c,hc,e⟩;exact⟨c,gm.mp hc,e⟩
 rw[e,WA];rfl
def BL(R W:Nat)(f:Cell->Nat)(k:Cell):Prop:=∃x y,On R W x/\On R W y/\eT 4 x y=true/\f x<f y/\k=(f x,f y)
def C5{ks:List Cell}(hn:ks.Nodup)(h:∀k∈ks,BL R W f k):ks.length<=2*(R*W):=by
 have:ks.length<=((aY R W).flatMap λx=>(LF x).map λy=>((min (f x) (f y),max (f x) (f y)):Cell)).length:=bU hn λk hk=>by
  obtain⟨x,y,hx,hy,h1,h2,rfl⟩:=h k hk;rcases MA.mp h1 with q | q
  ·exact Yt.mpr ⟨x,aJ.mpr hx,Wc.mpr ⟨y,q,by rw[Nat.min_eq_left (by omega),Nat.max_eq_right (by omega)]⟩⟩
  ·exact Yt.mpr ⟨y,aJ.mpr hy,Wc.mpr ⟨x,q,by rw[Nat.min_eq_right (by omega),Nat.max_eq_left (by omega)]⟩⟩
 have l2:=qT (n:=2) (λx=>(LF x).map λy=>((min (f x) (f y),max (f x) (f y)):Cell)) (λx=>by unfold LF;simp) (aY R W);rw[bA] at l2;omega
noncomputable def pf(R W:Nat)(f:Cell->Nat)(k:Cell):Nat:=((aY R W).map λx=>((c_ R W 4 x).filter (EY f k x)).length).sum
def w6(hg:Brd bd W)(h2:2*(bd.length*W)<64)(hw:Ways w):∃(f:Cell->Nat) (ks:List Cell),(∀x,On bd.length W x->∃P,(ax bd W w)[f x]? =some P/\x∈P)/\RiseC ks/\(∀k,k∈ks↔BL bd.length W f k)/\cI [brd bd,iW w]=ab (Ks ks λk=>(pf bd.length W f k:Int)):=by
 have hs:bd.length*W<64:=by omega
 obtain⟨f,ks,g,hf,hS,nI,U5,e⟩:=Bm hg hs hw;have hl:=C5 hS.nd hS.is;refine⟨f,jz ks,hf,jo hS.nd,λk=>gm.trans ⟨hS.is k,λ⟨x,y,a,b,c,d,e⟩=>by rw[e];exact nI x y a b c d⟩,?_⟩;refine aP (ao (bV ((ak rfl rfl).trans hg.nb)) (ao (bV ((ak rfl rfl).trans hw.nw)) (aF ?_)));show (ar 2 cT (aC (dV 0) (aC (ar 2 aO (aC (dV 0) (aC (dV 1) aN))) aN)) _>>=oA)=_;rw[show ar 2 cT (aC (dV 0) (aC (ar 2 aO (aC (dV 0) (aC (dV 1) aN))) aN)) _=ab (EO ks λk=> .int (g k)) from(ak (ds:=[brd bd, .lst ((ax bd W w).map cL)]) (aE rfl (aE ((ak rfl rfl).trans ((cx hg hs hw).trans (by rw[ft]))) rfl)) rfl).trans e,aw,EB hS.nd (by omega)];refine ada (λl=>ab (D.lst l)) (WN λk hk=>?_);rw[U5 k (gm.mp hk)];rfl
end
end K1
namespace K1
open PySem PySem.Spec L2 L3
open PyProof.Rows hiding St
def mh{i:Nat}(h:l[i]? =some d):kY (.lst l) (.int (i:Int))=ab d:=by
 show (match L2.atI l (i:Int) with | some x=>ab x | none=>ag)=_;rw[ij h]
section
open Classical
variable{bd:List Str}{W w:Nat}
def J3(hg:Brd bd W)(hs:bd.length*W<64)(hw:Ways w)(ho:aD (gM (ar 2 ei (aC (dA bu (aC (dV 3) aN)) (aC (dV 2) aN)))) (bq (d2 kY (dV 3) (dV 2))) [fz (brd bd),fz (iW w),fz d,fz (.lst ((ax bd W w).map cL))]=o):
 g7 [fz (brd bd),fz (iW w),fz d,none]=o:=
 ao (bV ((ak rfl rfl).trans hg.nb)) (ao (bV ((ak rfl rfl).trans hw.nw)) (ao ((aI ((ak rfl rfl).trans ((cx hg hs hw).trans (by rw[ft])))).trans rfl) ho))
def Cq(h:ρ[3]? =some (fz (.lst ((ax bd W w).map cL)))):dA bu (aC (dV 3) aN) ρ=ab (.int ((ax bd W w).length:Int)):=by
 refine(a7 (aE (d9 h) rfl)).trans ?_;show ab (D.int (((ax bd W w).map cL).length:Int))=_;rw[V5]
def kM(hg:Brd bd W)(hs:bd.length*W<64)(hw:Ways w){i:Nat}(hi:(ax bd W w)[i]? =some P):aT [brd bd,iW w, .int (i:Int)]=ab (cL P):=by
 have fJ:=(Wh.mp hi).1;have nn:ei [.int ((ax bd W w).length:Int), .int (i:Int)]=ab .non:=by
  refine wz (dE (xG (jE (lC ((ak rfl rfl).trans ((oC (d:= .int (i:Int)) trivial).trans rfl)))) (jE (b:=true) (eg ?_))) rfl);show (if decide ((0:Int)<=(i:Int))=true then ab (D.bl (decide ((i:Int)<((ax bd W w).length:Int)))) else ab (D.bl false))=_;rw[ac5 (by rw[ac4];omega),ac7 (by omega)]
 refine aP (J3 hg hs hw (ao (bV ((ak (aE (Cq rfl) rfl) rfl).trans nn)) (aF ((aH rfl rfl).trans (mh (by rw[Wj,hi];rfl))))))
end
section
open Classical
variable{bd:List Str}{W w:Nat}{P:List Cell}
def ER(P:List Cell)(x:Cell):Nat:=(P.filter λy=>eT 4 x y).length
def pP(P l:List Cell)(a:Int):Int:=l.foldl (λs x=>s+(4 - (ER P x:Int))) a
def rl(hP:P.Nodup)(eN:∀c∈P,On bd.length W c)(x:Cell):((c_ bd.length W 4 x).filter λy=>decide (y∈P)).length=ER P x:=by
 refine len_same ((RiseC.nodup (jV ..)).filter _) (hP.filter _) λy=>?_;rw[Wu,Wu,dF (.inl rfl),ac4];exact⟨λh=>⟨h.2,h.1.2⟩,λh=>⟨⟨eN y h.1,h.2⟩,h.1⟩⟩
def Kc(hg:Brd bd W)(hs:bd.length*W<64)(hw:Ways w){i:Nat}(hi:(ax bd W w)[i]? =some P):xS [brd bd,iW w, .int (i:Int)]=ab (.int (pP P P 0)):=by
 have Tw:P∈ax bd W w:=Wx hi;have hP:=dH hw P Tw;have NQ:P.Nodup:=RiseC.nodup (lL hw Tw);have B8:P.length<64:=by
  have:=bU NQ λx hx=>aJ.mpr (hP x hx);rw[bA] at this;omega
 have e:=(iu (put:=putN 6) (body:=cY [6] (HA 5 (d2 lG (dC (.int 4)) (dA bu (aC (bb 0 (bJ (ar 3 aV (aC (dV 0) (aC (dV 6) (aC (dC (.int 4)) aN))))) (dN (d2 (g_ false) (dV 0) (dV 5))) (dV 0)) aN))))) cD (λs:Int=>[fz (brd bd),fz (iW w),fz (.int (i:Int)),fz (cL P),fz (hX P),fz (.int s),none]) (λs x=>s+(4 - (ER P x:Int))) (λ_=>True) P 0 trivial λs _ x hx=>⟨trivial,_,rfl,by
  have hc:bb 0 (bJ (ar 3 aV (aC (dV 0) (aC (dV 6) (aC (dC (.int 4)) aN))))) (dN (d2 (g_ false) (dV 0) (dV 5))) (dV 0) [fz (brd bd),fz (iW w),fz (.int (i:Int)),fz (cL P),fz (hX P),fz (.int s),fz (cD x)]=ab (cL ((c_ bd.length W 4 x).filter λy=>decide (y∈P))):=by
   refine ba (Mh ((ak rfl rfl).trans (e8 hg (.inl rfl) (hP x hx)))) (gg cD (λy=>decide (y∈P)) _ λy _=>?_) ?_
   ·rw[nB,show dN (d2 (g_ false) (dV 0) (dV 5)) _=ab (decide (y∈P)) from eg ((aH rfl rfl).trans ((i6 (by simp[a9])).trans (by rw[ac6 (by decide)];congr 2;rw[ade];exact d3)))];cases decide (y∈P)<;>rfl
   ·rw[V5,rl NQ hP x,cq];exact WX (Xh ..) (by omega)
  refine(bh (ρ':=[fz (brd bd),fz (iW w),fz (.int (i:Int)),fz (cL P),fz (hX P),fz (.int (s+(4 - (ER P x:Int)))),fz (cD x)]) ?_).trans rfl;show (d2 lG (dC (.int 4)) (dA bu (aC (bb 0 (bJ (ar 3 aV (aC (dV 0) (aC (dV 6) (aC (dC (.int 4)) aN))))) (dN (d2 (g_ false) (dV 0) (dV 5))) (dV 0)) aN)) [fz (brd bd),fz (iW w),fz (.int (i:Int)),fz (cL P),fz (hX P),fz (.int s),fz (cD x)]>>=λd=>match d with | .int b=>ab (Out.nx [fz (brd bd),fz (iW w),fz (.int (i:Int)),fz (cL P),fz (hX P),fz (.int (s+b)),fz (cD x)]) | _=>ag)=_;rw[aH rfl ((a7 (aE hc rfl)).trans (nN _)),rl NQ hP x];rfl⟩).2
 exact aP (ao ((aI ((ak rfl rfl).trans (kM hg hs hw hi))).trans rfl) (ao ((aI ((ak rfl rfl).trans (iC (by omega)))).trans rfl) (ao rfl (ao (dq (eQ rfl e)) rfl))))
def zr(hg:Brd bd W)(hs:bd.length*W<64)(hw:Ways w){i:Nat}(hi:(ax bd W w)[i]? =some P):jF [brd bd,iW w, .int (i:Int)]=ab (.int (P.length:Int)):=
 aP (aF ((a7 (aE ((ak rfl rfl).trans (kM hg hs hw hi)) rfl)).trans (nN _)))
def Ep(P:List Cell):List Int:=P.map λc=>(c.1:Int)
def Dw(P:List Cell):List Int:=P.map λc=>(c.2:Int)
def Ro(P:List Cell):D:= .tup [.int (jR (Ep P)), .int (jR (Dw P)), .int (fQ (Ep P)), .int (fQ (Dw P))]
def ze(h:ρ[i]? =some (fz (cL P)))(hl:P.length<64):bb 0 (bJ (dV i)) bO (d2 bf (dV 0) (dC (.int 0))) ρ=ab (.lst ((Ep P).map D.int)):=by
 unfold Ep;rw[WA];exact ba (Sg h) (cf cD (λc=> .int (c.1:Int)) P λc _=>rfl) (by rw[V5,cq];omega)
def xD(h:ρ[i]? =some (fz (cL P)))(hl:P.length<64):bb 0 (bJ (dV i)) bO (d2 bf (dV 0) (dC (.int 1))) ρ=ab (.lst ((Dw P).map D.int)):=by
 unfold Dw;rw[WA];exact ba (Sg h) (cf cD (λc=> .int (c.2:Int)) P λc _=>rfl) (by rw[V5,cq];omega)
def jW(l:List Int):nums (l.map D.int)=some l:=by
 have:=vM (g:=id) l;simpa using this
def Ju(h:0<l.length):mr [.lst (l.map D.int)]=ab (.int (jR l)):=by
 show (match nums (l.map D.int) with | some ns=>if 0<ns.length then ab (D.int (jR ns)) else ag | none=>ag)=_;rw[jW];exact ac5 h
def Gq(h:0<l.length):jw [.lst (l.map D.int)]=ab (.int (fQ l)):=by
 show (match nums (l.map D.int) with | some ns=>if 0<ns.length then ab (D.int (fQ ns)) else ag | none=>ag)=_;rw[jW];exact ac5 h
def Ly(hP:0<P.length)(h1:ρ[i]? =some (fz (.lst ((Ep P).map D.int))))(h2:ρ[j]? =some (fz (.lst ((Dw P).map D.int)))):
 dA d7 (aC (dA mr (aC (dV i) aN)) (aC (dA mr (aC (dV j) aN)) (aC (dA jw (aC (dV i) aN)) (aC (dA jw (aC (dV j) aN)) aN)))) ρ=ab (Ro P):=by
 have l1:0<(Ep P).length:=by unfold Ep;rw[V5];exact hP
 have l2:0<(Dw P).length:=by unfold Dw;rw[V5];exact hP
 exact(a7 (aE ((a7 (aE (d9 h1) rfl)).trans (Ju l1)) (aE ((a7 (aE (d9 h2) rfl)).trans (Ju l2)) (aE ((a7 (aE (d9 h1) rfl)).trans (Gq l1)) (aE ((a7 (aE (d9 h2) rfl)).trans (Gq l2)) rfl))))).trans rfl
def IC(hg:Brd bd W)(hs:bd.length*W<64)(hw:Ways w){i:Nat}(hi:(ax bd W w)[i]? =some P)(hP:0<P.length)(hl:P.length<64):xR [brd bd,iW w, .int (i:Int)]=ab (Ro P):=
 aP (ao ((aI ((ak rfl rfl).trans (kM hg hs hw hi))).trans rfl) (ao ((aI (ze rfl hl)).trans rfl) (ao ((aI (xD rfl hl)).trans rfl) (aF (Ly hP rfl rfl)))))
end
noncomputable def EZ(bd:List Str)(W w:Nat):List (Nat×List Cell):=(ax bd W w).zipIdx.map λq:List Cell×Nat=>(q.2,q.1)
section
open Classical
variable{bd:List Str}{W w:Nat}
def Hn(h:q∈EZ bd W w):(ax bd W w)[q.1]? =some q.2:=by
 obtain⟨p,hp,rfl⟩:=Wc.mp h;exact YA.mp hp
def rQ(hs:bd.length*W<64)(hw:Ways w)(h:P∈ax bd W w):(∀c∈P,On bd.length W c)/\P.Nodup/\0<P.length/\P.length<64:=by
 have hP:=dH hw P h;have NQ:P.Nodup:=RiseC.nodup (lL hw h);refine⟨hP,NQ,?_,?_⟩
 ·unfold ax at h;obtain⟨m,hm,rfl⟩:=Wc.mp h;exact Xn (((aX hw (cC hm)).mem m).mpr Cn.refl)
 ·have:=bU NQ λx hx=>aJ.mpr (hP x hx);rw[bA] at this;omega
def NN(R W:Nat)(q:Nat×List Cell):Bool:=q.2.any λc=>!qK R W c
noncomputable def LH(bd:List Str)(W:Nat)(l:List (Nat×List Cell)):List D:=l.flatMap λq=>if NN bd.length W q then [D.int (q.1:Int)] else []
def nE(enc g:α->D)(p:α->Bool):∀xs:List α,(∀x∈xs,f (enc x)=ab (if p x then some (g x) else none))->d6 f (xs.map enc)=ab (xs.flatMap λx=>if p x then [g x] else [])
 |[],_=>rfl
 |x::xs,h=>by
  rw[Wb,eI,h x (V_ ..),nE enc g p xs λy hy=>h y (V8 _ hy),XW];cases p x<;>rfl
def IM(l:List (Nat×List Cell)):(LH bd W l).length<=l.length:=by
 have:=qT (n:=1) (λq:Nat×List Cell=>if NN bd.length W q then [D.int (q.1:Int)] else []) (λq=>by split<;>simp) l;unfold LH;omega
def Jp:(EZ bd W w).length=(ax bd W w).length:=by simp[EZ]
def xt(hg:Brd bd W)(hs:bd.length*W<64)(hw:Ways w):il [brd bd,iW w]=ab (.lst (LH bd W (EZ bd W w))):=by
 have hl:=gA (bd:=bd) (W:=W) (w:=w);refine aP (ao (bV ((ak rfl rfl).trans hg.nb)) (ao (bV ((ak rfl rfl).trans hw.nw)) (aF (ba ?_ (nE LI (λq=> .int (q.1:Int)) (NN bd.length W) (EZ bd W w) λq hq=>?_) ?_))))
 ·show ((ar 2 aO (aC (dV 0) (aC (dV 1) aN)) _>>=λx=>ab [x])>>=qr)=_;rw[show ar 2 aO (aC (dV 0) (aC (dV 1) aN)) _=ab (.lst ((ax bd W w).map cL)) from(ak rfl rfl).trans ((cx hg hs hw).trans (by rw[ft]))];exact ada ab (nS _)
 ·obtain⟨h1,_,_,h4⟩:=rQ hs hw (Wx (Hn hq));have e:gQ 2 (cg (ar 2 br (aC (dV 2) (aC (dV 1) aN)))) (dV 0) [fz (brd bd),fz (iW w)] (LI q)=(cg (ar 2 br (aC (dV 2) (aC (dV 1) aN))) [fz (.int (q.1:Int)),fz (cL q.2),fz (brd bd),fz (iW w)]>>=λb=>if b then ab (some (D.int (q.1:Int))) else ab none):=rfl;refine e.trans ?_;rw[show cg (ar 2 br (aC (dV 2) (aC (dV 1) aN))) _=ab (NN bd.length W q) from lC ((ak rfl rfl).trans (tU hg h1 (by omega)))];cases NN bd.length W q<;>rfl
 ·have:=IM (bd:=bd) (W:=W) (EZ bd W w);rw[Jp] at this;rw[cq];show (LH bd W (EZ bd W w)).length<=4096;omega
noncomputable def nR(bd:List Str)(W w:Nat):List Int:=(ax bd W w).map λP=>(P.length:Int)
def Gk(hs:bd.length*W<64)(h:δ ρ=ab (.lst ((ax bd W w).map cL))):bb 0 (bJ δ) bO (dA bu (aC (dV 0) aN)) ρ=ab (.lst ((nR bd W w).map D.int)):=by
 have hl:=gA (bd:=bd) (W:=W) (w:=w);unfold nR;rw[WA];exact ba (pK h) (cf cL (λP=> .int (P.length:Int)) _ λP _=>by
  rw[g9,show dA bu (aC (dV 0) aN) _=ab (.int (P.length:Int)) from(a7 rfl).trans (nN _)];rfl) (by rw[V5,cq];omega)
noncomputable def Rp(bd:List Str)(W w:Nat):D:= .int ((nR bd W w).idxOf (fQ (nR bd W w)):Int)
def FL(hg:Brd bd W)(hw:Ways w)(h:ρ[i]? =some (fz (.lst ((nR bd W w).map D.int)))):dM uc ye (dV i) (aC (dA jw (aC (dV i) aN)) aN) ρ=ab (Rp bd W w):=by
 have hl:0<(nR bd W w).length:=by
  obtain⟨P,hP,_⟩:=eL hg hw (x:=(0,0)) ⟨hg.r1,hg.w1⟩;unfold nR;rw[V5];exact Xn hP
 show (dV i ρ>>=λd=>if uc d then(aC (dA jw (aC (dV i) aN)) aN ρ>>=λds=>ye d ds) else ag)=_;rw[d9 h,aw,ac5 (show uc (.lst ((nR bd W w).map D.int))=true from rfl),aE ((a7 (aE (d9 h) rfl)).trans (Gq hl)) rfl,aw];show (match nums ((nR bd W w).map D.int) with | some ns=>if ns.contains (fQ (nR bd W w)) then ab (D.int (ns.idxOf (fQ (nR bd W w)))) else ag | none=>ag)=_;rw[jW];exact ac5 (by simpa using (gj hl).1)
def vy(hg:Brd bd W)(hs:bd.length*W<64)(hw:Ways w):gu [brd bd,iW w]=ab (Rp bd W w):=
 aP (ao (bV ((ak rfl rfl).trans hg.nb)) (ao (bV ((ak rfl rfl).trans hw.nw)) (ao ((aI (Gk hs ((ak rfl rfl).trans ((cx hg hs hw).trans (by rw[ft]))))).trans rfl) (aF (FL hg hw rfl)))))
def many(m:Nat)(hm:m<=64)(h:∀k:Nat,k<m->δ (fz (.int (k:Int))::ρ)=ab (g k)):bb 0 (λρ=>(aC (dC (.int (m:Int))) aN) ρ>>=j8) bO δ ρ=ab (.lst ((Wo m).map g)):=by
 refine ba (Hv rfl (by omega)) (cf (λ(k:Nat)=>D.int (k:Int)) g (Wo m) λk hk=>?_) (by rw[V5,XU,cq];omega);rw[g9,h k (WT.mp hk)];rfl
end
end K1
namespace K1
open PySem L2 L3
structure Iso (a a':List Str) (W W' w:Nat) (φ:Cell->Cell):Prop where
 on:∀x,On a.length W x->On a'.length W' (φ x)
 nx:∀x y,On a.length W x->On a.length W y->eT w x y=true->eT w (φ x) (φ y)=true
 lt:∀x,On a.length W x->lt a' (φ x)=lt a x
section
open Classical
variable{a a':List Str}{W W' w:Nat}{φ ψ:Cell->Cell}
def Iso.rb(h:Iso a a' W W' w φ)(hw:Ways w){x:Cell}(hx:On a.length W x):∀{j:Nat}{y:Cell},Rb (bH a W w) x j y->Rb (bH a' W' w) (φ x) j (φ y)
 |0,y,q=>ada φ q
 |j+1,y,q=>q.elim (λq=> .inl (h.rb hw hx q)) λ⟨z,q1,q2⟩=>by
  have hz:=CT hw hx q1;have hy:=(eO hw).mp q2;exact .inr ⟨φ z,h.rb hw hx q1,(eO hw).mpr ⟨h.on y hy.1,h.nx z y hz hy.1 hy.2.1,by rw[h.lt y hy.1,h.lt z hz,hy.2.2]⟩⟩
def Iso.cn(h:Iso a a' W W' w φ)(hw:Ways w){x y:Cell}(hx:On a.length W x)(q:Cn a W w x y):Cn a' W' w (φ x) (φ y):=let ⟨j,q⟩:=q;⟨j,h.rb hw hx q⟩
def uI(hw:Ways w){x:Cell}(hx:On a.length W x):(aG a W w x).Nodup:=RiseC.nodup (aX hw hx).rise
structure Iso2 (a a':List Str) (W W' w:Nat) (φ ψ:Cell->Cell):Prop where
 f:Iso a a' W W' w φ
 g:Iso a' a W' W w ψ
 fg:∀x,On a.length W x->ψ (φ x)=x
 gf:∀x,On a'.length W' x->φ (ψ x)=x
def Iso2.symm(h:Iso2 a a' W W' w φ ψ):Iso2 a' a W' W w ψ φ:=⟨h.g,h.f,h.gf,h.fg⟩
def gn(hw:Ways w){P:List Cell}(hP:P∈ax a W w){x:Cell}(hx:x∈P):aG a W w x=P:=by
 obtain⟨m,hm,rfl⟩:=Wc.mp (show P∈(cB a W w (aY a.length W)).map (aG a W w) from hP);have NU:=cC hm;have h1:=aX hw NU;have hc:=(h1.mem x).mp hx;have h2:=aX hw (hc.on hw NU);exact oe h2.rise h1.rise λy=>by
  rw[h2.mem,h1.mem];exact⟨λq=>hc.trans q,λq=>(hc.symm hw NU).trans q⟩
def vm{V i j:Nat}(hi:i<V)(hj:j<V):gh (V - 1 - i) (V - 1 - j)=gh i j:=by unfold gh;omega
def S0(n:Nat)(x:Cell):Cell:=(x.2,n - 1 - x.1)
def Uo(n:Nat)(x:Cell):Cell:=(n - 1 - x.2,x.1)
def AE:Iso2 a (turn a W) W a.length w (S0 a.length) (Uo a.length) where
 f:=⟨λx h=>⟨by rw[kr];exact h.2,by show a.length - 1 - x.1<_;have:=h.1;omega⟩,λx y hx hy h=>by
  unfold eT S0 at*;simp only[vm hx.1 hy.1,aah (gh x.2 y.2),ack (gh x.2 y.2)];exact h,λx h=>by
  have h1:=h.1;show at2 (turn a W) x.2 (a.length - 1 - x.1)=at2 a x.1 x.2;rw[C8 h.2 (by omega)];congr 1;omega⟩
 g:=⟨λx h=>by
  rw[kr] at h;exact⟨by show a.length - 1 - x.2<_;have:=h.2;omega,h.1⟩,λx y hx hy h=>by
  unfold eT Uo at*;simp only[vm hx.2 hy.2,aah (gh x.2 y.2),ack (gh x.2 y.2)];exact h,λx h=>by
  rw[kr] at h;exact(C8 h.1 h.2).symm⟩
 fg:=λx h=>aaF (by show a.length - 1 - (a.length - 1 - x.1)=x.1;have:=h.1;omega) rfl
 gf:=λx h=>aaF rfl (by show a.length - 1 - (a.length - 1 - x.2)=x.2;have:=h.2;omega)
def t5(hg:Brd a W)(hw:Ways w):(ax a W w).flatten.Perm (aY a.length W):=
 (XR (Ia hw) (RiseC.nodup (cz _ _))).mpr λx=>by
  rw[aJ];exact⟨Ib hw,λhx=>let ⟨P,h1,h2⟩:=eL hg hw hx;ZZ.mpr ⟨P,h1,h2⟩⟩
end
end K1
namespace K1
open PySem PySem.Spec L2 L3
section
open Classical
noncomputable def oE(R W:Nat):List (Cell×Cell):=(aY R W).flatMap λx=>(c_ R W 4 x).map λy=>(x,y)
def i8{p:Cell×Cell}:p∈oE R W↔On R W p.1/\On R W p.2/\eT 4 p.1 p.2=true:=by
 unfold oE;rw[Yt];constructor
 ·rintro⟨x,hx,h⟩;obtain⟨y,hy,rfl⟩:=Wc.mp h;exact⟨aJ.mp hx,(dF (.inl rfl)).mp hy⟩
 ·rintro⟨h1,h2⟩;exact⟨p.1,aJ.mpr h1,Wc.mpr ⟨p.2,(dF (.inl rfl)).mpr h2,rfl⟩⟩
def qX{α β:Type}{f:α->β}{l:List α}(hn:l.Nodup)(h:∀a∈l,∀b∈l,f a=f b->a=b):(l.map f).Nodup:=by
 refine XT.mpr ?_;induction l with
 |nil=>exact .nil
 |cons x l ih=>
  have hn:=Xe.mp hn;exact W7.mpr ⟨λb hb z=>hn.1 (by rw[h x (V_ ..) b (V8 _ hb) z];exact hb),ih hn.2 λa ha b hb=>h a (V8 _ ha) b (V8 _ hb)⟩
def E3:(oE R W).Nodup:=by
 unfold oE;refine Z5.mpr ⟨λx _=>qX (RiseC.nodup (jV ..)) λa _ b _ z=>ada abT z,?_⟩;refine XZ (λ{a b} h x hx y hy z=>?_) (RiseC.nodup (cz R W));obtain⟨_,_,rfl⟩:=Wc.mp hx;obtain⟨_,_,rfl⟩:=Wc.mp hy;exact h (ada acI z)
def xC(q:Cell->Cell->Bool):(oE R W).countP (λp=>q p.1 p.2)=((aY R W).map λx=>(c_ R W 4 x).countP (q x)).sum:=by
 unfold oE;rw[List.countP_flatMap];congr 1;refine WN λx _=>?_;show List.countP _ (List.map _ _)=_;rw[List.countP_map];rfl
def HC(f:Cell->Nat)(k:Cell):pf R W f k=(oE R W).countP λp=>EY f k p.1 p.2:=by
 rw[xC (λx y=>EY f k x y)];unfold pf;congr 1;exact WN λx _=>(Xc ..).symm
def qj{α:Type}{p q:α->Bool}{l:List α}(h:∀a∈l,p a=true->q a=false):l.countP (λa=>p a||q a)=l.countP p+l.countP q:=by
 rw[Xc,Xc,Xc,Gj h]
def qk{α β:Type}{a:List α}{b:List β}{f:α->β}{p:α->Bool}{q:β->Bool}(h:(a.map f).Perm b)(e:∀x∈a,p x=q (f x)):a.countP p=b.countP q:=by
 rw[<-h.countP_eq,List.countP_map];exact Xv λx hx=>by rw[e x hx];rfl
def zD{α:Type}(key:α->Cell)(sel:α->Bool)(l:List α):∀ks:List Cell,ks.Nodup->(ks.map λk=>l.countP λa=>sel a&&decide (key a=k)).sum=l.countP λa=>sel a&&decide (key a∈ks)
 |[],_=>by simp
 |k::ks,hn=>by
  have hn:=Xe.mp hn;rw[Wb,WK,zD key sel l ks hn.2,<-qj]
  ·refine Xv λa _=>?_;rw[Y6,Wl,Wl,Wl,ac4,ac4,ac4,Ws];constructor
   ·rintro(⟨h1,h2⟩ | ⟨h1,h2⟩)
    ·exact⟨h1, .inl h2⟩
    ·exact⟨h1, .inr h2⟩
   ·rintro⟨h1,h2 | h2⟩
    ·exact .inl ⟨h1,h2⟩
    ·exact .inr ⟨h1,h2⟩
  ·intro a _ h;rw[Wl,ac4] at h;rw[ac8 (by rw[h.2];exact hn.1),aao]
def xp:((oE R W).map λp=>(p.2,p.1)).Perm (oE R W):=by
 refine(XR (qX E3 λa _ b _ z=>aaF (ada abT z) (ada acI z)) E3).mpr λp=>?_;rw[Wc];constructor
 ·rintro⟨q,hq,rfl⟩;obtain⟨h1,h2,h3⟩:=i8.mp hq;exact i8.mpr ⟨h2,h1,by rw[iF];exact h3⟩
 ·intro hp;obtain⟨h1,h2,h3⟩:=i8.mp hp;exact⟨(p.2,p.1),i8.mpr ⟨h2,h1,by rw[iF];exact h3⟩,rfl⟩
def HQ{f:Cell->Nat}{ks:List Cell}(hn:ks.Nodup)(hk:∀k,k∈ks↔BL R W f k)(t:Cell->Bool):((ks.filter t).map λk=>pf R W f k).sum=(oE R W).countP λp=>decide (f p.1<f p.2)&&t (f p.1,f p.2):=by
 have h:=zD (λp:Cell×Cell=>(f p.1,f p.2)) (λp=>decide (f p.1<f p.2)) (oE R W) (ks.filter t) (hn.filter _);rw[WN (λk _=>by
  rw[HC];exact Xv λp _=>by unfold EY;rw[Wl,ac4,ac4,ac4]:∀k∈ks.filter t,pf R W f k=(oE R W).countP λp=>decide (f p.1<f p.2)&&decide ((f p.1,f p.2)=k)),h]
 refine Xv λp hp=>?_;obtain⟨h1,h2,h3⟩:=i8.mp hp;rw[Wl,Wl,ac4,ac4,Wu];exact⟨λh=>⟨h.1,h.2.2⟩,λh=>⟨h.1,(hk _).mpr ⟨p.1,p.2,h1,h2,h3,h.1,rfl⟩,h.2⟩⟩
def C3{f:Cell->Nat}{ks:List Cell}(hn:ks.Nodup)(hk:∀k,k∈ks↔BL R W f k)(i:Nat):((ks.filter λk=>decide (i=k.1)||decide (i=k.2)).map λk=>pf R W f k).sum=(oE R W).countP λp=>decide (f p.1=i)&&decide (f p.2≠i):=by
 rw[HQ hn hk];have e1:(oE R W).countP (λp=>decide (f p.1<f p.2)&&(decide (i=(f p.1,f p.2).1)||decide (i=(f p.1,f p.2).2)))=(oE R W).countP (λp=>decide (f p.1<f p.2)&&decide (f p.1=i))+(oE R W).countP (λp=>decide (f p.1<f p.2)&&decide (f p.2=i)):=by
  rw[<-qj]
  ·refine Xv λp _=>?_;simp only[Y6,Wl,ac4];constructor
   ·rintro⟨h1,h2 | h2⟩
    ·exact .inl ⟨h1,h2.symm⟩
    ·exact .inr ⟨h1,h2.symm⟩
   ·rintro(⟨h1,h2⟩ | ⟨h1,h2⟩)
    ·exact⟨h1, .inl h2.symm⟩
    ·exact⟨h1, .inr h2.symm⟩
  ·intro p _ h;simp only[Wl,ac4] at h;rw[ac8 (p:=f p.2=i) (by omega),aao]
 have e2:(oE R W).countP (λp=>decide (f p.1<f p.2)&&decide (f p.2=i))=(oE R W).countP (λp=>decide (f p.2<f p.1)&&decide (f p.1=i)):=qk xp λp _=>rfl;rw[e1,e2,<-qj]
 ·refine Xv λp _=>?_;simp only[Y6,Wl,ac4];omega
 ·intro p _ h;simp only[Wl,ac4] at h;rw[ac8 (p:=f p.2<f p.1) (by omega),aan]
def Kp{f:Cell->Nat}{ks:List Cell}(hn:ks.Nodup)(hk:∀k,k∈ks↔BL R W f k):2*(ks.map λk=>pf R W f k).sum=(oE R W).countP λp=>decide (f p.1≠f p.2):=by
 have h:=HQ hn hk λ_=>true;rw[List.filter_eq_self.mpr λ_ _=>rfl] at h;have e1:(oE R W).countP (λp=>decide (f p.1<f p.2)&&true)=(oE R W).countP (λp=>decide (f p.2<f p.1)&&true):=qk xp λp _=>rfl;have e3:(oE R W).countP (λp=>decide (f p.1≠f p.2))=(oE R W).countP (λp=>decide (f p.1<f p.2)&&true)+(oE R W).countP (λp=>decide (f p.2<f p.1)&&true):=by
  rw[<-qj]
  ·refine Xv λp _=>?_;simp only[Y6,Wl,ac4,and_true];omega
  ·intro p _ h;simp only[Wl,ac4,and_true] at h;rw[ac8 (p:=f p.2<f p.1) (by omega),aan]
 omega
def La(R W:Nat)(x:Cell):Nat:=(if x.1=0 then 1 else 0)+(if x.1+1=R then 1 else 0)+(if x.2=0 then 1 else 0)+(if x.2+1=W then 1 else 0)
def QX(R W:Nat)(x:Cell):List Cell:=((if 0<x.1 then [(x.1 - 1,x.2)] else [])++(if x.1+1<R then [(x.1+1,x.2)] else []))++((if 0<x.2 then [(x.1,x.2 - 1)] else [])++(if x.2+1<W then [(x.1,x.2+1)] else []))
def H8{r R:Nat}(h:r<R):((if 0<r then 1 else 0)+(if r+1<R then 1 else 0))+((if r=0 then 1 else 0)+(if r+1=R then 1 else 0))=2:=by
 split<;>split<;>split<;>split<;>omega
def len_ite{α:Type}{p:Prop}{a:α}[Decidable p]:(if p then [a] else []).length=if p then 1 else 0:=by split<;>rfl
def four{x:Cell}(hx:On R W x):(c_ R W 4 x).length+La R W x=4:=by
 obtain⟨r,c⟩:=x;obtain⟨h1,h2⟩:=hx;have h1:r<R:=h1;have h2:c<W:=h2;have e:(c_ R W 4 (r,c)).length=(QX R W (r,c)).length:=by
  refine len_same (RiseC.nodup (jV ..)) ?_ λy=>?_
  ·unfold QX
   dsimp only
   split<;>split<;>split<;>split<;>simp<;>omega
  ·obtain⟨a,b⟩:=y;rw[dF (.inl rfl)];unfold QX eT gh On;simp only[WZ,List.mem_ite_nil_right,X1,Prod.mk.injEq,if_true,ac4];omega
 rw[e];unfold QX La;simp only[Wq,len_ite];have:=H8 h1;have:=H8 h2;omega
end
section
open Classical
variable{bd:List Str}{W w:Nat}
def mS(P:List Cell):∀(l:List Cell) (a:Int),pP P l a=a+4*(l.length:Int) - ((l.map (ER P)).sum:Nat)
 |[],a=>by simp[pP]
 |x::l,a=>by
  show pP P l (a+(4 - (ER P x:Int)))=_;rw[mS P l,Wb,WK,Wf];omega
def wX{α:Type}{f g h:α->Nat}:∀{l:List α},(∀x∈l,f x+g x=h x)->(l.map f).sum+(l.map g).sum=(l.map h).sum
 |[],_=>rfl
 |x::l,e=>by
  have:=wX λy hy=>e y (V8 _ hy);have:=e x (V_ ..);simp only[Wb,WK];omega
def kS{α:Type}{c:Nat}:∀{l:List α},(l.map λ_=>c).sum=c*l.length
 |[]=>rfl
 |x::l=>by rw[Wb,WK,kS,Wf,Nat.mul_succ,aah]
def Num(bd:List Str)(W w:Nat)(f:Cell->Nat):Prop:=∀x,On bd.length W x->∃P,(ax bd W w)[f x]? =some P/\x∈P
def kK{f:Cell->Nat}{i:Nat}(hw:Ways w)(hf:Num bd W w f)(hi:(ax bd W w)[i]? =some P){x:Cell}:x∈P↔On bd.length W x/\f x=i:=by
 constructor
 ·intro hx;have ho:=dH hw P (Wx hi) x hx;obtain⟨Q,h1,h2⟩:=hf x ho;exact⟨ho,Cd hw h1 hi h2 hx⟩
 ·rintro⟨ho,rfl⟩;obtain⟨Q,h1,h2⟩:=hf x ho;rw[hi] at h1;cases h1;exact h2
def Nm{f:Cell->Nat}{ks P:List Cell}{i:Nat}(hw:Ways w)(hf:Num bd W w f)(hn:ks.Nodup)(hk:∀k,k∈ks↔BL bd.length W f k)(hi:(ax bd W w)[i]? =some P):
 pP P P 0=((((ks.filter λk=>decide (i=k.1)||decide (i=k.2)).map λk=>pf bd.length W f k).sum:Nat):Int)+((P.map (La bd.length W)).sum:Nat):=by
 have hP:P.Nodup:=RiseC.nodup (lL hw (Wx hi));have eN:=dH hw P (Wx hi);have e1:(oE bd.length W).countP (λp=>decide (f p.1=i)&&decide (f p.2≠i))=(P.map λx=>(c_ bd.length W 4 x).countP λy=>decide (f y≠i)).sum:=by
  rw[xC (λx y=>decide (f x=i)&&decide (f y≠i))];have:((aY bd.length W).filter λx=>decide (f x=i)).Perm P:=(XR ((RiseC.nodup (cz _ _)).filter _) hP).mpr λx=>by
   rw[Wu,aJ,ac4,kK hw hf hi]
  rw[<-(this.map _).sum_nat,<-C1];congr 1;refine WN λx _=>?_;by_cases h:f x=i
  ·simp[h]
  ·simp[h]
 have e2:∀x∈P,(c_ bd.length W 4 x).countP (λy=>decide (f y≠i))+ER P x=(c_ bd.length W 4 x).length:=λx hx=>by
  rw[<-rl (bd:=bd) (W:=W) hP eN x,<-Xc,List.length_eq_countP_add_countP (λy=>decide (y∈P)),aah];congr 1;refine Xv λy hy=>?_;have ho:=((dF (.inl rfl)).mp hy).1;rw[ac4,ac4,ac4,kK hw hf hi];exact⟨λh z=>h z.2,λh z=>h ⟨ho,z⟩⟩
 have s1:=wX e2;have s2:=wX (l:=P) (f:=λx=>(c_ bd.length W 4 x).length) (g:=La bd.length W) (h:=λ_=>4) λx hx=>four (eN x hx);rw[kS] at s2;rw[C3 hn hk,e1,mS];omega
variable{a a':List Str}{W':Nat}{φ ψ:Cell->Cell}
def nY(hw:Ways w){P:List Cell}(hP:P∈ax a W w):∃x,x∈P:=by
 unfold ax at hP;obtain⟨m,hm,rfl⟩:=Wc.mp hP;exact⟨m,((aX hw (cC hm)).mem m).mpr Cn.refl⟩
def uH(hw:Ways w):(ax a W w).Nodup:=W6.mpr λi j hi hj jC z=>by
 obtain⟨x,hx⟩:=nY hw (WR hi);have:=Cd hw (V6 hi) (V6 hj) hx (z▸hx);omega
def Iso2.patches{β:Type}(h:Iso2 a a' W W' w φ ψ)(hg:Brd a W)(FT:Brd a' W')(hw:Ways w)(g g':List Cell->β)(e:∀x,On a.length W x->g' (aG a' W' w (φ x))=g (aG a W w x)):((ax a' W' w).map g').Perm ((ax a W w).map g):=by
 let T:List Cell->List Cell:=λP=>aG a' W' w (φ (P.headD (0,0)))
 have hd:∀P∈ax a W w,P.headD (0,0)∈P/\On a.length W (P.headD (0,0))/\aG a W w (P.headD (0,0))=P:=λP hP=>by
  have hm:P.headD (0,0)∈P:=by
   obtain⟨x,hx⟩:=nY hw hP;cases P with
   |nil=>cases hx
   |cons x P=>exact V_ ..
  exact⟨hm,dH hw P hP _ hm,gn hw hP hm⟩
 have own:∀{b:List Str}{V:Nat}{x y:Cell},On b.length V x->Cn b V w x y->aG b V w y=aG b V w x:=λ{b V x y} hx hc=>by
  unfold aG;refine ac0 λz _=>?_;exact ade.mpr ⟨λq=>hc.trans q,λq=>(hc.symm hw hx).trans q⟩
 have hp:((ax a W w).map T).Perm (ax a' W' w):=by
  refine(XR (qX (uH hw) λP hP Q hQ z=>?_) (uH hw)).mpr λQ=>?_
  ·obtain⟨p1,p2,p3⟩:=hd P hP;obtain⟨q1,q2,q3⟩:=hd Q hQ;have z:aG a' W' w (φ (P.headD (0,0)))=aG a' W' w (φ (Q.headD (0,0))):=z;have:φ (Q.headD (0,0))∈aG a' W' w (φ (P.headD (0,0))):=by
    rw[z];exact((aX hw (h.f.on _ q2)).mem _).mpr Cn.refl
   have c:=h.g.cn hw (h.f.on _ p2) (((aX hw (h.f.on _ p2)).mem _).mp this);rw[h.fg _ p2,h.fg _ q2] at c;rw[<-p3,<-q3,own p2 c]
  ·rw[Wc];constructor
   ·rintro⟨P,hP,rfl⟩;obtain⟨p1,p2,p3⟩:=hd P hP;obtain⟨Q,q1,q2⟩:=eL FT hw (h.f.on _ p2);show aG a' W' w (φ (P.headD (0,0)))∈_;rw[gn hw q1 q2];exact q1
   ·intro hQ;obtain⟨y,y1⟩:=nY hw hQ;have y2:=dH hw Q hQ y y1;obtain⟨P,p1,p2⟩:=eL hg hw (h.g.on y y2);obtain⟨h1,h2,h3⟩:=hd P p1;refine⟨P,p1,?_⟩;show aG a' W' w (φ (P.headD (0,0)))=Q;have c:Cn a W w (P.headD (0,0)) (ψ y):=((aX hw h2).mem _).mp (by rw[h3];exact p2);have c:=h.f.cn hw h2 c;rw[h.gf y y2] at c;rw[<-own (h.f.on _ h2) c,gn hw hQ y1]
 refine((hp.map g').symm.trans ?_);rw[WA];refine .of_eq (WN λP hP=>?_);obtain⟨_,h2,h3⟩:=hd P hP;show g' (aG a' W' w (φ (P.headD (0,0))))=_;rw[e _ h2,h3]
end
section
open Classical
variable{a a':List Str}{W W' w:Nat}{φ ψ:Cell->Cell}
def Iso2.inj(h:Iso2 a a' W W' w φ ψ){x y:Cell}(hx:On a.length W x)(hy:On a.length W y)(e:φ x=φ y):x=y:=by rw[<-h.fg x hx,e,h.fg y hy]
def Iso2.same(h:Iso2 a a' W W' w φ ψ){x y:Cell}(hx:On a.length W x)(hy:On a.length W y):eT w x y=eT w (φ x) (φ y):=by
 rw[aac];refine⟨h.f.nx x y hx hy,λq=>?_⟩;have:=h.g.nx _ _ (h.f.on x hx) (h.f.on y hy) q;rw[h.fg x hx,h.fg y hy] at this;exact this
def Iso2.pperm(h:Iso2 a a' W W' w φ ψ)(hw:Ways w){x:Cell}(hx:On a.length W x):((aG a W w x).map φ).Perm (aG a' W' w (φ x)):=by
 have hP:=aX hw hx;have B7:=aX hw (h.f.on x hx);refine(XR (qX (uI hw hx) λy hy z hz e=>h.inj (((hP.mem y).mp hy).on hw hx) (((hP.mem z).mp hz).on hw hx) e) (uI hw (h.f.on x hx))).mpr λy=>?_;rw[Wc];constructor
 ·rintro⟨z,hz,rfl⟩;exact(B7.mem _).mpr (h.f.cn hw hx ((hP.mem z).mp hz))
 ·intro hy;have c:=(B7.mem y).mp hy;have c2:=h.g.cn hw (h.f.on x hx) c;rw[h.fg x hx] at c2;exact⟨ψ y,(hP.mem _).mpr c2,h.gf y (c.on hw (h.f.on x hx))⟩
def Iso2.rim(h:Iso2 a a' W W' w φ ψ)(h4:Iso2 a a' W W' 4 φ ψ)(hw:Ways w){x:Cell}(hx:On a.length W x):pP (aG a' W' w (φ x)) (aG a' W' w (φ x)) 0=pP (aG a W w x) (aG a W w x) 0:=by
 have hp:=h.pperm hw hx;have eN:∀y∈aG a W w x,On a.length W y:=λy hy=>(((aX hw hx).mem y).mp hy).on hw hx;have hl:=hp.length_eq;rw[V5] at hl;have e:((aG a' W' w (φ x)).map (ER (aG a' W' w (φ x)))).sum=((aG a W w x).map (ER (aG a W w x))).sum:=by
  rw[<-(hp.map _).sum_nat,WA];congr 1;refine WN λy hy=>?_;show ER _ (φ y)=ER _ y;unfold ER;rw[<-Xc,<-Xc];exact(qk hp λz hz=>h4.same (eN y hy) (eN z hz)).symm
 rw[mS,mS,e,hl]
def Mz{f:Cell->Nat}(hw:Ways w)(hf:Num a W w f){x y:Cell}(hx:On a.length W x)(hy:On a.length W y):f x=f y↔Cn a W w x y:=by
 obtain⟨P,p1,p2⟩:=hf x hx;have e:=gn hw (Wx p1) p2;rw[<-(aX hw hx).mem y,e,kK hw hf p1];exact⟨λh=>⟨hy,h.symm⟩,λh=>h.2.symm⟩
end
section
open Classical
variable{W:Nat}
def C2{α:Type}(key:α->Nat)(sel:α->Bool)(l:List α):∀n,((Wo n).map λi=>l.countP λa=>decide (key a=i)&&sel a).sum=l.countP λa=>decide (key a<n)&&sel a
 |0=>by simp
 |n+1=>by
  rw[abf,Xk,Zu,C2 key sel l n,Wb,Yl,WK,List.sum_nil,Nat.add_zero,<-qj]
  ·refine Xv λa _=>?_;simp only[Y6,Wl,ac4];constructor
   ·rintro(⟨h1,h2⟩ | ⟨h1,h2⟩)
    ·exact⟨by omega,h2⟩
    ·exact⟨by omega,h2⟩
   ·rintro⟨h1,h2⟩;by_cases h:key a=n
    ·exact .inr ⟨h,h2⟩
    ·exact .inl ⟨by omega,h2⟩
  ·intro a _ h;simp only[Wl,ac4] at h;rw[ac8 (p:=key a=n) (by omega),aan]
def kq(p:Nat->Prop)[DecidablePred p](a:Nat)(hp:∀i,p i↔i=a):∀n,((Wo n).map λi=>if p i then 1 else 0).sum=if a<n then 1 else 0
 |0=>rfl
 |n+1=>by
  rw[abf,Xk,Zu,kq p a hp n,Wb,Yl,WK,List.sum_nil,Nat.add_zero];by_cases h:p n
  ·have:=(hp n).mp h;subst this;simp[h]
  ·have:n≠a:=λz=>h ((hp n).mpr z);rw[ac6 h];by_cases q:a<n
   ·rw[ac5 q,ac5 (by omega)]
   ·rw[ac6 q,ac6 (by omega)]
def zC{α:Type}(g:Cell->Nat)(f:Nat->List Cell):∀l:List Nat,((l.flatMap f).map g).sum=(l.map λr=>((f r).map g).sum).sum
 |[]=>rfl
 |r::l=>by rw[XW,Xk,Zu,zC (α:=α) g f l,Wb,WK]
def EC(g:Cell->Nat):((aY R W).map g).sum=((Wo R).map λr=>((Wo W).map λc=>g (r,c)).sum).sum:=by
 unfold aY;rw[zC (α:=Nat)];congr 1;refine WN λr _=>?_;unfold gF;rw[WA];rfl
def JK(hR:1<=R)(hW:1<=W):((aY R W).map (La R W)).sum=2*(R+W):=by
 rw[EC];have e:∀r,((Wo W).map λc=>La R W (r,c)).sum=(if r=0 then 1 else 0)*W+(if r+1=R then 1 else 0)*W+2:=λr=>by
  have h1:=kq (λc=>c=0) 0 (λ_=>Iff.rfl) W;have h2:=kq (λc=>c+1=W) (W - 1) (λc=>by omega) W;rw[ac5 (by omega)] at h1 h2;have:((Wo W).map λc=>La R W (r,c))=(Wo W).map λc=>(((if r=0 then 1 else 0)+(if r+1=R then 1 else 0))+(if c=0 then 1 else 0))+(if c+1=W then 1 else 0):=rfl;rw[this,iP,iP,kS,h1,h2,XU,abw]
 rw[WN λr _=>e r,iP,iP,kS,XU];have m:∀(p:Nat->Prop) [DecidablePred p],((Wo R).map λr=>(if p r then 1 else 0)*W).sum=((Wo R).map λr=>if p r then 1 else 0).sum*W:=λp _=>by
  induction Wo R with
  |nil=>simp
  |cons x l ih=>rw[Wb,WK,ih,Wb,WK,abw]
 rw[m,m,kq (λr=>r=0) 0 (λ_=>Iff.rfl) R,kq (λr=>r+1=R) (R - 1) (λc=>by omega) R,ac5 (by omega),ac5 (by omega)];omega
end
section
open Classical
variable{bd:List Str}{W w:Nat}
def Ny{α:Type}(g:α->Nat)(d:α):∀l:List α,(l.map g).sum=((Wo l.length).map λi=>g (l.getD i d)).sum:=λl=>by
 congr 1;refine XN (by simp) λi a1 a2=>?_;have hi:i<l.length:=by simpa using a1
 rw[W9,W9,Yi,Wa,V6 hi];rfl
def Fu{f:Cell->Nat}{ks:List Cell}(hw:Ways w)(hf:Num bd W w f)(hn:ks.Nodup)(hk:∀k,k∈ks↔BL bd.length W f k):
 ((Wo (ax bd W w).length).map λi=>((ks.filter λk=>decide (i=k.1)||decide (i=k.2)).map λk=>pf bd.length W f k).sum).sum=2*(ks.map λk=>pf bd.length W f k).sum:=by
 rw[Kp hn hk,WN λi _=>(C3 hn hk i).trans (Xv λp _=>by
  simp only[Wl,ac4];exact⟨λh=>⟨h.1,h.1.symm▸h.2⟩,λh=>⟨h.1,h.1▸h.2⟩⟩:_=(oE bd.length W).countP λp=>decide (f p.1=i)&&decide (f p.2≠f p.1)),C2 (λp:Cell×Cell=>f p.1) (λp=>decide (f p.2≠f p.1))]
 refine Xv λp hp=>?_;obtain⟨h1,_,_⟩:=i8.mp hp;obtain⟨P,q1,_⟩:=hf p.1 h1;have:=(Wh.mp q1).1;simp only[Wl,ac4];exact⟨λh=>λz=>h.2 z.symm,λh=>⟨this,λz=>h z.symm⟩⟩
def xV(g:Cell->Nat):∀Ps:List (List Cell),(Ps.flatten.map g).sum=(Ps.map λP=>(P.map g).sum).sum
 |[]=>rfl
 |P::Ps=>by rw[List.flatten_cons,Xk,Zu,xV g Ps,Wb,WK]
def Ht{f:Cell->Nat}{ks:List Cell}(hg:Brd bd W)(hw:Ways w)(hf:Num bd W w f)(hn:ks.Nodup)(hk:∀k,k∈ks↔BL bd.length W f k):
 ((ax bd W w).map λP=>pP P P 0).sum=((2*(ks.map λk=>pf bd.length W f k).sum+2*(bd.length+W):Nat):Int):=by
 have e1:=Fu hw hf hn hk;have e2:=JK hg.r1 hg.w1;rw[<-((t5 hg hw).map (La bd.length W)).sum_nat,xV,Ny _ []] at e2;rw[<-e1,<-e2,<-iP];have:∀(l:List (List Cell)),((Wo l.length).map λi=>pP (l.getD i []) (l.getD i []) 0)=l.map λP=>pP P P 0:=λl=>by
  refine XN (by simp) λi a1 a2=>?_;have hi:i<l.length:=by simpa using a2
  rw[W9,W9,Yi,Wa,V6 hi];rfl
 rw[<-this];have c:∀(g:Nat->Nat) (h:Nat->Int) (l:List Nat),(∀i∈l,h i=(g i:Int))->(l.map h).sum=((l.map g).sum:Nat):=λg h l=>by
  induction l with
  |nil=>intro _;rfl
  |cons x l ih=>
   intro q;rw[Wb,WK,ih λi hi=>q i (V8 _ hi),q x (V_ ..),Wb,WK];omega
 refine c _ _ _ λi hi=>?_;have hi:=WT.mp hi;have q:=V6 hi;rw[Wa,q];exact(Nm hw hf hn hk q).trans (by simp)
def EA(hg:Brd bd W)(hw:Ways w):((ax bd W w).map λP=>(P.length:Int)).sum=((bd.length*W:Nat):Int):=by
 have h:=(t5 hg hw).length_eq;rw[bA,List.length_flatten] at h;rw[<-h];induction ax bd W w with
 |nil=>rfl
 |cons x l ih=>rw[Wb,WK,ih,Wb,WK];omega
end
section
open Classical
variable{bd:List Str}{W w:Nat}
def Hu{l:List Cell}(h:RiseC l){i j:Nat}{x y:Cell}(hi:l[i]? =some x)(hj:l[j]? =some y)(q:vj x y=true):i<j:=by
 obtain⟨a,rfl⟩:=Wh.mp hi;obtain⟨b,rfl⟩:=Wh.mp hj;have Rn:∀{c d:Cell},vj c d=true->vj d c=true->False:=λ{c d} h1 h2=>by
  unfold vj at h1 h2;split at h1<;>split at h2<;>simp at h1 h2<;>omega
 rcases Nat.lt_trichotomy i j with h1 | h1 | h1
 ·exact h1
 ·subst h1;exact(Rn q q).elim
 ·exact(Rn q (W6.mp h j i b a h1)).elim
def z6{f:Cell->Nat}(hw:Ways w)(hf:Num bd W w f){i:Nat}(h0:0<i)(hi:(ax bd W w)[i]? =some P):∃j,j<i/\BL bd.length W f (j,i):=by
 obtain⟨m,e,rfl⟩:=kL hi;have hm:=qY e;have ho:=cC hm;have U1:f m=i:=((kK hw hf hi).mp (((aX hw ho).mem m).mpr Cn.refl)).2;have jI:¬(m.1=0/\m.2=0):=λz=>by
  have hl:=(Wh.mp e).1;have a:=V6 (show 0<(cB bd W w (aY bd.length W)).length by omega);have q:=W6.mp (uq (bd:=bd) (W:=W) (w:=w)) 0 i (by omega) hl h0;rw[(Wh.mp e).2] at q;unfold vj at q;split at q<;>simp at q<;>omega
 obtain⟨z,hz,hn,hc⟩:∃z,On bd.length W z/\eT 4 z m=true/\vj z m=true:=by
  obtain⟨r,c⟩:=m;have h1:r<bd.length:=ho.1;have h2:c<W:=ho.2;by_cases hr:0<r
  ·refine⟨(r - 1,c),⟨by show r - 1<_;omega,h2⟩,?_,?_⟩
   ·have:=ro (w:=4) (.inl rfl) (r - 1) c;rw[show r - 1+1=r by omega] at this;exact this
   ·unfold vj;rw[ac6 (by dsimp only;omega)];exact ac7 (by dsimp only;omega)
  ·have hc:0<c:=by
    have:¬(r=0/\c=0):=jI;omega
   refine⟨(r,c - 1),⟨h1,by show c - 1<_;omega⟩,?_,?_⟩
   ·have:=nV (w:=4) (.inl rfl) r (c - 1);rw[show c - 1+1=c by omega] at this;exact this
   ·unfold vj;rw[ac5 rfl];exact ac7 (by dsimp only;omega)
 obtain⟨Q,q1,q2⟩:=hf z hz;obtain⟨m',e',rfl⟩:=kL q1;have l:=jN hw (qY e') q2;have fJ:f z<i:=Hu uq e' e ((eV (cC (qY e')) ho).mpr (ZA (l.2 z Cn.refl) ((eV hz ho).mp hc)));exact⟨f z,fJ,z,m,hz,ho,hn,by omega,by rw[U1]⟩
def Bs{f:Cell->Nat}{ks:List Cell}(hw:Ways w)(hf:Num bd W w f)(hk:∀k,k∈ks↔BL bd.length W f k):(ax bd W w).length<=ks.length+1:=by
 have h:∀t,t+1<(ax bd W w).length->∃j,(j,t+1)∈ks:=λt ht=>by
  obtain⟨j,_,h⟩:=z6 hw hf (aa0 t) (V6 ht);exact⟨j,(hk _).mpr h⟩
 have n:=bU (l:=(Wo ((ax bd W w).length - 1)).map λt=>((if q:t+1<(ax bd W w).length then aaz (h t q) else 0,t+1):Cell)) (U:=ks) (qX List.nodup_range λa _ b _ z=>Nat.succ.inj (ada abT z)) λx hx=>by
  obtain⟨t,ht,rfl⟩:=Wc.mp hx;have q:t+1<(ax bd W w).length:=by have:=WT.mp ht;omega
  rw[dif_pos q];exact ZN (h t q)
 rw[V5,XU] at n;omega
end
section
open Classical
variable{bd:List Str}{W w:Nat}
def zF{f:Cell->Nat}{k c d:Cell}{P Q:List Cell}(hw:Ways w)(hf:Num bd W w f)(h:BL bd.length W f k)(h1:(ax bd W w)[k.1]? =some P)(h2:(ax bd W w)[k.2]? =some Q)(hc:c∈P)(hd:d∈Q):lt bd c≠lt bd d:=by
 obtain⟨x,y,hx,hy,n,l,rfl⟩:=h;have px:x∈P:=(kK hw hf h1).mpr ⟨hx,rfl⟩;have qy:y∈Q:=(kK hw hf h2).mpr ⟨hy,rfl⟩;have ec:lt bd c=lt bd x:=by
  have e:=gn hw (Wx h1) px;exact Cn.letter hw (((aX hw hx).mem c).mp (by rw[e];exact hc))
 have ed:lt bd d=lt bd y:=by
  have e:=gn hw (Wx h2) qy;exact Cn.letter hw (((aX hw hy).mem d).mp (by rw[e];exact hd))
 intro z;have nw:eT w x y=true:=by
  rcases hw with rfl | rfl
  ·exact n
  ·exact K8 n
 have:=(Mz hw hf hx hy).mpr (Cn.refl.step ((eO hw).mpr ⟨hy,nw,by rw[<-ed,<-ec,z]⟩));omega
def iO{R W:Nat}{S:Cell->Prop}{P:List Cell}{b:Nat}(g:Cell->Nat)(st:Cell->Cell)(t_:∀x,On R W x->0<g x->On R W (st x)/\eT 4 x (st x)=true/\g (st x)+1=g x)
 (nI:∀x,S x->0<g x)(EU:∀x y,S x->On R W y->eT 4 x y=true->S y\/y∈P)(hS:∀x,S x->On R W x)(hP:∀p∈P,b<=g p):∀(n:Nat) (x:Cell),g x<=n->S x->b<g x
 |0,x,hn,hx=>by have:=nI x hx;omega
 |n+1,x,hn,hx=>by
  obtain⟨h1,h2,h3⟩:=t_ x (hS x hx) (nI x hx);rcases EU x (st x) hx h1 h2 with q | q
  ·have:=iO g st t_ nI EU hS hP n (st x) (by omega) q;omega
  ·have:=hP _ q;omega
def MB{x:Cell}(h:0<x.1):eT 4 x (x.1 - 1,x.2)=true:=by
 have:=ro (w:=4) (.inl rfl) (x.1 - 1) x.2;rw[show x.1 - 1+1=x.1 by omega] at this;rw[iF];exact this
def GJ{x:Cell}(h:0<x.2):eT 4 x (x.1,x.2 - 1)=true:=by
 have:=nV (w:=4) (.inl rfl) x.1 (x.2 - 1);rw[show x.2 - 1+1=x.2 by omega] at this;rw[iF];exact this
def HD{R W:Nat}{S:Cell->Prop}{P:List Cell}{t l d r:Nat}(nI:∀x,S x->0<x.1/\x.1+1<R/\0<x.2/\x.2+1<W)(EU:∀x y,S x->On R W y->eT 4 x y=true->S y\/y∈P)(eN:∀p∈P,On R W p)(hP:∀p∈P,t<=p.1/\l<=p.2/\p.1<=d/\p.2<=r){x:Cell}(hx:S x):t<x.1/\l<x.2/\x.1<d/\x.2<r:=by
 have hS:∀x,S x->On R W x:=λx h=>⟨by have:=nI x h;omega,by have:=nI x h;omega⟩
 have hi:=nI x hx;refine⟨iO (λx=>x.1) (λx=>(x.1 - 1,x.2)) (λx ho h=>⟨⟨by have:=ho.1;show x.1 - 1<R;omega,ho.2⟩,MB h,by(try dsimp only at h⊢);omega⟩) (λx h=>(nI x h).1) EU hS (λp hp=>(hP p hp).1) _ x (Wg _) hx,
  iO (λx=>x.2) (λx=>(x.1,x.2 - 1)) (λx ho h=>⟨⟨ho.1,by have:=ho.2;show x.2 - 1<W;omega⟩,GJ h,by(try dsimp only at h⊢);omega⟩) (λx h=>(nI x h).2.2.1) EU hS (λp hp=>(hP p hp).2.1) _ x (Wg _) hx,?_,?_⟩
 ·have:=iO (b:=R - 1 - d) (λx=>R - 1 - x.1) (λx=>(x.1+1,x.2)) (λx ho h=>⟨⟨by (try dsimp only at h);show x.1+1<R;omega,ho.2⟩,ro (.inl rfl) _ _,by(try dsimp only at h⊢);omega⟩) (λx h=>by have:=nI x h;(try dsimp only);omega) EU hS (λp hp=>by have:=hP p hp;(try dsimp only);omega) _ x (Wg _) hx
  try dsimp only at this
  omega
 ·have:=iO (b:=W - 1 - r) (λx=>W - 1 - x.2) (λx=>(x.1,x.2+1)) (λx ho h=>⟨⟨ho.1,by(try dsimp only at h);show x.2+1<W;omega⟩,nV (.inl rfl) _ _,by(try dsimp only at h⊢);omega⟩) (λx h=>by have:=nI x h;(try dsimp only);omega) EU hS (λp hp=>by have:=hP p hp;(try dsimp only);omega) _ x (Wg _) hx
  try dsimp only at this
  omega
end
end K1
namespace K1
open PySem PySem.Spec L2 L3
open PyProof.Rows hiding St
section
open Classical
variable{bd:List Str}{W w:Nat}{P:List Cell}
noncomputable def pJ(R W v:Nat)(P:List Cell):List Cell:=(dB R W P).filter λx=>decide (z0 R W v P x)
def gB:x∈pJ R W v P↔x∈dB R W P/\z0 R W v P x:=by
 unfold pJ;rw[Wu,ac4]
def DN:RiseC (pJ R W v P):=rE.filter _
def zq(hg:Brd bd W)(hs:bd.length*W<64)(hw:Ways w){i:Nat}(hi:(ax bd W w)[i]? =some P):kE [brd bd,iW w, .int (i:Int)]=ab (cL (pJ bd.length W (12 - w) P))/\iU [brd bd,iW w, .int (i:Int)]=ab (.int ((Ex bd.length W (12 - w) P).length:Int)):=by
 obtain⟨_,_,_,p4⟩:=rQ hs hw (Wx hi);obtain⟨Ls,h1,h2,h3⟩:=so hg hs hw p4;have h1:PtL bd.length W (12 - w) (dB bd.length W P) (x_ bd.length W (12 - w) P) Ls:=h1;have hv:=lV hw;have TR:=kM hg hs hw hi;have DK:=Fz hv h1;have NR:(Ls.filter (eC bd.length W)).flatten.length<64:=by
  have:=bU DK λx hx=>aJ.mpr (dQ x ((uo hv h1).mp hx).1);rw[bA] at this;omega
 constructor
 ·have e:=ir (put:=putN 5) (body:=cY [5] (Bd 4 (dV 5))) cL (λv0=>[fz (brd bd),fz (iW w),fz (.int (i:Int)),fz (cL P),some (.ow (.lst v0)),none]) (λl=>l.map cD) (B:=64) (Ls.filter (eC bd.length W)) []
   (by rw[Xj,show (Ls.filter (eC bd.length W)).flatMap (λl=>l.map cD)=(Ls.filter (eC bd.length W)).flatten.map cD by rw[List.map_flatten,aa3],V5];omega) λl hl v0 hB=>by
    refine⟨_,rfl,?_⟩;refine(bh (ρ':=[fz (brd bd),fz (iW w),fz (.int (i:Int)),fz (cL P),some (.ow (.lst (v0++l.map cD))),fz (cL l)]) ?_).trans rfl;show (if v0.length+(l.map cD).length<=lim then ab (Out.nx [fz (brd bd),fz (iW w),fz (.int (i:Int)),fz (cL P),some (.ow (.lst (v0++l.map cD))),fz (cL l)]) else ag)=_;rw[ac5 (by rw[Wq] at hB;rw[cq];omega)]
  rw[Xj,show (Ls.filter (eC bd.length W)).flatMap (λl=>l.map cD)=(Ls.filter (eC bd.length W)).flatten.map cD by rw[List.map_flatten,aa3]] at e;have q:jz (Ls.filter (eC bd.length W)).flatten=pJ bd.length W (12 - w) P:=oe (jo DK) DN λx=>by rw[gm,uo hv h1,gB]
  refine aP (ao ((aI ((ak rfl rfl).trans TR)).trans rfl) (ao rfl (ao (dq (eQ (pK ((ak rfl rfl).trans h3)) e)) ?_)));show bq (dA HJ (aC (dV 4) aN)) [fz (brd bd),fz (iW w),fz (.int (i:Int)),fz (cL P),fz (cL (Ls.filter (eC bd.length W)).flatten),none]=_;exact aF ((a7 rfl).trans ((Kk DK NR).trans (by rw[q])))
 ·refine aP (ao ((aI ((ak rfl rfl).trans TR)).trans rfl) (aF ((a7 (aE ((ak rfl rfl).trans h3) rfl)).trans ?_)));show ab (D.int (((Ls.filter (eC bd.length W)).map cL).length:Int))=_;rw[V5,HE hv h1]
def Ax(hv:Ways v):pJ R W v P=[]↔(Ex R W v P).length=0:=by
 rw[Y3];constructor
 ·intro h;refine aaX.mpr λf hf=>?_;obtain⟨h1,h2⟩:=Wu.mp hf;have:f∈pJ R W v P:=gB.mpr ⟨dj h1,ac9 h2⟩;rw[h] at this;cases this
 ·intro h;refine aaX.mpr λx hx=>?_;obtain⟨h1,h2⟩:=gB.mp hx;obtain⟨f,f1,f2⟩:=Aq hv h1;have:f∈Ex R W v P:=Wu.mpr ⟨f1,ac7 λy hy=>h2 y ((f2.symm hv dQ (dj f1)).trans hy)⟩;rw[h] at this;cases this
def Cf{α:Type}{Q:α->Cell->Prop}:∀(l:List α) (K:List Cell),l.Nodup->(∀m∈l,∃k∈K,Q m k)->(∀m∈l,∀n∈l,∀k,Q m k->Q n k->m=n)->l.length<=K.length
 |[],_,_,_,_=>WQ _
 |m::l,K,hn,h,hi=>by
  obtain⟨g1,g2⟩:=Xe.mp hn;obtain⟨k,hk,hr⟩:=h m (V_ ..);have:=Cf l (K.erase k) g2 (λn Ca=>by
   obtain⟨k',sT,TU⟩:=h n (V8 _ Ca);refine⟨k',(aak λe=>?_).mpr sT,TU⟩;subst e;rw[hi m (V_ ..) n (V8 _ Ca) k' hr TU] at g1;exact g1 Ca) λm hm n Ca=>hi m (V8 _ hm) n (V8 _ Ca)
  rw[YZ hk] at this;have:=Xn hk;rw[Wf];omega
variable{a a':List Str}{W' v:Nat}{φ ψ:Cell->Cell}{P P':List Cell}
def Iso.oth(h:Iso a a' W W' v φ)(hP:∀y,On a.length W y->(φ y∈P'↔y∈P))(hx:x∈dB a.length W P):φ x∈dB a'.length W' P':=by
 obtain⟨h1,h2⟩:=jP.mp hx;exact jP.mpr ⟨h.on x h1,λq=>h2 ((hP x h1).mp q)⟩
def Iso.rbS(h:Iso a a' W W' v φ)(hv:Ways v)(hP:∀y,On a.length W y->(φ y∈P'↔y∈P))(hx:x∈dB a.length W P):∀{j:Nat}{y:Cell},Rb (sL a.length W v (dB a.length W P)) x j y->Rb (sL a'.length W' v (dB a'.length W' P')) (φ x) j (φ y)
 |0,y,q=>ada φ q
 |j+1,y,q=>q.elim (λq=> .inl (h.rbS hv hP hx q)) λ⟨z,q1,q2⟩=>by
  have hz:=dQ z (CnS.mem hv hx ⟨j,q1⟩);obtain⟨y1,y2,y3⟩:=(kH hv).mp q2;exact .inr ⟨φ z,h.rbS hv hP hx q1,(kH hv).mpr ⟨h.on y y1,h.nx z y hz y1 y2,h.oth hP y3⟩⟩
def Iso.cnS(h:Iso a a' W W' v φ)(hv:Ways v)(hP:∀y,On a.length W y->(φ y∈P'↔y∈P))(hx:x∈dB a.length W P)(q:CnS a.length W v (dB a.length W P) x y):CnS a'.length W' v (dB a'.length W' P') (φ x) (φ y):=let ⟨j,q⟩:=q;⟨j,h.rbS hv hP hx q⟩
def Iso2.holes_le(h:Iso2 a a' W W' v φ ψ)(hv:Ways v)(hP:∀y,On a.length W y->(φ y∈P'↔y∈P))(B7:∀y,On a'.length W' y->(ψ y∈P↔y∈P'))(nI:∀x,On a'.length W' x->BJ a.length W (ψ x)->BJ a'.length W' x):(Ex a.length W v P).length<=(Ex a'.length W' v P').length:=by
 refine Cf (Q:=λm k=>CnS a'.length W' v (dB a'.length W' P') (φ m) k) _ _ (FC.filter _) (λm hm=>?_) λm hm n hn k q1 q2=>?_
 ·obtain⟨m1,m2⟩:=Wu.mp hm;have m2:z0 a.length W v P m:=ac9 m2;have ho:=dj m1;have qG:=h.f.oth hP ho;obtain⟨k,k1,k2⟩:=Aq hv qG;have k3:=k2.symm hv dQ (dj k1);refine⟨k,Wu.mpr ⟨k1,ac7 λy hy=>?_⟩,k3⟩;have c:=h.g.cnS hv B7 qG (k3.trans hy);rw[h.fg m (dQ m ho)] at c;exact nI y (dQ y (CnS.mem hv (dj k1) hy)) (m2 _ c)
 ·have m1:=(Wu.mp hm).1;have n1:=(Wu.mp hn).1;have c:=h.g.cnS hv B7 (h.f.oth hP (dj m1)) (q1.trans (q2.symm hv dQ (h.f.oth hP (dj n1))));rw[h.fg m (dQ m (dj m1)),h.fg n (dQ n (dj n1))] at c;exact B3 hv m1 n1 c
def Iso2.holes(h:Iso2 a a' W W' w φ ψ)(hv:Iso2 a a' W W' (12 - w) φ ψ)(hw:Ways w)(nI:∀x,On a.length W x->(BJ a'.length W' (φ x)↔BJ a.length W x)){x:Cell}(hx:On a.length W x):(Ex a'.length W' (12 - w) (aG a' W' w (φ x))).length=(Ex a.length W (12 - w) (aG a W w x)).length:=by
 have hP:∀y,On a.length W y->(φ y∈aG a' W' w (φ x)↔y∈aG a W w x):=λy hy=>by
  rw[(aX hw hx).mem,(aX hw (h.f.on x hx)).mem];refine⟨λc=>?_,h.f.cn hw hx⟩;have:=h.g.cn hw (h.f.on x hx) c;rw[h.fg x hx,h.fg y hy] at this;exact this
 have B7:∀y,On a'.length W' y->(ψ y∈aG a W w x↔y∈aG a' W' w (φ x)):=λy hy=>by
  rw[<-hP (ψ y) (h.g.on y hy),h.gf y hy]
 refine Y8 (hv.symm.holes_le (lV hw) B7 hP λy hy q=>(nI y hy).mp q) (hv.holes_le (lV hw) hP B7 λy hy q=>?_);have:=(nI (ψ y) (h.g.on y hy)).mpr q;rw[h.gf y hy] at this;exact this
noncomputable def lI(bd:List Str)(W w:Nat):List (List Int):=(ax bd W w).map λP=>[(P.length:Int),pP P P 0,((Ex bd.length W (12 - w) P).length:Int)]
def Iso2.meas(h:Iso2 a a' W W' w φ ψ)(h4:Iso2 a a' W W' 4 φ ψ)(hv:Iso2 a a' W W' (12 - w) φ ψ)(hg:Brd a W)(FT:Brd a' W')(hw:Ways w)(nI:∀x,On a.length W x->(BJ a'.length W' (φ x)↔BJ a.length W x)):sortI (lI a' W' w)=sortI (lI a W w):=
 zt (h.patches hg FT hw _ _ λx hx=>by
  have:=(h.pperm hw hx).length_eq;rw[V5] at this;rw[h.rim h4 hw hx,this,h.holes hv hw nI hx])
def Mb(hx:On R W x):BJ W R (S0 R x)↔BJ R W x:=by
 have h1:=hx.1;have h2:=hx.2;show (0<x.2/\x.2+1<W/\0<R - 1 - x.1/\R - 1 - x.1+1<R)↔(0<x.1/\x.1+1<R/\0<x.2/\x.2+1<W);omega
def Jd(hv:Ways v)(eN:∀p∈P,On R W p){t l d r:Nat}(hP:∀p∈P,t<=p.1/\l<=p.2/\p.1<=d/\p.2<=r)(hx:x∈pJ R W v P):t<x.1/\l<x.2/\x.1<d/\x.2<r:=by
 refine HD (S:=λy=>y∈pJ R W v P) (λy hy=>(gB.mp hy).2 y CnS.refl) (λy z hy hz hn=>?_) eN hP hx;obtain⟨y1,y2⟩:=gB.mp hy;by_cases q:z∈P
 ·exact .inr q
 ·have QV:z∈dB R W P:=jP.mpr ⟨hz,q⟩;have Ca:eT v y z=true:=by
   rcases hv with rfl | rfl
   ·exact hn
   ·exact K8 hn
  have c:CnS R W v (dB R W P) y z:=⟨1, .inr ⟨y,rfl,(kH hv).mpr ⟨hz,Ca,QV⟩⟩⟩
  exact .inl (gB.mpr ⟨QV,λu hu=>y2 u (c.trans hu)⟩)
end
section
open Classical
def ne_self{d:D}(h:k9 6 d d=some true):vw d d=ab (.bl false):=by
 unfold vw;rw[h];rfl
def wY{l:List Int}(h:δ ρ=ab (.lst (l.map D.int))):dA mZ (aC δ aN) ρ=ab (.int l.sum):=by
 refine(a7 (aE h rfl)).trans ?_;show (match nums (l.map D.int) with | some ns=>ab (D.int ns.sum) | none=>ag)=_;rw[jW]
def vo(a b:Int):nj (.int a) (.int b)=ab (.bl (a==b)):=by
 unfold nj;rw[pX]
end
section
open Classical
variable{W:Nat}
def Hz{put:D->cK->Option cK}{d:D}(h:δ ρ=ab d)(hp:put d ρ=some ρ'):Hy put δ ρ=ab (.nx ρ'):=by
 unfold Hy;rw[h,aw,hp]
noncomputable abbrev tD(R W:Nat)(f:Cell->Nat)(ks:List Cell):D:=Ks ks λk=>(pf R W f k:Int)
def HP(l:List Cell)(g:Cell->Nat):(l.map λk=>(g k:Int)).sum=((l.map g).sum:Nat):=by
 induction l with
 |nil=>rfl
 |cons x l ih=>rw[Wb,WK,ih,Wb,WK];omega
end
section
open Classical
variable{bd:List Str}{W:Nat}
def qL:∀ks:List (List Int),fo (ks.map tupI)=some ks
 |[]=>rfl
 |k::ks=>by
  rw[Wb];unfold fo;rw[qL ks,show F8 (tupI k)=some k from jW k]
def HK{ks:List (List Int)}(hl:ks.length<64)(hn:∀k∈ks,k≠[])(h:δ ρ=ab (.lst (ks.map tupI))):dA zA (aC δ aN) ρ=ab (.lst ((sortI ks).map tupI)):=by
 refine(a7 (aE h rfl)).trans ?_;show (match fo (ks.map tupI) with | some ks=>if PH ks then ab (D.lst ((sortI ks).map tupI)) else ag | none=>ag)=_;rw[qL];refine ac5 ?_;unfold PH;rw[Wl];refine⟨ac7 hl,WI.mpr λk hk=>?_⟩;have:=hn k hk;cases k with
 |nil=>exact ac_ rfl this
 |cons _ _=>rfl
def Fs:E0 1 tupI:=λk x y=>by
 rw[aah];exact(kB k x y).trans (by congr)
def Eu(l:List (List Int)):k9 6 (.lst (l.map tupI)) (.lst (l.map tupI))=some true:=((IP Fs) 4 l l).trans (by simp)
def Ey{ks:List Cell}{g:Cell->Int}(hl:ks.length<=64)(h:δ ρ=ab (Ks ks g)):dA mZ (aC (bb 2 (bJ δ) bO (dV 1)) aN) ρ=ab (.int (ks.map g).sum):=
 wY (ba (pK h) ((cf (λk=> .tup [cD k, .int (g k)]) (λk=> .int (g k)) ks λk _=>rfl).trans (by rw[WA];rfl)) (by rw[V5,V5,cq];omega))
def Nt{f:Cell->Nat}{k:Cell}(h:BL bd.length W f k):0<pf bd.length W f k:=by
 obtain⟨x,y,hx,hy,h1,h2,rfl⟩:=h;rw[HC];exact List.countP_pos_iff.mpr ⟨(x,y),i8.mpr ⟨hx,hy,h1⟩,by unfold EY;exact ac7 ⟨h2,rfl⟩⟩
end
def pV{p q:Int->Int->Bool}{i j k:Int}{a b c:DE}(h1:a ρ=ab (.int i))(h2:b ρ=ab (.int j))(h3:c ρ=ab (.int k)):sJ p q a b c ρ=ab (.bl (p i j&&q j k)):=by
 simp only[sJ,h1,h2,h3,aw,gI];cases p i j<;>rfl
def kA{α:Type}{xs:List α}{t:DT}(enc:α->D)(hi:bJ δ ρ=ab (xs.map enc))(h:∀x∈xs,t (fz (enc x)::ρ)=ab false):bb 0 (bJ δ) t (dV 0) ρ=ab (.lst []):=
 ba hi ((nE enc enc (λ_=>false) xs λx hx=>by rw[nB,h x hx];rfl).trans (ada ab (List.flatMap_eq_nil_iff.mpr λ_ _=>rfl))) (WQ _)
def Hx(ho:A6 ρ i=some ds)(h:δ ρ=ab d)(hl:ds.length<lim):mU i δ ρ=ab (.nx (ρ.set i (some (.ow (.lst (ds++[d])))))):=by
 unfold mU;rw[ho];show (δ ρ>>=λd=>_)=_;rw[h,aw,ac5 hl]
section
open Classical
variable{bd:List Str}{W w:Nat}{P:List Cell}
def Pu:∀k∈lI bd W w,k≠[]:=λk hk z=>by
 unfold lI at hk;obtain⟨P,_,rfl⟩:=Wc.mp hk;cases z
def mq(hg:Brd bd W)(hs:bd.length*W<64)(hw:Ways w):cj [brd bd,iW w]=ab (.lst ((sortI (lI bd W w)).map tupI)):=by
 have hl:=gA (bd:=bd) (W:=W) (w:=w);have el:(Wo (ax bd W w).length).map (λk=>(lI bd W w).getD k [])=lI bd W w:=by
  refine XN (by simp[lI]) λi a1 a2=>?_;rw[W9,Yi,Wa,V6 a2];rfl
 have ef:(Wo (ax bd W w).length).flatMap (λk=>[tupI ((lI bd W w).getD k [])])=(lI bd W w).map tupI:=by
  rw[<-el,WA,el];induction Wo (ax bd W w).length with
  |nil=>rfl
  |cons x l ih=>rw[XW,ih];rfl
 have e:=ir (put:=putN 3) (body:=(cY [3] (mU 2 (dA d7 (aC (ar 3 jF (aC (dV 0) (aC (dV 1) (aC (dV 3) aN)))) (aC (ar 3 xS (aC (dV 0) (aC (dV 1) (aC (dV 3) aN)))) (aC (ar 3 iU (aC (dV 0) (aC (dV 1) (aC (dV 3) aN)))) aN))))))) (λk:Nat=>D.int (k:Int)) (λv0=>[fz (brd bd),fz (iW w),some (.ow (.lst v0)),none]) (λk=>[tupI ((lI bd W w).getD k [])]) (B:=64) (Wo (ax bd W w).length) []
  (by rw[Xj,ef,V5];unfold lI;rw[V5];omega) λk hk v0 hB=>by
   refine⟨_,rfl,?_⟩;have hk:=WT.mp hk;have hi:=V6 hk;have em:(lI bd W w).getD k []=[((ax bd W w)[k].length:Int),pP (ax bd W w)[k] (ax bd W w)[k] 0,((Ex bd.length W (12 - w) (ax bd W w)[k]).length:Int)]:=by
    unfold lI;rw[Wa,Wj,hi];rfl
   refine(bh (ρ':=[fz (brd bd),fz (iW w),some (.ow (.lst (v0++[tupI ((lI bd W w).getD k [])]))),fz (.int (k:Int))]) ?_).trans rfl;rw[em];exact(Hx rfl ((a7 (aE ((ak rfl rfl).trans (zr hg hs hw hi)) (aE ((ak rfl rfl).trans (Kc hg hs hw hi)) (aE ((ak rfl rfl).trans (zq hg hs hw hi).2) rfl)))).trans rfl) (by rw[Wq] at hB;rw[cq];have:([tupI ((lI bd W w).getD k [])]:List D).length=1:=rfl;omega)).trans rfl
 rw[Xj,ef] at e;refine aP (ao rfl (ao (dq (eQ (Hv ((ak rfl rfl).trans (vD hg hs hw)) (by omega)) e)) ?_));show bq (dA zA (aC (dV 2) aN)) [fz (brd bd),fz (iW w),fz (.lst ((lI bd W w).map tupI)),none]=_;exact aF (HK (by unfold lI;rw[V5];omega) Pu rfl)
def IB(hp:0<P.length):∃t l d r:Nat,jR (Ep P)=t/\jR (Dw P)=l/\fQ (Ep P)=d/\fQ (Dw P)=r/\∀p∈P,t<=p.1/\l<=p.2/\p.1<=d/\p.2<=r:=by
 have l1:0<(Ep P).length:=by unfold Ep;rw[V5];exact hp
 have l2:0<(Dw P).length:=by unfold Dw;rw[V5];exact hp
 obtain⟨a1,a2⟩:=kI l1;obtain⟨b1,b2⟩:=kI l2;obtain⟨c1,c2⟩:=gj l1;obtain⟨d1,d2⟩:=gj l2;obtain⟨a,ha,ea⟩:=Wc.mp a1;obtain⟨b,hb,eb⟩:=Wc.mp b1;obtain⟨c,hc,ec⟩:=Wc.mp c1;obtain⟨d,hd,ed⟩:=Wc.mp d1;refine⟨a.1,b.2,c.1,d.2,ea.symm,eb.symm,ec.symm,ed.symm,λp h=>?_⟩;have r1:=a2 (p.1:Int) (Wc.mpr ⟨p,h,rfl⟩);have r2:=b2 (p.2:Int) (Wc.mpr ⟨p,h,rfl⟩);have r3:=c2 (p.1:Int) (Wc.mpr ⟨p,h,rfl⟩);have r4:=d2 (p.2:Int) (Wc.mpr ⟨p,h,rfl⟩);omega
def p5:vw (.lst []) (.lst [])=ab (.bl false):=rfl
def nil_eq(l:List Cell):nj (cL l) (.lst [])=ab (.bl (decide (l=[]))):=by
 cases l<;>rfl
def Mx(a:Bool):vw (.bl a) (.bl a)=ab (.bl false):=by cases a<;>rfl
def Gm(hg:Brd bd W)(hs:bd.length*W<64)(hw:Ways w){i:Nat}(hi:(ax bd W w)[i]? =some P):gy [brd bd,iW w, .int (i:Int),cL P]=ab (.bl true):=by
 obtain⟨p1,p2,p3,p4⟩:=rQ hs hw (Wx hi);have l1:0<(Ep P).length:=by unfold Ep;rw[V5];exact p3
 have l2:0<(Dw P).length:=by unfold Dw;rw[V5];exact p3
 obtain⟨e1,e2⟩:=zq hg hs hw hi;obtain⟨t,l,d,r,et,el,ed,er,hb⟩:=IB p3;have eb:xR [brd bd,iW w, .int (i:Int)]=ab (.tup [.int (t:Int), .int (l:Int), .int (d:Int), .int (r:Int)]):=by
  rw[IC hg hs hw hi p3 p4];unfold Ro;rw[et,el,ed,er]
 refine aP ?_;refine ao (Hz ((ak rfl rfl).trans eb) rfl) ?_;refine ao ((aI ((ak rfl rfl).trans e1)).trans rfl) ?_;refine ao (dE (eg ((aH (kA cD (pK rfl:bJ _ _=ab (P.map cD)) λx hx=>?_) rfl).trans p5)) rfl) ?_
 ·have:=hb x hx;have h1:decide ((t:Int)<=(x.1:Int))=true:=ac7 (by omega);have h2:decide ((x.1:Int)<=(d:Int))=true:=ac7 (by omega);have h3:decide ((l:Int)<=(x.2:Int))=true:=ac7 (by omega);have h4:decide ((x.2:Int)<=(r:Int))=true:=ac7 (by omega);refine(jE (Fg (eg (pV (i:=t) (j:=x.1) (k:=d) rfl rfl rfl)) (eg (pV (i:=l) (j:=x.2) (k:=r) rfl rfl rfl)))).trans ?_;rw[h1,h2,h3,h4];rfl
 refine ao (dE (eg ((aH (kA cD (pK rfl:bJ _ _=ab ((pJ bd.length W (12 - w) P).map cD)) λx hx=>?_) rfl).trans p5)) rfl) ?_
 ·have:=Jd (lV hw) p1 hb hx;have h1:decide ((t:Int)<(x.1:Int))=true:=ac7 (by omega);have h2:decide ((x.1:Int)<(d:Int))=true:=ac7 (by omega);have h3:decide ((l:Int)<(x.2:Int))=true:=ac7 (by omega);have h4:decide ((x.2:Int)<(r:Int))=true:=ac7 (by omega);refine(jE (Fg (eg (pV (i:=t) (j:=x.1) (k:=d) rfl rfl rfl)) (eg (pV (i:=l) (j:=x.2) (k:=r) rfl rfl rfl)))).trans ?_;rw[h1,h2,h3,h4];rfl
 have hz:decide (pJ bd.length W (12 - w) P=[])=(((Ex bd.length W (12 - w) P).length:Int)==0):=by
  rw[aac,ac4,beq_iff_eq,Ax (lV hw)];omega
 refine ao (dE (xG (p:=false) (q:=false) (eg ((aH (kA cD (pK rfl:bJ _ _=ab ((pJ bd.length W (12 - w) P).map cD)) λx hx=>?_) rfl).trans p5)) (eg ((aH ((aH rfl rfl).trans (nil_eq _)) ((aH ((ak rfl rfl).trans e2) rfl).trans (vo _ _))).trans (by rw[hz];exact Mx _)))) rfl) ?_
 ·refine(eg ((aH (x:=cD x) (y:=cL P) rfl rfl).trans Jc)).trans ?_;rw[ac6 (by decide),ac8 ((jP.mp (gB.mp hx).1).2)]
 refine ao ((aI (ze rfl p4)).trans rfl) ?_;refine ao ((aI (xD rfl p4)).trans rfl) ?_;refine aF ((aH ((a7 (aE ((a7 rfl).trans (Ju l1)) (aE ((a7 rfl).trans (Gq l1)) (aE ((a7 rfl).trans (Ju l2)) (aE ((a7 rfl).trans (Gq l2)) rfl))))).trans rfl) ((a7 rfl).trans rfl)).trans ?_);rw[et,el,ed,er];show (match k9 6 (.lst ([(t:Int),d,l,r].map D.int)) (.lst ([(t:Int),d,l,r].map D.int)) with | some b=>ab (D.bl b) | none=>ag)=_;rw[show k9 6 (.lst ([(t:Int),d,l,r].map D.int)) (.lst ([(t:Int),d,l,r].map D.int))=some true from(kB 5 _ _).trans (by simp)]
end
end K1
namespace K1
open PySem L2 L3 HT
def iE(bd:List Str):List Str:=bd.map wy
def vK{bd:List Str}{W:Nat}(hg:Brd bd W):fm [brd bd]=ab (brd (iE bd)):=by
 refine aP (ao (bV ((ak (ds:=[brd bd]) rfl rfl).trans hg.nb)) (aF ?_));refine(a7 (xs:=[.lst ((iE bd).map D.str)]) (aE (ba (VC (i:=0) rfl) (ys:=(iE bd).map D.str) ?_ (by unfold iE;rw[V5,V5,cq];have:=hg.r8;omega)) rfl)).trans rfl;unfold iE;rw[WA];have:∀l:List Str,d6 (gQ 0 bO (LB (dV 0) (d1 My (dC (.int 1)))) [fz (brd bd)]) (l.map D.str)=ab (l.map (D.str∘wy)):=by
  intro l;induction l with
  |nil=>rfl
  |cons r l ih=>rw[Wb,eI,g9,ih];rfl
 exact this bd
def D5{bd:List Str}{W:Nat}(hG:Good bd W):Good (iE bd) W:=by
 refine⟨by unfold iE;rw[V5];exact hG.r1,by unfold iE;rw[V5];exact hG.r5,hG.w1,hG.w5,λr hr=>?_⟩;obtain⟨q,hq,rfl⟩:=Wc.mp hr;refine⟨by rw[se];exact(hG.rows q hq).len,λc hc=>(hG.rows q hq).let' c ?_⟩;unfold wy at hc;simpa using hc
def Cv{bd:List Str}{W i j:Nat}(hr:∀r∈bd,r.length=W)(hi:i<bd.length)(hj:j<W):at2 (iE bd) i j=at2 bd i (W - 1 - j):=by
 have hw:bd[i].cps.toList.length=W:=hr _ (WR hi);have h1:i<(iE bd).length:=by unfold iE;rw[V5];exact hi
 have e0:(iE bd)[i]? =some (wy bd[i]):=by
  unfold iE;rw[Wj,V6 hi];rfl
 have e1:(iE bd)[i].cps.toList=bd[i].cps.toList.reverse:=by
  rw[Ar e0 h1];unfold wy;simp
 have h2:j<(iE bd)[i].cps.toList.length:=by rw[e1,YV,hw];exact hj
 rw[u7 h1 h2,u7 hi (by rw[hw];omega)];have:(iE bd)[i].cps.toList[j]? =bd[i].cps.toList[W - 1 - j]? :=by rw[e1,Z8 (by rw[hw];exact hj),hw]
 rw[V6 h2,V6 (by rw[hw];omega)] at this;exact WW this
def jS(bd:List Str):(iE bd).length=bd.length:=V5 ..
end K1
namespace K1
open PySem L2 L3
section
open Classical
variable{a:List Str}{W w:Nat}
def Mu(V:Nat)(x:Cell):Cell:=(x.1,V - 1 - x.2)
def Pt{V:Nat}{x:Cell}(h:x.2<V):Mu V (Mu V x)=x:=aaF rfl (by show V - 1 - (V - 1 - x.2)=x.2;omega)
def AD(hr:∀r∈a,r.length=W):Iso2 a (iE a) W W w (Mu W) (Mu W) where
 f:=⟨λx h=>⟨by rw[jS];exact h.1,by show W - 1 - x.2<W;have:=h.2;omega⟩,λx y hx hy h=>by unfold eT Mu at*;simp only[vm hx.2 hy.2];exact h,λx h=>by
  have h2:=h.2;show at2 (iE a) x.1 (W - 1 - x.2)=at2 a x.1 x.2;rw[Cv hr h.1 (by omega)];congr 1;omega⟩
 g:=⟨λx h=>by
  rw[jS] at h;exact⟨h.1,by show W - 1 - x.2<W;have:=h.2;omega⟩,λx y hx hy h=>by unfold eT Mu at*;simp only[vm hx.2 hy.2];exact h,λx h=>by
  rw[jS] at h;exact(Cv hr h.1 h.2).symm⟩
 fg:=λx h=>Pt h.2
 gf:=λx h=>Pt h.2
end
end K1
namespace K1
open PySem PySem.Spec L2 L3
open PyProof.Rows hiding St
section
open Classical
variable{bd:List Str}{W w:Nat}
def k_{bd:List Str}{W:Nat}(hg:Brd bd W){c:Cell}(h:On bd.length W c):eM [brd bd,cD c]=ab (sg (lt bd c)):=
 aP (ao (bV ((ak (ds:=[brd bd]) rfl rfl).trans hg.nb)) (ao (bV ((ak (ds:=[brd bd,cD c]) rfl rfl).trans (hg.nc h))) (aF ((ak (ds:=[brd bd,cD c]) rfl rfl).trans (hZ hg h)))))
def y6{a b:List Int}(h:a.Perm b):a.sum=b.sum:=by
 induction h with
 |nil=>rfl
 |cons x _ ih=>rw[WK,WK,ih]
 |swap x y l=>simp only[WK];omega
 |trans _ _ h1 h2=>exact h1.trans h2
def yw{k:List Int}(hk:k∈sortI (lI bd W w)):∃a b c,k=[a,b,c]:=by
 have:=d5.mp hk;unfold lI at this;obtain⟨P,_,rfl⟩:=Wc.mp this;exact⟨_,_,_,rfl⟩
def Gx(hs:bd.length*W<64):(sortI (lI bd W w)).length<64:=by
 have hl:=gA (bd:=bd) (W:=W) (w:=w);rw[gp];unfold lI;rw[V5];omega
def SF(hg:Brd bd W)(hs:bd.length*W<64)(hw:Ways w)(h:ρ[4]? =some (fz (.lst ((sortI (lI bd W w)).map tupI)))):dA mZ (aC (bb 0 (bJ (dV 4)) bO (d2 bf (dV 0) (dC (.int 0)))) aN) ρ=ab (.int ((bd.length*W:Nat):Int)):=by
 refine(wY (l:=(sortI (lI bd W w)).map λk=>k.getD 0 0) (ba (pK (d9 h)) ((cf tupI (λk=> .int (k.getD 0 0)) _ λk hk=>?_).trans (by rw[WA];rfl)) (by rw[V5,V5,cq];have:=Gx (w:=w) hs;omega))).trans ?_
 ·obtain⟨a,b,c,rfl⟩:=yw hk;rfl
 ·rw[y6 ((sortI_perm _).map _),<-EA hg hw];unfold lI;rw[WA];rfl
def SG{f:Cell->Nat}{ks:List Cell}(hg:Brd bd W)(hs:bd.length*W<64)(hw:Ways w)(hf:Num bd W w f)(hn:ks.Nodup)(hk:∀k,k∈ks↔BL bd.length W f k)(h:ρ[4]? =some (fz (.lst ((sortI (lI bd W w)).map tupI)))):dA mZ (aC (bb 0 (bJ (dV 4)) bO (d2 bf (dV 0) (dC (.int 1)))) aN) ρ=ab (.int ((2*(ks.map λk=>pf bd.length W f k).sum+2*(bd.length+W):Nat):Int)):=by
 refine(wY (l:=(sortI (lI bd W w)).map λk=>k.getD 1 0) (ba (pK (d9 h)) ((cf tupI (λk=> .int (k.getD 1 0)) _ λk hk=>?_).trans (by rw[WA];rfl)) (by rw[V5,V5,cq];have:=Gx (w:=w) hs;omega))).trans ?_
 ·obtain⟨a,b,c,rfl⟩:=yw hk;rfl
 ·rw[y6 ((sortI_perm _).map _),<-Ht hg hw hf hn hk];unfold lI;rw[WA];rfl
def Ma(hx:On R W x):BJ R W (Mu W x)↔BJ R W x:=by
 have h1:=hx.1;have h2:=hx.2;show (0<x.1/\x.1+1<R/\0<W - 1 - x.2/\W - 1 - x.2+1<W)↔(0<x.1/\x.1+1<R/\0<x.2/\x.2+1<W);omega
def Ei(hG:Good bd W)(hw:Ways w){v:Nat}(hv:v<2)(hb:ρ[1]? =some (fz (brd bd)))(hd:δ ρ=ab (.int (v:Int))):∃Lr W',Brd Lr W'/\Lr.length*W'=bd.length*W/\sortI (lI Lr W' w)=sortI (lI bd W w)/\NL (dN (d2 nj δ (dC (.int 0)))) (ar 1 iq (aC (dV 1) aN)) (ar 1 fm (aC (dV 1) aN)) ρ=ab (brd Lr):=by
 have hg:=hG.brd
 match v,hv with
 |0,_=>
  have OB:=EF hG;refine⟨turn bd W,bd.length,OB.brd,by rw[kr,Nat.mul_comm],AE.meas AE AE hg OB.brd hw (λx hx=>by rw[kr];exact Mb hx),?_⟩;rw[KJ (p:=true) (eg ((aH hd rfl).trans (vo _ _)))];exact(ak (aE (d9 hb) rfl) rfl).trans (Bx hg)
 |1,_=>
  have OB:=D5 hG;refine⟨iE bd,W,OB.brd,by rw[jS],(AD (λr hr=>(hg.rows r hr).len)).meas (AD λr hr=>(hg.rows r hr).len) (AD λr hr=>(hg.rows r hr).len) hg OB.brd hw (λx hx=>by rw[jS];exact Ma hx),?_⟩;rw[KJ (p:=false) (eg ((aH hd rfl).trans (vo _ _)))];exact(ak (aE (d9 hb) rfl) rfl).trans (vK hg)
def FK(hg:Brd bd W)(hw:Ways w):∃Q,(ax bd W w)[(nR bd W w).idxOf (fQ (nR bd W w))]? =some Q/\∀P∈ax bd W w,P.length<=Q.length:=by
 have hl:0<(nR bd W w).length:=by
  obtain⟨P,hP,_⟩:=eL hg hw (x:=(0,0)) ⟨hg.r1,hg.w1⟩;unfold nR;rw[V5];exact Xn hP
 obtain⟨h1,h2⟩:=gj hl;have hi:=abQ.mpr h1;have yc:(nR bd W w).idxOf (fQ (nR bd W w))<(ax bd W w).length:=by
  unfold nR at hi⊢
  rwa [V5] at hi
 refine⟨_,V6 yc,λP hP=>?_⟩;have e:=acM hi;have q:=h2 (P.length:Int) (by unfold nR;exact Wc.mpr ⟨P,hP,rfl⟩);rw[<-e] at q;have z:(nR bd W w)[(nR bd W w).idxOf (fQ (nR bd W w))]=((ax bd W w)[(nR bd W w).idxOf (fQ (nR bd W w))].length:Int):=by
  simp only[nR,W9]
 rw[z] at q;omega
def Fq(hg:Brd bd W)(hw:Ways w):0<(LH bd W (EZ bd W w)).length:=by
 obtain⟨P,hP,hx⟩:=eL hg hw (x:=(0,0)) ⟨hg.r1,hg.w1⟩;obtain⟨i,hi,rfl⟩:=X_ hP;refine Xn (a:=D.int (i:Int)) ?_;unfold LH;refine Yt.mpr ⟨(i,(ax bd W w)[i]),?_,?_⟩
 ·unfold EZ;exact Wc.mpr ⟨((ax bd W w)[i],i),YA.mpr (V6 hi),rfl⟩
 ·rw[ac5]
  ·exact V_ ..
  ·unfold NN;exact List.any_eq_true.mpr ⟨(0,0),hx,by unfold qK;simp⟩
end
noncomputable abbrev Ho(s:D)(bd:List Str)(W w:Nat)(c5 c6 c7 c8 c9 Us Ut:Option Sl):cK:=[fz s,fz (brd bd),fz (iW w),fz (.lst ((ax bd W w).map cL)),fz (.lst ((sortI (lI bd W w)).map tupI)),c5,c6,c7,c8,c9,Us,Ut]
section
open Classical
variable{bd:List Str}{W w:Nat}
def Pq(hg:Brd bd W)(hs:bd.length*W<64)(hw:Ways w):kx (Ho s bd W w c5 c6 none none none none none)=ab (.nx (Ho s bd W w c5 c6 none none none none none)):=by
 refine dq (eQ (ds:=(EZ bd W w).map LI) (ada ab (nS _)) (nH LI _ (EZ bd W w) λq hq=>⟨_,rfl,?_⟩));have hi:=Hn hq;refine(bh (ρ':=Ho s bd W w c5 c6 (fz (.int (q.1:Int))) (fz (cL q.2)) none none none) (dE (xG (p:=false) (q:=false) (jE (b:=true) (lC ((ak rfl rfl).trans (Gm hg hs hw hi)))) (eg ((aH ((ak rfl rfl).trans (zr hg hs hw hi)) ((a7 rfl).trans (nN _))).trans (ne_self ((pX 6 _ _).trans (by simp)))))) rfl)).trans rfl
def yl{P:List Cell}(h:0<P.length):kY (cL P) (.int 0)=ab (cD P[0]):=mh (i:=0) (by rw[Wj,V6 h];rfl)
def Mt{f:Cell->Nat}{ks:List Cell}(hg:Brd bd W)(hs:bd.length*W<64)(hw:Ways w)(hf:Num bd W w f)(hk:∀k,k∈ks↔BL bd.length W f k)(et:cI [brd bd,iW w]=ab (tD bd.length W f ks)):ju (Ho s bd W w c5 c6 none none c9 none none)=ab (.nx (Ho s bd W w c5 c6 none none c9 none none)):=by
 refine dq (eQ (pK ((ak rfl rfl).trans et)) (nH (λk=> .tup [cD k, .int (pf bd.length W f k:Int)]) _ ks λk sT=>⟨_,rfl,?_⟩));have t:=(hk k).mp sT;have p:=Nt t;have t':=t;obtain⟨x,y,hx,hy,_,h2,rfl⟩:=t';obtain⟨P,p1,p2⟩:=hf x hx;obtain⟨Q,q1,q2⟩:=hf y hy;have pp:=Xn p2;have qq:=Xn q2;have hn:=zF hw hf t p1 q1 (WR pp) (WR qq);have oP:=dH hw P (Wx p1) _ (WR pp);have oQ:=dH hw Q (Wx q1) _ (WR qq);refine(bh (ρ':=Ho s bd W w c5 c6 none none c9 (fz (cD (f x,f y))) (fz (.int (pf bd.length W f (f x,f y):Int)))) (ao (dE (xG (p:=false) (q:=false) (eg ((aH (x:= .int (f x:Int)) (y:= .int (f y:Int)) rfl rfl).trans (ada (λb=>ab (D.bl b)) (ac8 (by omega))))) (eg ((aH (x:= .int (pf bd.length W f (f x,f y):Int)) (y:= .int 1) rfl rfl).trans (ada (λb=>ab (D.bl b)) (ac8 (by omega)))))) rfl) (dE (eg ((aH ((ak (aE rfl (aE ((aH ((aH (x:= .lst ((ax bd W w).map cL)) (y:= .int (f x:Int)) rfl rfl).trans (mh (d:=cL P) (by rw[Wj,p1];rfl))) rfl).trans (yl pp)) rfl)) rfl).trans (k_ hg oP)) ((ak (aE rfl (aE ((aH ((aH (x:= .lst ((ax bd W w).map cL)) (y:= .int (f y:Int)) rfl rfl).trans (mh (d:=cL Q) (by rw[Wj,q1];rfl))) rfl).trans (yl qq)) rfl)) rfl).trans (k_ hg oQ))).trans ((KS _ _).trans (by rw[ac8 hn])))) rfl))).trans rfl
end
def Gg(ns:List Int)(hl:ns.length<=63):kD [.scr ns]=ab (.bl true):=by
 obtain⟨bd,W,hG,h4,w4,eb⟩:=z9 ns hl 0 4 (by decide) (by decide);have hg:=hG.brd;have VU:bd.length*W<=16:=ZJ h4 w4;have hs:bd.length*W<64:=by omega
 refine aP ?_;refine ao ((aI ((ak rfl rfl).trans eb)).trans rfl) ?_;obtain⟨v,hv,ev⟩:=gi ns hl 50 2 (by decide);obtain⟨w,hw,ew⟩:∃w,Ways w/\kY (.lst [.int 4, .int 8]) (.int (v:Int))=ab (iW w):=by
  match v,hv with
  |0,_=>exact⟨4, .inl rfl,rfl⟩
  |1,_=>exact⟨8, .inr rfl,rfl⟩
 refine ao ((aI ((aH rfl ((ak rfl rfl).trans ev)).trans ew)).trans rfl) ?_;refine ao ((aI ((ak rfl rfl).trans (yW hg hs hw))).trans rfl) ?_;refine ao (ρ':=Ho (.scr ns) bd W w none none none none none none none) ((aI ((ak rfl rfl).trans (mq hg hs hw))).trans rfl) ?_;refine ao (dE (eg ((aH (SF hg hs hw rfl) ((aH (Gi rfl) (hg.len0 rfl)).trans (eX (i:=(bd.length:Int)) (j:=(W:Int)) (.inl ⟨by omega,by omega⟩)))).trans (by rw[show ((bd.length*W:Nat):Int)=(bd.length:Int)*(W:Int) from Int.natCast_mul ..];exact ne_self ((pX 6 _ _).trans (by simp))))) rfl) ?_;obtain⟨f,ks,hf,hr,hk,et⟩:=w6 hg (by omega) hw;have NT:=RiseC.nodup hr;have OR:=C5 NT λk h=>(hk k).mp h;refine ao (ρ':=Ho (.scr ns) bd W w (fz (.int (((ks.map λk=>pf bd.length W f k).sum:Nat):Int))) none none none none none none) ((aI ((Ey (ks:=ks) (g:=λk=>(pf bd.length W f k:Int)) (by omega) ((ak rfl rfl).trans et)).trans (by rw[HP]))).trans rfl) ?_;refine ao (dE (eg ((aH (SG hg hs hw hf NT hk rfl) ((aH ((aH rfl rfl).trans (eX (i:=2) (j:=(((ks.map λk=>pf bd.length W f k).sum:Nat):Int)) (.inl ⟨by decide,by decide⟩))) ((aH rfl ((aH (Gi rfl) (hg.len0 rfl)).trans rfl)).trans (eX (i:=2) (j:=(bd.length:Int)+(W:Int)) (.inl ⟨by decide,by decide⟩)))).trans rfl)).trans (by rw[show ((2*(ks.map λk=>pf bd.length W f k).sum+2*(bd.length+W):Nat):Int)=2*(((ks.map λk=>pf bd.length W f k).sum:Nat):Int)+2*((bd.length:Int)+(W:Int)) by omega];exact ne_self ((pX 6 _ _).trans (by simp))))) rfl) ?_;obtain⟨u,hu,eu⟩:=gi ns hl 51 2 (by decide);obtain⟨Lr,W',FT,EW,em,eo⟩:=Ei (w:=w) (δ:=ar 3 a_ (aC (dV 0) (aC (dC (.int 51)) (aC (dC (.int 2)) aN)))) (ρ:=Ho (.scr ns) bd W w (fz (.int (((ks.map λk=>pf bd.length W f k).sum:Nat):Int))) none none none none none none) hG hw hu rfl ((ak rfl rfl).trans eu);refine ao (ρ':=Ho (.scr ns) bd W w (fz (.int (((ks.map λk=>pf bd.length W f k).sum:Nat):Int))) (fz (brd Lr)) none none none none none) ((aI eo).trans rfl) ?_;refine ao (dE (eg ((aH ((ak rfl rfl).trans (mq FT (by omega) hw)) rfl).trans (by rw[em];exact ne_self (Eu _)))) rfl) ?_;refine ao (Pq hg hs hw) ?_;refine ao (ρ':=Ho (.scr ns) bd W w (fz (.int (((ks.map λk=>pf bd.length W f k).sum:Nat):Int))) (fz (brd Lr)) none none (fz (Rp bd W w)) none none) ((aI ((ak rfl rfl).trans (vy hg hs hw))).trans rfl) ?_;obtain⟨Q,q1,q2⟩:=FK hg hw;have ep:=Fq hg hw;refine ao (dE (xG (p:=false) (q:=false) (eg ((aH (kA cL (pK rfl:bJ _ _=ab ((ax bd W w).map cL)) λP hP=>?_) rfl).trans p5)) (eg ((aH (x:= .int ((LH bd W (EZ bd W w)).length:Int)) (y:= .int 1) ((a7 (aE ((ak rfl rfl).trans (xt hg hs hw)) rfl)).trans rfl) rfl).trans (ada (λb=>ab (D.bl b)) (ac8 (by omega)))))) rfl) ?_
 ·refine(eg ((aH ((a7 rfl).trans (nN _)) ((a7 (aE ((aH (x:= .lst ((ax bd W w).map cL)) (y:= .int ((nR bd W w).idxOf (fQ (nR bd W w)):Int)) rfl rfl).trans (mh (d:=cL Q) (by rw[Wj,q1];rfl))) rfl)).trans (nN _))).trans (ada (λb=>ab (D.bl b)) (ac8 ?_))));have:=q2 P hP;omega
 refine ao (Mt hg hs hw hf hk et) ?_;have tm:=Bs hw hf hk;refine aF ((aH (x:= .int ((ks.map λk=>D.tup [cD k, .int (pf bd.length W f k:Int)]).length:Int)) (y:= .int (((ax bd W w).length:Int) - 1)) ((a7 (aE ((ak rfl rfl).trans et) rfl)).trans rfl) ((aH (Cq rfl) rfl).trans rfl)).trans (ada (λb=>ab (D.bl b)) (ac7 ?_)));rw[V5];omega
def DF(K:Wm)(x:Str)(s:Stmt):Prop:=∃(f:Addr) (oc:Value) (od an:Option Addr) (sl:Array (Option Value)) (kV dc pm cd ct:Value),W3 K WD x=some (some (.ref f))/\K.lookup f=some ⟨oc,od, .func (Yb x x (fC s) (bo s) (ah s) .none kV dc pm an cd ct),sl⟩/\Y_ K cd x=true/\Ym K (.ref f)=true
def DF.mk{K:Wm}{x:Str}{s:Stmt}{f:Addr}{oc:Value}{od an:Option Addr}{sl:Array (Option Value)}{kV dc pm cd ct:Value}(a:W3 K WD x=some (some (.ref f)))(l:K.lookup f=some ⟨oc,od, .func (Yb x x (fC s) (bo s) (ah s) .none kV dc pm an cd ct),sl⟩)(c:Y_ K cd x=true)(k:Ym K (.ref f)=true):DF K x s:=⟨f,oc,od,an,sl,kV,dc,pm,cd,ct,a,l,c,k⟩
def DF.at{K:Wm}{x:Str}{s:Stmt}{h:Heap}{mg:Str->Option Value}(X:K.In h)(G:h.Ns WD mg)(d:DF K x s):∃f,bj K mg x s f:=by
 obtain⟨f,oc,od,an,sl,kV,dc,pm,cd,ct,a,l,c,k⟩:=d;exact⟨f,ZG X G a,_,FD (st:=s) l c k⟩
def all_mk{P:WU}{w:World}{K:Wm}{h:Heap}{mg:Str->Option Value}{fa:Addr}(X:K.In h)(G:h.Ns WD mg)(U0:mg "law"=some (.ref fa))
 {lD:Addr}{AZ p_:Option Addr}{Bn:Array (Option Value)}{AY qQ qm rY lA ql:Value}
 {ED:Tok}
 {zE:Tok}
 {sx:Tok}
 (d_is_whole:DF K "is_whole" lQ)
 (d_is_letter:DF K "is_letter" kc)
 (d_cells_of_row:DF K "cells_of_row" e_)
 (d_letter_of:DF K "letter_of" kg)
 (d_are_next:DF K "are_next" lO)
 (d_keyed:DF K "keyed" wB)
 (d_column_from_below:DF K "column_from_below" cP)
 (d_numbers_of:DF K "numbers_of" ji)
 (d_distances:DF K "distances" j_)
 (d_is_at_edge:DF K "is_at_edge" je)
 (d_law_cell:DF K "_law_cell" lR)
 (d_is_row:DF K "is_row" mV)
 (d_is_cell:DF K "is_cell" oi)
 (d_need_ways:DF K "need_ways" ki)
 (d_all_cells:DF K "all_cells" j9)
 (d_next_cells:DF K "next_cells" jh)
 (d_need_number:DF K "need_number" ig)
 (d_comes_to_edge:DF K "comes_to_edge" eG)
 (d_law_drawn:DF K "_law_drawn" ke)
 (d_is_board:DF K "is_board" gG)
 (d_need_cell:DF K "need_cell" kh)
 (d_like_cells:DF K "like_cells" gb)
 (d_near_among:DF K "near_among" gc)
 (d_shared_sides:DF K "shared_sides" gJ)
 (d_law_board:DF K "_law_board" g6)
 (d_need_board:DF K "need_board" jg)
 (d_steps_back:DF K "steps_back" jj)
 (d_parts_of:DF K "parts_of" lS)
 (d_letter_at:DF K "letter_at" kf)
 (d_turned:DF K "turned" mW)
 (d_mirrored:DF K "mirrored" jf)
 (d_all_patches:DF K "all_patches" ie)
 (d_shut_parts:DF K "shut_parts" fc)
 (d_patches:DF K "patches" oj)
 (d_how_many:DF K "how_many" lP)
 (d_patch_of_number:DF K "patch_of_number" fb)
 (d_touching:DF K "touching" lT)
 (d_greatest:DF K "greatest" jd)
 (d_at_edge:DF K "at_edge" kR)
 (d_size:DF K "size" Bf)
 (d_rim:DF K "rim" CY)
 (d_box:DF K "box" zg)
 (d_shut_in:DF K "shut_in" om)
 (d_holes:DF K "holes" wA)
 (d_law_measures:DF K "_law_measures" gH)
 (d_law_lies:DF K "_law_lies" dU)
 (a_law_k32:W3 K WD "law"=some (some (.ref lD)))(l_law_k32:K.lookup lD=some ⟨AY,AZ, .func (Yb "law" "law" (fC av) (bo av) (ah av) .none qQ qm rY p_ lA ql),Bn⟩)(c_law_k32:Y_ K lA "law"=true)(k_law_k32:Ym K (.ref lD)=true)
 (z_len:W3 K WD "len"=some none)
 (z_isinstance:W3 K WD "isinstance"=some none)
 (z_all:W3 K WD "all"=some none)
 (z_any:W3 K WD "any"=some none)
 (z_abs:W3 K WD "abs"=some none)
 (z_max:W3 K WD "max"=some none)
 (z_min:W3 K WD "min"=some none)
 (z_sum:W3 K WD "sum"=some none)
 (z_range:W3 K WD "range"=some none)
 (z_str:W3 K WD "str"=some none)
 (z_int:W3 K WD "int"=some none)
 (z_bool:W3 K WD "bool"=some none)
 (z_tuple:W3 K WD "tuple"=some none)
 (z_list:W3 K WD "list"=some none)
 (z_sorted:W3 K WD "sorted"=some none)
 (z_reversed:W3 K WD "reversed"=some none)
 (z_enumerate:W3 K WD "enumerate"=some none)
 (y_LETTERS:W3 K WD "LETTERS"=some (some (.str "abcdef" ED)))
 (y_MOST_ROWS:W3 K WD "MOST_ROWS"=some (some (.int 8 zE)))
 (y_MOST_COLUMNS:W3 K WD "MOST_COLUMNS"=some (some (.int 8 sx))):
 ∃(cv:Nat->Value) (fd:Y5),(∀(s:We) (u:Value),acS s fd ⟨[u],[]⟩ [("_law_script",u)])/\∀base:Heap,K.In base->base.Ns WD mg->FnOk P w K mg base (lW P w cv) 9 fa fd ["_law_script"] (N0 K cv 1 kD):=by
 have ea:=U0.symm.trans (ZG X G a_law_k32);cases ea;refine⟨λ_=> .none,Yb "law" "law" (fC av) (bo av) (ah av) .none qQ qm rY p_ lA ql,λs v=> .of_eq rfl,λbase KB GB=>?_⟩;have B:Bl K mg base (λ_=> .none) (λ_=>WD) WD:=⟨WL X G z_len,WL X G z_isinstance,WL X G z_all,WL X G z_any,WL X G z_abs,WL X G z_max,WL X G z_min,WL X G z_sum,WL X G z_range,WL X G z_str,WL X G z_int,WL X G z_bool,WL X G z_tuple,WL X G z_list,WL X G z_sorted,WL X G z_reversed,WL X G z_enumerate,⟨_,ZG X G y_LETTERS⟩,⟨_,ZG X G y_MOST_ROWS⟩,⟨_,ZG X G y_MOST_COLUMNS⟩⟩
 have lJ:=(DF.at X G d_is_whole).elim λ_ t=>yM (P:=P) (w:=w) B t;have yD:=(DF.at X G d_is_letter).elim λ_ t=>vU (P:=P) (w:=w) B t;have rp:=(DF.at X G d_cells_of_row).elim λ_ t=>pM (P:=P) (w:=w) B t;have oY:=(DF.at X G d_letter_of).elim λ_ t=>vY (P:=P) (w:=w) B t;have AN:=(DF.at X G d_are_next).elim λ_ t=>yI (P:=P) (w:=w) B t;have mE:=(DF.at X G d_keyed).elim λ_ t=>GP (P:=P) (w:=w) B t;have kZ:=(DF.at X G d_column_from_below).elim λ_ t=>jY (P:=P) (w:=w) B t;have vQ:=(DF.at X G d_numbers_of).elim λ_ t=>s_ (P:=P) (w:=w) B t;have yC:=(DF.at X G d_distances).elim λ_ t=>vT (P:=P) (w:=w) B t;have vN:=(DF.at X G d_is_at_edge).elim λ_ t=>sX (P:=P) (w:=w) B t;have AS:=(DF.at X G d_law_cell).elim λ_ t=>yN (P:=P) (w:=w) B t;have GK:=(DF.at X G d_is_row).elim λ_ t=>Ec (P:=P) (w:=w) B yD t;have D9:=(DF.at X G d_is_cell).elim λ_ t=>A1 (P:=P) (w:=w) B lJ t;have eP:=(DF.at X G d_need_ways).elim λ_ t=>v3 (P:=P) (w:=w) B lJ t;have jX:=(DF.at X G d_all_cells).elim λ_ t=>vS (P:=P) (w:=w) B rp t;have f7:=(DF.at X G d_next_cells).elim λ_ t=>s9 (P:=P) (w:=w) B AN t;have sW:=(DF.at X G d_need_number).elim λ_ t=>rC (P:=P) (w:=w) B lJ t;have jx:=(DF.at X G d_comes_to_edge).elim λ_ t=>nW (P:=P) (w:=w) B vN t;have oX:=(DF.at X G d_law_drawn).elim λ_ t=>vW (P:=P) (w:=w) B AS t;have AR:=(DF.at X G d_is_board).elim λ_ t=>yL (P:=P) (w:=w) B GK t;have yG:=(DF.at X G d_need_cell).elim λ_ t=>vZ (P:=P) (w:=w) B D9 t;have vO:=(DF.at X G d_like_cells).elim λ_ t=>sY (P:=P) (w:=w) B oY f7 t;have vP:=(DF.at X G d_near_among).elim λ_ t=>sZ (P:=P) (w:=w) B mE f7 t;have rA:=(DF.at X G d_shared_sides).elim λ_ t=>pO (P:=P) (w:=w) B vQ jX f7 t;have yE:=(DF.at X G d_law_board).elim λ_ t=>vV (P:=P) (w:=w) B oX t;have b9:=(DF.at X G d_need_board).elim λ_ t=>s8 (P:=P) (w:=w) B AR t;have vR:=(DF.at X G d_steps_back).elim λ_ t=>th (P:=P) (w:=w) B vO t;have AW:=(DF.at X G d_parts_of).elim λ_ t=>yQ (P:=P) (w:=w) B vP yC mE t;have yF:=(DF.at X G d_letter_at).elim λ_ t=>vX (P:=P) (w:=w) B b9 yG oY t;have GN:=(DF.at X G d_turned).elim λ_ t=>Ed (P:=P) (w:=w) B b9 kZ t;have AV:=(DF.at X G d_mirrored).elim λ_ t=>yP (P:=P) (w:=w) B b9 t;have dG:=(DF.at X G d_all_patches).elim λ_ t=>rB (P:=P) (w:=w) B jX vR mE t;have mF:=(DF.at X G d_shut_parts).elim λ_ t=>tf (P:=P) (w:=w) B mE jX AW jx t;have D_:=(DF.at X G d_patches).elim λ_ t=>A2 (P:=P) (w:=w) B b9 eP dG t;have AQ:=(DF.at X G d_how_many).elim λ_ t=>yK (P:=P) (w:=w) B b9 eP dG t;have cE:=(DF.at X G d_patch_of_number).elim λ_ t=>lK (P:=P) (w:=w) B b9 eP dG sW t;have AX:=(DF.at X G d_touching).elim λ_ t=>yR (P:=P) (w:=w) B b9 eP rA dG t;have AO:=(DF.at X G d_greatest).elim λ_ t=>yJ (P:=P) (w:=w) B b9 eP dG t;have D8:=(DF.at X G d_at_edge).elim λ_ t=>A0 (P:=P) (w:=w) B b9 eP jx dG t;have GL:=(DF.at X G d_size).elim λ_ t=>JA (P:=P) (w:=w) B cE t;have PF:=(DF.at X G d_rim).elim λ_ t=>MD (P:=P) (w:=w) B cE mE f7 t;have PB:=(DF.at X G d_box).elim λ_ t=>MC (P:=P) (w:=w) B cE t;have Ea:=(DF.at X G d_shut_in).elim λ_ t=>A3 (P:=P) (w:=w) B cE mF t;have CB:=(DF.at X G d_holes).elim λ_ t=>GO (P:=P) (w:=w) B cE mF t;have rq:=(DF.at X G d_law_measures).elim λ_ t=>pN (P:=P) (w:=w) B AQ GL PF CB t;have AU:=(DF.at X G d_law_lies).elim λ_ t=>yO (P:=P) (w:=w) B PB Ea CB t;exact yH B yE D_ rq AO AX oX GN AV yF AU GL D8 (FD (st:=av) l_law_k32 c_law_k32 k_law_k32)
end K1
open PySem PySem.W PyProof.Rows
theorem PySem.Challenge.cw_cellpatches_k32_whole_measures_holds : PySem.Challenge.rw_cellpatches_k32_whole_measures.Holds := by
 w_on;refine holds_law (by kernel_rfl) λVH=>?_
 refine holds_open (q:=K1.zJ) (loose:=[]) (Xt:=λs=>xlAt K1.zJ [] s&&recOk (RowW.records (OpenRow.toRowW _)) s) (XP:=XL K1.zJ []) (Yf:=Hook.obs (kHook K1.qE K1.qD (λ_=>by kernel_rfl))) (Ya:=Hook.val (kHook K1.qE K1.qD (λ_=>by kernel_rfl))) (YP:=Hook.says (kHook K1.qE K1.qD (λ_=>by kernel_rfl))) (N:=5250) ?hl (Hook.of (kHook K1.qE K1.qD (λ_=>by kernel_rfl))) (Hook.keeps (kHook K1.qE K1.qD (λ_=>by kernel_rfl))) (λs e=>xl_of s (acq.mp e).1) XL.keeps (by rfl) (by rfl) (by rfl) (λs e=>recFacts_of (acq.mp e).2) (by rfl) (by first | assumption | decide+kernel) (by decide+kernel) ⟨rfl,rfl,rfl,rfl,rfl,by decide+kernel⟩ ?hw ?hc
 case hl=>exact K1.OS
 (case hw=>w_witness2)
 k_fill
 refine L3.Qt (l:=PySem.Challenge.rw_cellpatches_k32_whole_measures) (k:=9) (n:=63) (x:="_law_script") (g:=K1.kD) rfl (by decide) rfl ⟨rfl,by decide,by decide⟩ (λw h Y=>PySem.W.kIn_of Y) K1.Gg ?F
 case F=>
  intro w mg fa h KX G L1;refine' K1.all_mk KX G L1 ?d_is_whole ?d_is_letter ?d_cells_of_row ?d_letter_of ?d_are_next ?d_keyed ?d_column_from_below ?d_numbers_of ?d_distances ?d_is_at_edge ?d_law_cell ?d_is_row ?d_is_cell ?d_need_ways ?d_all_cells ?d_next_cells ?d_need_number ?d_comes_to_edge ?d_law_drawn ?d_is_board ?d_need_cell ?d_like_cells ?d_near_among ?d_shared_sides ?d_law_board ?d_need_board ?d_steps_back ?d_parts_of ?d_letter_at ?d_turned ?d_mirrored ?d_all_patches ?d_shut_parts ?d_patches ?d_how_many ?d_patch_of_number ?d_touching ?d_greatest ?d_at_edge ?d_size ?d_rim ?d_box ?d_shut_in ?d_holes ?d_law_measures ?d_law_lies ?a_law_k32 ?l_law_k32 ?c_law_k32 ?k_law_k32 ?z_len ?z_isinstance ?z_all ?z_any ?z_abs ?z_max ?z_min ?z_sum ?z_range ?z_str ?z_int ?z_bool ?z_tuple ?z_list ?z_sorted ?z_reversed ?z_enumerate ?y_LETTERS ?y_MOST_ROWS ?y_MOST_COLUMNS
  any_goals (refine' K1.DF.mk ?a ?l ?c ?k;(case a=>k_is);(case l=>k_is);(case c=>k_is);(case k=>k_is))
  any_goals first | k_is | kit_is | k_exc | rfl
