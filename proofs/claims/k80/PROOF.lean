import PyProof.Rows.All
import KE.KDictOf
import KE.KDictSum
import KE.KSortTup
import KE.KTryMore
import KE.RegKIsAll
import Lean
import PySem.Challenge.RW_cellpatches_k80_texts
open PySem renaming wpAny_bind->U_,wpAny_pure->Va,Shared->Vf,starEach->Vs,sizeLine->VB,mainGlobals->VD,Program->VG,Around->V2,bootBuiltins->V4,wpAny_holding->Wf,wpAny_newObj_type->Wg,wpAny_mono->Wl,SetTable->Wo,compareOp->Ww,wpAny_call_entry->Wx,wpAny_setState_of->Wz,behindInMarks->WJ,attributeBase->WK,wpAny_truthy_bool->WR,IsTupleKey->WS,codeAny_builtin->WX,sysModules->W0,backTo->W7,mem_of_lookup->W8,wpAny_callSpecial?_slot->Xa,Keyword->Xb,wpAny_dictEntries->Xc,sizeLine_eq->Xe,keywordEach->Xf,intKind->Xg,FuncData->Xv,wpAny_ite_split->Xx,DictEntry->XA,plainId_quiet->XF,wpAny_typeNameOfWhole_keyiter->XJ,tupleKind->XM,wpAny_Call_Name_kw->XW,wpAny_passesOwn->X1,Builtin->X3,foldedSetIterable->X6,call_meets->X7,rawInt->Yg,wpAny_forIn_list->Yi,wpAny_typeOf->Yr,wpAny_typeNameOf_keyiter->Ys,typeIs_str->Yt,wpAny_getItem_str_slice->Yx,wpAny_execs_nil->Yy,binaryOp->Yz,backToKw->YA,codeAny->YF,wpAny_seqItems->YI,pyNext->YM,wpAny_askSetting->YN,storedH->YO,wpAny_specialOf->YZ,wpAny_dictEpoch->Y0,sliceBounds->Y1,tupleKind_room_in1->Zd,tupleKeyHash->Ze,codeAny_mono->Zf,NameKind->Zg,wpAny_tryCatch->Zh,wpAny_setField->Zi,wpAny_pyIter_list->Zq,swapsWith->Zr,wpAny_of_eq->ZC,wpAny_isInstance->ZJ,wpAny_notOrdered_dict->ZQ,post_val_or_str->ZR,letOwnedTupleGo->ZS,getItem->ZT,builtinLookup_eq_fast->ZU,typeLookup->Z2,assignEach->Z3,codeAny_call_builtin->Z6,wpAny_fieldsOf->aad,recursionLimit->aae,firstArgMember->aaf,Paired->aag,wpAny_setEntries_of->aai,wpAny_attempt->aaz,dictSetHashed->aaA,wpAny_pyIter_slot->aaO,wpAny_loadPart_at->aaP,wpAny_assign_Name->aaQ,ofAClassStatement->aaR,callerA->aaS,setAddHashed->aa2,IsPart->aa3,noFill_tuple_add->aa8,checkBuiltinCall->aa9,wpAny_updateSeq->abo,wpAny_letGo->abp,valueAt->abq,typeLookup_type->abr,size_of_entries->abt,richCompare->abu,cellsFrom->abv,BindsTo->abF,wpAny_newFunctionEnv_cells->abH,isSubtype_type->abO,wpAny_rule->abZ,wpAny_comprehension_free->ab0,pyIter->ab1,entryOfKey->ab2,Result->ab3,wpAny_newList->acb,swapsWithSole->ace,setField->acg,seq_tuple_add->ach,notedBy->aci,call->acn,GenState->acv
open List renaming length_map->Vb,mem_cons_of_mem->Vc,mem_cons_self->Ve,getElem?_eq_getElem->Vg,map_cons->Vi,length_cons->Vk,size_toArray->Vl,length_append->Vm,mem_cons->Vo,mem_map->Vp,getElem?_eq_some_iff->Vt,range->Vw,replicate->Vx,getElem?_set_ne->Vy,getElem?_map->Vz,getElem?_set_self->VF,nil_append->VL,getD_eq_getElem?_getD->VN,mem_append_right->VP,mem_singleton->VS,map_map->VX,mem_of_getElem?->VY,getElem?_append_left->VZ,mem_append->V3,mem_range->V5,length_nil->V6,append_nil->V7,getElem?_append_right->V9,getElem?_cons_zero->V_,getElem?_cons_succ->Wa,length_range->We,not_mem_nil->Wh,pairwise_iff_getElem->Wj,mem_iff_getElem->Wk,range'->Wr,mem_filter->Ws,all_eq_true->Wu,map_append->WA,zip_cons_cons->WD,pairwise_cons->WE,nodup_cons->WG,getElem?_replicate->WH,Nodup->WI,filterMap_cons_some->WU,cons_append->WW,mem_append_left->WZ,toArray->W2,map_nil->W3,flatMap_cons->W5,append_assoc->W6,replicate_succ->W9,map_congr_left->W_,lookup_cons->Xh,length_take->Xi,getElem_map->Xj,sum_cons->Xk,nodup_append->Xo,foldl_cons->Xp,length_filter_le->XN,getElem?_eq_none->XO,flatten_cons->XX,drop_eq_getElem_cons->X4,getElem_mem->X9,any_eq_true->X_,filterMap_cons->Yb,filterMap_cons_none->Yd,set_cons_zero->Yj,set_cons_succ->Yk,mem_filterMap->Yl,length_zip->Ym,length_eq_zero_iff->Yn,find?_cons->Yo,any_cons->Yp,pairwise_map->Yw,nodup_nil->YB,take_append_drop->YC,map_flatMap->YE,pairwise_append->YH,all_cons->YL,all_map->YT,length_erase_of_mem->Y9,take_length->Zk,range'_succ->Zl,mem_flatMap->Zm,zip_append->Zx,of_mem_zip->Zy,length_replicate->Zz,length_range'->Z5,perm_middle->aat,length_drop->aau,isEmpty_nil->aav,getElem_zip->aaw,ext_getElem->aax,drop_length->aay,mem_zipIdx_iff_getElem?->aaE,length->aaK,forIn_cons->aaL,filter_cons_of_pos->abi,filter_cons_of_neg->abj,range_succ_eq_map->abB,not_of_lt_findIdx->abC,length_pos_of_mem->abD,length_singleton->abM,getElem?_toArray->abN,range_eq_range'->abT,mem_erase_of_ne->abU,getElem?_mapIdx->abV,map_eq_nil_iff->ab5,length_flatMap->ab6,getElem_of_mem->ab7,getElem?_range->ab8,getElem_range->acs,find?_eq_none->acu,foldl->acF,ext_getElem?->acG
open PySem.Heap renaming get?_push_of_some->Vd,get?_push_size->Vq,lt_size->Vr,get?_update_self->Wb,SameBut->WQ,size_push->Xl,get?_update_other->Zp,get?_none_of_le->abW,ExtBut->ab9
open Array renaming length_toList->Vh,getElem?_eq_getElem->Vu,getD_eq_getD_getElem?->Vv,getElem?_eq_some_iff->V8,getElem?_toList->Wq,getElem?_eq_none->Yu,getElem?_setIfInBounds_self_of_lt->Zw,forIn_toList->ZZ,append_assoc->Z0,getElem?_setIfInBounds_ne->aac,replicate->aaH,size_setIfInBounds->aa6,getElem?_replicate->aa7,toList_filterMap->abn,toList_filter->abY,foldl_toList->aca,toList_push->acy,isEmpty_iff->acz
open Nat renaming le_refl->Vj,ne_of_lt->VH,le_trans->VI,lt_of_lt_of_le->VW,zero_le->V1,lt_irrefl->Wc,le_of_lt->W4,mul_le_mul->Xm,lt_succ_of_lt->Xr,lt_succ_self->XC,ne_of_gt->XS,lt_trans->XT,zero_add->Ye,mul_le_mul_right->YK,add_right_comm->YU,add_mul->Zj,le_add_right->Zo,lt_of_le_of_lt->Z_,le_of_eq->aar,add_comm->aas,le_antisymm->aaW,mod_lt->abh,div_div_eq_div_mul->abL,mul_comm->abS,one_mul->acq,mul_one->acr
open PySem.W renaming Frag->Vn,kitOne->VE,nsIn->VJ,mg_none_of->VU,kia_one->Wn,mg_of->Wt,fnOf->WC,keepIn->WY,findIn->Xu,codeIn->XZ,hideAll->YG,exmOne->YQ,mroIn->Y3,clsIn->Y4,cellsFrom_some->Y_,looks_findIn->Zt,excIn->ZL,methodObj->ZV,instObj->aak,lookIn->aaC,looks_mroIn->aby,kdu_collect->abz,hideAll_get->abA,of_hideAll->abI,codeRec_of->abJ,callWith_K->abK,kitx_list->abQ,kitx_dict->abR,plainGet->ab4,OpenLaw->aco
open Bool renaming and_eq_true->VA,false_eq_true->VC,false_ne_true->VM,not_true->XY,not_false->YX,and_false->YY,eq_false_iff->aah,true_and->abl,and_true->abm,and_eq_true_iff->abX
open Option.some renaming inj->VO
open PySem.Value renaming ref->VQ,none->Wi,bool->XB,builtin->Yh,type->Y2,isInt->aaB,str->abw,int->abx
open PySem.PassesOwn renaming never->VR
open PySem.Heap.SameBut renaming update->VT,refl->aa4
open PySem.Str renaming ofString->V0,join->acC
open Option renaming isSome_iff_exists->Wm,map_eq_some_iff->Yq,getD_some->Zb,isSome_map->Z4,getD_none->acp
open Ne renaming symm->Wv
open ForInStep renaming yield->Wy
open PySem.Around renaming under_plainId->WB,frames_deeper->abG
open Classical renaming byContradiction->WL,propDecidable->aaG,not_forall->aa5,not_imp->abE
open False renaming elim->WM
open True renaming intro->WN
open PyProof.Rows.F renaming plain_set_update_loop->WO,entry_set_update_loop->Y7
open PySem.Builtin.Str renaming occurrences->WT,strKind->aa1,subAt->abf,glued->abg
open PyProof.Rows renaming callWith_type1->WV,slot_tuple_getitem->Xd,IntsAre->Xz,envOfC->XD,seqObj->X2,callWith_builtin1->ZE,kindOf->ZK,AllBare->Z1,lt_int->aaJ,subscriptTail->acf,subscriptTail_builtinR->acA
open ToString renaming toString->Xn
open PySem.F renaming plainAttrs_list->Xq,plainAttrs_str->Xy,plain_min_loop->XG,slot_dict_keyiterator_next->XQ,args_tuple_add_2->YS,slot_list_index->Y5,entry_tuple_add->Y6,slot_tuple_add->Za,args_str_split_2->aan,excBase_ValueError->aaq,entry_str_split->aaF,slot_dict_update->aaI,args_dict_keyiterator_next_1->aaM,type_list_index->aaV,slot_str_split->aaX,entry_min_loop->aaY,entry_dict_keyiterator_next->aaZ,type_str_join->abd,slot_str_join->abe,typeOf_object_class->acw
open PySem.Paired renaming length->Xs
open PySem.Obj renaming mapSeq->XE,data_mapFields->XI,data_mapDictKeys->YJ,isFreed_of_fields->ZF,isFreed_of_dict->ZW,mapFields->Z9,putSet->aal,cls_mapFields->aam
open PySem.Builtin.Slice renaming slicePlaces->XH,sliceAdjust->YD,sliceApplied->ZO
open PySem.Builtin.Tuple renaming tupleExact->XR,tupleItemsOf->ZN,tupleHashOf->ZY
open PySem.Builtin.List renaming listTooLong->XU,listLengthHint->ZP
open PySem.Builtin.Dict renaming updateFrom->X0,showsAll->YW,entriesForEmpty->ZM,selfAndRest->aaa,addKeywords->aab,pairItems->aao,mergeDict->aap
open PySem.Data renaming dict->X5,fields->ab_
open PySem.Txt renaming split->X8,slice_le->ZD,zfill->Z7,join->Z8,slice->aaT
open Prod.mk renaming injEq->Yc
open PUnit renaming unit->Yv
open PySem.Calls renaming spliced_cons->YR,spliced_nil->Y8,evalArgs_plain->ZI,Name_function_global->aaN,call_function_entry->aa0,callWith_builtin->abk
open Int renaming emod_lt_of_pos->YV,toNat_natCast->Zc,emod_nonneg->ZH,toNat_of_nonneg->ZX
open PySem.Builtin.Dict_items renaming ownsTuple->Zn
open LawfulBEq renaming eq_of_beq->Zs
open List.Pairwise renaming nil->Zu,imp->Zv
open PySem.Builtin.Builtins renaming bindParams->ZA
open Int.ofNat renaming inj->ZG
open Sum renaming inl->aaj,inr->aaU
open Prod renaming ext->aaD
open PySem.StrLaws renaming glued_eq_join->aa_
open PySem.SeqAt.EqAt renaming str_int->aba,int_str->abb,int_int->abc
open PySem.SetTable renaming gaveWay->abP,fits->acD
open MonadExcept renaming tryCatch->acd
open PySem.Walks renaming list->acj
open PySem.Value.ref renaming inj->ack
open PySem.SeqAt renaming EqAt->acm
open PySem.Code renaming quiet_builtin->acx
open PySem.pickOrder renaming go->acB
open PySem.NameKind renaming free->acE
open Function renaming comp->acH
set_option maxHeartbeats 0
set_option Elab.async false
set_option linter.all false
set_option maxRecDepth 100000
abbrev acI:=@if_pos
abbrev acJ:=@if_neg
abbrev acK:=@absurd
abbrev acL:=@decide_eq_true
abbrev acM:=@decide_eq_true_eq
abbrev acN:=@decide_eq_false
abbrev acO:=@of_decide_eq_true
abbrev acP:=@congrArg
abbrev acQ:=@beq_eq_false_iff_ne
abbrev acR:=@decide_eq_decide
namespace L2
open PySem
def dR(s:Stmt):Arguments:=match s with
 | .FunctionDef _ a _ _ _ _ _ _ _ _=>a
 |_=>{posonlyargs:=[],args:=[],vararg:=none,kwonlyargs:=[],kw_defaults:=[],kwarg:=none,defaults:=[]}
def bc(s:Stmt):List Stmt:=match s with
 | .FunctionDef _ _ b _ _ _ _ _ _ _=>b
 |_=>[]
def ai(s:Stmt):Scope:=match s with
 | .FunctionDef _ _ _ _ _ _ sc _ _ _=>sc
 |_=>{kind:= .function,names:=[],isGenerator:=false,isCoroutine:=false}
end L2
namespace K1
open PySem PySem.Spec
def top(i:Nat):Stmt:=PySem.Challenge.pw_cellpatches_k80_texts.main.body.getD i (.Pass ⟨0,0,0,0⟩)
abbrev hS(s:String)(t:Tok):Value:= .str (V0 s) t
abbrev hE(P:Params)(s:String)(t:Tok)(v:Value):XA:={hash:=PyData.keyHash P (V0 s),key:=hS s t,val:=v}
abbrev hT(xs:Array Value):Obj:={cls:= .type "tuple",data:=Data.seq xs}
abbrev hF(s:String)(t:Stmt)(m:Value)(c:Addr):Obj:={cls:= .type "function",data:=Data.func {name:=V0 s,qualname:=V0 s,params:=L2.dR t,body:=FuncBody.stmts (L2.bc t),scope:=L2.ai t,globals:=3,closure:=[],defaults:= .none,kwdefaults:= .none,pyModule:=m,code:= .ref c} }
abbrev j1(s:String)(t1 t2 t3:Tok)(l n f:Int)(a:Addr)(v:Int)(b:Addr)(x y:Value)(d:Addr)(p:Int)(t4:Tok):Obj:={cls:= .type "code",data:=ab_ #[hS s t1,hS s t2,hS "/claim/cut.py" t3, .int l 0, .int n 0, .int 0 0, .int 0 0, .int f 0, .ref a, .bool true, .int v 0, .ref b, .none,x,y, .ref d, .int p 0, .int l 0,hS "/claim/cut.py" t4]}
abbrev CI:Value:=hS "cellpatches.boards" 335
abbrev Gh:Value:=hS "law_cellpatches_k80_texts" 525
abbrev GU:Value:=hS "cellpatches.errors" 187
abbrev My:Value:=hS "cellpatches.patches" 438
abbrev Mz:Value:=hS "cellpatches.texts" 489
abbrev IT(n:String)(b a ns r:Addr)(t1 t2:Tok):Obj:={cls:= .type "type",data:=Data.cls {name:=V0 n,bases:=[.ref b],mro:=[.ref a, .ref b, .type "ValueError", .type "Exception", .type "BaseException", .type "object"],ns:=ns,qualname:=V0 n},slots:= #[some (.ref r),none,some (hS n t1),some (hS n t2),some (.builtin "ValueError.__new__"),some (.bool true)]}
def oO:Params->Vn:=λP=>(nat_lit 2,{cls:= .none,data:=X5 #[]})::
 (nat_lit 3,{cls:= .type "dict",data:=X5 #[hE P "__name__" 165 Gh,hE P "__doc__" 166 .none,hE P "__package__" 167 .none,hE P "__loader__" 168 (.builtin "__main__.__loader__#opaque"),hE P "__spec__" 169 .none,hE P "__annotations__" 170 (.ref 6),hE P "__builtins__" 171 (.ref 4),hE P "__file__" 173 (hS "/claim/cut.py" 172),hE P "__cached__" 174 .none,hE P "PatchError" 206 (.ref 24),hE P "NoBoard" 222 (.ref 37),hE P "NoWays" 238 (.ref 49),hE P "NoCell" 254 (.ref 61),hE P "NoLetter" 270 (.ref 73),hE P "NoNumber" 286 (.ref 85),hE P "NoFit" 302 (.ref 97),hE P "Nothing" 318 (.ref 109),hE P "NoText" 334 (.ref 121),hE P "LETTERS" 338 (hS "abcdef" 337),hE P "MOST_ROWS" 340 (.int 8 339),hE P "MOST_COLUMNS" 342 (.int 8 341),hE P "is_whole" 349 (.ref 130),hE P "is_letter" 356 (.ref 137),hE P "is_row" 362 (.ref 142),hE P "is_board" 368 (.ref 147),hE P "need_board" 375 (.ref 154),hE P "need_ways" 382 (.ref 161),hE P "cells_of_row" 388 (.ref 166),hE P "all_cells" 397 (.ref 173),hE P "letter_of" 405 (.ref 180),hE P "are_next" 416 (.ref 187),hE P "next_cells" 428 (.ref 194),hE P "keyed" 437 (.ref 201),hE P "like_cells" 445 (.ref 206),hE P "steps_back" 459 (.ref 213),hE P "all_patches" 471 (.ref 220),hE P "numbers_of" 482 (.ref 227),hE P "numbered" 488 (.ref 232),hE P "as_lines" 496 (.ref 237),hE P "two_figures" 503 (.ref 244),hE P "board_text" 510 (.ref 251),hE P "numbers_text" 516 (.ref 256),hE P "read_board" 524 (.ref 263),hE P "_law_cell" 534 (.ref 270),hE P "_law_drawn" 544 (.ref 277),hE P "_law_board" 550 (.ref 282),hE P "_law_cells" 556 (.ref 287),hE P "_law_beside" 571 (.ref 294),hE P "_law_labels" 577 (.ref 299),hE P "_law_patches" 583 (.ref 304),hE P "_law_refused" 591 (.ref 311),hE P "_law_told" 601 (.ref 318),hE P "law" 607 (.ref 323)] 53})::
 (nat_lit 15,hT #[.type "ValueError"])::
 (nat_lit 22,hT #[])::
 (nat_lit 23,{cls:= .type "dict",data:=X5 #[hE P "__module__" 196 GU,hE P "__firstlineno__" 200 (.int 2 199),hE P "__static_attributes__" 201 (.ref 22),hE P "__weakref__" 203 (.ref 25),hE P "__doc__" 204 .none] 3})::
 (nat_lit 24,{cls:= .type "type",data:=Data.cls {name:=V0 "PatchError",bases:=[.type "ValueError"],mro:=[.ref 24, .type "ValueError", .type "Exception", .type "BaseException", .type "object"],ns:=23,qualname:=V0 "PatchError",subclasses:=[.ref 37, .ref 49, .ref 61, .ref 73, .ref 85, .ref 97, .ref 109, .ref 121]},slots:= #[some (.ref 15),none,some (hS "PatchError" 189),some (hS "PatchError" 197),some (.builtin "ValueError.__new__"),some (.bool true)]})::
 (nat_lit 25,{cls:= .type "getset_descriptor",data:=ab_ #[hS "__weakref__" 202, .ref 24, .builtin "ExceptionGroup.__weakref__", .none]})::
 (nat_lit 28,hT #[.ref 24])::
 (nat_lit 35,hT #[])::
 (nat_lit 36,{cls:= .type "dict",data:=X5 #[hE P "__module__" 214 GU,hE P "__firstlineno__" 218 (.int 4 217),hE P "__static_attributes__" 219 (.ref 35),hE P "__doc__" 220 .none] 2})::
 (nat_lit 37,IT "NoBoard" 24 37 36 28 207 215)::
 (nat_lit 40,hT #[.ref 24])::
 (nat_lit 47,hT #[])::
 (nat_lit 48,{cls:= .type "dict",data:=X5 #[hE P "__module__" 230 GU,hE P "__firstlineno__" 234 (.int 6 233),hE P "__static_attributes__" 235 (.ref 47),hE P "__doc__" 236 .none] 2})::
 (nat_lit 49,IT "NoWays" 24 49 48 40 223 231)::
 (nat_lit 52,hT #[.ref 24])::
 (nat_lit 59,hT #[])::
 (nat_lit 60,{cls:= .type "dict",data:=X5 #[hE P "__module__" 246 GU,hE P "__firstlineno__" 250 (.int 8 249),hE P "__static_attributes__" 251 (.ref 59),hE P "__doc__" 252 .none] 2})::
 (nat_lit 61,IT "NoCell" 24 61 60 52 239 247)::
 (nat_lit 64,hT #[.ref 24])::
 (nat_lit 71,hT #[])::
 (nat_lit 72,{cls:= .type "dict",data:=X5 #[hE P "__module__" 262 GU,hE P "__firstlineno__" 266 (.int 10 265),hE P "__static_attributes__" 267 (.ref 71),hE P "__doc__" 268 .none] 2})::
 (nat_lit 73,IT "NoLetter" 24 73 72 64 255 263)::
 (nat_lit 76,hT #[.ref 24])::
 (nat_lit 83,hT #[])::
 (nat_lit 84,{cls:= .type "dict",data:=X5 #[hE P "__module__" 278 GU,hE P "__firstlineno__" 282 (.int 12 281),hE P "__static_attributes__" 283 (.ref 83),hE P "__doc__" 284 .none] 2})::
 (nat_lit 85,IT "NoNumber" 24 85 84 76 271 279)::
 (nat_lit 88,hT #[.ref 24])::
 (nat_lit 95,hT #[])::
 (nat_lit 96,{cls:= .type "dict",data:=X5 #[hE P "__module__" 294 GU,hE P "__firstlineno__" 298 (.int 14 297),hE P "__static_attributes__" 299 (.ref 95),hE P "__doc__" 300 .none] 2})::
 (nat_lit 97,IT "NoFit" 24 97 96 88 287 295)::
 (nat_lit 100,hT #[.ref 24])::
 (nat_lit 107,hT #[])::
 (nat_lit 108,{cls:= .type "dict",data:=X5 #[hE P "__module__" 310 GU,hE P "__firstlineno__" 314 (.int 16 313),hE P "__static_attributes__" 315 (.ref 107),hE P "__doc__" 316 .none] 2})::
 (nat_lit 109,IT "Nothing" 24 109 108 100 303 311)::
 (nat_lit 112,hT #[.ref 24])::
 (nat_lit 119,hT #[])::
 (nat_lit 120,{cls:= .type "dict",data:=X5 #[hE P "__module__" 326 GU,hE P "__firstlineno__" 330 (.int 18 329),hE P "__static_attributes__" 331 (.ref 119),hE P "__doc__" 332 .none] 2})::
 (nat_lit 121,IT "NoText" 24 121 120 112 319 327)::
 (nat_lit 124,hT #[])::
 (nat_lit 126,hT #[hS "thing" 346])::
 (nat_lit 127,hT #[])::
 (nat_lit 129,j1 "is_whole" 343 344 345 24 1 3 124 181 125 (.ref 126) (.ref 127) 128 347 348)::
 (nat_lit 130,hF "is_whole" (top 14) CI 129)::
 (nat_lit 131,hT #[])::
 (nat_lit 133,hT #[hS "thing" 353])::
 (nat_lit 134,hT #[])::
 (nat_lit 136,j1 "is_letter" 350 351 352 26 1 3 131 181 132 (.ref 133) (.ref 134) 135 354 355)::
 (nat_lit 137,hF "is_letter" (top 15) CI 136)::
 (nat_lit 138,hT #[])::
 (nat_lit 141,j1 "is_row" 357 358 359 28 1 3 138 181 139 .none .none 140 360 361)::
 (nat_lit 142,hF "is_row" (top 16) CI 141)::
 (nat_lit 143,hT #[])::
 (nat_lit 146,j1 "is_board" 363 364 365 32 1 3 143 181 144 .none .none 145 366 367)::
 (nat_lit 147,hF "is_board" (top 17) CI 146)::
 (nat_lit 148,hT #[])::
 (nat_lit 150,hT #[hS "thing" 372])::
 (nat_lit 151,hT #[])::
 (nat_lit 153,j1 "need_board" 369 370 371 38 1 3 148 181 149 (.ref 150) (.ref 151) 152 373 374)::
 (nat_lit 154,hF "need_board" (top 18) CI 153)::
 (nat_lit 155,hT #[])::
 (nat_lit 157,hT #[hS "thing" 379])::
 (nat_lit 158,hT #[])::
 (nat_lit 160,j1 "need_ways" 376 377 378 41 1 3 155 181 156 (.ref 157) (.ref 158) 159 380 381)::
 (nat_lit 161,hF "need_ways" (top 19) CI 160)::
 (nat_lit 162,hT #[])::
 (nat_lit 165,j1 "cells_of_row" 383 384 385 44 2 3 162 181 163 .none .none 164 386 387)::
 (nat_lit 166,hF "cells_of_row" (top 20) CI 165)::
 (nat_lit 167,hT #[])::
 (nat_lit 169,hT #[hS "board" 392,hS "found" 393,hS "row" 394])::
 (nat_lit 170,hT #[])::
 (nat_lit 172,j1 "all_cells" 389 390 391 46 1 3 167 181 168 (.ref 169) (.ref 170) 171 395 396)::
 (nat_lit 173,hF "all_cells" (top 21) CI 172)::
 (nat_lit 174,hT #[])::
 (nat_lit 176,hT #[hS "board" 401,hS "cell" 402])::
 (nat_lit 177,hT #[])::
 (nat_lit 179,j1 "letter_of" 398 399 400 51 2 3 174 181 175 (.ref 176) (.ref 177) 178 403 404)::
 (nat_lit 180,hF "letter_of" (top 22) CI 179)::
 (nat_lit 181,hT #[])::
 (nat_lit 183,hT #[hS "one" 409,hS "other" 410,hS "ways" 411,hS "down" 412,hS "along" 413])::
 (nat_lit 184,hT #[])::
 (nat_lit 186,j1 "are_next" 406 407 408 53 3 3 181 181 182 (.ref 183) (.ref 184) 185 414 415)::
 (nat_lit 187,hF "are_next" (top 23) CI 186)::
 (nat_lit 188,hT #[])::
 (nat_lit 190,hT #[hS "board" 420,hS "cell" 421,hS "ways" 422,hS "found" 423,hS "row" 424,hS "column" 425])::
 (nat_lit 191,hT #[])::
 (nat_lit 193,j1 "next_cells" 417 418 419 59 3 3 188 181 189 (.ref 190) (.ref 191) 192 426 427)::
 (nat_lit 194,hF "next_cells" (top 24) CI 193)::
 (nat_lit 195,hT #[])::
 (nat_lit 197,hT #[hS "things" 432,hS "found" 433,hS "thing" 434])::
 (nat_lit 198,hT #[])::
 (nat_lit 200,j1 "keyed" 429 430 431 66 1 3 195 181 196 (.ref 197) (.ref 198) 199 435 436)::
 (nat_lit 201,hF "keyed" (top 25) CI 200)::
 (nat_lit 202,hT #[])::
 (nat_lit 205,j1 "like_cells" 440 441 442 72 3 3 202 181 203 .none .none 204 443 444)::
 (nat_lit 206,hF "like_cells" (top 27) My 205)::
 (nat_lit 207,hT #[])::
 (nat_lit 209,hT #[hS "board" 449,hS "start" 450,hS "ways" 451,hS "back" 452,hS "ring" 453,hS "further" 454,hS "cell" 455,hS "near" 456])::
 (nat_lit 210,hT #[])::
 (nat_lit 212,j1 "steps_back" 446 447 448 75 3 3 207 181 208 (.ref 209) (.ref 210) 211 457 458)::
 (nat_lit 213,hF "steps_back" (top 28) My 212)::
 (nat_lit 214,hT #[])::
 (nat_lit 216,hT #[hS "board" 463,hS "ways" 464,hS "found" 465,hS "seen" 466,hS "cell" 467,hS "patch" 468])::
 (nat_lit 217,hT #[])::
 (nat_lit 219,j1 "all_patches" 460 461 462 87 2 3 214 181 215 (.ref 216) (.ref 217) 218 469 470)::
 (nat_lit 220,hF "all_patches" (top 29) My 219)::
 (nat_lit 221,hT #[])::
 (nat_lit 223,hT #[hS "found" 475,hS "numbers" 476,hS "number" 477,hS "patch" 478,hS "cell" 479])::
 (nat_lit 224,hT #[])::
 (nat_lit 226,j1 "numbers_of" 472 473 474 96 1 3 221 181 222 (.ref 223) (.ref 224) 225 480 481)::
 (nat_lit 227,hF "numbers_of" (top 30) My 226)::
 (nat_lit 228,hT #[])::
 (nat_lit 231,j1 "numbered" 483 484 485 102 2 3 228 181 229 .none .none 230 486 487)::
 (nat_lit 232,hF "numbered" (top 31) My 231)::
 (nat_lit 233,hT #[])::
 (nat_lit 236,j1 "as_lines" 491 492 493 111 1 3 233 181 234 .none .none 235 494 495)::
 (nat_lit 237,hF "as_lines" (top 33) Mz 236)::
 (nat_lit 238,hT #[])::
 (nat_lit 240,hT #[hS "number" 500])::
 (nat_lit 241,hT #[])::
 (nat_lit 243,j1 "two_figures" 497 498 499 113 1 3 238 181 239 (.ref 240) (.ref 241) 242 501 502)::
 (nat_lit 244,hF "two_figures" (top 34) Mz 243)::
 (nat_lit 245,hT #[])::
 (nat_lit 247,hT #[hS "board" 507])::
 (nat_lit 248,hT #[])::
 (nat_lit 250,j1 "board_text" 504 505 506 115 1 3 245 181 246 (.ref 247) (.ref 248) 249 508 509)::
 (nat_lit 251,hF "board_text" (top 35) Mz 250)::
 (nat_lit 252,hT #[])::
 (nat_lit 255,j1 "numbers_text" 511 512 513 118 2 3 252 181 253 .none .none 254 514 515)::
 (nat_lit 256,hF "numbers_text" (top 36) Mz 255)::
 (nat_lit 257,hT #[])::
 (nat_lit 259,hT #[hS "text" 520,hS "board" 521])::
 (nat_lit 260,hT #[])::
 (nat_lit 262,j1 "read_board" 517 518 519 123 1 3 257 181 258 (.ref 259) (.ref 260) 261 522 523)::
 (nat_lit 263,hF "read_board" (top 37) Mz 262)::
 (nat_lit 264,hT #[])::
 (nat_lit 266,hT #[hS "_law_script" 530,hS "_law_k" 531])::
 (nat_lit 267,hT #[])::
 (nat_lit 269,j1 "_law_cell" 527 528 529 131 2 3 264 181 265 (.ref 266) (.ref 267) 268 532 533)::
 (nat_lit 270,hF "_law_cell" (top 39) Gh 269)::
 (nat_lit 271,hT #[])::
 (nat_lit 273,hT #[hS "_law_script" 538,hS "_law_k" 539,hS "_law_many" 540,hS "_law_cell_here" 541])::
 (nat_lit 274,hT #[])::
 (nat_lit 276,j1 "_law_drawn" 535 536 537 135 3 3 271 181 272 (.ref 273) (.ref 274) 275 542 543)::
 (nat_lit 277,hF "_law_drawn" (top 40) Gh 276)::
 (nat_lit 278,hT #[])::
 (nat_lit 281,j1 "_law_board" 545 546 547 139 3 3 278 181 279 .none .none 280 548 549)::
 (nat_lit 282,hF "_law_board" (top 41) Gh 281)::
 (nat_lit 283,hT #[])::
 (nat_lit 286,j1 "_law_cells" 551 552 553 148 1 3 283 181 284 .none .none 285 554 555)::
 (nat_lit 287,hF "_law_cells" (top 42) Gh 286)::
 (nat_lit 288,hT #[])::
 (nat_lit 290,hT #[hS "_law_board_here" 560,hS "_law_cell_here" 561,hS "_law_ways" 562,hS "_law_found" 563,hS "_law_down" 564,hS "_law_right" 565,hS "_law_row" 566,hS "_law_column" 567,hS "_law_inside" 568])::
 (nat_lit 291,hT #[])::
 (nat_lit 293,j1 "_law_beside" 557 558 559 153 3 3 288 181 289 (.ref 290) (.ref 291) 292 569 570)::
 (nat_lit 294,hF "_law_beside" (top 43) Gh 293)::
 (nat_lit 295,hT #[])::
 (nat_lit 298,j1 "_law_labels" 572 573 574 163 2 3 295 181 296 .none .none 297 575 576)::
 (nat_lit 299,hF "_law_labels" (top 44) Gh 298)::
 (nat_lit 305,hT #[])::
 (nat_lit 307,hT #[hS "_law_e" 587,hS "_law_flags" 588])::
 (nat_lit 308,hT #[])::
 (nat_lit 310,j1 "_law_refused" 584 585 586 187 1 3 305 181 306 (.ref 307) (.ref 308) 309 589 590)::
 (nat_lit 311,hF "_law_refused" (top 46) Gh 310)::
 (nat_lit 312,hT #[])::
 (nat_lit 314,hT #[hS "_law_which" 595,hS "_law_board_here" 596,hS "_law_ways" 597,hS "_law_e" 598])::
 (nat_lit 315,hT #[])::
 (nat_lit 317,j1 "_law_told" 592 593 594 194 3 3 312 181 313 (.ref 314) (.ref 315) 316 599 600)::
 (nat_lit 318,hF "_law_told" (top 47) Gh 317)::
 (nat_lit 319,hT #[])::
 (nat_lit 322,j1 "law" 602 603 604 199 1 3 319 181 320 .none .none 321 605 606)::
 (nat_lit 323,hF "law" (top 48) Gh 322)::[]
def oM:List Nat:=[2,3,15,22,23,24,25,28,35,36,37,40,47,48,49,52,59,60,61,64,71,72,73,76,83,84,85,88,95,96,97,100,107,108,109,112,119,120,121,124,126,127,129,130,131,133,134,136,137,138,141,142,143,146,147,148,150,151,153,154,155,157,158,160,161,162,165,166,167,169,170,172,173,174,176,177,179,180,181,183,184,186,187,188,190,191,193,194,195,197,198,200,201,202,205,206,207,209,210,212,213,214,216,217,219,220,221,223,224,226,227,228,231,232,233,236,237,238,240,241,243,244,245,247,248,250,251,252,255,256,257,259,260,262,263,264,266,267,269,270,271,273,274,276,277,278,281,282,283,286,287,288,290,291,293,294,295,298,299,305,307,308,310,311,312,314,315,317,318,319,322,323]
def yf:VG:={PySem.Challenge.pw_cellpatches_k80_texts with main:={PySem.Challenge.pw_cellpatches_k80_texts.main with body:=[top 1,top 2,top 3,top 4,top 5,top 6,top 7,top 8,top 9,top 11,top 12,top 13,top 14,top 15,top 16,top 17,top 18,top 19,top 20,top 21,top 22,top 23,top 24,top 25,top 27,top 28,top 29,top 30,top 31,top 33,top 34,top 35,top 36,top 37,top 39,top 40,top 41,top 42,top 43,top 44,top 45,top 46,top 47,top 48]} }
open PySem.W PyProof.Rows in
def MS:LeftO PySem.Challenge.rw_cellpatches_k80_texts.row.prog yf [] (λs=>xlAt yf [] s&&recOk PySem.Challenge.rw_cellpatches_k80_texts.row.records s) (kHook oO oM (λ_=>by kernel_rfl)).obs (kHook oO oM (λ_=>by kernel_rfl)).val 5928:=λw=>by kernel_rfl
end K1
namespace L2
open PySem PySem.Spec PyProof.Rows
abbrev Key:=Sum Int Str
def o8:Key->Value->Bool
 | .inl k,v=>aaB k v
 | .inr x,v=>Value.isStrOf x v
def Nm(w:World):Key->Int
 | .inl k=>hashInt k
 | .inr x=>hashStr w x
def bU:∀{k:Key}{v:Value},o8 k v=true->(∃i t,k=aaj i/\v=abx i t)\/(∃x t,k=aaU x/\v=abw x t)
 | .inl i,v,h=>by
   obtain⟨t,e⟩:=Value.isInt_shape (k:=i) (v:=v) h;exact .inl ⟨i,t,rfl,e⟩
 | .inr x,v,h=>by
   obtain⟨t,e⟩:=Value.isStrOf_shape (x:=x) (v:=v) h;exact .inr ⟨x,t,rfl,e⟩
def BM(i:Int)(t:Tok):o8 (.inl i) (.int i t)=true:=by simp[o8,aaB]
def BN(x:Str)(t:Tok):o8 (.inr x) (.str x t)=true:=by simp[o8,Value.isStrOf]
def Kt(a b:Int):decide ((aaj a:Key)=aaj b)=(a==b):=by
 by_cases e:a=b
 ·subst e;simp
 ·have h:¬(aaj a:Key)=aaj b:=λq=>e (Sum.inl.inj q);rw[acN h];exact(acQ.mpr e).symm
def Kw(a b:Str):decide ((aaU a:Key)=aaU b)=decide (a=b):=by
 by_cases e:a=b
 ·subst e;simp
 ·have h:¬(aaU a:Key)=aaU b:=λq=>e (Sum.inr.inj q);rw[acN h,acN e]
def Ku(a:Int)(b:Str):decide ((aaj a:Key)=aaU b)=false:=acN (λq=>nomatch q)
def Kv(a:Str)(b:Int):decide ((aaU a:Key)=aaj b)=false:=acN (λq=>nomatch q)
def a6(prog:VG)(w:World):PySem.KeyKind prog w Key where
 is:=o8
 hash:=Nm w
 inj:=λv a b ha hb=>by
  rcases bU ha with⟨i,t,rfl,rfl⟩ | ⟨x,t,rfl,rfl⟩
  ·rcases bU hb with⟨j,u,rfl,e⟩ | ⟨y,u,rfl,e⟩
   ·injection e with e1 _;rw[e1]
   ·exact nomatch e
  ·rcases bU hb with⟨j,u,rfl,e⟩ | ⟨y,u,rfl,e⟩
   ·exact nomatch e
   ·injection e with e1 _;rw[e1]
 byValue:=λk v h=>by
  rcases bU h with⟨i,t,rfl,rfl⟩ | ⟨x,t,rfl,rfl⟩<;>rfl
 pyHash:=λhv h=>by
  rcases bU hv with⟨i,t,rfl,rfl⟩ | ⟨x,t,rfl,rfl⟩
  ·exact wpAny_pyHash_int h
  ·exact wpAny_pyHash_str h
 eqBool:=λhu hv h=>by
  rcases bU hu with⟨i,t,rfl,rfl⟩ | ⟨x,t,rfl,rfl⟩
  ·rcases bU hv with⟨j,u,rfl,rfl⟩ | ⟨y,u,rfl,rfl⟩
   ·rw[Kt] at h;exact wpAny_eqBool_int h
   ·rw[Ku] at h;exact abb i t y u _ _ _ _ h
  ·rcases bU hv with⟨j,u,rfl,rfl⟩ | ⟨y,u,rfl,rfl⟩
   ·rw[Kv] at h;exact aba x t j u _ _ _ _ h
   ·rw[Kw] at h;exact wpAny_eqBool_str h
 «strs» :=λk x t v h=>by
  rcases bU h with⟨i,u,rfl,e⟩ | ⟨y,u,rfl,e⟩
  ·exact nomatch e
  ·injection e with e1 _
   subst e1;cases v<;>rfl
def wZ(prog:VG)(w:World)(i:Int)(t:Tok):(a6 prog w).is (.inl i) (.int i t)=true:=BM i t
def w4(prog:VG)(w:World)(x:Str)(t:Tok):(a6 prog w).is (.inr x) (.str x t)=true:=BN x t
inductive V where
 |non | bl (b:Bool) | int (i:Int) | str (x:Str) | byt (b:Array UInt8) | flt (b:UInt64) | ref (a:Addr) | ty (n:String)
 deriving DecidableEq
def RelV:V->Value->Prop
 | .non,u=>u=Wi
 | .bl b,u=>u=XB b
 | .int i,u=>∃t,u=abx i t
 | .str x,u=>∃t,u=abw x t
 | .byt b,u=>∃t,u=Value.bytes b t
 | .flt b,u=>∃t,u=Value.float b t
 | .ref a,u=>u=VQ a
 | .ty n,u=>u=Y2 n
abbrev Vals:List V->List Value->Prop:=aag RelV
def Vals.length{xs:List V}{us:List Value}(r:Vals xs us):xs.length=us.length:=Xs r
def Vals.get:∀{xs:List V}{us:List Value}{i:Nat}{x:V},Vals xs us->xs[i]? =some x->∃u,us[i]? =some u/\RelV x u
 |_,_,_,_, .nil,e=>by simp at e
 |_,_,0,_, .cons r _,e=>by simp at e;subst e;exact⟨_,rfl,r⟩
 |_,_,i+1,x, .cons _ t,e=>by
  obtain⟨u,h1,h2⟩:=Vals.get (i:=i) (x:=x) t (by simpa using e);exact⟨u,by simpa using h1,h2⟩
def Vals.append:∀{xs ys:List V}{us ws:List Value},Vals xs us->Vals ys ws->Vals (xs++ys) (us++ws)
 |_,_,_,_, .nil,s=>s
 |_,_,_,_, .cons r t,s=> .cons r (Vals.append t s)
def Vals.take:∀{xs:List V}{us:List Value}(n:Nat),Vals xs us->Vals (xs.take n) (us.take n)
 |_,_,0,_=> .nil
 |_,_,_+1, .nil=> .nil
 |_,_,n+1, .cons r t=> .cons r (Vals.take n t)
def Vals.drop:∀{xs:List V}{us:List Value}(n:Nat),Vals xs us->Vals (xs.drop n) (us.drop n)
 |_,_,0,r=>r
 |_,_,_+1, .nil=> .nil
 |_,_,n+1, .cons _ t=>Vals.drop n t
def RelO:Option V->Option Value->Prop
 |some v,some u=>RelV v u
 |none,none=>True
 |_,_=>False
def KV{κ:Type}:List (κ×V)->List (κ×Value)->Prop:=aag λ(p:κ×V) (q:κ×Value)=>p.1=q.1/\RelV p.2 q.2
def kV:Key->V
 | .inl i=> .int i
 | .inr x=> .str x
inductive HO where
 |lst (xs:List V)
 |tup (xs:List V)
 |dK (aA:List (Key×V)) | dT (aA:List (List Key×V))
 |set (S:Int->Bool) (n:Nat)
 |ins (C dx:Addr) (fs:List (Str×V))
 |own (x:Addr)
 |xd (fs:List (Str×V))
 |met (f x:Addr)
 |rng (lo hi:Int)
 |frz (o:Obj) (u:HO)
 |tbl (ps:Array Value)
 |ext (φ:Heap->Prop)
abbrev Hp:=Addr->Option HO
def upd(H:Hp)(a:Addr)(o:HO):Hp:=λb=>if b=a then some o else H b
def aD{H:Hp}{a:Addr}{o:HO}:upd H a o a=some o:=by unfold upd;rw[acI rfl]
def av{H:Hp}{a b:Addr}{o:HO}(h:b≠a):upd H a o b=H b:=by unfold upd;rw[acJ h]
def Er{H:Hp}{a b:Addr}{o u:HO}(h:H a=some o)(h':H b=some u)(d:o≠u):a≠b:=by
 intro e;subst e;rw[h] at h';exact d (VO h')
def a_{H:Hp}{a b:Addr}{o:HO}(h:H a=some o)(h':H b=none):a≠b:=by
 intro e;subst e;rw[h] at h';cases h'
section
variable(P:VG)(w:World)
def ObjOk(H:Hp)(h:Heap)(a:Addr):HO->Prop
 | .lst xs=>xs.length<=VB/\∃(aB:List Value) (n:Nat),Vals xs aB/\h.get? a=some {cls:= .type "list",data:= .seq aB.toArray n}
 | .tup xs=>xs.length<=VB/\∃aB:List Value,Vals xs aB/\IsTup h a aB.toArray
 | .dK aA=>aA.length<=VB/\(a==W0)=false/\∃vs,KV aA vs/\h.DictOf (a6 P w) a vs
 | .dT aA=>aA.length<=VB/\(a==W0)=false/\∃xs:List (List Key×Addr×Value),
    aag (λ(p:List Key×V) (q:List Key×Addr×Value)=>p.1=q.1/\H q.2.1=some (.tup (p.1.map kV))/\RelV p.2 q.2.2) aA xs/\
    ∃o es ep,h.get? a=some o/\o.ExactDict/\o.data= .dict es ep/\es.toList=xs.map (ab2 (XM (a6 P w)))/\(xs.map (·.1)).Nodup
 | .set S n=>h.SetOf (Xg P w) a S n
 | .ins C dx fs=>H dx=some (.own a)/\fs.length<=1000/\dx≠a/\h.get? a=some (aak C dx)/\
    ∃mA,h.Ns1 dx mA/\(∀f,RelO (fs.lookup f) (mA f))/\PySem.Within mA (fs.map (·.1))
 | .own _=>∃o,h.get? a=some o
 | .xd fs=>∃mA,h.Ns1 a mA/\∀f,RelO (fs.lookup f) (mA f)
 | .rng lo hi=>∃t u v,h.get? a=some {cls:= .type "range",data:= .fields #[.int lo t, .int hi u, .int 1 v]}
 | .frz o u=>h.get? a=some o/\ObjOk H h a u
 | .tbl ps=>h.get? a=some {cls:= .none,data:= .fields ps}
 | .met f x=>h.get? a=some (ZV (.ref f) (.ref x))
 | .ext φ=>φ h/\(∃o,h.get? a=some o)/\∀h1 h2:Heap,φ h1->(∀o,h1.get? a=some o->h2.get? a=some o)->φ h2
def HOk(H:Hp)(h:Heap):Prop:=∀a o,H a=some o->ObjOk P w H h a o
end
section
variable{P:VG}{w:World}{H H':Hp}{h h':Heap}{a:Addr}{o:HO}
def ObjOk.lt(x:ObjOk P w H h a o):a<h.objs.size:=by
 cases o with
 |lst xs=>obtain⟨_,_,_,_,e⟩:=x;exact Vr e
 |tup xs=>obtain⟨_,_,_,p⟩:=x;exact p.lt
 |dK aA=>obtain⟨_,_,_,_,o,_,_,e,_⟩:=x;exact Vr e
 |dT aA=>obtain⟨_,_,_,_,o,_,_,e,_⟩:=x;exact Vr e
 |set S n=>obtain⟨o,_,_,_,e,_⟩:=x;exact Vr e
 |ins C dx fs=>obtain⟨_,_,_,e,_⟩:=x;exact Vr e
 |own y=>obtain⟨_,e⟩:=x;exact Vr e
 |xd fs=>obtain⟨_,⟨_,_,_,e,_⟩,_⟩:=x;exact Vr e
 |rng lo hi=>obtain⟨_,_,_,e⟩:=x;exact Vr e
 |frz ob u=>obtain⟨e,_⟩:=x;exact Vr e
 |tbl ps=>exact Vr (show h.get? a=some _ from x)
 |met f y=>exact Vr (show h.get? a=some _ from x)
 |ext φ=>obtain⟨_,⟨_,e⟩,_⟩:=x;exact Vr e
def Paired.mapP{α β:Type}{F G:α->β->Prop}:∀{l₁:List α}{l₂:List β},aag F l₁ l₂->(∀a b,F a b->G a b)->aag G l₁ l₂
 |_,_, .nil,_=> .nil
 |_,_, .cons r t,f=> .cons (f _ _ r) (Paired.mapP t f)
def ObjOk.stay(x:ObjOk P w H h a o)(k:∀b u,(b=a\/H b=some (.own a))->h.get? b=some u->h'.get? b=some u)
 (ho:∀b,H b=some (.own a)->H' b=some (.own a))(ht:∀b xs,H b=some (.tup xs)->H' b=some (.tup xs)):ObjOk P w H' h' a o:=by
 induction o with
 |lst xs=>obtain⟨z,aB,n,r,e⟩:=x;exact⟨z,aB,n,r,k _ _ (.inl rfl) e⟩
 |tup xs=>obtain⟨z,aB,r,ob,e,c⟩:=x;exact⟨z,aB,r,ob,k _ _ (.inl rfl) e,c⟩
 |dK aA=>obtain⟨z,y,vs,r,ob,es,ep,e,c⟩:=x;exact⟨z,y,vs,r,ob,es,ep,k _ _ (.inl rfl) e,c⟩
 |dT aA=>
  obtain⟨z,y,xs,r,ob,es,ep,e,c⟩:=x;exact⟨z,y,xs,Paired.mapP r λp q z=>⟨z.1,ht _ _ z.2.1,z.2.2⟩,ob,es,ep,k _ _ (.inl rfl) e,c⟩
 |set S n=>obtain⟨ob,es,ep,t,e,c⟩:=x;exact⟨ob,es,ep,t,k _ _ (.inl rfl) e,c⟩
 |ins C dx fs=>
  obtain⟨d,z,ne,e,mA,⟨od,es,ep,e2,c⟩,r⟩:=x;exact⟨ho _ d,z,ne,k _ _ (.inl rfl) e,mA,⟨od,es,ep,k _ _ (.inr d) e2,c⟩,r⟩
 |own y=>obtain⟨ob,e⟩:=x;exact⟨ob,k _ _ (.inl rfl) e⟩
 |xd fs=>obtain⟨mA,⟨od,es,ep,e,c⟩,r⟩:=x;exact⟨mA,⟨od,es,ep,k _ _ (.inl rfl) e,c⟩,r⟩
 |rng lo hi=>obtain⟨t,u,v,e⟩:=x;exact⟨t,u,v,k _ _ (.inl rfl) e⟩
 |frz ob u ih=>obtain⟨e,q⟩:=x;exact⟨k _ _ (.inl rfl) e,ih q⟩
 |tbl ps=>
  have e:h.get? a=some {cls:= .none,data:= .fields ps}:=x;show h'.get? a=some {cls:= .none,data:= .fields ps};exact k a _ (.inl rfl) e
 |met f y=>
  have e:h.get? a=some (ZV (.ref f) (.ref y)):=x;show h'.get? a=some (ZV (.ref f) (.ref y));exact k a _ (.inl rfl) e
 |ext φ=>obtain⟨p,⟨o,e⟩,st⟩:=x;exact⟨st _ _ p λo q=>k _ _ (.inl rfl) q,⟨o,k _ _ (.inl rfl) e⟩,st⟩
def HOk.lt(x:HOk P w H h)(e:H a=some o):a<h.objs.size:=(x a o e).lt
def HOk.fresh(x:HOk P w H h)(e:h.objs.size<=a):H a=none:=by
 cases q:H a with
 |none=>rfl
 |some u=>exact acK (VW (x.lt q) e) (Wc _)
def HOk.kept(x:HOk P w H h)(k:∀b u,h.get? b=some u->h'.get? b=some u):HOk P w H h':=λa o e=>
 (x a o e).stay (λb u _ q=>k b u q) (λ_ q=>q) λ_ _ q=>q
def HOk.laid(x:HOk P w H h)(k:∀b u,h.get? b=some u->h'.get? b=some u)(hp:h.objs.size<=a)(new:ObjOk P w (upd H a o) h' a o):HOk P w (upd H a o) h':=λb u e=>by
 have hn:=x.fresh hp;by_cases hb:b=a
 ·subst hb;rw[aD] at e;cases e;exact new
 ·rw[av hb] at e;exact(x b u e).stay (λc v _ q=>k c v q) (λc q=>by rw[av (a_ q hn)];exact q) λc xs q=>by rw[av (a_ q hn)];exact q
end
def Rd(H:Hp)(a:Addr)(u:HO):Prop:=H a=some u\/∃o,H a=some (.frz o u)
def Rd.ok{P:VG}{w:World}{H:Hp}{h:Heap}{a:Addr}{u:HO}(r:Rd H a u)(x:HOk P w H h):ObjOk P w H h a u:=by
 rcases r with r | ⟨o,r⟩
 ·exact x a u r
 ·obtain⟨_,q⟩:=x a _ r;exact q
def Md:Option HO->Prop
 |some (.lst _)=>True
 |some (.dK _)=>True
 |some (.dT _)=>True
 |some (.set _ _)=>True
 |some (.ins _ _ _)=>True
 |some (.ext _)=>True
 |_=>False
section
variable{P:VG}{w:World}{H:Hp}{h h':Heap}{x e:Addr}{o':HO}
def HOk.write(ok:HOk P w H h)(mu:Md (H x))(he:e=x\/H e=some (.own x))(k:∀b u,b≠e->h.get? b=some u->h'.get? b=some u)(CJ:∃u,h'.get? e=some u)
 (new:ObjOk P w (upd H x o') h' x o'):HOk P w (upd H x o') h':=λb u q=>by
 have Nw:∀c y,H c=some (.own y)->c≠x:=λc y r z=>by subst z;rw[r] at mu;exact mu
 have Qu:∀c xs,H c=some (.tup xs)->c≠x:=λc xs r z=>by subst z;rw[r] at mu;exact mu
 by_cases hb:b=x
 ·subst hb;rw[aD] at q;cases q;exact new
 ·rw[av hb] at q;by_cases Gi:b=e
  ·have q':H b=some (.own x):=by
    rcases he with z | z
    ·exact acK (Gi.trans z) hb
    ·rw[Gi];exact z
   rw[q] at q';cases q';obtain⟨v,hv⟩:=CJ;exact⟨v,by rw[Gi];exact hv⟩
  ·refine(ok b u q).stay (λc v hc r=>k c v ?_ r) (λc r=>by rw[av (Nw c b r)];exact r) λc xs r=>by rw[av (Qu c xs r)];exact r
   rcases hc with rfl | hc
   ·exact Gi
   ·rintro rfl;rcases he with z | z
    ·exact Nw c b hc z
    ·rw[hc] at z;cases z;exact hb rfl
end
structure Un (fs ex:List Addr) (H H':Hp) (h h':Heap):Prop where
 keep:∀b o,h.get? b=some o->H b=none->b∉fs->b∉ex->h'.get? b=some o
 slot:∀b o,h.get? b=some o->H b=none->b∈fs->b∉ex->∃sl,h'.get? b=some {o with slots:=sl}
 free:∀b o,h.get? b=some o->H b=none->b∉ex->H' b=none
 there:∀b o,h.get? b=some o->b∉ex->∃o',h'.get? b=some o'
 tups:∀b xs,H b=some (.tup xs)->H' b=some (.tup xs)
 frzs:∀b o u,H b=some (.frz o u)->H' b=some (.frz o u)
 tbls:∀b ps,H b=some (.tbl ps)->∃more,H' b=some (.tbl (ps++more))
section
variable{fs Rf ex yR:List Addr}{H H1 H2:Hp}{h h1 h2 h':Heap}{a x e:Addr}{o:HO}
def Un.any(u:Un fs ex H H1 h h1){b:Addr}{ob:Obj}(q:h.get? b=some ob)(n:H b=none)(hx:b∉ex):∃sl,h1.get? b=some {ob with slots:=sl}:=by
 by_cases hb:b∈fs
 ·exact u.slot b ob q n hb hx
 ·exact⟨ob.slots,u.keep b ob q n hb hx⟩
def Un.trans(a:Un fs ex H H1 h h1)(b:Un fs ex H1 H2 h1 h2):Un fs ex H H2 h h2 where
 keep:=λc ob q n hc hx=>b.keep c ob (a.keep c ob q n hc hx) (a.free c ob q n hx) hc hx
 slot:=λc ob q n hc hx=>by
  obtain⟨sl,e1⟩:=a.slot c ob q n hc hx;obtain⟨Im,e2⟩:=b.slot c _ e1 (a.free c ob q n hx) hc hx;exact⟨Im,e2⟩
 free:=λc ob q n hx=>by
  obtain⟨o',e1⟩:=a.there c ob q hx;exact b.free c o' e1 (a.free c ob q n hx) hx
 there:=λc ob q hx=>by
  obtain⟨o',e1⟩:=a.there c ob q hx;exact b.there c o' e1 hx
 tups:=λc xs q=>b.tups c xs (a.tups c xs q)
 frzs:=λc ob xs q=>b.frzs c ob xs (a.frzs c ob xs q)
 tbls:=λc ps q=>by
  obtain⟨m1,e1⟩:=a.tbls c ps q;obtain⟨m2,e2⟩:=b.tbls c _ e1;exact⟨m1++m2,by rw[e2,Z0]⟩
def Un.kept(k:∀b u,h.get? b=some u->h'.get? b=some u):Un fs ex H H h h':=
 ⟨λb ob q _ _ _=>k b ob q,λb ob q _ _ _=>⟨ob.slots,k b ob q⟩,λ_ _ _ n _=>n,λb ob q _=>⟨ob,k b ob q⟩,λ_ _ q=>q,λ_ _ _ q=>q,λ_ ps q=>⟨#[],by rw[q];simp⟩⟩
def Un.refl:Un fs ex H H h h:=Un.kept λ_ _ q=>q
def Un.laid(k:∀b u,h.get? b=some u->h'.get? b=some u)(hp:h.objs.size<=a)(hn:H a=none):Un fs ex H (upd H a o) h h' where
 keep:=λb u q _ _ _=>k b u q
 slot:=λb u q _ _ _=>⟨u.slots,k b u q⟩
 free:=λb u q n _=>by rw[av (VH (VW (Vr q) hp))];exact n
 there:=λb u q _=>⟨u,k b u q⟩
 tups:=λb xs q=>by rw[av (a_ q hn)];exact q
 frzs:=λb u xs q=>by rw[av (a_ q hn)];exact q
 tbls:=λb ps q=>⟨#[],by rw[av (a_ q hn),q];simp⟩
def Un.write(mu:Md (H x))(he:e=x\/H e=some (.own x))(k:∀b u,b≠e->h.get? b=some u->h'.get? b=some u)(CJ:∃u,h'.get? e=some u):Un fs ex H (upd H x o) h h':=by
 have hx:∀b,H b=none->b≠x:=λb n z=>by subst z;rw[n] at mu;exact mu
 have hb:∀b,H b=none->b≠e:=λb n z=>by
  subst z;rcases he with r | r
  ·exact hx b n r
  ·rw[n] at r;cases r
 have hm:∀b u,H b=some u->¬Md (some u)->b≠x:=λb u q nm z=>by subst z;rw[q] at mu;exact nm mu
 refine⟨λb u q n _ _=>k b u (hb b n) q,λb u q n _ _=>⟨u.slots,k b u (hb b n) q⟩,λb u q n _=>by rw[av (hx b n)];exact n,λb u q _=>?_,
  λb xs q=>by rw[av (hm b _ q λz=>z)];exact q,λb u xs q=>by rw[av (hm b _ q λz=>z)];exact q,λb ps q=>⟨#[],by rw[av (hm b _ q λz=>z),q];simp⟩⟩
 by_cases Gi:b=e
 ·subst Gi;exact CJ
 ·exact⟨u,k b u Gi q⟩
def Un.mono(u:Un fs ex H H1 h h1)(hs:∀b∈fs,b∈Rf)(hx:∀b∈ex,b∈yR):Un Rf yR H H1 h h1:=
 ⟨λb ob q n hb he=>u.keep b ob q n (λz=>hb (hs b z)) λz=>he (hx b z),λ_ _ q n _ he=>u.any q n λz=>he (hx _ z),λb ob q n he=>u.free b ob q n λz=>he (hx b z),λb ob q he=>u.there b ob q λz=>he (hx b z),u.tups,u.frzs,u.tbls⟩
end
def OP(h:Heap)(H:Hp):List Addr:=(Vw h.objs.size).filter λa=>(H a).isSome
def uc(h:Heap)(H:Hp):Heap:=YG h (OP h H)
def By(h:Heap)(H:Hp):(uc h H).objs.size=h.objs.size:=PySem.W.hideAll_size _ _
def DN{h:Heap}{H:Hp}{b:Addr}{o:Obj}(e:h.get? b=some o)(n:H b=none):(uc h H).get? b=some o:=
 abA _ e λhm=>by
  have q:(H b).isSome=true:=(Ws.mp hm).2;rw[n] at q;simp at q
def Ho{h:Heap}{H:Hp}{b:Addr}{o:Obj}(e:(uc h H).get? b=some o):h.get? b=some o/\H b=none:=by
 have e':h.get? b=some o:=abI (OP h H) e;refine⟨e',?_⟩;cases q:H b with
 |none=>rfl
 |some x=>
  have hm:b∈OP h H:=Ws.mpr ⟨V5.mpr (Vr e'),by simp[q]⟩;have z:(uc h H).get? b=none:=PySem.W.hideAll_none (OP h H) hm;rw[z] at e;cases e
def Gs(g h:Heap)(L:Addr):List (Addr×Obj):=(Vw h.objs.size).filterMap λa=>if a=L\/(g.get? a).isSome=true then none else(h.get? a).map λo=>(a,o)
def P3(g h:Heap)(L d:Addr):List (Addr×Obj):=(Gs g h L).filter λp=>decide (p.1≠d)
structure Mod (K:Vn) (mg:Str->Option Value) (base:Heap):Prop where
 kin:K.In base
 glob:base.Ns VD mg
 blt:∃mb,base.Ns builtinsNs mb/\∀x:Str,x≠"__name__"->mb x=V4 x
 nolimit:base.NoLimit
structure Cx where
 prog:VG
 w:World
 K:Vn
 mg:Str->Option Value
 base:Heap
 A:V2
 N:List Str
 acT:Vf
 acS:Hp
 env:Env
 outer:List Env
 stack:List Env
 ex:List Addr
 fn:Str->Bool
 calm:Bool
 pn:List (Addr×Obj)
 xe:Value->Vf->Prop
def gf(l:List Env):List Addr:=l.filterMap (·.frame)
abbrev Cx.fs(X:Cx):List Addr:=gf X.outer
def OZ(sc:Scope)(x:Str):Prop:=sc.names.lookup x=some .local\/sc.names.lookup x=some .cell\/sc.names.lookup x=some .free
def Loc(sc:Scope)(x:Str):Prop:=sc.names.lookup x=some .local\/sc.names.lookup x=some .cell
def Look(env:Env)(h:Heap)(m:Str->Option Value)(x:Str)(u:Value):Prop:=
 (env.kindOf x=some .local/\m x=some u)\/((env.kindOf x=some .cell\/env.kindOf x=some .free)/\∃c,env.cells.lookup x=some c/\h.IsCell c (some u))
structure Cx.Ok (X:Cx):Prop where
 mod:Mod X.K X.mg X.base
 kind:X.env.scope.kind= .function
 glob:X.env.globals=VD
 blt:X.env.builtins=builtinsNs
 above:X.acT.heap.objs.size<=X.env.locals
 inj:∀x y c,X.env.cells.lookup x=some c->X.env.cells.lookup y=some c->x=y
 has:∀x,(X.env.kindOf x=some .cell\/X.env.kindOf x=some .free)->∃c,X.env.cells.lookup x=some c
 cab:∀x c,X.fn x=true->X.env.cells.lookup x=some c->X.acT.heap.objs.size<=c
 hd:X.calm=true->X.A.handled=none
 frames:X.A.frames=some X.stack
 stk:X.stack=X.outer\/(X.stack=X.env::X.outer/\X.env.frame=some X.env.locals)
 exf:∀b∈X.ex,b≠X.env.locals/\∀x c,X.env.cells.lookup x=some c->c≠b
 bs:∀b o,X.base.get? b=some o->X.acT.heap.get? b=some o/\X.acS b=none
 bsz:X.base.objs.size<=X.acT.heap.objs.size
 noex:∀b o,X.base.get? b=some o->b∉X.ex
 exfs:∀b∈X.ex,b∉X.fs
 funs:X.acT.heap.FunFrames X.base X.outer
 frf:∀b∈X.fs,X.acS b=none
structure Inv (X:Cx) (f8:List (Addr×Obj)) (σ:List (Option V)) (H:Hp) (s:Vf):Prop where
 ok:X.Ok
 os:s.os=X.acT.os
 bare:Z1 s.gens
 base:Un X.fs X.ex X.acS H X.acT.heap s.heap
 loc:∃m,s.heap.Ns X.env.locals m/\∀(i:Nat) (x:Str) (v:V),X.N[i]? =some x->σ[i]? =some (some v)->OZ X.env.scope x->∃u,RelV v u/\Look X.env s.heap m x u
 cell:∀x c,X.env.cells.lookup x=some c->∃v,s.heap.IsCell c v
 free:H X.env.locals=none
 freeC:∀x c,X.env.cells.lookup x=some c->H c=none
 pin:∀p∈X.pn++f8,s.heap.get? p.1=some p.2/\H p.1=none/\p.1≠X.env.locals/\p.1∉X.fs/\∀v,p.2.data≠ .cell v
 hok:HOk X.prog X.w H s.heap
 len:σ.length=X.N.length
section
variable{X:Cx}{f8:List (Addr×Obj)}{σ:List (Option V)}{H H':Hp}{s:Vf}{h':Heap}
def Cx.Ok.nofr(ok:X.Ok){b:Addr}{o:Obj}(e:X.base.get? b=some o):b∉X.fs:=λhb=>by
 have:=(ok.funs.mem hb).1;rw[e] at this;cases this
def Inv.bs(I:Inv X f8 σ H s):∀b o,X.base.get? b=some o->s.heap.get? b=some o/\H b=none:=λb o e=>
 ⟨I.base.keep b o (I.ok.bs b o e).1 (I.ok.bs b o e).2 (I.ok.nofr e) (I.ok.noex b o e),I.base.free b o (I.ok.bs b o e).1 (I.ok.bs b o e).2 (I.ok.noex b o e)⟩
def Inv.bk(I:Inv X f8 σ H s):∀b o,X.base.get? b=some o->s.heap.get? b=some o:=λb o e=>(I.bs b o e).1
def Inv.mod(I:Inv X f8 σ H s):Mod X.K X.mg X.base:=I.ok.mod
def Inv.kIn(I:Inv X f8 σ H s):X.K.In s.heap:=I.ok.mod.kin.keeps I.bk
def Inv.nolimit(I:Inv X f8 σ H s):s.heap.NoLimit:=I.ok.mod.nolimit.keeps I.bk
def Inv.lt(I:Inv X f8 σ H s):X.env.locals<s.heap.objs.size:=let ⟨_,hn,_⟩:=I.loc;hn.lt
def Inv.sz(I:Inv X f8 σ H s):X.acT.heap.objs.size<=s.heap.objs.size:=VI I.ok.above (W4 I.lt)
def Inv.nofs(I:Inv X f8 σ H s){a:Addr}(h:s.heap.objs.size<=a):a∉X.fs:=λhb=>by
 obtain⟨_,o,ho,_⟩:=I.ok.funs.mem hb;exact acK (VW (Vr ho) (VI I.sz h)) (Wc _)
def Inv.cne(I:Inv X f8 σ H s):∀x c,X.env.cells.lookup x=some c->c≠X.env.locals:=λx c e z=>by
 obtain⟨v,o,ho,hd⟩:=I.cell x c e;obtain⟨m,⟨o',es,ep,kF,nQ,_⟩,_⟩:=I.loc;rw[z,kF] at ho;cases ho;rw[nQ] at hd;cases hd
def Inv.funs(I:Inv X f8 σ H s):s.heap.FunFrames X.base X.outer:=by
 have all:∀(l:List Env),(∀b∈gf l,b∈X.fs)->X.acT.heap.FunFrames X.base l->s.heap.FunFrames X.base l:=by
  intro l;induction l with
  |nil=>intro _ _;trivial
  |cons env r ih=>
   intro hs hl;obtain⟨hk,⟨L,o,hf,hn,ho,hd⟩,hr⟩:=hl;have hL:L∈X.fs:=hs L (by unfold gf;rw[Yb,hf];exact Ve);obtain⟨sl,e⟩:=I.base.slot L o ho (I.ok.frf L hL) hL λz=>I.ok.exfs L z hL;exact⟨hk,⟨L,_,hf,hn,e,hd⟩,ih (λb hb=>hs b (by unfold gf;rw[Yb,hf];exact Vc _ hb)) hr⟩
 exact all X.outer (λ_ hb=>hb) I.ok.funs
def Inv.stack(I:Inv X f8 σ H s):s.heap.FunFrames X.base X.stack:=by
 rcases I.ok.stk with e | ⟨e,hf⟩
 ·rw[e];exact I.funs
 ·rw[e];obtain⟨m,hn,_⟩:=I.loc;refine .cons (by rw[I.ok.kind];decide) hf hn ?_ I.funs;exact abW (VI I.ok.bsz I.ok.above)
def Inv.stkSub(I:Inv X f8 σ H s):∀b∈gf X.stack,b∈X.env.locals::X.fs:=λb hb=>by
 rcases I.ok.stk with e | ⟨e,hf⟩
 ·rw[e] at hb;exact Vc _ hb
 ·rw[e] at hb;unfold gf at hb;rw[Yb,hf] at hb;exact hb
def Inv.stkFree(I:Inv X f8 σ H s):∀b∈gf X.stack,H b=none:=λb hb=>by
 rcases Vo.mp (I.stkSub b hb) with e | hb
 ·rw[e];exact I.free
 ·obtain⟨_,o,ho,_⟩:=I.ok.funs.mem hb;exact I.base.free b o ho (I.ok.frf b hb) λz=>I.ok.exfs b z hb
def Inv.step{g':Array acv}{t':Nat}{d':Drawn}{ch:List Addr}(I:Inv X f8 σ H s)
 (Gj:∀b∈ch,(b∈X.ex\/X.acT.heap.objs.size<=b)/\b≠X.env.locals/\(∀x c,X.env.cells.lookup x=some c->c≠b)/\∀p∈X.pn++f8,p.1≠b)
 (keep:∀b o,b≠X.env.locals->b∉X.fs->b∉ch->s.heap.get? b=some o->H b=none->h'.get? b=some o)
 (slot:∀b o,b≠X.env.locals->b∈X.fs->b∉ch->s.heap.get? b=some o->H b=none->∃sl,h'.get? b=some {o with slots:=sl})(free:∀b o,b∉ch->s.heap.get? b=some o->H b=none->H' b=none)
 (there:∀b o,b∉ch->s.heap.get? b=some o->∃o',h'.get? b=some o')
 (tups:∀b xs,H b=some (.tup xs)->H' b=some (.tup xs))(frzs:∀b o u,H b=some (.frz o u)->H' b=some (.frz o u))(tbls:∀b ps,H b=some (.tbl ps)->∃more,H' b=some (.tbl (ps++more)))
 (ns:∀m,s.heap.Ns X.env.locals m->h'.Ns X.env.locals m)(hok:HOk X.prog X.w H' h')(hg:Z1 g'):
 Inv X f8 σ H' {s with heap:=h',gens:=g',drawn:=d',toks:=t'}:=by
 have L5:∀b o,X.acT.heap.get? b=some o->b≠X.env.locals:=λb o e=>VH (VW (Vr e) I.ok.above);have OK:∀b o,X.acT.heap.get? b=some o->b∉X.ex->b∉ch:=λb o e hx hb=>by
  rcases(Gj b hb).1 with z | z
  ·exact hx z
  ·exact acK (VW (Vr e) z) (Wc _)
 have cellK:∀x c,X.env.cells.lookup x=some c->∀v,s.heap.IsCell c v->h'.IsCell c v:=λx c e v ⟨o,ho,hd⟩=>by
  have Nt:c∉ch:=λz=>(Gj c z).2.2.1 x c e rfl;by_cases hc:c∈X.fs
  ·obtain⟨sl,q⟩:=slot c o (I.cne x c e) hc Nt ho (I.freeC x c e);exact⟨_,q,hd⟩
  ·exact⟨o,keep c o (I.cne x c e) hc Nt ho (I.freeC x c e),hd⟩
 refine⟨I.ok,I.os,hg,⟨λb o e n hb hx=>?_,λb o e n hb hx=>?_,λb o e n hx=>?_,λb o e hx=>?_,λb xs e=>tups b xs (I.base.tups b xs e),λb o xs e=>frzs b o xs (I.base.frzs b o xs e),λb ps e=>?_⟩,?_,λx c e=>?_,?_,λx c e=>?_,λp hp=>?_,hok,I.len⟩
 ·exact keep b o (L5 b o e) hb (OK b o e hx) (I.base.keep b o e n hb hx) (I.base.free b o e n hx)
 ·obtain⟨sl,e1⟩:=I.base.slot b o e n hb hx;obtain⟨Im,e2⟩:=slot b _ (L5 b o e) hb (OK b o e hx) e1 (I.base.free b o e n hx);exact⟨Im,e2⟩
 ·obtain⟨o',e1⟩:=I.base.there b o e hx;exact free b o' (OK b o e hx) e1 (I.base.free b o e n hx)
 ·obtain⟨o',e1⟩:=I.base.there b o e hx;exact there b o' (OK b o e hx) e1
 ·obtain⟨m1,e1⟩:=I.base.tbls b ps e;obtain⟨m2,e2⟩:=tbls b _ e1;exact⟨m1++m2,by rw[e2,Z0]⟩
 ·obtain⟨m,hn,hl⟩:=I.loc;refine⟨m,ns m hn,λi x v e1 e2 e3=>?_⟩;obtain⟨u,r,l⟩:=hl i x v e1 e2 e3;refine⟨u,r,?_⟩;rcases l with l | ⟨k,c,e,z⟩
  ·exact .inl l
  ·exact .inr ⟨k,c,e,cellK x c e _ z⟩
 ·obtain⟨v,z⟩:=I.cell x c e;exact⟨v,cellK x c e v z⟩
 ·obtain⟨m,⟨o,_,_,ho,_⟩,_⟩:=I.loc;exact free _ o (λz=>(Gj _ z).2.1 rfl) ho I.free
 ·obtain⟨v,o,ho,hd⟩:=I.cell x c e;exact free c o (λz=>(Gj c z).2.2.1 x c e rfl) ho (I.freeC x c e)
 ·obtain⟨e,n,ne,nf,d⟩:=I.pin p hp;have Nt:p.1∉ch:=λz=>(Gj p.1 z).2.2.2 p hp rfl;exact⟨keep p.1 p.2 ne nf Nt e n,free p.1 p.2 Nt e n,ne,nf,d⟩
def Inv.un{t':Nat}(I:Inv X f8 σ H s)(u:Un X.fs [] H H' s.heap h')(hok:HOk X.prog X.w H' h'):Inv X f8 σ H' {s with heap:=h',toks:=t'}:=by
 obtain⟨m,⟨o,es,ep,ho,r⟩,_⟩:=id I.loc;obtain⟨sl,hL⟩:=u.any ho I.free (by simp);exact I.step (g':=s.gens) (d':=s.drawn) (ch:=[]) (λ_ z=>nomatch z) (λb o _ hb _ e n=>u.keep b o e n hb (by simp)) (λb o _ hb _ e n=>u.slot b o e n hb (by simp)) (λb o _ e n=>u.free b o e n (by simp)) (λb o _ e=>u.there b o e (by simp)) u.tups u.frzs u.tbls (λm' hm=>by
  obtain⟨o',LP,GJ,kF,r'⟩:=hm;rw[ho] at kF;cases kF;exact⟨_,LP,GJ,hL,r'⟩) hok I.bare
def Inv.call{g':Array acv}{t':Nat}{d':Drawn}{ch:List Addr}(I:Inv X f8 σ H s)(u:Un (gf X.stack) ch H H' s.heap h')(hok:HOk X.prog X.w H' h')(hg:Z1 g')
 (Gj:∀b∈ch,(b∈X.ex\/X.acT.heap.objs.size<=b)/\b≠X.env.locals/\(∀x c,X.env.cells.lookup x=some c->c≠b)/\∀p∈X.pn++f8,p.1≠b):
 Inv X f8 σ H' {s with heap:=h',gens:=g',drawn:=d',toks:=t'}:=by
 obtain⟨m,⟨o,es,ep,ho,r⟩,_⟩:=id I.loc;obtain⟨sl,hL⟩:=u.any ho I.free λz=>(Gj _ z).2.1 rfl;exact I.step (ch:=ch) Gj (λb o hL hb hc e n=>u.keep b o e n (λz=>(Vo.mp (I.stkSub b z)).elim hL hb) hc) (λb o _ _ hc e n=>u.any e n hc) (λb o hc e n=>u.free b o e n hc) (λb o hc e=>u.there b o e hc) u.tups u.frzs u.tbls (λm' hm=>by
  obtain⟨o',LP,GJ,kF,r'⟩:=hm;rw[ho] at kF;cases kF;exact⟨_,LP,GJ,hL,r'⟩) hok hg
def Inv.turned{t':Nat}{it:Addr}(I:Inv X f8 σ H s)(k:∀b o,b≠it->s.heap.get? b=some o->h'.get? b=some o)(hn:H it=none)(hL:it≠X.env.locals)
 (h1:it∈X.ex\/X.acT.heap.objs.size<=it)(h2:∀x c,X.env.cells.lookup x=some c->c≠it)(h3:∀p∈X.pn++f8,p.1≠it):Inv X f8 σ H {s with heap:=h',toks:=t'}:=by
 have Jn:∀b u,H b=some u->b≠it:=λb u e z=>by rw[z,hn] at e;cases e
 refine I.step (g':=s.gens) (d':=s.drawn) (ch:=[it]) (λb hb=>?_) (λb o _ _ hc e _=>k b o (λz=>hc (by simp[z])) e) (λb o _ _ hc e _=>⟨o.slots,k b o (λz=>hc (by simp[z])) e⟩) (λ_ _ _ _ n=>n)
  (λb o hc e=>⟨o,k b o (λz=>hc (by simp[z])) e⟩) (λ_ _ e=>e) (λ_ _ _ e=>e) (λb ps e=>⟨#[],by rw[e];simp⟩) (λm hm=>?_) (λb u e=>?_) I.bare
 ·have e:b=it:=by simpa using hb
  subst e;exact⟨h1,hL,h2,h3⟩
 ·obtain⟨o,es,ep,ho,r⟩:=hm;exact⟨o,es,ep,k _ o (Wv hL) ho,r⟩
 ·refine(I.hok b u e).stay (λc v hc q=>k c v ?_ q) (λ_ q=>q) λ_ _ q=>q;rcases hc with z | z
  ·rw[z];exact Jn b u e
  ·exact Jn c _ z
def Inv.tok(I:Inv X f8 σ H s)(t:Nat):Inv X f8 σ H {s with toks:=t}:=I.un (h':=s.heap) (t':=t) Un.refl I.hok
def Inv.kept{t':Nat}(I:Inv X f8 σ H s)(k:∀b u,s.heap.get? b=some u->h'.get? b=some u):Inv X f8 σ H {s with heap:=h',toks:=t'}:=I.un (Un.kept k) (I.hok.kept k)
def Inv.laid{a:Addr}{o:HO}{t':Nat}(I:Inv X f8 σ H s)(k:∀b u,s.heap.get? b=some u->h'.get? b=some u)(hp:s.heap.objs.size<=a)(new:ObjOk X.prog X.w (upd H a o) h' a o):
 Inv X f8 σ (upd H a o) {s with heap:=h',toks:=t'}:=I.un (Un.laid k hp (I.hok.fresh hp)) (I.hok.laid k hp new)
def Inv.write{x e:Addr}{o:HO}{t':Nat}(I:Inv X f8 σ H s)(mu:Md (H x))(he:e=x\/H e=some (.own x))(k:∀b u,b≠e->s.heap.get? b=some u->h'.get? b=some u)(CJ:∃u,h'.get? e=some u)
 (new:ObjOk X.prog X.w (upd H x o) h' x o):Inv X f8 σ (upd H x o) {s with heap:=h',toks:=t'}:=I.un (Un.write mu he k CJ) (I.hok.write mu he k CJ new)
def Inv.pins_of{xE:List (Addr×Obj)}(I:Inv X f8 σ H s)(h:∀p∈xE,s.heap.get? p.1=some p.2/\H p.1=none/\p.1≠X.env.locals/\p.1∉X.fs/\∀v,p.2.data≠ .cell v):Inv X xE σ H s:=
 ⟨I.ok,I.os,I.bare,I.base,I.loc,I.cell,I.free,I.freeC,λp hp=>(V3.mp hp).elim (λz=>I.pin p (WZ _ z)) (h p),I.hok,I.len⟩
def xa{N:List Str}(hN:N.Nodup){i j:Nat}{x:Str}(a:N[i]? =some x)(b:N[j]? =some x):i=j:=by
 obtain⟨h1,e1⟩:=Vt.mp a;obtain⟨h2,e2⟩:=Vt.mp b;exact(List.getElem_inj hN).mp (e1.trans e2.symm)
def mi{M:Model}{A:V2}{E:Value->Vf->Prop}{i:Nat}{x:Str}{v:V}{u:Value}{Q:Unit->Vf->Prop}(I:Inv X f8 σ H s)(hN:X.N.Nodup)(hi:X.N[i]? =some x)(hx:Loc X.env.scope x)(r:RelV v u)
 (h:∀s',Inv X f8 (σ.set i (some v)) H s'->(∃a,WQ a s.heap s'.heap/\(a=X.env.locals\/X.env.cells.lookup x=some a))->Q () s')(hf:X.fn x=true\/X.env.scope.names.lookup x=some .local:=by first | exact .inl rfl | exact .inr rfl | assumption):wpAny M A (storeName X.env x u) Q E s:=by
 obtain⟨m,hn,hl⟩:=id I.loc;have Ph:(X.env.scope.kind== .class||(X.env.scope.kind== .module&&X.env.locals !=X.env.globals))=false:=by rw[I.ok.kind];rfl
 have RA:i<σ.length:=by rw[I.len];exact(Vt.mp hi).1
 have cne:=I.cne;have tracked:∀{a:Addr}{h':Heap},(∃o,s.heap.get? a=some o/\H a=none)->WQ a s.heap h'->HOk X.prog X.w H h':=λ{a h'} ha hs b ob e=>by
  obtain⟨_,_,Ja⟩:=ha;refine(I.hok b ob e).stay (λc w' hc q=>(hs.2 c ?_).trans q) (λ_ q=>q) λ_ _ q=>q;rintro rfl;rcases hc with rfl | hc
  ·rw[Ja] at e;cases e
  ·rw[Ja] at hc;cases hc
 rcases hx with hk | hk
 ·refine wpAny_storeName_local hk hn (λh' G0 hs=>?_) Ph;obtain⟨oL,_,_,Ka,_⟩:=id hn;refine h _ ⟨I.ok,I.os,I.bare,⟨λb o e n hb hx=>?_,λb o e n hb hx=>?_,I.base.free,λb o e hx=>?_,I.base.tups,I.base.frzs,I.base.tbls⟩,⟨_,G0,λj y v' e1 e2 e3=>?_⟩,λy c e=>?_,I.free,I.freeC,λp hp=>?_,tracked ⟨oL,Ka,I.free⟩ hs,by simpa using I.len⟩ ⟨_,hs, .inl rfl⟩
  ·exact(hs.2 b (VH (VW (Vr e) I.ok.above))).trans (I.base.keep b o e n hb hx)
  ·obtain⟨sl,e1⟩:=I.base.slot b o e n hb hx;exact⟨sl,(hs.2 b (VH (VW (Vr e) I.ok.above))).trans e1⟩
  ·obtain⟨o',e1⟩:=I.base.there b o e hx;exact⟨o',(hs.2 b (VH (VW (Vr e) I.ok.above))).trans e1⟩
  ·by_cases hj:j=i
   ·subst hj;rw[hi] at e1;cases e1;rw[VF RA] at e2;cases e2;exact⟨u,r, .inl ⟨hk,by simp⟩⟩
   ·rw[Vy (Wv hj)] at e2;obtain⟨u',r',q⟩:=hl j y v' e1 e2 e3;refine⟨u',r',?_⟩;rcases q with⟨k,e⟩ | ⟨k,c,e,z⟩
    ·refine .inl ⟨k,?_⟩;have:y≠x:=λe=>hj (xa hN e1 (e▸hi));simp[this,e]
    ·exact .inr ⟨k,c,e,z.sameBut hs (cne y c e)⟩
  ·obtain⟨w',z⟩:=I.cell y c e;exact⟨w',z.sameBut hs (cne y c e)⟩
  ·obtain⟨e,n,ne,nf,d⟩:=I.pin p hp;exact⟨(hs.2 p.1 ne).trans e,n,ne,nf,d⟩
 ·have Pp:X.fn x=true:=by
   rcases hf with z | z
   ·exact z
   ·rw[z] at hk;cases hk
  obtain⟨c,hc⟩:=I.ok.has x (.inl hk);obtain⟨w',z⟩:=I.cell x c hc;refine wpAny_storeName_cell I.ok.kind hk hc z (λh' IV hs=>?_);obtain⟨oc,OF,PQ⟩:=id z;refine h {s with heap:=h'} ⟨I.ok,I.os,I.bare,⟨λb o e n hb hx=>?_,λb o e n hb hx=>?_,I.base.free,λb o e hx=>?_,I.base.tups,I.base.frzs,I.base.tbls⟩,⟨m,hn.sameBut hs (Wv (cne x c hc)),λj y v' e1 e2 e3=>?_⟩,λy c' e=>?_,I.free,I.freeC,λp hp=>?_,tracked ⟨oc,OF,I.freeC x c hc⟩ hs,by simpa using I.len⟩ ⟨c,hs, .inr hc⟩
  ·exact(hs.2 b (VH (VW (Vr e) (I.ok.cab x c Pp hc)))).trans (I.base.keep b o e n hb hx)
  ·obtain⟨sl,e1⟩:=I.base.slot b o e n hb hx;exact⟨sl,(hs.2 b (VH (VW (Vr e) (I.ok.cab x c Pp hc)))).trans e1⟩
  ·obtain⟨o',e1⟩:=I.base.there b o e hx;exact⟨o',(hs.2 b (VH (VW (Vr e) (I.ok.cab x c Pp hc)))).trans e1⟩
  ·by_cases hj:j=i
   ·subst hj;rw[hi] at e1;cases e1;rw[VF RA] at e2;cases e2;exact⟨u,r, .inr ⟨.inl hk,c,hc,IV⟩⟩
   ·rw[Vy (Wv hj)] at e2;obtain⟨u',r',q⟩:=hl j y v' e1 e2 e3;refine⟨u',r',?_⟩;rcases q with q | ⟨k,c',e,z'⟩
    ·exact .inl q
    ·refine .inr ⟨k,c',e,z'.sameBut hs ?_⟩;rintro rfl;exact hj (xa hN e1 (I.ok.inj _ _ _ e hc▸hi))
  ·by_cases Oz:c'=c
   ·subst Oz;exact⟨_,IV⟩
   ·obtain⟨w2,z2⟩:=I.cell y c' e;exact⟨w2,z2.sameBut hs Oz⟩
  ·obtain⟨e,n,ne,nf,d⟩:=I.pin p hp;refine⟨(hs.2 p.1 ?_).trans e,n,ne,nf,d⟩;intro q;rw[q,OF] at e;have q':oc=p.2:=VO e;exact d w' (by rw[<-q'];exact PQ)
def ya{M:Model}{A:V2}{E:Value->Vf->Prop}{i:Nat}{x:Str}{v:V}{u:Value}{Q:Unit->Vf->Prop}(I:Inv X f8 σ H s)(hN:X.N.Nodup)(hi:X.N[i]? =some x)(hx:Loc X.env.scope x)(r:RelV v u)
 (h:∀s',Inv X f8 (σ.set i (some v)) H s'->Q () s')(hf:X.fn x=true\/X.env.scope.names.lookup x=some .local:=by first | exact .inl rfl | exact .inr rfl | assumption):wpAny M A (storeName X.env x u) Q E s:=
 mi I hN hi hx r (λs' I' _=>h s' I') hf
def Inv.call'{s':Vf}{ch:List Addr}(I:Inv X f8 σ H s)(ho:s'.os=s.os)(u:Un (gf X.stack) ch H H' s.heap s'.heap)(hok:HOk X.prog X.w H' s'.heap)(hg:Z1 s'.gens)
 (Gj:∀b∈ch,(b∈X.ex\/X.acT.heap.objs.size<=b)/\b≠X.env.locals/\(∀x c,X.env.cells.lookup x=some c->c≠b)/\∀p∈X.pn++f8,p.1≠b):Inv X f8 σ H' s':=by
 obtain⟨h',g',d',t',o'⟩:=s';have e:o'=s.os:=ho;subst e;exact I.call (g':=g') (t':=t') (d':=d') u hok hg Gj
end
abbrev XK:=Value->Option Addr->Hp->Prop
abbrev St:=List (Option V)
abbrev VK:=V->Hp->Prop
abbrev TE:=St->Hp->VK->Prop
abbrev TT:=St->Hp->(Bool->Hp->Prop)->Prop
abbrev TA:=St->Hp->(List V->Hp->Prop)->Prop
structure Ends where
 nx:St->Hp->Prop
 rt:VK
 bk:St->Hp->Prop:=λ_ _=>False
 ct:St->Hp->Prop:=λ_ _=>False
abbrev TS:=Ends->St->Hp->Prop
def EP(X:Cx)(f8:List (Addr×Obj))(σ:St)(Q:VK)(u:Value)(s':Vf):Prop:=∃v H',Inv X f8 σ H' s'/\RelV v u/\Q v H'
def TP(X:Cx)(f8:List (Addr×Obj))(σ:St)(Q:Bool->Hp->Prop)(b:Bool)(s':Vf):Prop:=∃H',Inv X f8 σ H' s'/\Q b H'
def AP(X:Cx)(f8:List (Addr×Obj))(σ:St)(Q:List V->Hp->Prop)(us:List Value)(s':Vf):Prop:=∃vs H',Inv X f8 σ H' s'/\Vals vs us/\Q vs H'
def SP(X:Cx)(f8:List (Addr×Obj))(D:Ends)(f:Flow)(s':Vf):Prop:=
 match f with
 | .next=>∃σ' H',Inv X f8 σ' H' s'/\D.nx σ' H'
 | .brk=>∃σ' H',Inv X f8 σ' H' s'/\D.bk σ' H'
 | .cont=>∃σ' H',Inv X f8 σ' H' s'/\D.ct σ' H'
 | .ret u=>∃v σ' H',Inv X f8 σ' H' s'/\RelV v u/\D.rt v H'
def PE(X:Cx)(e:Expr)(t:TE):Prop:=
 ∀(f8:List (Addr×Obj)) (s:Vf) (σ:St) (H:Hp) (Q:VK),Inv X f8 σ H s->t σ H Q->wpAny (model X.prog X.w) X.A (eval e X.env) (EP X f8 σ Q) X.xe s
def PT(X:Cx)(e:Expr)(t:TT):Prop:=
 ∀(f8:List (Addr×Obj)) (s:Vf) (σ:St) (H:Hp) (Q:Bool->Hp->Prop),Inv X f8 σ H s->t σ H Q->wpAny (model X.prog X.w) X.A (isTrue e X.env (eval e X.env)) (TP X f8 σ Q) X.xe s
def PW(X:Cx)(e:Expr)(t:TT):Prop:=
 ∀(whole:Sem Value) (f8:List (Addr×Obj)) (s:Vf) (σ:St) (H:Hp) (Q:Bool->Hp->Prop),Inv X f8 σ H s->t σ H Q->wpAny (model X.prog X.w) X.A (isTrue e X.env whole) (TP X f8 σ Q) X.xe s
def PW.pt{X:Cx}{e:Expr}{t:TT}(h:PW X e t):PT X e t:=h _
def PA(X:Cx)(es:List Expr)(t:TA):Prop:=
 ∀(pos:Pos) (f8:List (Addr×Obj)) (s:Vf) (σ:St) (H:Hp) (Q:List V->Hp->Prop),Inv X f8 σ H s->t σ H Q->wpAny (model X.prog X.w) X.A (spliced (W7 pos (Vs es X.env))) (AP X f8 σ Q) X.xe s
def PS(X:Cx)(st:Stmt)(t:TS):Prop:=
 ∀(f8:List (Addr×Obj)) (s:Vf) (σ:St) (H:Hp) (D:Ends),Inv X f8 σ H s->t D σ H->wpAny (model X.prog X.w) X.A (exec st X.env) (SP X f8 D) X.xe s
def PSs(X:Cx)(st:List Stmt)(t:TS):Prop:=
 ∀(f8:List (Addr×Obj)) (s:Vf) (σ:St) (H:Hp) (D:Ends),Inv X f8 σ H s->t D σ H->wpAny (model X.prog X.w) X.A (execs st X.env) (SP X f8 D) X.xe s
def bV{α:Type}{t:Sem α}{Q Q':α->Vf->Prop}{M:Model}{A:V2}{E:Value->Vf->Prop}{s:Vf}(h:wpAny M A t Q E s)(hQ:∀a s,Q a s->Q' a s):wpAny M A t Q' E s:=Wl h hQ λ_ _ x=>x
section
variable{X:Cx}
def bin{a b:Expr}{ta tb:TE}(ha:PE X a ta)(hb:PE X b tb){f8:List (Addr×Obj)}{s:Vf}{σ:St}{H:Hp}{R:V->V->Hp->Prop}(I:Inv X f8 σ H s)(h:ta σ H λx H1=>tb σ H1 λy H2=>R x y H2)
 {α:Type}{Q:α->Vf->Prop}{f:Value->Value->Sem α}
 (hf:∀v u s2 x y H2,Inv X f8 σ H2 s2->RelV x v->RelV y u->R x y H2->wpAny (model X.prog X.w) X.A (f v u) Q X.xe s2):
 wpAny (model X.prog X.w) X.A (eval a X.env) (λv v6=>wpAny (model X.prog X.w) X.A (eval b X.env) (λu v4=>wpAny (model X.prog X.w) X.A (f v u) Q X.xe v4) X.xe v6) X.xe s:=by
 refine bV (ha f8 s σ H _ I h) λv s1 ⟨x,H1,I1,r1,q1⟩=>?_;refine bV (hb f8 s1 σ H1 _ I1 q1) λu s2 ⟨y,H2,I2,r2,q2⟩=>?_;exact hf v u s2 x y H2 I2 r1 r2 q2
def qm(i:Nat):TE:=λσ H Q=>∃v,σ[i]? =some (some v)/\Q v H
def tC(v:V):TE:=λ_ H Q=>Q v H
def La{i:Nat}{x:Str}{pos:Pos}(hN:X.N[i]? =some x)(hv:OZ X.env.scope x)(hd:(x==("__debug__":Str))=false:=by decide)(rS:(x==("__classdict__":Str))=false:=by decide):PE X (.Name x pos) (qm i):=by
 intro f8 s σ H Q I h;obtain⟨v,e,h⟩:=h;obtain⟨m,hn,hl⟩:=I.loc;obtain⟨u,r,l⟩:=hl i x v hN e hv;have fin:EP X f8 σ Q u s:=⟨v,H,I,r,h⟩
 rcases l with⟨hk,hm⟩ | ⟨hk,c,hc,IX⟩
 ·exact wpAny_Name (wpAny_loadName_local I.ok.kind hk hn hm fin) hd
 ·rcases hk with hk | hk
  ·exact wpAny_Name (wpAny_loadName_cell I.ok.kind hk hc IX fin) hd
  ·exact wpAny_Name (wpAny_loadName_free I.ok.kind hk hc IX fin rS) hd
def K4{i j pos}:PE X (.Constant (.int i) j pos) (tC (.int i)):=λ_ _ _ H _ I h=>wpAny_Constant_int ⟨.int i,H,I.tok _,⟨_,rfl⟩,h⟩
def NH{b j pos}:PE X (.Constant (.bool b) j pos) (tC (.bl b)):=λ_ _ _ H _ I h=>Constant_bool ⟨.bl b,H,I,rfl,h⟩
def K5{j pos}:PE X (.Constant .none j pos) (tC .non):=λ_ _ _ H _ I h=>Constant_none ⟨.non,H,I,rfl,h⟩
def K8{x j pos}:PE X (.Constant (.str x) j pos) (tC (.str x)):=λ_ _ _ H _ I h=>Calls.Constant_str ⟨.str x,H,I.tok _,⟨_,rfl⟩,h⟩
def Gl(X:Cx)(x:Str):Prop:=X.env.kindOf x=some .globalImplicit
def kI{E:Value->Vf->Prop}{f8:List (Addr×Obj)}{s:Vf}{σ:St}{H:Hp}{x:Str}{u:Value}{pos:Pos}{Q:Value->Vf->Prop}(I:Inv X f8 σ H s)(hg:Gl X x)(hm:X.mg x=some u)(h:Q u s)
 (hd:(x==("__debug__":Str))=false:=by decide):wpAny (model X.prog X.w) X.A (eval (.Name x pos) X.env) Q E s:=
 aaN I.ok.kind hg (Calls.loadGlobal_global (by rw[I.ok.glob];exact I.mod.glob.keeps I.bk) hm h) hd
def iJ{E:Value->Vf->Prop}{f8:List (Addr×Obj)}{s:Vf}{σ:St}{H:Hp}{x:Str}{u:Value}{pos:Pos}{Q:Value->Vf->Prop}(I:Inv X f8 σ H s)(hg:Gl X x)(hm:X.mg x=none)(hv:V4 x=some u)(h:Q u s)
 (hn:x≠"__name__":=by decide)(hd:(x==("__debug__":Str))=false:=by decide):wpAny (model X.prog X.w) X.A (eval (.Name x pos) X.env) Q E s:=by
 obtain⟨mb,h1,h2⟩:=I.mod.blt;exact aaN I.ok.kind hg (Calls.loadGlobal_builtin (by rw[I.ok.glob];exact I.mod.glob.keeps I.bk) hm (by rw[I.ok.blt];exact h1.keeps I.bk) ((h2 x hn).trans hv) h) hd
def HM{x:Str}{v:V}{u:Value}{pos:Pos}(hg:Gl X x)(hm:X.mg x=some u)(r:RelV v u)(hd:(x==("__debug__":Str))=false:=by decide):PE X (.Name x pos) (tC v):=
 λ_ _ _ H _ I h=>kI I hg hm ⟨v,H,I,r,h⟩ hd
def HH{x:Str}{v:V}{u:Value}{pos:Pos}(hg:Gl X x)(hm:X.mg x=none)(hv:V4 x=some u)(r:RelV v u)(hn:x≠"__name__":=by decide)(hd:(x==("__debug__":Str))=false:=by decide):PE X (.Name x pos) (tC v):=
 λ_ _ _ H _ I h=>iJ I hg hm hv ⟨v,H,I,r,h⟩ hn hd
variable{a b:Expr}{ta tb:TE}{pos:Pos}
def PC(X:Cx)(op:CmpOp)(a b:Expr)(t:TE):Prop:=
 ∀(f8:List (Addr×Obj)) (s:Vf) (σ:St) (H:Hp) (Q:VK),Inv X f8 σ H s->t σ H Q->
  wpAny (model X.prog X.w) X.A (eval a X.env) (λv v6=>wpAny (model X.prog X.w) X.A (eval b X.env) (λu v4=>wpAny (model X.prog X.w) X.A (Ww op v u) (EP X f8 σ Q) X.xe v4) X.xe v6) X.xe s
def Ew(b:Expr){op:CmpOp}(h:op≠ .In)(h2:op≠ .NotIn):WJ op b=false:=by
 have e1:(op==CmpOp.In)=false:=by cases op<;>first | rfl | exact acK rfl h
 have e2:(op==CmpOp.NotIn)=false:=by cases op<;>first | rfl | exact acK rfl h2
 cases b<;>simp[WJ,e1,e2]
def K3{op:CmpOp}{t:TE}(h:PC X op a b t)(h1:WJ op b=false:=by first | exact Ew _ (by decide) (by decide) | rfl):PE X (.Compare a [op] [b] pos) t:=λf8 s σ H Q I hw=>wpAny_Compare1 (h f8 s σ H Q I hw) h1
variable{tA dN:TT}{P3:List Expr}
def QK(t u:TT):TT:=λσ H Q=>t σ H λc H1=>if c=true then u σ H1 Q else Q false H1
def UD(t u:TT):TT:=λσ H Q=>t σ H λc H1=>if c=true then Q true H1 else u σ H1 Q
def QS(t:TT):TT:=λσ H Q=>t σ H λc H1=>Q (!c) H1
def Ib(ha:PT X a tA):PW X (.BoolOp .And [a] pos) tA:=by
 intro wh f8 s σ H Q I h;refine isTrue_and (bV (ha f8 s σ H Q I h) λc s1 e=>?_);cases c with
 |true=>exact isTrue_and_nil e
 |false=>exact e
def Lj(ha:PT X a tA):PW X (.BoolOp .Or [a] pos) tA:=by
 intro wh f8 s σ H Q I h;refine isTrue_or (bV (ha f8 s σ H Q I h) λc s1 e=>?_);cases c with
 |false=>exact isTrue_or_nil e
 |true=>exact e
def Li(ha:PT X a tA)(hb:PW X (.BoolOp .And (b::P3) pos) dN):PW X (.BoolOp .And (a::b::P3) pos) (QK tA dN):=by
 intro wh f8 s σ H Q I h;refine isTrue_and (bV (ha f8 s σ H _ I h) λc s1 ⟨H1,I1,q1⟩=>?_);cases c with
 |true=>exact hb wh f8 s1 σ H1 Q I1 q1
 |false=>exact⟨H1,I1,q1⟩
def NM(ha:PT X a tA)(hb:PW X (.BoolOp .Or (b::P3) pos) dN):PW X (.BoolOp .Or (a::b::P3) pos) (UD tA dN):=by
 intro wh f8 s σ H Q I h;refine isTrue_or (bV (ha f8 s σ H _ I h) λc s1 ⟨H1,I1,q1⟩=>?_);cases c with
 |true=>exact⟨H1,I1,q1⟩
 |false=>exact hb wh f8 s1 σ H1 Q I1 q1
def Lg(ha:PT X a tA):PT X (.UnaryOp .Not a pos) (QS tA):=by
 intro f8 s σ H Q I h;exact isTrue_not (ha f8 s σ H (λc H1=>Q (!c) H1) I h)
def N4(ta tb:TE):TE:=λσ H Q=>ta σ H λx H1=>∃c,x= .bl c/\if c=true then tb σ H1 Q else Q (.bl false) H1
def N9(ta:TE):TE:=λσ H Q=>ta σ H λx H1=>∃c,x= .bl c/\Q (.bl (!c)) H1
def K7{op}{t:TE}(h:PE X a t):PE X (.BoolOp op [a] pos) t:=λf8 s σ H Q I hw=>BoolOp_one (h f8 s σ H Q I hw)
def K2(ha:PE X a ta)(hb:PE X (.BoolOp .And (b::P3) pos) tb):PE X (.BoolOp .And (a::b::P3) pos) (N4 ta tb):=by
 intro f8 s σ H Q I h;refine BoolOp_and (bV (ha f8 s σ H _ I h) λv s1 ⟨x,H1,I1,r1,q1⟩=>?_);obtain⟨c,rfl,q1⟩:=q1;cases r1;refine WR ?_;cases c with
 |true=>exact hb f8 s1 σ H1 Q I1 q1
 |false=>exact⟨.bl false,H1,I1,rfl,q1⟩
def K6(ha:PE X a ta):PE X (.UnaryOp .Not a pos) (N9 ta):=by
 intro f8 s σ H Q I h;refine UnaryOp_ (bV (ha f8 s σ H _ I h) λv s1 ⟨x,H1,I1,r1,q1⟩=>?_);obtain⟨c,rfl,q1⟩:=q1;cases r1;exact not_of (WR ⟨.bl (!c),H1,I1,rfl,q1⟩)
def UC(t:TT)(ta tb:TE):TE:=λσ H Q=>t σ H λc H1=>if c=true then ta σ H1 Q else tb σ H1 Q
def E9{c:Expr}(hc:PT X c tA)(ha:PE X a ta)(hb:PE X b tb):PE X (.IfExp c a b pos) (UC tA ta tb):=by
 intro f8 s σ H Q I h;refine wpAny_IfExp (bV (hc f8 s σ H _ I h) λd s1 ⟨H1,I1,q1⟩=>?_);cases d with
 |true=>exact ha f8 s1 σ H1 Q I1 q1
 |false=>exact hb f8 s1 σ H1 Q I1 q1
end
def SqL(K:Vn)(H:Hp)(a:Addr)(xs:List V):Prop:=
 Rd H a (.lst xs)\/
  ∃(o:Obj) (aB:Array Value) (n:Nat),K.lookup a=some o/\o.cls= .type "list"/\o.dict=none/\o.data= .seq aB n/\aB.size<=VB/\Vals xs aB.toList
def SqT(K:Vn)(H:Hp)(a:Addr)(xs:List V):Prop:=
 Rd H a (.tup xs)\/
  ∃(o:Obj) (aB:Array Value) (n:Nat),K.lookup a=some o/\o.cls= .type "tuple"/\o.data= .seq aB n/\aB.size<=VB/\Vals xs aB.toList
def O0:Value->Option V
 | .none=>some .non
 | .bool b=>some (.bl b)
 | .int i _=>some (.int i)
 | .str x _=>some (.str x)
 | .bytes b _=>some (.byt b)
 | .float b _=>some (.flt b)
 | .ref a=>some (.ref a)
 | .type n=>some (.ty n)
 |_=>none
def RelV.abs{x:V}{u:Value}(r:RelV x u):O0 u=some x:=by
 cases x with
 |non=>cases r;rfl
 |bl _=>cases r;rfl
 |int _=>obtain⟨t,rfl⟩:=r;rfl
 |str _=>obtain⟨t,rfl⟩:=r;rfl
 |byt _=>obtain⟨t,rfl⟩:=r;rfl
 |flt _=>obtain⟨t,rfl⟩:=r;rfl
 |ref _=>cases r;rfl
 |ty _=>cases r;rfl
def RelV.inj{x y:V}{u:Value}(r:RelV x u)(q:RelV y u):x=y:=VO (r.abs.symm.trans q.abs)
def Vals.inj:∀{xs ys:List V}{us:List Value},Vals xs us->Vals ys us->xs=ys
 |_,_,_, .nil, .nil=>rfl
 |_,_,_, .cons r t, .cons r' t'=>by rw[r.inj r',Vals.inj t t']
section
variable{X:Cx}{f8:List (Addr×Obj)}{σ:St}{H:Hp}{s:Vf}{a:Addr}{xs ys:List V}
def SqL.of{K:Vn}(h:H a=some (.lst xs)):SqL K H a xs:= .inl (.inl h)
def SqT.of{K:Vn}(h:H a=some (.tup xs)):SqT K H a xs:= .inl (.inl h)
def Inv.list(I:Inv X f8 σ H s)(h:SqL X.K H a xs):∃aB:List Value,Vals xs aB/\PlainL s.heap a aB.toArray/\xs.length<=VB:=by
 rcases h with h | ⟨o,aB,n,hk,hc,hd,hs,hz,r⟩
 ·obtain⟨z,aB,n,r,e⟩:=h.ok I.hok;exact⟨aB,r,⟨_,n,e,rfl,rfl,rfl⟩,z⟩
 ·refine⟨aB.toList,r,⟨o,n,I.kIn a o hk,hc,hd,by simpa using hs⟩,?_⟩;have e:=r.length;simp only[Vh] at e;omega
def Inv.tuple(I:Inv X f8 σ H s)(h:SqT X.K H a xs):∃aB:List Value,Vals xs aB/\IsTup s.heap a aB.toArray/\xs.length<=VB:=by
 rcases h with h | ⟨o,aB,n,hk,hc,hs,hz,r⟩
 ·obtain⟨z,aB,r,p⟩:=h.ok I.hok;exact⟨aB,r,p,z⟩
 ·refine⟨aB.toList,r,⟨o,I.kIn a o hk,hc,n,by simpa using hs⟩,?_⟩;have e:=r.length;simp only[Vh] at e;omega
def Inv.list_inj(I:Inv X f8 σ H s)(h:SqL X.K H a xs)(h':SqL X.K H a ys):xs=ys:=by
 obtain⟨aB,r,⟨o,n,e,_,_,d⟩,_⟩:=I.list h;obtain⟨its',r',⟨o',n',e',_,_,d'⟩,_⟩:=I.list h';rw[e] at e';cases e';rw[d] at d';injection d' with d1 _
 have:aB=its':=by simpa using acP Array.toList d1
 subst this;exact r.inj r'
def Inv.tuple_inj(I:Inv X f8 σ H s)(h:SqT X.K H a xs)(h':SqT X.K H a ys):xs=ys:=by
 obtain⟨aB,r,⟨o,e,_,n,d⟩,_⟩:=I.tuple h;obtain⟨its',r',⟨o',e',_,n',d'⟩,_⟩:=I.tuple h';rw[e] at e';cases e';rw[d] at d';injection d' with d1 _
 have:aB=its':=by simpa using acP Array.toList d1
 subst this;exact r.inj r'
end
abbrev Cx.wish(X:Cx)(E:Value->Vf->Prop):Cx:={X with xe:=E}
abbrev Cx.nox(X:Cx):Cx:=X.wish λ_ _=>False
def Cx.Ok.wish{X:Cx}(ok:X.Ok)(E:Value->Vf->Prop):(X.wish E).Ok:=
 ⟨ok.mod,ok.kind,ok.glob,ok.blt,ok.above,ok.inj,ok.has,ok.cab,ok.hd,ok.frames,ok.stk,ok.exf,ok.bs,ok.bsz,ok.noex,ok.exfs,ok.funs,ok.frf⟩
def Cx.Ok.unwish{X:Cx}{E:Value->Vf->Prop}(ok:(X.wish E).Ok):X.Ok:=
 ⟨ok.mod,ok.kind,ok.glob,ok.blt,ok.above,ok.inj,ok.has,ok.cab,ok.hd,ok.frames,ok.stk,ok.exf,ok.bs,ok.bsz,ok.noex,ok.exfs,ok.funs,ok.frf⟩
section
variable{X:Cx}{f8:List (Addr×Obj)}{σ:St}{H:Hp}{s:Vf}{E:Value->Vf->Prop}
def Inv.wish(I:Inv X f8 σ H s)(E:Value->Vf->Prop):Inv (X.wish E) f8 σ H s:=⟨I.ok.wish E,I.os,I.bare,I.base,I.loc,I.cell,I.free,I.freeC,I.pin,I.hok,I.len⟩
def Inv.unwish(I:Inv (X.wish E) f8 σ H s):Inv X f8 σ H s:=⟨I.ok.unwish,I.os,I.bare,I.base,I.loc,I.cell,I.free,I.freeC,I.pin,I.hok,I.len⟩
def SP.unwish{D:Ends}{f:Flow}{s':Vf}(h:SP (X.wish E) f8 D f s'):SP X f8 D f s':=by
 cases f with
 |next=>obtain⟨σ',H',I,q⟩:=h;exact⟨σ',H',I.unwish,q⟩
 |brk=>obtain⟨σ',H',I,q⟩:=h;exact⟨σ',H',I.unwish,q⟩
 |cont=>obtain⟨σ',H',I,q⟩:=h;exact⟨σ',H',I.unwish,q⟩
 |ret u=>obtain⟨v,σ',H',I,r,q⟩:=h;exact⟨v,σ',H',I.unwish,r,q⟩
def PE.nox{e:Expr}{t:TE}(h:PE X.nox e t):PE X e t:=λf8 s σ H Q I hw=>
 Wl (h f8 s σ H Q (I.wish _) hw) (λ_ _ ⟨v,H',I',r,q⟩=>⟨v,H',I'.unwish,r,q⟩) λ_ _ z=>WM z
def PT.nox{e:Expr}{t:TT}(h:PT X.nox e t):PT X e t:=λf8 s σ H Q I hw=>
 Wl (h f8 s σ H Q (I.wish _) hw) (λ_ _ ⟨H',I',q⟩=>⟨H',I'.unwish,q⟩) λ_ _ z=>WM z
def PSs.nox{st:List Stmt}{t:TS}(h:PSs X.nox st t):PSs X st t:=λf8 s σ H D I hw=>
 Wl (h f8 s σ H D (I.wish _) hw) (λ_ _ q=>q.unwish) λ_ _ z=>WM z
end
section
variable{X:Cx}{st:Stmt}{P3:List Stmt}{t u:TS}{e:Expr}{te:TE}{pos:Pos}
def N8:TS:=λD σ H=>D.nx σ H
def QU(t u:TS):TS:=λD σ H=>t {D with nx:=u D} σ H
def H0:PSs X [] N8:=λ_ _ σ H _ I h=>Yy ⟨σ,H,I,h⟩
def Fg(h1:PS X st t)(h2:PSs X P3 u):PSs X (st::P3) (QU t u):=by
 intro f8 s σ H D I h;refine wpAny_execs_cons (bV (h1 f8 s σ H {D with nx:=u D} I h) λf s1 q=>?_);cases f with
 |next=>
  obtain⟨σ',H',I',q⟩:=q;exact h2 f8 s1 σ' H' D I' q
 |ret v=>exact q
 |brk=>exact q
 |cont=>exact q
def H8(h1:PS X st t):PSs X [st] t:=by
 intro f8 s σ H D I h;refine wpAny_execs_cons (bV (h1 f8 s σ H D I h) λf s1 q=>?_);cases f with
 |next=>exact Yy q
 |ret v=>exact q
 |brk=>exact q
 |cont=>exact q
def Inv.quiet{f8:List (Addr×Obj)}{σ:St}{H:Hp}{s:Vf}(I:Inv X f8 σ H s):interactive X.env=false:=by simp[interactive,I.ok.kind]
def FT(te:TE):TS:=λD σ H=>te σ H λ_ H1=>D.nx σ H1
def nT(he:PE X e te)(hs:Zr e none pos.line X.env=pure false:=by rfl):PS X (.Expr e pos) (FT te):=by
 intro f8 s σ H D I h;exact wpAny_Expr_any (bV (he f8 s σ H _ I h) λv s1 ⟨x,H1,I1,r1,q1⟩=>⟨σ,H1,I1,q1⟩) I.quiet hs
def QT(te:TE):TS:=λD σ H=>te σ H D.rt
def Le(he:PE X e te):PS X (.Return (some e) pos) (QT te):=by
 intro f8 s σ H D I h;exact wpAny_Return_some (bV (he f8 s σ H _ I h) λv s1 ⟨x,H1,I1,r1,q1⟩=>⟨x,σ,H1,I1,r1,q1⟩)
def QQ(c:TT)(t u:TS):TS:=λD σ H=>c σ H λb H1=>if b=true then t D σ H1 else u D σ H1
def NL{c:Expr}{a b:List Stmt}{tc:TT}(hc:PT X c tc)(ha:PSs X a t)(hb:PSs X b u):PS X (.If c a b pos) (QQ tc t u):=by
 intro f8 s σ H D I h;refine wpAny_If (bV (hc f8 s σ H _ I h) λd s1 ⟨H1,I1,q1⟩=>?_);cases d with
 |true=>exact ha f8 s1 σ H1 D I1 q1
 |false=>exact hb f8 s1 σ H1 D I1 q1
end
abbrev TG:=V->St->Hp->(St->Hp->Prop)->Prop
abbrev IE:=List V->St->Hp->(St->Hp->Prop)->Prop
def PG(X:Cx)(target:Expr)(t:TG):Prop:=
 ∀(f8:List (Addr×Obj)) (s:Vf) (σ:St) (H:Hp) (v:V) (u:Value) (Q:St->Hp->Prop),Inv X f8 σ H s->RelV v u->t v σ H Q->
  wpAny (model X.prog X.w) X.A (assign target X.env u) (λ_ s'=>∃σ' H',Inv X f8 σ' H' s'/\Q σ' H') X.xe s
def Ol(X:Cx)(ts:List Expr)(t:IE):Prop:=
 ∀(f8:List (Addr×Obj)) (s:Vf) (σ:St) (H:Hp) (vs:List V) (us:List Value) (Q:St->Hp->Prop),Inv X f8 σ H s->Vals vs us->t vs σ H Q->
  wpAny (model X.prog X.w) X.A (assignInOrder ((Z3 ts X.env).map (·.2)) us) (λ_ s'=>∃σ' H',Inv X f8 σ' H' s'/\Q σ' H') X.xe s
abbrev OW:=V->V->V->Hp->(Hp->Prop)->Prop
section
variable{X:Cx}{pos:Pos}
def DG(i:Nat):TG:=λv σ H Q=>Q (σ.set i (some v)) H
def a8{i:Nat}{x:Str}(hN:X.N.Nodup)(hi:X.N[i]? =some x)(hx:Loc X.env.scope x)(hf:X.fn x=true\/X.env.scope.names.lookup x=some .local:=by first | exact .inl rfl | exact .inr rfl | assumption):PG X (.Name x pos) (DG i):=by
 intro f8 s σ H v u Q I r h;exact aaQ (ya I hN hi hx r (λs' I'=>⟨_,H,I',h⟩) hf)
def Mw:IE:=λvs σ H Q=>vs=[]/\Q σ H
def IS(t:TG)(u:IE):IE:=λvs σ H Q=>∃v r,vs=v::r/\t v σ H λσ' H'=>u r σ' H' Q
def AR:Ol X [] Mw:=by
 intro f8 s σ H vs us Q I r h;obtain⟨e,h⟩:=h;subst e;cases r;exact assignInOrder_nil ⟨σ,H,I,h⟩
def ll{e:Expr}{es:List Expr}{t:TG}{u:IE}(h1:PG X e t)(h2:Ol X es u)
 (hs:(Z3 (e::es) X.env).map (·.2)=assign e X.env::(Z3 es X.env).map (·.2):=by rfl):Ol X (e::es) (IS t u):=by
 intro f8 s σ H vs us Q I r h;obtain⟨v,vr,e1,h⟩:=h;subst e1;cases r with
 |cons r rr=>
  rw[hs];refine assignInOrder_cons (bV (h1 f8 s σ H _ _ _ I r h) λ_ s1 ⟨σ1,H1,I1,q1⟩=>?_);exact h2 f8 s1 σ1 H1 _ _ Q I1 rr q1
def Mx(K:Vn)(n:Nat)(t:IE):TG:=λv σ H Q=>∃a xs,v= .ref a/\SqT K H a xs/\xs.length=n/\t xs σ H Q
def Fc{es:List Expr}{k:Nat}{t:IE}{n:Nat}(hc:X.calm=true)(h:Ol X es t)
 (hn:(Z3 es X.env).length=n:=by rfl)(kG:(Z3 es X.env).findIdx? (·.1)=none:=by rfl):PG X (.Tuple es k pos) (Mx X.K n t):=by
 intro f8 s σ H v u Q I r hw;obtain⟨a,xs,e1,hq,hl,hw⟩:=hw;subst e1;cases r;obtain⟨aB,rv,ht,hz⟩:=I.tuple hq;refine assign_Tuple_tuple (I.ok.hd hc) ht (by simp[hn,<-hl,rv.length]) kG λh' hx=>?_;have I1:Inv X f8 σ H {s with heap:=h'}:=I.kept (t':=s.toks) λb o e=>hx b o (VH (Vr e)) e;exact h f8 _ σ H xs _ Q I1 (by simpa using rv) hw
def yV(to ti:TE)(t:OW):TG:=λv σ H Q=>to σ H λo H1=>ti σ H1 λi H2=>t o i v H2 λH3=>Q σ H3
def QL(te:TE)(g:TG):TS:=λD σ H=>te σ H λx H1=>g x σ H1 D.nx
def uX{tg e:Expr}{te:TE}{g:TG}(he:PE X e te)(hg:PG X tg g)(hs:ace [tg] e pos.line X.env=pure false:=by rfl)(hw:swappedStores [tg] e X.env=pure none:=by rfl)
 (h1:(Z3 [tg] X.env).map (·.2)=[assign tg X.env]:=by rfl):PS X (.Assign [tg] e pos) (QL te g):=by
 intro f8 s σ H D I h;refine wpAny_Assign_stores (bV (he f8 s σ H _ I h) λv s1 ⟨x,H1,I1,r1,q1⟩=>?_) hs hw;rw[h1];exact bV (hg f8 s1 σ H1 x v _ I1 r1 q1) λ_ s2 q=>q
end
section
variable{X:Cx}{pos:Pos}
def LJ(c:TT)(tb:TS):TS:=λD σ H=>∃W:Nat->St->Hp->Prop,(∃m,W m σ H)/\∀m σ H,W m σ H->
 c σ H λb H1=>if b=true then∃N:St->Hp->Prop,(∀σ' H',N σ' H'->∃m',m'<m/\W m' σ' H')/\tb {D with nx:=N,ct:=N,bk:=D.nx} σ H1 else D.nx σ H1
def Fe{c:Expr}{body:List Stmt}{tc:TT}{tb:TS}(hp:PassesOwn (model X.prog X.w) X.A X.env X.xe)(hc:PT X c tc)(hb:PSs X body tb):PS X (.While c body [] pos) (LJ tc tb):=by
 intro f8 s σ H D I h;obtain⟨W,⟨m0,w0⟩,turn⟩:=h;refine wpAny_While (codeAny_whileLoop (λn s'=>∃σ' H',Inv X f8 σ' H' s'/\W n σ' H') ?_ m0 ⟨σ,H,I,w0⟩);rintro n s1 ⟨σ1,H1,I1,w1⟩;refine X1 hp (bV (hc f8 s1 σ1 H1 _ I1 (turn n σ1 H1 w1)) λb s2 ⟨H2,I2,q2⟩=>?_);cases b with
 |true=>
  obtain⟨N,hN,q2⟩:=q2;rw[acI rfl];refine X1 hp (bV (hb f8 s2 σ1 H2 _ I2 q2) λf s3 q3=>?_);cases f with
  |next=>
   obtain⟨σ3,H3,I3,n3⟩:=q3;obtain⟨m',hm,w3⟩:=hN σ3 H3 n3;exact⟨m',hm,σ3,H3,I3,w3⟩
  |cont=>
   obtain⟨σ3,H3,I3,n3⟩:=q3;obtain⟨m',hm,w3⟩:=hN σ3 H3 n3;exact⟨m',hm,σ3,H3,I3,w3⟩
  |brk=>exact q3
  |ret v=>exact q3
 |false=>
  rw[acJ VM];exact Yy ⟨σ1,H2,I2,q2⟩
end
structure It where
 go:Nat->Hp->Prop
 yld:Nat->Hp->V->Hp->Prop
 stop:Nat->Hp->Prop
def nZ(X:Cx)(f8:List (Addr×Obj))(H:Hp)(b:Addr):Prop:=
 H b=none/\b≠X.env.locals/\b∉X.fs/\(b∈X.ex\/X.acT.heap.objs.size<=b)/\(∀x c,X.env.cells.lookup x=some c->c≠b)/\∀p∈X.pn++f8,p.1≠b
def Inv.fpOk{X:Cx}{f8:List (Addr×Obj)}{σ:St}{H H':Hp}{s:Vf}{b:Addr}(I:Inv X f8 σ H s)(hb:s.heap.objs.size<=b)(hn:H' b=none):nZ X f8 H' b:=by
 refine⟨hn,XS (VW I.lt hb),I.nofs hb, .inr (VI I.sz hb),λx c e z=>?_,λp hp z=>?_⟩
 ·obtain⟨v,q⟩:=I.cell x c e;exact acK (VW q.lt (by rw[z];exact hb)) (Wc _)
 ·exact acK (VW (Vr (I.pin p hp).1) (by rw[z];exact hb)) (Wc _)
structure Turn (P:VG) (w:World) (K:Vn) (tg:Expr) (J:It) (fp:List Addr) (it:Addr) (tn:Nat->Heap->Prop):Prop where
 mem:it∈fp
 obj:∀i h,tn i h->∀b∈fp,∃o,h.get? b=some o/\∀v,o.data≠ .cell v
 keep:∀i h h',tn i h->(∀b∈fp,∀o,h.get? b=some o->h'.get? b=some o)->tn i h'
 item:∀(X:Cx),X.prog=P->X.w=w->X.K=K->X.calm=true->∀(i:Nat) (f8:List (Addr×Obj)) (s:Vf) (σ:St) (H:Hp) (E:Value->Vf->Prop),Inv X f8 σ H s->(∀b∈fp,nZ X f8 H b)->tn i s.heap->J.go i H->
  wpAny (model P w) X.A (YM (.ref it)) (λr s1=>∃u,r=some u/\
   wpAny (model P w) X.A (ZS tg (.ref it) u) (λ_ s2=>∃x H',Inv X f8 σ H' s2/\RelV x u/\J.yld i H x H'/\tn (i+1) s2.heap/\∀b∈fp,H' b=none) E s1) E s
 done:∀(X:Cx),X.prog=P->X.w=w->X.K=K->X.calm=true->∀(i:Nat) (f8:List (Addr×Obj)) (s:Vf) (σ:St) (H:Hp) (E:Value->Vf->Prop),Inv X f8 σ H s->(∀b∈fp,nZ X f8 H b)->tn i s.heap->J.stop i H->
  wpAny (model P w) X.A (YM (.ref it)) (λr s1=>r=none/\Inv X f8 σ H s1) E s
 self:∀(A:V2) (i:Nat) (s:Vf) (Q:Value->Vf->Prop) (E:Value->Vf->Prop),tn i s.heap->Q (.ref it) s->wpAny (model P w) A (ab1 (.ref it)) Q E s
abbrev TI:=St->Hp->(It->Hp->Prop)->Prop
def Q3(X:Cx)(f8:List (Addr×Obj))(σ:St)(tg:Expr)(R:It->Hp->Prop)(Qm:Value)(s2:Vf):Prop:=
 ∃(it:Addr) (fp:List Addr) (tn:Nat->Heap->Prop) (J:It) (H':Hp),Qm= .ref it/\Inv X f8 σ H' s2/\Turn X.prog X.w X.K tg J fp it tn/\tn 0 s2.heap/\(∀b∈fp,nZ X f8 H' b)/\R J H'
def PI(X:Cx)(tg iter:Expr)(wi:TI):Prop:=
 ∀(f8:List (Addr×Obj)) (s:Vf) (σ:St) (H:Hp) (R:It->Hp->Prop),Inv X f8 σ H s->wi σ H R->
  wpAny (model X.prog X.w) X.A (eval iter X.env) (λv s1=>wpAny (model X.prog X.w) X.A (ab1 v) (Q3 X f8 σ tg R) X.xe s1) X.xe s
def rR{M:Model}{A:V2}{E:Value->Vf->Prop}{s:Vf}{tg:Expr}{it:Addr}{u:Value}{o:Obj}{n:String}{vs:Array Value}{Q:Unit->Vf->Prop}(ho:s.heap.get? it=some o)(hc:o.cls= .type n)(hd:o.data= .fields vs)
 (hn:["enumerate","zip","dict_itemiterator","dict_reverseitemiterator","odict_iterator","itertools.zip_longest","itertools.pairwise"].contains n=false)(hQ:Q () s):wpAny M A (ZS tg (.ref it) u) Q E s:=by
 unfold ZS;cases tg<;>first
  |exact Va hQ
  |(cases u<;>first
    |exact Va hQ
    |(refine U_ (wpAny_load ho ?_)
      rw[hc,hd];show wpAny M A (if (["enumerate","zip","dict_itemiterator","dict_reverseitemiterator","odict_iterator","itertools.zip_longest","itertools.pairwise"].contains n&&vs[0]? ==some (Yg _))=true then _ else _) Q E s;rw[acJ (by intro h;rw[hn,Bool.false_and] at h;cases h)];exact Va hQ))
def OS(K:Vn)(a:Addr):It:=
 ⟨λi H=>∃xs x,SqL K H a xs/\xs[i]? =some x,λi H x H'=>H'=H/\∀xs,SqL K H a xs->xs[i]? =some x,λi H=>∃xs,SqL K H a xs/\xs.length<=i⟩
def OT(K:Vn)(a:Addr):It:=
 ⟨λi H=>∃xs x,SqT K H a xs/\xs[i]? =some x,λi H x H'=>H'=H/\∀xs,SqT K H a xs->xs[i]? =some x,λi H=>∃xs,SqT K H a xs/\xs.length<=i⟩
def Mb(lo:Int)(n:Nat):It:=⟨λi _=>i<n,λi H x H'=>H'=H/\x= .int (lo+i),λi _=>n<=i⟩
def CB{P:VG}{w:World}{K:Vn}{tg:Expr}(a it:Addr):Turn P w K tg (OS K a) [it] it (λi h=>h.IsListIter it a i) where
 mem:=by simp
 obj:=λi h st b hb=>by
  have e:b=it:=by simpa using hb
  subst e;obtain⟨o,e,c,d⟩:=st;exact⟨o,e,λv z=>by rw[d] at z;cases z⟩
 keep:=λi h h' st k=>st.at λo e=>k it (by simp) o e
 item:=by
  intro X hP hw hK hc i f8 s σ H E I hf st hg;subst hP hw hK;obtain⟨xs,x,hq,hx⟩:=hg;obtain⟨aB,rv,p,hz⟩:=I.list hq;obtain⟨u,hu,ru⟩:=rv.get hx;obtain⟨f0,f1,f2,f3,f4,f5⟩:=hf it (by simp);refine wpAny_pyNext_list_item st p.isList (x:=u) (by simpa using hu) λh' qi sb=>?_;have I1:Inv X f8 σ H {s with heap:=h'}:=I.turned (t':=s.toks) (λb o hb e=>(sb.2 b hb).trans e) f0 f1 f3 f4 f5;obtain⟨o,e,c,d⟩:=id qi;exact⟨u,rfl,rR (s:={s with heap:=h'}) e c d (by decide) ⟨x,H,I1,ru,⟨rfl,λys hy=>by rw[I.list_inj hy hq];exact hx⟩,qi,λb hb=>(hf b hb).1⟩⟩
 done:=by
  intro X hP hw hK hc i f8 s σ H E I hf st hg;subst hP hw hK;obtain⟨xs,hq,hx⟩:=hg;obtain⟨aB,rv,p,hz⟩:=I.list hq;obtain⟨f0,f1,f2,f3,f4,f5⟩:=hf it (by simp);have hl:=rv.length;exact wpAny_pyNext_list_end (I.ok.hd hc) st p.isList (by simp;omega) λh' eb=>⟨rfl,I.turned (t':=s.toks) (λb o hb e=>eb b o hb e) f0 f1 f3 f4 f5⟩
 self:=λ_ _ _ _ _ st h=>wpAny_pyIter_listiter st h
def zU{P:VG}{w:World}{K:Vn}{tg:Expr}(a it:Addr):Turn P w K tg (OT K a) [it] it (λi h=>h.IsTupleIter it a i) where
 mem:=by simp
 obj:=λi h st b hb=>by
  have e:b=it:=by simpa using hb
  subst e;obtain⟨o,e,c,d⟩:=st;exact⟨o,e,λv z=>by rw[d] at z;cases z⟩
 keep:=λi h h' st k=>st.at λo e=>k it (by simp) o e
 item:=by
  intro X hP hw hK hc i f8 s σ H E I hf st hg;subst hP hw hK;obtain⟨xs,x,hq,hx⟩:=hg;obtain⟨aB,rv,p,hz⟩:=I.tuple hq;obtain⟨u,hu,ru⟩:=rv.get hx;obtain⟨f0,f1,f2,f3,f4,f5⟩:=hf it (by simp);refine wpAny_pyNext_tuple_item st (show s.heap.IsTuple a aB.toArray from p) (x:=u) (by simpa using hu) λh' qi sb=>?_;have I1:Inv X f8 σ H {s with heap:=h'}:=I.turned (t':=s.toks) (λb o hb e=>(sb.2 b hb).trans e) f0 f1 f3 f4 f5;obtain⟨o,e,c,d⟩:=id qi;exact⟨u,rfl,rR (s:={s with heap:=h'}) e c d (by decide) ⟨x,H,I1,ru,⟨rfl,λys hy=>by rw[I.tuple_inj hy hq];exact hx⟩,qi,λb hb=>(hf b hb).1⟩⟩
 done:=by
  intro X hP hw hK hc i f8 s σ H E I hf st hg;subst hP hw hK;obtain⟨xs,hq,hx⟩:=hg;obtain⟨aB,rv,p,hz⟩:=I.tuple hq;obtain⟨f0,f1,f2,f3,f4,f5⟩:=hf it (by simp);have hl:=rv.length;exact wpAny_pyNext_tuple_end (I.ok.hd hc) st (show s.heap.IsTuple a aB.toArray from p) (by simp;omega) λh' eb=>⟨rfl,I.turned (t':=s.toks) (λb o hb e=>eb b o hb e) f0 f1 f3 f4 f5⟩
 self:=λ_ _ _ _ _ st h=>wpAny_pyIter_tupleiter st h
def zT{P:VG}{w:World}{K:Vn}{tg:Expr}(it:Addr)(lo:Int)(n:Nat):Turn P w K tg (Mb lo n) [it] it (λi h=>IsRangeIter h it (lo+(i:Nat)*1) ((n:Int) - (i:Nat)) 1) where
 mem:=by simp
 obj:=λi h st b hb=>by
  have e:b=it:=by simpa using hb
  subst e;exact⟨_,st,λv z=>by
   have z':ab_ _=Data.cell v:=z;cases z'⟩
 keep:=λi h h' st k=>k it (by simp) _ st
 item:=by
  intro X hP hw hK hc i f8 s σ H E I hf st hg;subst hP hw hK;obtain⟨f0,f1,f2,f3,f4,f5⟩:=hf it (by simp);have W:=Walks.range (prog:=X.prog) (w:=X.w) (I.ok.hd hc) it lo 1 n;refine W.item i s _ _ hg st λv h' tk hv qi kk=>?_;obtain⟨t,rfl⟩:=hv;have I1:Inv X f8 σ H {s with heap:=h',toks:=tk}:=I.turned (λb o hb e=>kk b o (by simpa using hb) e) f0 f1 f3 f4 f5;refine⟨_,rfl,rR (s:={s with heap:=h',toks:=tk}) (n:="range_iterator") qi rfl rfl (by decide) ⟨.int (lo+i),H,I1,⟨t,?_⟩,⟨rfl,rfl⟩,qi,λb hb=>(hf b hb).1⟩⟩;rw[Int.mul_one]
 done:=by
  intro X hP hw hK hc i f8 s σ H E I hf st hg;subst hP hw hK;obtain⟨f0,f1,f2,f3,f4,f5⟩:=hf it (by simp);exact wpAny_pyNext_range_end (I.ok.hd hc) st (by have:n<=i:=hg;omega) λh' eb=>⟨rfl,I.turned (t':=s.toks) (λb o hb e=>eb b o hb e) f0 f1 f3 f4 f5⟩
 self:=λ_ _ _ _ _ st h=>wpAny_pyIter_rangeiter st h
section
variable{X:Cx}{tg:Expr}
def Nh(K:Vn)(tl:TE):TI:=λσ H R=>tl σ H λx H1=>∃a,x= .ref a/\(∃xs,SqL K H1 a xs)/\R (OS K a) H1
def Qi(K:Vn)(tl:TE):TI:=λσ H R=>tl σ H λx H1=>∃a,x= .ref a/\(∃xs,SqT K H1 a xs)/\R (OT K a) H1
def HN{l:Expr}{tl:TE}(hl:PE X l tl):PI X tg l (Nh X.K tl):=by
 intro f8 s σ H R I h;refine bV (hl f8 s σ H _ I h) λv s1 ⟨x,H1,I1,r1,q1⟩=>?_;obtain⟨a,e,⟨xs,hq⟩,q⟩:=q1;subst e;cases r1;obtain⟨aB,rv,p,hz⟩:=I1.list hq;refine Zq p.isList ?_;refine⟨s1.heap.objs.size,[s1.heap.objs.size],_,_,H1,rfl,I1.kept (t':=s1.toks) λb o e=>Vd _ e,CB a _,⟨_,Vq _ rfl,rfl,rfl⟩,λb hb=>?_,q⟩;have e:b=s1.heap.objs.size:=by simpa using hb
 subst e;exact I1.fpOk (Vj _) (I1.hok.fresh (Vj _))
def Lc{l:Expr}{tl:TE}(hl:PE X l tl):PI X tg l (Qi X.K tl):=by
 intro f8 s σ H R I h;refine bV (hl f8 s σ H _ I h) λv s1 ⟨x,H1,I1,r1,q1⟩=>?_;obtain⟨a,e,⟨xs,hq⟩,q⟩:=q1;subst e;cases r1;obtain⟨aB,rv,p,hz⟩:=I1.tuple hq;refine wpAny_pyIter_tuple (show s1.heap.IsTuple a aB.toArray from p) ?_;refine⟨s1.heap.objs.size,[s1.heap.objs.size],_,_,H1,rfl,I1.kept (t':=s1.toks) λb o e=>Vd _ e,zU a _,⟨_,Vq _ rfl,rfl,rfl⟩,λb hb=>?_,q⟩;have e:b=s1.heap.objs.size:=by simpa using hb
 subst e;exact I1.fpOk (Vj _) (I1.hok.fresh (Vj _))
def xI{f8:List (Addr×Obj)}{σ:St}{H:Hp}{s:Vf}{R:It->Hp->Prop}{E:Value->Vf->Prop}{lo hi:Int}{t u v:Tok}{tk:Nat}(I:Inv X f8 σ H s)(h1: -(2 ^ 62)<=lo)(h2:lo<2 ^ 62)(h3: -(2 ^ 62)<=hi)(h4:hi<2 ^ 62)
 (q:R (Mb lo (hi - lo).toNat) H):wpAny (model X.prog X.w) X.A (ab1 (.ref s.heap.objs.size)) (Q3 X f8 σ tg R) E {s with heap:=s.heap.push {cls:= .type "range",data:= .fields #[.int lo t, .int hi u, .int 1 v]},toks:=tk}:=by
 refine wpAny_pyIter_range (IsRange.new ..) (small_one h1 h2 h3 h4) ?_;have I1:Inv X f8 σ H {s with heap:=s.heap.push {cls:= .type "range",data:= .fields #[.int lo t, .int hi u, .int 1 v]},toks:=tk}:=I.kept λb o e=>Vd _ e;refine⟨(s.heap.push {cls:= .type "range",data:= .fields #[.int lo t, .int hi u, .int 1 v]}).objs.size,[(s.heap.push {cls:= .type "range",data:= .fields #[.int lo t, .int hi u, .int 1 v]}).objs.size],_,_,H,rfl,
  I1.kept (t':=tk) λb o e=>Vd _ e,zT _ lo (hi - lo).toNat,?_,λb hb=>?_,q⟩
 ·have e1:lo+((0:Nat):Int)*1=lo:=by simp
  have e2:(((hi - lo).toNat:Nat):Int) - ((0:Nat):Int)=Builtin.Range.rangeSize lo hi 1:=by rw[rangeSize_one];split<;>omega
  show IsRangeIter _ _ (lo+((0:Nat):Int)*1) ((((hi - lo).toNat:Nat):Int) - ((0:Nat):Int)) 1;rw[e1,e2];exact Vq _ rfl
 ·have e:b=(s.heap.push {cls:= .type "range",data:= .fields #[.int lo t, .int hi u, .int 1 v]}).objs.size:=by simpa using hb
  subst e;exact I1.fpOk (Vj _) (I1.hok.fresh (Vj _))
def Ni(ta:TA):TI:=λσ H R=>ta σ H λvs H1=>∃j:Int,vs=[.int j]/\ -(2 ^ 62)<=j/\j<2 ^ 62/\R (Mb 0 j.toNat) H1
def Nj(ta:TA):TI:=λσ H R=>ta σ H λvs H1=>∃i j:Int,vs=[.int i, .int j]/\(-(2 ^ 62)<=i/\i<2 ^ 62/\ -(2 ^ 62)<=j/\j<2 ^ 62)/\R (Mb i (j - i).toNat) H1
def Ce{a:Expr}{ta:TA}{p pos:Pos}(hg:Gl X "range")(hm:X.mg "range"=none)(ha:PA X [a] ta)(hs:Vs [a] X.env=[(false,eval a X.env)]:=by rfl):PI X tg (.Call (.Name "range" p) [a] [] pos) (Ni ta):=by
 intro f8 s σ H R I h;refine Call_ (iJ I hg hm boot_range (WV (bV (ha pos f8 s σ H _ I h) λus s1 ⟨vs,H1,I1,r1,q1⟩=>?_) hs rfl));obtain⟨j,e,q1,q2,q⟩:=q1;subst e;cases r1 with
 |cons r rr=>
  cases rr;obtain⟨t,rfl⟩:=r;exact call_range_1 (xI I1 (by omega) (by omega) q1 q2 (by simpa using q))
def Cf{a b:Expr}{ta:TA}{p pos:Pos}(hg:Gl X "range")(hm:X.mg "range"=none)(ha:PA X [a,b] ta)(hs:Vs [a,b] X.env=[(false,eval a X.env),(false,eval b X.env)]:=by rfl)(Kd:Vs [b] X.env=[(false,eval b X.env)]:=by rfl):
 PI X tg (.Call (.Name "range" p) [a,b] [] pos) (Nj ta):=by
 intro f8 s σ H R I h;refine Call_ (iJ I hg hm boot_range (WV (bV (ha pos f8 s σ H _ I h) λus s1 ⟨vs,H1,I1,r1,q1⟩=>?_) (by rw[hs,Kd]) (by rw[Kd];rfl)));obtain⟨i,j,e,⟨q1,q2,q3,q4⟩,q⟩:=q1;subst e;cases r1 with
 |cons r rr=>
  cases rr with
  |cons r' rr=>
   cases rr;obtain⟨t,rfl⟩:=r;obtain⟨t',rfl⟩:=r';exact call_range_2 (xI I1 q1 q2 q3 q4 q)
def N7(wi:TI)(g:TG)(tb:TS):TS:=λD σ H=>wi σ H λJ H1=>∃W:Nat->Nat->St->Hp->Prop,(∃m,W 0 m σ H1)/\∀i m σ H,W i m σ H->
 (J.stop i H/\D.nx σ H)\/(J.go i H/\∃N:St->Hp->Prop,(∀σ' H',N σ' H'->∃m',m'<m/\W (i+1) m' σ' H')/\∀x H',J.yld i H x H'->g x σ H' λσ2 H2=>tb {D with nx:=N,ct:=N,bk:=D.nx} σ2 H2)
def l6(fp:List Addr)(h:Heap):List (Addr×Obj):=fp.filterMap λb=>(h.get? b).map λo=>(b,o)
def eF{fp:List Addr}{h:Heap}{b:Addr}{o:Obj}(hb:b∈fp)(e:h.get? b=some o):(b,o)∈l6 fp h:=Yl.mpr ⟨b,hb,by rw[e];rfl⟩
def B6{fp:List Addr}{h:Heap}{p:Addr×Obj}(hp:p∈l6 fp h):p.1∈fp/\h.get? p.1=some p.2:=by
 obtain⟨b,hb,e⟩:=Yl.mp hp;cases q:h.get? b with
 |none=>rw[q] at e;cases e
 |some o=>
  rw[q] at e;have e':(b,o)=p:=VO e;subst e';exact⟨hb,q⟩
def Inv.pinned{f8:List (Addr×Obj)}{σ:St}{H:Hp}{s:Vf}{fp:List Addr}(I:Inv X f8 σ H s)(hf:∀b∈fp,nZ X f8 H b)(ho:∀b∈fp,∃o,s.heap.get? b=some o/\∀v,o.data≠ .cell v):Inv X (f8++l6 fp s.heap) σ H s:=
 I.pins_of λp hp=>(V3.mp hp).elim (λz=>I.pin p (VP _ z)) λz=>by
  obtain⟨hb,e⟩:=B6 z;obtain⟨f0,f1,f2,_⟩:=hf p.1 hb;obtain⟨o,e',d⟩:=ho p.1 hb;rw[e] at e';cases e';exact⟨e,f0,f1,f2,d⟩
def Inv.unpinned{f8 pl:List (Addr×Obj)}{σ:St}{H:Hp}{s:Vf}(I:Inv X (f8++pl) σ H s):Inv X f8 σ H s:=I.pins_of λp hp=>I.pin p (VP _ (WZ _ hp))
def Ld{iter:Expr}{body:List Stmt}{wi:TI}{g:TG}{tb:TS}{pos:Pos}(hp:PassesOwn (model X.prog X.w) X.A X.env X.xe)(hc:X.calm=true)(hi:PI X tg iter wi)(hg:PG X tg g)(hb:PSs X body tb)
 (hs:∀x,X6 iter X.env x=pure x:=by intro _;rfl):PS X (.For tg iter body [] pos) (N7 wi g tb):=by
 intro f8 s σ H D I h;refine wpAny_For (bV (hi f8 s σ H _ I h) λv s1 h1=>bV h1 λQm s2 h2=>?_) hs;obtain⟨it,fp,tn,J,H2,e,I2,T,tx,f2,W,⟨m0,w0⟩,turn⟩:=h2;subst e;have zP:∀{H':Hp},(∀b∈fp,H' b=none)->∀b∈fp,nZ X f8 H' b:=λhn b hb=>⟨hn b hb,(f2 b hb).2⟩
 refine codeAny_forLoop_any (λn s'=>∃i σ' H',Inv X f8 σ' H' s'/\tn i s'.heap/\(∀b∈fp,H' b=none)/\W i n σ' H') ?_ m0 ⟨0,σ,H2,I2,tx,λb hb=>(f2 b hb).1,w0⟩;rintro n s3 ⟨i,σ3,H3,I3,FL,JT,w3⟩;rcases turn i n σ3 H3 w3 with⟨stop,qn⟩ | ⟨go,N,hN,step⟩
 ·refine X1 hp (bV (T.done X rfl rfl rfl hc i f8 s3 σ3 H3 X.xe I3 (zP JT) FL stop) λr s4 ⟨hr,I4⟩=>?_);subst hr;exact Yy ⟨σ3,H3,I4,qn⟩
 ·refine X1 hp (bV (T.item X rfl rfl rfl hc i f8 s3 σ3 H3 X.xe I3 (zP JT) FL go) λr s4 ⟨u,hr,h4⟩=>?_);subst hr;refine X1 hp (bV h4 λ_ s5 ⟨x,H5,I5,r5,y5,LD,O6⟩=>?_);have I5':=I5.pinned (zP O6) (T.obj _ _ LD);refine X1 hp (bV (hg _ s5 σ3 H5 x u _ I5' r5 (step x H5 y5)) λ_ s6 ⟨σ6,H6,I6,q6⟩=>?_);refine X1 hp (bV (hb _ s6 σ6 H6 _ I6 q6) λf s7 q7=>?_);have again:∀{σ7:St}{H7:Hp},Inv X (f8++l6 fp s5.heap) σ7 H7 s7->N σ7 H7->∃m,m<n/\∃i σ' H',Inv X f8 σ' H' s7/\tn i s7.heap/\(∀b∈fp,H' b=none)/\W i m σ' H':=λ{σ7 H7} I7 n7=>by
   obtain⟨m',hm,w7⟩:=hN σ7 H7 n7;refine⟨m',hm,i+1,σ7,H7,I7.unpinned,T.keep _ _ _ LD λb hb o e=>(I7.pin (b,o) (VP _ (VP _ (eF hb e)))).1,λb hb=>?_,w7⟩;obtain⟨o,e,d⟩:=T.obj _ _ LD b hb;exact(I7.pin (b,o) (VP _ (VP _ (eF hb e)))).2.1
  cases f with
  |next=>obtain⟨σ7,H7,I7,n7⟩:=q7;exact again I7 n7
  |cont=>obtain⟨σ7,H7,I7,n7⟩:=q7;exact again I7 n7
  |brk=>obtain⟨σ7,H7,I7,q7⟩:=q7;exact⟨σ7,H7,I7.unpinned,q7⟩
  |ret v=>obtain⟨x7,σ7,H7,I7,r7,q7⟩:=q7;exact⟨x7,σ7,H7,I7.unpinned,r7,q7⟩
end
abbrev R2:=V->V->Hp->VK->Prop
def OpR(X:Cx)(f:Value->Value->Sem Value)(r:R2):Prop:=
 ∀(f8:List (Addr×Obj)) (s:Vf) (σ:St) (H:Hp) (x y:V) (v u:Value) (Q:VK),Inv X f8 σ H s->RelV x v->RelV y u->r x y H Q->
  wpAny (model X.prog X.w) X.A (f v u) (EP X f8 σ Q) X.xe s
def OY(X:Cx)(f:Value->Sem Value)(r:V->Hp->VK->Prop):Prop:=
 ∀(f8:List (Addr×Obj)) (s:Vf) (σ:St) (H:Hp) (x:V) (v:Value) (Q:VK),Inv X f8 σ H s->RelV x v->r x H Q->
  wpAny (model X.prog X.w) X.A (f v) (EP X f8 σ Q) X.xe s
def CallR(X:Cx)(f:Value)(r:List V->Hp->VK->Prop):Prop:=
 ∀(f8:List (Addr×Obj)) (s:Vf) (σ:St) (H:Hp) (xs:List V) (us:List Value) (Q:VK),Inv X f8 σ H s->Vals xs us->r xs H Q->
  wpAny (model X.prog X.w) X.A (call f us) (EP X f8 σ Q) X.xe s
def OX(X:Cx)(r:V->Hp->(Bool->Hp->Prop)->Prop):Prop:=
 ∀(f8:List (Addr×Obj)) (s:Vf) (σ:St) (H:Hp) (x:V) (v:Value) (Q:Bool->Hp->Prop),Inv X f8 σ H s->RelV x v->r x H Q->
  wpAny (model X.prog X.w) X.A (truthy v) (TP X f8 σ Q) X.xe s
def N_(r:R2)(ta tb:TE):TE:=λσ H Q=>ta σ H λx H1=>tb σ H1 λy H2=>r x y H2 Q
def UH(r:V->Hp->VK->Prop)(ta:TE):TE:=λσ H Q=>ta σ H λx H1=>r x H1 Q
def rI(C:Int->Int->Prop)(g:Int->Int->V):R2:=λx y H Q=>∃i j,x= .int i/\y= .int j/\C i j/\Q (g i j) H
def Ck(g:Int->Int->V):R2:=λx y H Q=>∃i j,x= .int i/\y= .int j/\Q (g i j) H
def rU(g:Int->V):V->Hp->VK->Prop:=λx H Q=>∃i,x= .int i/\Q (g i) H
section
variable{X:Cx}{a b:Expr}{ta tb:TE}{pos:Pos}
def JC(ha:PE X a ta)(hb:PE X b tb){f8:List (Addr×Obj)}{s:Vf}{σ:St}{H:Hp}{R:V->V->Hp->Prop}(I:Inv X f8 σ H s)
 (h:ta σ H λx H1=>tb σ H1 λy H2=>R x y H2){Q:Value->Vf->Prop}{f:Value->Value->Sem Value}
 (hf:∀v u s2 x y H2,Inv X f8 σ H2 s2->RelV x v->RelV y u->R x y H2->wpAny (model X.prog X.w) X.A (f v u) Q X.xe s2):
 wpAny (model X.prog X.w) X.A (eval a X.env) (λv v6=>wpAny (model X.prog X.w) X.A (eval b X.env) (λu v4=>wpAny (model X.prog X.w) X.A (f v u) Q X.xe v4) X.xe v6) X.xe s:=by
 refine bV (ha f8 s σ H _ I h) λv s1 ⟨x,H1,I1,r1,q1⟩=>?_;refine bV (hb f8 s1 σ H1 _ I1 q1) λu s2 ⟨y,H2,I2,r2,q2⟩=>?_;exact hf v u s2 x y H2 I2 r1 r2 q2
def NJ{op:Operator}{r:R2}(ho:OpR X (Yz op) r)(ha:PE X a ta)(hb:PE X b tb):PE X (.BinOp a op b pos) (N_ r ta tb):=by
 intro f8 s σ H Q I h;exact wpAny_BinOp (JC ha hb I h λv u s2 x y H2 I2 rx ry q=>ho f8 s2 σ H2 x y v u Q I2 rx ry q)
def NK{op:UnaryOp}{r:V->Hp->VK->Prop}(ho:OY X (unaryOp op) r)(ha:PE X a ta):PE X (.UnaryOp op a pos) (UH r ta):=by
 intro f8 s σ H Q I h;exact UnaryOp_ (bV (ha f8 s σ H _ I h) λv s1 ⟨x,H1,I1,r1,q1⟩=>ho f8 s1 σ H1 x v Q I1 r1 q1)
def Qx{f:Value->Value->Sem Value}{C:Int->Int->Prop}{g:Int->Int->Int}
 (rule:∀(i j:Int) (t u:Tok) (s:Vf) (Q:Value->Vf->Prop) (E:Value->Vf->Prop),C i j->Q (.int (g i j) s.toks) {s with toks:=s.toks+1}->wpAny (model X.prog X.w) X.A (f (.int i t) (.int j u)) Q E s):
 OpR X f (rI C λi j=> .int (g i j)):=by
 intro f8 s σ H x y v u Q I rx ry h;obtain⟨i,j,rfl,rfl,hc,q⟩:=h;obtain⟨t,rfl⟩:=rx;obtain⟨t',rfl⟩:=ry;exact rule i j t t' s _ _ hc ⟨.int (g i j),H,I.tok _,⟨_,rfl⟩,q⟩
def NA{f:Value->Value->Sem Value}{g:Int->Int->Int}
 (rule:∀(i j:Int) (t u:Tok) (s:Vf) (Q:Value->Vf->Prop) (E:Value->Vf->Prop),Q (.int (g i j) s.toks) {s with toks:=s.toks+1}->wpAny (model X.prog X.w) X.A (f (.int i t) (.int j u)) Q E s):
 OpR X f (Ck λi j=> .int (g i j)):=by
 intro f8 s σ H x y v u Q I rx ry h;obtain⟨i,j,rfl,rfl,q⟩:=h;obtain⟨t,rfl⟩:=rx;obtain⟨t',rfl⟩:=ry;exact rule i j t t' s _ _ ⟨.int (g i j),H,I.tok _,⟨_,rfl⟩,q⟩
def Nz{f:Value->Value->Sem Value}{g:Int->Int->Bool}
 (rule:∀(i j:Int) (t u:Tok) (s:Vf) (Q:Value->Vf->Prop) (E:Value->Vf->Prop),Q (.bool (g i j)) s->wpAny (model X.prog X.w) X.A (f (.int i t) (.int j u)) Q E s):
 OpR X f (Ck λi j=> .bl (g i j)):=by
 intro f8 s σ H x y v u Q I rx ry h;obtain⟨i,j,rfl,rfl,q⟩:=h;obtain⟨t,rfl⟩:=rx;obtain⟨t',rfl⟩:=ry;exact rule i j t t' s _ _ ⟨.bl (g i j),H,I,rfl,q⟩
def L_(i j:Int):Prop:=0<j/\j<1073741824
def CMul(i j:Int):Prop:=(-(2 ^ 64)<i/\i<2 ^ 64)\/(-(2 ^ 64)<j/\j<2 ^ 64)
def CMul.ok{i j:Int}(h:CMul i j):IntMulOk i j:=by
 rcases h with⟨h1,h2⟩ | ⟨h1,h2⟩
 ·exact .of_left (intBits_le_64 h1 h2)
 ·exact .of_right (intBits_le_64 h1 h2)
def KD:OpR X (Yz .Add) (Ck λi j=> .int (i+j)):=NA λ_ _ _ _ _ _ _ q=>add_int q
def KO:OpR X (Yz .Sub) (Ck λi j=> .int (i - j)):=NA λ_ _ _ _ _ _ _ q=>sub_int q
def KJ:OpR X (Yz .Mult) (rI CMul λi j=> .int (i*j)):=Qx λ_ _ _ _ _ _ _ hc q=>mul_int q hc.ok
def Hs:OpR X (Yz .FloorDiv) (rI L_ λi j=> .int (i / j)):=Qx λi j _ _ _ _ _ hc q=>by
 have h1:(0:Int)<j:=hc.1;have h2:j<1073741824:=hc.2;exact floordiv_int (by omega) (by rw[Int.fdiv_eq_ediv_of_nonneg i (by omega)];exact q) (.inl (PyProof.noPylong_small (by omega)))
def KI:OpR X (Yz .Mod) (rI (λ_ j=>0<j) λi j=> .int (i % j)):=Qx λi j _ _ _ _ _ hc q=>by
 have h1:(0:Int)<j:=hc;exact mod_int' (by omega) (by rw[Int.fmod_eq_emod_of_nonneg i (by omega)];exact q)
def UJ{f:Value->Sem Value}{g:Int->Int}
 (rule:∀(i:Int) (t:Tok) (s:Vf) (Q:Value->Vf->Prop) (E:Value->Vf->Prop),Q (.int (g i) s.toks) {s with toks:=s.toks+1}->wpAny (model X.prog X.w) X.A (f (.int i t)) Q E s):
 OY X f (rU λi=> .int (g i)):=by
 intro f8 s σ H x v Q I rx h;obtain⟨i,rfl,q⟩:=h;obtain⟨t,rfl⟩:=rx;exact rule i t s _ _ ⟨.int (g i),H,I.tok _,⟨_,rfl⟩,q⟩
def LM:OY X (unaryOp .USub) (rU λi=> .int (-i)):=UJ λ_ _ _ _ _ q=>neg_int q
end
section
variable{X:Cx}{a b c:Expr}{ta tb tc:TE}{pos:Pos}
def JN{f8:List (Addr×Obj)}{σ:St}{H:Hp}{s:Vf}{Q:VK}{k k':Bool}(I:Inv X f8 σ H s)(q:Q (.bl k) H)(e:k=k'):EP X f8 σ Q (.bool k') s:=by
 subst e;exact⟨.bl k,H,I,rfl,q⟩
def Js:OpR X (Ww .Lt) (Ck λi j=> .bl (decide (i<j))):=Nz λ_ _ _ _ _ _ _ q=>lt_int q
def sI:OpR X (Ww .LtE) (Ck λi j=> .bl (decide (i<=j))):=Nz λ_ _ _ _ _ _ _ q=>le_int q
def B9:OpR X (Ww .In) (λx y H Q=>∃i j,x= .str i/\y= .str j/\Q (.bl (!(WT j i 0 j.length 1).isEmpty)) H):=by
 intro f8 s σ H x y v u Q I rx ry h;obtain⟨i,j,rfl,rfl,q⟩:=h;obtain⟨t,rfl⟩:=rx;obtain⟨t',rfl⟩:=ry;exact in_str (JN I q rfl)
def OpR.or{f:Value->Value->Sem Value}{r r':R2}(h:OpR X f r)(h':OpR X f r'):OpR X f (λx y H Q=>r x y H Q\/r' x y H Q):=by
 intro f8 s σ H x y v u Q I rx ry q;rcases q with q | q
 ·exact h f8 s σ H x y v u Q I rx ry q
 ·exact h' f8 s σ H x y v u Q I rx ry q
def Ez(b:Expr){op:CmpOp}(h:op≠ .In:=by decide)(h2:op≠ .NotIn:=by decide):WJ op b=false:=by
 have e1:(op==CmpOp.In)=false:=by cases op<;>first | rfl | exact acK rfl h
 have e2:(op==CmpOp.NotIn)=false:=by cases op<;>first | rfl | exact acK rfl h2
 cases b<;>simp[WJ,e1,e2]
def HJ{op:CmpOp}{r:R2}(ho:OpR X (Ww op) r)(ha:PE X a ta)(hb:PE X b tb)(hm:WJ op b=false):PE X (.Compare a [op] [b] pos) (N_ r ta tb):=by
 intro f8 s σ H Q I h;exact wpAny_Compare1 (JC ha hb I h λv u s2 x y H2 I2 rx ry q=>ho f8 s2 σ H2 x y v u Q I2 rx ry q) hm
def Jv(t:TE):TT:=λσ H Q=>t σ H λx H'=>∃k,x= .bl k/\Q k H'
def H_{op:CmpOp}{r:R2}(ho:OpR X (Ww op) r)(ha:PE X a ta)(hb:PE X b tb)(hm:WJ op b=false):PT X (.Compare a [op] [b] pos) (Jv (N_ r ta tb)):=by
 intro f8 s σ H Q I h;refine wpAny_isTrue_Compare1 (bV (ha f8 s σ H _ I h) λv s1 ⟨x,H1,I1,r1,q1⟩=>bV (hb f8 s1 σ H1 _ I1 q1) λu s2 ⟨y,H2,I2,r2,q2⟩=>
  bV (ho f8 s2 σ H2 x y v u _ I2 r1 r2 q2) λc s3 ⟨z,H3,I3,r3,k,e,q3⟩=>?_) hm
 subst e;cases r3;exact WR ⟨H3,I3,q3⟩
def zR(r r':R2)(ta tb tc:TE):TE:=λσ H Q=>ta σ H λx H1=>tb σ H1 λy H2=>r x y H2 λz H3=>∃k,z= .bl k/\
 (if k=true then tc σ H3 λw' H4=>r' y w' H4 Q else Q (.bl false) H3)
def E7{op zm:CmpOp}{r r':R2}(ho:OpR X (Ww op) r)(kF:OpR X (Ww zm) r')(ha:PE X a ta)(hb:PE X b tb)(hc:PE X c tc)
 (hm:lastMarks [op,zm] [b,c]=false:=by with_unfolding_all rfl):PE X (.Compare a [op,zm] [b,c] pos) (zR r r' ta tb tc):=by
 intro f8 s σ H Q I h;refine Compare_chain (bV (ha f8 s σ H _ I h) λv s1 ⟨x,H1,I1,r1,q1⟩=>chain_link (bV (hb f8 s1 σ H1 _ I1 q1) λu s2 ⟨y,H2,I2,r2,q2⟩=>
  bV (ho f8 s2 σ H2 x y v u _ I2 r1 r2 q2) λd s3 ⟨z,H3,I3,r3,k,e,q3⟩=>?_)) hm
 subst e;cases r3;refine WR ?_;cases k with
 |false=>exact ite_ff ⟨.bl false,H3,I3,rfl,q3⟩
 |true=>exact ite_tt (chain_last (bV (hc f8 s3 σ H3 _ I3 q3) λw' s4 ⟨z',H4,I4,r4,q4⟩=>kF f8 s4 σ H4 y z' u w' Q I4 r2 r4 q4))
def Fi{op zm:CmpOp}{r r':R2}(ho:OpR X (Ww op) r)(kF:OpR X (Ww zm) r')(ha:PE X a ta)(hb:PE X b tb)(hc:PE X c tc)
 (hm:lastMarks [op,zm] [b,c]=false:=by with_unfolding_all rfl):PT X (.Compare a [op,zm] [b,c] pos) (Jv (zR r r' ta tb tc)):=by
 intro f8 s σ H Q I h;refine isTrue_chain (bV (ha f8 s σ H _ I h) λv s1 ⟨x,H1,I1,r1,q1⟩=>test_link (bV (hb f8 s1 σ H1 _ I1 q1) λu s2 ⟨y,H2,I2,r2,q2⟩=>
  bV (ho f8 s2 σ H2 x y v u _ I2 r1 r2 q2) λd s3 ⟨z,H3,I3,r3,k,e,q3⟩=>?_)) hm
 subst e;cases r3;refine WR ?_;cases k with
 |false=>
  obtain⟨k',e',q'⟩:=q3;cases e';exact ite_ff ⟨H3,I3,q'⟩
 |true=>
  refine ite_tt (test_last (bV (hc f8 s3 σ H3 _ I3 q3) λw' s4 ⟨z',H4,I4,r4,q4⟩=>bV (kF f8 s4 σ H4 y z' u w' _ I4 r2 r4 q4) λd' s5 ⟨z2,H5,I5,r5,k2,e2,q5⟩=>?_));subst e2;cases r5;exact WR ⟨H5,I5,q5⟩
def Mf(K:Vn)(x:V)(H:Hp)(k:Bool):Prop:=
 match x with
 | .non=>k=false
 | .bl b=>k=b
 | .int i=>k=(i !=0)
 | .str y=>y.length<=VB/\k=((y.length:Int) !=0)
 | .byt y=>y.size<=VB/\k=((y.size:Int) !=0)
 | .ref p=>(∃xs,SqL K H p xs/\k=!xs.isEmpty)\/(∃xs,SqT K H p xs/\k=!xs.isEmpty)\/∃aA,H p=some (.dK aA)/\k=!aA.isEmpty
 |_=>False
def y7{κ:Type}{aA:List (κ×V)}{vs:List (κ×Value)}(r:KV aA vs):(!vs.isEmpty)=!aA.isEmpty:=by
 cases r<;>rfl
def oX{xs:List V}{aB:List Value}(r:Vals xs aB):(!aB.toArray.isEmpty)=!xs.isEmpty:=by
 cases r<;>simp
def lV:(VB:Nat)<2 ^ 63:=by rw[Xe];decide
def LK:OX X (λx H Q=>∃k,Mf X.K x H k/\Q k H):=by
 intro f8 s σ H x v Q I rx h;obtain⟨k,e,q⟩:=h;have hl:=lV;have hs:VB=16777216:=Xe;cases x with
 |non=>
  cases rx;have e':k=false:=e;subst e';exact truthy_none ⟨H,I,q⟩
 |bl b=>
  cases rx;have e':k=b:=e;subst e';exact WR ⟨H,I,q⟩
 |int i=>
  obtain⟨t,rfl⟩:=rx;have e':k=(i !=0):=e;subst e';exact PySem.P.truthy_int ⟨H,I,q⟩
 |str y=>
  obtain⟨t,rfl⟩:=rx;obtain⟨hy,e'⟩:y.length<=VB/\k=((y.length:Int) !=0):=e;subst e';exact PySem.P.truthy_str (by omega) ⟨H,I.tok _,q⟩
 |byt y=>
  obtain⟨t,rfl⟩:=rx;obtain⟨hy,e'⟩:y.size<=VB/\k=((y.size:Int) !=0):=e;subst e';exact PySem.W.truthy_bytes (by omega) ⟨H,I.tok _,q⟩
 |ref p=>
  cases rx;have e':(∃xs,SqL X.K H p xs/\k=!xs.isEmpty)\/(∃xs,SqT X.K H p xs/\k=!xs.isEmpty)\/∃aA,H p=some (.dK aA)/\k=!aA.isEmpty:=e;rcases e' with⟨xs,hx,e'⟩ | ⟨xs,hx,e'⟩ | ⟨aA,hx,e'⟩
  ·subst e';obtain⟨aB,r,pl,hz⟩:=I.list hx;have M2:=r.length;exact wpAny_truthy_list pl.isList (by simp only[Vl];omega) ⟨H,I.tok _,by rw[oX r];exact q⟩
  ·subst e';obtain⟨aB,r,pl,hz⟩:=I.tuple hx;have M2:=r.length;exact truthy_tuple pl (by simp only[Vl];omega) ⟨H,I.tok _,by rw[oX r];exact q⟩
  ·subst e';obtain⟨hz,hS,vs,r,m⟩:aA.length<=VB/\(p==W0)=false/\∃vs,KV aA vs/\s.heap.DictOf (a6 X.prog X.w) p vs:=I.hok p _ hx;have M2:aA.length=vs.length:=Xs r;exact wpAny_truthy_dict hS m (by omega) ⟨H,I.tok _,by rw[y7 r];exact q⟩
 |_=>exact(show False from e).elim
def Fj(ha:PE X a ta)(he:∀whole,isTrue a X.env whole=(do let v<-whole;standAt a.pos;holding [v] (truthy v))):
 PT X a (λσ H Q=>ta σ H λx H'=>∃k,Mf X.K x H' k/\Q k H'):=by
 intro f8 s σ H Q I h;exact isTrue_plain (bV (ha f8 s σ H _ I h) λv s1 ⟨x,H1,I1,r1,q1⟩=>LK f8 s1 σ H1 x v Q I1 r1 q1) (he _)
def zo:OpR X (Yz .Add) (λx y H Q=>∃i j,x= .str i/\y= .str j/\i.length+j.length<=VB/\Q (.str (i++j)) H):=by
 intro f8 s σ H x y v u Q I rx ry h;obtain⟨i,j,rfl,rfl,hz,q⟩:=h;obtain⟨t,rfl⟩:=rx;obtain⟨t',rfl⟩:=ry;exact add_str (λt' tk=>⟨.str (i++j),H,I.tok _,⟨_,rfl⟩,q⟩) hz
def vals1{x:V}{us:List Value}(r:Vals [x] us):∃u,us=[u]/\RelV x u:=by
 cases r with
 |cons r1 r2=>cases r2;exact⟨_,rfl,r1⟩
def vals2{x y:V}{us:List Value}(r:Vals [x,y] us):∃u w',us=[u,w']/\RelV x u/\RelV y w':=by
 cases r with
 |cons r1 r2=>
  cases r2 with
  |cons r3 r4=>cases r4;exact⟨_,_,rfl,r1,r3⟩
def Dc:CallR X (.builtin "abs") (λxs H Q=>∃i,xs=[.int i]/\Q (.int (if i<0 then -i else i)) H):=by
 intro f8 s σ H xs us Q I r h;obtain⟨i,rfl,q⟩:=h;obtain⟨u,rfl,t,rfl⟩:=vals1 r;exact call_abs_int λu tk=>⟨.int (if i<0 then -i else i),H,I.tok _,⟨_,rfl⟩,q⟩
def Bd(hc:X.calm=true):CallR X (.builtin "max") (λxs H Q=>∃i j,xs=[.int i, .int j]/\Q (.int (if j>i then j else i)) H):=by
 intro f8 s σ H xs us Q I r h;obtain⟨i,j,rfl,q⟩:=h;obtain⟨u,w',rfl,⟨t,rfl⟩,⟨t',rfl⟩⟩:=vals2 r;refine max_two_ints (I.ok.hd hc) λh' tk k=>⟨_,H,I.kept k,?_,q⟩
 by_cases hj:j>i
 ·rw[acI hj,acI hj];exact⟨_,rfl⟩
 ·rw[acJ hj,acJ hj];exact⟨_,rfl⟩
def Be(hc:X.calm=true):CallR X (.builtin "min") (λxs H Q=>∃i j,xs=[.int i, .int j]/\Q (.int (if j<i then j else i)) H):=by
 intro f8 s σ H xs us Q I r h;obtain⟨i,j,rfl,q⟩:=h;obtain⟨u,w',rfl,⟨t,rfl⟩,⟨t',rfl⟩⟩:=vals2 r;refine min_two_ints (I.ok.hd hc) λh' tk k=>⟨_,H,I.kept k,?_,q⟩
 by_cases hj:j<i
 ·rw[acI hj,acI hj];exact⟨_,rfl⟩
 ·rw[acJ hj,acJ hj];exact⟨_,rfl⟩
end
structure ObjM (h:Heap) (x dx C:Addr) (mA:Str->Option Value):Prop where
 obj:h.get? x=some (aak C dx)
 ns:h.Ns1 dx mA
 ne:dx≠x
def BY{h:Heap}{dx:Addr}{mA:Str->Option Value}(n:h.Ns1 dx mA):∃od,h.get? dx=some od/\∀name,aaC name od=some (mA name):=by
 obtain⟨o,es,ep,ho,hd,hk,_,hm⟩:=n;refine⟨o,ho,λname=>?_⟩;have e:=hm name;unfold nsFind findBy at e;rw[<-Array.find?_toList] at e;unfold aaC;rw[hd]
 dsimp only
 split
 ·rename_i y q;rw[q] at e;exact acP some e
 ·rename_i q;rw[q] at e;have a:es.toList.any (·.refKey)=false:=by
   rw[List.any_eq_false];intro y hy;obtain⟨z,t,BA⟩:=hk y (Array.mem_toList_iff.mp hy);simp[DictEntry.refKey,BA]
  have a':¬es.toList.any (·.refKey)=true:=by rw[a];exact VM
  rw[acJ a'];exact acP some e
def ObjM.look{h:Heap}{x dx C:Addr}{mA:Str->Option Value}(I:ObjM h x dx C mA):∃od,PySem.W.InstAt h x (aak C dx) C (some od)/\∀name,aaC name od=some (mA name):=
 let ⟨od,ho,hl⟩:=BY I.ns
 ⟨od,⟨I.obj,rfl,rfl,ho⟩,hl⟩
def RelO.some_of{v:V}{o:Option Value}(r:RelO (some v) o):∃u,o=some u/\RelV v u:=by
 cases o with
 |none=>exact(show False from r).elim
 |some u=>exact⟨u,rfl,r⟩
section
variable{P:VG}{w:World}{H:Hp}{h:Heap}{a C dx:Addr}{fs:List (Str×V)}
def G6(hok:HOk P w H h)(e:H a=some (.ins C dx fs)):∃mA,ObjM h a dx C mA/\(∀f,RelO (fs.lookup f) (mA f))/\PySem.Within mA (fs.map (·.1))/\fs.length<=1000/\H dx=some (.own a):=by
 obtain⟨d,z,ne,ob,mA,n,r,q⟩:=(show ObjOk P w H h a (.ins C dx fs) from hok a _ e)
 exact⟨mA,⟨ob,n,ne⟩,r,q,z,d⟩
end
structure Cls (K:Vn) (C:Addr):Prop where
 pg:ab4 K C Str.empty=true
 hd:PySem.W.hasDictIn K C=true
 po:PySem.W.plainOver K C=true
 sa:Xu K (.ref C) "__setattr__"=some (some (.builtin "object.__setattr__"))
def Cls.get{K:Vn}{C:Addr}(c:Cls K C)(f:Str):ab4 K C f=true:=c.pg
section
variable{X:Cx}{f8:List (Addr×Obj)}{σ:St}{H:Hp}{s:Vf}{A:V2}{E:Value->Vf->Prop}{Q:Value->Vf->Prop}{c:Value}{b:Bool}
inductive TyOf (K:Vn) (H:Hp):V->Value->Prop where
 |non:TyOf K H .non (.type "NoneType")
 |bl (x:Bool):TyOf K H (.bl x) (.type "bool")
 |int (i:Int):TyOf K H (.int i) (.type "int")
 |str (x:Str):TyOf K H (.str x) (.type "str")
 |flt (x:UInt64):TyOf K H (.flt x) (.type "float")
 |lst {a:Addr}{xs:List V}(e:H a=some (.lst xs)):TyOf K H (.ref a) (.type "list")
 |frz {a:Addr}{o:Obj}{xs:List V}(e:H a=some (.frz o (.lst xs))):TyOf K H (.ref a) (.type "list")
 |tup {a:Addr}{xs:List V}(e:H a=some (.tup xs)):TyOf K H (.ref a) (.type "tuple")
 |dK {a:Addr}{aA:List (Key×V)}(e:H a=some (.dK aA)):TyOf K H (.ref a) (.type "dict")
 |dT {a:Addr}{aA:List (List Key×V)}(e:H a=some (.dT aA)):TyOf K H (.ref a) (.type "dict")
 |ins {a C dx:Addr}{fs:List (Str×V)}(e:H a=some (.ins C dx fs)) (cl:Cls K C) (ha:Xu K (.ref C) "__class__"=some (some (.builtin "object.__class__")))
   (hn:PySem.W.specialIn K (.builtin "object.__class__") "__get__"=some (some (.builtin "getset_descriptor.__get__"))) (RN:PySem.W.takesIn K (.builtin "object.__class__")=some true)
   (hm:Y3 K C (.type "object")=some true):TyOf K H (.ref a) (.ref C)
def BJ{x:V}{u t:Value}(I:Inv X f8 σ H s)(rx:RelV x u)(ty:TyOf X.K H x t)(e:VE X.K t c=some b)(h:∀tk,Q (.bool b) {s with toks:=tk}):
 wpAny (model X.prog X.w) A (call (.builtin "isinstance") [u,c]) Q E s:=by
 cases ty with
 |non=>cases (show u=Wi from rx);exact Wn PySem.W.kitx_none I.kIn WN e (λz=>nomatch z) h
 |bl y=>cases (show u=XB y from rx);exact Wn PySem.W.kitx_bool I.kIn WN e (λz=>nomatch z) h
 |int i=>obtain⟨t,q⟩:=(show∃t,u=abx i t from rx);cases q;exact Wn PySem.W.kitx_int I.kIn WN e (λz=>nomatch z) h
 |str y=>obtain⟨t,q⟩:=(show∃t,u=abw y t from rx);cases q;exact Wn PySem.W.kitx_str I.kIn WN e (λz=>nomatch z) h
 |flt y=>obtain⟨t,q⟩:=(show∃t,u=Value.float y t from rx);cases q;exact Wn PySem.W.kitx_float I.kIn WN e (λz=>nomatch z) h
 | @lst a xs ea=>
   cases (show u=VQ a from rx);obtain⟨_,_,n,_,h1⟩:=(show ObjOk X.prog X.w H s.heap a (.lst xs) from I.hok a _ ea)
   exact Wn abQ I.kIn ⟨_,h1,rfl⟩ e (λz=>nomatch z) h
 | @frz a ob xs ea=>
   cases (show u=VQ a from rx);obtain⟨_,_,_,n,_,h1⟩:=(show ObjOk X.prog X.w H s.heap a (.frz ob (.lst xs)) from I.hok a _ ea)
   exact Wn abQ I.kIn ⟨_,h1,rfl⟩ e (λz=>nomatch z) h
 | @tup a xs ea=>
   cases (show u=VQ a from rx);obtain⟨_,_,_,p⟩:=(show ObjOk X.prog X.w H s.heap a (.tup xs) from I.hok a _ ea)
   obtain⟨o,h1,h2,_⟩:=p;exact Wn PySem.W.kitx_tuple I.kIn ⟨o,h1,h2⟩ e (λz=>nomatch z) h
 | @dK a aA ea=>
   cases (show u=VQ a from rx);obtain⟨_,_,vs,_,p⟩:=(show ObjOk X.prog X.w H s.heap a (.dK aA) from I.hok a _ ea)
   obtain⟨o,es,ep,h1,h2,_⟩:=p;exact Wn abR I.kIn ⟨o,h1,h2.1⟩ e (λz=>nomatch z) h
 | @dT a aA ea=>
   cases (show u=VQ a from rx);obtain⟨_,_,xs,_,o,es,ep,h1,h2,_⟩:=(show ObjOk X.prog X.w H s.heap a (.dT aA) from I.hok a _ ea)
   exact Wn abR I.kIn ⟨o,h1,h2.1⟩ e (λz=>nomatch z) h
 | @ins a C dx fs ea cl ha hn RN hm=>
   cases (show u=VQ a from rx);obtain⟨mA,O,_⟩:=G6 I.hok ea;obtain⟨od,J,_⟩:=O.look;exact Wn (PySem.W.kitx_own (cl.get _) cl.hd ha hn RN hm) I.kIn J e (λz=>nomatch z) h
end
structure Room (k:Nat) (A:V2):Prop where
 hd:A.handled=none
 dp:A.depth+3*k+5<aae
 un:A.units+16*k+200<cLine
def Room.mono{j k:Nat}{A:V2}(r:Room k A)(h:j<=k):Room j A:=⟨r.hd,by have:=r.dp;omega,by have:=r.un;omega⟩
def Room.deeper{k:Nat}{A:V2}(r:Room (k+1) A)(env:Env):Room k (A.deeper env):=
 ⟨r.hd,by have:=r.dp;show A.depth+1+3*k+5<_;omega,by have:=r.un;show A.units+3+16*k+200<_;omega⟩
def Room.depth{k:Nat}{A:V2}(r:Room k A):A.depth<aae:=by have:=r.dp;omega
def Room.units{k:Nat}{A:V2}(r:Room k A):A.units+64<cLine:=by have:=r.un;omega
def LI:TA:=λ_ H Q=>Q [] H
def FR(ta:TE)(tr:TA):TA:=λσ H Q=>ta σ H λx H1=>tr σ H1 λxs H2=>Q (x::xs) H2
section
variable{X:Cx}{e:Expr}{es:List Expr}{te:TE}{t:TA}{pos:Pos}
def uO:PA X [] LI:=λ_ _ _ _ H Q I h=>Y8 ⟨[],H,I, .nil,h⟩
def uN(ha:PE X e te)(hr:PA X es t)(hs:Vs (e::es) X.env=(false,eval e X.env)::Vs es X.env:=by rfl):PA X (e::es) (FR te t):=by
 intro pos f8 s σ H Q I h;rw[hs];show wpAny _ _ (spliced ((false,eval e X.env)::W7 pos (Vs es X.env))) _ _ s;refine YR (bV (ha f8 s σ H _ I h) λu s1 ⟨x,H1,I1,r1,q1⟩=>?_);exact bV (hr pos f8 s1 σ H1 _ I1 q1) λus s2 ⟨xs,H2,I2,r2,q2⟩=>⟨x::xs,H2,I2, .cons r1 r2,q2⟩
def QV(t:TA):TE:=λσ H Q=>t σ H λxs H1=>xs.length<=VB/\∀p,H1 p=none->Q (.ref p) (upd H1 p (.tup xs))
def QR(t:TA):TE:=λσ H Q=>t σ H λxs H1=>xs.length<=VB/\∀p,H1 p=none->Q (.ref p) (upd H1 p (.lst xs))
def K9{x1}(h:PA X es t):PE X (.Tuple es x1 pos) (QV t):=by
 intro f8 s σ H Q I hq;refine wpAny_Tuple_spliced (bV (h pos f8 s σ H _ I hq) λus s1 ⟨xs,H1,I1,r,z,q⟩=>⟨by rw[<-r.length];exact z,?_⟩);have hf:H1 s1.heap.objs.size=none:=I1.hok.fresh (Vj _);refine⟨.ref s1.heap.objs.size,upd H1 s1.heap.objs.size (.tup xs),I1.laid (t':=s1.toks) (λb u e=>Vd _ e) (Vj _) ?_,rfl,q _ hf⟩;exact⟨z,us,r,⟨_,Vq _ rfl,rfl,_,rfl⟩⟩
def E_(h:PA X es t):PE X (.List es pos) (QR t):=by
 intro f8 s σ H Q I hq;refine wpAny_List_spliced (bV (h pos f8 s σ H _ I hq) λus s1 ⟨xs,H1,I1,r,z,q⟩=>⟨by rw[<-r.length];exact z,?_⟩);have hf:H1 s1.heap.objs.size=none:=I1.hok.fresh (Vj _);refine⟨.ref s1.heap.objs.size,upd H1 s1.heap.objs.size (.lst xs),I1.laid (t':=s1.toks) (λb u e=>Vd _ e) (Vj _) ?_,rfl,q _ hf⟩;exact⟨z,us,0,r,Vq _ rfl⟩
end
abbrev Sp:=List V->Hp->VK->XK->Prop
abbrev z3:=List Env->Hp->Vf->XK->Value->Vf->Prop
structure Env0 (P:VG) (w:World) (K:Vn) (mg:Str->Option Value) (base:Heap) (A:V2) (outer:List Env) (s:Vf) (H:Hp):Prop where
 frames:A.frames=some outer
 mod:Mod K mg base
 bs:∀b o,base.get? b=some o->s.heap.get? b=some o/\H b=none
 bsz:base.objs.size<=s.heap.objs.size
 funs:s.heap.FunFrames base outer
 frf:∀b∈gf outer,H b=none
 hok:HOk P w H s.heap
 bare:Z1 s.gens
def CE(outer:List Env)(P:VG)(w:World)(H:Hp)(s:Vf)(Q:VK)(u:Value)(s':Vf):Prop:=
 ∃v H',s'.os=s.os/\Z1 s'.gens/\Un (gf outer) [] H H' s.heap s'.heap/\HOk P w H' s'.heap/\RelV v u/\Q v H'
def CR(CX:z3)(outer:List Env)(P:VG)(w:World)(H:Hp)(s:Vf)(Q:VK)(E:XK)(r:ab3)(s':Vf):Prop:=
 match r with
 | .ok (.ret u)=>CE outer P w H s Q u s'
 | .ok _=>False
 | .error e=>CX outer H s E e s'
structure FnOk (P:VG) (w:World) (K:Vn) (mg:Str->Option Value) (base:Heap) (CX:z3) (k:Nat) (f:Addr) (fd:Xv) (ps:List Str) (sp:Sp):Prop where
 len:∀vs H Q E,sp vs H Q E->vs.length=ps.length
 run:∀(A:V2) (outer:List Env) (s:Vf) (H:Hp) (args:Args) (us:List Value) (vs:List V) (Q:VK) (E:XK),Room k A->Env0 P w K mg base A outer s H->abF s fd args (ps.zip us)->Vals vs us->sp vs H Q E->
  YF (model P w) A (.call (.ref f) args) (CR CX outer P w H s Q E) s
def FnOk.mono{P:VG}{w:World}{K:Vn}{mg:Str->Option Value}{base:Heap}{CX:z3}{j k:Nat}{f:Addr}{fd:Xv}{ps:List Str}{sp:Sp}(F:FnOk P w K mg base CX j f fd ps sp)(h:j<=k):
 FnOk P w K mg base CX k f fd ps sp:=⟨F.len,λA outer s H args us vs Q E hr=>F.run A outer s H args us vs Q E (hr.mono h)⟩
section
variable{X:Cx}{f8:List (Addr×Obj)}{σ:St}{H:Hp}{s s':Vf}
def Inv.env0(I:Inv X f8 σ H s):Env0 X.prog X.w X.K X.mg X.base X.A X.stack s H:=
 ⟨I.ok.frames,I.ok.mod,I.bs,VI I.ok.bsz I.sz,I.stack,I.stkFree,I.hok,I.bare⟩
def Inv.after{Q:VK}{u:Value}(I:Inv X f8 σ H s)(h:CE X.stack X.prog X.w H s Q u s'):EP X f8 σ Q u s':=by
 obtain⟨v,H',os,bare,un,hok,r,q⟩:=h;obtain⟨hh,g,d,t,Qz⟩:=s';obtain rfl:Qz=s.os:=os;exact⟨v,H',I.call (h':=hh) (g':=g) (d':=d) (t':=t) (ch:=[]) un hok bare (λb z=>acK z (by simp)),r,q⟩
end
def N5(sp:Sp)(IL:List V)(E:XK)(t:TA):TE:=λσ H Q=>t σ H λvs H1=>sp (vs++IL) H1 Q E
def Binds(K:Vn)(fd:Xv)(ps:List Str)(ds:List Value):Prop:=
 ∀(s:Vf) (us:List Value),K.In s.heap->(us++ds).length=ps.length->abF s fd ⟨us,[]⟩ (ps.zip (us++ds))
def Binds.all{K:Vn}{fd:Xv}{ps:List Str}(h:∀us:List Value,us.length=ps.length->bindArgs fd ⟨us,[]⟩=pure (ps.zip us)):Binds K fd ps []:=λs us _ hl=>by
 rw[V7] at hl⊢;exact .of_eq (h us hl)
def Passes(CX:z3)(X:Cx)(E:XK):Prop:=∀(f8:List (Addr×Obj)) (σ:St) (H:Hp) (s:Vf) (e:Value) (s':Vf),Inv X f8 σ H s->CX X.stack H s E e s'->X.xe e s'
section
variable{X:Cx}{CX:z3}{k:Nat}{f:Addr}{fd:Xv}{ps:List Str}{sp:Sp}{IL:List V}{ds:List Value}{E:XK}{x:Str}{p pos:Pos}{e:Expr}{es:List Expr}{t:TA}
def Lq{f8:List (Addr×Obj)}{σ:St}{H:Hp}{s:Vf}{Q:VK}{us:List Value}{vs:List V}(F:FnOk X.prog X.w X.K X.mg X.base CX k f fd ps sp)(hr:Room k X.A)(hb:Binds X.K fd ps ds)(hd:Vals IL ds)(hx:Passes CX X E)
 (I:Inv X f8 σ H s)(r:Vals vs us)(h:sp (vs++IL) H Q E):wpAny (model X.prog X.w) X.A (call (.ref f) us) (EP X f8 σ Q) X.xe s:=by
 have r2:Vals (vs++IL) (us++ds):=r.append hd;have hl:(us++ds).length=ps.length:=by rw[<-r2.length];exact F.len _ _ _ _ h
 refine wpAny_call (Zf (F.run X.A X.stack s H ⟨us,[]⟩ (us++ds) (vs++IL) Q E hr I.env0 (hb s us I.kIn hl) r2 h) λr s' hq=>?_);cases r with
 |error e=>exact hx f8 σ H s e s' I hq
 |ok fl=>
  cases fl with
  |ret u=>exact I.after hq
  |next=>exact WM hq
  |brk=>exact WM hq
  |cont=>exact WM hq
def HI(F:FnOk X.prog X.w X.K X.mg X.base CX k f fd ps sp)(hr:Room k X.A)(hg:Gl X x)(hm:X.mg x=some (.ref f))(hk:WY X.K (.ref f)=true)(hb:Binds X.K fd ps ds)(hd:Vals IL ds)(hx:Passes CX X E)
 (ha:PA X (e::es) t)(kE:(x==("__debug__":Str))=false:=by decide)(he:Vs (e::es) X.env=(false,eval e X.env)::Vs es X.env:=by rfl)(iz:(W7 pos (Vs es X.env)).any (·.1)=false:=by rfl):
 PE X (.Call (.Name x p) (e::es) [] pos) (N5 sp IL E t):=by
 intro f8 s σ H Q I h;refine XW (kI I hg hm ?_ kE);refine abK (h₀:=X.base) I.ok.mod.kin hk (bV (ha pos f8 s σ H _ I h) λus s1 ⟨vs,H1,I1,r,q⟩=>⟨I1.kIn,?_⟩) he iz;exact Lq F hr hb hd hx I1 r q
end
section
variable{ks:List Str}
end
structure FnScope (N P:List Str) (sc:Scope):Prop where
 kind:sc.kind= .function
 co:sc.isCoroutine=false
 gen:sc.isGenerator=false
 nd:N.Nodup
 pre:N.take P.length=P
 par:∀x∈P,sc.names.lookup x=some .local\/sc.names.lookup x=some .cell
 nofree:∀y∈sc.names,y.2≠ .free
def rz{ZK:Str->Option Zg}{x:Str}:∀{binds:List (Str×Value)}{m:Str->Option Value},(∀v,(x,v)∉binds)->bindL ZK binds m x=m x
 |[],_,_=>rfl
 |(n,v)::r,m,h=>by
  unfold bindL;rw[rz λw hw=>h w (Vc _ hw)];split
  ·have:x≠n:=by rintro rfl;exact h v Ve
   simp[this]
  ·rfl
def rp{ZK:Str->Option Zg}{x:Str}:∀{binds:List (Str×Value)}{m:Str->Option Value},(∀v,(x,v)∉binds)->bindC ZK binds m x=m x
 |[],_,_=>rfl
 |(n,v)::r,m,h=>by
  unfold bindC;rw[rp λw hw=>h w (Vc _ hw)];split
  ·rfl
  ·have:x≠n:=by rintro rfl;exact h v Ve
   simp[this]
def rq{ZK:Str->Option Zg}{x:Str}{v:Value}:∀{P:List Str}{vs:List Value}{i:Nat}{m:Str->Option Value},P.Nodup->P[i]? =some x->vs[i]? =some v->ZK x=some .local->
 bindL ZK (P.zip vs) m x=some v
 |[],_,_,_,_,h,_,_=>by simp at h
 |_::_,[],_,_,_,_,h,_=>by simp at h
 |p::P,w::vs,0,m,nd,h1,h2,hk=>by
  simp at h1 h2;subst h1;subst h2;show bindL ZK ((p,w)::P.zip vs) m p=_;unfold bindL;rw[rz λv hv=>(WG.mp nd).1 (Zy hv).1,acI hk];simp
 |p::P,w::vs,i+1,m,nd,h1,h2,hk=>by
  show bindL ZK ((p,w)::P.zip vs) m x=_;unfold bindL;exact rq (i:=i) (WG.mp nd).2 (by simpa using h1) (by simpa using h2) hk
def ro{ZK:Str->Option Zg}{x:Str}{v:Value}:∀{P:List Str}{vs:List Value}{i:Nat}{m:Str->Option Value},P.Nodup->P[i]? =some x->vs[i]? =some v->ZK x≠some .local->
 bindC ZK (P.zip vs) m x=some v
 |[],_,_,_,_,h,_,_=>by simp at h
 |_::_,[],_,_,_,_,h,_=>by simp at h
 |p::P,w::vs,0,m,nd,h1,h2,hk=>by
  simp at h1 h2;subst h1;subst h2;show bindC ZK ((p,w)::P.zip vs) m p=_;unfold bindC;rw[rp λv hv=>(WG.mp nd).1 (Zy hv).1,acJ hk];simp
 |p::P,w::vs,i+1,m,nd,h1,h2,hk=>by
  show bindC ZK ((p,w)::P.zip vs) m x=_;unfold bindC;exact ro (i:=i) (WG.mp nd).2 (by simpa using h1) (by simpa using h2) hk
def start(N:List Str)(vs:List V):St:=vs.map some++Vx (N.length - vs.length) none
def aZ(CX:z3)(P:VG)(w:World)(K:Vn)(mg:Str->Option Value)(base:Heap)(N:List Str)(qual:Str)(scope:Scope)(f:Addr)(cd:Value)(A:V2)(outer:List Env)(s:Vf)(H:Hp)(E:XK):Cx where
 prog:=P
 w:=w
 K:=K
 mg:=mg
 base:=base
 A:=A.deeper (XD qual scope s.heap.objs.size f cd)
 N:=N
 acT:=s
 acS:=H
 env:=XD qual scope s.heap.objs.size f cd
 outer:=outer
 stack:=XD qual scope s.heap.objs.size f cd::outer
 ex:=[]
 calm:=true
 fn:=λ_=>true
 pn:=[]
 xe:=λe s'=>wpAny (model P w) (A.deeper (XD qual scope s.heap.objs.size f cd)) (leaving (XD qual scope s.heap.objs.size f cd) e) (λ_ Lr=>CX outer H s E e Lr) (λe' Lr=>CX outer H s E e' Lr) s'
def vZ{sc:Scope}{n:Nat}{x:Str}(h:sc.names.lookup x=some .cell):∃c,(abv n sc.names []).lookup x=some c:=by
 have q:=Y_ sc.names n [] (.inl h);exact Wm.mp q
def rZ{CX:z3}{P:VG}{w:World}{K:Vn}{mg:Str->Option Value}{base:Heap}{N ps:List Str}{qual:Str}{scope:Scope}{f:Addr}{cd:Value}{A:V2}{outer:List Env}{s s1:Vf}{H:Hp}{E:XK}{us:List Value}{vs:List V}
 (S:FnScope N ps scope)(hd:A.handled=none)(e0:Env0 P w K mg base A outer s H)(hl:vs.length=ps.length)(r:Vals vs us)
 (x:InCallC s s.heap.objs.size (bindL (XD qual scope s.heap.objs.size f cd).kindOf (ps.zip us) λ_=>none) (abv (s.heap.objs.size+1) scope.names []) (bindC (XD qual scope s.heap.objs.size f cd).kindOf (ps.zip us) λ_=>none) s1):
 Inv (aZ CX P w K mg base N qual scope f cd A outer s H E) [] (start N vs) H s1:=by
 have iz:ps.length<=N.length:=by have:=acP aaK S.pre;rw[Xi] at this;omega
 obtain⟨h1,tk,rfl,hk⟩:=x.done;have Nv:∀b:Addr,b∉(aZ CX P w K mg base N qual scope f cd A outer s H E).ex:=λb z=>acK (show b∈([]:List Addr) from z) (by simp);refine⟨⟨e0.mod,S.kind,rfl,rfl,Vj _,λy z c h1 h2=>?_,λy hy=>?_,λy c _ h=>?_,λ_=>hd,abG e0.frames, .inr ⟨rfl,rfl⟩,λb z=>acK z (Nv b),e0.bs,e0.bsz,λb _ _=>Nv b,λb z=>acK z (Nv b),e0.funs,e0.frf⟩,
  rfl,e0.bare,Un.kept hk,⟨_,x.toInCall.ns,λi y v h1 h2 h3=>?_⟩,λy c h=>⟨_,x.cell y c h⟩,e0.hok.fresh (Vj _),λy c h=>?_,λp hp=>acK (show p∈([]:List (Addr×Obj)) from hp) (by simp),e0.hok.kept hk,?_⟩
 ·exact name_of_addr x.apart (W8 h1) (W8 h2)
 ·have hy:scope.names.lookup y=some .cell\/scope.names.lookup y=some .free:=hy;rcases hy with hy | hy
  ·exact vZ hy
  ·exact acK rfl (S.nofree _ (W8 hy))
 ·exact W4 (x.above y c (W8 h))
 ·have hi:i<vs.length:=by
   unfold start at h2;by_cases hi:i<vs.length
   ·exact hi
   ·rw[V9 (by simpa using hi)] at h2;rw[WH] at h2;split at h2<;>cases h2
  have ha:vs[i]? =some v:=by
   unfold start at h2;rw[VZ (by simpa using hi),Vz] at h2;cases e:vs[i]? with
   |none=>rw[e] at h2;cases h2
   |some a=>rw[e] at h2;cases h2;rfl
  obtain⟨u,hu,rv⟩:=r.get ha;have hp:ps[i]? =some y:=by
   rw[<-S.pre,List.getElem?_take_of_lt (by omega)];exact h1
  have R0:ps.Nodup:=by rw[<-S.pre];exact S.nd.sublist (List.take_sublist _ _)
  refine⟨u,rv,?_⟩;rcases S.par y (VY hp) with k | k
  ·exact .inl ⟨k,rq R0 hp hu k⟩
  ·obtain⟨c,e⟩:=vZ (n:=s.heap.objs.size+1) k;refine .inr ⟨.inl k,c,e,?_⟩;have q:=x.cell y c e;rw[ro R0 hp hu (by show scope.names.lookup y≠_;rw[k];decide)] at q;exact q
 ·exact e0.hok.fresh (W4 (x.above y c (W8 h)))
 ·unfold start;show _=N.length;rw[Vm,Vb,Zz];omega
def IQ{CX:z3}{P:VG}{w:World}{K:Vn}{mg:Str->Option Value}{base:Heap}{k:Nat}{f:Addr}{name qual:Str}{params:Arguments}{body:List Stmt}{scope:Scope}{dV kV doc pm cx ct oc:Value}{an od:Option Addr}
 {CM:Array (Option Value)}{N ps:List Str}{sp:Sp}(lk:K.lookup f=some ⟨oc,od, .func (WC name qual params body scope dV kV doc pm an cx ct),CM⟩)(rS:XZ K cx qual=true)(S:FnScope N ps scope)
 (len:∀vs H Q E,sp vs H Q E->vs.length=ps.length)
 (gx:∀(A:V2) (outer:List Env) (s:Vf) (H:Hp) (vs:List V) (Q:VK) (E:XK),Room k (A.deeper (XD qual scope s.heap.objs.size f cx))->sp vs H Q E->
  ∃t,PSs (aZ CX P w K mg base N qual scope f cx A outer s H E) body t/\t {nx:=λ_ H'=>Q .non H',rt:=Q} (start N vs) H):
 FnOk P w K mg base CX (k+1) f (WC name qual params body scope dV kV doc pm an cx ct) ps sp:=by
 refine⟨len,λA outer s H args us vs Q E hr e0 hb r vN=>?_⟩;have hl:=len _ _ _ _ vN;have KX:K.In s.heap:=e0.mod.kin.keeps λb o e=>(e0.bs b o e).1;have lim:s.heap.NoLimit:=e0.mod.nolimit.keeps λb o e=>(e0.bs b o e).1;have DR:∀y∈ps.zip us,scope.names.lookup y.1=some .local\/(scope.names.lookup y.1=some .cell/\((abv (s.heap.objs.size+1) scope.names []).lookup y.1).isSome=true):=λ⟨n,v⟩ hy=>by
  rcases S.par n (Zy hy).1 with q | q
  ·exact .inl q
  ·exact .inr ⟨q,Y_ _ _ _ (.inl q)⟩
 refine codeAny_call_function hr.depth (KX _ _ lk) rfl S.co S.gen rfl (abJ KX rS) (hb _ _ _ _ ?_);refine abH S.kind DR λenv he s1 x=>?_;subst he;refine⟨lim.keeps x.toInCall.keep,codeAny_func ?_⟩;obtain⟨t,ht,hq⟩:=gx A outer s H vs Q E (hr.deeper _) vN;have I:Inv (aZ CX P w K mg base N qual scope f cx A outer s H E) [] (start N vs) H s1:=rZ S hr.hd e0 hl r x;refine Wl (ht [] s1 (start N vs) H _ I hq) (λfl s' hs=>?_) λe s' hs=>hs;have fin:∀{σ':St}{H':Hp}{v:V}{u:Value},Inv (aZ CX P w K mg base N qual scope f cx A outer s H E) [] σ' H' s'->RelV v u->Q v H'->CE outer P w H s Q u s':=
  λ{σ' H' v u} J rv q=>⟨v,H',J.os,J.bare,J.base,J.hok,rv,q⟩
 cases fl with
 |ret u=>
  obtain⟨v,σ',H',J,rv,q⟩:=hs;exact fin J rv q
 |next=>
  obtain⟨σ',H',J,q⟩:=hs;exact fin (v:=V.non) (u:=Wi) J rfl q
 |brk=>
  obtain⟨_,_,_,q⟩:=hs;exact WM q
 |cont=>
  obtain⟨_,_,_,q⟩:=hs;exact WM q
section
variable{X:Cx}{x:Str}{p pos:Pos}{e:Expr}{es:List Expr}{t:TA}{id T:String}{r:List V->Hp->VK->Prop}
def QN(r:List V->Hp->VK->Prop)(t:TA):TE:=λσ H Q=>t σ H λvs H1=>r vs H1 Q
def E6(hc:CallR X (.builtin id) r)(hg:Gl X x)(hm:X.mg x=none)(hv:V4 x=some (.builtin id))(ha:PA X (e::es) t)(hn:x≠"__name__":=by decide)(kE:(x==("__debug__":Str))=false:=by decide)
 (he:Vs (e::es) X.env=(false,eval e X.env)::Vs es X.env:=by rfl)(iz:(W7 pos (Vs es X.env)).any (·.1)=false:=by rfl):PE X (.Call (.Name x p) (e::es) [] pos) (QN r t):=by
 intro f8 s σ H Q I h;refine XW (iJ I hg hm hv ?_ hn kE);exact ZE (bV (ha pos f8 s σ H _ I h) λus s1 ⟨vs,H1,I1,r1,q1⟩=>hc f8 s1 σ H1 vs us Q I1 r1 q1) he iz
def sO(hc:CallR X (.type T) r)(hg:Gl X x)(hm:X.mg x=none)(hv:V4 x=some (.type T))(ha:PA X (e::es) t)(hn:x≠"__name__":=by decide)(kE:(x==("__debug__":Str))=false:=by decide)
 (he:Vs (e::es) X.env=(false,eval e X.env)::Vs es X.env:=by rfl)(iz:(W7 pos (Vs es X.env)).any (·.1)=false:=by rfl):PE X (.Call (.Name x p) (e::es) [] pos) (QN r t):=by
 intro f8 s σ H Q I h;refine XW (iJ I hg hm hv ?_ hn kE);exact WV (bV (ha pos f8 s σ H _ I h) λus s1 ⟨vs,H1,I1,r1,q1⟩=>hc f8 s1 σ H1 vs us Q I1 r1 q1) he iz
end
end L2
namespace HT
open PySem PyProof.Rows
def lexLt:List Int->List Int->Bool
 |[],[]=>false
 |[],_::_=>true
 |_::_,[]=>false
 |x::xs,y::ys=>if x=y then lexLt xs ys else decide (x<y)
def lexLt_cons(x y:Int)(xs ys:List Int):lexLt (x::xs) (y::ys)=if x=y then lexLt xs ys else decide (x<y):=rfl
def lexLt_nil_nil:lexLt [] []=false:=rfl
def lexLt_nil_cons(y:Int)(ys:List Int):lexLt [] (y::ys)=true:=rfl
def lexLt_cons_nil(x:Int)(xs:List Int):lexLt (x::xs) []=false:=rfl
def eqAt_int(A:V2)(s:Vf)(a:Int)(t:Tok)(c:Int)(u:Tok):∃e,acm A s (.int a t) (.int c u) e/\(e=true↔a=c):=
 ⟨(a==c),abc a t c u,by simp⟩
def rcLt_int(A:V2)(s:Vf)(a:Int)(t:Tok)(c:Int)(u:Tok)(prog:VG)(w:World)(E:Value->Vf->Prop)(Q:Value->Vf->Prop)(h:Q (.bool (decide (a<c))) s):
 wpAny (model prog w) A (abu .Lt (.int a t) (.int c u)) Q E s:=
 (aaJ h:wpAny (model prog w) A (Ww .Lt (.int a t) (.int c u)) Q E s)
section
open PySem.SeqAt
open PySem.AutoSeq1 (wpAny_loadPart')
open PySem.MeetsSeq PySem.MeetsSeq2 PySem.MeetsSeq3
def tuple_lt_ints(l b:Addr)(items gi:Array Value)(n n2:Nat)(dd yq:Option Addr)(sl Ju:Array (Option Value))(ns ms:List Int)(hi:Xz items.toList ns)(hj:Xz gi.toList ms):
 Meets (X3.«tuple.__lt__» ⟨[.ref l, .ref b],[]⟩)
  (λ_ R s=>s.heap.get? l=some {cls:= .type "tuple",dict:=dd,data:= .seq items n,slots:=sl}/\s.heap.get? b=some {cls:= .type "tuple",dict:=yq,data:= .seq gi n2,slots:=Ju}/\
   R (.ok (.ret (.bool (lexLt ns ms)))) s):=
 .of_wp λprog w A R s h=>by
  obtain⟨hp,g,d,tk,os⟩:=s;obtain⟨hl,hb,h⟩:=h;have f2:=AutoSeq1.sub_tuple_tuple;have z1:items.size=ns.length:=by rw[<-hi.length];simp
  have z2:gi.size=ms.length:=by rw[<-hj.length];simp
  wp_walk using wpAny_loadPart' hl,wpAny_loadPart' hb,Yi _ (λP3 b s'=>b.1=none/\s'=⟨hp,g,d,tk,os⟩/\∃(vs ws:List Value) (L6 L4:List Int),P3=vs.zip ws/\
   Xz vs L6/\Xz ws L4/\L6.length+gi.size=L4.length+items.size/\R (.ok (.ret (.bool (lexLt L6 L4)))) ⟨hp,g,d,tk,os⟩) _
  case turn=>
   rintro⟨y,x⟩ P3 b s' ⟨ub,rfl,vs,ws,L6,L4,hz,Qa,OH,M2,hR⟩;cases Qa with
   |nil=>rw[List.zip_nil_left] at hz;cases hz
   |cons a t Qb=>
    cases OH with
    |nil=>rw[List.zip_nil_right] at hz;cases hz
    |cons c u Qc=>
     rw[WD] at hz;injection hz with Uh M7
     injection Uh with hy hx
     subst hy hx;rw[lexLt_cons] at hR;simp only[Vk] at M2;obtain⟨e,he,MQ⟩:=eqAt_int A.in1 ⟨hp,g,d,tk,os⟩ a t c u;refine U_ (he prog w _ _ ?_);cases e with
     |true=>
      rw[acI (MQ.mp rfl)] at hR
      wp_walk
      exact⟨rfl,rfl,_,_,_,_,M7,Qb,Qc,by omega,hR⟩
     |false=>
      rw[acJ (λq=>acK (MQ.mpr q) VM)] at hR;have TZ:=rcLt_int A.in1 ⟨hp,g,d,tk,os⟩ a t c u prog w
      wp_walk using TZ
      exact⟨_,rfl,by simpa using hR⟩
  case fin=>
   rintro⟨b1,b2⟩ s' ⟨ub,rfl,vs,ws,L6,L4,hz,Qa,OH,M2,hR⟩;simp only at ub;subst ub;have hv:lexLt L6 L4=decide (items.size<gi.size):=by
    cases Qa with
    |nil=>
     cases OH with
     |nil=>
      simp only[V6] at M2;rw[lexLt_nil_nil];exact(acN (by omega)).symm
     |cons c u hw=>
      simp only[V6,Vk] at M2;rw[lexLt_nil_cons];exact(acL (by omega)).symm
    |cons a t hv=>
     cases OH with
     |nil=>
      simp only[V6,Vk] at M2;rw[lexLt_cons_nil];exact(acN (by omega)).symm
     |cons c u hw=>
      rw[WD] at hz;cases hz
   rw[hv] at hR
   wp_walk
   exact⟨_,rfl,by simpa[Builtin.Tuple.tupleCompareSizes] using hR⟩
  case h=>
   exact⟨rfl,rfl,items.toList,gi.toList,ns,ms,rfl,hi,hj,by omega,h⟩
end
section
variable{prog:VG}{w:World}{A:V2}{E:Value->Vf->Prop}{s:Vf}
def lt_tupInts{l b:Addr}{items gi:Array Value}{ns ms:List Int}{Q:Value->Vf->Prop}(hl:IsTup s.heap l items)(hb:IsTup s.heap b gi)(hi:Xz items.toList ns)(hj:Xz gi.toList ms)
 (hu:A.units<cLine)(h:Q (.bool (lexLt ns ms)) s):wpAny (model prog w) A (Ww .Lt (.ref l) (.ref b)) Q E s:=by
 obtain⟨⟨cls,dd,data,sl⟩,ho,hc,n,hd⟩:=id hl;obtain⟨⟨cls2,yq,data2,Ju⟩,Gm,DK,n2,hd2⟩:=id hb;simp only at hc hd DK hd2;subst hc hd DK hd2;exact richCompare_meets_room (op:= .Lt) ⟨_,ho,rfl⟩ ⟨_,Gm,rfl⟩ PySem.F.slot_tuple_lt PySem.F.entry_tuple_lt (PySem.F.args_tuple_lt_2 _ _) (tuple_lt_ints l b items gi n n2 dd yq sl Ju ns ms hi hj)
  ⟨ho,Gm,show XB (lexLt ns ms)≠Value.notImplemented/\Q (.bool (lexLt ns ms)) s from⟨(λx=>nomatch x),h⟩⟩ hu
def cat_tup{t b:Addr}{vs ws:List Value}{Q:Value->Vf->Prop}(ht:IsTup s.heap t vs.toArray)(hb:IsTup s.heap b ws.toArray)(hv:vs≠[])
 (h1:ws=[]->Q (.ref t) s)(h2:ws≠[]->Q (.ref s.heap.objs.size) {s with heap:=s.heap.push {cls:= .type "tuple",data:= .seq (vs++ws).toArray} })
 (hsz:vs.length+ws.length<=VB):wpAny (model prog w) A (Yz .Add (.ref t) (.ref b)) Q E s:=by
 obtain⟨⟨cls,dd,data,sl⟩,ho,hc,n,hd⟩:=id ht;obtain⟨⟨cls2,yq,data2,Ju⟩,Gm,DK,n2,hd2⟩:=id hb;simp only at hc hd DK hd2;subst hc hd DK hd2;have e:vs.toArray++ws.toArray=(vs++ws).toArray:=by simp
 by_cases hw:ws=[]
 ·exact concat_meets ⟨_,ho,rfl⟩ ⟨_,Gm,rfl⟩ aa8 ach Za Y6 (YS _ _)
   (tuple_addW1 t b vs.toArray ws.toArray n n2 dd yq sl Ju (by simpa using hv) (by simp[hw])) ⟨ho,Gm,h1 hw⟩
 ·refine concat_meets ⟨_,ho,rfl⟩ ⟨_,Gm,rfl⟩ aa8 ach Za Y6 (YS _ _)
   (tuple_addW2 t b vs.toArray ws.toArray n n2 dd yq sl Ju (by simpa using hv) (by simpa using hw) (by rw[Vl,Vl];exact hsz)) ⟨ho,Gm,?_⟩
  rw[e];exact h2 hw
def sIx(n d:Nat):Option Int->Nat
 |none=>d
 |some v=>if v<0 then(v+(n:Int)).toNat else min v.toNat n
def sIx_le(n d:Nat)(hd:d<=n)(o:Option Int):sIx n d o<=n:=by
 cases o with
 |none=>exact hd
 |some v=>
  show (if v<0 then(v+(n:Int)).toNat else min v.toNat n)<=n;by_cases hv:v<0
  ·rw[acI hv];omega
  ·rw[acJ hv];exact Nat.min_le_right _ _
def clip_eq(v:Int)(n d:Nat):(if v<0 then max (v+(n:Int)) 0 else min v (n:Int))=((sIx n d (some v):Nat):Int):=by
 show (if v<0 then max (v+(n:Int)) 0 else min v (n:Int))=(((if v<0 then(v+(n:Int)).toNat else min v.toNat n):Nat):Int)
 by_cases hv:v<0
 ·simp only[acI hv];omega
 ·simp only[acJ hv];omega
def adjust_gen(lo hi:Option Int)(n:Nat):YD lo hi 1 (n:Int)=(((sIx n 0 lo:Nat):Int),((sIx n n hi:Nat):Int)):=by
 have h1:¬((1:Int)<0):=by omega
 unfold YD;simp only[h1,if_false];refine aaD ?_ ?_
 ·cases lo with
  |none=>rfl
  |some v=>exact clip_eq v n 0
 ·cases hi with
  |none=>rfl
  |some v=>exact clip_eq v n n
def places_gen(i j:Nat):XH (i:Int) (j:Int) 1=j - i:=by
 unfold XH;have h1:(1:Int)>0:=by omega
 simp only[h1,if_true,Int.ediv_one];split<;>omega
def slicePart_{v:Value}{o:Option Int}{Q:Option Int->Vf->Prop}(p:aa3 v o)(h:Q o s):wpAny (model prog w) A (Builtin.Slice.slicePartIndex v) Q E s:=by
 cases p with
 |none=>exact slicePart_none h
 |int i t=>exact slicePart_int h
def sliceApplied_gen{sl:Addr}{vl vu:Value}{lo hi:Option Int}{n:Nat}{Q:Int×Int×Nat->Vf->Prop}(hs:s.heap.IsSliceOf sl vl vu .none)(pl:aa3 vl lo)(pu:aa3 vu hi)
 (h:Q (((sIx n 0 lo:Nat):Int),1,sIx n n hi - sIx n 0 lo) s):wpAny (model prog w) A (ZO (.ref sl) (pure (n:Int))) Q E s:=by
 obtain⟨os,BD,J1,I_⟩:=id hs;unfold ZO Builtin.Slice.sliceFields;refine U_ (U_ (wpAny_field BD I_ (x:=vl) rfl (U_ (wpAny_field BD I_ (x:=vu) rfl (U_ (wpAny_field BD I_ (x:= .none) rfl (Va ?_)))))));refine U_ (slicePart_none ?_);show wpAny _ _ (if ((1:Int)==0)=true then _ else _) _ _ s;rw[acJ (by decide)];refine U_ (slicePart_ pl (U_ (slicePart_ pu (U_ (Va ?_)))));show wpAny _ _ (match YD lo hi 1 (n:Int) with | (lo,hi)=>pure (lo,(1:Int),XH lo hi 1)) _ _ s;rw[adjust_gen lo hi n];show wpAny _ _ (pure (((sIx n 0 lo:Nat):Int),(1:Int),XH ((sIx n 0 lo:Nat):Int) ((sIx n n hi:Nat):Int) 1)) _ _ s;rw[places_gen];exact Va h
def pick_gen(xs:Array Value)(i k:Nat):((Vw k).filterMap λ(m:Nat)=>xs[((i:Int)+(m:Int)*1).toNat]?).toArray=((xs.toList.drop i).take k).toArray:=by
 have e:(λ(m:Nat)=>xs[((i:Int)+(m:Int)*1).toNat]?)=λm=>xs[i+m]? :=by
  funext m;have:((i:Int)+(m:Int)*1).toNat=i+m:=by omega
  rw[this]
 rw[e];have:=pick_run xs i k;rw[List.filterMap_map] at this;have e2:((λx=>xs[x]?)∘λx=>i+x)=λm=>xs[i+m]? :=rfl;rw[e2] at this;rw[this]
def getItem_tuple_cut{t sl:Addr}{items:Array Value}{vl vu:Value}{lo hi:Option Int}{Q:Value->Vf->Prop}(ht:IsTup s.heap t items)(hs:s.heap.IsSliceOf sl vl vu .none)(pl:aa3 vl lo)(pu:aa3 vu hi)
 (hw:¬(sIx items.size 0 lo=0/\sIx items.size items.size hi=items.size))
 (h:Q (.ref s.heap.objs.size) {s with heap:=s.heap.push {cls:= .type "tuple",data:= .seq ((items.toList.drop (sIx items.size 0 lo)).take (sIx items.size items.size hi - sIx items.size 0 lo)).toArray} })
 (hsz:items.size<=VB):wpAny (model prog w) A (ZT (.ref t) (.ref sl)) Q E s:=by
 have As:sizeOk (.seq ((items.toList.drop (sIx items.size 0 lo)).take (sIx items.size items.size hi - sIx items.size 0 lo)).toArray):=by
  show ((items.toList.drop (sIx items.size 0 lo)).take (sIx items.size items.size hi - sIx items.size 0 lo)).toArray.size<=VB;rw[Vl,Xi,aau,Vh];omega
 have hj:sIx items.size items.size hi<=items.size:=sIx_le _ _ (Vj _) hi;obtain⟨os,BD,J1,I_⟩:=id hs;have Pd:s.TypeIs (.ref sl) "slice":=⟨os,BD,J1⟩
 unfold ZT
 try with_reducible refine Wf ?_
 first | refine U_ (Va ?_) | skip
 refine U_ (wpAny_sequenceKey ht.typeIs (by decide) ?_);refine U_ (Xa (name:=V0 "__getitem__") ht.typeIs Xd
  (Wx Xd ht.typeIs entry_tuple_getitem ?_ (args_tuple_getitem _ _)))
 show wpAny _ _ (ZN (.ref t)>>=_) _ _ s;refine U_ (tupleItemsOf_ ht ?_);refine U_ (Yr Pd ?_);rw[acI (by decide)];refine U_ (sliceApplied_gen hs pl pu ?_);have oP:¬((((sIx items.size 0 lo:Nat):Int)==0&&(1:Int)==1&&(sIx items.size items.size hi - sIx items.size 0 lo)==items.size)=true):=by
  intro q;rw[VA,VA] at q;have q1:((sIx items.size 0 lo:Nat):Int)=0:=Zs q.1.1;have q2:sIx items.size items.size hi - sIx items.size 0 lo=items.size:=Zs q.2;exact hw ⟨by omega,by omega⟩
 show wpAny _ _ (if (((sIx items.size 0 lo:Nat):Int)==0&&(1:Int)==1&&(sIx items.size items.size hi - sIx items.size 0 lo)==items.size)=true then _ else _) _ _ s;rw[acJ oP,pick_gen]
 first
  |exact U_ (m:=XR _) (Wg (Va ⟨_,rfl,Va h⟩) As)
  |exact U_ (m:=XR _) (Wg (U_ (Va (Va ⟨_,rfl,Va h⟩))) As)
  |exact U_ (U_ (m:=XR _) (Wg (Va (Va ⟨_,rfl,Va h⟩)) As))
  |exact U_ (U_ (m:=XR _) (Wg (Va ⟨_,rfl,Va h⟩) As))
end
end HT
namespace L2
open PySem PySem.Spec PyProof.Rows
abbrev TO:=St->Hp->(Option Int->Hp->Prop)->Prop
def PO(X:Cx)(e:Option Expr)(t:TO):Prop:=
 ∀(f8:List (Addr×Obj)) (s:Vf) (σ:St) (H:Hp) (Q:Option Int->Hp->Prop),Inv X f8 σ H s->t σ H Q->
  wpAny (model X.prog X.w) X.A (evalPart e X.env) (λu s'=>∃o H',Inv X f8 σ H' s'/\aa3 u o/\Q o H') X.xe s
def Iy:TO:=λ_ H Q=>Q none H
def Oa(t:TE):TO:=λσ H Q=>t σ H λx H1=>∃i,x= .int i/\Q (some i) H1
def intsAre_of{ns:List Int}:∀{us:List Value},Vals (ns.map V.int) us->Xz us ns:=by
 induction ns with
 |nil=>intro us r;rw[W3] at r;cases r;exact .nil
 |cons n ns ih=>
  intro us r;rw[Vi] at r;cases r with
  |cons r1 r2=>
   obtain⟨t,e⟩:=r1;subst e;exact .cons n t (ih r2)
section
variable{X:Cx}{e:Expr}{te:TE}{lo hi:Option Expr}{tl th:TO}{pos p2:Pos}
def HP:PO X none Iy:=by
 intro f8 s σ H Q I h;rw[evalPart_none];exact Va ⟨none,H,I, .none,h⟩
def HQ(h:PE X e te):PO X (some e) (Oa te):=by
 intro f8 s σ H Q I hw;rw[evalPart_some];refine bV (h f8 s σ H _ I hw) λu s1 ⟨x,H1,I1,r1,q1⟩=>?_;obtain⟨i,rfl,q⟩:=q1;obtain⟨t,rfl⟩:=r1;exact⟨some i,H1,I1, .int i t,q⟩
def SlR(X:Cx)(r:V->Option Int->Option Int->Hp->VK->Prop):Prop:=
 ∀(f8:List (Addr×Obj)) (s:Vf) (σ:St) (H:Hp) (x:V) (v vl vu:Value) (lo hi:Option Int) (sl:Addr) (Q:VK),Inv X f8 σ H s->RelV x v->s.heap.IsSliceOf sl vl vu .none->aa3 vl lo->aa3 vu hi->r x lo hi H Q->
  ∃T id,Z2 (.type T) "__getitem__"=pure (some (.builtin id))/\s.TypeIs v T/\wpAny (model X.prog X.w) X.A (ZT v (.ref sl)) (EP X f8 σ Q) X.xe s
def SlR.or{r r':V->Option Int->Option Int->Hp->VK->Prop}(h:SlR X r)(h':SlR X r'):SlR X (λx lo hi H Q=>r x lo hi H Q\/r' x lo hi H Q):=by
 intro f8 s σ H x v vl vu lo hi sl Q I rx hs pl pu q;rcases q with q | q
 ·exact h f8 s σ H x v vl vu lo hi sl Q I rx hs pl pu q
 ·exact h' f8 s σ H x v vl vu lo hi sl Q I rx hs pl pu q
def UE(r:V->Option Int->Option Int->Hp->VK->Prop)(te:TE)(tl th:TO):TE:=λσ H Q=>te σ H λx H1=>tl σ H1 λl H2=>th σ H2 λu H3=>r x l u H3 Q
def Fb{r:V->Option Int->Option Int->Hp->VK->Prop}(hr:SlR X r)(he:PE X e te)(hl:PO X lo tl)(hu:PO X hi th):PE X (.Subscript e (.Slice lo hi none p2) pos) (UE r te tl th):=by
 intro f8 s σ H Q I h;refine Subscript_ (bV (he f8 s σ H _ I h) λv s1 ⟨x,H1,I1,r1,q1⟩=>?_);refine wpAny_Slice (bV (hl f8 s1 σ H1 _ I1 q1) λvl s2 ⟨l,H2,I2,pl,q2⟩=>bV (hu f8 s2 σ H2 _ I2 q2) λvu s3 ⟨u,H3,I3,pu,q3⟩=>?_);rw[evalPart_none];refine Va ?_;have I4:Inv X f8 σ H3 {s3 with heap:=s3.heap.push {cls:= .type "slice",data:= .fields #[vl,vu, .none]} }:=I3.kept (t':=s3.toks) λb ob q=>Vd _ q;obtain⟨T,id,hT,ht,hg⟩:=hr f8 {s3 with heap:=s3.heap.push {cls:= .type "slice",data:= .fields #[vl,vu, .none]} } σ H3 x v vl vu l u s3.heap.objs.size Q I4 r1 (Heap.IsSliceOf.new ..) pl pu q3;show wpAny (model X.prog X.w) X.A (acf e (.Slice lo hi none p2) v (.ref s3.heap.objs.size)) (EP X f8 σ Q) X.xe {s3 with heap:=s3.heap.push {cls:= .type "slice",data:= .fields #[vl,vu, .none]} };exact tail_any (ops:=[.ref s3.heap.objs.size,v]) ht hT hg (by with_unfolding_all rfl)
def wc(xs:List V)(lo hi:Option Int):List V:=(xs.drop (HT.sIx xs.length 0 lo)).take (HT.sIx xs.length xs.length hi - HT.sIx xs.length 0 lo)
def mz(xs:List V)(lo hi:Option Int):(wc xs lo hi).length<=xs.length:=by
 unfold wc;rw[Xi,aau];omega
def QJ(K:Vn):V->Option Int->Option Int->Hp->VK->Prop:=λx lo hi H Q=>∃a xs,x= .ref a/\SqT K H a xs/\
 ¬(HT.sIx xs.length 0 lo=0/\HT.sIx xs.length xs.length hi=xs.length)/\∀p,H p=none->Q (.ref p) (upd H p (.tup (wc xs lo hi)))
def Lz:SlR X (QJ X.K):=by
 intro f8 s σ H x v vl vu lo hi sl Q I rx hs pl pu h;obtain⟨a,xs,rfl,hx,hw,q⟩:=h;cases rx;obtain⟨aB,r,ht,hz⟩:=I.tuple hx;have M2:aB.toArray.size=xs.length:=by rw[Vl];exact r.length.symm
 refine⟨"tuple",_,PyProof.Rows.slot_tuple_getitem.lookup,ht.typeIs,?_⟩;refine HT.getItem_tuple_cut ht hs pl pu (by rw[M2];exact hw) ?_ (by rw[M2];exact hz);rw[M2];refine⟨.ref s.heap.objs.size,_,I.laid (t':=s.toks) (o:= .tup (wc xs lo hi)) (λb ob q=>Vd _ q) (Vj _) ?_,rfl,q _ (I.hok.fresh (Vj _))⟩;exact⟨VI (mz xs lo hi) hz,_,(r.drop (HT.sIx xs.length 0 lo)).take (HT.sIx xs.length xs.length hi - HT.sIx xs.length 0 lo),IsTup.new _ _⟩
def NW(K:Vn):R2:=λx y H Q=>∃a b ns ms,x= .ref a/\y= .ref b/\SqT K H a (ns.map V.int)/\SqT K H b (ms.map V.int)/\Q (.bl (HT.lexLt ns ms)) H
def KH(hu:X.A.units<cLine):OpR X (Ww .Lt) (NW X.K):=by
 intro f8 s σ H x y v u Q I rx ry h;obtain⟨a,b,ns,ms,rfl,rfl,ha,hb,q⟩:=h;cases rx;cases ry;obtain⟨aB,r1,p1,_⟩:=I.tuple ha;obtain⟨eB,r2,p2,_⟩:=I.tuple hb;have i1:Xz aB.toArray.toList ns:=intsAre_of r1;have i2:Xz eB.toArray.toList ms:=intsAre_of r2;exact HT.lt_tupInts p1 p2 i1 i2 hu ⟨.bl (HT.lexLt ns ms),H,I,rfl,q⟩
def NO(K:Vn):R2:=λx y H Q=>∃a b xs ys,x= .ref a/\y= .ref b/\SqT K H a xs/\SqT K H b ys/\xs≠[]/\xs.length+ys.length<=VB/\
 (ys=[]->Q (.ref a) H)/\(ys≠[]->∀p,H p=none->Q (.ref p) (upd H p (.tup (xs++ys))))
def Vals.nil_iff{xs:List V}{us:List Value}(r:Vals xs us):us=[]↔xs=[]:=by
 cases r with
 |nil=>simp
 |cons _ _=>simp
def Hr:OpR X (Yz .Add) (NO X.K):=by
 intro f8 s σ H x y v u Q I rx ry h;obtain⟨a,b,xs,ys,rfl,rfl,ha,hb,hx,hz,q1,q2⟩:=h;cases rx;cases ry;obtain⟨aB,r1,p1,_⟩:=I.tuple ha;obtain⟨eB,r2,p2,_⟩:=I.tuple hb;refine HT.cat_tup p1 p2 (λz=>hx (r1.nil_iff.mp z)) (λz=>⟨.ref a,H,I,rfl,q1 (r2.nil_iff.mp z)⟩) (λz=>?_) (by rw[<-r1.length,<-r2.length];exact hz);refine⟨.ref s.heap.objs.size,_,I.laid (t':=s.toks) (o:= .tup (xs++ys)) (λb ob q=>Vd _ q) (Vj _) ?_,rfl,q2 (λw=>z (r2.nil_iff.mpr w)) _ (I.hok.fresh (Vj _))⟩;exact⟨by rw[Vm];exact hz,_,r1.append r2,IsTup.new _ _⟩
end
def Ko(n:Nat)(i:Int):Option Nat:=if 0<=i then(if i<n then some i.toNat else none) else if -(n:Int)<=i then some (i+n).toNat else none
def atI{α:Type}(xs:List α)(i:Int):Option α:=(Ko xs.length i).bind λj=>xs[j]?
def G9{n:Nat}{i:Int}{j:Nat}(h:Ko n i=some j):seqIndex? i n=some j/\j<n/\ -(n:Int)<=i/\i<n:=by
 unfold Ko at h;by_cases h0:0<=i
 ·rw[acI h0] at h;by_cases h1:i<n
  ·rw[acI h1] at h;have e:i.toNat=j:=VO h;exact⟨by rw[seqIndex_of h0 h1,e],by omega,by omega,h1⟩
  ·rw[acJ h1] at h;cases h
 ·rw[acJ h0] at h;by_cases h1: -(n:Int)<=i
  ·rw[acI h1] at h;have e:(i+n).toNat=j:=VO h;exact⟨by rw[seqIndex_neg (by omega) h1,e],by omega,h1,by omega⟩
  ·rw[acJ h1] at h;cases h
def tK{α:Type}{xs:List α}{i:Int}{v:α}(h:atI xs i=some v):∃j,seqIndex? i xs.length=some j/\xs[j]? =some v/\j<xs.length/\ -(xs.length:Int)<=i/\i<xs.length:=by
 unfold atI at h;cases e:Ko xs.length i with
 |none=>rw[e] at h;cases h
 |some j=>
  rw[e] at h;obtain⟨h1,h2,h3,h4⟩:=G9 e;exact⟨j,h1,h,h2,h3,h4⟩
def jf(b:Expr):Prop:=∀o i,subscripted b false o i=operate [o,i] (ZT o i)
def Mc(X:Cx)(r:R2):Prop:=
 ∀(value slice:Expr) (f8:List (Addr×Obj)) (s:Vf) (σ:St) (H:Hp) (x y:V) (v u:Value) (Q:VK),Inv X f8 σ H s->RelV x v->RelV y u->r x y H Q->
  subscripted slice false v u=operate [v,u] (ZT v u)->wpAny (model X.prog X.w) X.A (acf value slice v u) (EP X f8 σ Q) X.xe s
def Gb(X:Cx)(id:String)(r:V->List V->Hp->VK->Prop):Prop:=
 ∀(f8:List (Addr×Obj)) (s:Vf) (σ:St) (H:Hp) (x:V) (xs:List V) (v:Value) (us:List Value) (Q:VK),Inv X f8 σ H s->RelV x v->Vals xs us->r x xs H Q->
  wpAny (model X.prog X.w) X.A (call (.builtin id) (v::us)) (EP X f8 σ Q) X.xe s
section
variable{X:Cx}{a b:Expr}{ta tb:TE}{pos:Pos}
def NI{r:R2}(hr:Mc X r)(ha:PE X a ta)(hb:PE X b tb)(hs:jf b):PE X (.Subscript a b pos) (N_ r ta tb):=by
 intro f8 s σ H Q I h;exact Subscript_ (JC ha hb I h λv u s2 x y H2 I2 rx ry q=>hr a b f8 s2 σ H2 x y v u Q I2 rx ry q (hs _ _))
def Ll(K:Vn):R2:=λx y H Q=>∃p xs i v,x= .ref p/\y= .int i/\SqL K H p xs/\atI xs i=some v/\Q v H
def NV(K:Vn):R2:=λx y H Q=>∃p xs i v,x= .ref p/\y= .int i/\SqT K H p xs/\atI xs i=some v/\Q v H
def NU:R2:=λx y H Q=>∃z i c,x= .str z/\y= .int i/\z.length<=VB/\atI z.cps.toList i=some c/\Q (.str ⟨#[c]⟩) H
def Ax:Mc X (Ll X.K):=by
 intro value slice f8 s σ H x y v u Q I rx ry h hs;obtain⟨p,xs,i,z,rfl,rfl,hq,he,q⟩:=h;cases rx;obtain⟨t,rfl⟩:=ry;obtain⟨aB,r,pl,hz⟩:=I.list hq;obtain⟨j,h1,h2,h3,h4,h5⟩:=tK he;obtain⟨w,ew,CN⟩:=r.get h2;have hl:=r.length;have hn:=lV;have fin:EP X f8 σ Q w s:=⟨z,H,I,CN,q⟩
 by_cases h0:0<=i
 ·have hj:i.toNat=j:=by
   rw[seqIndex_of h0 h5] at h1;exact VO h1
  exact item_listR pl.isList h0 (by omega) (by rw[hj];simpa using ew) fin hs
 ·have hj:(i+(aB.toArray.size:Int)).toNat=j:=by
   rw[seqIndex_neg (by omega) h4] at h1;rw[Vl,<-hl];exact VO h1
  exact acA (x:=w) pl.isList.typeIs slot_list_getitem.lookup
   (wpAny_getItem_list_neg (Q:=λr s'=>r=w/\EP X f8 σ Q r s') pl.isList (by omega) (by rw[Vl]<;>omega) (by omega) (by rw[hj];simpa using ew) ⟨rfl,fin⟩) hs
def Kq:Mc X (NV X.K):=by
 intro value slice f8 s σ H x y v u Q I rx ry h hs;obtain⟨p,xs,i,z,rfl,rfl,hq,he,q⟩:=h;cases rx;obtain⟨t,rfl⟩:=ry;obtain⟨aB,r,pl,hz⟩:=I.tuple hq;obtain⟨j,h1,h2,h3,h4,h5⟩:=tK he;obtain⟨w,ew,CN⟩:=r.get h2;have hl:=r.length;have hn:=lV;have fin:EP X f8 σ Q w s:=⟨z,H,I,CN,q⟩
 exact acA (x:=w) pl.typeIs slot_tuple_getitem.lookup
  (getItem_tuple (j:=j) (Q:=λr s'=>r=w/\EP X f8 σ Q r s') pl (by omega) (by omega) (by rw[Vl,<-hl];exact h1) (by simpa using ew) ⟨rfl,fin⟩) hs
def Kp:Mc X NU:=by
 intro value slice f8 s σ H x y v u Q I rx ry h hs;obtain⟨z,i,c,rfl,rfl,hz,he,q⟩:=h;obtain⟨t,rfl⟩:=rx;obtain⟨t',rfl⟩:=ry;obtain⟨j,h1,h2,h3,h4,h5⟩:=tK he;have hl:z.cps.toList.length=z.length:=by simp[Str.length]
 rw[hl] at h1 h4 h5;have hn:=lV;exact tail_any (Yt s z t) slot_str_getitem.lookup (getItem_str (c:=c) (by
  have e1:decide (i< -(2 ^ 63:Int))=false:=acN (by omega);have e2:decide (i>=2 ^ 63)=false:=acN (by omega);rw[e1,e2,Bool.or_false]) (by rw[h1];simpa using h2) ⟨.str ⟨#[c]⟩,H,I.tok _,⟨_,rfl⟩,q⟩) hs
def Inv.lst{f8:List (Addr×Obj)}{σ:St}{H:Hp}{s:Vf}{p:Addr}{xs:List V}(I:Inv X f8 σ H s)(h:H p=some (.lst xs)):
 ∃(aB:List Value) (n:Nat),Vals xs aB/\s.heap.get? p=some {cls:= .type "list",data:= .seq aB.toArray n}/\xs.length<=VB:=by
 obtain⟨z,aB,n,r,e⟩:=I.hok p _ h;exact⟨aB,n,r,e,z⟩
def vh(lo hi:Option Int)(n:Nat):(Y1 lo hi none n).1=((HT.sIx n 0 lo:Nat):Int)/\(Y1 lo hi none n).2.1=((HT.sIx n n hi:Nat):Int)/\(Y1 lo hi none n).2.2=1:=by
 refine⟨?_,?_,rfl⟩
 ·cases lo with
  |none=>simp[Y1,HT.sIx]
  |some i=>
   simp only[Y1,HT.sIx,acp,show (1:Int)>0 by decide,if_true];by_cases h:i<0
   ·simp only[h,if_true]<;>omega
   ·simp only[h,if_false]<;>omega
 ·cases hi with
  |none=>simp[Y1,HT.sIx]
  |some i=>
   simp only[Y1,HT.sIx,acp,show (1:Int)>0 by decide,if_true];by_cases h:i<0
   ·simp only[h,if_true]<;>omega
   ·simp only[h,if_false]<;>omega
def rj(aB:List Value)(lo hi:Option Int):slicePick aB.toArray lo hi none=((aB.drop (HT.sIx aB.length 0 lo)).take (HT.sIx aB.length aB.length hi - HT.sIx aB.length 0 lo)).toArray:=by
 obtain⟨h1,h2,h3⟩:=vh lo hi aB.toArray.size;unfold slicePick;rw[h1,h2,h3];simp only[sliceRange_one,pick_run,Vl]<;>rfl
def QI(K:Vn):V->Option Int->Option Int->Hp->VK->Prop:=λx lo hi H Q=>∃a xs,x= .ref a/\SqL K H a xs/\∀p,H p=none->Q (.ref p) (upd H p (.lst (wc xs lo hi)))
def Io:SlR X (QI X.K):=by
 intro f8 s σ H x v vl vu lo hi sl Q I rx hs pl pu h;obtain⟨a,xs,rfl,hx,q⟩:=h;cases rx;obtain⟨aB,r,ht,hz⟩:=I.list hx;have M2:=r.length;refine⟨"list",_,slot_list_getitem.lookup,ht.isList.typeIs,?_⟩;refine wpAny_getItem_list_slice ht.isList hs pl pu .none (by simp) ?_ (by rw[Vl]<;>omega);rw[rj,<-M2];refine⟨.ref s.heap.objs.size,_,I.laid (t':=s.toks) (o:= .lst (wc xs lo hi)) (λb ob q=>Vd _ q) (Vj _) ?_,rfl,q _ (I.hok.fresh (Vj _))⟩;exact⟨VI (mz xs lo hi) hz,_,0,(r.drop (HT.sIx xs.length 0 lo)).take (HT.sIx xs.length xs.length hi - HT.sIx xs.length 0 lo),Vq _ rfl⟩
def mC:V->Bool
 | .non=>true
 | .bl _=>true
 | .int _=>true
 | .str _=>true
 |_=>false
def Gf:V->V->Bool
 | .non, .non=>true
 | .bl a, .bl b=>a==b
 | .bl a, .int b=>(if a then 1 else 0)==b
 | .int a, .bl b=>a==(if b then 1 else 0)
 | .int a, .int b=>a==b
 | .str a, .str b=>a==b
 |_,_=>false
def JK{A:V2}{s:Vf}{y x:V}{u v:Value}(ry:RelV y u)(rx:RelV x v)(fy:mC y=true)(fx:mC x=true):acm A s u v (Gf y x):=by
 cases y with
 |non=>
  cases ry;cases x with
  |non=>cases rx;exact SeqAt.EqAt.same _
  |bl b=>cases rx;exact SeqAt.EqAt.none_bool b
  |int b=>obtain⟨t,rfl⟩:=rx;exact SeqAt.EqAt.none_int b t
  |str b=>obtain⟨t,rfl⟩:=rx;exact SeqAt.EqAt.none_str b t
  |_=>exact acK (show false=true from fx) VM
 |bl a=>
  cases ry;cases x with
  |non=>cases rx;exact SeqAt.EqAt.bool_none a
  |bl b=>cases rx;exact SeqAt.EqAt.bool_bool a b
  |int b=>obtain⟨t,rfl⟩:=rx;exact SeqAt.EqAt.bool_int a b t
  |str b=>obtain⟨t,rfl⟩:=rx;exact SeqAt.EqAt.bool_str a b t
  |_=>exact acK (show false=true from fx) VM
 |int a=>
  obtain⟨t',rfl⟩:=ry;cases x with
  |non=>cases rx;exact SeqAt.EqAt.int_none a t'
  |bl b=>cases rx;exact SeqAt.EqAt.int_bool a t' b
  |int b=>obtain⟨t,rfl⟩:=rx;exact abc a t' b t
  |str b=>obtain⟨t,rfl⟩:=rx;exact abb a t' b t
  |_=>exact acK (show false=true from fx) VM
 |str a=>
  obtain⟨t',rfl⟩:=ry;cases x with
  |non=>cases rx;exact SeqAt.EqAt.str_none a t'
  |bl b=>cases rx;exact SeqAt.EqAt.str_bool a t' b
  |int b=>obtain⟨t,rfl⟩:=rx;exact aba a t' b t
  |str b=>obtain⟨t,rfl⟩:=rx;exact SeqAt.EqAt.str_str a t' b t
  |_=>exact acK (show false=true from fx) VM
 |_=>exact acK (show false=true from fy) VM
def GN(x:V)(u:Value):Bool:=match u with
 | .none=>Gf .non x
 | .bool b=>Gf (.bl b) x
 | .int i _=>Gf (.int i) x
 | .str z _=>Gf (.str z) x
 |_=>false
def Dt{x y:V}{u:Value}(r:RelV y u)(f:mC y=true):GN x u=Gf y x:=by
 cases y with
 |non=>cases r;rfl
 |bl b=>cases r;rfl
 |int i=>obtain⟨t,rfl⟩:=r;rfl
 |str z=>obtain⟨t,rfl⟩:=r;rfl
 |_=>exact acK (show false=true from f) VM
def tG{x:V}:∀{xs:List V}{us:List Value},Vals xs us->xs.all mC=true->us.any (GN x)=xs.any λy=>Gf y x
 |_,_, .nil,_=>rfl
 |y::xs,u::us, .cons r t,f=>by
  rw[YL,VA] at f;rw[Yp,Yp,Dt r f.1,tG t f.2]
def ph{A:V2}{s:Vf}{x:V}{v:Value}(rx:RelV x v)(fx:mC x=true):∀{xs:List V}{us:List Value},Vals xs us->xs.all mC=true->∀u∈us,acm A s u v (GN x u)
 |_,_, .nil,_=>λu hu=>by cases hu
 |y::xs,u::us, .cons r t,f=>λu' hu=>by
  rw[YL,VA] at f;rcases Vo.mp hu with rfl | hu
  ·rw[Dt r f.1];exact JK r rx f.1 fx
  ·exact ph rx fx t f.2 u' hu
def OJ(x:V)(xs:List V):Bool:=xs.any λy=>Gf y x
def R7(K:Vn)(neg:Bool):R2:=λx y H Q=>∃p xs,y= .ref p/\(SqL K H p xs\/SqT K H p xs)/\mC x=true/\xs.all mC=true/\Q (.bl (if neg then !OJ x xs else OJ x xs)) H
def uM:OpR X (Ww .NotIn) (R7 X.K true):=by
 intro f8 s σ H x y v u Q I rx ry h;obtain⟨p,xs,rfl,hq,fx,fs,q⟩:=h;cases ry;rcases hq with hq | hq
 ·obtain⟨aB,r,pl,hz⟩:=I.list hq;refine SeqAt.notIn_listAt (GN x) pl.isList (λw hw=>ph rx fx r fs w (by simpa using hw)) ⟨.bl _,H,I,rfl,?_⟩;rw[show aB.toArray.any (GN x)=aB.any (GN x) by simp,tG r fs];exact q
 ·obtain⟨aB,r,pl,hz⟩:=I.tuple hq;refine SeqAt.notIn_tupleAt (GN x) pl (λw hw=>ph rx fx r fs w (by simpa using hw)) ⟨.bl _,H,I,rfl,?_⟩;rw[show aB.toArray.any (GN x)=aB.any (GN x) by simp,tG r fs];exact q
def tU:CallR X (.builtin "len") (λxs H Q=>∃p ys,xs=[.ref p]/\(SqL X.K H p ys\/SqT X.K H p ys)/\Q (.int ys.length) H):=by
 intro f8 s σ H xs us Q I r h;obtain⟨p,ys,rfl,hq,q⟩:=h;obtain⟨u,rfl,rx⟩:=vals1 r;cases rx;have hn:=lV;rcases hq with hq | hq
 ·obtain⟨aB,r',pl,hz⟩:=I.list hq;have M2:=r'.length;exact Calls.call_len_list pl.isList (by simp only[Vl]<;>omega) ⟨.int ys.length,H,I.tok _,⟨s.toks+1,by rw[Vl,M2]⟩,q⟩
 ·obtain⟨aB,r',pl,hz⟩:=I.tuple hq;have M2:=r'.length;exact len_tuple pl (by simp only[Vl]<;>omega) ⟨.int ys.length,H,I.tok _,⟨s.toks+1,by rw[Vl,M2]⟩,q⟩
def tV:CallR X (.builtin "len") (λxs H Q=>∃z,xs=[.str z]/\z.length<=VB/\Q (.int z.length) H):=by
 intro f8 s σ H xs us Q I r h;obtain⟨z,rfl,hz,q⟩:=h;obtain⟨u,rfl,t,rfl⟩:=vals1 r;have hn:=lV;exact len_str (by omega) ⟨.int z.length,H,I.tok _,⟨_,rfl⟩,q⟩
def CallR.or{f:Value}{r r':List V->Hp->VK->Prop}(h:CallR X f r)(h':CallR X f r'):CallR X f (λxs H Q=>r xs H Q\/r' xs H Q):=by
 intro f8 s σ H xs us Q I rs q;rcases q with q | q
 ·exact h f8 s σ H xs us Q I rs q
 ·exact h' f8 s σ H xs us Q I rs q
def tW:CallR X (.type "list") (λxs H Q=>∃p ys,xs=[.ref p]/\(SqL X.K H p ys\/SqT X.K H p ys)/\∀l,H l=none->Q (.ref l) (upd H l (.lst ys))):=by
 intro f8 s σ H xs us Q I r h;obtain⟨p,ys,rfl,hq,q⟩:=h;obtain⟨u,rfl,rx⟩:=vals1 r;cases rx;have fin:∀(aB:List Value),Vals ys aB->ys.length<=VB->∀(h':Heap) (c':Nat),(∀b o',s.heap.get? b=some o'->h'.get? b=some o')->
  h'.get? s.heap.objs.size=some {cls:= .type "list",dict:=none,data:= .seq aB.toArray c',slots:= #[]}->EP X f8 σ Q (.ref s.heap.objs.size) {s with heap:=h'}:=λaB r' hz h' c' kp e=>
  ⟨.ref s.heap.objs.size,_,I.laid (t':=s.toks) kp (Vj _) (show ObjOk X.prog X.w _ h' _ (.lst ys) from⟨hz,aB,c',r',e⟩),rfl,q _ (I.hok.fresh (Vj _))⟩
 rcases hq with hq | hq
 ·obtain⟨aB,r',pl,hz⟩:=I.list hq;have M2:=r'.length;obtain⟨o,ho,hc,n,hd⟩:=pl.isList;exact call_list_seq p (.inl rfl) ho hc hd (λh' c' kp e=>fin aB r' hz h' c' kp e) (by simp only[Vl]<;>omega)
 ·obtain⟨aB,r',pl,hz⟩:=I.tuple hq;have M2:=r'.length;obtain⟨o,ho,hc,n,hd⟩:=pl;exact call_list_seq p (.inr rfl) ho hc hd (λh' c' kp e=>fin aB r' hz h' c' kp e) (by simp only[Vl]<;>omega)
def qH:CallR X (.type "tuple") (λxs H Q=>∃p ys,xs=[.ref p]/\((SqL X.K H p ys/\∀l,H l=none->Q (.ref l) (upd H l (.tup ys)))\/(SqT X.K H p ys/\Q (.ref p) H))):=by
 intro f8 s σ H xs us Q I r h;obtain⟨p,ys,rfl,h⟩:=h;obtain⟨u,rfl,rx⟩:=vals1 r;cases rx;rcases h with⟨hq,q⟩ | ⟨hq,q⟩
 ·obtain⟨aB,r',pl,hz⟩:=I.list hq;have M2:=r'.length;refine call_tuple_list pl.isList (λh' kp=>?_) (by simp only[Vl]<;>omega);have I1:Inv X f8 σ H {s with heap:=h'}:=I.kept (t':=s.toks) kp;have I2:Inv X f8 σ (upd H h'.objs.size (.tup ys)) {s with heap:=h'.push {cls:= .type "tuple",data:= .seq aB.toArray} }:=
   I1.laid (t':=s.toks) (λb o e=>Vd _ e) (Vj _) (show ObjOk X.prog X.w _ _ _ (.tup ys) from⟨hz,aB,r',IsTup.new _ _⟩)
  exact⟨.ref h'.objs.size,_,I2,rfl,q _ (I1.hok.fresh (Vj _))⟩
 ·obtain⟨aB,r',pl,hz⟩:=I.tuple hq;exact call_tuple_same pl ⟨.ref p,H,I,rfl,q⟩
def Oc(K:Vn)(T:String)(x:V)(H:Hp):Prop:=match x with
 | .str _=>T="str"
 | .int _=>T="int"
 | .ref p=>(T="list"/\∃xs,SqL K H p xs)\/(T="tuple"/\∃o,K.lookup p=some o/\o.cls= .type "tuple"/\o.dict=none)\/
    (T="dict"/\((∃aA,H p=some (.dK aA))\/∃aA,H p=some (.dT aA)))\/(T="set"/\∃S n,H p=some (.set S n))
 |_=>False
def LL{f8:List (Addr×Obj)}{σ:St}{H:Hp}{s:Vf}{T:String}{x:V}{v:Value}(I:Inv X f8 σ H s)(r:RelV x v)(ty:Oc X.K T x H):
 s.TypeIs v T/\∀a,v= .ref a->∃ob,s.heap.get? a=some ob/\ob.dict=none:=by
 cases x with
 |str z=>
  obtain⟨t,rfl⟩:=r;cases (show T="str" from ty);exact⟨Yt s z t,λ_ e=>nomatch e⟩
 |int i=>
  obtain⟨t,rfl⟩:=r;cases (show T="int" from ty);exact⟨typeIs_int s i t,λ_ e=>nomatch e⟩
 |ref p=>
  cases r;rcases ty with⟨rfl,xs,hq⟩ | ⟨rfl,o,hk,hc,hd⟩ | ⟨rfl,hk⟩ | ⟨rfl,S,n,hk⟩
  ·obtain⟨aB,_,pl,_⟩:=I.list hq;refine⟨pl.isList.typeIs,λa e=>?_⟩;cases e;obtain⟨o,n,e,c,hd,_⟩:=pl;exact⟨o,e,hd⟩
  ·refine⟨⟨o,I.kIn p o hk,hc⟩,λa e=>?_⟩;cases e;exact⟨o,I.kIn _ o hk,hd⟩
  ·have z:∃o,s.heap.get? p=some o/\o.ExactDict:=by
    rcases hk with⟨aA,hk⟩ | ⟨aA,hk⟩
    ·obtain⟨_,_,_,_,o,_,_,e,ex,_⟩:=I.hok p _ hk;exact⟨o,e,ex⟩
    ·obtain⟨_,_,_,_,o,_,_,e,ex,_⟩:=I.hok p _ hk;exact⟨o,e,ex⟩
   obtain⟨o,e,ex⟩:=z;refine⟨⟨o,e,ex.1⟩,λa e2=>?_⟩;cases e2;exact⟨o,e,ex.2.1⟩
  ·obtain⟨o,_,_,_,e,ex,_⟩:=I.hok p _ hk;refine⟨⟨o,e,ex.1⟩,λa e2=>?_⟩;cases e2;exact⟨o,e,ex.2.1⟩
 |_=>exact WM ty
def QM(K:Vn)(T:String)(r:V->List V->Hp->VK->Prop)(to:TE)(t:TA):TE:=λσ H Q=>to σ H λx H1=>Oc K T x H1/\t σ H1 λxs H2=>r x xs H2 Q
variable{o e:Expr}{es:List Expr}{to:TE}{t:TA}{name:Str}{W1 aO:Pos}{T id:String}{r:V->List V->Hp->VK->Prop}
def E5(pa:PlainAttrs T)(slot:Slot T name id)(P8:typeOf (.builtin id)=pure (.type "method_descriptor"))(hm:Gb X id r)(ho:PE X o to)(ha:PA X (e::es) t)
 (cU:WK o name X.env (eval o X.env)=eval o X.env:=by rfl)
 (fH:((W7 aO (Vs (e::es) X.env)).all (λx=>!x.1)&&(YA aO (Xf [] X.env)).all (λx=>x.1.isSome)
  &&decide ((e::es).length+([]:List Xb).length+(if ([]:List Xb).isEmpty then 0 else 1)<30))=true:=by rfl)
 (cV:(W1.endLine==aO.line)=true:=by rfl) (hs:Vs (e::es) X.env=(false,eval e X.env)::Vs es X.env:=by rfl) (yZ:(W7 aO (Vs es X.env)).any (·.1)=false:=by rfl):
 PE X (.Call (.Attribute o name W1) (e::es) [] aO) (QM X.K T r to t):=by
 intro f8 s σ H Q I h;refine wpAny_Call_method_late cU fH cV rfl (bV (ho f8 s σ H _ I h) λv s1 ⟨x,H1,I1,r1,ty,q1⟩=>?_);obtain⟨h1,h2⟩:=LL I1 r1 ty;refine⟨T,id,pa,slot,P8,h1,h2,?_⟩;have hA:=ha aO f8 s1 σ H1 _ I1 q1;rw[hs] at hA⊢;refine abk (by show (false||(W7 aO (Vs es X.env)).any (·.1))=false;rw[yZ]<;>rfl) (ZI ?_);exact bV hA λus s2 ⟨vs,H2,I2,r2,q2⟩=>hm f8 s2 σ H2 x vs v us Q I2 r1 r2 q2
end
def Q2(X:Cx)(id:String)(r:V->List V->Hp->VK->Prop):Prop:=
 ∀(f8:List (Addr×Obj)) (s:Vf) (σ:St) (H:Hp) (x:V) (xs:List V) (v:Value) (us:List Value) (Q:VK),Inv X f8 σ H s->RelV x v->Vals xs us->r x xs H Q->
  wpAny (model X.prog X.w) X.A (call (.builtin id) (v::us)) (EP X f8 σ Q) X.xe s
def Vals.one:∀{x:V}{us:List Value},Vals [x] us->∃u,us=[u]/\RelV x u
 |_,_, .cons r .nil=>⟨_,rfl,r⟩
def Vals.rep{xs:List V}{us:List Value}(h:Vals xs us):∀k:Nat,Vals (Vx k xs).flatten (Vx k us).flatten
 |0=> .nil
 |k+1=>by
  rw[W9,W9,XX,XX];exact Vals.append h (Vals.rep h k)
def foldl_rep(aB:List Value):∀(k:Nat) (u8:List Value),
 acF (λx1 x2=>x1++x2) u8.toArray (Vx k aB.toArray)=(u8++(Vx k aB).flatten).toArray
 |0,u8=>by simp
 |k+1,u8=>by
  have e:u8.toArray++aB.toArray=(u8++aB).toArray:=by simp
  have e2:(u8++aB)++(Vx k aB).flatten=u8++(Vx (k+1) aB).flatten:=by
   rw[W9,XX,W6]
  rw[<-e2,<-foldl_rep aB k (u8++aB),<-e,W9,Xp]
section
variable{X:Cx}{f8:List (Addr×Obj)}{σ:St}{H:Hp}{s:Vf}{l:Addr}{xs ys:List V}
def Inv.lset{aB its':List Value}{n:Nat}{f:Array Value->Array Value}{t':Nat}(I:Inv X f8 σ H s)(hH:H l=some (.lst xs))
 (e:s.heap.get? l=some {cls:= .type "list",data:= .seq aB.toArray n})(hf:f aB.toArray=its'.toArray)(hv:Vals ys its')(hz:ys.length<=VB):
 Inv X f8 σ (upd H l (.lst ys)) {s with heap:=s.heap.update l (XE f),toks:=t'}:=by
 have q:=PySem.IsL.update e f;rw[hf] at q;refine I.write (x:=l) (e:=l) (by rw[hH];exact trivial) (.inl rfl) (λb' u hb hu=>(Zp s.heap (XE f) (Wv hb)).trans hu) ⟨_,q⟩ ?_;exact⟨hz,its',_,hv,q⟩
def Inv.lnew{aB:List Value}{t':Nat}(I:Inv X f8 σ H s)(hv:Vals ys aB)(hz:ys.length<=VB):
 Inv X f8 σ (upd H s.heap.objs.size (.lst ys)) {s with heap:=s.heap.push {cls:= .type "list",data:= .seq aB.toArray},toks:=t'}:=
 I.laid (λ_ _ q=>Vd _ q) (Vj _) ⟨hz,aB,0,hv,Vq _ rfl⟩
def Inv.fresh(I:Inv X f8 σ H s):H s.heap.objs.size=none:=I.hok.fresh (Vj _)
def Inv.lstM(I:Inv X f8 σ H s)(hH:H l=some (.lst xs)):xs.length<=VB/\∃(aB:List Value) (n:Nat),Vals xs aB/\xs.length=aB.length/\s.heap.get? l=some {cls:= .type "list",data:= .seq aB.toArray n}:=by
 obtain⟨z,aB,n,r,e⟩:=I.hok l _ hH;exact⟨z,aB,n,r,r.length,e⟩
def xb{n:Nat}(h:n<=VB):XU n=false:=by
 unfold XU;exact acN (by omega)
end
section
variable{X:Cx}
def AW:V->List V->Hp->VK->Prop:=λx vs H Q=>∃l xs y,x= .ref l/\vs=[y]/\H l=some (.lst xs)/\xs.length<VB/\Q .non (upd H l (.lst (xs++[y])))
def sF:Q2 X "list.append" AW:=by
 intro f8 s σ H x vs v us Q I rx rv h;obtain⟨l,xs,y,rfl,rfl,hH,hz,q⟩:=h;cases rx;obtain⟨u,rfl,ru⟩:=rv.one;obtain⟨z,aB,n,r,hl,e⟩:=I.lstM hH;refine X7 F.slot_list_append ⟨_,e,rfl⟩ F.entry_list_append (F.args_list_append_2 _ _) (PySem.list_append l aB.toArray n u (by rw[Vl];omega)) ⟨e,?_⟩;refine⟨.non,_,I.lset (its':=aB++[u]) hH e (by simp) (r.append (.cons ru .nil)) ?_,rfl,q⟩;rw[Vm,abM];omega
def AX:V->List V->Hp->VK->Prop:=λx vs H Q=>∃l b xs zs,x= .ref l/\vs=[.ref b]/\H l=some (.lst xs)/\H b=some (.lst zs)/\xs.length+zs.length<=VB/\Q .non (upd H l (.lst (xs++zs)))
def B2:Q2 X "list.extend" AX:=by
 intro f8 s σ H x vs v us Q I rx rv h;obtain⟨l,b,xs,zs,rfl,rfl,hH,hB,hz,q⟩:=h;cases rx;obtain⟨u,rfl,ru⟩:=rv.one;cases ru;obtain⟨z,aB,n,r,hl,e⟩:=I.lstM hH;obtain⟨z2,eB,n2,r2,Jb,e2⟩:=I.lstM hB;have hsz:aB.toArray.size+eB.toArray.size<=VB:=by rw[Vl,Vl];omega
 have DV:¬(!aB.toArray.isEmpty&&XU (aB.toArray.size+eB.toArray.size))=true:=by
  rw[xb hsz,YY];exact VM
 refine X7 F.slot_list_extend ⟨_,e,rfl⟩ F.entry_list_extend (F.args_list_extend_2 _ _)
  (AutoSeq1.list_extend_list_list_0 l aB.toArray n b eB.toArray n2 DV (by rw[Vl];omega) (by omega)) ⟨e,e2,?_⟩
 refine⟨.non,_,I.lset (its':=aB++eB) hH e (by simp) (r.append r2) ?_,rfl,q⟩;rw[Vm];omega
def QD:R2:=λx y H Q=>∃l b xs zs,x= .ref l/\y= .ref b/\H l=some (.lst xs)/\H b=some (.lst zs)/\xs.length+zs.length<=VB/\∀p,H p=none->Q (.ref p) (upd H p (.lst (xs++zs)))
def KG:OpR X (Yz .Add) QD:=by
 intro f8 s σ H x y v u Q I rx ry h;obtain⟨l,b,xs,zs,rfl,rfl,hH,hB,hz,q⟩:=h;cases rx;cases ry;obtain⟨z,aB,n,r,hl,e⟩:=I.lstM hH;obtain⟨z2,eB,n2,r2,Jb,e2⟩:=I.lstM hB;refine PySem.P.add_list e e2 ?_ (by rw[Vl,Vl];omega);have ea:aB.toArray++eB.toArray=(aB++eB).toArray:=by simp
 rw[ea];exact⟨.ref _,_,I.lnew (t':=s.toks) (r.append r2) (by rw[Vm];omega),rfl,q _ I.fresh⟩
def QH:R2:=λx y H Q=>∃l k xs,x= .ref l/\y= .int k/\H l=some (.lst xs)/\ -(2 ^ 63)<=k/\k<2 ^ 63/\xs.length*k.toNat<=VB/\
 ∀p,H p=none->Q (.ref p) (upd H p (.lst (Vx k.toNat xs).flatten))
def len_rep{α:Type}(xs:List α)(k:Nat):(Vx k xs).flatten.length=k*xs.length:=by
 induction k with
 |zero=>simp
 |succ k ih=>rw[W9,XX,Vm,ih,Nat.succ_mul,aas]
def KN:OpR X (Yz .Mult) QH:=by
 intro f8 s σ H x y v u Q I rx ry h;obtain⟨l,k,xs,rfl,rfl,hH,h1,h2,hz,q⟩:=h;cases rx;obtain⟨t,rfl⟩:=ry;obtain⟨z,aB,n,r,hl,e⟩:=I.lstM hH;have M2:aB.toArray.size*k.toNat<=VB:=by rw[Vl,<-hl];exact hz
 have Pg:¬aB.toArray.size*k.toNat>(2 ^ 63 - 1) / 8:=by
  have:(VB:Nat)<=(2 ^ 63 - 1) / 8:=by decide
  omega
 have Po:¬(!Builtin.List.listFitsIndex k)=true:=by
  rw[fitsIndex_both h1 h2];exact VM
 have DV:¬XU (aB.toArray.size*k.toNat)=true:=by
  rw[xb M2];exact VM
 have lS:acF (λx1 x2=>x1++x2) #[] (Vx (if aB.toArray.isEmpty=true then 0 else k.toNat) aB.toArray)=(Vx k.toNat aB).flatten.toArray:=by
  have f0:∀m:Nat,acF (λx1 x2=>x1++x2) #[] (Vx m aB.toArray)=(Vx m aB).flatten.toArray:=λm=>by
   have:=foldl_rep aB m [];rw[VL] at this;exact this
  rw[f0];cases aB with
  |nil=>simp
  |cons a r'=>rw[acJ (by simp)]
 refine wpAny_binaryOp_repeat_ref (T:="list") (U:="int") (by decide) ⟨_,e,rfl⟩ (λs'=>typeIs_int s' k t) noFill_list_mul F.fills_int_mul F.slot_int_rmul repeat_list F.slot_int_index.lookup
  (X7 F.slot_int_rmul (typeIs_int s k t) F.entry_int_rmul (F.args_int_rmul_2 _ _) (int___rmul___int_list k t l aB.toArray n)
   ⟨e,rfl,⟨_,e,rfl⟩,X7 F.slot_list_mul ⟨_,e,rfl⟩ F.entry_list_mul (F.args_list_mul_2 _ _) (AutoListH.list___mul___list_int_3 l aB.toArray n k t Po Pg DV) ⟨e,?_⟩⟩)
 rw[lS];exact⟨.ref _,_,I.lnew (t':=s.toks) (r.rep k.toNat) (by rw[len_rep,abS];exact hz),rfl,q _ I.fresh⟩
end
end L2
namespace Att
open PySem PySem.W PySem.Calls PyProof.Rows
def ints_of_wellAll{P:Params}{h:Heap}:∀(ns:List Int) (vs:List Value),WellAll P h vs (ns.map WData.int)->Xz vs ns:=by
 intro ns;induction ns with
 |nil=>
  intro vs w;rw[W3] at w;cases w;exact .nil
 |cons n ns ih=>
  intro vs w;rw[Vi] at w;cases w with
  |cons a b=>
   cases a;exact .cons _ _ (ih _ b)
def script_of{l:OpenLaw}{n:Nat}(hn:l.most=some n){P:Params}{h:Heap}{args:List WData}{vals:List Value}
 (G1:l.row.toRowW.claim.pre args=true)(Qd:WellAll P h vals args):
 ∃a vs ns,vals=[VQ a]/\args=[WData.list (ns.map WData.int)]/\h.get? a=some {cls:= .type "list",data:= .seq vs.toArray}/\Xz vs ns/\ns.length<=n:=by
 have T2:WShape.hasAll [] args [.list .int]=true:=(pre_splitW G1).1;have hc:l.pre.holds [] {args:=args}=true:=(pre_splitW G1).2;obtain⟨d,r,rfl,h1,h2⟩:=hasAllW_cons T2;obtain rfl:=hasAllW_nil h2;obtain⟨xs,rfl,h3⟩:=hasW_list h1;obtain⟨ns,rfl⟩:=items_int h3;have M2:ns.length<=n:=by
  unfold OpenLaw.pre at hc;have h4:(WTm.not (.lt (.lit (.int (n:Int))) (.len (.arg 0)))).holds [] {args:=[.list (ns.map .int)]}=true:=by
   have h4:=(holds_andW hc).1;rw[hn] at h4;exact h4
  have h5:=condW_of h4 (w_not (w_lt w_lit (w_len_list (w_arg rfl))));rw[Vb] at h5;refine Nat.le_of_not_lt λq=>?_;have q':(n:Int)<((ns.length:Nat):Int):=by omega
  first
   |(rw [acL q'] at h5;exact acK h5 (by decide))
   |(simp at h5;omega)
 cases Qd with
 |cons w1 w2=>
  cases w2;cases w1 with
  |list ho Bu=>exact⟨_,_,ns,rfl,rfl,ho,ints_of_wellAll ns _ Bu,M2⟩
def post_true(l:OpenLaw)(args:List WData):l.row.toRowW.claim.post args (.bool true) args=true:=
 postW_of (r:=l.row.toRowW) (X:=(true==true))
  (show WShape.has [] (.bool true) .bool=true by first | rfl | decide | simp[WShape.has,WShape.arms,WShape.armsAll])
  (show (WTm.eq .res (.lit (.bool true))).value [] {args:=args,res:=some (.bool true),after:=args}=some (.bool (true==true)) from w_eq_bool (w_res rfl) w_lit) rfl
def attach_call{l:OpenLaw}{n:Nat}{q:VG}{loose:List Str}{XP:(Str->Option Value)->Heap->Prop}{YP:World->Heap->Prop}{d:DefRec}
 (hn:l.most=some n)(MI:d.params.defaults=[])
 (call:∀(w:World) (acT v6:Vf) (mg mb:Str->Option Value) (fa:Addr) (o:Obj) (pm cd doc:Value) (a:Addr) (vs:List Value) (ns:List Int),
  Ground q loose [] XP w acT mg mb v6.heap->YP w v6.heap->
  v6.heap.get? fa=some o->o.data= .func (docDef d.name d.params d.body d.scope pm cd doc)->v6.heap.CodeRec cd d.name->mg d.name=some (.ref fa)->
  v6.heap.get? a=some {cls:= .type "list",data:= .seq vs.toArray}->Xz vs ns->ns.length<=n->v6.gens= #[]->
  YF (model l.prog w) aaS (.call (.ref fa) ⟨[.ref a],[]⟩) (λr s'=>r= .ok (.ret (.bool true))/\OldK v6.heap s'.heap/\s'.os=v6.os/\Z1 s'.gens) v6):
 WalkO q loose XP YP l.row.toRowW d [] (λf vs=>acn f vs):=by
 intro w acT v6 mg mb G Y fa o pm cd doc dV kV ho hd rS hD J9 hg args vals as G1 TB U3 Qd UZ;obtain rfl:dV= .none:=Dflts.none hD MI;obtain rfl:kV= .none:=Dflts.noKw hD;obtain⟨a,vs,ns,rfl,rfl,DW,hints,M2⟩:=script_of hn G1 Qd;refine enter_call (Zf (call w acT v6 mg mb fa o pm cd doc a vs ns G Y ho (fd_plain hd) rS J9 DW hints M2 hg) λr s' hq=>?_);obtain⟨rfl,h2,h3,h4⟩:=hq;exact⟨.inl ⟨.bool true, .bool true,[],rfl,λ_=>rfl, .bool true,post_true l _,λ_=>⟨Zu,λ_ hm=>(nomatch hm)⟩⟩,h2,h3,h4⟩
section
def ledger(h:Heap)(L d:Addr):List (Addr×Obj):=(Vw h.objs.size).filterMap λa=>if a=L\/a=d then none else(h.get? a).map λo=>(a,o)
end
end Att
namespace L2
open PySem PySem.Spec PyProof.Rows
def tE:∀{vs:List Value}{ns:List Int},Xz vs ns->Vals (ns.map V.int) vs
 |_,_, .nil=> .nil
 |_,_, .cons n t h=> .cons ⟨t,rfl⟩ (tE h)
def JA(H:Hp):Prop:=∀b,H b=none\/∃o xs,H b=some (.frz o (.lst xs))
def wO{P:VG}{w:World}{K:Vn}{mg mb:Str->Option Value}{CX:z3}{k:Nat}{fa a:Addr}{fd:Xv}{x:Str}{sp:Sp}{v6:Vf}{vs:List Value}{ns:List Int}
 (KX:K.In v6.heap)(OE:v6.heap.Ns VD mg)(hb:v6.heap.Ns builtinsNs mb)(SU:∀x:Str,x≠"__name__"->mb x=V4 x)(MT:v6.heap.NoLimit)(hg:v6.gens= #[])
 (ha:v6.heap.get? a=some {cls:= .type "list",data:= .seq vs.toArray})(hi:Xz vs ns)(hl:ns.length<=VB)(hr:Room k aaS)
 (F:∀base:Heap,K.In base->base.Ns VD mg->FnOk P w K mg base CX k fa fd [x] sp)(ME:∀(s:Vf) (u:Value),abF s fd ⟨[u],[]⟩ [(x,u)])
 (vN:∀H:Hp,JA H->SqL K H a (ns.map V.int)->sp [.ref a] H (λv _=>v= .bl true) λ_ _ _=>False)
 (O7:∀H e s',CX [] H v6 (λ_ _ _=>False) e s'->False):
 YF (model P w) aaS (.call (.ref fa) ⟨[.ref a],[]⟩) (λr s'=>r= .ok (.ret (.bool true))/\OldK v6.heap s'.heap/\s'.os=v6.os/\Z1 s'.gens) v6:=by
 have rv:=tE hi;have Qr:=hi.length;have core:∀H:Hp,JA H->SqL K H a (ns.map V.int)->HOk P w H v6.heap->(∀b,H b≠none->b=a)->(H a≠none->K.lookup a=none)->
  YF (model P w) aaS (.call (.ref fa) ⟨[.ref a],[]⟩) (λr s'=>r= .ok (.ret (.bool true))/\OldK v6.heap s'.heap/\s'.os=v6.os/\Z1 s'.gens) v6:=by
  intro H hO hS hok hA hK;have Ac:∀{b:Addr}{o:Obj},v6.heap.get? b=some o->H b=none->(uc v6.heap H).get? b=some o:=λe n=>DN e n;have Nv:∀{b:Addr}{o:Obj}{es:Array XA}{ep:Nat},v6.heap.get? b=some o->o.data= .dict es ep->H b=none:=λ{b o es ep} e d=>by
   cases q:H b with
   |none=>rfl
   |some u=>
    have e':b=a:=hA b (by rw[q];simp);subst e';rw[ha] at e;cases e;have d':Data.seq vs.toArray _=X5 es ep:=d;cases d'
  have OL:∀{b:Addr}{m:Str->Option Value},v6.heap.Ns b m->(uc v6.heap H).Ns b m:=λ{b m} ⟨o,es,ep,e,d,r⟩=>⟨o,es,ep,Ac e (Nv e d),d,r⟩
  have Ro:K.In (uc v6.heap H):=λb o e=>Ac (KX b o e) (by
   cases q:H b with
   |none=>rfl
   |some u=>
    have e':b=a:=hA b (by rw[q];simp);subst e';rw[hK (by rw[q];simp)] at e;cases e)
  have hM:Mod K mg (uc v6.heap H):=⟨Ro,OL OE,⟨mb,OL hb,SU⟩,let ⟨mc,h1,h2⟩:=MT;⟨mc,OL h1,h2⟩⟩
  have e0:Env0 P w K mg (uc v6.heap H) aaS [] v6 H:=⟨rfl,hM,λb o e=>Ho e,aar (By _ _),trivial,λb hb=>acK (show b∈([]:List Addr) from hb) (by simp),hok, .of_eq hg⟩
  refine Zf ((F _ Ro (OL OE)).run aaS [] v6 H ⟨[.ref a],[]⟩ [.ref a] [.ref a] _ _ hr e0 (ME v6 (.ref a)) (.cons rfl .nil) (vN H hO hS)) λr s' h=>?_;cases r with
  |error e=>exact(O7 H e s' h).elim
  |ok fl=>
   cases fl with
   |next=>exact WM h
   |brk=>exact WM h
   |cont=>exact WM h
   |ret u=>
    obtain⟨v,H',os,bare,un,PR,r',q⟩:=h;have q':v= .bl true:=q;subst q';obtain rfl:u=XB true:=r';refine⟨rfl,OldK.of_keep λb o e=>?_,os,bare⟩;cases q:H b with
    |none=>exact un.keep b o e q (by intro z;exact acK (show b∈([]:List Addr) from z) (by simp)) (by simp)
    |some u=>
     rcases hO b with z | ⟨ob,xs,z⟩
     ·rw[q] at z;cases z
     ·have z2:=un.frzs b ob _ z;obtain⟨e1,_⟩:=hok b _ z;obtain⟨e2,_⟩:=PR b _ z2;rw[e] at e1;cases e1;exact e2
 cases hk:K.lookup a with
 |some o=>
  have e:=KX a o hk;rw[ha] at e;cases e;refine core (λ_=>none) (λ_=> .inl rfl) (.inr ⟨_,vs.toArray,_,hk,rfl,rfl,rfl,by rw[Vl,Qr];exact hl,by simpa using rv⟩) (λb u z=>by have z':(none:Option HO)=some u:=z;cases z') (λb z=>acK rfl z) λz=>acK rfl z
 |none=>
  refine core (λb=>if b=a then some (.frz {cls:= .type "list",data:= .seq vs.toArray} (.lst (ns.map V.int))) else none) (λb=>?_) (.inl (.inr ⟨{cls:= .type "list",data:= .seq vs.toArray},acI rfl⟩)) (λb u z=>?_) (λb z=>?_) λ_=>hk
  ·by_cases hb:b=a
   ·exact .inr ⟨_,_,acI hb⟩
   ·exact .inl (acJ hb)
  ·by_cases hb:b=a
   ·have z':=(acI hb).symm.trans z;cases z';subst hb;exact⟨ha,by rw[Vb];exact hl,vs,_,rv,ha⟩
   ·have z':=(acJ hb).symm.trans z;cases z'
  ·by_cases hb:b=a
   ·exact hb
   ·exact acK (acJ hb) z
abbrev UK{K:Vn}{h:Heap}(_:K.In h):Vn:=K
def OR{l:aco}{n k:Nat}{q:VG}{loose:List Str}{XP:(Str->Option Value)->Heap->Prop}{YP:World->Heap->Prop}{d:DefRec}{K:Params->Vn}{CX:World->z3}{sp:World->Sp}{x:Str}
 (hn:l.most=some n)(OD:n<=VB)(MI:d.params.defaults=[])(hr:Room k aaS)
 (hY:∀(w:World) (h:Heap),YP w h->(K w.params).In h)
 (F:∀(w:World) (mg:Str->Option Value) (fa:Addr) (h:Heap),(K w.params).In h->h.Ns VD mg->mg d.name=some (.ref fa)->
  ∃fd:Xv,(∀(s:Vf) (u:Value),abF s fd ⟨[u],[]⟩ [(x,u)])/\
   ∀base:Heap,(K w.params).In base->base.Ns VD mg->FnOk l.prog w (K w.params) mg base (CX w) k fa fd [x] (sp w))
 (vN:∀(w:World) (H:Hp) (a:Addr) (ns:List Int),ns.length<=n->JA H->SqL (K w.params) H a (ns.map V.int)->sp w [.ref a] H (λv _=>v= .bl true) λ_ _ _=>False)
 (O7:∀(w:World) (H:Hp) (s:Vf) (e:Value) (s':Vf),CX w [] H s (λ_ _ _=>False) e s'->False):
 PySem.W.WalkO q loose XP YP l.row.toRowW d [] (λf vs=>acn f vs):=by
 refine Att.attach_call hn MI λw acT v6 mg mb fa o pm cd doc a vs ns G Y ho hd rS J9 DW hints M2 hg=>?_;have KX:=hY w _ Y;obtain⟨fd,hb,hF⟩:=F w mg fa _ KX G.T.g J9;exact wO KX G.T.g G.T.b G.T.builtins G.T.nolimit hg DW hints (VI M2 OD) hr hF hb (λH hO hS=>vN w H a ns M2 hO hS) λH e s'=>O7 w H v6 e s'
abbrev Ma:z3:=λ_ _ _ _ _ _=>False
abbrev E0:XK:=λ_ _ _=>False
structure Fun (K:Vn) (x qual:Str) (st:Stmt) (f:Addr) (fd:Xv):Prop where
 ex:∃(oc:Value) (od:Option Addr) (kV doc pm:Value) (an:Option Addr) (cx ct:Value) (CM:Array (Option Value)),
  fd=WC x qual (dR st) (bc st) (ai st) .none kV doc pm an cx ct/\K.lookup f=some ⟨oc,od, .func fd,CM⟩/\XZ K cx qual=true
 kp:WY K (.ref f)=true
section
variable{P:VG}{w:World}{K:Vn}{mg:Str->Option Value}{base:Heap}
def Fun.ok{x qual:Str}{st:Stmt}{f:Addr}{fd:Xv}{N ps:List Str}{k:Nat}{sp:Sp}(F:Fun K x qual st f fd)(S:FnScope N ps (ai st))(len:∀vs H Q E,sp vs H Q E->vs.length=ps.length)
 (gx:∀(cx:Value) (A:V2) (outer:List Env) (s:Vf) (H:Hp) (vs:List V) (Q:VK) (E:XK),Room k (A.deeper (XD qual (ai st) s.heap.objs.size f cx))->sp vs H Q E->
  ∃t,PSs (aZ Ma P w K mg base N qual (ai st) f cx A outer s H E).nox (bc st) t/\t {nx:=λ_ H'=>Q .non H',rt:=Q} (start N vs) H):FnOk P w K mg base Ma (k+1) f fd ps sp:=by
 obtain⟨oc,od,kV,doc,pm,an,cx,ct,CM,rfl,lk,rS⟩:=F.ex;refine IQ lk rS S len λA outer s H vs Q E hr vN=>?_;obtain⟨t,h,q⟩:=gx cx A outer s H vs Q E hr vN;exact⟨t,h.nox,q⟩
def Fun.binds{x qual:Str}{st:Stmt}{f:Addr}{fd:Xv}{ps:List Str}(F:Fun K x qual st f fd)
 (h:∀(kV doc pm:Value) (an:Option Addr) (cx ct:Value) (us:List Value),us.length=ps.length->bindArgs (WC x qual (dR st) (bc st) (ai st) .none kV doc pm an cx ct) ⟨us,[]⟩=pure (ps.zip us)):Binds K fd ps []:=by
 obtain⟨oc,od,kV,doc,pm,an,cx,ct,CM,rfl,lk,rS⟩:=F.ex;exact .all (h kV doc pm an cx ct)
def Dz{x qual:Str}{st:Stmt}{f:Addr}{oc:Value}{od an:Option Addr}{CM:Array (Option Value)}{kV doc pm cx ct:Value}(l:K.lookup f=some ⟨oc,od, .func (WC x qual (dR st) (bc st) (ai st) .none kV doc pm an cx ct),CM⟩)
 (c:XZ K cx qual=true)(k:WY K (.ref f)=true):Fun K x qual st f (WC x qual (dR st) (bc st) (ai st) .none kV doc pm an cx ct):=⟨⟨oc,od,kV,doc,pm,an,cx,ct,CM,rfl,l,c⟩,k⟩
end
section
variable{X:Cx}
def pv(i:Nat){x:Str}{pos:Pos}(hN:X.N[i]? =some x:=by rfl)(hv:OZ X.env.scope x:=by first | exact Or.inl rfl | exact Or.inr (Or.inl rfl) | exact Or.inr (Or.inr rfl))(hd:(x==("__debug__":Str))=false:=by decide)
 (rS:(x==("__classdict__":Str))=false:=by decide):PE X (.Name x pos) (qm i):=La hN hv hd rS
end
def Same(H H':Hp):Prop:=∀b o,H b=some o->H' b=some o
def Same.refl(H:Hp):Same H H:=λ_ _ h=>h
def Same.trans{H H1 H2:Hp}(a:Same H H1)(b:Same H1 H2):Same H H2:=λc o h=>b c o (a c o h)
def Same.free{H H':Hp}(e:Same H H'){l:Addr}(h:H' l=Option.none):H l=Option.none:=by
 cases q:H l with
 |none=>rfl
 |some o=>
  rw[e l o q] at h;cases h
def Same.seq{K:Vn}{H H':Hp}{a:Addr}{xs:List V}(e:Same H H')(h:SqL K H a xs):SqL K H' a xs:=by
 rcases h with(h | ⟨o,h⟩) | h
 ·exact .inl (.inl (e _ _ h))
 ·exact .inl (.inr ⟨o,e _ _ h⟩)
 ·exact .inr h
section
variable{κ:Type}[DecidableEq κ]
def lI(aA:List (κ×V))(k:κ):Option V:=(aA.find? λkv=>decide (kv.1=k)).map (·.2)
def putK(aA:List (κ×V))(k:κ)(v:V):List (κ×V):=
 if (aA.any λkv=>decide (kv.1=k))=true then aA.map (λkv=>if kv.1=k then(kv.1,v) else kv) else aA++[(k,v)]
def lK{p:κ×V}{r:List (κ×V)}{k:κ}(e:p.1=k):lI (p::r) k=some p.2:=by simp[lI,Yo,e]
def lJ{p:κ×V}{r:List (κ×V)}{k:κ}(e:¬p.1=k):lI (p::r) k=lI r k:=by simp[lI,Yo,e]
def qp(k:κ):∀aA:List (κ×V),(aA.any λkv=>decide (kv.1=k))=(lI aA k).isSome
 |[]=>rfl
 |p::r=>by
  rw[Yp];by_cases e:p.1=k
  ·simp only[lK e,acL e,Bool.true_or,Option.isSome_some]
  ·rw[lJ e,acN e,Bool.false_or];exact qp k r
def eU(aA:List (κ×V))(k:κ)(v:V):(putK aA k v).length<=aA.length+1:=by
 unfold putK;split
 ·rw[Vb];omega
 ·rw[Vm,Vk,V6];omega
def RelO.isSome_eq{o:Option V}{u:Option Value}(r:RelO o u):o.isSome=u.isSome:=by
 cases o with
 |none=>cases u with
  |none=>rfl
  |some _=>exact(show False from r).elim
 |some _=>cases u with
  |none=>exact(show False from r).elim
  |some _=>rfl
def RelO.getD{o:Option V}{u:Option Value}{d:V}{d':Value}(r:RelO o u)(rd:RelV d d'):RelV (o.getD d) (u.getD d'):=by
 cases o with
 |none=>cases u with
  |none=>exact rd
  |some _=>exact(show False from r).elim
 |some _=>cases u with
  |none=>exact(show False from r).elim
  |some _=>exact r
def KV.val{aA:List (κ×V)}{vs:List (κ×Value)}(r:KV aA vs)(k:κ):RelO (lI aA k) (abq vs k):=by
 unfold KV at r;induction r with
 |nil=>exact WN
 | @cons p q ps qs h t ih=>
   obtain⟨h1,h2⟩:=h;by_cases e:p.1=k
   ·have e':q.1=k:=h1.symm.trans e;have b:abq (q::qs) k=some q.2:=by simp[abq,Yo,e']
    rw[lK e,b];exact h2
   ·have e':¬q.1=k:=λz=>e (h1.trans z);have b:abq (q::qs) k=abq qs k:=by simp[abq,Yo,e']
    rw[lJ e,b];exact ih
def KV.any{aA:List (κ×V)}{vs:List (κ×Value)}(r:KV aA vs)(k:κ):(aA.any λkv=>decide (kv.1=k))=vs.any λkv=>decide (kv.1=k):=by
 unfold KV at r;induction r with
 |nil=>rfl
 |cons h t ih=>rw[Yp,Yp,ih,h.1]
def KV.repl{aA:List (κ×V)}{vs:List (κ×Value)}(r:KV aA vs)(k:κ){y:V}{u:Value}(ry:RelV y u):
 KV (aA.map λkv=>if kv.1=k then(kv.1,y) else kv) (vs.map λkv=>if kv.1=k then(kv.1,u) else kv):=by
 unfold KV at r⊢;induction r with
 |nil=>exact .nil
 | @cons p q ps qs h t ih=>
   rw[Vi,Vi];refine .cons ?_ ih;obtain⟨h1,h2⟩:=h;by_cases e:p.1=k
   ·rw[acI e,acI (h1.symm.trans e)];exact⟨h1,ry⟩
   ·rw[acJ e,acJ (λz=>e (h1.trans z))];exact⟨h1,h2⟩
def KV.put{aA:List (κ×V)}{vs:List (κ×Value)}(r:KV aA vs)(k:κ){y:V}{u:Value}(ry:RelV y u):KV (putK aA k y) (stored vs k u):=by
 unfold putK stored;rw[r.any k];by_cases e:(vs.any λkv=>decide (kv.1=k))=true
 ·rw[acI e,acI e];exact r.repl k ry
 ·rw[acJ e,acJ e];exact Paired.snoc r ⟨rfl,ry⟩
def KV.length{aA:List (κ×V)}{vs:List (κ×Value)}(r:KV aA vs):aA.length=vs.length:=Xs r
end
def sj{P:VG}{w:World}{k:Key}{u:Value}(r:RelV (kV k) u):(a6 P w).is k u=true:=by
 cases k with
 |inl i=>obtain⟨t,e⟩:=(show∃t,u=abx i t from r);subst e;exact wZ P w i t
 |inr x=>obtain⟨t,e⟩:=(show∃t,u=abw x t from r);subst e;exact w4 P w x t
def Kr{a b:Key}(e:kV a=kV b):a=b:=by
 cases a with
 |inl i=>cases b with
  |inl j=>have e':V.int i=V.int j:=e;injection e' with e';rw[e']
  |inr y=>exact nomatch (show V.int i=V.str y from e)
 |inr x=>cases b with
  |inl j=>exact nomatch (show V.str x=V.int j from e)
  |inr y=>have e':V.str x=V.str y:=e;injection e' with e';rw[e']
def Ay:∀{a b:List Key},a.map kV=b.map kV->a=b
 |[],[],_=>rfl
 |[],_::_,e=>by simp at e
 |_::_,[],e=>by simp at e
 |x::xs,y::ys,e=>by
  rw[Vi,Vi] at e;injection e with e1 e2
  rw[Kr e1,Ay e2]
def se{P:VG}{w:World}:∀{ks:List Key}{us:List Value},Vals (ks.map kV) us->ItemsAre (a6 P w) ks us
 |[],_,r=>by rw[W3] at r;cases r;exact .nil
 |k::ks,_,r=>by
  rw[Vi] at r;cases r with
  |cons h t=>exact .cons (sj h) (se t)
abbrev KT(H:Hp):List (List Key×V)->List (List Key×Addr×Value)->Prop:=aag λp q=>p.1=q.1/\H q.2.1=some (.tup (p.1.map kV))/\RelV p.2 q.2.2
def KT.val{H:Hp}{aA:List (List Key×V)}{xs:List (List Key×Addr×Value)}(r:KT H aA xs)(k:List Key):RelO (lI aA k) ((atKey xs k).map (·.2)):=by
 induction r with
 |nil=>exact WN
 | @cons p q ps qs h t ih=>
   obtain⟨h1,_,h2⟩:=h;by_cases e:p.1=k
   ·have e':q.1=k:=h1.symm.trans e;have b:atKey (q::qs) k=some q.2:=by simp[atKey,Yo,e']
    rw[lK e,b];exact h2
   ·have e':¬q.1=k:=λz=>e (h1.trans z);have b:atKey (q::qs) k=atKey qs k:=by simp[atKey,Yo,e']
    rw[lJ e,b];exact ih
def KT.repl{H:Hp}{aA:List (List Key×V)}{xs:List (List Key×Addr×Value)}(r:KT H aA xs)(k:List Key){y:V}{u:Value}(ry:RelV y u):
 KT H (aA.map λkv=>if kv.1=k then(kv.1,y) else kv) (xs.map (putAt k u)):=by
 induction r with
 |nil=>exact .nil
 | @cons p q ps qs h t ih=>
   rw[Vi,Vi];refine .cons ?_ ih;obtain⟨h1,h2,h3⟩:=h;unfold putAt;by_cases e:p.1=k
   ·rw[acI e,acI (h1.symm.trans e)];exact⟨h1,h2,ry⟩
   ·rw[acJ e,acJ (λz=>e (h1.trans z))];exact⟨h1,h2,h3⟩
def KT.put{H:Hp}{aA:List (List Key×V)}{xs:List (List Key×Addr×Value)}(r:KT H aA xs)(k:List Key){b:Addr}{y:V}{u:Value}(hb:H b=some (.tup (k.map kV)))(ry:RelV y u):
 KT H (putK aA k y) (YO xs k b u):=by
 have e:(aA.any λkv=>decide (kv.1=k))=(atKey xs k).isSome:=by
  rw[qp,(r.val k).isSome_eq,Z4]
 unfold putK YO;rw[e];by_cases q:(atKey xs k).isSome=true
 ·rw[acI q,acI q];exact r.repl k ry
 ·rw[acJ q,acJ q];exact Paired.snoc r ⟨rfl,hb,ry⟩
def KT.keeps{H H':Hp}{aA:List (List Key×V)}{xs:List (List Key×Addr×Value)}(r:KT H aA xs)(ht:∀b ys,H b=some (.tup ys)->H' b=some (.tup ys)):KT H' aA xs:=
 Paired.mapP r λ_ _ z=>⟨z.1,ht _ _ z.2.1,z.2.2⟩
section
variable{P:VG}{w:World}{H:Hp}{h:Heap}{a:Addr}
def Jt{u:HO}(ok:HOk P w H h)(e:Rd H a u):ObjOk P w H h a u:=e.ok ok
def rH{aA:List (Key×V)}(ok:HOk P w H h)(e:Rd H a (.dK aA)):aA.length<=VB/\(a==W0)=false/\∃vs,KV aA vs/\h.DictOf (a6 P w) a vs:=
 show ObjOk P w H h a (.dK aA) from Jt ok e
def IK{aA:List (Key×V)}(ok:HOk P w H h)(e:H a=some (.dK aA)):aA.length<=VB/\(a==W0)=false/\∃vs,KV aA vs/\h.DictOf (a6 P w) a vs:=rH ok (.inl e)
def j2{ks:List Key}(ok:HOk P w H h)(e:H a=some (.tup (ks.map kV))):(XM (a6 P w)).is h ks a:=by
 obtain⟨_,aB,r,o,h1,h2,n,h3⟩:=(show ObjOk P w H h a (.tup (ks.map kV)) from ok a _ e)
 exact⟨o,aB.toArray,n,h1,h2,h3,by simpa using se r⟩
def oD{aA:List (List Key×V)}(ok:HOk P w H h)(e:Rd H a (.dT aA)):aA.length<=VB/\(a==W0)=false/\
 ∃xs,KT H aA xs/\h.DictOfH (XM (a6 P w)) a xs:=by
 obtain⟨z,y,xs,r,o,es,ep,h1,h2,h3,h4,h5⟩:=(show ObjOk P w H h a (.dT aA) from Jt ok e)
 refine⟨z,y,xs,r,o,es,ep,h1,h2,h3,h4,λx hx=>?_,h5⟩;have all:∀{l:List (List Key×V)}{m:List (List Key×Addr×Value)},KT H l m->∀x∈m,(XM (a6 P w)).is h x.1 x.2.1:=by
  intro l m q;induction q with
  |nil=>intro x hx;exact nomatch hx
  | @cons p q ps qs hq t ih=>
    intro x hx;rcases Vo.mp hx with e | hx
    ·subst e;exact j2 ok (by rw[<-hq.1];exact hq.2.1)
    ·exact ih x hx
 exact all r x hx
def Dm{aA:List (List Key×V)}(ok:HOk P w H h)(e:H a=some (.dT aA)):aA.length<=VB/\(a==W0)=false/\
 ∃xs,KT H aA xs/\h.DictOfH (XM (a6 P w)) a xs:=oD ok (.inl e)
end
def qB(H:Hp)(a:Addr)(y:V)(r:Option V):Prop:=
 (∃aA k,Rd H a (.dK aA)/\y=kV k/\r=lI aA k)\/∃aA k b,Rd H a (.dT aA)/\y= .ref b/\H b=some (.tup (k.map kV))/\r=lI aA k
def DPut(H:Hp)(a:Addr)(y v:V)(H':Hp):Prop:=
 (∃aA k,H a=some (.dK aA)/\y=kV k/\aA.length<VB/\H'=upd H a (.dK (putK aA k v)))\/
 ∃aA k b,H a=some (.dT aA)/\y= .ref b/\H b=some (.tup (k.map kV))/\aA.length<VB/\H'=upd H a (.dT (putK aA k v))
def DPut.k{H:Hp}{a:Addr}{aA:List (Key×V)}{k:Key}{v:V}(e:H a=some (.dK aA))(hl:aA.length<VB):DPut H a (kV k) v (upd H a (.dK (putK aA k v))):= .inl ⟨aA,k,e,rfl,hl,rfl⟩
def DPut.t{H:Hp}{a b:Addr}{aA:List (List Key×V)}{k:List Key}{v:V}(e:H a=some (.dT aA))(eb:H b=some (.tup (k.map kV)))(hl:aA.length<VB):
 DPut H a (.ref b) v (upd H a (.dT (putK aA k v))):= .inr ⟨aA,k,b,e,rfl,eb,hl,rfl⟩
section
variable{X:Cx}{f8:List (Addr×Obj)}{σ:St}{H:Hp}{s:Vf}{a:Addr}{y v:V}{u r:Value}{o:Option V}{A:V2}{E:Value->Vf->Prop}
def Inv.big(I:Inv X f8 σ H s):W0<s.heap.objs.size:=by
 have h:VD<s.heap.objs.size:=(I.mod.glob.keeps I.bk).lt;exact XT (by decide) h
def Bm{Q:Value->Vf->Prop}(hu:A.units+1<cLine)(I:Inv X f8 σ H s)(g:qB H a y (some v))(ry:RelV y u)(h:∀w' s',Inv X f8 σ H s'->RelV v w'->Q w' s'):
 wpAny (model X.prog X.w) A (ZT (.ref a) u) Q E s:=by
 rcases g with⟨aA,k,e,ey,l⟩ | ⟨aA,k,b,e,ey,eb,l⟩
 ·subst ey;obtain⟨z,hd,vs,rel,dd⟩:=rH I.hok e;obtain⟨w',hw,CN⟩:=RelO.some_of (v:=v) (o:=abq vs k) (by rw[l];exact rel.val k);exact wpAny_getItem_of (sj ry) dd.mapOf hw (h w' _ (I.tok _) CN)
 ·subst ey;cases (show u=VQ b from ry);obtain⟨z,hd,xs,rel,dd⟩:=oD I.hok e;obtain⟨w',hw,CN⟩:=RelO.some_of (v:=v) (o:=(atKey xs k).map (·.2)) (by rw[l];exact rel.val k);obtain⟨p,hp,P1⟩:=Yq.mp hw;refine wpAny_getItem_heap (Zd hu) (j2 I.hok eb) dd hp ?_;rw[P1];exact h w' _ (I.tok _) CN
def O3{Q:Value->Vf->Prop}(hu:A.units+1<cLine)(I:Inv X f8 σ H s)(g:qB H a y o)(ry:RelV y u)(h:∀s',Inv X f8 σ H s'->Q (.bool o.isSome) s'):
 wpAny (model X.prog X.w) A (Ww .In u (.ref a)) Q E s:=by
 rcases g with⟨aA,k,e,ey,l⟩ | ⟨aA,k,b,e,ey,eb,l⟩
 ·subst ey;obtain⟨z,hd,vs,rel,dd⟩:=rH I.hok e;refine wpAny_in_of (sj ry) hd dd.mapOf ?_;rw[<-(rel.val k).isSome_eq,<-l];exact h _ (I.tok _)
 ·subst ey;cases (show u=VQ b from ry);obtain⟨z,hd,xs,rel,dd⟩:=oD I.hok e;refine wpAny_in_heap (Zd hu) (j2 I.hok eb) hd dd ?_;have q:=(rel.val k).isSome_eq;rw[Z4] at q;rw[<-q,<-l];exact h _ (I.tok _)
def GF{Q:Value->Vf->Prop}(hu:A.units+1<cLine)(I:Inv X f8 σ H s)(g:qB H a y o)(ry:RelV y u)(h:∀s',Inv X f8 σ H s'->Q (.bool (!o.isSome)) s'):
 wpAny (model X.prog X.w) A (Ww .NotIn u (.ref a)) Q E s:=by
 rcases g with⟨aA,k,e,ey,l⟩ | ⟨aA,k,b,e,ey,eb,l⟩
 ·subst ey;obtain⟨z,hd,vs,rel,dd⟩:=rH I.hok e;refine wpAny_notIn_of (sj ry) hd dd.mapOf ?_;rw[<-(rel.val k).isSome_eq,<-l];exact h _ (I.tok _)
 ·subst ey;cases (show u=VQ b from ry);obtain⟨z,hd,xs,rel,dd⟩:=oD I.hok e;refine wpAny_notIn_heap (Zd hu) (j2 I.hok eb) hd dd ?_;have q:=(rel.val k).isSome_eq;rw[Z4] at q;rw[<-q,<-l];exact h _ (I.tok _)
def kx{h':Heap}{t':Nat}{ob:HO}(I:Inv X f8 σ H s)(mu:Md (H a))(hs:WQ a s.heap h')(he:∃q,h'.get? a=some q)(new:ObjOk X.prog X.w (upd H a ob) h' a ob):
 Inv X f8 σ (upd H a ob) {s with heap:=h',toks:=t'}:=
 I.write (x:=a) (e:=a) mu (.inl rfl) (λb q hb z=>(hs.2 b hb).trans z) he new
def Dl{P:VG}{w:World}{H':Hp}{h':Heap}{aA:List (Key×V)}{vs:List (Key×Value)}(z:aA.length<=VB)(hd:(a==W0)=false)(rel:KV aA vs)(dd:h'.DictOf (a6 P w) a vs):
 ObjOk P w H' h' a (.dK aA):=⟨z,hd,vs,rel,dd⟩
def Bn{H':Hp}{Q:Unit->Vf->Prop}(hu:A.units+1<cLine)(I:Inv X f8 σ H s)(g:DPut H a y v H')(ry:RelV y u)(rv:RelV v r)(h:∀s',Inv X f8 σ H' s'->Q () s'):
 wpAny (model X.prog X.w) A (setItem (.ref a) u r) Q E s:=by
 rcases g with⟨aA,k,e,ey,l,eH⟩ | ⟨aA,k,b,e,ey,eb,l,eH⟩
 ·subst ey eH;obtain⟨z,hd,vs,rel,dd⟩:=IK I.hok e;have hz:vs.length<=VB:=by rw[<-rel.length];exact z
  have hl:(putK aA k v).length<=VB:=by have:=eU aA k v;omega
  refine wpAny_setItem_pairs (hsz:=hz) (sj ry) dd λh' Bo hs=>h _ ?_;have he:∃q,h'.get? a=some q:=let ⟨q,_,_,hq,_⟩:=Bo;⟨q,hq⟩
  exact kx I (by rw[e];exact WN) hs he (Dl hl hd (rel.put k rv) Bo)
 ·subst ey eH;cases (show u=VQ b from ry);obtain⟨z,hd,xs,rel,dd⟩:=Dm I.hok e;have hz:xs.length<=VB:=by rw[<-Xs rel];exact z
  have hl:(putK aA k v).length<=VB:=by have:=eU aA k v;omega
  refine wpAny_setItem_heap (hsz:=hz) (Zd hu) (j2 I.hok eb) dd λh' Bo hs=>h _ ?_;obtain⟨q,es,ep,hq,h2,h3,h4,_,h5⟩:=Bo;refine kx I (by rw[e];exact WN) hs ⟨q,hq⟩ ⟨hl,hd,_,(rel.put k eb rv).keeps λc ys ec=>?_,q,es,ep,hq,h2,h3,h4,h5⟩;rw[av (Er ec e (λz=>nomatch z))];exact ec
end
def Jy(i:Expr):Prop:=∀ov iv,subscripted i false ov iv=operate [ov,iv] (ZT ov iv)
def Iu{prog:VG}{w:World}{A:V2}{E:Value->Vf->Prop}{s:Vf}{env:Env}{value slice:Expr}{pos:Pos}{T id:String}{Q:Value->Vf->Prop}
 (hl:Z2 (.type T) "__getitem__"=pure (some (.builtin id)))(hs:Jy slice)
 (h:wpAny (model prog w) A (eval value env) (λo v6=>wpAny (model prog w) A (eval slice env) (λi v4=>v4.TypeIs o T/\wpAny (model prog w) A (ZT o i) Q E v4) E v6) E s):
 wpAny (model prog w) A (eval (.Subscript value slice pos) env) Q E s:=by
 refine Subscript_ (Wl h (λo v6 h₁=>Wl h₁ (λi v4 h₂=>?_) λ_ _ x=>x) λ_ _ x=>x);obtain⟨hT,h₂⟩:=h₂;unfold acf;refine U_ ?_;rw[getitemInPython_of_ne hT.not_modules];refine U_ (YZ hT hl ?_);have fin:wpAny (model prog w) A (subscripted slice false o i) (λr s₃=>wpAny (model prog w) A (letTemporaryGo value o r>>=λ_=>pure r) Q E s₃) E v4:=by
  rw[hs o i];exact wpAny_operating (Wl h₂ (λr s₃ h₃=>U_ (wpAny_letTemporaryGo (Va h₃))) λ_ _ x=>x)
 first
  |exact Va (U_ fin)
  |exact U_ (Va (U_ fin))
  |exact U_ fin
def wj{X:Cx}{f8:List (Addr×Obj)}{σ:St}{H:Hp}{s:Vf}{a:Addr}{y:V}{o:Option V}(I:Inv X f8 σ H s)(g:qB H a y o):s.TypeIs (.ref a) "dict":=by
 rcases g with⟨aA,k,e,_,_⟩ | ⟨aA,k,b,e,_,_,_⟩
 ·obtain⟨_,_,vs,_,dd⟩:=rH I.hok e;exact dd.typeIs
 ·obtain⟨_,_,xs,_,dd⟩:=oD I.hok e;exact dd.typeIs
def N6(td ty:TE):TE:=λσ H Q=>td σ H λx H1=>ty σ H1 λy H2=>∃a v,x= .ref a/\qB H2 a y (some v)/\Q v H2
def QO(ty td:TE):TE:=λσ H Q=>ty σ H λy H1=>td σ H1 λx H2=>∃a o,x= .ref a/\qB H2 a y o/\Q (.bl o.isSome) H2
def N2(td ty tv:TE):TS:=λD σ H=>tv σ H λv H1=>td σ H1 λx H2=>ty σ H2 λy H3=>∃a H4,x= .ref a/\DPut H3 a y v H4/\D.nx σ H4
section
variable{X:Cx}{o i value:Expr}{pos pos':Pos}{td ty tv:TE}
def HK(hu:X.A.units+1<cLine)(ho:PE X o td)(hi:PE X i ty)(hs:Jy i):PE X (.Subscript o i pos) (N6 td ty):=by
 intro f8 s σ H Q I h;refine Iu PySem.F.slot_dict_getitem.lookup hs (bV (ho f8 s σ H _ I h) λu s1 ⟨x,H1,I1,rx,q1⟩=>bV (hi f8 s1 σ H1 _ I1 q1) λiv s2 ⟨y,H2,I2,ry,a,v,ex,g,q2⟩=>?_);subst ex;obtain rfl:u=VQ a:=rx;exact⟨wj I2 g,Bm hu I2 g ry λw' s3 I3 CN=>⟨v,H2,I3,CN,q2⟩⟩
def KR(hu:X.A.units+1<cLine)(hi:PE X i ty)(ho:PE X o td):PC X .In i o (QO ty td):=by
 intro f8 s σ H Q I h;refine bV (hi f8 s σ H _ I h) λiv s1 ⟨y,H1,I1,ry,q1⟩=>bV (ho f8 s1 σ H1 _ I1 q1) λu s2 ⟨x,H2,I2,rx,a,ov,ex,g,q2⟩=>?_;subst ex;obtain rfl:u=VQ a:=rx;exact O3 hu I2 g ry λs3 I3=>⟨.bl ov.isSome,H2,I3,rfl,q2⟩
def HV(hu:X.A.units+1<cLine)(ho:PE X o td)(hi:PE X i ty)(hv:PE X value tv)(hs:Zr value (some (.Subscript o i pos')) pos.line X.env=pure false):
 PS X (.Assign [.Subscript o i pos'] value pos) (N2 td ty tv):=by
 intro f8 s σ H D I h;refine wpAny_Assign_Subscript (bV (hv f8 s σ H _ I h) λr s1 ⟨v,H1,I1,rv,q1⟩=>bV (ho f8 s1 σ H1 _ I1 q1) λu s2 ⟨x,H2,I2,rx,q2⟩=>bV (hi f8 s2 σ H2 _ I2 q2) λiv s3 ⟨y,H3,I3,ry,a,H4,ex,g,q3⟩=>?_) hs;subst ex;obtain rfl:u=VQ a:=rx;exact Bn hu I3 g ry rv λs4 I4=>⟨σ,H4,I4,q3⟩
end
def wk{P:VG}{w:World}{H:Hp}(h:Heap)(hb:W0<h.objs.size):ObjOk P w H (h.push {cls:= .type "dict",data:= .dict #[]}) h.objs.size (.dT []):=
 ⟨V1 _,acQ.mpr (Wv (VH hb)),[], .nil,_,#[],0,Vq _ rfl,⟨rfl,rfl,rfl⟩,rfl,rfl,YB⟩
def LF:TE:=λ_ H Q=>∀p,H p=none->Q (.ref p) (upd H p (.dT []))
section
variable{X:Cx}{pos:Pos}
def E8:PE X (.Dict [] [] pos) LF:=λf8 s σ H Q I h=>
 wpAny_Dict_empty ⟨.ref s.heap.objs.size,_,I.laid (a:=s.heap.objs.size) (o:= .dT []) (t':=s.toks) (λ_ _ q=>Vd _ q) (Vj _) (wk s.heap I.big),rfl,h _ (I.hok.fresh (Vj _))⟩
end
def FU:List (TE×TE)->St->Hp->(List (V×V)->Hp->Prop)->Prop
 |[],_,H,Q=>Q [] H
 |(tk,tv)::r,σ,H,Q=>tk σ H λx H1=>tv σ H1 λy H2=>FU r σ H2 λps H3=>Q ((x,y)::ps) H3
abbrev VV:List (V×V)->List (Value×Value)->Prop:=aag λp q=>RelV p.1 q.1/\RelV p.2 q.2
def OV(X:Cx)(pos:Pos)(keys:List (Option Expr))(values:List Expr)(OQ:List (TE×TE)):Prop:=
 ∀(f8:List (Addr×Obj)) (s:Vf) (σ:St) (H:Hp) (Q:List (V×V)->Hp->Prop),Inv X f8 σ H s->FU OQ σ H Q->
  wpAny (model X.prog X.w) X.A (evalPairs (pairTrees keys values X.env pos)) (λvs s'=>∃ps H',Inv X f8 σ H' s'/\VV ps vs/\Q ps H') X.xe s
def HR{X:Cx}{pos:Pos}:OV X pos [] [] []:=λf8 s σ H Q I h=>pairTrees_nil_walk ⟨[],H,I, .nil,h⟩
def Fd{X:Cx}{pos:Pos}{k v:Expr}{ks:List (Option Expr)}{vs:List Expr}{tk tv:TE}{OQ:List (TE×TE)}(hk:PE X k tk)(hv:PE X v tv)(hr:OV X pos ks vs OQ):
 OV X pos (some k::ks) (v::vs) ((tk,tv)::OQ):=λf8 s σ H Q I h=>
 pairTrees_cons_walk (bV (hk f8 s σ H _ I h) λu s1 ⟨x,H1,I1,rx,q1⟩=>bV (hv f8 s1 σ H1 _ I1 q1) λw2 s2 ⟨y,H2,I2,ry,q2⟩=>
  bV (hr f8 s2 σ H2 _ I2 q2) λws s3 ⟨ps,H3,I3,rel,q3⟩=>⟨(x,y)::ps,H3,I3, .cons ⟨rx,ry⟩ rel,q3⟩)
structure M1 (X:Cx) (o:Expr) (m:Str) (W1:Pos) (e:Expr) (aO:Pos):Prop where
 base:WK o m X.env (eval o X.env)=eval o X.env
 few:((W7 aO (Vs [e] X.env)).all (λx=>!x.1)&&(YA aO (Xf [] X.env)).all (λx=>x.1.isSome)
  &&decide (([e]:List Expr).length+([]:List Xb).length+(if ([]:List Xb).isEmpty then 0 else 1)<30))=true
 line:(W1.endLine==aO.line)=true
 trees:W7 aO (Vs [e] X.env)=[(false,eval e X.env)]
def QZ(H:Hp)(a:Addr):Prop:=(∃aA,Rd H a (.dK aA))\/∃aA,Rd H a (.dT aA)
def Kl{X:Cx}{f8:List (Addr×Obj)}{σ:St}{H:Hp}{s:Vf}{a:Addr}(I:Inv X f8 σ H s)(d:QZ H a):
 s.TypeIs (.ref a) "dict"/\(∀b,VQ a= .ref b->∃ob,s.heap.get? b=some ob/\ob.dict=none)/\(a==W0)=false:=by
 rcases d with⟨aA,e⟩ | ⟨aA,e⟩
 ·obtain⟨_,hd,vs,_,dd⟩:=rH I.hok e;refine⟨dd.typeIs,λb q=>?_,hd⟩;cases q;obtain⟨ob,_,_,h1,h2,_⟩:=dd;exact⟨ob,h1,h2.2.1⟩
 ·obtain⟨_,hd,xs,_,dd⟩:=oD I.hok e;refine⟨dd.typeIs,λb q=>?_,hd⟩;cases q;obtain⟨ob,_,_,h1,h2,_⟩:=dd;exact⟨ob,h1,h2.2.1⟩
end L2
namespace L3
open PySem PySem.Spec L2
open PyProof.Rows hiding St
inductive Rs (α:Type) where
 |ok (a:α) | ex (n:Nat)
def M(α:Type):=Option (Rs α)
def aa{α:Type}(a:α):M α:=some (.ok a)
def M.bind{α β:Type}(m:M α)(k:α->M β):M β:=match m with
 |none=>none
 |some (.ex n)=>some (.ex n)
 |some (.ok a)=>k a
def ag{α:Type}:M α:=none
def br{α:Type}(n:Nat):M α:=some (.ex n)
instance:Monad M where
 pure:=aa
 bind:=M.bind
@[simp] def au{α β:Type}(a:α)(k:α->M β):(aa a>>=k)=k a:=rfl
@[simp] def JD{α β:Type}(a:α)(k:α->M β):((pure a:M α)>>=k)=k a:=rfl
@[simp] def JE{α β:Type}(n:Nat)(k:α->M β):(br n>>=k)=br n:=rfl
@[simp] def JF{α β:Type}(k:α->M β):((ag:M α)>>=k)=ag:=rfl
def M.cs{α:Type}(m:M α):m=ag\/(∃n,m=br n)\/∃a,m=aa a:=by
 match m with
 |none=>exact .inl rfl
 |some (.ex n)=>exact .inr (.inl ⟨n,rfl⟩)
 |some (.ok a)=>exact .inr (.inr ⟨a,rfl⟩)
def fZ{α:Type}{a b:α}(h:aa a=aa b):a=b:=by
 have h:some (Rs.ok a)=some (Rs.ok b):=h;cases h;rfl
def jd{α:Type}{a:α}(h:ag=aa a):False:=by
 have h:none=some (Rs.ok a):=h;cases h
def Fq{α:Type}{n:Nat}{a:α}(h:br n=aa a):False:=by
 have h:some (Rs.ex n)=some (Rs.ok a):=h;cases h
def gM{α β:Type}{m:M α}{k:α->M β}{r:β}(h:(m>>=k)=aa r):∃a,m=aa a/\k a=aa r:=by
 rcases m.cs with e | ⟨n,e⟩ | ⟨a,e⟩
 ·subst e;exact(jd h).elim
 ·subst e;exact(Fq h).elim
 ·subst e;exact⟨a,rfl,h⟩
def z4(h:Heap)(ea D:Addr):Prop:=∃ox,h.get? ea=some ox/\ox.cls= .ref D
def Jx(ea D:Addr):HO:= .ext λh=>z4 h ea D
inductive D where
 |non | bl (b:Bool) | int (i:Int) | str (x:Str) | raw (v:V) | exc (C:Addr) | scr (l:List Int) | tup (l:List D) | lst (l:List D)
 |dct (ks:List (List Key)) (l:List D) | dci (ks:List Key) (l:List D)
instance:Inhabited D:=⟨.non⟩
def lim:Nat:=4096
def ck:lim<VB:=by rw[Xe];decide
mutual
def Den(K:Vn)(F:Hp):D->V->Prop
 | .non,v=>v= .non
 | .bl b,v=>v= .bl b
 | .int i,v=>v= .int i
 | .str x,v=>v= .str x/\x.length<=lim
 | .raw u,v=>v=u
 | .exc C,v=>∃ea,v= .ref ea/\F ea=some (Jx ea C)
 | .scr ns,v=>∃a,v= .ref a/\SqL K F a (ns.map V.int)/\ns.length<=lim
 | .tup ds,v=>∃a vs,v= .ref a/\F a=some (.tup vs)/\DenL K F ds vs/\ds.length<=lim
 | .lst ds,v=>∃a vs,v= .ref a/\F a=some (.lst vs)/\DenL K F ds vs/\ds.length<=lim
 | .dct ks ds,v=>∃a ob vs,v= .ref a/\F a=some (.frz ob (.dT (ks.zip vs)))/\DenL K F ds vs/\ks.length=ds.length/\ds.length<=lim
 | .dci ks ds,v=>∃a ob vs,v= .ref a/\F a=some (.frz ob (.dK (ks.zip vs)))/\DenL K F ds vs/\ks.length=ds.length/\ds.length<=lim
def DenL(K:Vn)(F:Hp):List D->List V->Prop
 |[],vs=>vs=[]
 |d::ds,vs=>∃v r,vs=v::r/\Den K F d v/\DenL K F ds r
end
def Same.rd{H H':Hp}{a:Addr}{u:HO}(e:Same H H')(h:Rd H a u):Rd H' a u:=by
 rcases h with h | ⟨o,h⟩
 ·exact .inl (e _ _ h)
 ·exact .inr ⟨o,e _ _ h⟩
def Same.tup{K:Vn}{H H':Hp}{a:Addr}{xs:List V}(e:Same H H')(h:SqT K H a xs):SqT K H' a xs:=by
 rcases h with h | h
 ·exact .inl (Same.rd e h)
 ·exact .inr h
section
variable{K:Vn}{F F':Hp}
mutual
def Den.mono(e:Same F F'):∀{d:D}{v:V},Den K F d v->Den K F' d v
 | .non,_,h=>h
 | .bl _,_,h=>h
 | .int _,_,h=>h
 | .str _,_,h=>h
 | .raw _,_,h=>h
 | .exc _,_,⟨a,h1,h2⟩=>⟨a,h1,e _ _ h2⟩
 | .scr _,_,⟨a,h1,h2,h3⟩=>⟨a,h1,Same.seq e h2,h3⟩
 | .tup _,_,⟨a,vs,h1,h2,h3,h4⟩=>⟨a,vs,h1,e _ _ h2,DenL.mono e h3,h4⟩
 | .lst _,_,⟨a,vs,h1,h2,h3,h4⟩=>⟨a,vs,h1,e _ _ h2,DenL.mono e h3,h4⟩
 | .dct _ _,_,⟨a,ob,vs,h1,h2,h3,h4⟩=>⟨a,ob,vs,h1,e _ _ h2,DenL.mono e h3,h4⟩
 | .dci _ _,_,⟨a,ob,vs,h1,h2,h3,h4⟩=>⟨a,ob,vs,h1,e _ _ h2,DenL.mono e h3,h4⟩
def DenL.mono(e:Same F F'):∀{ds:List D}{vs:List V},DenL K F ds vs->DenL K F' ds vs
 |[],_,h=>h
 |_::_,_,⟨v,r,h1,h2,h3⟩=>⟨v,r,h1,Den.mono e h2,DenL.mono e h3⟩
end
def DenL.nil:DenL K F [] []:=rfl
def DenL.cons{d:D}{v:V}{ds:List D}{vs:List V}(h:Den K F d v)(r:DenL K F ds vs):DenL K F (d::ds) (v::vs):=⟨v,vs,rfl,h,r⟩
def DenL.len:∀{ds:List D}{vs:List V},DenL K F ds vs->ds.length=vs.length
 |[],_,h=>by cases (show _=_ from h);rfl
 |_::ds,_,⟨v,r,h1,_,h3⟩=>by subst h1;rw[Vk,Vk,DenL.len h3]
def DenL.get:∀{ds:List D}{vs:List V}{i:Nat}{d:D},DenL K F ds vs->ds[i]? =some d->∃v,vs[i]? =some v/\Den K F d v
 |[],_,_,_,_,e=>by simp at e
 |d::ds,_,0,_,⟨v,r,h1,h2,h3⟩,e=>by subst h1;simp at e;subst e;exact⟨v,rfl,h2⟩
 |d::ds,_,i+1,_,⟨v,r,h1,h2,h3⟩,e=>by
  subst h1;obtain⟨w,e1,e2⟩:=DenL.get (i:=i) h3 (by simpa using e);exact⟨w,by simpa using e1,e2⟩
def DenL.at:∀{ds:List D}{vs:List V}{i:Nat}{v:V},DenL K F ds vs->vs[i]? =some v->∃d,ds[i]? =some d/\Den K F d v
 |[],_,_,_,h,e=>by cases (show _=_ from h);simp at e
 |d::ds,_,0,_,⟨v,r,h1,h2,h3⟩,e=>by subst h1;simp at e;subst e;exact⟨d,rfl,h2⟩
 |d::ds,_,i+1,_,⟨v,r,h1,h2,h3⟩,e=>by
  subst h1;obtain⟨w,e1,e2⟩:=DenL.at (i:=i) h3 (by simpa using e);exact⟨w,by simpa using e1,e2⟩
def DenL.append:∀{ds es:List D}{vs ws:List V},DenL K F ds vs->DenL K F es ws->DenL K F (ds++es) (vs++ws)
 |[],_,_,_,h,h'=>by cases (show _=_ from h);exact h'
 |d::ds,_,_,_,⟨v,r,h1,h2,h3⟩,h'=>by subst h1;exact⟨v,_,rfl,h2,DenL.append h3 h'⟩
def DenL.take:∀{ds:List D}{vs:List V}(n:Nat),DenL K F ds vs->DenL K F (ds.take n) (vs.take n)
 |_,_,0,_=>by simp[List.take];rfl
 |[],_,_+1,h=>by cases (show _=_ from h);rfl
 |d::ds,_,n+1,⟨v,r,h1,h2,h3⟩=>by subst h1;exact⟨v,_,rfl,h2,DenL.take n h3⟩
def DenL.drop:∀{ds:List D}{vs:List V}(n:Nat),DenL K F ds vs->DenL K F (ds.drop n) (vs.drop n)
 |_,_,0,h=>by simpa using h
 |[],_,_+1,h=>by cases (show _=_ from h);rfl
 |d::ds,_,n+1,⟨v,r,h1,h2,h3⟩=>by subst h1;exact DenL.drop n h3
def DenL.ints(ns:List Int):DenL K F (ns.map D.int) (ns.map V.int):=by
 induction ns with
 |nil=>rfl
 |cons n ns ih=>exact .cons rfl ih
end
structure Ext (F H F' H':Hp):Prop where
 hh:Same H H'
 ff:Same F F'
 fh:Same F' H'
 new:∀a,H a≠none->F' a=F a\/∃ts,H a=some (.tup ts)
def Ext.old{F H F' H':Hp}(e:Ext F H F' H'){a:Addr}{o:HO}(h:H a=some o)(hn:∀ts,o≠ .tup ts):F' a=F a:=by
 rcases e.new a (by rw[h];exact λz=>nomatch z) with q | ⟨ts,q⟩
 ·exact q
 ·rw[h] at q;cases q;exact acK rfl (hn ts)
def Ext.refl{F H:Hp}(h:Same F H):Ext F H F H:=⟨Same.refl _,Same.refl _,h,λ_ _=> .inl rfl⟩
def Ext.trans{F H F' H' F'' H'':Hp}(a:Ext F H F' H')(b:Ext F' H' F'' H''):Ext F H F'' H'':=
 ⟨a.hh.trans b.hh,a.ff.trans b.ff,b.fh,λc hc=>by
  have:H' c≠none:=by
   cases q:H c with
   |none=>exact acK q hc
   |some o=>rw[a.hh c o q];exact λz=>nomatch z
  rcases a.new c hc with p | p
  ·rcases b.new c this with q | ⟨ts,q⟩
   ·exact .inl (q.trans p)
   ·cases z:H c with
    |none=>exact acK z hc
    |some o=>
     rw[a.hh c o z] at q;exact .inr ⟨ts,q⟩
  ·exact .inr p⟩
def Ext.lay{F H:Hp}{a:Addr}{o:HO}(h:Same F H)(n:H a=none):Ext F H (upd F a o) (upd H a o):=by
 have nf:F a=none:=Same.free h n;refine⟨λb u e=>?_,λb u e=>?_,λb u e=>?_,λb hb=>?_⟩
 ·rw[av (a_ e n)];exact e
 ·rw[av (a_ e nf)];exact e
 ·by_cases q:b=a
  ·subst q;rw[aD] at e⊢;exact e
  ·rw[av q] at e⊢;exact h b u e
 ·exact .inl (av λz=>hb (by rw[z];exact n))
def Ext.free{F H:Hp}{a:Addr}{o:HO}(h:Same F H)(n:H a=none):Ext F H F (upd H a o):=
 ⟨λb u e=>by rw[av (a_ e n)];exact e,Same.refl _,λb u e=>by rw[av (a_ (h b u e) n)];exact h b u e,λ_ _=> .inl rfl⟩
def Ext.tup{F H:Hp}{a:Addr}{ts:List V}(h:Same F H)(e:H a=some (.tup ts)):Ext F H (upd F a (.tup ts)) H:=by
 refine⟨Same.refl _,λb u q=>?_,λb u q=>?_,λb hb=>?_⟩
 ·by_cases z:b=a
  ·subst z;rw[aD,<-e];exact h b u q
  ·rw[av z];exact q
 ·by_cases z:b=a
  ·subst z;rw[aD] at q;rw[e];exact q
  ·rw[av z] at q;exact h b u q
 ·by_cases z:b=a
  ·subst z;exact .inr ⟨ts,e⟩
  ·exact .inl (av z)
def WP(K:Vn)(Xw:Nat->Hp->Prop)(F H:Hp)(m:M D)(Q:VK):Prop:=
 match m with
 |none=>False
 |some (.ok d)=>∀v H' F',Ext F H F' H'->Den K F' d v->Q v H'
 |some (.ex n)=>∀F' H',Ext F H F' H'->Xw n H'
def WPL(K:Vn)(Xw:Nat->Hp->Prop)(F H:Hp)(m:M (List D))(Q:List V->Hp->Prop):Prop:=
 match m with
 |none=>False
 |some (.ok ds)=>∀vs H' F',Ext F H F' H'->DenL K F' ds vs->Q vs H'
 |some (.ex n)=>∀F' H',Ext F H F' H'->Xw n H'
def WPB(Xw:Nat->Hp->Prop)(F H:Hp)(m:M Bool)(Q:Bool->Hp->Prop):Prop:=
 match m with
 |none=>False
 |some (.ok b)=>∀H' F',Ext F H F' H'->Q b H'
 |some (.ex n)=>∀F' H',Ext F H F' H'->Xw n H'
section
variable{K:Vn}{Xw:Nat->Hp->Prop}{F F' H H':Hp}{Q:VK}
def WP.ext{m:M D}(e:Ext F H F' H')(h:WP K Xw F H m Q):WP K Xw F' H' m Q:=by
 match m,h with
 |none,h=>exact h
 |some (.ok d),h=>exact λv H2 F2 e2 q=>h v H2 F2 (e.trans e2) q
 |some (.ex n),h=>exact λF2 H2 e2=>h F2 H2 (e.trans e2)
def WPL.ext{m:M (List D)}{Q:List V->Hp->Prop}(e:Ext F H F' H')(h:WPL K Xw F H m Q):WPL K Xw F' H' m Q:=by
 match m,h with
 |none,h=>exact h
 |some (.ok d),h=>exact λv H2 F2 e2 q=>h v H2 F2 (e.trans e2) q
 |some (.ex n),h=>exact λF2 H2 e2=>h F2 H2 (e.trans e2)
def WPB.ext{m:M Bool}{Q:Bool->Hp->Prop}(e:Ext F H F' H')(h:WPB Xw F H m Q):WPB Xw F' H' m Q:=by
 match m,h with
 |none,h=>exact h
 |some (.ok d),h=>exact λH2 F2 e2=>h H2 F2 (e.trans e2)
 |some (.ex n),h=>exact λF2 H2 e2=>h F2 H2 (e.trans e2)
def WP.fin{d:D}{v:V}(h:WP K Xw F H (aa d) Q)(e:Ext F H F' H')(q:Den K F' d v):Q v H':=h v H' F' e q
def WP.now{d:D}{v:V}(h:WP K Xw F H (aa d) Q)(s:Same F H)(q:Den K F d v):Q v H:=h v H F (Ext.refl s) q
def WP.bind{m:M D}{k:D->M D}(h:WP K Xw F H (m>>=k) Q):WP K Xw F H m λv H1=>∃F1 d,Ext F H F1 H1/\Den K F1 d v/\WP K Xw F1 H1 (k d) Q:=by
 match m,h with
 |none,h=>exact h
 |some (.ok d),h=>exact λv H2 F2 e2 q=>⟨F2,d,e2,q,WP.ext e2 (show WP K Xw F H (k d) Q from h)⟩
 |some (.ex n),h=>exact h
def WP.bindL{m:M (List D)}{k:List D->M D}(h:WP K Xw F H (m>>=k) Q):WPL K Xw F H m λvs H1=>∃F1 ds,Ext F H F1 H1/\DenL K F1 ds vs/\WP K Xw F1 H1 (k ds) Q:=by
 match m,h with
 |none,h=>exact h
 |some (.ok d),h=>exact λv H2 F2 e2 q=>⟨F2,d,e2,q,WP.ext e2 (show WP K Xw F H (k d) Q from h)⟩
 |some (.ex n),h=>exact h
def WP.bindB{m:M Bool}{k:Bool->M D}(h:WP K Xw F H (m>>=k) Q):WPB Xw F H m λb H1=>∃F1,Ext F H F1 H1/\WP K Xw F1 H1 (k b) Q:=by
 match m,h with
 |none,h=>exact h
 |some (.ok d),h=>exact λH2 F2 e2=>⟨F2,e2,WP.ext e2 (show WP K Xw F H (k d) Q from h)⟩
 |some (.ex n),h=>exact h
def WPB.bind{m:M D}{k:D->M Bool}{Q:Bool->Hp->Prop}(h:WPB Xw F H (m>>=k) Q):WP K Xw F H m λv H1=>∃F1 d,Ext F H F1 H1/\Den K F1 d v/\WPB Xw F1 H1 (k d) Q:=by
 match m,h with
 |none,h=>exact h
 |some (.ok d),h=>exact λv H2 F2 e2 q=>⟨F2,d,e2,q,WPB.ext e2 (show WPB Xw F H (k d) Q from h)⟩
 |some (.ex n),h=>exact h
def WPB.bindB{m:M Bool}{k:Bool->M Bool}{Q:Bool->Hp->Prop}(h:WPB Xw F H (m>>=k) Q):WPB Xw F H m λb H1=>∃F1,Ext F H F1 H1/\WPB Xw F1 H1 (k b) Q:=by
 match m,h with
 |none,h=>exact h
 |some (.ok d),h=>exact λH2 F2 e2=>⟨F2,e2,WPB.ext e2 (show WPB Xw F H (k d) Q from h)⟩
 |some (.ex n),h=>exact h
def WPL.bind{m:M D}{k:D->M (List D)}{Q:List V->Hp->Prop}(h:WPL K Xw F H (m>>=k) Q):WP K Xw F H m λv H1=>∃F1 d,Ext F H F1 H1/\Den K F1 d v/\WPL K Xw F1 H1 (k d) Q:=by
 match m,h with
 |none,h=>exact h
 |some (.ok d),h=>exact λv H2 F2 e2 q=>⟨F2,d,e2,q,WPL.ext e2 (show WPL K Xw F H (k d) Q from h)⟩
 |some (.ex n),h=>exact h
def WPL.bindL{m:M (List D)}{k:List D->M (List D)}{Q:List V->Hp->Prop}(h:WPL K Xw F H (m>>=k) Q):WPL K Xw F H m λvs H1=>∃F1 ds,Ext F H F1 H1/\DenL K F1 ds vs/\WPL K Xw F1 H1 (k ds) Q:=by
 match m,h with
 |none,h=>exact h
 |some (.ok d),h=>exact λv H2 F2 e2 q=>⟨F2,d,e2,q,WPL.ext e2 (show WPL K Xw F H (k d) Q from h)⟩
 |some (.ex n),h=>exact h
def WP.mono{m:M D}{Q':VK}(h:WP K Xw F H m Q)(k:∀v H',Q v H'->Q' v H'):WP K Xw F H m Q':=by
 match m,h with
 |none,h=>exact h
 |some (.ok d),h=>exact λv H2 F2 e2 q=>k _ _ (h v H2 F2 e2 q)
 |some (.ex n),h=>exact h
def WPL.mono{m:M (List D)}{Q Q':List V->Hp->Prop}(h:WPL K Xw F H m Q)(k:∀v H',Q v H'->Q' v H'):WPL K Xw F H m Q':=by
 match m,h with
 |none,h=>exact h
 |some (.ok d),h=>exact λv H2 F2 e2 q=>k _ _ (h v H2 F2 e2 q)
 |some (.ex n),h=>exact h
def WPB.mono{m:M Bool}{Q Q':Bool->Hp->Prop}(h:WPB Xw F H m Q)(k:∀v H',Q v H'->Q' v H'):WPB Xw F H m Q':=by
 match m,h with
 |none,h=>exact h
 |some (.ok d),h=>exact λH2 F2 e2=>k _ _ (h H2 F2 e2)
 |some (.ex n),h=>exact h
end
inductive C where
 |lst (l:List D) | dct (ks:List (List Key)) (l:List D) | dci (ks:List Key) (l:List D)
def C.d:C->D
 | .lst ds=> .lst ds
 | .dct ks ds=> .dct ks ds
 | .dci ks ds=> .dci ks ds
inductive Sl where
 |fz (d:D) | ow (c:C)
abbrev aQ:=List (Option Sl)
def DenC(K:Vn)(F:Hp):C->HO->Prop
 | .lst ds,o=>∃vs,o= .lst vs/\DenL K F ds vs/\ds.length<=lim
 | .dct ks ds,o=>∃vs,o= .dT (ks.zip vs)/\DenL K F ds vs/\ks.length=ds.length/\ds.length<=lim
 | .dci ks ds,o=>∃vs,o= .dK (ks.zip vs)/\DenL K F ds vs/\ks.length=ds.length/\ds.length<=lim
def DenC.mono{K:Vn}{F F':Hp}(e:Same F F'):∀{c:C}{o:HO},DenC K F c o->DenC K F' c o
 | .lst _,_,⟨vs,h1,h2,h3⟩=>⟨vs,h1,DenL.mono e h2,h3⟩
 | .dct _ _,_,⟨vs,h1,h2,h3⟩=>⟨vs,h1,DenL.mono e h2,h3⟩
 | .dci _ _,_,⟨vs,h1,h2,h3⟩=>⟨vs,h1,DenL.mono e h2,h3⟩
def DenC.notup{K:Vn}{F:Hp}:∀{c:C}{o:HO},DenC K F c o->∀ts,o≠ .tup ts
 | .lst _,_,⟨_,h1,_⟩,ts,z=>by rw[h1] at z;cases z
 | .dct _ _,_,⟨_,h1,_⟩,ts,z=>by rw[h1] at z;cases z
 | .dci _ _,_,⟨_,h1,_⟩,ts,z=>by rw[h1] at z;cases z
def nB(ob:Obj):HO->HO
 | .dT aA=> .frz ob (.dT aA)
 | .dK aA=> .frz ob (.dK aA)
 |o=>o
def DenC.den{K:Vn}{F F':Hp}{a:Addr}{ob:Obj}:∀{c:C}{o:HO},DenC K F c o->Same F F'->F' a=some (nB ob o)->Den K F' c.d (.ref a)
 | .lst _,_,⟨vs,h1,h2,h3⟩,e,q=>by subst h1;exact⟨a,vs,rfl,q,DenL.mono e h2,h3⟩
 | .dct _ _,_,⟨vs,h1,h2,h3⟩,e,q=>by subst h1;exact⟨a,ob,vs,rfl,q,DenL.mono e h2,h3⟩
 | .dci _ _,_,⟨vs,h1,h2,h3⟩,e,q=>by subst h1;exact⟨a,ob,vs,rfl,q,DenL.mono e h2,h3⟩
def DenO(K:Vn)(F H:Hp):Sl->V->Prop
 | .fz d,v=>Den K F d v
 | .ow c,v=>∃a o,v= .ref a/\H a=some o/\F a=none/\DenC K F c o
structure StE (K:Vn) (F H:Hp) (σ:St) (ρ:aQ):Prop where
 fh:Same F H
 den:∀(i:Nat) (sl:Sl),ρ[i]? =some (some sl)->∃v,σ[i]? =some (some v)/\DenO K F H sl v
def DenO.ext{K:Vn}{F H F' H':Hp}(e:Ext F H F' H'):∀{sl:Sl}{v:V},DenO K F H sl v->DenO K F' H' sl v
 | .fz _,_,h=>Den.mono e.ff h
 | .ow _,_,⟨a,o,h1,h2,h3,h4⟩=>⟨a,o,h1,e.hh _ _ h2,by rw[e.old h2 h4.notup];exact h3,DenC.mono e.ff h4⟩
def StE.ext{K:Vn}{F H F' H':Hp}{σ:St}{ρ:aQ}(s:StE K F H σ ρ)(e:Ext F H F' H'):StE K F' H' σ ρ:=
 ⟨e.fh,λi sl q=>let ⟨v,h1,h2⟩:=s.den i sl q;⟨v,h1,h2.ext e⟩⟩
abbrev DE:=aQ->M D
abbrev DT:=aQ->M Bool
abbrev DA:=aQ->M (List D)
def tD(K:Vn)(Xw:Nat->Hp->Prop)(δ:DE):TE:=λσ H Q=>∃F ρ,StE K F H σ ρ/\WP K Xw F H (δ ρ) Q
def QP(K:Vn)(Xw:Nat->Hp->Prop)(δ:DT):TT:=λσ H Q=>∃F ρ,StE K F H σ ρ/\WPB Xw F H (δ ρ) Q
def Sb(K:Vn)(Xw:Nat->Hp->Prop)(δ:DA):TA:=λσ H Q=>∃F ρ,StE K F H σ ρ/\WPL K Xw F H (δ ρ) Q
def PD(X:Cx)(Xw:Nat->Hp->Prop)(e:Expr)(δ:DE):Prop:=PE X e (tD X.K Xw δ)
def qC(X:Cx)(Xw:Nat->Hp->Prop)(e:Expr)(δ:DT):Prop:=PT X e (QP X.K Xw δ)
def iu(X:Cx)(Xw:Nat->Hp->Prop)(es:List Expr)(δ:DA):Prop:=PA X es (Sb X.K Xw δ)
def PE.weak{X:Cx}{e:Expr}{t t':TE}(h:PE X e t)(k:∀σ H Q,t' σ H Q->t σ H Q):PE X e t':=λf8 s σ H Q I w=>h f8 s σ H Q I (k σ H Q w)
def PT.weak{X:Cx}{e:Expr}{t t':TT}(h:PT X e t)(k:∀σ H Q,t' σ H Q->t σ H Q):PT X e t':=λf8 s σ H Q I w=>h f8 s σ H Q I (k σ H Q w)
def PA.weak{X:Cx}{e:List Expr}{t t':TA}(h:PA X e t)(k:∀σ H Q,t' σ H Q->t σ H Q):PA X e t':=λpos f8 s σ H Q I w=>h pos f8 s σ H Q I (k σ H Q w)
def dV(i:Nat):DE:=λρ=>match ρ[i]? with
 |some (some (.fz d))=>aa d
 |_=>ag
def dC(d:D):DE:=λ_=>aa d
def d1(g:D->M D)(a:DE):DE:=λρ=>a ρ>>=g
def d2(g:D->D->M D)(a b:DE):DE:=λρ=>a ρ>>=λx=>b ρ>>=λy=>g x y
def aN:DA:=λ_=>aa []
def aC(a:DE)(r:DA):DA:=λρ=>a ρ>>=λx=>r ρ>>=λxs=>aa (x::xs)
def dA(g:List D->M D)(a:DA):DE:=λρ=>a ρ>>=g
def CY:D->M Bool
 | .bl b=>aa b
 |_=>ag
def dN(a:DE):DT:=λρ=>a ρ>>=CY
def ku(a b:DT):DT:=λρ=>a ρ>>=λx=>if x then b ρ else aa false
def oA(a b:DT):DT:=λρ=>a ρ>>=λx=>if x then aa true else b ρ
def dQ(a:DT):DT:=λρ=>a ρ>>=λx=>aa (!x)
def Q7(c:DT)(a b:DE):DE:=λρ=>c ρ>>=λx=>if x then a ρ else b ρ
def eQ(a b:DE):DE:=λρ=>a ρ>>=λx=>CY x>>=λc=>if c then b ρ else aa (.bl false)
def IH(a:DE):DE:=λρ=>a ρ>>=λx=>CY x>>=λc=>aa (.bl (!c))
section
variable{X:Cx}{Xw:Nat->Hp->Prop}{a b:Expr}{δa δb:DE}{pos:Pos}
def af{i:Nat}{x:Str}(h:PE X (.Name x pos) (qm i)):PD X Xw (.Name x pos) (dV i):=PE.weak h λσ H Q ⟨F,ρ,s,w⟩=>by
 unfold dV at w;split at w
 ·rename_i d e;obtain⟨v,h1,h2⟩:=s.den i _ e;exact⟨v,h1,WP.now w s.fh h2⟩
 ·exact w.elim
def gD{e:Expr}{d:D}{v:V}(h:PE X e (tC v))(hd:∀F,Den X.K F d v):PD X Xw e (dC d):=PE.weak h λσ H Q ⟨F,ρ,s,w⟩=>WP.now w s.fh (hd F)
def ar{i j}:PD X Xw (.Constant (.int i) j pos) (dC (.int i)):=gD K4 λ_=>rfl
def gB{i j}:PD X Xw (.Constant (.bool i) j pos) (dC (.bl i)):=gD NH λ_=>rfl
def zy{j}:PD X Xw (.Constant .none j pos) (dC .non):=gD K5 λ_=>rfl
def bO{x j}(h:x.length<=lim:=by decide):PD X Xw (.Constant (.str x) j pos) (dC (.str x)):=gD K8 λ_=>⟨rfl,h⟩
def yp(K:Vn)(r:R2)(g:D->D->M D):Prop:=∀(Xw:Nat->Hp->Prop) (F H:Hp) (x y:V) (dx dy:D) (Q:VK),Same F H->Den K F dx x->Den K F dy y->WP K Xw F H (g dx dy) Q->r x y H Q
def vA{r:R2}{g:D->D->M D}(hg:yp X.K r g):∀σ H Q,tD X.K Xw (d2 g δa δb) σ H Q->N_ r (tD X.K Xw δa) (tD X.K Xw δb) σ H Q:=λσ H Q ⟨F,ρ,s,w⟩=>by
 refine⟨F,ρ,s,WP.mono (WP.bind w) λv H1 ⟨F1,d,e1,q1,w1⟩=>?_⟩;refine⟨F1,ρ,s.ext e1,WP.mono (WP.bind w1) λu H2 ⟨F2,d',e2,q2,w2⟩=>?_⟩;exact hg Xw F2 H2 v u d d' Q e2.fh (Den.mono e2.ff q1) q2 w2
def lj{op:Operator}{r:R2}{g:D->D->M D}(ho:OpR X (Yz op) r)(hg:yp X.K r g)(ha:PD X Xw a δa)(hb:PD X Xw b δb):PD X Xw (.BinOp a op b pos) (d2 g δa δb):=
 PE.weak (NJ ho ha hb) (vA hg)
def ES{op:CmpOp}{r:R2}{g:D->D->M D}(ho:OpR X (Ww op) r)(hg:yp X.K r g)(ha:PD X Xw a δa)(hb:PD X Xw b δb)(hm:WJ op b=false:=by first | exact Ez _ | rfl):PD X Xw (.Compare a [op] [b] pos) (d2 g δa δb):=
 PE.weak (HJ ho ha hb hm) (vA hg)
def lp{op:CmpOp}{r:R2}{g:D->D->M D}(ho:OpR X (Ww op) r)(hg:yp X.K r g)(ha:PD X Xw a δa)(hb:PD X Xw b δb)(hm:WJ op b=false:=by first | exact Ez _ | rfl):qC X Xw (.Compare a [op] [b] pos) (dN (d2 g δa δb)):=
 PT.weak (H_ ho ha hb hm) λσ H Q ⟨F,ρ,s,w⟩=>by
  refine vA hg σ H _ ⟨F,ρ,s,WP.mono (WPB.bind w) λv H1 ⟨F1,d,e1,q1,w1⟩=>?_⟩;cases d with
  |bl k=>exact⟨k,q1,w1 _ _ (Ext.refl e1.fh)⟩
  |_=>exact w1.elim
def AN{r:R2}{g:D->D->M D}(hr:Mc X r)(hg:yp X.K r g)(ha:PD X Xw a δa)(hb:PD X Xw b δb)(hs:jf b:=by intro _ _;rfl):PD X Xw (.Subscript a b pos) (d2 g δa δb):=
 PE.weak (NI hr ha hb hs) (vA hg)
def ah:iu X Xw [] aN:=PA.weak uO λσ H Q ⟨F,ρ,s,w⟩=>w [] H F (Ext.refl s.fh) rfl
def ae{es:List Expr}{δs:DA}(ha:PD X Xw a δa)(hr:iu X Xw es δs)(hs:Vs (a::es) X.env=(false,eval a X.env)::Vs es X.env:=by rfl):iu X Xw (a::es) (aC δa δs):=
 PA.weak (uN ha hr hs) λσ H Q ⟨F,ρ,s,w⟩=>by
  refine⟨F,ρ,s,WP.mono (WPL.bind w) λv H1 ⟨F1,d,e1,q1,w1⟩=>?_⟩;refine⟨F1,ρ,s.ext e1,WPL.mono (WPL.bindL w1) λvs H2 ⟨F2,ds,e2,q2,w2⟩=>?_⟩;exact w2 _ _ _ (Ext.refl e2.fh) (.cons (Den.mono e2.ff q1) q2)
def aR(ds:List D):M D:=if ds.length<=lim then aa (.tup ds) else ag
def dW(ds:List D):M D:=if ds.length<=lim then aa (.lst ds) else ag
def zf{ds:List D}{f:List D->D}{Q:VK}{F H:Hp}(w:WP X.K Xw F H (if ds.length<=lim then aa (f ds) else ag) Q):ds.length<=lim/\WP X.K Xw F H (aa (f ds)) Q:=by
 split at w
 ·rename_i h;exact⟨h,w⟩
 ·exact w.elim
def bW{x1}{es:List Expr}{δs:DA}(h:iu X Xw es δs):PD X Xw (.Tuple es x1 pos) (dA aR δs):=PE.weak (K9 h) λσ H Q ⟨F,ρ,s,w⟩=>by
 refine⟨F,ρ,s,WPL.mono (WP.bindL w) λvs H1 ⟨F1,ds,e1,q1,w1⟩=>?_⟩;obtain⟨hl,w1⟩:=zf (X:=X) w1;have hv:=q1.len;refine⟨by have:=ck;omega,λp hp=>WP.fin w1 (Ext.lay e1.fh hp) ⟨p,vs,rfl,aD,DenL.mono (Ext.lay e1.fh hp).ff q1,hl⟩⟩
def gj{es:List Expr}{δs:DA}(h:iu X Xw es δs):PD X Xw (.List es pos) (dA dW δs):=PE.weak (E_ h) λσ H Q ⟨F,ρ,s,w⟩=>by
 refine⟨F,ρ,s,WPL.mono (WP.bindL w) λvs H1 ⟨F1,ds,e1,q1,w1⟩=>?_⟩;obtain⟨hl,w1⟩:=zf (X:=X) w1;have hv:=q1.len;refine⟨by have:=ck;omega,λp hp=>WP.fin w1 (Ext.lay e1.fh hp) ⟨p,vs,rfl,aD,DenL.mono (Ext.lay e1.fh hp).ff q1,hl⟩⟩
end
def ItD(K:Vn)(F:Hp)(J:It)(ds:List D):Prop:=∀(F' H':Hp) (i:Nat),Same F F'->Same F' H'->
 (∀d,ds[i]? =some d->J.go i H'/\∀x H'',J.yld i H' x H''->∃F'',Ext F' H' F'' H''/\Den K F'' d x)/\(ds.length<=i->J.stop i H')
def ItD.mono{K:Vn}{F F1:Hp}{J:It}{ds:List D}(h:ItD K F J ds)(e:Same F F1):ItD K F1 J ds:=λF' H' i s1 s2=>h F' H' i (e.trans s1) s2
def WPI(K:Vn)(Xw:Nat->Hp->Prop)(F H:Hp)(m:M (List D))(R:It->Hp->Prop):Prop:=
 match m with
 |none=>False
 |some (.ok ds)=>∀J H' F',Ext F H F' H'->ItD K F' J ds->R J H'
 |some (.ex n)=>∀F' H',Ext F H F' H'->Xw n H'
def UA(K:Vn)(Xw:Nat->Hp->Prop)(δ:DA):TI:=λσ H R=>∃F ρ,StE K F H σ ρ/\WPI K Xw F H (δ ρ) R
def yu(X:Cx)(Xw:Nat->Hp->Prop)(tg iter:Expr)(δ:DA):Prop:=PI X tg iter (UA X.K Xw δ)
def PI.weak{X:Cx}{tg e:Expr}{t t':TI}(h:PI X tg e t)(k:∀σ H Q,t' σ H Q->t σ H Q):PI X tg e t':=λf8 s σ H Q I w=>h f8 s σ H Q I (k σ H Q w)
def WPI.bind{K:Vn}{Xw:Nat->Hp->Prop}{F H:Hp}{m:M D}{k:D->M (List D)}{R:It->Hp->Prop}(h:WPI K Xw F H (m>>=k) R):
 WP K Xw F H m λv H1=>∃F1 d,Ext F H F1 H1/\Den K F1 d v/\WPI K Xw F1 H1 (k d) R:=by
 match m,h with
 |none,h=>exact h
 |some (.ok d),h=>
  refine λv H2 F2 e2 q=>⟨F2,d,e2,q,?_⟩
  have h:WPI K Xw F H (k d) R:=h;show WPI K Xw F2 H2 (k d) R
  match k d,h with
  |none,h=>exact h
  |some (.ok ds),h=>exact λJ H3 F3 e3 q3=>h J H3 F3 (e2.trans e3) q3
  |some (.ex n),h=>exact λF3 H3 e3=>h F3 H3 (e2.trans e3)
 |some (.ex n),h=>exact h
def WPI.bindL{K:Vn}{Xw:Nat->Hp->Prop}{F H:Hp}{m:M (List D)}{k:List D->M (List D)}{R:It->Hp->Prop}(h:WPI K Xw F H (m>>=k) R):
 WPL K Xw F H m λv H1=>∃F1 d,Ext F H F1 H1/\DenL K F1 d v/\WPI K Xw F1 H1 (k d) R:=by
 match m,h with
 |none,h=>exact h
 |some (.ok d),h=>
  refine λv H2 F2 e2 q=>⟨F2,d,e2,q,?_⟩
  have h:WPI K Xw F H (k d) R:=h;show WPI K Xw F2 H2 (k d) R
  match k d,h with
  |none,h=>exact h
  |some (.ok ds),h=>exact λJ H3 F3 e3 q3=>h J H3 F3 (e2.trans e3) q3
  |some (.ex n),h=>exact λF3 H3 e3=>h F3 H3 (e2.trans e3)
 |some (.ex n),h=>exact h
def lstM:D->M (List D)
 | .lst ds=>aa ds
 |_=>ag
def QX:D->M (List D)
 | .tup ds=>aa ds
 |_=>ag
def cg(a:DE):DA:=λρ=>a ρ>>=lstM
def jX(a:DE):DA:=λρ=>a ρ>>=QX
def D7{K:Vn}{F:Hp}{a:Addr}{vs:List V}{ds:List D}(h:SqL K F a vs)(hd:DenL K F ds vs):ItD K F (OS K a) ds:=λF' H' i s1 s2=>by
 have hs:=Same.seq s2 (Same.seq s1 h);refine⟨λd e=>?_,λhl=>⟨vs,hs,by rw[<-hd.len];exact hl⟩⟩;obtain⟨v,e1,q⟩:=hd.get e;refine⟨⟨vs,v,hs,e1⟩,λx H'' y=>?_⟩;obtain⟨e2,y⟩:=y;subst e2;have:=y vs hs;rw[e1] at this;cases this;exact⟨F',Ext.refl s2,Den.mono s1 q⟩
def G8{K:Vn}{F:Hp}{a:Addr}{vs:List V}{ds:List D}(h:SqT K F a vs)(hd:DenL K F ds vs):ItD K F (OT K a) ds:=λF' H' i s1 s2=>by
 have hs:=Same.tup s2 (Same.tup s1 h);refine⟨λd e=>?_,λhl=>⟨vs,hs,by rw[<-hd.len];exact hl⟩⟩;obtain⟨v,e1,q⟩:=hd.get e;refine⟨⟨vs,v,hs,e1⟩,λx H'' y=>?_⟩;obtain⟨e2,y⟩:=y;subst e2;have:=y vs hs;rw[e1] at this;cases this;exact⟨F',Ext.refl s2,Den.mono s1 q⟩
def gH(lo:Int)(n:Nat):List D:=(Vw n).map λ(i:Nat)=>D.int (lo+(i:Int))
def sd{K:Vn}{F:Hp}(lo:Int)(n:Nat):ItD K F (Mb lo n) (gH lo n):=λF' H' i s1 s2=>by
 refine⟨λd e=>?_,λhl=>show n<=i by simpa[gH] using hl⟩;unfold gH at e;rw[Vz] at e;have hi:i<n:=by
  by_cases hi:i<n
  ·exact hi
  ·rw[XO (by simpa using hi)] at e;cases e
 rw[ab8 hi] at e;cases e;refine⟨hi,λx H'' y=>?_⟩;obtain⟨e2,y⟩:=y;subst e2 y;exact⟨F',Ext.refl s2,rfl⟩
section
variable{X:Cx}{Xw:Nat->Hp->Prop}{tg l:Expr}{δ:DE}{pos:Pos}
def bM(h:PD X Xw l δ):yu X Xw tg l (cg δ):=PI.weak (HN h) λσ H R ⟨F,ρ,s,w⟩=>by
 refine⟨F,ρ,s,WP.mono (WPI.bind w) λv H1 ⟨F1,d,e1,q1,w1⟩=>?_⟩;cases d with
 |lst ds=>
  obtain⟨a,vs,h1,h2,h3,h4⟩:=q1;exact⟨a,h1,⟨vs,Same.seq e1.fh (SqL.of h2)⟩,w1 _ _ _ (Ext.refl e1.fh) (D7 (SqL.of h2) h3)⟩
 |_=>exact w1.elim
def gY(h:PD X Xw l δ):yu X Xw tg l (jX δ):=PI.weak (Lc h) λσ H R ⟨F,ρ,s,w⟩=>by
 refine⟨F,ρ,s,WP.mono (WPI.bind w) λv H1 ⟨F1,d,e1,q1,w1⟩=>?_⟩;cases d with
 |tup ds=>
  obtain⟨a,vs,h1,h2,h3,h4⟩:=q1;exact⟨a,h1,⟨vs,Same.tup e1.fh (SqT.of h2)⟩,w1 _ _ _ (Ext.refl e1.fh) (G8 (SqT.of h2) h3)⟩
 |_=>exact w1.elim
def dH:List D->M (List D)
 |[.int j]=>if -4096<=j/\j<=4096 then aa (gH 0 j.toNat) else ag
 |_=>ag
def sZ:List D->M (List D)
 |[.int i, .int j]=>if (-4096<=i/\i<=4096)/\(-4096<=j/\j<=4096) then aa (gH i (j - i).toNat) else ag
 |_=>ag
def DenL.one{K:Vn}{F:Hp}{d:D}{vs:List V}(h:DenL K F [d] vs):∃v,vs=[v]/\Den K F d v:=by
 obtain⟨v,r,h1,h2,h3⟩:=h;cases (show r=[] from h3);exact⟨v,h1,h2⟩
def DenL.two{K:Vn}{F:Hp}{d d':D}{vs:List V}(h:DenL K F [d,d'] vs):∃v v',vs=[v,v']/\Den K F d v/\Den K F d' v':=by
 obtain⟨v,r,h1,h2,h3⟩:=h;obtain⟨v',h4,h5⟩:=h3.one;subst h4;exact⟨v,v',h1,h2,h5⟩
def b_{a:Expr}{δs:DA}{p:Pos}(hg:Gl X "range")(hm:X.mg "range"=none)(ha:iu X Xw [a] δs)(hs:Vs [a] X.env=[(false,eval a X.env)]:=by rfl):yu X Xw tg (.Call (.Name "range" p) [a] [] pos) (λρ=>δs ρ>>=dH):=
 PI.weak (Ce hg hm ha hs) λσ H R ⟨F,ρ,s,w⟩=>by
  refine⟨F,ρ,s,WPL.mono (WPI.bindL w) λvs H1 ⟨F1,ds,e1,q1,w1⟩=>?_⟩;unfold dH at w1;split at w1
  ·rename_i j;obtain⟨v,h1,h2⟩:=q1.one;cases (show v=_ from h2);split at w1
   ·exact⟨j,h1,by omega,by omega,w1 _ _ _ (Ext.refl e1.fh) (sd 0 _)⟩
   ·exact w1.elim
  ·exact w1.elim
def pY{a b:Expr}{δs:DA}{p:Pos}(hg:Gl X "range")(hm:X.mg "range"=none)(ha:iu X Xw [a,b] δs)(hs:Vs [a,b] X.env=[(false,eval a X.env),(false,eval b X.env)]:=by rfl)
 (Kd:Vs [b] X.env=[(false,eval b X.env)]:=by rfl):yu X Xw tg (.Call (.Name "range" p) [a,b] [] pos) (λρ=>δs ρ>>=sZ):=
 PI.weak (Cf hg hm ha hs Kd) λσ H R ⟨F,ρ,s,w⟩=>by
  refine⟨F,ρ,s,WPL.mono (WPI.bindL w) λvs H1 ⟨F1,ds,e1,q1,w1⟩=>?_⟩;unfold sZ at w1;split at w1
  ·rename_i i j;obtain⟨v,v',h1,h2,h3⟩:=q1.two;cases (show v=_ from h2);cases (show v'=_ from h3);split at w1
   ·exact⟨i,j,h1,⟨by omega,by omega,by omega,by omega⟩,w1 _ _ _ (Ext.refl e1.fh) (sd i _)⟩
   ·exact w1.elim
  ·exact w1.elim
end
def cM(tg N:List Str):List Str:=N.map λy=>if tg.contains y then y++(" ":Str) else y
def jB(X:Cx)(scope:Scope)(tn:List Str)(f8:List (Addr×Obj))(cl:List (Str×Addr))(C:Addr)(fp:List Addr)(v4:Vf)(H:Hp):Cx:=
 {X with N:=tn++cM tn X.N,acT:=v4,acS:=H,env:=compEnvC scope cl C X.env,outer:=X.stack,ex:=fp,fn:=λ_=>false,pn:=X.pn++f8,xe:=λ_ _=>False}
structure CompSc (X:Cx) (scope:Scope) (tn:List Str):Prop where
 kind:scope.kind= .function
 nocell:∀y∈scope.names,y.2≠ .cell
 names:∀y∈scope.names,y.2= .local->scope.names.lookup y.1=some .local
 frees:∀y∈scope.names,y.2= .free->X.env.kindOf y.1=some .cell\/X.env.kindOf y.1=some .free
 vis:∀p∈(cM tn X.N).zip X.N,scope.names.lookup p.1=none\/(p.1=p.2/\scope.names.lookup p.1=some .free)
def jW{env:Env}:∀(names:List (Str×Zg)) (u8:List (Str×Addr)),(∀y∈names,y.2= .free->∃c,env.cells.lookup y.1=some c)->
 (∀x c,u8.lookup x=some c->env.cells.lookup x=some c)->
 ∃cl,(forIn names u8 (λ(x:Str×Zg) (r:List (Str×Addr))=>do
   let __x:=x
   if (__x.2==acE)=true then do let c<-cellOf env __x.1;pure (Wy ((__x.1,c)::r)) else pure (Wy r)):Sem (List (Str×Addr)))=pure cl/\
  (∀x c,cl.lookup x=some c->env.cells.lookup x=some c)/\(∀x c,u8.lookup x=some c->∃c',cl.lookup x=some c')/\(∀x,names.lookup x=some .free->∃c,cl.lookup x=some c)
 |[],u8,_,h2=>⟨u8,rfl,h2,λx c e=>⟨c,e⟩,λx e=>by simp at e⟩
 |(n,k)::r,u8,h1,h2=>by
  by_cases hk:k= .free
  ·subst hk;obtain⟨c,hc⟩:=h1 (n, .free) Ve rfl;obtain⟨cl,e,a1,a2,a3⟩:=jW r ((n,c)::u8) (λy hy=>h1 y (Vc _ hy)) (λx c' q=>by
    rw[Xh] at q;split at q
    ·rename_i hx;cases q;rw[show x=n from by simpa using hx];exact hc
    ·exact h2 x c' q)
   refine⟨cl,?_,a1,λx c' q=>?_,λx q=>?_⟩
   ·rw[aaL];have:cellOf env n=pure c:=by unfold cellOf;rw[hc]
    simp only[beq_self_eq_true,if_true,this,pure_bind];exact e
   ·by_cases hx:x=n
    ·subst hx;exact a2 x c (by simp[Xh])
    ·exact a2 x c' (by rw[Xh,show (x==n)=false from by simpa using hx];exact q)
   ·rw[Xh] at q;split at q
    ·rename_i hx;exact a2 x c (by rw[Xh,hx])
    ·exact a3 x q
  ·obtain⟨cl,e,a1,a2,a3⟩:=jW r u8 (λy hy=>h1 y (Vc _ hy)) h2;refine⟨cl,?_,a1,a2,λx q=>?_⟩
   ·rw[aaL];have:((k==acE)=true)=False:=by simpa using hk
    simp only[this,if_false,pure_bind];exact e
   ·rw[Xh] at q;split at q
    ·cases q;exact acK rfl hk
    ·exact a3 x q
def oy{scope:Scope}{env:Env}(h:∀y∈scope.names,y.2= .free->∃c,env.cells.lookup y.1=some c):
 ∃cl,closureFor scope env=pure cl/\(∀x c,cl.lookup x=some c->env.cells.lookup x=some c)/\(∀x,scope.names.lookup x=some .free->∃c,cl.lookup x=some c):=by
 obtain⟨cl,e,a1,_,a3⟩:=jW (env:=env) scope.names [] h (λx c q=>by simp at q);refine⟨cl,?_,a1,a3⟩;unfold closureFor;show (forIn scope.names [] _>>=λr=>pure r)=_;rw[bind_pure];exact e
def noex{α:Type}:M α->M α
 |some (.ok a)=>some (.ok a)
 |_=>none
def dE(f:D->M (Option D)):List D->M (List D)
 |[]=>aa []
 |d::ds=>f d>>=λo=>dE f ds>>=λr=>aa (match o with | some y=>y::r | none=>r)
def Sd(n:Nat):D->M (List D):=λd=>match n,d with
 |0,d=>aa [d]
 |n, .tup ds=>if ds.length=n then aa ds else ag
 |_,_=>ag
def ip(n:Nat)(δt:DT)(δe:DE)(ρ:aQ):D->M (Option D):=λd=>
 Sd n d>>=λts=>δt (ts.map (λt=>some (Sl.fz t))++ρ)>>=λb=>if b then δe (ts.map (λt=>some (Sl.fz t))++ρ)>>=λy=>aa (some y) else aa none
def ba(n:Nat)(δi:DA)(δt:DT)(δe:DE):DE:=λρ=>δi ρ>>=λds=>noex (dE (ip n δt δe ρ) ds)>>=dW
def bu:DT:=λ_=>aa true
def fB(f:D->M (Option D))(d:D)(ds:List D):dE f (d::ds)=(f d>>=λo=>dE f ds>>=λr=>aa (match o with | some y=>y::r | none=>r)):=rfl
def yM{f:D->M (Option D)}{ds:List D}{i:Nat}{d:D}{ys R:List D}(hd:ds[i]? =some d)
 (h:dE f ds=(dE f (ds.drop i)>>=λr=>aa (ys++r)))(hR:dE f ds=aa R):
 ∃o,f d=aa o/\dE f ds=(dE f (ds.drop (i+1))>>=λr=>aa ((match o with | some y=>ys++[y] | none=>ys)++r)):=by
 have e:ds.drop i=d::ds.drop (i+1):=by
  obtain⟨hi,e⟩:=Vt.mp hd;rw[X4 hi,e]
 rw[e,fB] at h;have h':=h.symm.trans hR;obtain⟨r,h1,h2⟩:=gM h';obtain⟨o,h3,h4⟩:=gM h1;refine⟨o,h3,?_⟩;obtain⟨r',h5,h6⟩:=gM h4;rw[h5,hR];rw[<-h2,<-fZ h6];show aa _=aa _;cases o with
 |none=>rfl
 |some y=>simp
def xR{P:VG}{w:World}{H:Hp}{h1 h2:Heap}{a:Addr}(x:HOk P w H h1)(s:WQ a h1 h2)(n:H a=none):HOk P w H h2:=λb o e=>by
 refine(x b o e).stay (λc v hc q=>(s.2 c ?_).trans q) (λ_ q=>q) λ_ _ q=>q;rintro rfl;rcases hc with rfl | hc
 ·rw[n] at e;cases e
 ·rw[n] at hc;cases hc
def Bi{prog:VG}{w:World}{A:V2}{R:ab3->Vf->Prop}{s:Vf}{elt target iter:Expr}{ifs:List Expr}{scope:Scope}{pos:Pos}{it u8:Value}{env:Env}(I:Nat->Vf->Prop)
 (turn:∀n s,I n s->wpAny (model prog w) A (YM it) (λr v6=>match r with
  |none=>R (.ok .next) v6
  |some v=>wpAny (model prog w) A (ZS target it v) (λ_ Sa=>wpAny (model prog w) A (assign target env v) (λ_ v4=>
    wpAny (model prog w) A (forIn ifs true λc r=>if r=true then do let ok<-isTrue c env (eval c env);pure (Wy ok) else pure (Wy r)) (λok s₃=>
     if ok=true then wpAny (model prog w) A (eval elt env) (λx s₄=>
      wpAny (model prog w) A (call (.builtin "list.append") [u8,x]) (λ_ s₅=>∃m,m<n/\I m s₅) (aci (model prog w) A env λe s'=>R (.error e) s') s₄) (aci (model prog w) A env λe s'=>R (.error e) s') s₃
     else∃m,m<n/\I m s₃) (aci (model prog w) A env λe s'=>R (.error e) s') v4) (aci (model prog w) A env λe s'=>R (.error e) s') Sa) (aci (model prog w) A env λe s'=>R (.error e) s') v6) (aci (model prog w) A env λe s'=>R (.error e) s') s)
 (n:Nat) (h:I n s):
 YF (model prog w) A (.compLoop (.ListComp elt [⟨target,iter,ifs,0⟩] scope pos) 0 it u8 env) R s:=by
 refine codeAny_loop rfl I (λn s hI=>?_) n h;show wpAny _ A ((compTurn (.ListComp elt [⟨target,iter,ifs,0⟩] scope pos) 0 it u8 env).onRaise (λx=>do noteFrame x env;theTreesLotGoes x)) _ _ s;refine wpAny_noted ?_;rw[compTurn_list];refine U_ (wpAny_standAt (U_ (Wl (turn n s hI) (λr v6 h₁=>?_) λ_ _ h'=>h')));cases r with
 |none=>exact Va h₁
 |some v=>
  refine U_ (Wl h₁ (λ_ Sa h₁=>?_) λ_ _ h'=>h');refine U_ (Wl h₁ (λ_ v4 h₂=>U_ (Wl h₂ (λok s₃ h₃=>?_) λ_ _ h'=>h')) λ_ _ h'=>h');cases ok with
  |false=>exact Va ⟨rfl,h₃⟩
  |true=>
   exact U_ (U_ (Wl h₃ (λx s₄ h₄=>U_ (Wl h₄ (λ_ s₅ h₅=>Va (Va ⟨rfl,h₅⟩)) λ_ _ h'=>h')) λ_ _ h'=>h'))
def CP(X:Cx)(tg:Expr)(n:Nat)(σ:St):Prop:=∀(f8:List (Addr×Obj)) (s:Vf) (σ':St) (F H:Hp) (d:D) (ts:List D) (v:V) (u:Value),Inv X f8 σ' H s->Same F H->σ'.drop (max n 1)=σ->RelV v u->Den X.K F d v->Sd n d=aa ts->
 wpAny (model X.prog X.w) X.A (assign tg X.env u) (λ_ s'=>∃vs,Inv X f8 (vs.map some++σ) H s'/\DenL X.K F ts vs) X.xe s
def lN(X:Cx)(ifs:List Expr)(δt:DT):Prop:=∀(f8:List (Addr×Obj)) (s:Vf) (σ:St) (H:Hp) (Q:Bool->Hp->Prop),Inv X f8 σ H s->QP X.K (λ_ _=>False) δt σ H Q->
 wpAny (model X.prog X.w) X.A (forIn ifs true λc r=>if r=true then do let ok<-isTrue c X.env (eval c X.env);pure (Wy ok) else pure (Wy r)) (TP X f8 σ Q) X.xe s
def b6{X:Cx}:lN X [] bu:=λf8 s σ H Q I ⟨F,ρ,S,w⟩=>wpAny_tests_nil ⟨H,I,w H F (Ext.refl S.fh)⟩
def FY{X:Cx}{c:Expr}{δ:DT}(h:qC X (λ_ _=>False) c δ):lN X [c] δ:=λf8 s σ H Q I w=>wpAny_tests_one (h f8 s σ H Q I w)
def StE.cons{K:Vn}{F H:Hp}{σ:St}{ρ:aQ}{ts:List D}{vs:List V}(s:StE K F H σ ρ)(h:DenL K F ts vs):StE K F H (vs.map some++σ) (ts.map (λt=>some (Sl.fz t))++ρ):=by
 refine⟨s.fh,λi sl e=>?_⟩;have hl:=h.len;by_cases hi:i<ts.length
 ·rw[VZ (by simpa using hi),Vz] at e;cases q:ts[i]? with
  |none=>rw[q] at e;cases e
  |some t=>
   rw[q] at e;cases e;obtain⟨v,e1,e2⟩:=h.get q;exact⟨v,by rw[VZ (by simp;omega),Vz,e1];rfl,e2⟩
 ·rw[V9 (by simpa using hi)] at e;obtain⟨v,e1,e2⟩:=s.den _ _ e;refine⟨v,?_,e2⟩;rw[V9 (by simp;omega)];simpa[hl] using e1
def WPB.take{Xw:Nat->Hp->Prop}{F H:Hp}{b:Bool}:WPB Xw F H (aa b) λb' H'=>b'=b/\∃F',Ext F H F' H':=λH' F' e=>⟨rfl,F',e⟩
def WP.take{K:Vn}{Xw:Nat->Hp->Prop}{F H:Hp}{d:D}:WP K Xw F H (aa d) λv H'=>∃F',Ext F H F' H'/\Den K F' d v:=λv H' F' e q=>⟨F',e,q⟩
def l_(env:Env)(p:Str×Zg):Str×Zg:=if (p.2== .free&&env.scope.kind== .function&&env.kindOf p.1==some .cell) then(p.1, .cell) else(p.1,p.2)
def gk(scope:Scope)(env:Env):(relabel scope env).names=scope.names.map (l_ env):=rfl
def Fs(env:Env)(p:Str×Zg):(l_ env p).1=p.1:=by unfold l_;split<;>rfl
def gT(env:Env)(x:Str):∀ns:List (Str×Zg),(ns.map (l_ env)).lookup x=(ns.lookup x).map λk=>(l_ env (x,k)).2
 |[]=>rfl
 |(m,k)::r=>by
  rw[Vi,Xh,Xh];have e:l_ env (m,k)=(m,(l_ env (m,k)).2):=aaD (Fs env (m,k)) rfl;rw[e]
  dsimp only
  by_cases hx:(x==m)=true
  ·have hm:x=m:=by simpa using hx
   subst hm;rw[hx];rfl
  ·have hx:(x==m)=false:=by simpa using hx
   rw[hx];exact gT env x r
def u6{scope:Scope}{env:Env}{x:Str}(h:scope.names.lookup x=none):(relabel scope env).names.lookup x=none:=by
 rw[gk,gT,h];rfl
def u5{scope:Scope}{env:Env}{x:Str}(hc:∀y∈scope.names,y.2≠ .cell)(h:(relabel scope env).names.lookup x=some .cell\/(relabel scope env).names.lookup x=some .free):scope.names.lookup x=some .free:=by
 rw[gk,gT] at h;cases q:scope.names.lookup x with
 |none=>rw[q] at h;rcases h with h | h<;>cases h
 |some k=>
  rw[q] at h;have hk:k≠ .cell:=hc _ (W8 q);have h:(l_ env (x,k)).2= .cell\/(l_ env (x,k)).2= .free:=by simpa using h
  by_cases hf:k= .free
  ·rw[hf]
  ·have:(l_ env (x,k)).2=k:=by
    unfold l_;rw[acJ];simp[hf]
   rw[this] at h;rcases h with h | h
   ·exact acK h hk
   ·exact acK h hf
def ma{scope:Scope}{env:Env}{x:Str}(h:scope.names.lookup x=some .free):¬(relabel scope env).names.lookup x=some .local:=by
 rw[gk,gT,h];intro z;have z:(l_ env (x, .free)).2= .local:=by simpa using z
 unfold l_ at z;split at z<;>cases z
structure BlockEnd (X:Cx) (f8:List (Addr×Obj)) (C:Addr) (H':Hp) (s1:Vf):Prop where
 ns:∃m,s1.heap.Ns C m
 free:H' C=none
 nl:C≠X.env.locals
 nw:X.acT.heap.objs.size<=C
 nc:∀x c,X.env.cells.lookup x=some c->c≠C
 np:∀p∈X.pn++f8,p.1≠C
def v9{X:Cx}{Xw:Nat->Hp->Prop}{elt iter tg:Expr}{ifs:List Expr}{scope:Scope}{pos:Pos}{tn:List Str}{n:Nat}{δi:DA}{δt:DT}{δe:DE}{cl:List (Str×Addr)}{f8:List (Addr×Obj)}{s:Vf}{σ:St}{H F:Hp}{ρ:aQ}{Q:VK}{RR:Value->Addr->ab3->Vf->Prop}
 (sc:CompSc X scope tn)(hn:tn.length=max n 1)(hc:X.calm=true)(hi:yu X Xw tg iter δi)
 (hg:∀f8 cl C fp v4 H σ,CP (jB X scope tn f8 cl C fp v4 H) tg n σ)
 (ht:∀f8 cl C fp v4 H,lN (jB X scope tn f8 cl C fp v4 H) ifs δt)
 (he:∀f8 cl C fp v4 H,PD (jB X scope tn f8 cl C fp v4 H) (λ_ _=>False) elt δe)
 (I:Inv X f8 σ H s)(S:StE X.K F H σ ρ)(w:WP X.K Xw F H (ba n δi δt δe ρ) Q)
 (cl1:∀x c,cl.lookup x=some c->X.env.cells.lookup x=some c)(LN:∀x,scope.names.lookup x=some .free->∃c,cl.lookup x=some c)
 (SO:∀(s1:Vf) (C D:Addr) (H':Hp),Inv X f8 σ H' s1->Q (.ref D) H'->BlockEnd X f8 C H' s1->RR (.ref D) C (.ok .next) s1):
 wpAny (model X.prog X.w) X.A (eval iter X.env) (λx v6=>wpAny (model X.prog X.w) X.A (ab1 x) (λit v4=>wpAny (model X.prog X.w) X.A (newList []) (λu8 s₃=>
  wpAny (model X.prog X.w) X.A (newFunctionEnv scope X.env.globals cl [] X.env.qual none .none (some X.env)) (λMg s₄=>
   YF (model X.prog X.w) X.A (.compStart (.ListComp elt [⟨tg,iter,ifs,0⟩] scope pos) 0 it u8 {Mg with scope:=relabel scope X.env}) (RR u8 Mg.locals) s₄) X.xe s₃) X.xe v4) X.xe v6) X.xe s:=by
 refine bV (hi f8 s σ H (λJ H2=>∃F2 ds,Ext F H F2 H2/\ItD X.K F2 J ds/\WP X.K Xw F2 H2 (noex (dE (ip n δt δe ρ) ds)>>=dW) Q) I ⟨F,ρ,S,?_⟩) λxv v6 h₁=>bV h₁ λit v4 h₂=>?_
 ·unfold ba at w;rcases(δi ρ).cs with hq | ⟨m,hq⟩ | ⟨ds,hq⟩
  ·rw[hq] at w;exact w.elim
  ·rw[hq] at w⊢;exact w
  ·rw[hq] at w⊢;exact λJ H' F' e q=>⟨F',ds,e,q,WP.ext e w⟩
 obtain⟨ia,fp,Se,J,H2,rfl,I2,T,tx,f2,F2,ds,e2,RT,w2⟩:=h₂;obtain⟨R,hR,Rp,w2⟩:∃R,dE (ip n δt δe ρ) ds=aa R/\R.length<=lim/\WP X.K Xw F2 H2 (aa (.lst R)) Q:=by
  rcases(dE (ip n δt δe ρ) ds).cs with hq | ⟨m,hq⟩ | ⟨R,hq⟩
  ·rw[hq] at w2;exact w2.elim
  ·rw[hq] at w2;exact w2.elim
  ·rw[hq] at w2;obtain⟨h1,h2⟩:=zf (X:=X) (f:=D.lst) (show WP X.K Xw F2 H2 (dW R) Q from w2);exact⟨R,hq,h1,h2⟩
 refine Wg (wpAny_newFunctionEnv sc.nocell (by intro y hy;simp at hy) (λh₁ J_ G3=>?_) sc.kind)
 dsimp only at J_ G3⊢
 generalize O_:v4.heap.push {cls:= .type "list",dict:=none,data:= .seq ([]:List Value).toArray}=HL at J_ G3⊢;have hC:HL.objs.size=v4.heap.objs.size+1:=by rw[<-O_,Xl]
 have Bt:v4.heap.objs.size<HL.objs.size:=by rw[hC];exact XC _
 have old:∀b o,v4.heap.get? b=some o->h₁.get? b=some o:=λb o e=>G3.extBut b o (VH (XT (Vr e) Bt)) (Vd _ (O_▸Vd _ e));have qK:h₁.get? v4.heap.objs.size=some {cls:= .type "list",data:= .seq ([]:List Value).toArray}:=G3.extBut _ _ (VH Bt) (Vd _ (O_▸Vq _ rfl));have nD:H2 v4.heap.objs.size=none:=I2.hok.fresh (Vj _);have nC:H2 HL.objs.size=none:=I2.hok.fresh (W4 Bt);have gC:v4.heap.get? HL.objs.size=none:=abW (W4 Bt);have fl:∀b∈fp,b<v4.heap.objs.size:=λb hb=>by
  obtain⟨o,e,_⟩:=T.obj 0 _ tx b hb;exact Vr e
 generalize wD:jB X scope tn f8 cl HL.objs.size fp v4 H2=X';have R4:X'.Ok:=by
  subst wD;refine⟨I2.ok.mod,sc.kind,I2.ok.glob,I2.ok.blt,W4 Bt,λx y c h1 h2=>I2.ok.inj x y c (cl1 _ _ h1) (cl1 _ _ h2),λx hx=>?_,λ_ _ h=>(by cases h),I2.ok.hd,I2.ok.frames, .inl rfl,
   λb hb=>⟨VH (XT (fl b hb) Bt),λx c h=>(f2 b hb).2.2.2.2.1 x c (cl1 _ _ h)⟩,I2.bs,VI I2.ok.bsz I2.sz,λb o e hb=>?_,λb hb z=>?_,I2.stack,I2.stkFree⟩
  ·have hx:(relabel scope X.env).names.lookup x=some .cell\/(relabel scope X.env).names.lookup x=some .free:=hx;exact LN x (u5 sc.nocell hx)
  ·rcases(f2 b hb).2.2.2.1 with z | z
   ·exact I2.ok.noex b o e z
   ·exact acK (VW (Vr (I2.ok.bs b o e).1) z) (Wc _)
  ·rcases Vo.mp (I2.stkSub b z) with q | q
   ·exact(f2 b hb).2.1 q
   ·exact(f2 b hb).2.2.1 q
 have Qt:∀b o,H2 b=some o->b≠v4.heap.objs.size:=λb o e=>a_ e nD;have JS:∀{H':Hp},(∀b∈fp,H' b=none)->∀b∈fp,nZ X' [] H' b:=λTR b hb=>by
  subst wD;refine⟨TR b hb,VH (XT (fl b hb) Bt),λz=>R4.exfs b hb z, .inl hb,λx c h=>(f2 b hb).2.2.2.2.1 x c (cl1 _ _ h),λp hp=>?_⟩;rw[V7] at hp;exact(f2 b hb).2.2.2.2.2 p hp
 have I0:Inv X' [] (Vx (max n 1) none++σ) (upd H2 v4.heap.objs.size (.lst [])) {v4 with heap:=h₁,toks:=v4.toks+([]:List (Str×Value)).length}:=by
  subst wD;have PV:HOk X.prog X.w (upd H2 v4.heap.objs.size (.lst [])) h₁:=I2.hok.laid old (Vj _) ⟨V1 _,[],_, .nil,qK⟩;refine⟨R4,rfl,I2.bare,Un.laid old (Vj _) nD,⟨_,J_,λi x v h1 h2 h3=>?_⟩,λx c h=>?_,?_,λx c h=>?_,λp hp=>?_,PV,?_⟩
  ·by_cases hi:i<max n 1
   ·rw[VZ (by simpa using hi),WH,acI hi] at h2;cases h2
   ·have vM:tn.length<=i:=by omega
    have h1:(tn++cM tn X.N)[i]? =some x:=h1;rw[V9 vM] at h1;rw[V9 (by simpa using hi),Zz,<-hn] at h2;have hN:∃y,X.N[i - tn.length]? =some y/\(x,y)∈(cM tn X.N).zip X.N:=by
     have cN:=(Vt.mp h1).1;have BB:i - tn.length<X.N.length:=by simpa[cM] using cN
     refine⟨X.N[i - tn.length],Vg BB,?_⟩;refine List.mem_iff_getElem?.mpr ⟨i - tn.length,?_⟩;rw[List.getElem?_zip_eq_some];exact⟨h1,Vg BB⟩
    obtain⟨y,hy,hm⟩:=hN;have hV:(relabel scope X.env).names.lookup x=some .local\/(relabel scope X.env).names.lookup x=some .cell\/(relabel scope X.env).names.lookup x=some .free:=h3;rcases sc.vis _ hm with oP | ⟨Qf,CK⟩
    ·have oP:scope.names.lookup x=none:=oP;have:(relabel scope X.env).names.lookup x=none:=u6 oP;rw[this] at hV;rcases hV with z | z | z<;>cases z
    ·have Qf:x=y:=Qf;subst Qf;have CK:scope.names.lookup x=some .free:=CK;have hk:=sc.frees (x, .free) (W8 CK) rfl;obtain⟨m,Jc,Jb⟩:=I2.loc;obtain⟨u,ru,lk⟩:=Jb _ x v hy h2 (by rcases hk with z | z;exact .inr (.inl z);exact .inr (.inr z));refine⟨u,ru, .inr ⟨?_,?_⟩⟩
     ·rcases hV with z | z | z
      ·exact acK z (ma CK)
      ·exact .inl z
      ·exact .inr z
     ·rcases lk with⟨z,_⟩ | ⟨_,c,Ru,DK⟩
      ·rcases hk with q | q
       ·rw[show X.env.kindOf x=some .local from z] at q;cases q
       ·rw[show X.env.kindOf x=some .local from z] at q;cases q
      ·obtain⟨c',IV⟩:=LN x CK;have:=cl1 _ _ IV;rw[Ru] at this;cases this;obtain⟨o,ho,hd⟩:=DK;exact⟨c,IV,o,old _ _ ho,hd⟩
  ·obtain⟨v,o,ho,hd⟩:=I2.cell x c (cl1 _ _ h);exact⟨v,o,old _ _ ho,hd⟩
  ·show upd H2 v4.heap.objs.size (.lst []) HL.objs.size=none;rw[av (XS Bt)];exact nC
  ·have IY:=cl1 _ _ h;obtain⟨v,q⟩:=I2.cell x c IY;rw[av (VH q.lt)];exact I2.freeC x c IY
  ·rw[V7] at hp;obtain⟨e,nn,ne,nf,d⟩:=I2.pin p hp;have cN:=Vr e;refine⟨old _ _ e,by rw[av (VH cN)];exact nn,VH (XT cN Bt),λz=>?_,d⟩;rcases Vo.mp (I2.stkSub p.1 z) with q | q
   ·exact ne q
   ·exact nf q
  ·show (Vx (max n 1) none++σ).length=(tn++cM tn X.N).length;rw[Vm,Vm,Zz,hn,show (cM tn X.N).length=X.N.length from by simp[cM],I2.len]
 have loop:∀s₃:Vf,s₃={v4 with heap:=h₁,toks:=v4.toks+([]:List (Str×Value)).length}->
  YF (model X.prog X.w) X.A (.compLoop (.ListComp elt [⟨tg,iter,ifs,0⟩] scope pos) 0 (.ref ia) (.ref v4.heap.objs.size) (compEnvC scope cl HL.objs.size X.env))
   (RR (.ref v4.heap.objs.size) HL.objs.size) s₃:=by
  intro s₃ T6;have Dr:X'.env=compEnvC scope cl HL.objs.size X.env:=by subst wD;rfl
  have hA:X'.A=X.A:=by subst wD;rfl
  have hP:X'.prog=X.prog:=by subst wD;rfl
  have hw:X'.w=X.w:=by subst wD;rfl
  have hK:X'.K=X.K:=by subst wD;rfl
  have Ug:X'.xe=λ_ _=>False:=by subst wD;rfl
  have IW:X'.calm=true:=by subst wD;exact hc
  have Tb:X'.fs=gf X.stack:=by subst wD;rfl
  have hex:X'.ex=fp:=by subst wD;rfl
  have SH:X'.acS=H2:=by subst wD;rfl
  have RM:X'.acT=v4:=by subst wD;rfl
  have pass:∀{α:Type}{t:Sem α}{P:α->Vf->Prop}{E':Value->Vf->Prop}{s:Vf},wpAny (model X'.prog X'.w) X'.A t P X'.xe s->wpAny (model X.prog X.w) X.A t P E' s:=λ{α t P E' s} h=>by
   rw[hP,hw,hA,Ug] at h;exact Wl h (λ_ _ q=>q) λ_ _ q=>q.elim
  refine Bi (λm s'=>∃(i:Nat) (F' H':Hp) (vs:List V) (ys:List D) (σt:St),m=ds.length - i/\i<=ds.length/\σt.length=max n 1/\Inv X' [] (σt++σ) H' s'/\Se i s'.heap/\(∀b∈fp,H' b=none)/\Ext F2 H2 F' H'/\
   H' v4.heap.objs.size=some (.lst vs)/\F' v4.heap.objs.size=none/\DenL X.K F' ys vs/\dE (ip n δt δe ρ) ds=(dE (ip n δt δe ρ) (ds.drop i)>>=λr=>aa (ys++r))) ?_ ds.length ?_
  ·rintro m s' ⟨i,F',H',vs,ys,σt,rfl,MR,Uj,I',qi,Rc,yR,hD,fD,OI,heq⟩;by_cases cN:i<ds.length
   ·
    obtain⟨d,hd⟩:∃d,ds[i]? =some d:=⟨_,Vg cN⟩
    obtain⟨MO,D1⟩:=(RT F' H' i yR.ff yR.fh).1 d hd;obtain⟨o,ho,MN⟩:=yM hd heq hR;have Qg:ys.length<=lim:=by
     rw[heq] at hR;obtain⟨r,_,hr⟩:=gM hR;rw[<-fZ hr,Vm] at Rp;omega
    obtain⟨ts,Ua,ho⟩:=gM ho;refine pass ?_;rw[hP,hw];refine bV (T.item X' hP hw hK IW i [] s' (σt++σ) H' X'.xe I' (JS Rc) qi MO) ?_;rintro r s1 ⟨u,rfl,h1⟩;refine pass ?_;rw[hP,hw];refine bV h1 ?_;rintro _ s2 ⟨x,H3,I3,rx,y3,FL,JT⟩;obtain⟨F3,CH,q3⟩:=D1 x H3 y3;have Rl:H3 v4.heap.objs.size=some (.lst vs):=CH.hh _ _ hD;have Sy:F3 v4.heap.objs.size=none:=by rw[CH.old hD (λ_ z=>nomatch z)];exact fD
    have I3':=I3.pinned (JS JT) (T.obj _ _ FL);have Az:∀{σ7:St}{H7:Hp}{s7:Vf},Inv X' ([]++l6 fp s2.heap) σ7 H7 s7->Se (i+1) s7.heap/\∀b∈fp,H7 b=none:=λ{σ7 H7 s7} I7=>
     ⟨T.keep _ _ _ FL λb hb o e=>(I7.pin (b,o) (VP _ (VP _ (eF hb e)))).1,λb hb=>by
      obtain⟨o,e,_⟩:=T.obj _ _ FL b hb;exact(I7.pin (b,o) (VP _ (VP _ (eF hb e)))).2.1⟩
    have Td:CP X' tg n σ:=by subst wD;exact hg _ _ _ _ _ _ _
    have T8:lN X' ifs δt:=by subst wD;exact ht _ _ _ _ _ _
    have S6:PD X' (λ_ _=>False) elt δe:=by subst wD;exact he _ _ _ _ _ _
    refine pass ?_;rw[<-Dr];refine bV (Td _ s2 (σt++σ) F3 H3 d ts x u I3' CH.fh (by rw[<-Uj];simp) rx (by rw[hK];exact q3) Ua) ?_;rintro _ s4 ⟨vt,I4,dt⟩;rw[hK] at dt;have S4:StE X.K F3 H3 (vt.map some++σ) (ts.map (λt=>some (Sl.fz t))++ρ):=StE.cons ((S.ext e2).ext (yR.trans CH)) dt;obtain⟨b,hb,ho⟩:=gM ho;refine pass ?_
    try rw[<-Dr]
    refine bV (T8 _ s4 _ H3 (λb' H5=>b'=b/\∃F5,Ext F3 H3 F5 H5) I4 ⟨F3,_,by rw[hK];exact S4,by rw[hb];exact WPB.take⟩) ?_;rintro b' s5 ⟨H5,I5,rfl,F5,JM⟩;have O8:H5 v4.heap.objs.size=some (.lst vs):=JM.hh _ _ Rl;have Q_:F5 v4.heap.objs.size=none:=by rw[JM.old Rl (λ_ z=>nomatch z)];exact Sy
    cases b' with
    |false=>
     rw[acJ VM] at ho⊢;obtain rfl:=fZ ho;refine⟨ds.length - (i+1),by omega,i+1,F5,H5,vs,ys,vt.map some,rfl,cN,?_,I5.unpinned,(Az I5).1,(Az I5).2,yR.trans (CH.trans JM),O8,Q_,DenL.mono (CH.trans JM).ff OI,MN⟩;have h1:=I5.len;have h2:=I3.len;rw[Vm] at h1 h2;omega
    |true=>
     rw[acI rfl] at ho⊢;obtain⟨yv,hy,ho⟩:=gM ho;obtain rfl:=fZ ho;refine pass ?_
     try rw[<-Dr]
     refine bV (S6 _ s5 _ H5 (λv H6=>∃F6,Ext F5 H5 F6 H6/\Den X.K F6 yv v) I5 ⟨F5,_,by rw[hK];exact S4.ext JM,by rw[hy,hK];exact WP.take⟩) ?_;rintro xv s6 ⟨v,H6,I6,rv,F6,Ou,qv⟩;have SG:H6 v4.heap.objs.size=some (.lst vs):=Ou.hh _ _ O8;have Ra:F6 v4.heap.objs.size=none:=by rw[Ou.old O8 (λ_ z=>nomatch z)];exact Q_
     have Ud:vs.length<VB:=by
      have:=OI.len;have:=ck;omega
     refine pass ?_;refine bV (sF _ s6 _ H6 (.ref v4.heap.objs.size) [v] (.ref v4.heap.objs.size) [xv] (λ_ H7=>H7=upd H6 v4.heap.objs.size (.lst (vs++[v]))) I6 rfl (.cons rv .nil) ⟨_,vs,v,rfl,rfl,SG,Ud,rfl⟩) ?_;rintro _ s7 ⟨_,H7,I7,_,rfl⟩;have Sx:Ext F2 H2 F6 (upd H6 v4.heap.objs.size (.lst (vs++[v]))):=by
      have e:=yR.trans (CH.trans (JM.trans Ou));refine⟨λb u q=>?_,e.ff,λb u q=>?_,e.new⟩
      ·rw[av (Qt b u q)];exact e.hh b u q
      ·rw[av (λz=>by rw[z,Ra] at q;cases q)];exact e.fh b u q
     refine⟨ds.length - (i+1),by omega,i+1,F6,_,vs++[v],ys++[yv],vt.map some,rfl,cN,?_,I7.unpinned,(Az I7).1,(Az I7).2,Sx,aD,Ra,
      DenL.append (DenL.mono (CH.trans (JM.trans Ou)).ff OI) (.cons qv .nil),MN⟩
     have h1:=I5.len;have h2:=I3.len;rw[Vm] at h1 h2;omega
   ·
    have hi:i=ds.length:=by omega
    subst hi;rw[aay] at heq;have SQ:R=ys:=by
     rw[heq] at hR;have hR:aa (ys++[])=aa R:=hR;rw[<-fZ hR,V7]
    subst SQ;refine pass ?_;rw[hP,hw];refine bV (T.done X' hP hw hK IW ds.length [] s' (σt++σ) H' X'.xe I' (JS Rc) qi ((RT F' H' ds.length yR.ff yR.fh).2 (Vj _))) ?_;rintro r s1 ⟨rfl,I1⟩;obtain⟨m,hm,_⟩:=I1.loc;rw[Dr] at hm;have SE:H' HL.objs.size=none:=by
     have:=I1.free;rw[Dr] at this;exact this
    have u:=I1.base;rw[Tb,hex,SH,RM] at u;have BD:s1.os=v4.os:=by have:=I1.os;rw[RM] at this;exact this
    have MP:=I1.hok;rw[hP,hw] at MP;refine SO s1 HL.objs.size v4.heap.objs.size H' (I2.call' (s':=s1) (ch:=fp) BD u MP I1.bare (λb hb=>⟨(f2 b hb).2.2.2.1,(f2 b hb).2.1,(f2 b hb).2.2.2.2.1,(f2 b hb).2.2.2.2.2⟩)) ?_
     ⟨⟨m,hm⟩,SE,XS (XT I2.lt Bt),VI I2.sz (W4 Bt),λx c q z=>?_,λp hp z=>?_⟩
    rotate_left
    ·obtain⟨v,q'⟩:=I2.cell x c q;exact acK (XT q'.lt Bt) (by rw[z];exact Wc _)
    ·exact acK (XT (Vr (I2.pin p hp).1) Bt) (by rw[z];exact Wc _)
    refine WP.fin w2 (F':=upd F' v4.heap.objs.size (.lst vs)) ⟨yR.hh,λb u q=>?_,λb u q=>?_,λa ha=>?_⟩ ⟨_,vs,rfl,aD,DenL.mono (λb u q=>?_) OI,Rp⟩
    ·rw[av (λz=>by have:=yR.ff b u q;rw[z,fD] at this;cases this)];exact yR.ff b u q
    ·by_cases z:b=v4.heap.objs.size
     ·rw[z,aD] at q;rw[z,hD];exact q
     ·rw[av z] at q;exact yR.fh b u q
    ·rcases yR.new a ha with q | q
     ·exact .inl (by rw[av (λz=>ha (by rw[z];exact nD))];exact q)
     ·exact .inr q
    ·rw[av (λz=>by rw[z,fD] at q;cases q)];exact q
  ·rw[T6];refine⟨0,F2,_,[],[],Vx (max n 1) none,by simp,V1 _,by simp,I0,T.keep _ _ _ tx (λb hb o e=>old b o e),λb hb=>?_,⟨λb u q=>?_,Same.refl _,λb u q=>?_,λ_ _=> .inl rfl⟩,aD,Same.free e2.fh nD,rfl,?_⟩
   ·rw[av (VH (fl b hb))];exact(f2 b hb).1
   ·rw[av (Qt b u q)];exact q
   ·rw[av (Qt b u (e2.fh b u q))];exact e2.fh b u q
   ·rw[List.drop_zero];rcases(dE (ip n δt δe ρ) ds).cs with hq | ⟨m,hq⟩ | ⟨R,hq⟩<;>rw[hq]<;>rfl
 exact codeAny_compStart_list (loop _ rfl) (T.self X.A 0 _ _ _ (T.keep _ _ _ tx (λb hb o e=>old b o e)) (loop _ rfl))
def Inv.block{X:Cx}{f8:List (Addr×Obj)}{σ:St}{H':Hp}{s1:Vf}{C:Addr}{h':Heap}(I:Inv X f8 σ H' s1)(b:BlockEnd X f8 C H' s1)(ud:WQ C s1.heap h'):Inv X f8 σ H' {s1 with heap:=h'}:=
 I.turned (t':=s1.toks) (λa o ha e=>(ud.2 a ha).trans e) b.free b.nl (.inr b.nw) b.nc b.np
section
variable{X:Cx}{Xw:Nat->Hp->Prop}{elt iter tg:Expr}{ifs:List Expr}{scope:Scope}{pos:Pos}{tn:List Str}{n:Nat}{δi:DA}{δt:DT}{δe:DE}
def da(sc:CompSc X scope tn)(hn:tn.length=max n 1)(hc:X.calm=true)(hi:yu X Xw tg iter δi)
 (hg:∀f8 cl C fp v4 H σ,CP (jB X scope tn f8 cl C fp v4 H) tg n σ)
 (ht:∀f8 cl C fp v4 H,lN (jB X scope tn f8 cl C fp v4 H) ifs δt)
 (he:∀f8 cl C fp v4 H,PD (jB X scope tn f8 cl C fp v4 H) (λ_ _=>False) elt δe)
 (hs:∀x,X6 iter X.env x=pure x:=by intro _;rfl):
 PD X Xw (.ListComp elt [⟨tg,iter,ifs,0⟩] scope pos) (ba n δi δt δe):=by
 intro f8 s σ H Q I ⟨F,ρ,S,w⟩;obtain⟨cl,DL,cl1,LN⟩:=oy (scope:=scope) (env:=X.env) λy hy hf=>I.ok.has y.1 (sc.frees y hy hf);rw[eval_ListComp];refine ab0 (use:=none) rfl hs DL sc.kind sc.names (v9 (RR:=λu8 C=>compPost (model X.prog X.w) X.A X.xe none (EP X f8 σ Q) u8 C) sc hn hc hi hg ht he I S w cl1 LN λs1 C D H' I1 q b=>?_);obtain⟨m,hm⟩:=b.ns;exact⟨m,hm,λh' ud=>⟨.ref D,H',Inv.block I1 b ud,rfl,q⟩⟩
end
inductive Out where
 |nx (ρ:aQ) | rt (d:D)
abbrev DS:=aQ->M Out
structure StOk (K:Vn) (s0 acS F H:Hp) (σ:St) (ρ:aQ):Prop where
 ext:Ext s0 acS F H
 st:StE K F H σ ρ
 len:ρ.length=σ.length
 own:∀(i:Nat) (c:C) (a:Addr),ρ[i]? =some (some (.ow c))->σ[i]? =some (some (.ref a))->acS a=none
 sep:∀(i j:Nat) (c c':C) (a:Addr),ρ[i]? =some (some (.ow c))->ρ[j]? =some (some (.ow c'))->σ[i]? =some (some (.ref a))->σ[j]? =some (some (.ref a))->i=j
def WPS(K:Vn)(Xw:Nat->Hp->Prop)(s0 acS:Hp)(m:M Out)(Dn:Ends):Prop:=
 match m with
 |none=>False
 |some (.ok (.nx ρ))=>∀σ F H,StOk K s0 acS F H σ ρ->Dn.nx σ H
 |some (.ok (.rt d))=>∀v F H,Ext s0 acS F H->Den K F d v->Dn.rt v H
 |some (.ex n)=>∀F H,Ext s0 acS F H->Xw n H
def tS(K:Vn)(Xw:Nat->Hp->Prop)(s0 acS:Hp)(τ:DS):TS:=λDn σ H=>∃F ρ,StOk K s0 acS F H σ ρ/\WPS K Xw s0 acS (τ ρ) Dn
def iy(X:Cx)(Xw:Nat->Hp->Prop)(st:Stmt)(τ:DS):Prop:=∀s0 acS,PS X st (tS X.K Xw s0 acS τ)
def PSDs(X:Cx)(Xw:Nat->Hp->Prop)(st:List Stmt)(τ:DS):Prop:=∀s0 acS,PSs X st (tS X.K Xw s0 acS τ)
def PS.weak{X:Cx}{st:Stmt}{t t':TS}(h:PS X st t)(k:∀D σ H,t' D σ H->t D σ H):PS X st t':=λf8 s σ H D I w=>h f8 s σ H D I (k D σ H w)
def PSs.weak{X:Cx}{st:List Stmt}{t t':TS}(h:PSs X st t)(k:∀D σ H,t' D σ H->t D σ H):PSs X st t':=λf8 s σ H D I w=>h f8 s σ H D I (k D σ H w)
section
variable{K:Vn}{s0 acS F H F' H':Hp}{σ:St}{ρ:aQ}
def StOk.ext'(s:StOk K s0 acS F H σ ρ)(e:Ext F H F' H'):StOk K s0 acS F' H' σ ρ:=⟨s.ext.trans e,s.st.ext e,s.len,s.own,s.sep⟩
def StOk.set(s:StOk K s0 acS F H σ ρ){i:Nat}{d:D}{v:V}(h:Den K F d v):StOk K s0 acS F H (σ.set i (some v)) (ρ.set i (some (.fz d))):=by
 have hl:=s.len;have get:∀(j:Nat) (sl:Sl),(ρ.set i (some (.fz d)))[j]? =some (some sl)->(j=i/\i<ρ.length/\sl= .fz d)\/(j≠i/\ρ[j]? =some (some sl)):=λj sl e=>by
  by_cases hj:j=i
  ·subst hj;have hi:j<ρ.length:=by
    have:=(Vt.mp e).1;simpa using this
   rw[VF hi] at e;cases e;exact .inl ⟨rfl,hi,rfl⟩
  ·rw[Vy (Wv hj)] at e;exact .inr ⟨hj,e⟩
 refine⟨s.ext,⟨s.st.fh,λj sl e=>?_⟩,by simp[hl],λj c a e e'=>?_,λj k c c' a e1 e2 e3 e4=>?_⟩
 ·rcases get j sl e with⟨rfl,hi,rfl⟩ | ⟨hj,e⟩
  ·exact⟨v,by rw[VF (by omega)],h⟩
  ·obtain⟨u,h1,h2⟩:=s.st.den j sl e;exact⟨u,by rw[Vy (Wv hj)];exact h1,h2⟩
 ·rcases get j _ e with⟨_,_,z⟩ | ⟨hj,e⟩
  ·cases z
  ·rw[Vy (Wv hj)] at e';exact s.own j c a e e'
 ·rcases get j _ e1 with⟨_,_,z⟩ | ⟨hj,e1⟩
  ·cases z
  ·rcases get k _ e2 with⟨_,_,z⟩ | ⟨hk,e2⟩
   ·cases z
   ·rw[Vy (Wv hj)] at e3;rw[Vy (Wv hk)] at e4;exact s.sep j k c c' a e1 e2 e3 e4
def StOk.setNew(s:StOk K s0 acS F H σ ρ){i:Nat}{a:Addr}{o:HO}{c₀:C}(n:H a=none)(h:DenC K F c₀ o):
 StOk K s0 acS F (upd H a o) (σ.set i (some (.ref a))) (ρ.set i (some (.ow c₀))):=by
 have hle:=s.len;have e0:=Ext.free (o:=o) s.st.fh n;have nF:F a=none:=Same.free s.st.fh n;have get:∀(j:Nat) (sl:Sl),(ρ.set i (some (.ow c₀)))[j]? =some (some sl)->(j=i/\i<ρ.length/\sl= .ow c₀)\/(j≠i/\ρ[j]? =some (some sl)):=λj sl e=>by
  by_cases hj:j=i
  ·subst hj;have hi:j<ρ.length:=by
    have:=(Vt.mp e).1;simpa using this
   rw[VF hi] at e;cases e;exact .inl ⟨rfl,hi,rfl⟩
  ·rw[Vy (Wv hj)] at e;exact .inr ⟨hj,e⟩
 have old:∀(j:Nat) (c:C) (b:Addr),ρ[j]? =some (some (.ow c))->σ[j]? =some (some (.ref b))->b≠a:=λj c b e e' z=>by
  obtain⟨u,h1,b',o,h2,h3,_⟩:=s.st.den j _ e;rw[h1] at e';cases e';cases h2;rw[z,n] at h3;cases h3
 refine⟨s.ext.trans e0,⟨e0.fh,λj sl e=>?_⟩,by simp[hle],λj c b e e'=>?_,λj k c c' b e1 e2 e3 e4=>?_⟩
 ·rcases get j sl e with⟨rfl,hi,rfl⟩ | ⟨hj,e⟩
  ·exact⟨.ref a,by rw[VF (by omega)],a,_,rfl,aD,nF,h⟩
  ·obtain⟨u,h1,h2⟩:=s.st.den j sl e;exact⟨u,by rw[Vy (Wv hj)];exact h1,h2.ext e0⟩
 ·rcases get j _ e with⟨rfl,hi,_⟩ | ⟨hj,e⟩
  ·rw[VF (by omega)] at e';cases e';exact Same.free s.ext.hh n
  ·rw[Vy (Wv hj)] at e';exact s.own j c b e e'
 ·rcases get j _ e1 with⟨rfl,hi,_⟩ | ⟨hj,e1⟩
  ·rw[VF (by omega)] at e3;cases e3;rcases get k _ e2 with⟨rfl,_,_⟩ | ⟨hk,e2⟩
   ·rfl
   ·rw[Vy (Wv hk)] at e4;exact acK rfl (old k c' a e2 e4)
  ·rcases get k _ e2 with⟨PB,hi,_⟩ | ⟨hk,e2⟩
   ·rw[PB,VF (by omega)] at e4;cases e4;rw[Vy (Wv hj)] at e3;exact acK rfl (old j c a (by assumption) e3)
   ·rw[Vy (Wv hj)] at e3;rw[Vy (Wv hk)] at e4;exact s.sep j k c c' b e1 e2 e3 e4
def StOk.chg(s:StOk K s0 acS F H σ ρ){i:Nat}{a:Addr}{c c₀:C}{o₀:HO}(hi:ρ[i]? =some (some (.ow c)))(ha:σ[i]? =some (some (.ref a)))(h:DenC K F c₀ o₀):
 StOk K s0 acS F (upd H a o₀) σ (ρ.set i (some (.ow c₀))):=by
 have hle:=s.len;have h0:=s.own i c a hi ha;obtain⟨u,q1,a',o,q2,q3,q4,q5⟩:=s.st.den i _ hi;rw[ha] at q1;cases q1;cases q2;have LV:i<ρ.length:=(Vt.mp hi).1;have get:∀(j:Nat) (sl:Sl),(ρ.set i (some (.ow c₀)))[j]? =some (some sl)->(j=i/\sl= .ow c₀)\/(j≠i/\ρ[j]? =some (some sl)):=λj sl e=>by
  by_cases hj:j=i
  ·subst hj;rw[VF LV] at e;cases e;exact .inl ⟨rfl,rfl⟩
  ·rw[Vy (Wv hj)] at e;exact .inr ⟨hj,e⟩
 have fh:Same F (upd H a o₀):=λb o e=>by
  rw[av (λz=>by rw[z,q4] at e;cases e)];exact s.st.fh b o e
 refine⟨⟨λb o e=>?_,s.ext.ff,fh,s.ext.new⟩,⟨fh,λj sl e=>?_⟩,by simp[hle],λj c' b e e'=>?_,λj k c1 c2 b e1 e2 e3 e4=>?_⟩
 ·rw[av (λz=>by rw[z,h0] at e;cases e)];exact s.ext.hh b o e
 ·rcases get j sl e with⟨rfl,rfl⟩ | ⟨hj,e⟩
  ·exact⟨.ref a,ha,a,_,rfl,aD,q4,h⟩
  ·obtain⟨u,h1,h2⟩:=s.st.den j sl e;refine⟨u,h1,?_⟩;cases sl with
   |fz d=>exact h2
   |ow c'=>
    obtain⟨b,o',r1,r2,r3,r4⟩:=h2;refine⟨b,o',r1,?_,r3,r4⟩;rw[av (λz=>hj (s.sep j i c' c a e hi (by rw[h1,r1,z]) ha))];exact r2
 ·rcases get j _ e with⟨rfl,_⟩ | ⟨hj,e⟩
  ·rw[ha] at e';cases e';exact h0
  ·exact s.own j c' b e e'
 ·have k1:∃c,ρ[j]? =some (some (.ow c)):=by
   rcases get j _ e1 with⟨rfl,_⟩ | ⟨_,e⟩
   ·exact⟨c,hi⟩
   ·exact⟨_,e⟩
  have k2:∃c,ρ[k]? =some (some (.ow c)):=by
   rcases get k _ e2 with⟨rfl,_⟩ | ⟨_,e⟩
   ·exact⟨c,hi⟩
   ·exact⟨_,e⟩
  obtain⟨_,k1⟩:=k1;obtain⟨_,k2⟩:=k2;exact s.sep j k _ _ b k1 k2 e3 e4
def frz(i:Nat)(ρ:aQ):aQ:=match ρ[i]? with
 |some (some (.ow c))=>ρ.set i (some (.fz c.d))
 |_=>ρ
def StOk.frz(s:StOk K s0 acS F H σ ρ)(i:Nat)(obj:Addr->Obj):(∃a o,H a=some o/\DenC K F (ρ[i]?.elim (.lst []) λx=>x.elim (.lst []) λy=>match y with | .ow c=>c | _=> .lst []) o/\σ[i]? =some (some (.ref a))/\StOk K s0 acS (upd F a (nB (obj a) o)) (upd H a (nB (obj a) o)) σ (frz i ρ))\/frz i ρ=ρ:=by
 unfold L3.frz;split
 ·rename_i c₀ hi;have hle:=s.len;obtain⟨u,ha,a,o,rfl,q3,q4,I_⟩:=s.st.den i _ hi;refine .inl ⟨a,o,q3,by rw[hi];exact I_,ha,?_⟩;have h0:=s.own i _ a hi ha;have LV:i<ρ.length:=(Vt.mp hi).1;have ff:Same F (upd F a (nB (obj a) o)):=λb o e=>by rw[av (λz=>by rw[z,q4] at e;cases e)];exact e
  have fh:Same (upd F a (nB (obj a) o)) (upd H a (nB (obj a) o)):=λb o e=>by
   by_cases z:b=a
   ·rw[z,aD] at e⊢;exact e
   ·rw[av z] at e⊢;exact s.st.fh b o e
  have get:∀(j:Nat) (sl:Sl),(ρ.set i (some (.fz c₀.d)))[j]? =some (some sl)->(j=i/\sl= .fz c₀.d)\/(j≠i/\ρ[j]? =some (some sl)):=λj sl e=>by
   by_cases hj:j=i
   ·subst hj;rw[VF LV] at e;cases e;exact .inl ⟨rfl,rfl⟩
   ·rw[Vy (Wv hj)] at e;exact .inr ⟨hj,e⟩
  refine⟨⟨λb u q=>?_,s.ext.ff.trans ff,fh,λb hb=>?_⟩,⟨fh,λj sl e=>?_⟩,by simp[hle],λj c' b e e'=>?_,λj k c1 c2 b e1 e2 e3 e4=>?_⟩
  ·rw[av (λz=>by rw[z,h0] at q;cases q)];exact s.ext.hh b u q
  ·rcases s.ext.new b hb with q | q
   ·exact .inl (by rw[av (λz=>hb (by rw[z];exact h0))];exact q)
   ·exact .inr q
  ·rcases get j sl e with⟨rfl,rfl⟩ | ⟨hj,e⟩
   ·exact⟨.ref a,ha,DenC.den I_ ff aD⟩
   ·obtain⟨u,h1,h2⟩:=s.st.den j sl e;refine⟨u,h1,?_⟩;cases sl with
    |fz d=>exact Den.mono ff h2
    |ow c'=>
     obtain⟨b,o',r1,r2,r3,r4⟩:=h2;have gh:b≠a:=λz=>hj (s.sep j i c' _ a e hi (by rw[h1,r1,z]) ha);exact⟨b,o',r1,by rw[av gh];exact r2,by rw[av gh];exact r3,DenC.mono ff r4⟩
  ·rcases get j _ e with⟨_,z⟩ | ⟨hj,e⟩
   ·cases z
   ·exact s.own j c' b e e'
  ·rcases get j _ e1 with⟨_,z⟩ | ⟨_,e1⟩
   ·cases z
   ·rcases get k _ e2 with⟨_,z⟩ | ⟨_,e2⟩
    ·cases z
    ·exact s.sep j k _ _ b e1 e2 e3 e4
 ·exact .inr rfl
end
def join(F H:Hp):Hp:=λa=>match F a with
 |some o=>some o
 |none=>H a
def StOk.rebase{K:Vn}{s0 acS F H:Hp}{σ:St}{ρ:aQ}(s:StOk K s0 acS F H σ ρ):StOk K F (join F acS) F H σ ρ/\∀F' H',Ext F (join F acS) F' H'->Ext s0 acS F' H':=by
 have hj:Same (join F acS) H:=λb o e=>by
  unfold join at e;cases q:F b with
  |some u=>rw[q] at e;cases e;exact s.st.fh b _ q
  |none=>rw[q] at e;exact s.ext.hh b o e
 have h0:Same acS (join F acS):=λb o e=>by
  unfold join;cases q:F b with
  |some u=>
   have h1:=s.st.fh b u q;rw[s.ext.hh b o e] at h1;exact h1.symm
  |none=>exact e
 refine⟨⟨⟨hj,Same.refl _,s.st.fh,λ_ _=> .inl rfl⟩,s.st,s.len,λi c a e e'=>?_,s.sep⟩,λF' H' x=>⟨h0.trans x.hh,s.ext.ff.trans x.ff,x.fh,λa ha=>?_⟩⟩
 ·have h1:=s.own i c a e e';obtain⟨v,q1,a',o,q2,q3,q4,_⟩:=s.st.den i _ e;rw[e'] at q1;cases q1;cases q2;unfold join;rw[q4];exact h1
 ·have:join F acS a≠none:=by
   cases q:acS a with
   |none=>exact acK q ha
   |some o=>rw[h0 a o q];exact λz=>nomatch z
  rcases s.ext.new a ha with p | p
  ·rcases x.new a this with q | ⟨ts,q⟩
   ·exact .inl (q.trans p)
   ·cases z:acS a with
    |none=>exact acK z ha
    |some o=>
     rw[h0 a o z] at q;exact .inr ⟨ts,q⟩
  ·exact .inr p
def StOk.unbase{K:Vn}{s0 acS F U F' H':Hp}{σ:St}{ρ:aQ}(k:∀F' H',Ext F U F' H'->Ext s0 acS F' H')(s:StOk K F U F' H' σ ρ)(h:Same acS U):StOk K s0 acS F' H' σ ρ:=
 ⟨k _ _ s.ext,s.st,s.len,λi c a e e'=>Same.free h (s.own i c a e e'),s.sep⟩
def si{K:Vn}{s0 acS F H:Hp}{σ:St}{ρ:aQ}(s:StOk K s0 acS F H σ ρ):Same acS (join F acS):=λb o e=>by
 unfold join;cases q:F b with
 |some u=>
  have h1:=s.st.fh b u q;rw[s.ext.hh b o e] at h1;exact h1.symm
 |none=>exact e
def Inv.refrz{X:Cx}{f8:List (Addr×Obj)}{σ:St}{H:Hp}{s:Vf}{a:Addr}{o o':HO}(I:Inv X f8 σ H s)(e:H a=some o)
 (ho:o'=o\/∃u,o'= .frz ((s.heap.get? a).getD {cls:= .none,data:= .fields #[]}) u/\((∃k,o= .dT k/\u= .dT k)\/∃k,o= .dK k/\u= .dK k)):Inv X f8 σ (upd H a o') s:=by
 rcases ho with rfl | ⟨u,rfl,hu⟩
 ·have:upd H a o'=H:=by
   funext b;by_cases z:b=a
   ·rw[z,aD,e]
   ·rw[av z]
  rw[this];exact I
 have TX:o=u:=by rcases hu with⟨k,h1,h2⟩ | ⟨k,h1,h2⟩<;>rw[h1,h2]
 subst TX;have nt:∀ts,o≠ .tup ts:=λts z=>by rcases hu with⟨k,h1,_⟩ | ⟨k,h1,_⟩<;>rw[h1] at z<;>cases z
 have nf:∀ob v,o≠ .frz ob v:=λob v z=>by rcases hu with⟨k,h1,_⟩ | ⟨k,h1,_⟩<;>rw[h1] at z<;>cases z
 have nb:∀p,o≠ .tbl p:=λp z=>by rcases hu with⟨k,h1,_⟩ | ⟨k,h1,_⟩<;>rw[h1] at z<;>cases z
 have no:∀p,o≠ .own p:=λp z=>by rcases hu with⟨k,h1,_⟩ | ⟨k,h1,_⟩<;>rw[h1] at z<;>cases z
 have ne:∀b,H b=none->b≠a:=λb hb z=>by rw[z,e] at hb;cases hb
 have hk:=I.hok a o e;have cN:=hk.lt;obtain⟨ob,MX⟩:∃ob,s.heap.get? a=some ob:=by
  rcases hu with⟨k,h1,_⟩ | ⟨k,h1,_⟩
  ·subst h1;obtain⟨_,_,_,_,ob,_,_,q,_⟩:=hk;exact⟨ob,q⟩
  ·subst h1;obtain⟨_,_,_,_,ob,_,_,q,_⟩:=hk;exact⟨ob,q⟩
 rw[MX];refine⟨I.ok,I.os,I.bare,⟨I.base.keep,I.base.slot,λb q h1 h2 h3=>?_,I.base.there,λb xs q=>?_,λb q1 v q=>?_,λb ps q=>?_⟩,I.loc,I.cell,?_,λx c q=>?_,λp hp=>?_,λb v q=>?_,I.len⟩
 ·have:=I.base.free b q h1 h2 h3;rw[av (ne b this)];exact this
 ·have:=I.base.tups b xs q;rw[av (λz=>by rw[z,e] at this;exact nt xs (VO this))];exact this
 ·have:=I.base.frzs b q1 v q;rw[av (λz=>by rw[z,e] at this;exact nf _ _ (VO this))];exact this
 ·obtain⟨m,this⟩:=I.base.tbls b ps q;exact⟨m,by rw[av (λz=>by rw[z,e] at this;exact nb _ (VO this))];exact this⟩
 ·rw[av (ne _ I.free)];exact I.free
 ·rw[av (ne _ (I.freeC x c q))];exact I.freeC x c q
 ·obtain⟨h1,h2,h3⟩:=I.pin p hp;exact⟨h1,by rw[av (ne _ h2)];exact h2,h3⟩
 ·have st:∀{c:Addr}{v:HO},ObjOk X.prog X.w H s.heap c v->ObjOk X.prog X.w (upd H a (.frz ob o)) s.heap c v:=λ{c v} k=>k.stay (λ_ _ _ q=>q)
   (λc' q=>by rw[av (λz=>by rw[z,e] at q;exact no _ (VO q))];exact q) λc' xs q=>by rw[av (λz=>by rw[z,e] at q;exact nt _ (VO q))];exact q
  by_cases z:b=a
  ·subst z;rw[show (some ob).getD _=ob from rfl,aD] at q;cases q;exact⟨MX,st hk⟩
  ·rw[av z] at q;exact st (I.hok b v q)
def aF(a b:DS):DS:=λρ=>a ρ>>=λo=>match o with | .nx ρ'=>b ρ' | .rt d=>aa (.rt d)
def dj:DS:=λρ=>aa (.nx ρ)
def bR(δ:DE):DS:=λρ=>δ ρ>>=λd=>aa (.rt d)
def u_(δ:DE):DS:=λρ=>δ ρ>>=λ_=>aa (.nx ρ)
def bh(i:Nat)(δ:DE):DS:=λρ=>δ ρ>>=λd=>aa (.nx (ρ.set i (some (.fz d))))
def ix(c:DT)(a b:DS):DS:=λρ=>c ρ>>=λx=>if x then a ρ else b ρ
def yt(i:Nat)(a:DS):DS:=λρ=>a (frz i ρ)
def rf(i:Nat):DS:=λρ=>aa (.nx (ρ.set i (some (.ow (.lst [])))))
def Ca(ρ:aQ)(i:Nat):Option (List D):=match ρ[i]? with
 |some (some (.ow (.lst ds)))=>some ds
 |_=>none
def sL{ρ:aQ}{i:Nat}{ds:List D}(h:Ca ρ i=some ds):ρ[i]? =some (some (.ow (.lst ds))):=by
 unfold Ca at h;split at h
 ·rename_i ds' e;cases h;exact e
 ·cases h
def g7(i:Nat)(δ:DE):DS:=λρ=>match Ca ρ i with
 |some ds=>δ ρ>>=λd=>if ds.length<lim then aa (.nx (ρ.set i (some (.ow (.lst (ds++[d])))))) else ag
 |none=>ag
def Fy(i:Nat)(δ:DE):DS:=λρ=>match Ca ρ i with
 |some ds=>δ ρ>>=λd=>lstM d>>=λes=>if ds.length+es.length<=lim then aa (.nx (ρ.set i (some (.ow (.lst (ds++es)))))) else ag
 |none=>ag
def forL(put:D->aQ->Option aQ)(body:DS):List D->DS
 |[],ρ=>aa (.nx ρ)
 |d::ds,ρ=>(match put d ρ with | none=>ag | some ρ1=>body ρ1>>=λo=>match o with | .nx ρ2=>forL put body ds ρ2 | .rt v=>aa (.rt v))
def putN(i:Nat):D->aQ->Option aQ:=λd ρ=>some (ρ.set i (some (.fz d)))
def cJ(put:D->aQ->Option aQ)(δi:DA)(body:DS):DS:=λρ=>δi ρ>>=λds=>forL put body ds ρ
section
variable{X:Cx}{Xw:Nat->Hp->Prop}{s0 acS:Hp}{st:Stmt}{P3:List Stmt}{τ τ':DS}{e:Expr}{δ:DE}{pos:Pos}
def bQ:PSDs X Xw [] dj:=λs0 acS=>PSs.weak H0 λD σ H ⟨F,ρ,s,w⟩=>w σ F H s
def aj(h1:iy X Xw st τ)(h2:PSDs X Xw P3 τ'):PSDs X Xw (st::P3) (aF τ τ'):=λs0 acS=>PSs.weak (Fg (h1 s0 acS) (h2 s0 acS)) λD σ H ⟨F,ρ,s,w⟩=>by
 refine⟨F,ρ,s,?_⟩;unfold aF at w
 match τ ρ,w with
 |none,w=>exact w
 |some (.ok (.nx ρ')),w=>exact λσ' F' H' s'=>⟨F',ρ',s',w⟩
 |some (.ok (.rt d)),w=>exact w
 |some (.ex n),w=>exact w
def ao(h1:iy X Xw st τ):PSDs X Xw [st] τ:=λs0 acS=>H8 (h1 s0 acS)
def dq{i:Nat}(h:iy X Xw st τ):iy X Xw st (yt i τ):=λs0 acS f8 sh σ H D I ⟨F,ρ,s,w⟩=>by
 rcases s.frz i (λa=>(sh.heap.get? a).getD {cls:= .none,data:= .fields #[]}) with⟨a,o,ha,hc,hσ,s'⟩ | e
 ·refine h s0 acS f8 sh σ _ D (L3.Inv.refrz I ha ?_) ⟨_,_,s',w⟩;generalize (ρ[i]?.elim (C.lst []) λx=>x.elim (.lst []) λy=>match y with | .ow c=>c | _=> .lst [])=c at hc;cases c with
  |lst ds=>obtain⟨vs,rfl,_⟩:=hc;exact .inl rfl
  |dct ks ds=>obtain⟨vs,rfl,_⟩:=hc;exact .inr ⟨_,rfl, .inl ⟨_,rfl,rfl⟩⟩
  |dci ks ds=>obtain⟨vs,rfl,_⟩:=hc;exact .inr ⟨_,rfl, .inr ⟨_,rfl,rfl⟩⟩
 ·exact h s0 acS f8 sh σ H D I ⟨F,ρ,s,by unfold yt at w;rw[e] at w;exact w⟩
def aI(h:PD X Xw e δ):iy X Xw (.Return (some e) pos) (bR δ):=λs0 acS=>PS.weak (Le h) λD σ H ⟨F,ρ,s,w⟩=>by
 refine⟨F,ρ,s.st,?_⟩;unfold bR at w
 match δ ρ,w with
 |none,w=>exact w
 |some (.ok d),w=>exact λv H' F' e' q=>w v F' H' (s.ext.trans e') q
 |some (.ex n),w=>exact λF' H' e'=>w F' H' (s.ext.trans e')
def uY(h:PD X Xw e δ)(hs:Zr e none pos.line X.env=pure false:=by rfl):iy X Xw (.Expr e pos) (u_ δ):=λs0 acS=>PS.weak (nT h hs) λD σ H ⟨F,ρ,s,w⟩=>by
 refine⟨F,ρ,s.st,?_⟩;unfold u_ at w
 match δ ρ,w with
 |none,w=>exact w
 |some (.ok d),w=>exact λv H' F' e' q=>w σ F' H' (s.ext' e')
 |some (.ex n),w=>exact λF' H' e'=>w F' H' (s.ext.trans e')
def aJ{i:Nat}{x:Str}{pos':Pos}(hN:X.N.Nodup)(hi:X.N[i]? =some x)(hx:Loc X.env.scope x)(he:PD X Xw e δ)(hf:X.fn x=true\/X.env.scope.names.lookup x=some .local:=by first | exact .inl rfl | exact .inr rfl)
 (hs:ace [.Name x pos'] e pos.line X.env=pure false:=by rfl):
 iy X Xw (.Assign [.Name x pos'] e pos) (bh i δ):=λs0 acS=>PS.weak (uX he (a8 hN hi hx hf) hs) λD σ H ⟨F,ρ,s,w⟩=>by
 refine⟨F,ρ,s.st,?_⟩;unfold bh at w
 match δ ρ,w with
 |none,w=>exact w
 |some (.ok d),w=>exact λv H' F' e' q=>w _ F' H' ((s.ext' e').set q)
 |some (.ex n),w=>exact λF' H' e'=>w F' H' (s.ext.trans e')
def m7{elt iter tg:Expr}{ifs:List Expr}{scope:Scope}{aO:Pos}{tn:List Str}{n:Nat}{δi:DA}{δt:DT}{δe:DE}{i:Nat}{x:Str}{pos':Pos}(hN:X.N.Nodup)(vM:X.N[i]? =some x)(hx:Loc X.env.scope x)
 (sc:CompSc X scope tn)(hn:tn.length=max n 1)(hc:X.calm=true)(hi:yu X Xw tg iter δi)
 (hg:∀f8 cl C fp v4 H σ,CP (jB X scope tn f8 cl C fp v4 H) tg n σ)
 (ht:∀f8 cl C fp v4 H,lN (jB X scope tn f8 cl C fp v4 H) ifs δt)
 (he:∀f8 cl C fp v4 H,PD (jB X scope tn f8 cl C fp v4 H) (λ_ _=>False) elt δe)
 (hf:X.fn x=true\/X.env.scope.names.lookup x=some .local:=by first | exact .inl rfl | exact .inr rfl)
 (T5:Zr (.ListComp elt [⟨tg,iter,ifs,0⟩] scope aO) (some (.Name x pos')) pos.line X.env=pure true:=by rfl)
 (hs:∀x,X6 iter X.env x=pure x:=by intro _;rfl):
 iy X Xw (.Assign [.Name x pos'] (.ListComp elt [⟨tg,iter,ifs,0⟩] scope aO) pos) (bh i (ba n δi δt δe)):=λs0 acS f8 s σ H D I ⟨F,ρ,S,w⟩=>by
 obtain⟨cl,DL,cl1,LN⟩:=oy (scope:=scope) (env:=X.env) λy hy hf=>I.ok.has y.1 (sc.frees y hy hf);have w':WP X.K Xw F H (ba n δi δt δe ρ) (λv H'=>D.nx (σ.set i (some v)) H'):=by
  have w:WPS X.K Xw s0 acS (ba n δi δt δe ρ>>=λd=>aa (.nx (ρ.set i (some (.fz d))))) D:=w
  match ba n δi δt δe ρ,w with
  |none,w=>exact w
  |some (.ok d),w=>exact λv H' F' e' q=>w _ F' H' ((S.ext' e').set q)
  |some (.ex n),w=>exact λF' H' e'=>w F' H' (S.ext.trans e')
 rw[exec_Assign_Name_used _ _ _ _ T5];refine U_ (wpAny_standAt (U_ ?_));show wpAny _ X.A (do let _<-comprehension (.ListComp elt [⟨tg,iter,ifs,0⟩] scope aO) scope X.env _ (newList []) false (eval iter X.env) (some (assign (.Name x pos') X.env))) _ _ s;refine U_ (Wl (ab0 (use:=some (assign (.Name x pos') X.env)) (Q:=λ_ s'=>SP X f8 D .next s') rfl hs DL sc.kind sc.names
  (v9 (RR:=λu8 C=>compPost (model X.prog X.w) X.A X.xe (some (assign (.Name x pos') X.env)) (λ_ s'=>SP X f8 D .next s') u8 C) sc hn hc hi hg ht he I S.st w' cl1 LN λs1 C D' H' I1 q b=>?_)) (λ_ s' hq=>Va (Va hq)) λ_ _ e=>e)
 show wpAny _ X.A (assign (.Name x pos') X.env (.ref D')) _ _ _;refine aaQ (mi I1 hN vM hx (v:= .ref D') rfl (λs2 I2 ⟨a,sb,ha⟩=>?_) hf);have SD:C≠a:=by
  rcases ha with z | z
  ·rw[z];exact b.nl
  ·exact Wv (b.nc x a z)
 obtain⟨m,hm⟩:=b.ns;have Jc:s2.heap.Ns C m:=hm.sameBut sb SD;refine⟨m,Jc,λh' ud=>⟨_,H',Inv.block I2 ⟨⟨m,Jc⟩,b.free,b.nl,b.nw,b.nc,b.np⟩ ud,q⟩⟩
def cF{c:Expr}{a b:List Stmt}{tc:DT}(hc:qC X Xw c tc)(ha:PSDs X Xw a τ)(hb:PSDs X Xw b τ'):iy X Xw (.If c a b pos) (ix tc τ τ'):=λs0 acS=>PS.weak (NL hc (ha s0 acS) (hb s0 acS)) λD σ H ⟨F,ρ,s,w⟩=>by
 refine⟨F,ρ,s.st,?_⟩;unfold ix at w
 match tc ρ,w with
 |none,w=>exact w
 |some (.ok true),w=>exact λH' F' e'=>⟨F',ρ,s.ext' e',w⟩
 |some (.ok false),w=>exact λH' F' e'=>⟨F',ρ,s.ext' e',w⟩
 |some (.ex n),w=>exact λF' H' e'=>w F' H' (s.ext.trans e')
def fY{i:Nat}{x:Str}{pos' zE:Pos}(hN:X.N.Nodup)(hi:X.N[i]? =some x)(hx:Loc X.env.scope x)(hf:X.fn x=true\/X.env.scope.names.lookup x=some .local:=by first | exact .inl rfl | exact .inr rfl):
 iy X Xw (.Assign [.Name x pos'] (.List [] zE) pos) (rf i):=λs0 acS=>PS.weak (uX (E_ uO) (a8 hN hi hx hf) rfl) λD σ H ⟨F,ρ,s,w⟩=>by
 refine⟨V1 _,λp hp=>?_⟩;exact w _ F _ (s.setNew (c₀:= .lst []) hp ⟨[],rfl,rfl,V1 _⟩)
def z5(K:Vn)(g:TG)(put:D->aQ->Option aQ):Prop:=∀(s0 acS F H:Hp) (σ:St) (ρ ρ':aQ) (d:D) (v:V) (Q:St->Hp->Prop),StOk K s0 acS F H σ ρ->Den K F d v->put d ρ=some ρ'->
 (∀σ',StOk K s0 acS F H σ' ρ'->Q σ' H)->g v σ H Q
def bt{K:Vn}{i:Nat}:z5 K (DG i) (putN i):=λs0 acS F H σ ρ ρ' d v Q s q e k=>by
 cases e;exact k _ (s.set q)
def UG(K:Vn)(Xw:Nat->Hp->Prop)(τ:DS):TS:=λD σ H=>∃s0 acS,tS K Xw s0 acS τ D σ H
def PSDs.ex{body:List Stmt}(h:PSDs X Xw body τ):PSs X body (UG X.K Xw τ):=λf8 s σ H D I ⟨s0,acS,w⟩=>h s0 acS f8 s σ H D I w
def bF{tg iter:Expr}{body:List Stmt}{δi:DA}{g:TG}{put:D->aQ->Option aQ}(hp:PassesOwn (model X.prog X.w) X.A X.env X.xe)(hc:X.calm=true)(hi:yu X Xw tg iter δi)(hg:PG X tg g)(DY:z5 X.K g put)(hb:PSDs X Xw body τ)
 (hs:∀x,X6 iter X.env x=pure x:=by intro _;rfl):iy X Xw (.For tg iter body [] pos) (cJ put δi τ):=λs0 acS=>PS.weak (Ld hp hc hi hg hb.ex hs) λD σ H ⟨F,ρ,s,w⟩=>by
 refine⟨F,ρ,s.st,?_⟩;unfold cJ at w
 match δi ρ,w with
 |none,w=>exact w
 |some (.ex n),w=>exact λF' H' e'=>w F' H' (s.ext.trans e')
 |some (.ok ds),w=>
  have w:WPS X.K Xw s0 acS (forL put τ ds ρ) D:=w;intro J H1 F1 e1 Nk;obtain⟨s1,back⟩:=(s.ext' e1).rebase;have hU:=si (s.ext' e1);generalize join F1 acS=U at s1 back hU;refine⟨λi m σ H=>m=ds.length - i/\i<=ds.length/\∃F ρ,StOk X.K F1 U F H σ ρ/\WPS X.K Xw s0 acS (forL put τ (ds.drop i) ρ) D,⟨ds.length,by simp,V1 _,F1,ρ,s1,by simpa using w⟩,?_⟩;rintro i m σ2 H2 ⟨rfl,MR,F2,ρ2,s2,w2⟩;by_cases cN:i<ds.length
  ·obtain⟨d,hd⟩:∃d,ds[i]? =some d:=⟨_,Vg cN⟩
   obtain⟨MO,D1⟩:=(Nk F2 H2 i s2.ext.ff s2.st.fh).1 d hd;have ed:ds.drop i=d::ds.drop (i+1):=by
    obtain⟨hi,e⟩:=Vt.mp hd;rw[X4 hi,e]
   rw[ed] at w2;unfold forL at w2;refine .inr ⟨MO,λσ' H'=>∃F' ρ',StOk X.K F1 U F' H' σ' ρ'/\WPS X.K Xw s0 acS (forL put τ (ds.drop (i+1)) ρ') D,λσ' H' ⟨F',ρ',h2,h3⟩=>⟨ds.length - (i+1),by omega,rfl,cN,F',ρ',h2,h3⟩,λx H3 y3=>?_⟩;obtain⟨F3,CH,q3⟩:=D1 x H3 y3
   match M0:put d ρ2,w2 with
   |none,w2=>exact w2.elim
   |some ρ3,w2=>
    refine DY F1 U F3 H3 σ2 ρ2 ρ3 d x _ (s2.ext' CH) q3 M0 λσ3 s3=>⟨F1,U,F3,ρ3,s3,?_⟩
    have w2:WPS X.K Xw s0 acS (τ ρ3>>=λo=>match o with | .nx ρ2=>forL put τ (ds.drop (i+1)) ρ2 | .rt v=>aa (.rt v)) D:=w2
    match τ ρ3,w2 with
    |none,w2=>exact w2
    |some (.ok (.nx ρ')),w2=>exact λσ' F' H' s'=>⟨F',ρ',s',w2⟩
    |some (.ok (.rt d)),w2=>exact λv F' H' e q=>w2 v F' H' (back _ _ e) q
    |some (.ex n),w2=>exact λF' H' e=>w2 F' H' (back _ _ e)
  ·have hi:i=ds.length:=by omega
   subst hi;rw[aay] at w2;exact .inl ⟨(Nk F2 H2 ds.length s2.ext.ff s2.st.fh).2 (Vj _),w2 σ2 F2 H2 (s2.unbase back hU)⟩
end
def gI(f:Int->Int->D):D->D->M D
 | .int i, .int j=>aa (f i j)
 |_,_=>ag
def Mv(c:Int->Int->Bool)(f:Int->Int->D):D->D->M D
 | .int i, .int j=>if c i j then aa (f i j) else ag
 |_,_=>ag
def EI{K:Vn}{gv:Int->Int->V}{gd:Int->Int->D}(h:∀F i j,Den K F (gd i j) (gv i j)):yp K (Ck gv) (gI gd):=λXw F H x y dx dy Q s hx hy w=>by
 unfold gI at w;split at w
 ·rename_i i j;exact⟨i,j,hx,hy,WP.now w s (h F i j)⟩
 ·exact w.elim
def zp{K:Vn}{gv:Int->Int->V}{gd:Int->Int->D}{c:Int->Int->Bool}{C:Int->Int->Prop}(h:∀F i j,Den K F (gd i j) (gv i j))(hc:∀i j,c i j=true->C i j):yp K (rI C gv) (Mv c gd):=λXw F H x y dx dy Q s hx hy w=>by
 unfold Mv at w;split at w
 ·rename_i i j;split at w
  ·rename_i Oz;exact⟨i,j,hx,hy,hc i j Oz,WP.now w s (h F i j)⟩
  ·exact w.elim
 ·exact w.elim
def dw:=gI λi j=> .int (i+j)
def yV:=gI λi j=> .int (i - j)
def gg:=Mv (λi j=>decide ((-(2 ^ 64)<i/\i<2 ^ 64)\/(-(2 ^ 64)<j/\j<2 ^ 64))) λi j=> .int (i*j)
def kC:=Mv (λ_ j=>decide (0<j/\j<1073741824)) λi j=> .int (i / j)
def iw:=Mv (λ_ j=>decide (0<j)) λi j=> .int (i % j)
section
variable{X:Cx}{Xw:Nat->Hp->Prop}{a b:Expr}{δa δb:DE}{pos:Pos}
def cW(ha:PD X Xw a δa)(hb:PD X Xw b δb):PD X Xw (.BinOp a .Add b pos) (d2 dw δa δb):=lj KD (EI λ_ _ _=>rfl) ha hb
def uV(ha:PD X Xw a δa)(hb:PD X Xw b δb):PD X Xw (.BinOp a .Sub b pos) (d2 yV δa δb):=lj KO (EI λ_ _ _=>rfl) ha hb
def iX(ha:PD X Xw a δa)(hb:PD X Xw b δb):PD X Xw (.BinOp a .Mult b pos) (d2 gg δa δb):=lj KJ (zp (λ_ _ _=>rfl) λi j h=>by unfold CMul;exact acO h) ha hb
def pW(ha:PD X Xw a δa)(hb:PD X Xw b δb):PD X Xw (.BinOp a .FloorDiv b pos) (d2 kC δa δb):=lj Hs (zp (λ_ _ _=>rfl) λi j h=>by unfold L_;exact acO h) ha hb
def j8(ha:PD X Xw a δa)(hb:PD X Xw b δb):PD X Xw (.BinOp a .Mod b pos) (d2 iw δa δb):=lj KI (zp (λ_ _ _=>rfl) λi j h=>acO h) ha hb
def wB:D->D->M D
 | .lst ds, .int i=>match atI ds i with | some d=>aa d | none=>ag
 |_,_=>ag
def a9:D->D->M D
 | .tup ds, .int i=>match atI ds i with | some d=>aa d | none=>ag
 |_,_=>ag
def DC:D->D->M D
 | .scr ns, .int i=>match atI ns i with | some n=>aa (.int n) | none=>ag
 |_,_=>ag
def jz:D->D->M D
 | .str x, .int i=>match atI x.cps.toList i with | some c=>aa (.str ⟨#[c]⟩) | none=>ag
 |_,_=>ag
def DenL.atI{K:Vn}{F:Hp}{ds:List D}{vs:List V}(h:DenL K F ds vs){i:Int}{d:D}(e:L2.atI ds i=some d):∃v,L2.atI vs i=some v/\Den K F d v:=by
 unfold L2.atI at e⊢;rw[<-h.len];cases q:Ko ds.length i with
 |none=>rw[q] at e;cases e
 |some j=>
  rw[q] at e;exact h.get e
def Hu{K:Vn}:yp K (Ll K) wB:=λXw F H x y dx dy Q s hx hy w=>by
 unfold wB at w;split at w
 ·rename_i ds i;obtain⟨a,vs,h1,h2,h3,h4⟩:=hx;split at w
  ·rename_i d e;obtain⟨v,e1,q⟩:=h3.atI e;exact⟨a,vs,i,v,h1,hy,SqL.of (s _ _ h2),e1,WP.now w s q⟩
  ·exact w.elim
 ·exact w.elim
def Hx{K:Vn}:yp K (NV K) a9:=λXw F H x y dx dy Q s hx hy w=>by
 unfold a9 at w;split at w
 ·rename_i ds i;obtain⟨a,vs,h1,h2,h3,h4⟩:=hx;split at w
  ·rename_i d e;obtain⟨v,e1,q⟩:=h3.atI e;exact⟨a,vs,i,v,h1,hy,SqT.of (s _ _ h2),e1,WP.now w s q⟩
  ·exact w.elim
 ·exact w.elim
def Hv{K:Vn}:yp K (Ll K) DC:=λXw F H x y dx dy Q s hx hy w=>by
 unfold DC at w;split at w
 ·rename_i ns i;obtain⟨a,h1,h2,h3⟩:=hx;split at w
  ·rename_i n e;refine⟨a,_,i, .int n,h1,hy,Same.seq s h2,?_,WP.now w s rfl⟩;unfold L2.atI at e⊢;rw[Vb];cases q:Ko ns.length i with
   |none=>rw[q] at e;cases e
   |some j=>
    rw[q] at e;have e:ns[j]? =some n:=e;show (ns.map V.int)[j]? =some (.int n);rw[Vz,e];rfl
  ·exact w.elim
 ·exact w.elim
def Hw{K:Vn}:yp K NU jz:=λXw F H x y dx dy Q s hx hy w=>by
 unfold jz at w;split at w
 ·rename_i z i;obtain⟨h1,h2⟩:=hx;split at w
  ·rename_i c e;exact⟨z,i,c,h1,hy,by have:=ck;omega,e,WP.now w s ⟨rfl,by show 1<=lim;decide⟩⟩
  ·exact w.elim
 ·exact w.elim
def zw(ha:PD X Xw a δa)(hb:PD X Xw b δb)(hs:jf b:=by intro _ _;rfl):PD X Xw (.Subscript a b pos) (d2 wB δa δb):=AN Ax Hu ha hb hs
def KY(ha:PD X Xw a δa)(hb:PD X Xw b δb)(hs:jf b:=by intro _ _;rfl):PD X Xw (.Subscript a b pos) (d2 DC δa δb):=AN Ax Hv ha hb hs
def bI(ha:PD X Xw a δa)(hb:PD X Xw b δb)(hs:jf b:=by intro _ _;rfl):PD X Xw (.Subscript a b pos) (d2 a9 δa δb):=AN Kq Hx ha hb hs
def uS(ha:PD X Xw a δa)(hb:PD X Xw b δb)(hs:jf b:=by intro _ _;rfl):PD X Xw (.Subscript a b pos) (d2 jz δa δb):=AN Kp Hw ha hb hs
def eZ:D->D->M D
 | .str x, .str y=>if x.length+y.length<=lim then aa (.str (x++y)) else ag
 |_,_=>ag
def mE:D->D->M D
 | .lst x, .lst y=>if x.length+y.length<=lim then aa (.lst (x++y)) else ag
 |_,_=>ag
def JU:D->D->M D
 | .lst x, .int k=>if (0<=k/\k<=64)/\x.length*k.toNat<=lim then aa (.lst (Vx k.toNat x).flatten) else ag
 |_,_=>ag
def aX(x y:Str):(x++y).length=x.length+y.length:=by
 show (x.cps++y.cps).size=_;simp[Str.length]
def jq(ha:PD X Xw a δa)(hb:PD X Xw b δb):PD X Xw (.BinOp a .Add b pos) (d2 eZ δa δb):=lj zo (λXw F H x y dx dy Q s hx hy w=>by
 unfold eZ at w;split at w
 ·rename_i i j;split at w
  ·rename_i hl;exact⟨i,j,hx.1,hy.1,by have:=ck;omega,WP.now w s ⟨rfl,by rw[aX];exact hl⟩⟩
  ·exact w.elim
 ·exact w.elim) ha hb
def uQ(ha:PD X Xw a δa)(hb:PD X Xw b δb):PD X Xw (.BinOp a .Add b pos) (d2 mE δa δb):=lj KG (λXw F H x y dx dy Q s hx hy w=>by
 unfold mE at w;split at w
 ·rename_i i j;obtain⟨a,vs,h1,h2,h3,h4⟩:=hx;obtain⟨a',vs',k1,k2,k3,k4⟩:=hy;split at w
  ·rename_i hl;have e1:=h3.len;have e2:=k3.len;have:=ck;refine⟨a,a',vs,vs',h1,k1,s _ _ h2,s _ _ k2,by omega,λp hp=>?_⟩;exact WP.fin w (Ext.lay s hp) ⟨p,_,rfl,aD,DenL.mono (Ext.lay s hp).ff (h3.append k3),by rw[Vm];exact hl⟩
  ·exact w.elim
 ·exact w.elim) ha hb
def DenL.rep{K:Vn}{F:Hp}{ds:List D}{vs:List V}(h:DenL K F ds vs):∀n:Nat,DenL K F (Vx n ds).flatten (Vx n vs).flatten
 |0=>rfl
 |n+1=>by
  rw[W9,W9,XX,XX];exact h.append (DenL.rep h n)
def K0(ha:PD X Xw a δa)(hb:PD X Xw b δb):PD X Xw (.BinOp a .Mult b pos) (d2 JU δa δb):=lj KN (λXw F H x y dx dy Q s hx hy w=>by
 unfold JU at w;split at w
 ·rename_i i k;obtain⟨a,vs,h1,h2,h3,h4⟩:=hx;split at w
  ·rename_i hl;obtain⟨⟨l1,l2⟩,l3⟩:=hl;have e1:=h3.len;have:=ck;refine⟨a,k,vs,h1,hy,s _ _ h2,by omega,by omega,by rw[<-e1];omega,λp hp=>?_⟩;exact WP.fin w (Ext.lay s hp) ⟨p,_,rfl,aD,DenL.mono (Ext.lay s hp).ff (h3.rep _),by rw[len_rep,abS];exact l3⟩
  ·exact w.elim
 ·exact w.elim) ha hb
end
end L3
namespace L3
open PySem PySem.Spec L2 SeqAt
open PyProof.Rows hiding St
def mB(f:D->D->Option Bool):List D->List D->Option Bool
 |[],[]=>some true
 |x::xs,y::ys=>match f x y,mB f xs ys with
  |some b,some r=>some (b&&r)
  |_,_=>none
 |[],_::_=>some false
 |_::_,[]=>some false
def yP:D->D->Option Bool
 | .non, .non=>some true
 | .bl a, .bl b=>some (a==b)
 | .bl a, .int j=>some ((if a then 1 else 0)==j)
 | .int i, .bl b=>some (i==(if b then 1 else 0))
 | .int i, .int j=>some (i==j)
 | .str x, .str y=>some (x==y)
 | .non, .bl _=>some false
 | .non, .int _=>some false
 | .non, .str _=>some false
 | .non, .lst _=>some false
 | .non, .tup _=>some false
 | .bl _, .non=>some false
 | .bl _, .str _=>some false
 | .bl _, .lst _=>some false
 | .bl _, .tup _=>some false
 | .int _, .non=>some false
 | .int _, .str _=>some false
 | .int _, .lst _=>some false
 | .int _, .tup _=>some false
 | .str _, .non=>some false
 | .str _, .bl _=>some false
 | .str _, .int _=>some false
 | .str _, .lst _=>some false
 | .str _, .tup _=>some false
 | .lst _, .non=>some false
 | .lst _, .bl _=>some false
 | .lst _, .int _=>some false
 | .lst _, .str _=>some false
 | .lst _, .tup _=>some false
 | .tup _, .non=>some false
 | .tup _, .bl _=>some false
 | .tup _, .int _=>some false
 | .tup _, .str _=>some false
 | .tup _, .lst _=>some false
 |_,_=>none
def jw:Nat->D->D->Option Bool
 |n+1, .tup xs, .tup ys=>mB (jw n) xs ys
 |n+1, .lst xs, .lst ys=>mB (jw n) xs ys
 |n+1, .scr xs, .lst ys=>mB (jw n) (xs.map D.int) ys
 |_,x,y=>yP x y
structure EqAll (A:V2) (s:Vf) (u v:Value) (b:Bool):Prop where
 rc:RcAt A s u v b
 ne:RcNeAt A s u v (!b)
 eq:EqAt A s u v b
section
variable{X:Cx}{f8:List (Addr×Obj)}{σ:St}{F H:Hp}{s:Vf}{A:V2}
def eY(I:Inv X f8 σ H s)(hs:Same F H){ds:List D}{v:V}{u:Value}(h:Den X.K F (.tup ds) v)(r:RelV v u):∃a vs aB,u= .ref a/\v= .ref a/\F a=some (.tup vs)/\DenL X.K F ds vs/\Vals vs aB/\s.heap.IsTuple a aB.toArray:=by
 obtain⟨a,vs,rfl,h2,h3,h4⟩:=h;obtain⟨aB,r1,p1,_⟩:=I.tuple (SqT.of (hs _ _ h2));exact⟨a,vs,aB,r,rfl,h2,h3,r1,p1⟩
def eE(I:Inv X f8 σ H s)(hs:Same F H){ds:List D}{v:V}{u:Value}(h:Den X.K F (.lst ds) v)(r:RelV v u):∃a vs aB,u= .ref a/\v= .ref a/\F a=some (.lst vs)/\DenL X.K F ds vs/\Vals vs aB/\s.heap.IsList a aB.toArray:=by
 obtain⟨a,vs,rfl,h2,h3,h4⟩:=h;obtain⟨aB,r1,p1,_⟩:=I.list (SqL.of (hs _ _ h2));exact⟨a,vs,aB,r,rfl,h2,h3,r1,p1.isList⟩
def Lw(I:Inv X f8 σ H s)(hs:Same F H){ns:List Int}{v:V}{u:Value}(h:Den X.K F (.scr ns) v)(r:RelV v u):∃a aB,u= .ref a/\v= .ref a/\SqL X.K F a (ns.map V.int)/\Vals (ns.map V.int) aB/\s.heap.IsList a aB.toArray:=by
 obtain⟨a,rfl,h2,h3⟩:=h;obtain⟨aB,r1,p1,_⟩:=I.list (Same.seq hs h2);exact⟨a,aB,r,rfl,h2,r1,p1.isList⟩
def wu(I:Inv X f8 σ H s)(hs:Same F H)(hu:A.units<cLine){x y:D}{v w:V}{u t:Value}{b:Bool}(hx:Den X.K F x v)(hy:Den X.K F y w)(rx:RelV v u)(ry:RelV w t)(e:yP x y=some b):EqAll A s u t b:=by
 cases x with
 |non=>
  cases y with
  |non=>
   cases e;cases (show _=_ from hx);cases rx;cases (show _=_ from hy);cases ry;exact⟨RcAt.none_none,RcNeAt.none_none,EqAt.same _⟩
  |bl d=>
   cases e;cases (show _=_ from hx);cases rx;cases (show _=_ from hy);cases ry;exact⟨RcAt.none_bool _,RcNeAt.none_bool _,EqAt.none_bool _⟩
  |int d=>
   cases e;cases (show _=_ from hx);cases rx;cases (show _=_ from hy);obtain⟨t2,rfl⟩:=ry;exact⟨RcAt.none_int _ _,RcNeAt.none_int _ _,EqAt.none_int _ _⟩
  |str d=>
   cases e;cases (show _=_ from hx);cases rx;cases (show _=_ from hy.1);obtain⟨t2,rfl⟩:=ry;exact⟨RcAt.none_str _ _,RcNeAt.none_str _ _,EqAt.none_str _ _⟩
  |raw d=>cases e
  |dct _ _=>cases e
  |dci _ _=>cases e
  |exc d=>cases e
  |scr d=>cases e
  |tup d=>
   cases e;cases (show _=_ from hx);cases rx;obtain⟨a2,_,_,rfl,_,_,_,_,p2⟩:=eY I hs hy ry;exact⟨RcAt.none_tuple p2 hu,RcNeAt.none_tuple p2 hu,EqAt.none_tuple p2 hu⟩
  |lst d=>
   cases e;cases (show _=_ from hx);cases rx;obtain⟨a2,_,_,rfl,_,_,_,_,p2⟩:=eE I hs hy ry;exact⟨RcAt.none_list p2 hu,RcNeAt.none_list p2 hu,EqAt.none_list p2 hu⟩
 |bl c=>
  cases y with
  |non=>
   cases e;cases (show _=_ from hx);cases rx;cases (show _=_ from hy);cases ry;exact⟨RcAt.bool_none _,RcNeAt.bool_none _,EqAt.bool_none _⟩
  |bl d=>
   cases e;cases (show _=_ from hx);cases rx;cases (show _=_ from hy);cases ry;exact⟨RcAt.bool_bool _ _,RcNeAt.bool_bool _ _,EqAt.bool_bool _ _⟩
  |int d=>
   cases e;cases (show _=_ from hx);cases rx;cases (show _=_ from hy);obtain⟨t2,rfl⟩:=ry;exact⟨RcAt.bool_int _ _ _,RcNeAt.bool_int _ _ _,EqAt.bool_int _ _ _⟩
  |str d=>
   cases e;cases (show _=_ from hx);cases rx;cases (show _=_ from hy.1);obtain⟨t2,rfl⟩:=ry;exact⟨RcAt.bool_str _ _ _,RcNeAt.bool_str _ _ _,EqAt.bool_str _ _ _⟩
  |raw d=>cases e
  |dct _ _=>cases e
  |dci _ _=>cases e
  |exc d=>cases e
  |scr d=>cases e
  |tup d=>
   cases e;cases (show _=_ from hx);cases rx;obtain⟨a2,_,_,rfl,_,_,_,_,p2⟩:=eY I hs hy ry;exact⟨RcAt.bool_tuple _ p2 hu,RcNeAt.bool_tuple _ p2 hu,EqAt.bool_tuple _ p2 hu⟩
  |lst d=>
   cases e;cases (show _=_ from hx);cases rx;obtain⟨a2,_,_,rfl,_,_,_,_,p2⟩:=eE I hs hy ry;exact⟨RcAt.bool_list _ p2 hu,RcNeAt.bool_list _ p2 hu,EqAt.bool_list _ p2 hu⟩
 |int c=>
  cases y with
  |non=>
   cases e;cases (show _=_ from hx);obtain⟨t1,rfl⟩:=rx;cases (show _=_ from hy);cases ry;exact⟨RcAt.int_none _ _,RcNeAt.int_none _ _,EqAt.int_none _ _⟩
  |bl d=>
   cases e;cases (show _=_ from hx);obtain⟨t1,rfl⟩:=rx;cases (show _=_ from hy);cases ry;exact⟨RcAt.int_bool _ _ _,RcNeAt.int_bool _ _ _,EqAt.int_bool _ _ _⟩
  |int d=>
   cases e;cases (show _=_ from hx);obtain⟨t1,rfl⟩:=rx;cases (show _=_ from hy);obtain⟨t2,rfl⟩:=ry;exact⟨RcAt.int_int _ _ _ _,RcNeAt.int_int _ _ _ _,EqAt.int_int _ _ _ _⟩
  |str d=>
   cases e;cases (show _=_ from hx);obtain⟨t1,rfl⟩:=rx;cases (show _=_ from hy.1);obtain⟨t2,rfl⟩:=ry;exact⟨RcAt.int_str _ _ _ _,RcNeAt.int_str _ _ _ _,EqAt.int_str _ _ _ _⟩
  |raw d=>cases e
  |dct _ _=>cases e
  |dci _ _=>cases e
  |exc d=>cases e
  |scr d=>cases e
  |tup d=>
   cases e;cases (show _=_ from hx);obtain⟨t1,rfl⟩:=rx;obtain⟨a2,_,_,rfl,_,_,_,_,p2⟩:=eY I hs hy ry;exact⟨RcAt.int_tuple _ _ p2 hu,RcNeAt.int_tuple _ _ p2 hu,EqAt.int_tuple _ _ p2 hu⟩
  |lst d=>
   cases e;cases (show _=_ from hx);obtain⟨t1,rfl⟩:=rx;obtain⟨a2,_,_,rfl,_,_,_,_,p2⟩:=eE I hs hy ry;exact⟨RcAt.int_list _ _ p2 hu,RcNeAt.int_list _ _ p2 hu,EqAt.int_list _ _ p2 hu⟩
 |str c=>
  cases y with
  |non=>
   cases e;cases (show _=_ from hx.1);obtain⟨t1,rfl⟩:=rx;cases (show _=_ from hy);cases ry;exact⟨RcAt.str_none _ _,RcNeAt.str_none _ _,EqAt.str_none _ _⟩
  |bl d=>
   cases e;cases (show _=_ from hx.1);obtain⟨t1,rfl⟩:=rx;cases (show _=_ from hy);cases ry;exact⟨RcAt.str_bool _ _ _,RcNeAt.str_bool _ _ _,EqAt.str_bool _ _ _⟩
  |int d=>
   cases e;cases (show _=_ from hx.1);obtain⟨t1,rfl⟩:=rx;cases (show _=_ from hy);obtain⟨t2,rfl⟩:=ry;exact⟨RcAt.str_int _ _ _ _,RcNeAt.str_int _ _ _ _,EqAt.str_int _ _ _ _⟩
  |str d=>
   cases e;cases (show _=_ from hx.1);obtain⟨t1,rfl⟩:=rx;cases (show _=_ from hy.1);obtain⟨t2,rfl⟩:=ry;exact⟨RcAt.str_str _ _ _ _,RcNeAt.str_str _ _ _ _,EqAt.str_str _ _ _ _⟩
  |raw d=>cases e
  |dct _ _=>cases e
  |dci _ _=>cases e
  |exc d=>cases e
  |scr d=>cases e
  |tup d=>
   cases e;cases (show _=_ from hx.1);obtain⟨t1,rfl⟩:=rx;obtain⟨a2,_,_,rfl,_,_,_,_,p2⟩:=eY I hs hy ry;exact⟨RcAt.str_tuple _ _ p2 hu,RcNeAt.str_tuple _ _ p2 hu,EqAt.str_tuple _ _ p2 hu⟩
  |lst d=>
   cases e;cases (show _=_ from hx.1);obtain⟨t1,rfl⟩:=rx;obtain⟨a2,_,_,rfl,_,_,_,_,p2⟩:=eE I hs hy ry;exact⟨RcAt.str_list _ _ p2 hu,RcNeAt.str_list _ _ p2 hu,EqAt.str_list _ _ p2 hu⟩
 |raw _=>cases y<;>cases e
 |dct _ _=>cases y<;>cases e
 |dci _ _=>cases y<;>cases e
 |exc _=>cases y<;>cases e
 |scr c=>cases y<;>cases e
 |tup c=>
  cases y with
  |non=>
   cases e;obtain⟨a1,_,_,rfl,_,_,_,_,p1⟩:=eY I hs hx rx;cases (show _=_ from hy);cases ry;exact⟨RcAt.tuple_none p1 hu,RcNeAt.tuple_none p1 hu,EqAt.tuple_none p1 hu⟩
  |bl d=>
   cases e;obtain⟨a1,_,_,rfl,_,_,_,_,p1⟩:=eY I hs hx rx;cases (show _=_ from hy);cases ry;exact⟨RcAt.tuple_bool _ p1 hu,RcNeAt.tuple_bool _ p1 hu,EqAt.tuple_bool _ p1 hu⟩
  |int d=>
   cases e;obtain⟨a1,_,_,rfl,_,_,_,_,p1⟩:=eY I hs hx rx;cases (show _=_ from hy);obtain⟨t2,rfl⟩:=ry;exact⟨RcAt.tuple_int _ _ p1 hu,RcNeAt.tuple_int _ _ p1 hu,EqAt.tuple_int _ _ p1 hu⟩
  |str d=>
   cases e;obtain⟨a1,_,_,rfl,_,_,_,_,p1⟩:=eY I hs hx rx;cases (show _=_ from hy.1);obtain⟨t2,rfl⟩:=ry;exact⟨RcAt.tuple_str _ _ p1 hu,RcNeAt.tuple_str _ _ p1 hu,EqAt.tuple_str _ _ p1 hu⟩
  |raw d=>cases e
  |dct _ _=>cases e
  |dci _ _=>cases e
  |exc d=>cases e
  |scr d=>cases e
  |tup d=>cases e
  |lst d=>
   cases e;obtain⟨a1,_,_,rfl,_,_,_,_,p1⟩:=eY I hs hx rx;obtain⟨a2,_,_,rfl,_,_,_,_,p2⟩:=eE I hs hy ry;exact⟨RcAt.tuple_list p1 p2 hu,RcNeAt.tuple_list p1 p2 hu,EqAt.tuple_list p1 p2 hu⟩
 |lst c=>
  cases y with
  |non=>
   cases e;obtain⟨a1,_,_,rfl,_,_,_,_,p1⟩:=eE I hs hx rx;cases (show _=_ from hy);cases ry;exact⟨RcAt.list_none p1 hu,RcNeAt.list_none p1 hu,EqAt.list_none p1 hu⟩
  |bl d=>
   cases e;obtain⟨a1,_,_,rfl,_,_,_,_,p1⟩:=eE I hs hx rx;cases (show _=_ from hy);cases ry;exact⟨RcAt.list_bool _ p1 hu,RcNeAt.list_bool _ p1 hu,EqAt.list_bool _ p1 hu⟩
  |int d=>
   cases e;obtain⟨a1,_,_,rfl,_,_,_,_,p1⟩:=eE I hs hx rx;cases (show _=_ from hy);obtain⟨t2,rfl⟩:=ry;exact⟨RcAt.list_int _ _ p1 hu,RcNeAt.list_int _ _ p1 hu,EqAt.list_int _ _ p1 hu⟩
  |str d=>
   cases e;obtain⟨a1,_,_,rfl,_,_,_,_,p1⟩:=eE I hs hx rx;cases (show _=_ from hy.1);obtain⟨t2,rfl⟩:=ry;exact⟨RcAt.list_str _ _ p1 hu,RcNeAt.list_str _ _ p1 hu,EqAt.list_str _ _ p1 hu⟩
  |raw d=>cases e
  |dct _ _=>cases e
  |dci _ _=>cases e
  |exc d=>cases e
  |scr d=>cases e
  |tup d=>
   cases e;obtain⟨a1,_,_,rfl,_,_,_,_,p1⟩:=eE I hs hx rx;obtain⟨a2,_,_,rfl,_,_,_,_,p2⟩:=eY I hs hy ry;exact⟨RcAt.list_tuple p1 p2 hu,RcNeAt.list_tuple p1 p2 hu,EqAt.list_tuple p1 p2 hu⟩
  |lst d=>cases e
end
def ev(f:D->D->Option Bool)(xs ys:List D)(j:Nat):Bool:=match xs[j]?,ys[j]? with
 |some x,some y=>(f x y).getD false
 |_,_=>false
def wm{f:D->D->Option Bool}:∀{xs ys:List D}{b:Bool},mB f xs ys=some b->∀(j:Nat) (x y:D),xs[j]? =some x->ys[j]? =some y->∃c,f x y=some c
 |[],_,_,_,_,_,_,h,_=>by simp at h
 |_::_,[],_,_,_,_,_,_,h=>by simp at h
 |x::xs,y::ys,b,e,j,x',y',hx,hy=>by
  unfold mB at e;split at e
  ·rename_i b1 r1 e1 e2;cases j with
   |zero=>simp at hx hy;subst hx hy;exact⟨_,e1⟩
   |succ j=>exact wm e2 j x' y' (by simpa using hx) (by simpa using hy)
  ·cases e
def t8{f:D->D->Option Bool}:∀{xs ys:List D}{b:Bool},mB f xs ys=some b->b=((Vw (min xs.length ys.length)).all (ev f xs ys)&&xs.length==ys.length)
 |[],[],_,e=>by cases e;rfl
 |[],_::_,_,e=>by cases e;simp
 |_::_,[],_,e=>by cases e;simp
 |x::xs,y::ys,b,e=>by
  unfold mB at e;split at e
  ·rename_i b1 r1 e1 e2;cases e;have h:=t8 e2;rw[Vk,Vk,Nat.succ_min_succ,abB,YL,YT];have e0:ev f (x::xs) (y::ys) 0=b1:=by unfold ev;simp[e1]
   have e3:(ev f (x::xs) (y::ys)∘Nat.succ)=ev f xs ys:=by funext j;simp[ev,acH]
   have e4:(xs.length+1==ys.length+1)=(xs.length==ys.length):=by simp
   rw[e0,e3,e4,h,Bool.and_assoc]
  ·cases e
section
variable{X:Cx}{f8:List (Addr×Obj)}{σ:St}{F H:Hp}{s:Vf}
def kA{f:D->D->Option Bool}(h:∀x y v b,Den X.K F x v->Den X.K F y v->f x y=some b->b=true):∀{xs ys:List D}{vs:List V}{b:Bool},DenL X.K F xs vs->DenL X.K F ys vs->mB f xs ys=some b->b=true
 |[],[],_,_,_,_,e=>by cases e;rfl
 |[],_::_,_,_,h1,h2,_=>by
  cases (show _=_ from h1);obtain⟨v,r,z,_⟩:=h2;cases z
 |_::_,[],_,_,h1,h2,_=>by
  cases (show _=_ from h2);obtain⟨v,r,z,_⟩:=h1;cases z
 |x::xs,y::ys,_,b,⟨v,r,e1,q1,q2⟩,⟨v',r',e2,q3,q4⟩,e=>by
  subst e1;cases e2;unfold mB at e;split at e
  ·rename_i b1 r1 f1 f2;cases e;rw[h x y v b1 q1 q3 f1,kA h q2 q4 f2];rfl
  ·cases e
def rL{x y:D}{v:V}{b:Bool}(hx:Den X.K F x v)(hy:Den X.K F y v)(e:yP x y=some b):b=true:=by
 cases x<;>cases y<;>first
  |(cases e;done)
  |(cases e;cases (show _=_ from hx);cases (show _=_ from hy);first | rfl | simp)
  |(cases e;cases (show _=_ from hx.1);cases (show _=_ from hy.1);simp)
  |(cases e;cases (show _=_ from hx);cases (show _=_ from hy.1))
  |(cases e;cases (show _=_ from hx.1);cases (show _=_ from hy))
  |(cases e;obtain⟨_,_,z,_⟩:=hx;subst z;cases (show _=_ from hy);done)
  |(cases e;obtain⟨_,_,z,_⟩:=hx;subst z;cases (show _=_ from hy.1);done)
  |(cases e;obtain⟨_,z,_⟩:=hx;subst z;cases (show _=_ from hy);done)
  |(cases e;obtain⟨_,z,_⟩:=hx;subst z;cases (show _=_ from hy.1);done)
  |(cases e;obtain⟨_,_,z,_⟩:=hy;subst z;cases (show _=_ from hx);done)
  |(cases e;obtain⟨_,_,z,_⟩:=hy;subst z;cases (show _=_ from hx.1);done)
  |(cases e;obtain⟨_,z,_⟩:=hy;subst z;cases (show _=_ from hx);done)
  |(cases e;obtain⟨_,z,_⟩:=hy;subst z;cases (show _=_ from hx.1);done)
  |(cases e;obtain⟨_,_,z,h2,_⟩:=hx;obtain⟨_,_,z',Rh,_⟩:=hy;subst z;cases z';rw[h2] at Rh;cases Rh;done)
  |(cases e;cases (show _=_ from hx);cases (show _=_ from hy);done)
  |(cases e;cases (show _=_ from hx.1);cases (show _=_ from hy.1);done)
def kz(I:Inv X f8 σ H s)(hs:Same F H):∀(n:Nat) (x y:D) (v:V) (b:Bool),Den X.K F x v->Den X.K F y v->jw n x y=some b->b=true
 |0,x,y,v,b,hx,hy,e=>rL hx hy (by unfold jw at e;exact e)
 |n+1,x,y,v,b,hx,hy,e=>by
  unfold jw at e;split at e
  ·rename_i xs ys _;obtain⟨a,vs,rfl,h2,h3,_⟩:=hx;obtain⟨a',vs',z,k2,k3,_⟩:=hy;cases z;rw[h2] at k2;cases k2;exact kA (kz I hs _) h3 k3 (by simpa using e)
  ·rename_i xs ys _;obtain⟨a,vs,rfl,h2,h3,_⟩:=hx;obtain⟨a',vs',z,k2,k3,_⟩:=hy;cases z;rw[h2] at k2;cases k2;exact kA (kz I hs _) h3 k3 (by simpa using e)
  ·rename_i xs ys _;obtain⟨a,rfl,h2,_⟩:=hx;obtain⟨a',vs',z,k2,k3,_⟩:=hy;cases z;have hv:=I.list_inj (Same.seq hs h2) (SqL.of (hs _ _ k2));rw[<-hv] at k3;exact kA (kz I hs _) (DenL.ints xs) k3 (by simpa using e)
  ·exact rL hx hy e
def Vals.at{vs:List V}{aB:List Value}(r:Vals vs aB){j:Nat}(h:j<aB.toArray.size):∃v,vs[j]? =some v/\RelV v aB.toArray[j]:=by
 have hl:=r.length;have hj:j<vs.length:=by rw[Vl] at h;omega
 obtain⟨u,e1,e2⟩:=r.get (Vg hj);refine⟨vs[j],Vg hj,?_⟩;have:aB.toArray[j]=u:=by
  have:=(Vt.mp e1).2;simpa using this
 rw[this];exact e2
def nO{f:D->D->Option Bool}{A:V2}{xs ys:List D}{vs ws:List V}{aB eB:List Value}{b:Bool}(h1:DenL X.K F xs vs)(h2:DenL X.K F ys ws)(r1:Vals vs aB)(r2:Vals ws eB)(e:mB f xs ys=some b)
 (ih:∀x y v w u t c,Den X.K F x v->Den X.K F y w->RelV v u->RelV w t->f x y=some c->EqAt A s u t c):
 ∀j (k1:j<aB.toArray.size) (k2:j<eB.toArray.size),EqAt A s aB.toArray[j] eB.toArray[j] (ev f xs ys j):=λj k1 k2=>by
 obtain⟨v,e1,q1⟩:=Vals.at r1 k1;obtain⟨w,e2,q2⟩:=Vals.at r2 k2;obtain⟨x,e3,q3⟩:=h1.at e1;obtain⟨y,e4,q4⟩:=h2.at e2;obtain⟨c,hc⟩:=wm e j x y e3 e4;have:ev f xs ys j=c:=by unfold ev;rw[e3,e4];simp[hc]
 rw[this];exact ih x y v w _ _ c q3 q4 q1 q2 hc
def sA{f:D->D->Option Bool}{A:V2}(hu:A.units<cLine){xs ys:List D}{vs ws:List V}{aB eB:List Value}{b:Bool}{a a':Addr}(h1:DenL X.K F xs vs)(h2:DenL X.K F ys ws)(r1:Vals vs aB)(r2:Vals ws eB)
 (p1:s.heap.IsList a aB.toArray)(p2:s.heap.IsList a' eB.toArray)(e:mB f xs ys=some b)(hr:a=a'->b=true)
 (ih:∀x y v w u t c,Den X.K F x v->Den X.K F y w->RelV v u->RelV w t->f x y=some c->EqAt A.in1 s u t c):EqAll A s (.ref a) (.ref a') b:=by
 have l1:=h1.len;have l2:=h2.len;have l3:=r1.length;have l4:=r2.length;have hv:=t8 e;have core:RcAt A s (.ref a) (.ref a') b/\RcNeAt A s (.ref a) (.ref a') (!b):=by
  by_cases hl:xs.length=ys.length
  ·have hsz:aB.toArray.size=eB.toArray.size:=by rw[Vl,Vl];omega
   have hb:b=(Vw aB.toArray.size).all (ev f xs ys):=by
    rw[hv,hl,Nat.min_self,beq_self_eq_true,abm];congr 2;rw[Vl];omega
   rw[hb];exact⟨RcAt.lists p1 p2 hsz hu (nO h1 h2 r1 r2 e ih),RcNeAt.lists p1 p2 hsz hu (nO h1 h2 r1 r2 e ih)⟩
  ·have hb:b=false:=by rw[hv,show (xs.length==ys.length)=false from by simpa using hl,YY]
   have hsz:(aB.toArray.size !=eB.toArray.size)=true:=by
    rw[Vl,Vl];simp;omega
   rw[hb];exact⟨RcAt.lists_lengths p1 p2 hsz hu,RcNeAt.lists_lengths p1 p2 hsz hu⟩
 refine⟨core.1,core.2,?_⟩;by_cases hq:a=a'
 ·rw[hr hq];subst hq;exact EqAt.same _
 ·exact EqAt.of_refs hq core.1
def zS{f:D->D->Option Bool}{A:V2}(hu:A.units<cLine){xs ys:List D}{vs ws:List V}{aB eB:List Value}{b:Bool}{a a':Addr}(h1:DenL X.K F xs vs)(h2:DenL X.K F ys ws)(r1:Vals vs aB)(r2:Vals ws eB)
 (p1:s.heap.IsTuple a aB.toArray)(p2:s.heap.IsTuple a' eB.toArray)(e:mB f xs ys=some b)(hr:a=a'->b=true)
 (ih:∀x y v w u t c,Den X.K F x v->Den X.K F y w->RelV v u->RelV w t->f x y=some c->EqAt A.in1 s u t c):EqAll A s (.ref a) (.ref a') b:=by
 have l1:=h1.len;have l2:=h2.len;have l3:=r1.length;have l4:=r2.length;have hb:b=((Vw (min aB.toArray.size eB.toArray.size)).all (ev f xs ys)&&aB.toArray.size==eB.toArray.size):=by
  rw[t8 e,Vl,Vl,<-l3,<-l4,<-l1,<-l2]
 have core:RcAt A s (.ref a) (.ref a') b/\RcNeAt A s (.ref a) (.ref a') (!b):=by
  rw[hb];exact⟨RcAt.tuples p1 p2 hu (nO h1 h2 r1 r2 e ih),RcNeAt.tuples p1 p2 hu (nO h1 h2 r1 r2 e ih)⟩
 refine⟨core.1,core.2,?_⟩;by_cases hq:a=a'
 ·rw[hr hq];subst hq;exact EqAt.same _
 ·exact EqAt.of_refs hq core.1
def t9(I:Inv X f8 σ H s)(hs:Same F H):∀(n:Nat) (A:V2) (x y:D) (v w:V) (u t:Value) (b:Bool),A.units+n<cLine->Den X.K F x v->Den X.K F y w->RelV v u->RelV w t->jw n x y=some b->EqAll A s u t b
 |0,A,x,y,v,w,u,t,b,hu,hx,hy,rx,ry,e=>wu I hs (by omega) hx hy rx ry (by unfold jw at e;exact e)
 |n+1,A,x,y,v,w,u,t,b,hu,hx,hy,rx,ry,e=>by
  have OG:A.units<cLine:=by omega
  have Ub:A.in1.units+n<cLine:=by show A.units+1+n<cLine;omega
  have hrefl:=kz (F:=F) I hs (n+1) x y;have ih:∀x y v w u t c,Den X.K F x v->Den X.K F y w->RelV v u->RelV w t->jw n x y=some c->EqAt A.in1 s u t c:=λx y v w u t c q1 q2 q3 q4 q5=>(t9 I hs n A.in1 x y v w u t c Ub q1 q2 q3 q4 q5).eq;have e0:=e;unfold jw at e;split at e
  ·rename_i xs ys heq;cases heq;obtain⟨a,vs,aB,rfl,Mq,h2,h3,r1,p1⟩:=eY I hs hx rx;obtain⟨a',vs',its',rfl,Mr,k2,k3,NN,NC⟩:=eY I hs hy ry;exact zS OG h3 k3 r1 NN p1 NC e (λz=>by subst z;exact hrefl v b hx (by rw[Mq,<-Mr];exact hy) e0) ih
  ·rename_i xs ys heq;cases heq;obtain⟨a,vs,aB,rfl,Mq,h2,h3,r1,p1⟩:=eE I hs hx rx;obtain⟨a',vs',its',rfl,Mr,k2,k3,NN,NC⟩:=eE I hs hy ry;exact sA OG h3 k3 r1 NN p1 NC e (λz=>by subst z;exact hrefl v b hx (by rw[Mq,<-Mr];exact hy) e0) ih
  ·rename_i xs ys heq;cases heq;obtain⟨a,aB,rfl,Mq,h2,r1,p1⟩:=Lw I hs hx rx;obtain⟨a',vs',its',rfl,Mr,k2,k3,NN,NC⟩:=eE I hs hy ry;exact sA OG (DenL.ints _) k3 r1 NN p1 NC e (λz=>by subst z;exact hrefl v b hx (by rw[Mq,<-Mr];exact hy) e0) ih
  ·exact wu I hs OG hx hy rx ry e
end
def jy(x y:D):M D:=match jw 6 x y with | some b=>aa (.bl b) | none=>ag
def rQ(x y:D):M D:=match jw 6 x y with | some b=>aa (.bl (!b)) | none=>ag
def NP(K:Vn):R2:=λx y H Q=>∃F dx dy b,Same F H/\Den K F dx x/\Den K F dy y/\jw 6 dx dy=some b/\Q (.bl b) H
def NY(K:Vn):R2:=λx y H Q=>∃F dx dy b,Same F H/\Den K F dx x/\Den K F dy y/\jw 6 dx dy=some b/\Q (.bl (!b)) H
section
variable{X:Cx}{Xw:Nat->Hp->Prop}{a b:Expr}{δa δb:DE}{pos:Pos}
def EH(hu:X.A.units+64<cLine):OpR X (Ww .Eq) (NP X.K):=by
 intro f8 s σ H x y v u Q I rx ry h;obtain⟨F,dx,dy,b,hs,hx,hy,e,q⟩:=h;exact(t9 I hs 6 X.A dx dy x y v u b (by omega) hx hy rx ry e).rc _ _ _ _ ⟨.bl b,H,I,rfl,q⟩
def KL(hu:X.A.units+64<cLine):OpR X (Ww .NotEq) (NY X.K):=by
 intro f8 s σ H x y v u Q I rx ry h;obtain⟨F,dx,dy,b,hs,hx,hy,e,q⟩:=h;exact(t9 I hs 6 X.A dx dy x y v u b (by omega) hx hy rx ry e).ne _ _ _ _ ⟨.bl (!b),H,I,rfl,q⟩
def EJ{K:Vn}:yp K (NP K) jy:=λXw F H x y dx dy Q s hx hy w=>by
 unfold jy at w;split at w
 ·rename_i b e;exact⟨F,dx,dy,b,s,hx,hy,e,WP.now w s rfl⟩
 ·exact w.elim
def KP{K:Vn}:yp K (NY K) rQ:=λXw F H x y dx dy Q s hx hy w=>by
 unfold rQ at w;split at w
 ·rename_i b e;exact⟨F,dx,dy,b,s,hx,hy,e,WP.now w s rfl⟩
 ·exact w.elim
def p4(hu:X.A.units+64<cLine)(ha:PD X Xw a δa)(hb:PD X Xw b δb):qC X Xw (.Compare a [.Eq] [b] pos) (dN (d2 jy δa δb)):=lp (EH hu) EJ ha hb
def p5(hu:X.A.units+64<cLine)(ha:PD X Xw a δa)(hb:PD X Xw b δb):qC X Xw (.Compare a [.NotEq] [b] pos) (dN (d2 rQ δa δb)):=lp (KL hu) KP ha hb
def xB(hu:X.A.units+64<cLine)(ha:PD X Xw a δa)(hb:PD X Xw b δb):PD X Xw (.Compare a [.Eq] [b] pos) (d2 jy δa δb):=ES (EH hu) EJ ha hb
end
def PDW(X:Cx)(Xw:Nat->Hp->Prop)(e:Expr)(δ:DT):Prop:=PW X e (QP X.K Xw δ)
def PW.weak{X:Cx}{e:Expr}{t t':TT}(h:PW X e t)(k:∀σ H Q,t' σ H Q->t σ H Q):PW X e t':=λwh f8 s σ H Q I w=>h wh f8 s σ H Q I (k σ H Q w)
section
variable{X:Cx}{Xw:Nat->Hp->Prop}{a b c:Expr}{P3:List Expr}{δa δb δc:DE}{τa τb:DT}{pos:Pos}
def xD(ha:qC X Xw a τa):PDW X Xw (.BoolOp .And [a] pos) τa:=Ib ha
def gZ(ha:qC X Xw a τa):PDW X Xw (.BoolOp .Or [a] pos) τa:=Lj ha
def uW(ha:qC X Xw a τa)(hb:PDW X Xw (.BoolOp .And (b::P3) pos) τb):PDW X Xw (.BoolOp .And (a::b::P3) pos) (ku τa τb):=PW.weak (Li ha hb) λσ H Q ⟨F,ρ,s,w⟩=>by
 refine⟨F,ρ,s,WPB.mono (WPB.bindB w) λv H1 ⟨F1,e1,w1⟩=>?_⟩;cases v with
 |true=>exact⟨F1,ρ,s.ext e1,w1⟩
 |false=>exact w1 _ _ (Ext.refl e1.fh)
def j9(ha:qC X Xw a τa)(hb:PDW X Xw (.BoolOp .Or (b::P3) pos) τb):PDW X Xw (.BoolOp .Or (a::b::P3) pos) (oA τa τb):=PW.weak (NM ha hb) λσ H Q ⟨F,ρ,s,w⟩=>by
 refine⟨F,ρ,s,WPB.mono (WPB.bindB w) λv H1 ⟨F1,e1,w1⟩=>?_⟩;cases v with
 |false=>exact⟨F1,ρ,s.ext e1,w1⟩
 |true=>exact w1 _ _ (Ext.refl e1.fh)
def PDW.t(h:PDW X Xw a τa):qC X Xw a τa:=PW.pt h
def d6(ha:qC X Xw a τa):qC X Xw (.UnaryOp .Not a pos) (dQ τa):=PT.weak (Lg ha) λσ H Q ⟨F,ρ,s,w⟩=>
 ⟨F,ρ,s,WPB.mono (WPB.bindB w) λv H1 ⟨F1,e1,w1⟩=>w1 _ _ (Ext.refl e1.fh)⟩
def F4:D->M Bool
 | .non=>aa false
 | .bl b=>aa b
 | .lst ds=>aa (!ds.isEmpty)
 | .tup ds=>aa (!ds.isEmpty)
 |_=>ag
def cH(δ:DE):DT:=λρ=>δ ρ>>=F4
def DenL.isEmpty{K:Vn}{F:Hp}{ds:List D}{vs:List V}(h:DenL K F ds vs):ds.isEmpty=vs.isEmpty:=by
 have:=h.len;cases ds<;>cases vs<;>simp_all
def de(ha:PD X Xw a δa)(he:∀whole,isTrue a X.env whole=(do let v<-whole;standAt a.pos;holding [v] (truthy v)):=by intro _;rfl):qC X Xw a (cH δa):=PT.weak (Fj ha he) λσ H Q ⟨F,ρ,s,w⟩=>by
 refine⟨F,ρ,s,WP.mono (WPB.bind (K:=X.K) w) λv H1 ⟨F1,d,e1,q1,w1⟩=>?_⟩;cases d with
 |non=>cases (show _=_ from q1);exact⟨false,rfl,w1 _ _ (Ext.refl e1.fh)⟩
 |bl b=>cases (show _=_ from q1);exact⟨b,rfl,w1 _ _ (Ext.refl e1.fh)⟩
 |lst ds=>
  obtain⟨a,vs,rfl,h2,h3,_⟩:=q1;exact⟨!ds.isEmpty, .inl ⟨vs,SqL.of (e1.fh _ _ h2),by rw[h3.isEmpty]⟩,w1 _ _ (Ext.refl e1.fh)⟩
 |tup ds=>
  obtain⟨a,vs,rfl,h2,h3,_⟩:=q1;exact⟨!ds.isEmpty, .inr (.inl ⟨vs,SqT.of (e1.fh _ _ h2),by rw[h3.isEmpty]⟩),w1 _ _ (Ext.refl e1.fh)⟩
 |_=>exact w1.elim
def zA{op}(h:PD X Xw a δa):PD X Xw (.BoolOp op [a] pos) δa:=K7 h
def uP(ha:PD X Xw a δa)(hb:PD X Xw (.BoolOp .And (b::P3) pos) δb):PD X Xw (.BoolOp .And (a::b::P3) pos) (eQ δa δb):=PE.weak (K2 ha hb) λσ H Q ⟨F,ρ,s,w⟩=>by
 refine⟨F,ρ,s,WP.mono (WP.bind w) λv H1 ⟨F1,d,e1,q1,w1⟩=>?_⟩;cases d with
 |bl k=>
  refine⟨k,q1,?_⟩;cases k with
  |true=>exact⟨F1,ρ,s.ext e1,w1⟩
  |false=>exact WP.now w1 e1.fh rfl
 |_=>exact w1.elim
def KZ(ha:PD X Xw a δa):PD X Xw (.UnaryOp .Not a pos) (IH δa):=PE.weak (K6 ha) λσ H Q ⟨F,ρ,s,w⟩=>by
 refine⟨F,ρ,s,WP.mono (WP.bind w) λv H1 ⟨F1,d,e1,q1,w1⟩=>?_⟩;cases d with
 |bl k=>exact⟨k,q1,WP.now w1 e1.fh rfl⟩
 |_=>exact w1.elim
def ND(hc:qC X Xw c τa)(ha:PD X Xw a δa)(hb:PD X Xw b δb):PD X Xw (.IfExp c a b pos) (Q7 τa δa δb):=PE.weak (E9 hc ha hb) λσ H Q ⟨F,ρ,s,w⟩=>by
 refine⟨F,ρ,s,WPB.mono (WP.bindB w) λv H1 ⟨F1,e1,w1⟩=>?_⟩;cases v with
 |true=>exact⟨F1,ρ,s.ext e1,w1⟩
 |false=>exact⟨F1,ρ,s.ext e1,w1⟩
def v8(p q:Int->Int->Bool)(a b c:DE):DE:=λρ=>a ρ>>=λx=>b ρ>>=λy=>match x,y with
 | .int i, .int j=>if p i j then c ρ>>=λz=>gI (λi j=> .bl (q i j)) y z else aa (.bl false)
 |_,_=>ag
def tB{p q:Int->Int->Bool}:∀σ H Q,tD X.K Xw (v8 p q δa δb δc) σ H Q->zR (Ck λi j=> .bl (p i j)) (Ck λi j=> .bl (q i j)) (tD X.K Xw δa) (tD X.K Xw δb) (tD X.K Xw δc) σ H Q:=λσ H Q ⟨F,ρ,s,w⟩=>by
 refine⟨F,ρ,s,WP.mono (WP.bind w) λv H1 ⟨F1,d,e1,q1,w1⟩=>?_⟩;refine⟨F1,ρ,s.ext e1,WP.mono (WP.bind w1) λu H2 ⟨F2,d',e2,q2,w2⟩=>?_⟩;cases d with
 |int i=>
  cases d' with
  |int j=>
   refine⟨i,j,q1,q2,p i j,rfl,?_⟩;have w2:WP X.K Xw F2 H2 (if p i j then δc ρ>>=λz=>gI (λi j=> .bl (q i j)) (.int j) z else aa (.bl false)) Q:=w2;cases hp:p i j with
   |false=>
    rw[hp] at w2;exact WP.now w2 e2.fh rfl
   |true=>
    rw[hp] at w2;refine⟨F2,ρ,(s.ext e1).ext e2,WP.mono (WP.bind w2) λu' H3 ⟨F3,Sn,e3,q3,w3⟩=>?_⟩;exact EI (K:=X.K) (gv:=λi j=> .bl (q i j)) (gd:=λi j=> .bl (q i j)) (λ_ _ _=>rfl) Xw F3 H3 u u' (.int j) Sn Q e3.fh q2 q3 w3
  |_=>exact w2.elim
 |_=>exact w2.elim
def ER{op zm:CmpOp}{p q:Int->Int->Bool}(ho:OpR X (Ww op) (Ck λi j=> .bl (p i j)))(kF:OpR X (Ww zm) (Ck λi j=> .bl (q i j)))(ha:PD X Xw a δa)(hb:PD X Xw b δb)(hc:PD X Xw c δc)
 (hm:lastMarks [op,zm] [b,c]=false:=by with_unfolding_all rfl):PD X Xw (.Compare a [op,zm] [b,c] pos) (v8 p q δa δb δc):=PE.weak (E7 ho kF ha hb hc hm) tB
def Fh{op zm:CmpOp}{p q:Int->Int->Bool}(ho:OpR X (Ww op) (Ck λi j=> .bl (p i j)))(kF:OpR X (Ww zm) (Ck λi j=> .bl (q i j)))(ha:PD X Xw a δa)(hb:PD X Xw b δb)(hc:PD X Xw c δc)
 (hm:lastMarks [op,zm] [b,c]=false:=by with_unfolding_all rfl):qC X Xw (.Compare a [op,zm] [b,c] pos) (dN (v8 p q δa δb δc)):=PT.weak (Fi ho kF ha hb hc hm) λσ H Q ⟨F,ρ,s,w⟩=>by
 refine tB σ H _ ⟨F,ρ,s,WP.mono (WPB.bind w) λv H1 ⟨F1,d,e1,q1,w1⟩=>?_⟩;cases d with
 |bl k=>exact⟨k,q1,w1 _ _ (Ext.refl e1.fh)⟩
 |_=>exact w1.elim
def vO(K:Vn)(r:List V->Hp->VK->Prop)(g:List D->M D):Prop:=∀(Xw:Nat->Hp->Prop) (F H:Hp) (vs:List V) (ds:List D) (Q:VK),Same F H->DenL K F ds vs->WP K Xw F H (g ds) Q->r vs H Q
variable{x:Str}{p:Pos}{e:Expr}{es:List Expr}{δs:DA}{id T:String}{r:List V->Hp->VK->Prop}{g:List D->M D}
def FQ(h:vO X.K r g):∀σ H Q,tD X.K Xw (dA g δs) σ H Q->QN r (Sb X.K Xw δs) σ H Q:=λσ H Q ⟨F,ρ,s,w⟩=>
 ⟨F,ρ,s,WPL.mono (WP.bindL w) λvs H1 ⟨F1,ds,e1,q1,w1⟩=>h Xw F1 H1 vs ds Q e1.fh q1 w1⟩
def dZ(hc:CallR X (.builtin id) r)(hd:vO X.K r g)(hg:Gl X x)(hm:X.mg x=none)(hv:V4 x=some (.builtin id))(ha:iu X Xw (e::es) δs)(hn:x≠"__name__":=by decide)(kE:(x==("__debug__":Str))=false:=by decide)
 (he:Vs (e::es) X.env=(false,eval e X.env)::Vs es X.env:=by rfl)(iz:(W7 pos (Vs es X.env)).any (·.1)=false:=by rfl):PD X Xw (.Call (.Name x p) (e::es) [] pos) (dA g δs):=
 PE.weak (E6 hc hg hm hv ha hn kE he iz) (FQ hd)
def lZ(hc:CallR X (.type T) r)(hd:vO X.K r g)(hg:Gl X x)(hm:X.mg x=none)(hv:V4 x=some (.type T))(ha:iu X Xw (e::es) δs)(hn:x≠"__name__":=by decide)(kE:(x==("__debug__":Str))=false:=by decide)
 (he:Vs (e::es) X.env=(false,eval e X.env)::Vs es X.env:=by rfl)(iz:(W7 pos (Vs es X.env)).any (·.1)=false:=by rfl):PD X Xw (.Call (.Name x p) (e::es) [] pos) (dA g δs):=
 PE.weak (sO hc hg hm hv ha hn kE he iz) (FQ hd)
def bL:List D->M D
 |[.lst ds]=>aa (.int ds.length)
 |[.tup ds]=>aa (.int ds.length)
 |[.str x]=>aa (.int x.length)
 |[.scr ns]=>aa (.int ns.length)
 |_=>ag
def BQ:vO X.K (λxs H Q=>(∃p ys,xs=[.ref p]/\(SqL X.K H p ys\/SqT X.K H p ys)/\Q (.int ys.length) H)\/∃z,xs=[.str z]/\z.length<=VB/\Q (.int z.length) H) bL:=λXw F H vs ds Q s h w=>by
 unfold bL at w;split at w
 ·obtain⟨v,rfl,h1⟩:=h.one;obtain⟨a,vs,rfl,h2,h3,_⟩:=h1;exact .inl ⟨a,vs,rfl, .inl (SqL.of (s _ _ h2)),by rw[<-h3.len];exact WP.now w s rfl⟩
 ·obtain⟨v,rfl,h1⟩:=h.one;obtain⟨a,vs,rfl,h2,h3,_⟩:=h1;exact .inl ⟨a,vs,rfl, .inr (SqT.of (s _ _ h2)),by rw[<-h3.len];exact WP.now w s rfl⟩
 ·obtain⟨v,rfl,h1⟩:=h.one;cases (show _=_ from h1.1);exact .inr ⟨_,rfl,by have:=h1.2;have:=ck;omega,WP.now w s rfl⟩
 ·obtain⟨v,rfl,h1⟩:=h.one;obtain⟨a,rfl,h2,_⟩:=h1;exact .inl ⟨a,_,rfl, .inl (Same.seq s h2),by rw[Vb];exact WP.now w s rfl⟩
 ·exact w.elim
def cE(hg:Gl X "len")(hm:X.mg "len"=none)(ha:iu X Xw [e] δs)(he:Vs [e] X.env=[(false,eval e X.env)]:=by rfl):PD X Xw (.Call (.Name "len" p) [e] [] pos) (dA bL δs):=
 dZ (tU.or tV) BQ hg hm PySem.boot_len ha (by decide) (by decide) he rfl
def CS:List D->M D
 |[.int i]=>aa (.int (if i<0 then -i else i))
 |_=>ag
def zd:List D->M D
 |[.int i, .int j]=>aa (.int (if j>i then j else i))
 |_=>ag
def B0:List D->M D
 |[.int i, .int j]=>aa (.int (if j<i then j else i))
 |_=>ag
def EN(hg:Gl X "abs")(hm:X.mg "abs"=none)(ha:iu X Xw [e] δs)(hb:V4 "abs"=some (.builtin "abs"))(he:Vs [e] X.env=[(false,eval e X.env)]:=by rfl):PD X Xw (.Call (.Name "abs" p) [e] [] pos) (dA CS δs):=
 dZ Dc (λXw F H vs ds Q s h w=>by
  unfold CS at w;split at w
  ·obtain⟨v,rfl,h1⟩:=h.one;cases (show _=_ from h1);exact⟨_,rfl,WP.now w s rfl⟩
  ·exact w.elim) hg hm hb ha (by decide) (by decide) he rfl
end
def WP.xw{K:Vn}{Xw Xw':Nat->Hp->Prop}{F H:Hp}{m:M D}{Q:VK}(h:WP K Xw F H m Q)(k:∀n H,Xw n H->Xw' n H):WP K Xw' F H m Q:=by
 match m,h with
 |none,h=>exact h
 |some (.ok d),h=>exact h
 |some (.ex n),h=>exact λF' H' e=>k n H' (h F' H' e)
def cP{X:Cx}{Xw:Nat->Hp->Prop}{st:Stmt}{τ:DS}(h:iy X.nox (λ_ _=>False) st τ):iy X Xw st (λρ=>noex (τ ρ)):=λs0 acS f8 s σ H D I ⟨F,ρ,S,w⟩=>by
 have w:WPS X.K Xw s0 acS (noex (τ ρ)) D:=w;have w':tS X.K (λ_ _=>False) s0 acS τ D σ H:=by
  refine⟨F,ρ,S,?_⟩;rcases(τ ρ).cs with e | ⟨n,e⟩ | ⟨o,e⟩
  ·rw[e] at w;exact w.elim
  ·rw[e] at w;exact w.elim
  ·rw[e] at w⊢;cases o with
   |nx ρ'=>exact w
   |rt d=>exact w
 refine Wl (h s0 acS f8 s σ H D (I.wish _) w') (λf s' q=>SP.unwish q) λ_ _ z=>z.elim
def EX(cv:Nat->Value)(Xw:Nat->Hp->Prop):XK:=λc _ H=>∃n,c=cv n/\Xw n H
def Gp(K:Vn)(cv:Nat->Value)(k:Nat)(f:List D->M D):Sp:=λvs H Q E=>∃F ds,Same F H/\DenL K F ds vs/\vs.length=k/\WP K (λn H'=>E (cv n) none H') F H (f ds) Q
def bY(n:Nat)(τ:DS):List D->M D:=λds=>τ (ds.map (λd=>some (Sl.fz d))++Vx (n - ds.length) none)>>=λo=>match o with
 | .nx _=>aa .non
 | .rt d=>aa d
section
variable{P:VG}{w:World}{K:Vn}{mg:Str->Option Value}{base:Heap}{CX:z3}{cv:Nat->Value}
def Mt{x qual:Str}{st:Stmt}{f:Addr}{fd:Xv}{N ps:List Str}{k:Nat}{τ:DS}(Fn:Fun K x qual st f fd)(S:FnScope N ps (ai st))
 (gx:∀(cx:Value) (A:V2) (outer:List Env) (s:Vf) (H:Hp) (E:XK),Room k (A.deeper (XD qual (ai st) s.heap.objs.size f cx))->
  PSDs (aZ CX P w K mg base N qual (ai st) f cx A outer s H E) (λn H'=>E (cv n) none H') (bc st) τ):FnOk P w K mg base CX (k+1) f fd ps (Gp K cv ps.length (bY N.length τ)):=by
 obtain⟨oc,od,kV,doc,pm,an,cx,ct,CM,rfl,lk,rS⟩:=Fn.ex;refine IQ lk rS S (λvs H Q E ⟨_,_,_,_,hl,_⟩=>hl) λA outer s H vs Q E hr vN=>?_;obtain⟨F,ds,fh,hd,hl,hw⟩:=vN;refine⟨_,gx cx A outer s H E hr F H,F,ds.map (λd=>some (Sl.fz d))++Vx (N.length - ds.length) none,⟨Ext.refl fh,⟨fh,λi sl e=>?_⟩,?_,λi c a e=>?_,λi j c c' a e=>?_⟩,?_⟩
 ·have M2:=hd.len;by_cases hi:i<ds.length
  ·rw[VZ (by simpa using hi),Vz] at e;cases q:ds[i]? with
   |none=>rw[q] at e;cases e
   |some d=>
    rw[q] at e;cases e;obtain⟨v,e1,e2⟩:=hd.get q;refine⟨v,?_,e2⟩;unfold L2.start;rw[VZ (by simp;omega),Vz,e1];rfl
  ·rw[V9 (by simpa using hi),WH] at e;split at e<;>cases e
 ·have M2:=hd.len;unfold L2.start;simp[M2]
 ·exfalso
  by_cases hi:i<ds.length
  ·rw[VZ (by simpa using hi),Vz] at e;cases q:ds[i]? with
   |none=>rw[q] at e;cases e
   |some d=>rw[q] at e;cases e
  ·rw[V9 (by simpa using hi),WH] at e;split at e<;>cases e
 ·exfalso
  by_cases hi:i<ds.length
  ·rw[VZ (by simpa using hi),Vz] at e;cases q:ds[i]? with
   |none=>rw[q] at e;cases e
   |some d=>rw[q] at e;cases e
  ·rw[V9 (by simpa using hi),WH] at e;split at e<;>cases e
 ·have hw:WP K (λn H'=>E (cv n) none H') F H (τ (ds.map (λd=>some (Sl.fz d))++Vx (N.length - ds.length) none)>>=λo=>match o with | .nx _=>aa .non | .rt d=>aa d) Q:=hw;rcases(τ (ds.map (λd=>some (Sl.fz d))++Vx (N.length - ds.length) none)).cs with e | ⟨n,e⟩ | ⟨o,e⟩
  ·rw[e] at hw;exact hw.elim
  ·rw[e] at hw⊢;exact hw
  ·rw[e] at hw⊢;cases o with
   |nx ρ'=>exact λσ' F' H' s'=>hw .non H' F' s'.ext rfl
   |rt d=>exact λv F' H' e' q=>hw v H' F' e' q
end
section
variable{X:Cx}{Xw:Nat->Hp->Prop}{CX:z3}{cv:Nat->Value}{k m:Nat}{f:Addr}{fd:Xv}{ps:List Str}{g:List D->M D}{x:Str}{p pos:Pos}{e:Expr}{es:List Expr}{δs:DA}
def HA(F:FnOk X.prog X.w X.K X.mg X.base CX k f fd ps (Gp X.K cv m g))(hr:Room k X.A)(hg:Gl X x)(hm:X.mg x=some (.ref f))(hk:WY X.K (.ref f)=true)(hb:Binds X.K fd ps [])(hx:Passes CX X (EX cv Xw))
 (ha:iu X Xw (e::es) δs)(hl:(e::es).length=m)(kE:(x==("__debug__":Str))=false:=by decide)(he:Vs (e::es) X.env=(false,eval e X.env)::Vs es X.env:=by rfl)(iz:(W7 pos (Vs es X.env)).any (·.1)=false:=by rfl):
 PD X Xw (.Call (.Name x p) (e::es) [] pos) (λρ=>δs ρ>>=λds=>if ds.length=m then g ds else ag):=PE.weak (HI F hr hg hm hk hb .nil hx ha kE he iz) λσ H Q ⟨F,ρ,s,w⟩=>by
 refine⟨F,ρ,s,WPL.mono (WP.bindL w) λvs H1 ⟨F1,ds,e1,q1,w1⟩=>?_⟩;split at w1
 ·rename_i yX;refine⟨F1,ds,e1.fh,by simpa using q1,by rw[V7,<-q1.len];exact yX,WP.xw w1 λn H h=>⟨n,rfl,h⟩⟩
 ·exact w1.elim
def uR{x:Str}{d:D}{v:V}{u:Value}(hg:Gl X x)(hm:X.mg x=some u)(r:RelV v u)(hd:∀F,Den X.K F d v)(kE:(x==("__debug__":Str))=false:=by decide):PD X Xw (.Name x pos) (dC d):=
 gD (HM hg hm r kE) hd
end
def obj_some{P:VG}{w:World}{H:Hp}{h:Heap}{a:Addr}{o:HO}(x:ObjOk P w H h a o):∃ob,h.get? a=some ob:=by
 cases o with
 |lst xs=>obtain⟨_,_,_,_,e⟩:=x;exact⟨_,e⟩
 |tup xs=>obtain⟨_,_,_,ob,e,_⟩:=x;exact⟨_,e⟩
 |dK aA=>obtain⟨_,_,_,_,o,_,_,e,_⟩:=x;exact⟨_,e⟩
 |dT aA=>obtain⟨_,_,_,_,o,_,_,e,_⟩:=x;exact⟨_,e⟩
 |set S n=>obtain⟨o,_,_,_,e,_⟩:=x;exact⟨_,e⟩
 |ins C dx fs=>obtain⟨_,_,_,e,_⟩:=x;exact⟨_,e⟩
 |own y=>obtain⟨_,e⟩:=x;exact⟨_,e⟩
 |xd fs=>obtain⟨_,⟨_,_,_,e,_⟩,_⟩:=x;exact⟨_,e⟩
 |rng lo hi=>obtain⟨_,_,_,e⟩:=x;exact⟨_,e⟩
 |frz ob u=>obtain⟨e,_⟩:=x;exact⟨_,e⟩
 |tbl ps=>exact⟨_,(show h.get? a=some _ from x)⟩
 |met f y=>exact⟨_,(show h.get? a=some _ from x)⟩
 |ext φ=>obtain⟨_,⟨_,e⟩,_⟩:=x;exact⟨_,e⟩
def cQ(P:VG)(w:World)(cv:Nat->Value):z3:=λouter H s E e s'=>∃(ea:Addr) (n:Nat) (a0:Value) (B:Heap) (H':Hp),e= .ref ea/\s'.os=s.os/\Z1 s'.gens/\HOk P w H' s'.heap/\Un (gf outer) [] H H' s.heap s'.heap/\
 Heap.FlyingW B outer ea (cv n) a0 s'.heap/\(∀b o,s'.heap.get? b=some o->(H' b≠none\/(s.heap.get? b).isSome=true)->b∉gf outer->B.get? b=some o)/\E (cv n) none H'
section
variable{P:VG}{w:World}{fs:List Addr}{acS H:Hp}{h₀ h h':Heap}
def vB(u:Un fs [] acS H h₀ h)(ka:∀b o,h.get? b=some o->b∉fs->(H b≠none\/(h₀.get? b).isSome=true)->h'.get? b=some o)(kb:∀b o,h.get? b=some o->b∈fs->∃sl,h'.get? b=some {o with slots:=sl}):Un fs [] acS H h₀ h' where
 keep:=λb o e n hb hx=>ka b o (u.keep b o e n hb hx) hb (.inr (by rw[e];rfl))
 slot:=λb o e n hb hx=>by
  obtain⟨sl,q⟩:=u.slot b o e n hb hx;obtain⟨Im,q'⟩:=kb b _ q hb;exact⟨Im,q'⟩
 free:=u.free
 there:=λb o e hx=>by
  obtain⟨o',q⟩:=u.there b o e hx;by_cases hb:b∈fs
  ·obtain⟨sl,q'⟩:=kb b _ q hb;exact⟨_,q'⟩
  ·exact⟨o',ka b o' q hb (.inr (by rw[e];rfl))⟩
 tups:=u.tups
 frzs:=u.frzs
 tbls:=u.tbls
def oQ(x:HOk P w H h)(hf:∀b∈fs,H b=none)(ka:∀b o,h.get? b=some o->b∉fs->H b≠none->h'.get? b=some o):HOk P w H h':=λa o e=>by
 refine(x a o e).stay (λb u hb q=>ka b u q (λz=>?_) ?_) (λ_ q=>q) λ_ _ q=>q
 ·have hz:=hf b z;rcases hb with rfl | hb
  ·rw[hz] at e;cases e
  ·rw[hz] at hb;cases hb
 ·rcases hb with rfl | hb
  ·rw[e];exact λz=>nomatch z
  ·rw[hb];exact λz=>nomatch z
end
section
variable{P:VG}{w:World}{K:Vn}{mg:Str->Option Value}{base:Heap}{N:List Str}{qual:Str}{scope:Scope}{f:Addr}{cd:Value}{A:V2}{outer:List Env}{acT:Vf}{acS:Hp}{E:XK}{cv:Nat->Value}
def cO:Passes (cQ P w cv) (aZ (cQ P w cv) P w K mg base N qual scope f cd A outer acT acS E) (EX cv λn H'=>E (cv n) none H'):=by
 intro f8 σ H s e s' I ⟨ea,n,a0,B,H',he,BD,hg,hok,un,Bs,hB,m,hm,hE⟩;subst he;have yY:((aZ (cQ P w cv) P w K mg base N qual scope f cd A outer acT acS E)).env.locals=acT.heap.objs.size:=rfl;have ue:gf ((aZ (cQ P w cv) P w K mg base N qual scope f cd A outer acT acS E)).stack=acT.heap.objs.size::gf outer:=rfl;show wpAny (model P w) (A.deeper (XD qual scope acT.heap.objs.size f cd)) (leaving (XD qual scope acT.heap.objs.size f cd) (.ref ea)) _ _ s';refine wpAny_leaves_onW (base:=B) (outer:=outer) (L:=acT.heap.objs.size) I.ok.frames rfl Bs λh' JO ups=>?_;have CK:∀b∈gf ((aZ (cQ P w cv) P w K mg base N qual scope f cd A outer acT acS E)).stack,H' b=none:=λb hb=>by
  obtain⟨o,ho⟩:∃o,s.heap.get? b=some o:=by
   obtain⟨_,o,ho,_⟩:=I.stack.mem hb;exact⟨o,ho⟩
  exact un.free b o ho (I.stkFree b hb) (by simp)
 have kH:∀b o,s'.heap.get? b=some o->b∉gf ((aZ (cQ P w cv) P w K mg base N qual scope f cd A outer acT acS E)).stack->(H' b≠none\/(s.heap.get? b).isSome=true)->h'.get? b=some o:=λb o e hb hc=>JO.1 b o (hB b o e hc hb);have unA:Un (gf outer) [] acS H' acT.heap s'.heap:=by
  have u1:Un (gf outer) [] acS H acT.heap s.heap:=I.base;refine⟨λb o e nn hb hx=>?_,λb o e nn hb hx=>?_,λb o e nn hx=>?_,λb o e hx=>?_,λb xs q=>un.tups b xs (u1.tups b xs q),λb o u q=>un.frzs b o u (u1.frzs b o u q),λb ps q=>?_⟩
  ·refine un.keep b o (u1.keep b o e nn hb hx) (u1.free b o e nn hx) (λz=>?_) (by simp);rw[ue] at z;rcases Vo.mp z with z | z
   ·exact acK (Vr e) (by rw[z];exact Wc _)
   ·exact hb z
  ·obtain⟨sl,q⟩:=u1.slot b o e nn hb hx;obtain⟨Im,q'⟩:=un.slot b _ q (u1.free b o e nn hx) (by rw[ue];exact Vc _ hb) (by simp);exact⟨Im,q'⟩
  ·obtain⟨o',q⟩:=u1.there b o e hx;exact un.free b o' q (u1.free b o e nn hx) (by simp)
  ·obtain⟨o',q⟩:=u1.there b o e hx;exact un.there b o' q (by simp)
  ·obtain⟨m1,q1⟩:=u1.tbls b ps q;obtain⟨m2,q2⟩:=un.tbls b _ q1;exact⟨m1++m2,by rw[q2,Z0]⟩
 have RQ:∀b,(acT.heap.get? b).isSome=true->(s.heap.get? b).isSome=true:=λb hb=>by
  obtain⟨o,ho⟩:=Wm.mp hb;obtain⟨o',q⟩:=(show Un (gf outer) [] acS H acT.heap s.heap from I.base).there b o ho (by simp);rw[q];rfl
 have B4:∀b,(acT.heap.get? b).isSome=true->b≠acT.heap.objs.size:=λb hb z=>by
  obtain⟨o,ho⟩:=Wm.mp hb;exact acK (Vr ho) (by rw[z];exact Wc _)
 have EA:∀b,b∉gf outer->(H' b≠none\/(acT.heap.get? b).isSome=true)->b∉gf ((aZ (cQ P w cv) P w K mg base N qual scope f cd A outer acT acS E)).stack:=λb hb hc z=>by
  rcases hc with hc | hc
  ·exact hc (CK b z)
  ·rw[ue] at z;rcases Vo.mp z with z | z
   ·exact B4 b hc z
   ·exact hb z
 refine⟨ea,n,a0,B,H',rfl,BD.trans I.os,hg,oQ hok CK (λb o e hb hc=>kH b o e hb (.inl hc)),vB unA (λb o e hb hc=>kH b o e (EA b hb hc) (hc.imp id (RQ b))) (λb o e hb=>?_),JO,λb o e hc hb=>?_,?_⟩
 ·obtain⟨_,o',kF,hd⟩:=Bs.2.2.1.mem (show b∈gf ((aZ (cQ P w cv) P w K mg base N qual scope f cd A outer acT acS E)).stack by rw[ue];exact Vc _ hb);rw[e] at kF;cases kF;exact ups b o e hd
 ·have ub:=EA b hb hc;obtain⟨o',kF⟩:∃o',s'.heap.get? b=some o':=by
   rcases hc with hc | hc
   ·cases q:H' b with
    |none=>exact acK q hc
    |some u=>
     exact obj_some (hok b u q)
   ·obtain⟨o1,h1⟩:=Wm.mp hc;exact unA.there b o1 h1 (by simp)
  have:=hB b o' kF (hc.imp id (RQ b)) ub;rw[JO.1 b o' this] at e;cases e;exact this
 ·rw[hm];exact hE
def IF(X:Cx)(cv:Nat->Value)(Xw:Nat->Hp->Prop):Prop:=∀(n:Nat) (f8:List (Addr×Obj)) (σ:St) (H:Hp) (s:Vf) (h':Heap) (ea:Addr) (args:List Value),Inv X f8 σ H s->Heap.MadeExcOf s.heap h' ea (cv n) args->Xw n H->X.xe (.ref ea) {s with heap:=h'}
def Jk:IF (aZ (cQ P w cv) P w K mg base N qual scope f cd A outer acT acS E) cv (λn H'=>E (cv n) none H'):=by
 intro n f8 σ H s hh ea args I hx hE;have ue:gf ((aZ (cQ P w cv) P w K mg base N qual scope f cd A outer acT acS E)).stack=acT.heap.objs.size::gf outer:=rfl;have nR:∀env∈((aZ (cQ P w cv) P w K mg base N qual scope f cd A outer acT acS E)).stack,∀b,env.frame=some b->b∈gf ((aZ (cQ P w cv) P w K mg base N qual scope f cd A outer acT acS E)).stack:=λenv he b hb=>Yl.mpr ⟨env,he,hb⟩;have stays:(YG s.heap (gf ((aZ (cQ P w cv) P w K mg base N qual scope f cd A outer acT acS E)).stack)).StaysIn s.heap:=λb o q=>abI _ q;show wpAny (model P w) (A.deeper (XD qual scope acT.heap.objs.size f cd)) (leaving (XD qual scope acT.heap.objs.size f cd) (.ref ea)) _ _ _;refine wpAny_leaves_madeW (base:=YG s.heap (gf ((aZ (cQ P w cv) P w K mg base N qual scope f cd A outer acT acS E)).stack)) (h:=s.heap) (outer:=outer) (L:=acT.heap.objs.size) I.ok.frames rfl stays (PySem.W.funFrames_hide I.stack nR) hx λh' t Bs _ _ ups=>?_;have hB:∀b o,s.heap.get? b=some o->b∉gf ((aZ (cQ P w cv) P w K mg base N qual scope f cd A outer acT acS E)).stack->(YG s.heap (gf ((aZ (cQ P w cv) P w K mg base N qual scope f cd A outer acT acS E)).stack)).get? b=some o:=λb o e hb=>abA _ e hb;have kH:∀b o,s.heap.get? b=some o->b∉gf ((aZ (cQ P w cv) P w K mg base N qual scope f cd A outer acT acS E)).stack->h'.get? b=some o:=λb o e hb=>Bs.1 b o (hB b o e hb);have u1:Un (gf outer) [] acS H acT.heap s.heap:=I.base;have B4:∀b,(acT.heap.get? b).isSome=true->b≠acT.heap.objs.size:=λb hb z=>by
  obtain⟨o,ho⟩:=Wm.mp hb;exact acK (Vr ho) (by rw[z];exact Wc _)
 have EA:∀b,b∉gf outer->(H b≠none\/(acT.heap.get? b).isSome=true)->b∉gf ((aZ (cQ P w cv) P w K mg base N qual scope f cd A outer acT acS E)).stack:=λb hb hc z=>by
  rcases hc with hc | hc
  ·exact hc (I.stkFree b z)
  ·rw[ue] at z;rcases Vo.mp z with z | z
   ·exact B4 b hc z
   ·exact hb z
 refine⟨ea,n, .ref t,YG s.heap (gf ((aZ (cQ P w cv) P w K mg base N qual scope f cd A outer acT acS E)).stack),H,rfl,I.os,I.bare,oQ I.hok I.stkFree (λb o e hb hc=>kH b o e hb),vB u1 (λb o e hb hc=>kH b o e (EA b hb hc)) (λb o e hb=>?_),Bs,λb o e hc hb=>?_,hE⟩
 ·obtain⟨_,o',kF,hd⟩:=I.stack.mem (show b∈gf ((aZ (cQ P w cv) P w K mg base N qual scope f cd A outer acT acS E)).stack by rw[ue];exact Vc _ hb);rw[e] at kF;cases kF;exact ups b o (hx.keeps b o e) hd
 ·obtain⟨o',kF⟩:∃o',s.heap.get? b=some o':=by
   rcases hc with hc | hc
   ·cases q:H b with
    |none=>exact acK q hc
    |some u=>exact obj_some (I.hok b u q)
   ·obtain⟨o1,h1⟩:=Wm.mp hc;exact u1.there b o1 h1 (by simp)
  have ub:=EA b hb hc;rw[kH b o' kF ub] at e;cases e;exact hB b o kF ub
end
section
variable{X:Cx}{Xw:Nat->Hp->Prop}{cv:Nat->Value}{n:Nat}{C:Addr}{x:Str}{np aO pos:Pos}{e:Expr}{es:List Expr}{δs:DA}{bm:List Value}{B newId Kk:String}
def sQ(O:OwnCls x C bm newId X.mg X.base)(FB:ExcBaseFacts B newId Kk bm)(hg:Gl X x)(hc:X.calm=true)(MG:cv n= .ref C)(hx:IF X cv Xw)(ha:iu X Xw (e::es) δs)(kE:(x==("__debug__":Str))=false:=by decide)
 (he:Vs (e::es) X.env=(false,eval e X.env)::Vs es X.env:=by rfl)(iz:(W7 aO (Vs es X.env)).any (·.1)=false:=by rfl):
 iy X Xw (.Raise (some (.Call (.Name x np) (e::es) [] aO)) none pos) (λρ=>δs ρ>>=λds=>if ds.length<=lim then br n else ag):=λs0 acS f8 s σ H D I ⟨F,ρ,S,w⟩=>by
 obtain⟨tl,Nn,nm,q,bs,hdct,sn,sub,ab,col,dd,k0,k1,k2,k3,k5,mN,hC,hN,TQ,T⟩:=O.obj;refine wpAny_Raise_call_subT (C:=C) (nm:=nm) (q:=q) (N:=Nn) (bs:=bs) (bm:=tl) (hdct:=hdct) (sn:=sn) (sub:=sub) (ab:=ab) (col:=col) (dd:=dd) (k0:=k0) (k1:=k1) (k2:=k2) (k3:=k3) (k5:=k5)
  FB (mN:=mN) (T.hasType FB.hasBase) (I.ok.hd hc) (by rw[he];show (false||(W7 aO (Vs es X.env)).any (·.1))=false;rw[iz];rfl) TQ (kI I hg O.bound ⟨rfl,?_⟩ kE)
 have w:WPS X.K Xw s0 acS (δs ρ>>=λds=>if ds.length<=lim then br n else ag) D:=w;have hA:=ha aO f8 s σ H (λvs H1=>vs.length<=lim/\Xw n H1) I ⟨F,ρ,S.st,by
  rcases(δs ρ).cs with q | ⟨m,q⟩ | ⟨ds,q⟩
  ·rw[q] at w;exact w.elim
  ·rw[q] at w⊢;exact λF' H' e'=>w F' H' (S.ext.trans e')
  ·rw[q] at w⊢;intro vs H' F' e' hd;have w:WPS X.K Xw s0 acS (if ds.length<=lim then br n else ag) D:=w;split at w
   ·rename_i hl;exact⟨by rw[<-hd.len];exact hl,w F' H' (S.ext.trans e')⟩
   ·exact w.elim⟩
 rw[he] at hA⊢;refine ZI (bV hA λus v4 ⟨vs,H1,I1,r,hl,hX⟩=>⟨rfl,by rw[<-r.length];have:=ck;omega,I1.bk _ _ hC,hN.keeps I1.bk,T.keeps I1.bk,λh' ea hm=>hx n f8 σ H1 v4 h' ea us I1 (by rw[MG];exact hm) hX⟩)
end
def Ji:D->Option String
 | .non=>some "NoneType"
 | .bl _=>some "bool"
 | .int _=>some "int"
 | .str _=>some "str"
 | .tup _=>some "tuple"
 | .lst _=>some "list"
 |_=>none
def Kn(k T:String):Option Bool:=if T="str"\/T="int"\/T="bool"\/T="tuple"\/T="list" then some (decide (k=T)||(decide (k="bool")&&decide (T="int"))) else none
def iH:List D->M D
 |[d, .raw (.ty T)]=>match Ji d with
  |some k=>match Kn k T with
   |some b=>aa (.bl b)
   |none=>ag
  |none=>ag
 |_=>ag
def Kx{K:Vn}{k T:String}{b:Bool}(hk:k="NoneType"\/k="bool"\/k="int"\/k="str"\/k="tuple"\/k="list")(h:Kn k T=some b):VE K (.type k) (.type T)=some b:=by
 unfold Kn at h;split at h
 ·rename_i hT;cases h;rcases hk with rfl | rfl | rfl | rfl | rfl | rfl<;>rcases hT with rfl | rfl | rfl | rfl | rfl<;>with_unfolding_all rfl
 ·cases h
section
variable{X:Cx}{Xw:Nat->Hp->Prop}{a b e e2:Expr}{δs:DA}{pos p:Pos}
def NS(K:Vn):List V->Hp->VK->Prop:=λxs H Q=>∃x T t b,xs=[x, .ty T]/\TyOf K H x t/\VE K t (.type T)=some b/\Q (.bl b) H
def Dd:CallR X (.builtin "isinstance") (NS X.K):=by
 intro f8 s σ H xs us Q I r h;obtain⟨x,T,t,b,rfl,ty,e,q⟩:=h;obtain⟨u,w',rfl,r1,r2⟩:=vals2 r;cases (show w'=_ from r2);exact BJ I r1 ty e λtk=>⟨.bl b,H,I.tok tk,rfl,q⟩
def F8{K:Vn}{F H:Hp}{d:D}{v:V}{k:String}(s:Same F H)(h:Den K F d v)(hk:Ji d=some k):TyOf K H v (.type k)/\(k="NoneType"\/k="bool"\/k="int"\/k="str"\/k="tuple"\/k="list"):=by
 cases d with
 |non=>cases hk;cases (show _=_ from h);exact⟨.non, .inl rfl⟩
 |bl x=>cases hk;cases (show _=_ from h);exact⟨.bl x, .inr (.inl rfl)⟩
 |int x=>cases hk;cases (show _=_ from h);exact⟨.int x, .inr (.inr (.inl rfl))⟩
 |str x=>cases hk;cases (show _=_ from h.1);exact⟨.str x, .inr (.inr (.inr (.inl rfl)))⟩
 |tup x=>cases hk;obtain⟨a,vs,rfl,h2,_⟩:=h;exact⟨.tup (s _ _ h2), .inr (.inr (.inr (.inr (.inl rfl))))⟩
 |lst x=>cases hk;obtain⟨a,vs,rfl,h2,_⟩:=h;exact⟨.lst (s _ _ h2), .inr (.inr (.inr (.inr (.inr rfl))))⟩
 |_=>cases hk
def BI{K:Vn}:vO K (NS K) iH:=λXw F H vs ds Q s h w=>by
 unfold iH at w;split at w
 ·rename_i d T;obtain⟨v,v',rfl,h1,h2⟩:=h.two;cases (show _=_ from h2);split at w
  ·rename_i k hk;split at w
   ·rename_i b hb;obtain⟨ty,rT⟩:=F8 s h1 hk;exact⟨v,T, .type k,b,rfl,ty,Kx rT hb,WP.now w s rfl⟩
   ·exact w.elim
  ·exact w.elim
 ·exact w.elim
def l5(hg:Gl X "isinstance")(hm:X.mg "isinstance"=none)(hb:V4 "isinstance"=some (.builtin "isinstance"))(ha:iu X Xw [e,e2] δs)(he:Vs [e,e2] X.env=(false,eval e X.env)::Vs [e2] X.env:=by rfl)
 (iz:(W7 pos (Vs [e2] X.env)).any (·.1)=false:=by rfl):PD X Xw (.Call (.Name "isinstance" p) [e,e2] [] pos) (dA iH δs):=
 dZ Dd BI hg hm hb ha (by decide) (by decide) he iz
def pX{x:Str}{T:String}(hg:Gl X x)(hm:X.mg x=none)(hv:V4 x=some (.type T))(hn:x≠"__name__":=by decide)(hd:(x==("__debug__":Str))=false:=by decide):PD X Xw (.Name x pos) (dC (.raw (.ty T))):=
 gD (v:= .ty T) (HH hg hm hv (show RelV (.ty T) (.type T) from rfl) hn hd) λ_=>rfl
def bools:List D->Option (List Bool)
 |[]=>some []
 | .bl b::r=>(bools r).map (b:: ·)
 |_=>none
def allM:List D->M D
 |[.lst ds]=>match bools ds with
  |some bs=>aa (.bl (bs.all id))
  |none=>ag
 |_=>ag
def jh{K:Vn}{F:Hp}:∀{ds:List D}{vs:List V}{bs:List Bool},bools ds=some bs->DenL K F ds vs->vs=bs.map V.bl
 |[],_,_,e,h=>by cases e;exact h
 | .bl b::r,_,_,e,⟨v,r',h1,h2,h3⟩=>by
   unfold bools at e;cases q:bools r with
   |none=>rw[q] at e;cases e
   |some bs=>rw[q] at e;cases e;subst h1;rw[jh q h3,show v= .bl b from h2];rfl
 | .non::_,_,_,e,_=>by cases e
 | .int _::_,_,_,e,_=>by cases e
 | .str _::_,_,_,e,_=>by cases e
 | .raw _::_,_,_,e,_=>by cases e
 | .exc _::_,_,_,e,_=>by cases e
 | .scr _::_,_,_,e,_=>by cases e
 | .tup _::_,_,_,e,_=>by cases e
 | .lst _::_,_,_,e,_=>by cases e
def nY:∀{bs:List Bool}{aB:List Value},Vals (bs.map V.bl) aB->aB=bs.map XB
 |[],_,r=>by cases r;rfl
 |b::bs,_,r=>by
  cases r with
  |cons r1 r2=>cases (show _=_ from r1);rw[nY r2];rfl
def QC:List V->Hp->VK->Prop:=λxs H Q=>∃(a:Addr) (bs:List Bool),xs=[.ref a]/\H a=some (.lst (bs.map V.bl))/\Q (.bl (bs.all id)) H
def all_range{bs:List Bool}:(Vw bs.length).all (λi=>bs.getD i false)=bs.all id:=by
 induction bs with
 |nil=>rfl
 |cons b bs ih=>
  rw[Vk,abB,YL,YT,YL];congr 1
def Bb(hc:X.calm=true):CallR X (.builtin "all") QC:=by
 intro f8 s σ H xs us Q I r h;obtain⟨a,bs,rfl,hH,q⟩:=h;obtain⟨u,rfl,r1⟩:=vals1 r;cases (show u=_ from r1);obtain⟨aB,r2,pl,hz⟩:=I.list (SqL.of (K:=X.K) hH);obtain rfl:=nY r2;have gh:a≠s.heap.objs.size:=VH (I.hok.lt hH);refine call_all_walk (Zq pl.isList ?_);refine⟨s.heap.objs.size,_,_,_,_,_,λi=>bs.getD i false,rfl,acj (A:=X.A.in1) (show X.A.in1.handled=none from I.ok.hd hc) s.heap.objs.size a gh (bs.map XB).toArray,⟨⟨_,Vq _ rfl,rfl,rfl⟩,Heap.IsList.at pl.isList λo e=>Vd _ e⟩,?_,λh' tk k=>?_⟩
 ·intro i v s' Q' E' hv hq;have hv:(bs.map XB).toArray[i]? =some v:=hv;rw[abN,Vz] at hv;cases q':bs[i]? with
  |none=>rw[q'] at hv;cases hv
  |some b=>
   rw[q'] at hv;cases hv;have:bs.getD i false=b:=by rw[VN,q'];rfl
   have hq:Q' (bs.getD i false) s':=hq;rw[this] at hq;exact WR hq
 ·have e:(Vw (bs.map XB).toArray.size).all (λi=>bs.getD i false)=bs.all id:=by
   rw[Vl,Vb];exact all_range
  rw[e];refine⟨.bl (bs.all id),H,I.kept (h':=h') (t':=tk) λb o e'=>k b o (λz=>?_) (Vd _ e'),rfl,q⟩;have z:b=s.heap.objs.size:=by simpa using z
  exact acK (Vr e') (by rw[z];exact Wc _)
def zv(hc:X.calm=true)(hg:Gl X "all")(hm:X.mg "all"=none)(hb:V4 "all"=some (.builtin "all"))(ha:iu X Xw [e] δs)(he:Vs [e] X.env=[(false,eval e X.env)]:=by rfl):PD X Xw (.Call (.Name "all" p) [e] [] pos) (dA allM δs):=
 dZ (Bb hc) (λXw F H vs ds Q s h w=>by
  unfold allM at w;split at w
  ·rename_i ds;obtain⟨v,rfl,h1⟩:=h.one;obtain⟨a,ws,rfl,h2,h3,_⟩:=h1;split at w
   ·rename_i bs hb;exact⟨a,bs,rfl,by rw[<-jh hb h3];exact s _ _ h2,WP.now w s rfl⟩
   ·exact w.elim
  ·exact w.elim) hg hm hb ha (by decide) (by decide) he rfl
end
section
variable{X:Cx}{Xw:Nat->Hp->Prop}{a b e e2:Expr}{es:List Expr}{δ δa δb:DE}{pos p W1 aO:Pos}
def Iv{i:Nat}:∀s0 acS D σ H,tS X.K Xw s0 acS (g7 i δ) D σ H->FT (QM X.K "list" AW (qm i) (FR (tD X.K Xw δ) LI)) D σ H:=λs0 acS D σ H ⟨F,ρ,s,w⟩=>by
 unfold g7 at w;cases ho:Ca ρ i with
 |none=>rw[ho] at w;exact w.elim
 |some ds=>
  rw[ho] at w;have hi:=sL ho;obtain⟨v,hv,a,o,rfl,hH,hF,vs,rfl,hd,hl⟩:=s.st.den i _ hi;have w:WPS X.K Xw s0 acS (δ ρ>>=λd=>if ds.length<lim then aa (.nx (ρ.set i (some (.ow (.lst (ds++[d])))))) else ag) D:=w;refine⟨.ref a,hv, .inl ⟨rfl,vs,SqL.of hH⟩,F,ρ,s.st,?_⟩;rcases(δ ρ).cs with q | ⟨n,q⟩ | ⟨d,q⟩
  ·rw[q] at w;exact w.elim
  ·rw[q] at w⊢;exact λF' H' e'=>w F' H' (s.ext.trans e')
  ·rw[q] at w⊢;intro u H1 F1 e1 hq;have w:WPS X.K Xw s0 acS (if ds.length<lim then aa (.nx (ρ.set i (some (.ow (.lst (ds++[d])))))) else ag) D:=w;split at w
   ·rename_i cN;have M2:=hd.len;refine⟨a,vs,u,rfl,rfl,e1.hh _ _ hH,by have:=ck;omega,?_⟩;exact w σ F1 _ ((s.ext' e1).chg (c₀:= .lst (ds++[d])) hi hv ⟨_,rfl,DenL.append (DenL.mono e1.ff hd) (.cons hq .nil),by rw[Vm];exact cN⟩)
   ·exact w.elim
def Iw{i:Nat}:∀s0 acS D σ H,tS X.K Xw s0 acS (Fy i δ) D σ H->FT (QM X.K "list" AX (qm i) (FR (tD X.K Xw δ) LI)) D σ H:=λs0 acS D σ H ⟨F,ρ,s,w⟩=>by
 unfold Fy at w;cases ho:Ca ρ i with
 |none=>rw[ho] at w;exact w.elim
 |some ds=>
  rw[ho] at w;have hi:=sL ho;obtain⟨v,hv,a,o,rfl,hH,hF,vs,rfl,hd,hl⟩:=s.st.den i _ hi;have w:WPS X.K Xw s0 acS (δ ρ>>=λd=>lstM d>>=λes=>if ds.length+es.length<=lim then aa (.nx (ρ.set i (some (.ow (.lst (ds++es)))))) else ag) D:=w;refine⟨.ref a,hv, .inl ⟨rfl,vs,SqL.of hH⟩,F,ρ,s.st,?_⟩;rcases(δ ρ).cs with q | ⟨n,q⟩ | ⟨d,q⟩
  ·rw[q] at w;exact w.elim
  ·rw[q] at w⊢;exact λF' H' e'=>w F' H' (s.ext.trans e')
  ·rw[q] at w⊢;intro u H1 F1 e1 hq;cases d with
   |lst es=>
    obtain⟨b,ws,rfl,k2,k3,k4⟩:=hq;have w:WPS X.K Xw s0 acS (if ds.length+es.length<=lim then aa (.nx (ρ.set i (some (.ow (.lst (ds++es)))))) else ag) D:=w;split at w
    ·rename_i cN;have M2:=hd.len;have RD:=k3.len;refine⟨a,b,vs,ws,rfl,rfl,e1.hh _ _ hH,e1.fh _ _ k2,by have:=ck;omega,?_⟩;exact w σ F1 _ ((s.ext' e1).chg (c₀:= .lst (ds++es)) hi hv ⟨_,rfl,DenL.append (DenL.mono e1.ff hd) k3,by rw[Vm];exact cN⟩)
    ·exact w.elim
   |_=>exact w.elim
def g6{i:Nat}{x:Str}(hv:PE X (.Name x p) (qm i))(he:PD X Xw e δ)(hs:Zr (.Call (.Attribute (.Name x p) "append" W1) [e] [] aO) none pos.line X.env=pure false:=by rfl)
 (cU:WK (.Name x p) "append" X.env (eval (.Name x p) X.env)=eval (.Name x p) X.env:=by rfl)
 (fH:((W7 aO (Vs [e] X.env)).all (λx=>!x.1)&&(YA aO (Xf [] X.env)).all (λx=>x.1.isSome)&&decide ([e].length+([]:List Xb).length+(if ([]:List Xb).isEmpty then 0 else 1)<30))=true:=by rfl)
 (cV:(W1.endLine==aO.line)=true:=by rfl)(kG:Vs [e] X.env=[(false,eval e X.env)]:=by rfl):iy X Xw (.Expr (.Call (.Attribute (.Name x p) "append" W1) [e] [] aO) pos) (g7 i δ):=λs0 acS=>
 PS.weak (nT (E5 Xq PySem.F.slot_list_append PySem.F.type_list_append sF hv (uN he uO kG) cU fH cV kG rfl) hs) λD σ H w=>Iv s0 acS D σ H w
def HX{i:Nat}{x:Str}(hv:PE X (.Name x p) (qm i))(he:PD X Xw e δ)(hs:Zr (.Call (.Attribute (.Name x p) "extend" W1) [e] [] aO) none pos.line X.env=pure false:=by rfl)
 (cU:WK (.Name x p) "extend" X.env (eval (.Name x p) X.env)=eval (.Name x p) X.env:=by rfl)
 (fH:((W7 aO (Vs [e] X.env)).all (λx=>!x.1)&&(YA aO (Xf [] X.env)).all (λx=>x.1.isSome)&&decide ([e].length+([]:List Xb).length+(if ([]:List Xb).isEmpty then 0 else 1)<30))=true:=by rfl)
 (cV:(W1.endLine==aO.line)=true:=by rfl)(kG:Vs [e] X.env=[(false,eval e X.env)]:=by rfl):iy X Xw (.Expr (.Call (.Attribute (.Name x p) "extend" W1) [e] [] aO) pos) (Fy i δ):=λs0 acS=>
 PS.weak (nT (E5 Xq PySem.F.slot_list_extend PySem.F.type_list_extend B2 hv (uN he uO kG) cU fH cV kG rfl) hs) λD σ H w=>Iw s0 acS D σ H w
def EG:OpR X (Yz .Add) (λx y H Q=>∃a b ys,x= .ref a/\y= .ref b/\SqT X.K H a []/\SqT X.K H b ys/\Q (.ref b) H):=by
 intro f8 s σ H x y v u Q I rx ry h;obtain⟨a,b,ys,rfl,rfl,ha,hb,q⟩:=h;cases rx;cases ry;obtain⟨aB,r1,p1,_⟩:=I.tuple ha;obtain⟨eB,r2,p2,_⟩:=I.tuple hb;cases r1;obtain⟨⟨cls,dd,data,sl⟩,ho,hc,n,hd⟩:=id p1;obtain⟨⟨cls2,yq,data2,Ju⟩,Gm,DK,n2,hd2⟩:=id p2;simp only at hc hd DK hd2;subst hc hd DK hd2;exact concat_meets ⟨_,ho,rfl⟩ ⟨_,Gm,rfl⟩ aa8 ach Za Y6 (YS _ _)
  (tuple_addW0 a b _ _ n n2 dd yq sl Ju (by simp)) ⟨ho,Gm,⟨.ref b,H,I,rfl,q⟩⟩
def oK:D->D->M D
 | .tup x, .tup y=>if x.length+y.length<=lim then aa (.tup (x++y)) else ag
 |_,_=>ag
def AL(ha:PD X Xw a δa)(hb:PD X Xw b δb):PD X Xw (.BinOp a .Add b pos) (d2 oK δa δb):=lj (EG.or Hr) (λXw F H x y dx dy Q s hx hy w=>by
 unfold oK at w;split at w
 ·rename_i i j;obtain⟨a,vs,h1,h2,h3,h4⟩:=hx;obtain⟨a',vs',k1,k2,k3,k4⟩:=hy;split at w
  ·rename_i hl;have e1:=h3.len;have e2:=k3.len;have:=ck;by_cases hv:vs=[]
   ·subst hv;have:i=[]:=by cases i with | nil=>rfl | cons _ _=>simp at e1
    subst this;exact .inl ⟨a,a',vs',h1,k1,SqT.of (s _ _ h2),SqT.of (s _ _ k2),WP.now w s ⟨a',vs',k1▸rfl,k2,k3,k4⟩⟩
   ·refine .inr ⟨a,a',vs,vs',h1,k1,SqT.of (s _ _ h2),SqT.of (s _ _ k2),hv,by omega,λz=>?_,λz p hp=>?_⟩
    ·subst z;have:j=[]:=by cases j with | nil=>rfl | cons _ _=>simp at e2
     subst this;rw[V7] at w;exact WP.now w s ⟨a,vs,rfl,h2,h3,h4⟩
    ·exact WP.fin w (Ext.lay s hp) ⟨p,_,rfl,aD,DenL.mono (Ext.lay s hp).ff (h3.append k3),by rw[Vm];exact hl⟩
  ·exact w.elim
 ·exact w.elim) ha hb
end
section
variable{X:Cx}{Xw:Nat->Hp->Prop}{a b e e2 o:Expr}{es:List Expr}{δa δb δo:DE}{δs:DA}{pos p W1 aO:Pos}
def dM(kd:D->Bool)(g:D->List D->M D)(o:DE)(s:DA):DE:=λρ=>o ρ>>=λd=>if kd d then s ρ>>=λds=>g d ds else ag
def m6{T:String}{name:Str}{id:String}{r:V->List V->Hp->VK->Prop}{kd:D->Bool}{g:D->List D->M D}(pa:PlainAttrs T)(slot:Slot T name id)(P8:typeOf (.builtin id)=pure (.type "method_descriptor"))(hm:Gb X id r)
 (hk:∀(F H:Hp) (x:V) (d:D),kd d=true->Same F H->Den X.K F d x->Oc X.K T x H)
 (hd:∀(Xw:Nat->Hp->Prop) (F H:Hp) (x:V) (vs:List V) (d:D) (ds:List D) (Q:VK),Same F H->Den X.K F d x->DenL X.K F ds vs->WP X.K Xw F H (g d ds) Q->r x vs H Q)
 (ho:PD X Xw o δo)(ha:iu X Xw (e::es) δs)
 (cU:WK o name X.env (eval o X.env)=eval o X.env:=by rfl)
 (fH:((W7 aO (Vs (e::es) X.env)).all (λx=>!x.1)&&(YA aO (Xf [] X.env)).all (λx=>x.1.isSome)
  &&decide ((e::es).length+([]:List Xb).length+(if ([]:List Xb).isEmpty then 0 else 1)<30))=true:=by rfl)
 (cV:(W1.endLine==aO.line)=true:=by rfl) (hs:Vs (e::es) X.env=(false,eval e X.env)::Vs es X.env:=by rfl) (yZ:(W7 aO (Vs es X.env)).any (·.1)=false:=by rfl):
 PD X Xw (.Call (.Attribute o name W1) (e::es) [] aO) (dM kd g δo δs):=PE.weak (E5 pa slot P8 hm ho ha cU fH cV hs yZ) λσ H Q ⟨F,ρ,s,w⟩=>by
 refine⟨F,ρ,s,WP.mono (WP.bind w) λv H1 ⟨F1,d,e1,q1,w1⟩=>?_⟩;split at w1
 ·rename_i Tv;refine⟨hk F1 H1 v d Tv e1.fh q1,F1,ρ,s.ext e1,WPL.mono (WP.bindL w1) λvs H2 ⟨F2,ds,e2,q2,w2⟩=>?_⟩;exact hd Xw F2 H2 v vs d ds Q e2.fh (Den.mono e2.ff q1) q2 w2
 ·exact w1.elim
def kh:D->Bool
 | .str _=>true
 |_=>false
def gz:D->Bool
 | .lst _=>true
 |_=>false
def o3{K:Vn}(F H:Hp)(x:V)(d:D)(h:kh d=true)(s:Same F H)(q:Den K F d x):Oc K "str" x H:=by
 cases d with
 |str z=>cases (show _=_ from q.1);exact rfl
 |_=>cases h
def oY{K:Vn}(F H:Hp)(x:V)(d:D)(h:gz d=true)(s:Same F H)(q:Den K F d x):Oc K "list" x H:=by
 cases d with
 |lst z=>obtain⟨a,vs,rfl,h2,_⟩:=q;exact .inl ⟨rfl,vs,SqL.of (s _ _ h2)⟩
 |_=>cases h
def lF:List D->Option (List Str)
 |[]=>some []
 | .str x::r=>(lF r).map (x:: ·)
 |_=>none
def lG{K:Vn}{F:Hp}:∀{ds:List D}{vs:List V}{xs:List Str},lF ds=some xs->DenL K F ds vs->vs=xs.map V.str
 |[],_,_,e,h=>by cases e;exact h
 | .str b::r,_,_,e,⟨v,r',h1,h2,h3⟩=>by
   unfold lF at e;cases q:lF r with
   |none=>rw[q] at e;cases e
   |some bs=>rw[q] at e;cases e;subst h1;rw[lG q h3,show v= .str b from h2.1];rfl
 | .non::_,_,_,e,_=>by cases e
 | .int _::_,_,_,e,_=>by cases e
 | .bl _::_,_,_,e,_=>by cases e
 | .raw _::_,_,_,e,_=>by cases e
 | .exc _::_,_,_,e,_=>by cases e
 | .scr _::_,_,_,e,_=>by cases e
 | .tup _::_,_,_,e,_=>by cases e
 | .lst _::_,_,_,e,_=>by cases e
def lL:∀{xs:List Str}{aB:List Value},Vals (xs.map V.str) aB->StrsAre aB xs
 |[],_,r=>by cases r;exact .nil
 |b::bs,_,r=>by
  cases r with
  |cons r1 r2=>obtain⟨t,rfl⟩:=r1;exact .cons b t (lL r2)
def cw:List Str->Str
 |[]=>⟨#[]⟩
 |x::r=>x++cw r
def joinM:D->List D->M D
 | .str sep,[.lst ds]=>match lF ds with
   |some xs=>if sep.length=0/\(xs.map (·.length)).sum<=lim then aa (.str (cw xs)) else ag
   |none=>ag
 | .str sep,[.tup ds]=>match lF ds with
   |some xs=>if sep.length=0/\(xs.map (·.length)).sum<=lim then aa (.str (cw xs)) else ag
   |none=>ag
 |_,_=>ag
def oq:∀xs:List Str,(cw xs).length=(xs.map (·.length)).sum
 |[]=>rfl
 |x::r=>by
  show (x++cw r).length=_;rw[aX,oq r,Vi,Xk]
def Ir{x:Str}(h:x.length=0):x=⟨#[]⟩:=by
 obtain⟨⟨l⟩⟩:=x;have:l.length=0:=h;cases l with
 |nil=>rfl
 |cons _ _=>simp at this
def m_(x:Str):x++(⟨#[]⟩:Str)=x:=by
 obtain⟨c⟩:=x;show (⟨c++ #[]⟩:Str)=⟨c⟩
 simp
def mF(sep:Str)(h:sep.length=0):∀xs:List Str,Z8 sep xs=cw xs:=by
 have e:=Ir h;subst e;intro xs;show abg _ xs=_;rw[aa_];induction xs with
 |nil=>rfl
 |cons x r ih=>
  cases r with
  |nil=>show x=x++(⟨#[]⟩:Str);rw[m_]
  |cons y r=>show x++(⟨#[]⟩:Str)++acC _ (y::r)=x++cw (y::r);rw[m_,ih]
def rJoin(K:Vn):V->List V->Hp->VK->Prop:=λx vs H Q=>∃(sep:Str) (a:Addr) (xs:List Str),x= .str sep/\vs=[.ref a]/\(H a=some (.lst (xs.map V.str))\/H a=some (.tup (xs.map V.str)))/\sep.length=0/\(xs.map (·.length)).sum<=lim/\Q (.str (cw xs)) H
def Hk:Gb X "str.join" (rJoin X.K):=by
 intro f8 s σ H x vs v us Q I rx rv h;obtain⟨sep,a,xs,rfl,rfl,hH,hs,hl,q⟩:=h;obtain⟨t,rfl⟩:=rx;obtain⟨u,rfl,r1⟩:=rv.one;cases (show u=_ from r1);have hok:(xs.map (·.length)).sum+xs.length*sep.length<=16777216:=by
  rw[hs,Nat.mul_zero];unfold lim at hl;omega
 rcases hH with hH | hH
 ·obtain⟨aB,r2,pl,hz⟩:=I.list (SqL.of (K:=X.K) hH);refine join_list pl.isList (by simpa using lL r2) hok λt' k=>⟨.str (cw xs),H,I.tok k,⟨t',by rw[mF sep hs]⟩,q⟩
 ·obtain⟨aB,r2,pl,hz⟩:=I.tuple (SqT.of (K:=X.K) hH);refine join_tuple pl (by simpa using lL r2) hok λt' k=>⟨.str (cw xs),H,I.tok k,⟨t',by rw[mF sep hs]⟩,q⟩
def AO(ho:PD X Xw o δo)(ha:iu X Xw [e] δs)(cU:WK o "join" X.env (eval o X.env)=eval o X.env:=by rfl)
 (fH:((W7 aO (Vs [e] X.env)).all (λx=>!x.1)&&(YA aO (Xf [] X.env)).all (λx=>x.1.isSome)&&decide ([e].length+([]:List Xb).length+(if ([]:List Xb).isEmpty then 0 else 1)<30))=true:=by rfl)
 (cV:(W1.endLine==aO.line)=true:=by rfl)(kG:Vs [e] X.env=[(false,eval e X.env)]:=by rfl):PD X Xw (.Call (.Attribute o "join" W1) [e] [] aO) (dM kh joinM δo δs):=
 m6 Xy abe abd Hk o3 (λXw F H x vs d ds Q s hx hv w=>by
  unfold joinM at w;split at w
  ·rename_i sep ds;obtain⟨v,rfl,h1⟩:=hv.one;obtain⟨a,ws,rfl,h2,h3,_⟩:=h1;split at w
   ·rename_i xs Kf;split at w
    ·rename_i hc;exact⟨sep,a,xs,hx.1,rfl, .inl (by rw[<-lG Kf h3];exact s _ _ h2),hc.1,hc.2,WP.now w s ⟨rfl,by rw[oq];exact hc.2⟩⟩
    ·exact w.elim
   ·exact w.elim
  ·rename_i sep ds;obtain⟨v,rfl,h1⟩:=hv.one;obtain⟨a,ws,rfl,h2,h3,_⟩:=h1;split at w
   ·rename_i xs Kf;split at w
    ·rename_i hc;exact⟨sep,a,xs,hx.1,rfl, .inr (by rw[<-lG Kf h3];exact s _ _ h2),hc.1,hc.2,WP.now w s ⟨rfl,by rw[oq];exact hc.2⟩⟩
    ·exact w.elim
   ·exact w.elim
  ·exact w.elim) ho ha cU fH cV kG rfl
def yd:List D->M D
 |[.lst ds]=>aa (.tup ds)
 |[.tup ds]=>aa (.tup ds)
 |_=>ag
def Ej:List D->M D
 |[.lst ds]=>aa (.lst ds)
 |[.tup ds]=>aa (.lst ds)
 |_=>ag
def EV(hg:Gl X "tuple")(hm:X.mg "tuple"=none)(hb:V4 "tuple"=some (.type "tuple"))(ha:iu X Xw [e] δs)(he:Vs [e] X.env=[(false,eval e X.env)]:=by rfl):PD X Xw (.Call (.Name "tuple" p) [e] [] pos) (dA yd δs):=
 lZ qH (λXw F H vs ds Q s h w=>by
  unfold yd at w;split at w
  ·rename_i ds;obtain⟨v,rfl,h1⟩:=h.one;obtain⟨a,ws,rfl,h2,h3,h4⟩:=h1;exact⟨a,ws,rfl, .inl ⟨SqL.of (s _ _ h2),λl hl=>WP.fin w (Ext.lay s hl) ⟨l,ws,rfl,aD,DenL.mono (Ext.lay s hl).ff h3,h4⟩⟩⟩
  ·rename_i ds;obtain⟨v,rfl,h1⟩:=h.one;obtain⟨a,ws,rfl,h2,h3,h4⟩:=h1;exact⟨a,ws,rfl, .inr ⟨SqT.of (s _ _ h2),WP.now w s ⟨a,ws,rfl,h2,h3,h4⟩⟩⟩
  ·exact w.elim) hg hm hb ha (by decide) (by decide) he rfl
def HC(hg:Gl X "list")(hm:X.mg "list"=none)(hb:V4 "list"=some (.type "list"))(ha:iu X Xw [e] δs)(he:Vs [e] X.env=[(false,eval e X.env)]:=by rfl):PD X Xw (.Call (.Name "list" p) [e] [] pos) (dA Ej δs):=
 lZ tW (λXw F H vs ds Q s h w=>by
  unfold Ej at w;split at w
  ·rename_i ds;obtain⟨v,rfl,h1⟩:=h.one;obtain⟨a,ws,rfl,h2,h3,h4⟩:=h1;exact⟨a,ws,rfl, .inl (SqL.of (s _ _ h2)),λl hl=>WP.fin w (Ext.lay s hl) ⟨l,ws,rfl,aD,DenL.mono (Ext.lay s hl).ff h3,h4⟩⟩
  ·rename_i ds;obtain⟨v,rfl,h1⟩:=h.one;obtain⟨a,ws,rfl,h2,h3,h4⟩:=h1;exact⟨a,ws,rfl, .inr (SqT.of (s _ _ h2)),λl hl=>WP.fin w (Ext.lay s hl) ⟨l,ws,rfl,aD,DenL.mono (Ext.lay s hl).ff h3,h4⟩⟩
  ·exact w.elim) hg hm hb ha (by decide) (by decide) he rfl
def zx(hc:X.calm=true)(hg:Gl X "max")(hm:X.mg "max"=none)(hb:V4 "max"=some (.builtin "max"))(ha:iu X Xw [e,e2] δs)(he:Vs [e,e2] X.env=(false,eval e X.env)::Vs [e2] X.env:=by rfl)
 (iz:(W7 pos (Vs [e2] X.env)).any (·.1)=false:=by rfl):PD X Xw (.Call (.Name "max" p) [e,e2] [] pos) (dA zd δs):=
 dZ (Bd hc) (λXw F H vs ds Q s h w=>by
  unfold zd at w;split at w
  ·obtain⟨v,v',rfl,h1,h2⟩:=h.two;cases (show _=_ from h1);cases (show _=_ from h2);exact⟨_,_,rfl,WP.now w s rfl⟩
  ·exact w.elim) hg hm hb ha (by decide) (by decide) he iz
def ET(hc:X.calm=true)(hg:Gl X "min")(hm:X.mg "min"=none)(hb:V4 "min"=some (.builtin "min"))(ha:iu X Xw [e,e2] δs)(he:Vs [e,e2] X.env=(false,eval e X.env)::Vs [e2] X.env:=by rfl)
 (iz:(W7 pos (Vs [e2] X.env)).any (·.1)=false:=by rfl):PD X Xw (.Call (.Name "min" p) [e,e2] [] pos) (dA B0 δs):=
 dZ (Be hc) (λXw F H vs ds Q s h w=>by
  unfold B0 at w;split at w
  ·obtain⟨v,v',rfl,h1,h2⟩:=h.two;cases (show _=_ from h1);cases (show _=_ from h2);exact⟨_,_,rfl,WP.now w s rfl⟩
  ·exact w.elim) hg hm hb ha (by decide) (by decide) he iz
def nums:List D->Option (List Int)
 |[]=>some []
 | .int x::r=>(nums r).map (x:: ·)
 |_=>none
def gy{K:Vn}{F:Hp}:∀{ds:List D}{vs:List V}{xs:List Int},nums ds=some xs->DenL K F ds vs->vs=xs.map V.int
 |[],_,_,e,h=>by cases e;exact h
 | .int b::r,_,_,e,⟨v,r',h1,h2,h3⟩=>by
   unfold nums at e;cases q:nums r with
   |none=>rw[q] at e;cases e
   |some bs=>rw[q] at e;cases e;subst h1;rw[gy q h3,show v= .int b from h2];rfl
 | .non::_,_,_,e,_=>by cases e
 | .str _::_,_,_,e,_=>by cases e
 | .bl _::_,_,_,e,_=>by cases e
 | .raw _::_,_,_,e,_=>by cases e
 | .exc _::_,_,_,e,_=>by cases e
 | .scr _::_,_,_,e,_=>by cases e
 | .tup _::_,_,_,e,_=>by cases e
 | .lst _::_,_,_,e,_=>by cases e
def GQ(neg:Bool):D->D->M D
 | .int i, .tup ds=>match nums ds with | some ns=>aa (.bl (if neg then !ns.contains i else ns.contains i)) | none=>ag
 |_,_=>ag
def D2(i:Int)(ns:List Int):OJ (.int i) (ns.map V.int)=ns.contains i:=by
 unfold OJ;rw[List.any_map];induction ns with
 |nil=>rfl
 |cons n ns ih=>
  rw[Yp,List.contains_cons,ih];congr 1;show Gf (.int n) (.int i)=(i==n)
  unfold Gf;exact Bool.beq_comm
def Kh{neg:Bool}{K:Vn}:yp K (R7 K neg) (GQ neg):=λXw F H x y dx dy Q s hx hy w=>by
 unfold GQ at w;split at w
 ·rename_i i ds;obtain⟨a,vs,h1,h2,h3,h4⟩:=hy;split at w
  ·rename_i ns hn;have hv:=gy hn h3;subst hv;cases (show _=_ from hx);refine⟨a,ns.map V.int,h1, .inr (SqT.of (s _ _ h2)),rfl,?_,?_⟩
   ·rw[YT];exact Wu.mpr λ_ _=>rfl
   ·rw[D2];exact WP.now w s rfl
  ·exact w.elim
 ·exact w.elim
def Cj(ha:PD X Xw a δa)(hb:PD X Xw b δb)(hm:WJ .NotIn b=false:=by rfl):qC X Xw (.Compare a [.NotIn] [b] pos) (dN (d2 (GQ true) δa δb)):=lp uM Kh ha hb hm
def DB(neg:Bool):D->D->M D
 | .str x, .str y=>aa (.bl (if neg then !(!(WT y x 0 y.length 1).isEmpty) else !(WT y x 0 y.length 1).isEmpty))
 |_,_=>ag
def KW(ha:PD X Xw a δa)(hb:PD X Xw b δb)(hm:WJ .In b=false:=by rfl):PD X Xw (.Compare a [.In] [b] pos) (d2 (DB false) δa δb):=ES B9 (λXw F H x y dx dy Q s hx hy w=>by
 unfold DB at w;split at w
 ·exact⟨_,_,hx.1,hy.1,WP.now w s rfl⟩
 ·exact w.elim) ha hb hm
end
end L3
namespace L3
open PySem PySem.Spec L2 SeqAt HT
open PyProof.Rows hiding St
section
variable{prog:VG}{w:World}{A:V2}{E:Value->Vf->Prop}{s:Vf}
def jA{t sl:Addr}{items:Array Value}{vl vu:Value}{lo hi:Option Int}{Q:Value->Vf->Prop}(ht:IsTup s.heap t items)(hs:s.heap.IsSliceOf sl vl vu .none)(pl:aa3 vl lo)(pu:aa3 vu hi)
 (hw:sIx items.size 0 lo=0/\sIx items.size items.size hi=items.size)(h:Q (.ref t) s):wpAny (model prog w) A (ZT (.ref t) (.ref sl)) Q E s:=by
 obtain⟨os,BD,J1,I_⟩:=id hs;have Pd:s.TypeIs (.ref sl) "slice":=⟨os,BD,J1⟩
 unfold ZT
 try with_reducible refine Wf ?_
 first | refine U_ (Va ?_) | skip
 refine U_ (wpAny_sequenceKey ht.typeIs (by decide) ?_);refine U_ (Xa (name:=V0 "__getitem__") ht.typeIs Xd
  (Wx Xd ht.typeIs entry_tuple_getitem ?_ (args_tuple_getitem _ _)))
 show wpAny _ _ (ZN (.ref t)>>=_) _ _ s;refine U_ (tupleItemsOf_ ht ?_);refine U_ (Yr Pd ?_);rw[acI (by decide)];refine U_ (sliceApplied_gen hs pl pu ?_);have oP:((((sIx items.size 0 lo:Nat):Int)==0&&(1:Int)==1&&(sIx items.size items.size hi - sIx items.size 0 lo)==items.size)=true):=by
  rw[hw.1,hw.2];simp
 show wpAny _ _ (if (((sIx items.size 0 lo:Nat):Int)==0&&(1:Int)==1&&(sIx items.size items.size hi - sIx items.size 0 lo)==items.size)=true then _ else _) _ _ s;rw[acI oP];refine U_ ?_;unfold Builtin.Tuple.tupleIsExact;refine U_ (Yr ht.typeIs (Va ?_));rw[acI (by decide)];exact U_ (abZ (Va ⟨_,rfl,Va h⟩))
end
section
variable{X:Cx}{Xw:Nat->Hp->Prop}{a b e:Expr}{lo hi:Option Expr}{δ:DE}{pos p p2:Pos}
def Ip:SlR X (λx lo hi H Q=>∃a xs,x= .ref a/\SqT X.K H a xs/\(sIx xs.length 0 lo=0/\sIx xs.length xs.length hi=xs.length)/\Q (.ref a) H):=by
 intro f8 s σ H x v vl vu lo hi sl Q I rx hs pl pu h;obtain⟨a,xs,rfl,hx,hw,q⟩:=h;cases rx;obtain⟨aB,r,ht,hz⟩:=I.tuple hx;have M2:aB.toArray.size=xs.length:=by rw[Vl];exact r.length.symm
 exact⟨"tuple",_,PyProof.Rows.slot_tuple_getitem.lookup,ht.typeIs,jA ht hs pl pu (by rw[M2];exact hw) ⟨.ref a,H,I,rfl,q⟩⟩
def Ly:SlR X (λx lo hi H Q=>∃z:Str,x= .str z/\z.length<=lim/\Q (.str (aaT z lo hi)) H):=by
 intro f8 s σ H x v vl vu lo hi sl Q I rx hs pl pu h;obtain⟨z,rfl,hl,q⟩:=h;obtain⟨t,rfl⟩:=rx;have hz:z.length<=VB:=by have:=ck;omega
 cases pl with
 |none=>
  cases pu with
  |none=>exact⟨"str",_,PySem.F.slot_str_getitem.lookup,Yt _ _ _,Yx (l:=none) (u:=none) (st:=none) hs rfl (ZR ⟨VI (ZD z _ _) hz,λt' k=>⟨.str _,H,I.tok k,⟨t',rfl⟩,q⟩⟩)⟩
  |int j uj=>exact⟨"str",_,PySem.F.slot_str_getitem.lookup,Yt _ _ _,Yx (l:=none) (u:=some (j,uj)) (st:=none) hs rfl (ZR ⟨VI (ZD z _ _) hz,λt' k=>⟨.str _,H,I.tok k,⟨t',rfl⟩,q⟩⟩)⟩
 |int i ui=>
  cases pu with
  |none=>exact⟨"str",_,PySem.F.slot_str_getitem.lookup,Yt _ _ _,Yx (l:=some (i,ui)) (u:=none) (st:=none) hs rfl (ZR ⟨VI (ZD z _ _) hz,λt' k=>⟨.str _,H,I.tok k,⟨t',rfl⟩,q⟩⟩)⟩
  |int j uj=>exact⟨"str",_,PySem.F.slot_str_getitem.lookup,Yt _ _ _,Yx (l:=some (i,ui)) (u:=some (j,uj)) (st:=none) hs rfl (ZR ⟨VI (ZD z _ _) hz,λt' k=>⟨.str _,H,I.tok k,⟨t',rfl⟩,q⟩⟩)⟩
abbrev DO:=aQ->M (Option Int)
def WPO(Xw:Nat->Hp->Prop)(F H:Hp)(m:M (Option Int))(Q:Option Int->Hp->Prop):Prop:=
 match m with
 |none=>False
 |some (.ok b)=>∀H' F',Ext F H F' H'->Q b H'
 |some (.ex n)=>∀F' H',Ext F H F' H'->Xw n H'
def UB(K:Vn)(Xw:Nat->Hp->Prop)(δ:DO):TO:=λσ H Q=>∃F ρ,StE K F H σ ρ/\WPO Xw F H (δ ρ) Q
def Oj(X:Cx)(Xw:Nat->Hp->Prop)(e:Option Expr)(δ:DO):Prop:=PO X e (UB X.K Xw δ)
def oN:DO:=λ_=>aa none
def oS(δ:DE):DO:=λρ=>δ ρ>>=λd=>match d with | .int i=>aa (some i) | _=>ag
def E3:Oj X Xw none oN:=λf8 s σ H Q I ⟨F,ρ,S,w⟩=>HP f8 s σ H Q I (w H F (Ext.refl S.fh))
def E4(h:PD X Xw e δ):Oj X Xw (some e) (oS δ):=λf8 s σ H Q I ⟨F,ρ,S,w⟩=>HQ h f8 s σ H Q I ⟨F,ρ,S,by
 have w:WPO Xw F H (δ ρ>>=λd=>match d with | .int i=>aa (some i) | _=>ag) Q:=w;rcases(δ ρ).cs with q | ⟨n,q⟩ | ⟨d,q⟩
 ·rw[q] at w;exact w.elim
 ·rw[q] at w⊢;exact w
 ·rw[q] at w⊢;intro v H' F' e' hd;cases d with
  |int i=>exact⟨i,hd,w H' F' e'⟩
  |_=>exact w.elim⟩
def WP.bindO{K:Vn}{Xw:Nat->Hp->Prop}{F H:Hp}{Q:VK}{m:M (Option Int)}{k:Option Int->M D}(h:WP K Xw F H (m>>=k) Q):WPO Xw F H m λb H1=>∃F1,Ext F H F1 H1/\WP K Xw F1 H1 (k b) Q:=by
 match m,h with
 |none,h=>exact h
 |some (.ok d),h=>exact λH2 F2 e2=>⟨F2,e2,WP.ext e2 (show WP K Xw F H (k d) Q from h)⟩
 |some (.ex n),h=>exact h
def WPO.mono{Xw:Nat->Hp->Prop}{F H:Hp}{m:M (Option Int)}{Q Q':Option Int->Hp->Prop}(h:WPO Xw F H m Q)(k:∀v H',Q v H'->Q' v H'):WPO Xw F H m Q':=by
 match m,h with
 |none,h=>exact h
 |some (.ok d),h=>exact λH2 F2 e2=>k _ _ (h H2 F2 e2)
 |some (.ex n),h=>exact h
def cutD(ds:List D)(lo hi:Option Int):List D:=(ds.drop (sIx ds.length 0 lo)).take (sIx ds.length ds.length hi - sIx ds.length 0 lo)
def R8:D->Option Int->Option Int->M D
 | .tup ds,lo,hi=>aa (.tup (cutD ds lo hi))
 | .lst ds,lo,hi=>aa (.lst (cutD ds lo hi))
 | .str x,lo,hi=>aa (.str (aaT x lo hi))
 |_,_,_=>ag
def Q8(a:DE)(lo hi:DO):DE:=λρ=>a ρ>>=λd=>lo ρ>>=λl=>hi ρ>>=λh=>R8 d l h
def wa(ds:List D)(lo hi:Option Int):(cutD ds lo hi).length<=ds.length:=by
 unfold cutD;rw[Xi,aau];omega
def DenL.cut{K:Vn}{F:Hp}{ds:List D}{vs:List V}(h:DenL K F ds vs)(lo hi:Option Int):DenL K F (cutD ds lo hi) (wc vs lo hi):=by
 unfold cutD wc;rw[h.len];exact(h.drop _).take _
def NF{δo:DE}{κl κh:DO}(he:PD X Xw e δo)(hl:Oj X Xw lo κl)(hh:Oj X Xw hi κh):PD X Xw (.Subscript e (.Slice lo hi none p2) pos) (Q8 δo κl κh):=
 PE.weak (Fb (Ip.or (Lz.or (Io.or Ly))) he hl hh) λσ H Q ⟨F,ρ,s,w⟩=>by
  refine⟨F,ρ,s,WP.mono (WP.bind w) λv H1 ⟨F1,d,e1,q1,w1⟩=>?_⟩;refine⟨F1,ρ,s.ext e1,WPO.mono (WP.bindO w1) λl H2 ⟨F2,e2,w2⟩=>?_⟩;refine⟨F2,ρ,(s.ext e1).ext e2,WPO.mono (WP.bindO w2) λh H3 ⟨F3,e3,w3⟩=>?_⟩;have q3:=Den.mono (e2.ff.trans e3.ff) q1;have fh:=e3.fh;cases d with
  |tup ds=>
   obtain⟨a,vs,rfl,h2,h3,h4⟩:=q3;by_cases hw:sIx vs.length 0 l=0/\sIx vs.length vs.length h=vs.length
   ·refine .inl ⟨a,vs,rfl,SqT.of (fh _ _ h2),hw,?_⟩;have hc:cutD ds l h=ds:=by
     unfold cutD;rw[h3.len,hw.1,hw.2,Nat.sub_zero,List.drop_zero,<-h3.len,Zk]
    have w3:WP X.K Xw F3 H3 (aa (.tup (cutD ds l h))) Q:=w3;rw[hc] at w3;exact WP.now w3 fh ⟨a,vs,rfl,h2,h3,h4⟩
   ·exact .inr (.inl ⟨a,vs,rfl,SqT.of (fh _ _ h2),hw,λp hp=>WP.fin w3 (Ext.lay fh hp) ⟨p,_,rfl,aD,DenL.mono (Ext.lay fh hp).ff (h3.cut l h),VI (wa _ _ _) h4⟩⟩)
  |lst ds=>
   obtain⟨a,vs,rfl,h2,h3,h4⟩:=q3;exact .inr (.inr (.inl ⟨a,vs,rfl,SqL.of (fh _ _ h2),λp hp=>WP.fin w3 (Ext.lay fh hp) ⟨p,_,rfl,aD,DenL.mono (Ext.lay fh hp).ff (h3.cut l h),VI (wa _ _ _) h4⟩⟩))
  |str x=>exact .inr (.inr (.inr ⟨x,q3.1,q3.2,WP.now w3 fh ⟨rfl,VI (ZD x _ _) q3.2⟩⟩))
  |_=>exact w3.elim
end
def Oh(x:Str):It:=⟨λi _=>i<x.cps.size,λi H v H'=>H'=H/\∃c,x.cps[i]? =some c/\v= .str ⟨#[c]⟩,λi _=>x.cps.size<=i⟩
def CC{P:VG}{w:World}{K:Vn}{tg:Expr}(it:Addr)(x:Str)(t:Tok):Turn P w K tg (Oh x) [it] it (λi h=>i<=x.cps.size/\h.IsStrIter it "str_ascii_iterator" x t i) where
 mem:=by simp
 obj:=λi h st b hb=>by
  have e:b=it:=by simpa using hb
  subst e;obtain⟨_,o,e,c,d⟩:=st;exact⟨o,e,λv z=>by rw[d] at z;cases z⟩
 keep:=λi h h' st k=>⟨st.1,let ⟨o,e,r⟩:=st.2;⟨o,k it (by simp) o e,r⟩⟩
 item:=by
  intro X hP hw hK hc i f8 s σ H E I hf st hg;subst hP hw hK;obtain⟨f0,f1,f2,f3,f4,f5⟩:=hf it (by simp);have hi:i<x.cps.size:=hg;refine(Walks.strAscii (prog:=X.prog) (w:=X.w) (I.ok.hd hc) it x t).item i s _ _ hi st.2 λv h' tk hv qi kk=>?_;obtain⟨c,u,Pj,rfl⟩:=hv;have I1:Inv X f8 σ H {s with heap:=h',toks:=tk}:=I.turned (λb o hb e=>kk b o (by simpa using hb) e) f0 f1 f3 f4 f5;obtain⟨o,e,cc,dd⟩:=id qi;exact⟨_,rfl,rR (s:={s with heap:=h',toks:=tk}) e cc dd (by decide) ⟨.str ⟨#[c]⟩,H,I1,⟨u,rfl⟩,⟨rfl,c,Pj,rfl⟩,⟨hi,qi⟩,λb hb=>(hf b hb).1⟩⟩
 done:=by
  intro X hP hw hK hc i f8 s σ H E I hf st hg;subst hP hw hK;obtain⟨f0,f1,f2,f3,f4,f5⟩:=hf it (by simp);have hi:i=x.cps.size:=aaW st.1 hg;subst hi;exact(Walks.strAscii (prog:=X.prog) (w:=X.w) (I.ok.hd hc) it x t).done s _ _ st.2 λh' tk kk=>⟨rfl,I.turned (λb o hb e=>kk b o (by simpa using hb) e) f0 f1 f3 f4 f5⟩
 self:=λ_ _ _ _ _ st h=>wpAny_pyIter_striter_ascii st.2 h
def CD{P:VG}{w:World}{K:Vn}{tg:Expr}(it:Addr)(x:Str)(t:Tok):Turn P w K tg (Oh x) [it] it (λi h=>i<=x.cps.size/\h.IsStrIter it "str_iterator" x t i) where
 mem:=by simp
 obj:=λi h st b hb=>by
  have e:b=it:=by simpa using hb
  subst e;obtain⟨_,o,e,c,d⟩:=st;exact⟨o,e,λv z=>by rw[d] at z;cases z⟩
 keep:=λi h h' st k=>⟨st.1,let ⟨o,e,r⟩:=st.2;⟨o,k it (by simp) o e,r⟩⟩
 item:=by
  intro X hP hw hK hc i f8 s σ H E I hf st hg;subst hP hw hK;obtain⟨f0,f1,f2,f3,f4,f5⟩:=hf it (by simp);have hi:i<x.cps.size:=hg;refine(Walks.strWide (prog:=X.prog) (w:=X.w) (I.ok.hd hc) it x t).item i s _ _ hi st.2 λv h' tk hv qi kk=>?_;obtain⟨c,u,Pj,rfl⟩:=hv;have I1:Inv X f8 σ H {s with heap:=h',toks:=tk}:=I.turned (λb o hb e=>kk b o (by simpa using hb) e) f0 f1 f3 f4 f5;obtain⟨o,e,cc,dd⟩:=id qi;exact⟨_,rfl,rR (s:={s with heap:=h',toks:=tk}) e cc dd (by decide) ⟨.str ⟨#[c]⟩,H,I1,⟨u,rfl⟩,⟨rfl,c,Pj,rfl⟩,⟨hi,qi⟩,λb hb=>(hf b hb).1⟩⟩
 done:=by
  intro X hP hw hK hc i f8 s σ H E I hf st hg;subst hP hw hK;obtain⟨f0,f1,f2,f3,f4,f5⟩:=hf it (by simp);have hi:i=x.cps.size:=aaW st.1 hg;subst hi;exact(Walks.strWide (prog:=X.prog) (w:=X.w) (I.ok.hd hc) it x t).done s _ _ st.2 λh' tk kk=>⟨rfl,I.turned (λb o hb e=>kk b o (by simpa using hb) e) f0 f1 f3 f4 f5⟩
 self:=λ_ _ _ _ _ st h=>wpAny_pyIter_striter_wide st.2 h
section
variable{X:Cx}{Xw:Nat->Hp->Prop}{tg a b e l o:Expr}{δ δo:DE}{δs:DA}{p W1 aO:Pos}
def Qh(tl:TE):TI:=λσ H R=>tl σ H λx H1=>∃z,x= .str z/\R (Oh z) H1
def Lb{tl:TE}(hl:PE X l tl):PI X tg l (Qh tl):=by
 intro f8 s σ H R I h;refine bV (hl f8 s σ H _ I h) λv s1 ⟨x,H1,I1,r1,q1⟩=>?_;obtain⟨z,e,q⟩:=q1;subst e;obtain⟨t,rfl⟩:=r1;have fp:∀b∈[s1.heap.objs.size],nZ X f8 H1 b:=λb hb=>by
  have e:b=s1.heap.objs.size:=by simpa using hb
  subst e;exact I1.fpOk (Vj _) (I1.hok.fresh (Vj _))
 cases ha:z.cps.all (· <128)
 ·exact wpAny_pyIter_wide ha ⟨s1.heap.objs.size,[s1.heap.objs.size],_,_,H1,rfl,I1.kept (t':=s1.toks) λb o e=>Vd _ e,CD _ z t,⟨V1 _,_,Vq _ rfl,rfl,rfl⟩,fp,q⟩
 ·exact wpAny_pyIter_ascii ha ⟨s1.heap.objs.size,[s1.heap.objs.size],_,_,H1,rfl,I1.kept (t':=s1.toks) λb o e=>Vd _ e,CC _ z t,⟨V1 _,_,Vq _ rfl,rfl,rfl⟩,fp,q⟩
def signs(x:Str):List D:=x.cps.toList.map λc=>D.str ⟨#[c]⟩
def Lx:D->M (List D)
 | .str x=>aa (signs x)
 |_=>ag
def G7{K:Vn}{F:Hp}(x:Str):ItD K F (Oh x) (signs x):=λF' H' i s1 s2=>by
 refine⟨λd e=>?_,λhl=>show x.cps.size<=i by simpa[signs] using hl⟩;unfold signs at e;rw[Vz] at e;cases q:x.cps.toList[i]? with
 |none=>rw[q] at e;cases e
 |some c=>
  rw[q] at e;cases e;have hi:i<x.cps.size:=by
   have:=(Vt.mp q).1;simpa using this
  refine⟨hi,λv H'' y=>?_⟩;obtain⟨e2,c',IV,rfl⟩:=y;subst e2;have:c'=c:=by
   have q':x.cps[i]? =some c:=by simpa using q
   rw[q'] at IV;exact(VO IV).symm
  subst this;exact⟨F',Ext.refl s2,rfl,by show 1<=lim;decide⟩
def HG(h:PD X Xw l δ):yu X Xw tg l (λρ=>δ ρ>>=Lx):=PI.weak (Lb h) λσ H R ⟨F,ρ,s,w⟩=>by
 refine⟨F,ρ,s,WP.mono (WPI.bind w) λv H1 ⟨F1,d,e1,q1,w1⟩=>?_⟩;cases d with
 |str z=>exact⟨z,q1.1,w1 _ _ _ (Ext.refl e1.fh) (G7 z)⟩
 |_=>exact w1.elim
def Km:Value->Bool
 | .bool b=>b
 |_=>false
def Ds{A:V2}{s:Vf}{bs:List Bool}:∀y,y∈(bs.map XB).toArray->EqAt A s y (.bool true) (Km y):=λy hy=>by
 have hy:y∈bs.map XB:=by simpa using hy
 obtain⟨b,_,rfl⟩:=Vp.mp hy;have:=EqAt.bool_bool (A:=A) (s:=s) b true;cases b<;>exact this
def Dh:D->List D->M D
 | .lst ds,[.bl true]=>match bools ds with | some bs=>aa (.int (bs.count true)) | none=>ag
 |_,_=>ag
def Kg:D->List D->M D
 | .lst ds,[.bl true]=>match bools ds with
   |some bs=>if bs.contains true then aa (.int (bs.idxOf true)) else ag
   |none=>ag
 |_,_=>ag
def v_:∀bs:List Bool,(bs.map XB).countP Km=bs.count true
 |[]=>rfl
 |b::bs=>by
  rw[Vi,List.countP_cons,v_ bs,List.count_cons];cases b<;>rfl
def QE:V->List V->Hp->VK->Prop:=λx vs H Q=>∃(a:Addr) (bs:List Bool),x= .ref a/\vs=[.bl true]/\H a=some (.lst (bs.map V.bl))/\Q (.int (bs.count true)) H
def QF:V->List V->Hp->VK->Prop:=λx vs H Q=>∃(a:Addr) (bs:List Bool),x= .ref a/\vs=[.bl true]/\H a=some (.lst (bs.map V.bl))/\bs.contains true=true/\Q (.int (bs.idxOf true)) H
def Kz:Gb X "list.count" QE:=by
 intro f8 s σ H x vs v us Q I rx rv h;obtain⟨a,bs,rfl,rfl,hH,q⟩:=h;cases rx;obtain⟨u,rfl,r1⟩:=rv.one;cases (show u=_ from r1);obtain⟨z,aB,n,r,hl,e⟩:=I.lstM hH;obtain rfl:=nY r;refine X7 F.slot_list_count ⟨_,e,rfl⟩ F.entry_list_count (F.args_list_count_2 _ _) (list_countAt a _ n none #[] (.bool true) Km) ⟨e,Ds,?_⟩;have ec:((bs.map XB).toArray.toList.countP Km)=bs.count true:=v_ bs;rw[ec];exact⟨.int (bs.count true),H,I.tok _,⟨_,rfl⟩,q⟩
def KA:Gb X "list.index" QF:=by
 intro f8 s σ H x vs v us Q I rx rv h;obtain⟨a,bs,rfl,rfl,hH,hc,q⟩:=h;cases rx;obtain⟨u,rfl,r1⟩:=rv.one;cases (show u=_ from r1);obtain⟨z,aB,n,r,hl,e⟩:=I.lstM hH;obtain rfl:=nY r;have hm:true∈bs:=by simpa using hc
 have cN:bs.idxOf true<bs.length:=List.idxOf_lt_length_iff.mpr hm;have hz:bs.length<=VB:=by simpa using z
 have hs:VB=16777216:=Xe;refine X7 F.slot_list_index ⟨_,e,rfl⟩ F.entry_list_index (F.args_list_index_2 _ _) (list_indexAt a _ n none #[] (.bool true) Km (bs.idxOf true) (by simpa using cN) (by omega) ?_ ?_) ⟨e,Ds,?_⟩
 ·have:bs[bs.idxOf true]=true:=List.getElem_idxOf cN;simp[Km,this]
 ·intro m TH BB;have Jc:m<bs.length:=by simpa using TH
  have:bs[m]≠true:=λz=>by
   have:=abC (p:=(· ==true)) (xs:=bs) (i:=m) BB;rw[z] at this;simp at this
  simp[Km];simpa using this
 ·exact⟨.int (bs.idxOf true),H,I.tok _,⟨_,rfl⟩,q⟩
def KS(ho:PD X Xw o δo)(ha:iu X Xw [e] δs)(cU:WK o "count" X.env (eval o X.env)=eval o X.env:=by rfl)
 (fH:((W7 aO (Vs [e] X.env)).all (λx=>!x.1)&&(YA aO (Xf [] X.env)).all (λx=>x.1.isSome)&&decide ([e].length+([]:List Xb).length+(if ([]:List Xb).isEmpty then 0 else 1)<30))=true:=by rfl)
 (cV:(W1.endLine==aO.line)=true:=by rfl)(kG:Vs [e] X.env=[(false,eval e X.env)]:=by rfl):PD X Xw (.Call (.Attribute o "count" W1) [e] [] aO) (dM gz Dh δo δs):=
 m6 Xq PySem.F.slot_list_count PySem.F.type_list_count Kz oY (λXw F H x vs d ds Q s hx hv w=>by
  unfold Dh at w;split at w
  ·rename_i ds;obtain⟨v,rfl,h1⟩:=hv.one;cases (show _=_ from h1);obtain⟨a,ws,rfl,h2,h3,_⟩:=hx;split at w
   ·rename_i bs hb;exact⟨a,bs,rfl,rfl,by rw[<-jh hb h3];exact s _ _ h2,WP.now w s rfl⟩
   ·exact w.elim
  ·exact w.elim) ho ha cU fH cV kG rfl
def KU(ho:PD X Xw o δo)(ha:iu X Xw [e] δs)(cU:WK o "index" X.env (eval o X.env)=eval o X.env:=by rfl)
 (fH:((W7 aO (Vs [e] X.env)).all (λx=>!x.1)&&(YA aO (Xf [] X.env)).all (λx=>x.1.isSome)&&decide ([e].length+([]:List Xb).length+(if ([]:List Xb).isEmpty then 0 else 1)<30))=true:=by rfl)
 (cV:(W1.endLine==aO.line)=true:=by rfl)(kG:Vs [e] X.env=[(false,eval e X.env)]:=by rfl):PD X Xw (.Call (.Attribute o "index" W1) [e] [] aO) (dM gz Kg δo δs):=
 m6 Xq Y5 aaV KA oY (λXw F H x vs d ds Q s hx hv w=>by
  unfold Kg at w;split at w
  ·rename_i ds;obtain⟨v,rfl,h1⟩:=hv.one;cases (show _=_ from h1);obtain⟨a,ws,rfl,h2,h3,_⟩:=hx;split at w
   ·rename_i bs hb;split at w
    ·rename_i hc;exact⟨a,bs,rfl,rfl,by rw[<-jh hb h3];exact s _ _ h2,hc,WP.now w s rfl⟩
    ·exact w.elim
   ·exact w.elim
  ·exact w.elim) ho ha cU fH cV kG rfl
end
end L3
namespace L3
open PySem PySem.Spec L2 SeqAt HT
open PyProof.Rows hiding St
open PySem.W (Frag Looks InstAt findIn mroIn)
open PySem.Builtin PySem.Builtin.ObjectAttr PySem.Builtin.Getset_descriptor
section
variable{prog:VG}{w:World}{A:V2}{E:Value->Vf->Prop}{h:Heap}{g:Array acv}{d:Drawn}{t:Nat}{os:OsState}{x D:Addr}{ox:Obj}{K:Frag}
def yL{tp:Value}{R:ab3->Vf->Prop}(X:K.In h)(hx:h.get? x=some ox)(hc:ox.cls= .ref D)(hm:mroIn K D (.type "object")=some true)
 (hq:R (.ok (.ret (.ref D))) ⟨h,g,d,t,os⟩):YF (model prog w) A (.call (.builtin "getset_descriptor.__get__") ⟨[.builtin "object.__class__", .ref x,tp],[]⟩) R ⟨h,g,d,t,os⟩:=by
 have L0:Looks (model prog w) h (typeOf (.ref x)) (.ref D):=hc▸(Looks.ld hx).andThen .now;have L1:=aby (M:=model prog w) X hm;refine Z6 PySem.W.KF.slot_gs.plain PySem.W.KF.entry_gs (PySem.W.KF.slot_gs.check _ _ _ _ _ _ _ _ PySem.W.KF.type_class (PySem.W.KF.args_gs _ _ _) ?_);unfold X3.«getset_descriptor.__get__» descrGet;rw[PySem.W.dga_obj];refine U_ (Va ?_);unfold descrGetter descrCheckInstance descrNameAndClass isInstance;simp only[PySem.W.KF.owner_class]
 repeat lk
 refine⟨acx _ (by decide+kernel),WX PySem.W.KF.entry_class ?_⟩;unfold X3.«object.__class__» shownTypeOf
 repeat lk
 exact hq
def nA{tk:Tok}{Q:PySem.Fin->Vf->Prop}(X:K.In h)(hx:h.get? x=some ox)(hc:ox.cls= .ref D)(ha:findIn K (.ref D) "__class__"=some (some (.builtin "object.__class__")))(hm:mroIn K D (.type "object")=some true)
 (hq:Q (.done (.ret (.ref D))) ⟨h,g,d,t,os⟩):wpAny (model prog w) A (X3.«object.__getattribute__» ⟨[.ref x, .str "__class__" tk],[]⟩) Q E ⟨h,g,d,t,os⟩:=by
 have UO:(⟨h,g,d,t,os⟩:Vf).TypeIs (.builtin "object.__class__") "getset_descriptor":=acw;have f5:=acw;have f6:=F.slot_gs_get.lookup;have f7:=F.slot_gs_set.lookup;have LC:Looks (model prog w) h (Z2 (.ref D) "__class__") (some (.builtin "object.__class__")):=Zt X ha
 repeat (any_goals (first | assumption | (with_reducible refine aaP hx ?_;rw[hc]) | with_reducible refine LC.at ?_ | wp_step))
 exact yL X hx hc hm (Va hq)
def tX{M:Model}{Jl:Value}{Q:Unit->Vf->Prop}(X:K.In h)(hx:h.get? x=some ox)(hc:ox.cls= .ref D)(hb:mroIn K D (.type "BaseException")=some true)(hq:Q () ⟨h,g,d,t,os⟩):
 wpAny M A (aa9 "BaseException.__getattribute__" ⟨[.ref x,Jl],[]⟩) Q E ⟨h,g,d,t,os⟩:=by
 have hk:builtinKind "BaseException.__getattribute__"=some .slot:=by decide+kernel
 have Ke:splitId "BaseException.__getattribute__"=some ("BaseException","__getattribute__"):=by decide+kernel
 have LB:Looks M h (isSubtype (.ref D) (.type "BaseException")) true:=aby X hb;have ha:=F.args_bexc_ga (.ref x) Jl;simp only[aa9,hk,Ke];refine U_ ?_
 ·unfold isInstance
  repeat (first | (with_reducible refine aaP hx ?_;rw[hc]) | with_reducible refine LB.at ?_ | wp_step)
  exact hq
def ou{tk:Tok}{R:ab3->Vf->Prop}(X:K.In h)(hx:h.get? x=some ox)(hc:ox.cls= .ref D)(ha:findIn K (.ref D) "__class__"=some (some (.builtin "object.__class__")))(hm:mroIn K D (.type "object")=some true)(hb:mroIn K D (.type "BaseException")=some true)
 (hq:R (.ok (.ret (.ref D))) ⟨h,g,d,t,os⟩):YF (model prog w) A (.call (.builtin "BaseException.__getattribute__") ⟨[.ref x, .str "__class__" tk],[]⟩) R ⟨h,g,d,t,os⟩:=
 Z6 (by decide+kernel) F.entry_bexc_ga (tX X hx hc hb (nA X hx hc ha hm hq))
def ot{Q:Option Value->Vf->Prop}(X:K.In h)(hx:h.get? x=some ox)(hc:ox.cls= .ref D)(Te:findIn K (.ref D) "__getattribute__"=some (some (.builtin "BaseException.__getattribute__")))(Th:findIn K (.ref D) "__getattr__"=some none)
 (ha:findIn K (.ref D) "__class__"=some (some (.builtin "object.__class__")))(hm:mroIn K D (.type "object")=some true)(hb:mroIn K D (.type "BaseException")=some true)
 (hq:Q (some (.ref D)) ⟨h,g,d,t+1,os⟩):wpAny (model prog w) A (getAttr? (.ref x) "__class__") Q E ⟨h,g,d,t,os⟩:=by
 have LG:Looks (model prog w) h (Z2 (.ref D) "__getattribute__") (some (.builtin "BaseException.__getattribute__")):=Zt X Te;have LH:Looks (model prog w) h (Z2 (.ref D) "__getattr__") none:=Zt X Th;have Ue:(Yh "BaseException.__getattribute__"==Yh "object.__getattribute__")=false:=by decide+kernel
 have U7:(onTheHeap (VQ D)&&Yh "BaseException.__getattribute__"==Yh "object.__getattribute__")=false:=by rw[Ue];rfl
 have f3:=PySem.F.excAttr_ValueError.ga.bind (.ref x);unfold getAttr? getAttrBy?
 repeat (any_goals (first | assumption | (with_reducible refine aaP hx ?_;rw[hc]) | with_reducible refine LG.at ?_ | with_reducible refine LH.at ?_ | wp_step))
 refine ou X hx hc ha hm hb ?_
 repeat (any_goals (first | assumption | wp_step))
structure ExcC (K:Frag) (D:Addr):Prop where
 ga:findIn K (.ref D) "__getattribute__"=some (some (.builtin "BaseException.__getattribute__"))
 gt:findIn K (.ref D) "__getattr__"=some none
 ca:findIn K (.ref D) "__class__"=some (some (.builtin "object.__class__"))
 mo:mroIn K D (.type "object")=some true
 mb:mroIn K D (.type "BaseException")=some true
 cl:(Y4 K D).isSome=true
def wN(c:ExcC K D):PySem.W.KitX K (.ref x) (.ref D) (λh=>∃ox,h.get? x=some ox/\ox.cls= .ref D) where
 ty:=λ_ _ _ ⟨_,hx,hc⟩=>hc▸(Looks.ld hx).andThen .now
 it:=λ_ _ X _=>by
  obtain⟨Sj,JZ⟩:=Wm.mp c.cl;unfold Y4 at JZ;split at JZ
  ·rename_i c' d' Si Im ho;intro A' Q' E' s' k q;unfold isType loadHead;exact U_ (wpAny_loadPart (k _ _ (X _ _ ho)) (Va q))
  ·cases JZ
 ne:=λh tp dd aB n sl X T_=>by
  obtain⟨Sj,JZ⟩:=Wm.mp c.cl;refine aah.mpr λq=>?_;have e:D=tp:=ack (beq_iff_eq.mp q);subst e;unfold Y4 at JZ;split at JZ
  ·rename_i c' d' Si Im ho;have z:=(X _ _ ho).symm.trans T_;cases z
  ·cases JZ
 ca:=λ{_ _ _ _ _ s} X ⟨_,hx,hc⟩ k=>by
  obtain⟨hh,g,d,t,os⟩:=s;exact ot X hx hc c.ga c.gt c.ca c.mo c.mb k
end
section
variable{X:Cx}{Xw:Nat->Hp->Prop}{e e2:Expr}{δs:DA}{pos p:Pos}
def QG(K:Frag):List V->Hp->VK->Prop:=λxs H Q=>∃ea C D b,xs=[.ref ea, .ref D]/\H ea=some (Jx ea C)/\ExcC K C/\VE K (.ref C) (.ref D)=some b/\Q (.bl b) H
def NT(K:Frag):List V->Hp->VK->Prop:=λxs H Q=>∃ea C T b,xs=[.ref ea, .ty T]/\H ea=some (Jx ea C)/\ExcC K C/\VE K (.ref C) (.type T)=some b/\Q (.bl b) H
def De:CallR X (.builtin "isinstance") (QG X.K):=by
 intro f8 s σ H xs us Q I r h;obtain⟨ea,C,D,b,rfl,hH,hc,e,q⟩:=h;obtain⟨u,w',rfl,r1,r2⟩:=vals2 r;cases (show u=_ from r1);cases (show w'=_ from r2);obtain⟨hx,_,_⟩:=I.hok ea _ hH;exact Wn (wN hc) I.kIn hx e (λz=>nomatch z) λtk=>⟨.bl b,H,I.tok tk,rfl,q⟩
def Bc:CallR X (.builtin "isinstance") (NT X.K):=by
 intro f8 s σ H xs us Q I r h;obtain⟨ea,C,D,b,rfl,hH,hc,e,q⟩:=h;obtain⟨u,w',rfl,r1,r2⟩:=vals2 r;cases (show u=_ from r1);cases (show w'=_ from r2);obtain⟨hx,_,_⟩:=I.hok ea _ hH;exact Wn (wN hc) I.kIn hx e (λz=>nomatch z) λtk=>⟨.bl b,H,I.tok tk,rfl,q⟩
def nH(K:Frag)(cs:List Addr):List D->M D
 |[.exc C, .raw (.ref D)]=>if C∈cs then(match VE K (.ref C) (.ref D) with | some b=>aa (.bl b) | none=>ag) else ag
 |[.exc C, .raw (.ty T)]=>if C∈cs then(match VE K (.ref C) (.type T) with | some b=>aa (.bl b) | none=>ag) else ag
 |_=>ag
def iW{cs:List Addr}(J1:∀C∈cs,ExcC X.K C)(hg:Gl X "isinstance")(hm:X.mg "isinstance"=none)(hb:V4 "isinstance"=some (.builtin "isinstance"))(ha:iu X Xw [e,e2] δs)(he:Vs [e,e2] X.env=(false,eval e X.env)::Vs [e2] X.env:=by rfl)
 (iz:(W7 pos (Vs [e2] X.env)).any (·.1)=false:=by rfl):PD X Xw (.Call (.Name "isinstance" p) [e,e2] [] pos) (dA (nH X.K cs) δs):=
 dZ (De.or Bc) (λXw F H vs ds Q s h w=>by
  unfold nH at w;split at w
  ·rename_i C D;obtain⟨v,v',rfl,h1,h2⟩:=h.two;cases (show _=_ from h2);obtain⟨ea,rfl,h3⟩:=h1;split at w
   ·rename_i hC;split at w
    ·rename_i b hb;exact .inl ⟨ea,C,D,b,rfl,s _ _ h3,J1 C hC,hb,WP.now w s rfl⟩
    ·exact w.elim
   ·exact w.elim
  ·rename_i C T;obtain⟨v,v',rfl,h1,h2⟩:=h.two;cases (show _=_ from h2);obtain⟨ea,rfl,h3⟩:=h1;split at w
   ·rename_i hC;split at w
    ·rename_i b hb;exact .inr ⟨ea,C,T,b,rfl,s _ _ h3,J1 C hC,hb,WP.now w s rfl⟩
    ·exact w.elim
   ·exact w.elim
  ·exact w.elim) hg hm hb ha (by decide) (by decide) he iz
end
end L3
namespace L3
open PySem PySem.Spec L2 SeqAt HT
open PyProof.Rows hiding St
open PySem.W (Frag Looks findIn mroIn)
def ug{ea C:Addr}{h1 h2:Heap}(x:z4 h1 ea C)(k:∀o,h1.get? ea=some o->h2.get? ea=some o):z4 h2 ea C:=
 let ⟨ox,a,b⟩:=x
 ⟨ox,k ox a,b⟩
def Ls(τ:DS)(hd:Nat->M D):DS:=λρ=>match τ ρ with
 |some (.ex n)=>hd n>>=λd=>aa (.rt d)
 |r=>r
abbrev oU(X:Cx)(pn:List (Addr×Obj))(E:Value->Vf->Prop):Cx:={X with pn:=pn,xe:=E}
abbrev jl(X:Cx)(ea:Addr)(E:Value->Vf->Prop):Cx:={X with A:=X.A.mark (some (.ref ea)),calm:=false,xe:=E}
section
variable{X:Cx}{f8 pn:List (Addr×Obj)}{σ:St}{H:Hp}{s:Vf}{E:Value->Vf->Prop}{ea:Addr}
def EE(ok:X.Ok):(oU X pn E).Ok:=⟨ok.mod,ok.kind,ok.glob,ok.blt,ok.above,ok.inj,ok.has,ok.cab,ok.hd,ok.frames,ok.stk,ok.exf,ok.bs,ok.bsz,ok.noex,ok.exfs,ok.funs,ok.frf⟩
def BG(I:Inv X f8 σ H s)(hp:X.pn=[]):Inv (oU X f8 E) [] σ H s:=
 ⟨EE I.ok,I.os,I.bare,I.base,I.loc,I.cell,I.free,I.freeC,λp q=>I.pin p (by rw[hp];rw[V7] at q;exact q),I.hok,I.len⟩
def B8(ok:(oU X pn E).Ok):X.Ok:=⟨ok.mod,ok.kind,ok.glob,ok.blt,ok.above,ok.inj,ok.has,ok.cab,ok.hd,ok.frames,ok.stk,ok.exf,ok.bs,ok.bsz,ok.noex,ok.exfs,ok.funs,ok.frf⟩
def fJ{xE:List (Addr×Obj)}(I:Inv (oU X f8 E) xE σ H s)(hp:X.pn=[]):Inv X f8 σ H s:=
 ⟨B8 I.ok,I.os,I.bare,I.base,I.loc,I.cell,I.free,I.freeC,λp q=>I.pin p (by rw[hp] at q;exact WZ _ q),I.hok,I.len⟩
def iG(I:Inv X f8 σ H s):Inv (jl X ea E) f8 σ H s:=
 ⟨⟨I.ok.mod,I.ok.kind,I.ok.glob,I.ok.blt,I.ok.above,I.ok.inj,I.ok.has,I.ok.cab,λz=>(by cases z),I.ok.frames,I.ok.stk,I.ok.exf,I.ok.bs,I.ok.bsz,I.ok.noex,I.ok.exfs,I.ok.funs,I.ok.frf⟩,I.os,I.bare,I.base,I.loc,I.cell,I.free,I.freeC,I.pin,I.hok,I.len⟩
def uf(I:Inv (jl X ea E) f8 σ H s)(hd:X.calm=true->X.A.handled=none)(CK:X.A.frames=some X.stack):Inv X f8 σ H s:=
 ⟨⟨I.ok.mod,I.ok.kind,I.ok.glob,I.ok.blt,I.ok.above,I.ok.inj,I.ok.has,I.ok.cab,hd,CK,I.ok.stk,I.ok.exf,I.ok.bs,I.ok.bsz,I.ok.noex,I.ok.exfs,I.ok.funs,I.ok.frf⟩,I.os,I.bare,I.base,I.loc,I.cell,I.free,I.freeC,I.pin,I.hok,I.len⟩
def y0{h':Heap}{m':Str->Option Value}{tk:Nat}(I:Inv X f8 σ H s)(ud:WQ X.env.locals s.heap h')(hn:h'.Ns X.env.locals m'):Inv X f8 (σ.map λ_=>none) H {s with heap:=h',toks:=tk}:=by
 have L5:∀b o,X.acT.heap.get? b=some o->b≠X.env.locals:=λb o e=>VH (VW (Vr e) I.ok.above);refine⟨I.ok,I.os,I.bare,⟨λb o e n hb hx=>?_,λb o e n hb hx=>?_,I.base.free,λb o e hx=>?_,I.base.tups,I.base.frzs,I.base.tbls⟩,⟨m',hn,λi x v h1 h2 h3=>?_⟩,λx c e=>?_,I.free,I.freeC,λp hp=>?_,xR I.hok ud I.free,by rw[Vb];exact I.len⟩
 ·exact(ud.2 b (L5 b o e)).trans (I.base.keep b o e n hb hx)
 ·obtain⟨sl,q⟩:=I.base.slot b o e n hb hx;exact⟨sl,(ud.2 b (L5 b o e)).trans q⟩
 ·obtain⟨o',q⟩:=I.base.there b o e hx;exact⟨o',(ud.2 b (L5 b o e)).trans q⟩
 ·rw[Vz] at h2;cases q:σ[i]? with
  |none=>rw[q] at h2;cases h2
  |some z=>rw[q] at h2;cases h2
 ·obtain⟨v,q⟩:=I.cell x c e;exact⟨v,q.sameBut ud (I.cne x c e)⟩
 ·obtain⟨e,n,ne,nf,d⟩:=I.pin p hp;exact⟨(ud.2 p.1 ne).trans e,n,ne,nf,d⟩
def BH{a:Addr}{o:HO}(I:Inv X f8 σ H s)(hn:H a=none)(h0:X.acT.heap.get? a=none)(hl:a≠X.env.locals)(hc:∀x c,X.env.cells.lookup x=some c->c≠a)(hp:∀p∈X.pn++f8,p.1≠a)(ho:ObjOk X.prog X.w (upd H a o) s.heap a o):
 Inv X f8 σ (upd H a o) s:=by
 have ne:∀b u,H b=some u->b≠a:=λb u e=>a_ e hn;have Ur:∀b u,X.acT.heap.get? b=some u->b≠a:=λb u e z=>by rw[z,h0] at e;cases e
 refine⟨I.ok,I.os,I.bare,⟨I.base.keep,I.base.slot,λb u e n hx=>?_,I.base.there,λb xs e=>?_,λb u xs e=>?_,λb ps e=>?_⟩,I.loc,I.cell,?_,λx c e=>?_,λp q=>?_,λb u e=>?_,I.len⟩
 ·rw[av (Ur b u e)];exact I.base.free b u e n hx
 ·have q:=I.base.tups b xs e;rw[av (ne b _ q)];exact q
 ·have q:=I.base.frzs b u xs e;rw[av (ne b _ q)];exact q
 ·obtain⟨more,q⟩:=I.base.tbls b ps e;exact⟨more,by rw[av (ne b _ q)];exact q⟩
 ·rw[av (Wv hl)];exact I.free
 ·rw[av (hc x c e)];exact I.freeC x c e
 ·obtain⟨e,n,r1,r2,d⟩:=I.pin p q;exact⟨e,by rw[av (hp p q)];exact n,r1,r2,d⟩
 ·by_cases hb:b=a
  ·subst hb;rw[aD] at e;cases e;exact ho
  ·rw[av hb] at e;exact(I.hok b u e).stay (λ_ _ _ q=>q) (λc q=>by rw[av (ne c _ q)];exact q) λc xs q=>by rw[av (ne c _ q)];exact q
end
section
variable{P:VG}{w:World}{K:Vn}{mg:Str->Option Value}{base:Heap}{N:List Str}{qual:Str}{scope:Scope}{f:Addr}{cd:Value}{A:V2}{outer:List Env}{acT:Vf}{acS:Hp}{E:XK}{cv:Nat->Value}
def HY{Xw:Nat->Hp->Prop}{body FO:List Stmt}{b₀:Stmt}{x n:Str}{np M3 pos:Pos}{i:Nat}{Cp:Addr}{τb τh:DS}{hd:Nat->M D}{cA:Nat->Addr}
 (MG:∀k,cv k= .ref (cA k))(hN:(aZ (cQ P w cv) P w K mg base N qual scope f cd A outer acT acS E).N.Nodup)(hi:(aZ (cQ P w cv) P w K mg base N qual scope f cd A outer acT acS E).N[i]? =some n)(yY:(aZ (cQ P w cv) P w K mg base N qual scope f cd A outer acT acS E).env.scope.names.lookup n=some .local)(hg:Gl (aZ (cQ P w cv) P w K mg base N qual scope f cd A outer acT acS E) x)(hm:mg x=some (.ref Cp))(hex:∀k,YQ K (cv k) (.ref Cp)=some true)
 (hb:∀(pn:List (Addr×Obj)) (Ec:Value->Vf->Prop) (Xw':Nat->Hp->Prop),Passes (cQ P w cv) (oU (aZ (cQ P w cv) P w K mg base N qual scope f cd A outer acT acS E) pn Ec) (EX cv Xw')->PSDs (oU (aZ (cQ P w cv) P w K mg base N qual scope f cd A outer acT acS E) pn Ec) Xw' body τb)
 (hs:∀ea,PSDs (jl (aZ (cQ P w cv) P w K mg base N qual scope f cd A outer acT acS E) ea λ_ _=>False) (λ_ _=>False) (b₀::FO) τh)(hh:∀(k:Nat) (ρ:aQ),ρ.length=N.length->ρ[i]? =some (some (.fz (.exc (cA k))))->τh ρ=(hd k>>=λd=>aa (.rt d)))
 (kE:(x==("__debug__":Str))=false:=by decide):
 iy (aZ (cQ P w cv) P w K mg base N qual scope f cd A outer acT acS E) Xw (.Try body [.ExceptHandler (some (.Name x np)) (some n) (b₀::FO) M3] [] [] pos) (Ls τb λk=>noex (hd k)):=λG₀ J₀ f8 s σ H D I ⟨F,ρ,S,wq⟩=>by
 have ue:gf (aZ (cQ P w cv) P w K mg base N qual scope f cd A outer acT acS E).stack=acT.heap.objs.size::gf outer:=rfl;have pass:Passes (cQ P w cv) (oU (aZ (cQ P w cv) P w K mg base N qual scope f cd A outer acT acS E) f8 λe v6=>wpAny (model P w) (aZ (cQ P w cv) P w K mg base N qual scope f cd A outer acT acS E).A (noteFrame e (aZ (cQ P w cv) P w K mg base N qual scope f cd A outer acT acS E).env) (λ_ v4=>wpAny (model P w) (aZ (cQ P w cv) P w K mg base N qual scope f cd A outer acT acS E).A (setFlight e none) (λ_ s₃=>wpAny (model P w) (aZ (cQ P w cv) P w K mg base N qual scope f cd A outer acT acS E).A (handleBy e (aZ (cQ P w cv) P w K mg base N qual scope f cd A outer acT acS E).env [.ExceptHandler (some (.Name x np)) (some n) (b₀::FO) M3]) (SP (aZ (cQ P w cv) P w K mg base N qual scope f cd A outer acT acS E) f8 D) (aZ (cQ P w cv) P w K mg base N qual scope f cd A outer acT acS E).xe s₃) (aZ (cQ P w cv) P w K mg base N qual scope f cd A outer acT acS E).xe v4) (aZ (cQ P w cv) P w K mg base N qual scope f cd A outer acT acS E).xe v6)
  (EX cv λk H'=>∃F',Ext G₀ J₀ F' H'/\WPS K Xw G₀ J₀ (noex (hd k)>>=λd=>aa (.rt d)) D):=by
  intro xE σ' H1 s1 e s' I1 ⟨ea,nn,a0,B,H',he,BD,Tf,hok,un,Bs,hB,m,PH,F',ext',w'⟩;subst he;have CK:∀b∈gf (aZ (cQ P w cv) P w K mg base N qual scope f cd A outer acT acS E).stack,H' b=none:=λb hb=>by
   obtain⟨_,o,ho,_⟩:=I1.stack.mem hb;exact un.free b o ho (I1.stkFree b hb) (by simp)
  have O5:ea∉gf (aZ (cQ P w cv) P w K mg base N qual scope f cd A outer acT acS E).stack:=λhb=>by
   obtain⟨_,o,ho,nQ⟩:=Bs.2.2.1.mem hb;obtain⟨oe,vs,q1,_,q2,_⟩:=Bs.first;rw[q1] at ho;cases ho;exact nQ vs q2
  have Rk:B.get? ea=none:=Bs.2.1;have lS:s1.heap.get? ea=none:=by
   cases q:s1.heap.get? ea with
   |none=>rfl
   |some o=>
    obtain⟨ob,h1,_⟩:=Bs.there;have:=hB ea ob h1 (.inr (by rw[q];rfl)) O5;rw[Rk] at this;cases this
  have Rn:H' ea=none:=by
   cases q:H' ea with
   |none=>rfl
   |some u=>
    obtain⟨ob,h1,_⟩:=Bs.there;have:=hB ea ob h1 (.inl (by rw[q];exact λz=>nomatch z)) O5;rw[Rk] at this;cases this
  have Jh:∀h₅,B.StaysIn h₅->s'.heap.UpToSlots h₅->Inv (aZ (cQ P w cv) P w K mg base N qual scope f cd A outer acT acS E) f8 σ' H' {s' with heap:=h₅}:=λh₅ st ups=>by
   have kH:∀b o,s'.heap.get? b=some o->b∉gf (aZ (cQ P w cv) P w K mg base N qual scope f cd A outer acT acS E).stack->(H' b≠none\/(s1.heap.get? b).isSome=true)->h₅.get? b=some o:=λb o e hb hc=>st b o (hB b o e hc hb);have UI:Un (gf (aZ (cQ P w cv) P w K mg base N qual scope f cd A outer acT acS E).stack) [] H1 H' s1.heap h₅:=vB un (λb o e hb hc=>kH b o e hb hc) (λb o e hb=>by
    obtain⟨_,o',kF,nQ⟩:=Bs.2.2.1.mem hb;rw[e] at kF;cases kF;exact ups b o e nQ)
   have PU:HOk P w H' h₅:=oQ hok CK λb o e hb hc=>kH b o e hb (.inl hc);exact fJ (I1.call' (s':={s' with heap:=h₅}) (ch:=[]) BD UI PU Tf (λb hb=>acK hb (by simp))) rfl
  show wpAny (model P w) (aZ (cQ P w cv) P w K mg base N qual scope f cd A outer acT acS E).A (noteFrame (.ref ea) (aZ (cQ P w cv) P w K mg base N qual scope f cd A outer acT acS E).env) _ _ s';refine wpAny_looks_onW (base:=B) (outer:=outer) (L:=acT.heap.objs.size) I1.ok.frames rfl Bs λh₄ MM Od=>?_;refine wpAny_landsW MM λh₅ JP Oe=>?_;have J5:=Jh h₅ JP.1 (Od.trans Oe);have M5:Inv (jl (aZ (cQ P w cv) P w K mg base N qual scope f cd A outer acT acS E) ea λ_ _=>False) f8 σ' H' {s' with heap:=h₅}:=iG J5;refine wpAny_handleBy_cons (codeAny_handlers_test (kI M5 hg hm ?_ kE)) (by intro q;cases q);have LT:Looks (model P w) h₅ (typeOf (.ref ea)) (cv nn):=by
   obtain⟨ob,h1,h2⟩:=JP.there;exact h2▸(Looks.ld h1).andThen .now
  refine(PySem.W.exm_one M5.kIn LT (hex nn)).here ?_;refine codeAny_handlers_suite_as ?_;refine lands_againW JP λh₆ Ms QY=>?_;have J6:=Jh h₆ Ms.1 ((Od.trans Oe).trans QY);have M6:Inv (jl (aZ (cQ P w cv) P w K mg base N qual scope f cd A outer acT acS E) ea λ_ _=>False) f8 σ' H' {s' with heap:=h₆}:=iG J6;have B4:ea≠(aZ (cQ P w cv) P w K mg base N qual scope f cd A outer acT acS E).env.locals:=λz=>O5 (by rw[ue,z];exact Ve);have Jm:∀y c,(aZ (cQ P w cv) P w K mg base N qual scope f cd A outer acT acS E).env.cells.lookup y=some c->c≠ea:=λy c q z=>by
   obtain⟨v,o,ho,_⟩:=I1.cell y c q;rw[z,lS] at ho;cases ho
  refine mi J6 hN hi (.inl yY) (v:= .ref ea) rfl (λs7 I7 ⟨a,sb,ha⟩=>?_) (.inr yY);have ML:z4 s7.heap ea (cA nn):=by
   obtain⟨ob,h1,h2⟩:=Ms.there;refine⟨ob,(sb.2 ea ?_).trans h1,by rw[h2,MG]⟩;rcases ha with z | z
   ·rw[z];exact B4
   ·exact Wv (Jm n a z)
  have h0:acT.heap.get? ea=none:=by
   cases q:acT.heap.get? ea with
   |none=>rfl
   |some o=>
    obtain⟨o',q'⟩:=I1.base.there ea o q (λz=>acK (show ea∈([]:List Addr) from z) (by simp));rw[lS] at q';cases q'
  have I8:Inv (jl (aZ (cQ P w cv) P w K mg base N qual scope f cd A outer acT acS E) ea λ_ _=>False) f8 (σ'.set i (some (.ref ea))) (upd H' ea (Jx ea (cA nn))) s7:=
   BH (iG I7) Rn h0 B4 Jm (λp q z=>by
    have hp:=I1.pin p (WZ _ (show p∈f8 from q));rw[z,lS] at hp;cases hp.1) ⟨ML,(by obtain⟨ox,h1,_⟩:=ML;exact⟨ox,h1⟩),λh1 h2 hx k=>ug hx k⟩
  have M2:σ'.length=N.length:=I1.len;have LV:i<σ'.length:=by rw[M2];exact(Vt.mp hi).1
  have eL:=Ext.lay (o:=Jx ea (cA nn)) ext'.fh Rn;have hρ:((Vx σ'.length none).set i (some (Sl.fz (.exc (cA nn)))))[i]? =some (some (.fz (.exc (cA nn)))):=VF (by simpa using LV);have only:∀(j:Nat) (sl:Sl),((Vx σ'.length (none:Option Sl)).set i (some (Sl.fz (.exc (cA nn)))))[j]? =some (some sl)->j=i/\sl= .fz (.exc (cA nn)):=λj sl e=>by
   by_cases hj:j=i
   ·subst hj;rw[hρ] at e;cases e;exact⟨rfl,rfl⟩
   ·rw[Vy (Wv hj),WH] at e;split at e<;>cases e
  have S8:StOk K G₀ J₀ (upd F' ea (Jx ea (cA nn))) (upd H' ea (Jx ea (cA nn))) (σ'.set i (some (.ref ea))) ((Vx σ'.length none).set i (some (.fz (.exc (cA nn))))):=by
   refine⟨ext'.trans eL,⟨eL.fh,λj sl e=>?_⟩,by simp,λj c a e=>?_,λj k c c' a e=>?_⟩
   ·obtain⟨rfl,rfl⟩:=only j sl e;exact⟨.ref ea,VF LV,ea,rfl,aD⟩
   ·obtain⟨_,z⟩:=only j _ e;cases z
   ·obtain⟨_,z⟩:=only j _ e;cases z
  have SX:cA m=cA nn:=by
   have:=PH;rw[MG,MG] at this;exact(ack this).symm
  have w8:WPS K (λ_ _=>False) G₀ J₀ (τh ((Vx σ'.length none).set i (some (.fz (.exc (cA nn)))))) {nx:=λ_ _=>False,rt:=D.rt}:=by
   rw[hh m _ (by simpa using M2) (by rw[SX];exact hρ)];rcases(hd m).cs with q | ⟨k,q⟩ | ⟨d,q⟩
   ·rw[q] at w';exact w'.elim
   ·rw[q] at w';exact w'.elim
   ·rw[q] at w'⊢;exact w'
  refine Wl (hs ea G₀ J₀ f8 s7 _ _ {nx:=λ_ _=>False,rt:=D.rt} I8 ⟨_,_,S8,w8⟩) (λfl s8 q8=>?_) λ_ _ z=>z.elim;cases fl with
  |next=>obtain⟨_,_,_,z⟩:=q8;exact z.elim
  |brk=>obtain⟨_,_,_,z⟩:=q8;exact z.elim
  |cont=>obtain⟨_,_,_,z⟩:=q8;exact z.elim
  |ret u=>
   obtain⟨v,σ9,H9,I9,rv,q9⟩:=q8;have I10:Inv (aZ (cQ P w cv) P w K mg base N qual scope f cd A outer acT acS E) f8 σ9 H9 s8:=uf I9 J5.ok.hd J5.ok.frames;obtain⟨mm,OE,_⟩:=I10.loc;exact wpAny_nameGoes yY OE (by rw[show (aZ (cQ P w cv) P w K mg base N qual scope f cd A outer acT acS E).env.scope.kind= .function from I10.ok.kind];rfl) λh' m' G0 ud=>⟨v,_,H9,y0 I10 ud G0,rv,q9⟩
 have wb:WPS K (λk H'=>∃F',Ext G₀ J₀ F' H'/\WPS K Xw G₀ J₀ (noex (hd k)>>=λd=>aa (.rt d)) D) G₀ J₀ (τb ρ) D:=by
  unfold Ls at wq
  match τb ρ,wq with
  |none,wq=>exact wq
  |some (.ok (.nx ρ')),wq=>exact wq
  |some (.ok (.rt d)),wq=>exact wq
  |some (.ex k),wq=>exact λF' H' e=>⟨F',e,wq⟩
 refine wpAny_Try_except (Wl (hb f8 _ _ pass G₀ J₀ [] s σ H D (BG I rfl) ⟨F,ρ,S,wb⟩) (λfl s1 q1=>?_) λ_ _ z=>z);cases fl with
 |next=>obtain⟨σ1,H1,I1,q⟩:=q1;exact Yy ⟨σ1,H1,fJ I1 rfl,q⟩
 |brk=>obtain⟨σ1,H1,I1,q⟩:=q1;exact⟨σ1,H1,fJ I1 rfl,q⟩
 |cont=>obtain⟨σ1,H1,I1,q⟩:=q1;exact⟨σ1,H1,fJ I1 rfl,q⟩
 |ret u=>obtain⟨v,σ1,H1,I1,r,q⟩:=q1;exact⟨v,σ1,H1,fJ I1 rfl,r,q⟩
end
end L3
namespace L3
open PySem PySem.Spec L2 SeqAt HT
open PyProof.Rows hiding St
structure RoomH (k:Nat) (A:V2):Prop where
 dp:A.depth+3*k+5<aae
 un:A.units+16*k+200<cLine
def RoomH.deeper{k:Nat}{A:V2}(r:RoomH (k+1) A)(env:Env):RoomH k (A.deeper env):=
 ⟨by have:=r.dp;show A.depth+1+3*k+5<_;omega,by have:=r.un;show A.units+3+16*k+200<_;omega⟩
def RoomH.of{k:Nat}{A:V2}(r:Room k A)(v:Option Value):RoomH k (A.mark v):=⟨r.dp,r.un⟩
def RoomH.units{k:Nat}{A:V2}(r:RoomH k A):A.units+64<cLine:=by have:=r.un;omega
structure FnOkH (P:VG) (w:World) (K:Vn) (mg:Str->Option Value) (base:Heap) (k:Nat) (f:Addr) (fd:Xv) (ps:List Str) (sp:Sp):Prop where
 len:∀vs H Q E,sp vs H Q E->vs.length=ps.length
 run:∀(A:V2) (outer:List Env) (s:Vf) (H:Hp) (args:Args) (us:List Value) (vs:List V) (Q:VK) (E:XK),RoomH k A->Env0 P w K mg base A outer s H->abF s fd args (ps.zip us)->Vals vs us->sp vs H Q E->
  YF (model P w) A (.call (.ref f) args) (CR Ma outer P w H s Q E) s
abbrev rE(P:VG)(w:World)(K:Vn)(mg:Str->Option Value)(base:Heap)(N:List Str)(qual:Str)(scope:Scope)(f:Addr)(cd:Value)(A:V2)(outer:List Env)(s:Vf)(H:Hp):Cx:=
 {aZ Ma P w K mg base N qual scope f cd A outer s H E0 with calm:=false,xe:=λ_ _=>False}
def y6{P:VG}{w:World}{K:Vn}{mg:Str->Option Value}{base:Heap}{N ps:List Str}{qual:Str}{scope:Scope}{f:Addr}{cd:Value}{A:V2}{outer:List Env}{s s1:Vf}{H:Hp}{us:List Value}{vs:List V}
 (S:FnScope N ps scope)(e0:Env0 P w K mg base A outer s H)(hl:vs.length=ps.length)(r:Vals vs us)
 (x:InCallC s s.heap.objs.size (bindL (XD qual scope s.heap.objs.size f cd).kindOf (ps.zip us) λ_=>none) (abv (s.heap.objs.size+1) scope.names []) (bindC (XD qual scope s.heap.objs.size f cd).kindOf (ps.zip us) λ_=>none) s1):
 Inv (rE P w K mg base N qual scope f cd A outer s H) [] (L2.start N vs) H s1:=by
 have e1:Env0 P w K mg base {A with handled:=none} outer s H:=⟨e0.frames,e0.mod,e0.bs,e0.bsz,e0.funs,e0.frf,e0.hok,e0.bare⟩
 have J:=rZ (CX:=Ma) (E:=E0) (A:={A with handled:=none}) S rfl e1 hl r x;exact⟨⟨J.ok.mod,J.ok.kind,J.ok.glob,J.ok.blt,J.ok.above,J.ok.inj,J.ok.has,J.ok.cab,λz=>(by cases z),abG e0.frames,J.ok.stk,J.ok.exf,J.ok.bs,J.ok.bsz,J.ok.noex,J.ok.exfs,J.ok.funs,J.ok.frf⟩,J.os,J.bare,J.base,J.loc,J.cell,J.free,J.freeC,J.pin,J.hok,J.len⟩
def JQ{P:VG}{w:World}{K:Vn}{mg:Str->Option Value}{base:Heap}{k:Nat}{f:Addr}{name qual:Str}{params:Arguments}{body:List Stmt}{scope:Scope}{dV kV doc pm cx ct oc:Value}{an od:Option Addr}
 {CM:Array (Option Value)}{N ps:List Str}{sp:Sp}(lk:K.lookup f=some ⟨oc,od, .func (WC name qual params body scope dV kV doc pm an cx ct),CM⟩)(rS:XZ K cx qual=true)(S:FnScope N ps scope)
 (len:∀vs H Q E,sp vs H Q E->vs.length=ps.length)
 (gx:∀(A:V2) (outer:List Env) (s:Vf) (H:Hp) (vs:List V) (Q:VK) (E:XK),RoomH k (A.deeper (XD qual scope s.heap.objs.size f cx))->sp vs H Q E->
  ∃t,PSs (rE P w K mg base N qual scope f cx A outer s H) body t/\t {nx:=λ_ H'=>Q .non H',rt:=Q} (L2.start N vs) H):
 FnOkH P w K mg base (k+1) f (WC name qual params body scope dV kV doc pm an cx ct) ps sp:=by
 refine⟨len,λA outer s H args us vs Q E hr e0 hb r vN=>?_⟩;have hl:=len _ _ _ _ vN;have KX:K.In s.heap:=e0.mod.kin.keeps λb o e=>(e0.bs b o e).1;have lim:s.heap.NoLimit:=e0.mod.nolimit.keeps λb o e=>(e0.bs b o e).1;have DR:∀y∈ps.zip us,scope.names.lookup y.1=some .local\/(scope.names.lookup y.1=some .cell/\((abv (s.heap.objs.size+1) scope.names []).lookup y.1).isSome=true):=λ⟨n,v⟩ hy=>by
  rcases S.par n (Zy hy).1 with q | q
  ·exact .inl q
  ·exact .inr ⟨q,Y_ _ _ _ (.inl q)⟩
 have Pl:A.depth<aae:=by have:=hr.dp;omega
 refine codeAny_call_function Pl (KX _ _ lk) rfl S.co S.gen rfl (abJ KX rS) (hb _ _ _ _ ?_);refine abH S.kind DR λenv he s1 x=>?_;subst he;refine⟨lim.keeps x.toInCall.keep,codeAny_func ?_⟩;obtain⟨t,ht,hq⟩:=gx A outer s H vs Q E (hr.deeper _) vN;have I:Inv (rE P w K mg base N qual scope f cx A outer s H) [] (L2.start N vs) H s1:=y6 S e0 hl r x;refine Wl (ht [] s1 (L2.start N vs) H _ I hq) (λfl s' hs=>?_) λe s' hs=>hs.elim;have fin:∀{σ':St}{H':Hp}{v:V}{u:Value},Inv (rE P w K mg base N qual scope f cx A outer s H) [] σ' H' s'->RelV v u->Q v H'->CE outer P w H s Q u s':=
  λ{σ' H' v u} J rv q=>⟨v,H',J.os,J.bare,J.base,J.hok,rv,q⟩
 cases fl with
 |ret u=>
  obtain⟨v,σ',H',J,rv,q⟩:=hs;exact fin J rv q
 |next=>
  obtain⟨σ',H',J,q⟩:=hs;exact fin (v:=V.non) (u:=Wi) J rfl q
 |brk=>
  obtain⟨_,_,_,q⟩:=hs;exact WM q
 |cont=>
  obtain⟨_,_,_,q⟩:=hs;exact WM q
def FN{K:Vn}{F H:Hp}{N:List Str}{ds:List D}{vs:List V}(fh:Same F H)(hd:DenL K F ds vs):StOk K F H F H (L2.start N vs) (ds.map (λd=>some (Sl.fz d))++Vx (N.length - ds.length) none):=by
 have M2:=hd.len;have get:∀(i:Nat) (sl:Sl),(ds.map (λd=>some (Sl.fz d))++Vx (N.length - ds.length) none)[i]? =some (some sl)->∃d,ds[i]? =some d/\sl= .fz d:=λi sl e=>by
  by_cases hi:i<ds.length
  ·rw[VZ (by simpa using hi),Vz] at e;cases q:ds[i]? with
   |none=>rw[q] at e;cases e
   |some d=>rw[q] at e;cases e;exact⟨d,rfl,rfl⟩
  ·rw[V9 (by simpa using hi),WH] at e;split at e<;>cases e
 refine⟨Ext.refl fh,⟨fh,λi sl e=>?_⟩,?_,λi c a e=>?_,λi j c c' a e=>?_⟩
 ·obtain⟨d,q,rfl⟩:=get i sl e;obtain⟨v,e1,e2⟩:=hd.get q;have hi:=(Vt.mp q).1;refine⟨v,?_,e2⟩;unfold L2.start;rw[VZ (by simp;omega),Vz,e1];rfl
 ·unfold L2.start;simp[M2]
 ·obtain⟨d,_,z⟩:=get i _ e;cases z
 ·obtain⟨d,_,z⟩:=get i _ e;cases z
section
variable{P:VG}{w:World}{K:Vn}{mg:Str->Option Value}{base:Heap}{cv:Nat->Value}
def Mu{x qual:Str}{st:Stmt}{f:Addr}{fd:Xv}{N ps:List Str}{k:Nat}{τ:DS}(Fn:Fun K x qual st f fd)(S:FnScope N ps (ai st))
 (gx:∀(cx:Value) (A:V2) (outer:List Env) (s:Vf) (H:Hp),RoomH k (A.deeper (XD qual (ai st) s.heap.objs.size f cx))->
  PSDs (rE P w K mg base N qual (ai st) f cx A outer s H) (λ_ _=>False) (bc st) τ):FnOkH P w K mg base (k+1) f fd ps (Gp K cv ps.length λds=>noex (bY N.length τ ds)):=by
 obtain⟨oc,od,kV,doc,pm,an,cx,ct,CM,rfl,lk,rS⟩:=Fn.ex;refine JQ lk rS S (λvs H Q E ⟨_,_,_,_,hl,_⟩=>hl) λA outer s H vs Q E hr vN=>?_;obtain⟨F,ds,fh,hd,hl,hw⟩:=vN;refine⟨_,gx cx A outer s H hr F H,F,_,FN fh hd,?_⟩;have hw:WP K (λn H'=>E (cv n) none H') F H (noex (τ (ds.map (λd=>some (Sl.fz d))++Vx (N.length - ds.length) none)>>=λo=>match o with | .nx _=>aa .non | .rt d=>aa d)) Q:=hw;rcases(τ (ds.map (λd=>some (Sl.fz d))++Vx (N.length - ds.length) none)).cs with e | ⟨n,e⟩ | ⟨o,e⟩
 ·rw[e] at hw;exact hw.elim
 ·rw[e] at hw;exact hw.elim
 ·rw[e] at hw⊢;cases o with
  |nx ρ'=>exact λσ' F' H' s'=>hw .non H' F' s'.ext rfl
  |rt d=>exact λv F' H' e' q=>hw v H' F' e' q
end
section
variable{X:Cx}{Xw:Nat->Hp->Prop}{cv:Nat->Value}{k m:Nat}{f:Addr}{fd:Xv}{ps:List Str}{g:List D->M D}{x:Str}{p pos:Pos}{e:Expr}{es:List Expr}{δs:DA}
def EO(F:FnOkH X.prog X.w X.K X.mg X.base k f fd ps (Gp X.K cv m g))(hr:RoomH k X.A)(hg:Gl X x)(hm:X.mg x=some (.ref f))(hk:WY X.K (.ref f)=true)(hb:Binds X.K fd ps [])
 (ha:iu X Xw (e::es) δs)(kE:(x==("__debug__":Str))=false:=by decide)(he:Vs (e::es) X.env=(false,eval e X.env)::Vs es X.env:=by rfl)(iz:(W7 pos (Vs es X.env)).any (·.1)=false:=by rfl):
 PD X Xw (.Call (.Name x p) (e::es) [] pos) (λρ=>δs ρ>>=λds=>if ds.length=m then noex (g ds) else ag):=by
 intro f8 s σ H Q I ⟨Fz,ρ,S,wq⟩;refine XW (kI I hg hm ?_ kE);refine abK (h₀:=X.base) I.ok.mod.kin hk (bV (ha pos f8 s σ H _ I ⟨Fz,ρ,S,WP.bindL wq⟩) λus s1 ⟨vs,H1,I1,r,q⟩=>⟨I1.kIn,?_⟩) he iz;obtain⟨F1,ds,e1,q1,w1⟩:=q;split at w1
 ·rename_i yX;have vN:Gp X.K cv m g vs H1 Q E0:=⟨F1,ds,e1.fh,q1,by rw[<-q1.len];exact yX,by
   rcases(g ds).cs with q | ⟨n,q⟩ | ⟨d,q⟩
   ·rw[q] at w1;exact w1.elim
   ·rw[q] at w1;exact w1.elim
   ·rw[q] at w1⊢;exact w1⟩
  have TF:us.length=ps.length:=by rw[<-r.length];exact F.len _ _ _ _ vN
  refine wpAny_call (Zf (F.run X.A X.stack s1 H1 ⟨us,[]⟩ us vs Q E0 hr I1.env0 (by have:=hb s1 us I1.kIn (by rw[V7];exact TF);rwa [V7] at this) r vN) λres s' hq=>?_);cases res with
  |error e=>exact hq.elim
  |ok fl=>
   cases fl with
   |ret u=>exact I1.after hq
   |next=>exact WM hq
   |brk=>exact WM hq
   |cont=>exact WM hq
 ·exact w1.elim
end
def Ag(N:List Str)(osc scope:Scope)(tn:List Str):Bool:=
 decide (scope.kind= .function)&&scope.names.all (λy=>decide (y.2≠ .cell))&&scope.names.all (λy=>decide (y.2= .local->scope.names.lookup y.1=some .local))&&
 scope.names.all (λy=>decide (y.2= .free->(osc.names.lookup y.1=some .cell\/osc.names.lookup y.1=some .free)))&&
 ((cM tn N).zip N).all (λp=>decide (scope.names.lookup p.1=none\/(p.1=p.2/\scope.names.lookup p.1=some .free)))
def bA{X:Cx}{N:List Str}{osc scope:Scope}{tn:List Str}(hN:X.N=N)(ho:X.env.scope=osc)(h:Ag N osc scope tn=true):CompSc X scope tn:=by
 unfold Ag at h;simp only[VA,Wu,acM] at h;obtain⟨⟨⟨⟨h1,h2⟩,h3⟩,h4⟩,h5⟩:=h;refine⟨h1,h2,h3,λy hy hf=>?_,?_⟩
 ·have:=h4 y hy hf;rw[<-ho] at this;exact this
 ·rw[hN];exact h5
def cG{X:Cx}{x:Str}{px:Pos}{σ:St}(hN:X.N.Nodup)(h0:X.N[0]? =some x)(yY:X.env.scope.names.lookup x=some .local):CP X (.Name x px) 0 σ:=λf8 s σ' F H d ts v u I fh hd rv q e=>by
 have e:aa [d]=aa ts:=e;have e:=fZ e;subst e;refine aaQ (ya I hN h0 (.inl yY) rv (λs' I'=>⟨[v],?_, .cons q .nil⟩) (.inr yY));have hl:0<σ'.length:=by rw[I.len];exact(Vt.mp h0).1
 have:σ'.set 0 (some v)=[v].map some++σ:=by
  cases σ' with
  |nil=>simp at hl
  |cons a r=>
   have hd:r=σ:=by simpa using hd
   subst hd;rfl
 rw[<-this];exact I'
def ei{P:VG}{w:World}{cv:Nat->Value}{X:Cx}:Passes (cQ P w cv) X (EX cv λ_ _=>False):=λ_ _ _ _ _ _ _ ⟨_,_,_,_,_,_,_,_,_,_,_,_,_,_,z⟩=>z.elim
def bJ(K:Vn)(mg:Str->Option Value)(x:Str)(st:Stmt)(f:Addr):Prop:=mg x=some (.ref f)/\∃fd,Fun K x x st f fd
def aw(P:VG)(w:World)(K:Vn)(mg:Str->Option Value)(base:Heap)(cv:Nat->Value)(k:Nat)(x:Str)(m:Nat)(g:List D->M D):Prop:=
 ∃f fd ps,mg x=some (.ref f)/\WY K (.ref f)=true/\Binds K fd ps []/\FnOk P w K mg base (cQ P w cv) k f fd ps (Gp K cv m g)
section
variable{X:Cx}{Xw:Nat->Hp->Prop}{cv:Nat->Value}{k m:Nat}{g:List D->M D}{x:Str}{p pos:Pos}{e:Expr}{es:List Expr}{δs:DA}
def ay(m:Nat)(g:List D->M D)(δs:DA):DE:=λρ=>δs ρ>>=λds=>if ds.length=m then g ds else ag
def b0(F:aw X.prog X.w X.K X.mg X.base cv k x m g)(hr:Room k X.A)(hg:Gl X x)(hx:Passes (cQ X.prog X.w cv) X (EX cv Xw))
 (ha:iu X Xw (e::es) δs)(hl:(e::es).length=m)(kE:(x==("__debug__":Str))=false:=by decide)(he:Vs (e::es) X.env=(false,eval e X.env)::Vs es X.env:=by rfl)(iz:(W7 pos (Vs es X.env)).any (·.1)=false:=by rfl):
 PD X Xw (.Call (.Name x p) (e::es) [] pos) (ay m g δs):=by
 obtain⟨f,fd,ps,h1,h2,h3,h4⟩:=F;exact HA h4 hr hg h1 h2 h3 hx ha hl kE he iz
end
def aH{P:VG}{w:World}{K:Vn}{mg:Str->Option Value}{base:Heap}{cv:Nat->Value}{k:Nat}{x:Str}{st:Stmt}{f:Addr}{N ps:List Str}{τ:DS}(T:bJ K mg x st f)(S:FnScope N ps (ai st))
 (Oy:∀(kV doc pm:Value) (an:Option Addr) (cx ct:Value) (us:List Value),us.length=ps.length->bindArgs (WC x x (dR st) (bc st) (ai st) .none kV doc pm an cx ct) ⟨us,[]⟩=pure (ps.zip us))
 (gx:∀(cx:Value) (A:V2) (outer:List Env) (s:Vf) (H:Hp) (E:XK),Room k (A.deeper (XD x (ai st) s.heap.objs.size f cx))->
  PSDs (aZ (cQ P w cv) P w K mg base N x (ai st) f cx A outer s H E) (λn H'=>E (cv n) none H') (bc st) τ):aw P w K mg base cv (k+1) x ps.length (bY N.length τ):=by
 obtain⟨h1,fd,Fn⟩:=T;exact⟨f,fd,ps,h1,Fn.kp,Fn.binds Oy,Mt Fn S gx⟩
section
variable{X:Cx}{Xw:Nat->Hp->Prop}{a:Expr}{δ:DE}{pos:Pos}
def B3:D->M D
 | .int i=>aa (.int (-i))
 |_=>ag
def uT(ha:PD X Xw a δ):PD X Xw (.UnaryOp .USub a pos) (d1 B3 δ):=PE.weak (NK LM ha) λσ H Q ⟨F,ρ,s,w⟩=>by
 refine⟨F,ρ,s,WP.mono (WP.bind w) λv H1 ⟨F1,d,e1,q,w1⟩=>?_⟩;cases d with
 |int i=>
  have q:v= .int i:=q;subst q;exact⟨i,rfl,WP.now w1 e1.fh rfl⟩
 |_=>exact w1.elim
end
section
variable{X:Cx}{Xw:Nat->Hp->Prop}{pos:Pos}
def HF{x z:Str}(hg:Gl X x)(h:∃t,X.mg x=some (.str z t))(hz:z.length<=lim)(kE:(x==("__debug__":Str))=false:=by decide):PD X Xw (.Name x pos) (dC (.str z)):=by
 obtain⟨t,h⟩:=h;exact uR (v:= .str z) hg h ⟨t,rfl⟩ (λ_=>⟨rfl,hz⟩) kE
def AM{x:Str}{i:Int}(hg:Gl X x)(h:∃t,X.mg x=some (.int i t))(kE:(x==("__debug__":Str))=false:=by decide):PD X Xw (.Name x pos) (dC (.int i)):=by
 obtain⟨t,h⟩:=h;exact uR (v:= .int i) hg h ⟨t,rfl⟩ (λ_=>rfl) kE
def gX{x:Str}{a:Addr}(hg:Gl X x)(h:X.mg x=some (.ref a))(kE:(x==("__debug__":Str))=false:=by decide):PD X Xw (.Name x pos) (dC (.raw (.ref a))):=
 uR (v:= .ref a) hg h rfl (λ_=>rfl) kE
end
def Ie(sc osc:Scope):Scope:={sc with names:=sc.names.map λ(n,k)=>if (k== .free&&osc.kind== .function&&osc.names.lookup n==some .cell) then(n, .cell) else(n,k)}
def nN(P:VG)(w:World)(K:Vn)(mg:Str->Option Value)(base:Heap)(cv:Nat->Value)(k:Nat)(x:Str)(m:Nat)(g:List D->M D):Prop:=
 ∃f fd ps,mg x=some (.ref f)/\WY K (.ref f)=true/\Binds K fd ps []/\FnOkH P w K mg base k f fd ps (Gp K cv m λds=>noex (g ds))
def C_(m:Nat)(g:List D->M D)(δs:DA):DE:=λρ=>δs ρ>>=λds=>if ds.length=m then noex (noex (g ds)) else ag
def Gz{X:Cx}{Xw:Nat->Hp->Prop}{cv:Nat->Value}{k m:Nat}{g:List D->M D}{x:Str}{p pos:Pos}{e:Expr}{es:List Expr}{δs:DA}(F:nN X.prog X.w X.K X.mg X.base cv k x m g)(hr:RoomH k X.A)(hg:Gl X x)
 (ha:iu X Xw (e::es) δs)(kE:(x==("__debug__":Str))=false:=by decide)(he:Vs (e::es) X.env=(false,eval e X.env)::Vs es X.env:=by rfl)(iz:(W7 pos (Vs es X.env)).any (·.1)=false:=by rfl):
 PD X Xw (.Call (.Name x p) (e::es) [] pos) (C_ m g δs):=by
 obtain⟨f,fd,ps,h1,h2,h3,h4⟩:=F;exact EO h4 hr hg h1 h2 h3 ha kE he iz
def yJ{P:VG}{w:World}{K:Vn}{mg:Str->Option Value}{base:Heap}{cv:Nat->Value}{k:Nat}{x:Str}{st:Stmt}{f:Addr}{N ps:List Str}{τ:DS}(T:bJ K mg x st f)(S:FnScope N ps (ai st))
 (Oy:∀(kV doc pm:Value) (an:Option Addr) (cx ct:Value) (us:List Value),us.length=ps.length->bindArgs (WC x x (dR st) (bc st) (ai st) .none kV doc pm an cx ct) ⟨us,[]⟩=pure (ps.zip us))
 (gx:∀(cx:Value) (A:V2) (outer:List Env) (s:Vf) (H:Hp),RoomH k (A.deeper (XD x (ai st) s.heap.objs.size f cx))->
  PSDs (rE P w K mg base N x (ai st) f cx A outer s H) (λ_ _=>False) (bc st) τ):nN P w K mg base cv (k+1) x ps.length (bY N.length τ):=by
 obtain⟨h1,fd,Fn⟩:=T;exact⟨f,fd,ps,h1,Fn.kp,Fn.binds Oy,Mu Fn S gx⟩
structure Box (p:Prop):Prop where
 out:p
section
variable{X:Cx}{Xw:Nat->Hp->Prop}
def jS{st:Stmt}{P3:List Stmt}{τ τ':DS}(h1:Box (iy X Xw st τ))(h2:Box (PSDs X Xw P3 τ')):Box (PSDs X Xw (st::P3) (aF τ τ')):=⟨aj h1.out h2.out⟩
def JG{st:Stmt}{τ:DS}(h1:Box (iy X Xw st τ)):Box (PSDs X Xw [st] τ):=⟨ao h1.out⟩
end
def Of{l:aco}{n k:Nat}{q:VG}{loose:List Str}{XP:(Str->Option Value)->Heap->Prop}{YP:World->Heap->Prop}{d:DefRec}{K:Params->Vn}{x:Str}{g:List D->M D}
 (hn:l.most=some n)(OD:n<=lim)(MI:d.params.defaults=[])(hr:Room k aaS)
 (hY:∀(w:World) (h:Heap),YP w h->(K w.params).In h)(hg:∀ns:List Int,ns.length<=n->g [.scr ns]=aa (.bl true))
 (F:∀(w:World) (mg:Str->Option Value) (fa:Addr) (h:Heap),(K w.params).In h->h.Ns VD mg->mg d.name=some (.ref fa)->
  ∃(cv:Nat->Value) (fd:Xv),(∀(s:Vf) (u:Value),abF s fd ⟨[u],[]⟩ [(x,u)])/\
   ∀base:Heap,(K w.params).In base->base.Ns VD mg->FnOk l.prog w (K w.params) mg base (cQ l.prog w cv) k fa fd [x] (Gp (K w.params) cv 1 g)):
 PySem.W.WalkO q loose XP YP l.row.toRowW d [] (λf vs=>acn f vs):=by
 refine Att.attach_call hn MI λw acT v6 mg mb fa o pm cd doc a vs ns G Y ho hd rS J9 DW hints M2 Tg=>?_;have KX:=hY w _ Y;obtain⟨cv,fd,hb,hF⟩:=F w mg fa _ KX G.T.g J9;refine wO KX G.T.g G.T.b G.T.builtins G.T.nolimit Tg DW hints (VI M2 (VI OD (W4 ck))) hr hF hb (λH hO hS=>?_) λH e s' z=>?_
 ·refine⟨H,[.scr ns],λ_ _ e=>e,⟨_,_,rfl,⟨a,rfl,hS,VI M2 OD⟩,rfl⟩,rfl,?_⟩;rw[hg ns M2];exact λv H' F' e q=>q
 ·obtain⟨_,_,_,_,_,_,_,_,_,_,_,_,_,_,y⟩:=z
def EL{K:Vn}{h:Heap}{mg:Str->Option Value}{x:Str}{C:Addr}{ms:List Value}{id:String}(hK:K.In h)(hG:h.Ns VD mg)(at':VJ K VD x=some (some (.ref C)))
 (qq:ZL K C ms id=true):OwnCls x C ms id mg h:=OwnCls.mk (Wt hK hG at')<|by
 revert qq;unfold ZL;split<;>intro qq
 rotate_left
 ·exact Bool.noConfusion qq
 rename_i Mm Lo R9 JR;split at qq
 rotate_left
 ·exact Bool.noConfusion qq
 rename_i C₁ Qs v0 v1 v2 v3 Ul v5 em es;rw[VA,VA,VA,VA,VA] at qq;rcases qq with⟨⟨⟨⟨⟨q1,q2⟩,q3⟩,q4⟩,q5⟩,q6⟩
 have q1:=Zs q1;have q2:=Zs q2;have q6:=Zs q6;have q3:Lo.hasDel=false:=by
  cases z:Lo.hasDel
  ·rfl
  ·rw[z] at q3;cases q3
 subst q1 q2;rcases Lo with⟨r1,r2,r3,r4,r5,r6,r7,r8,r9,Uu,Uv⟩
 have em:r3=_:=em;have q3:Uv=false:=q3;subst em q3;have Ux:R9= #[v0,v1,v2,v3,some (.builtin Ul),v5]:=by
  rcases R9 with⟨y⟩
  exact acP Array.mk es
 subst Ux;have n5:=Heap.Ns.of_isNs (PySem.W.isNs_of_in hK q5);have n6:=PySem.W.nsMap_none_of_in hK q5 q6;exact⟨Qs,r4,r1,r5,r2,r6,r7,r8,r9,Uu,Mm,v0,v1,v2,v3,v5,_,hK _ _ JR,n5,n6,PySem.W.tail_of_in hK q4⟩
def Du{K:Vn}{t c:Value}(h1:PySem.W.subIn K c (.type "BaseException")=some true)(h2:VE K t c=some true)(gh:(t==c)=false):YQ K t c=some true:=by
 unfold YQ;unfold VE at h2;rw[gh] at h2;rw[h1];exact h2
def oH{α β:Type}{f g:α->Option β}:∀{l:List α},(∀x∈l,f x=g x)->l.filterMap f=l.filterMap g
 |[],_=>rfl
 |a::l,h=>by rw[Yb,Yb,h a (Ve ..),oH λx hx=>h x (Vc _ hx)]
section
end
section
variable{e:Expr}
end
def y9:D->Option Key
 | .int i=>some (.inl i)
 | .str x=>some (.inr x)
 |_=>none
def uh:List D->Option (List Key)
 |[]=>some []
 |d::ds=>match y9 d,uh ds with
  |some k,some ks=>some (k::ks)
  |_,_=>none
def eD:D->Option (List Key)
 | .tup ds=>uh ds
 |_=>none
def o9{K:Vn}{F:Hp}{d:D}{v:V}{k:Key}(e:y9 d=some k)(h:Den K F d v):v=kV k:=by
 cases d<;>first | cases e | skip
 ·exact h
 ·exact h.1
def gA{K:Vn}{F:Hp}:∀{ds:List D}{vs:List V}{ks:List Key},uh ds=some ks->DenL K F ds vs->vs=ks.map kV
 |[],_,_,e,h=>by cases e;exact h
 |d::ds,_,_,e,⟨v,r,h1,h2,h3⟩=>by
  unfold uh at e;split at e
  ·rename_i k ks e1 e2;cases e;subst h1;rw[Vi,o9 e1 h2,gA e2 h3]
  ·cases e
section
variable{κ:Type}[DecidableEq κ]
def fS:List κ->List D->κ->Option D
 |k'::ks,d::ds,k=>if k'=k then some d else fS ks ds k
 |_,_,_=>none
def md:List κ->List D->κ->D->List D
 |k'::ks,d'::ds,k,d=>(if k'=k then d else d')::md ks ds k d
 |_,_,_,_=>[]
def lH{K:Vn}{F:Hp}:∀{ks:List κ}{ds:List D}{vs:List V}(k:κ),DenL K F ds vs->ks.length=ds.length->
 (match fS ks ds k with | some d=>∃v,lI (ks.zip vs) k=some v/\Den K F d v | none=>lI (ks.zip vs) k=none)
 |[],[],_,_,_,_=>rfl
 |k'::ks,d::ds,_,k,⟨v,r,h1,h2,h3⟩,hl=>by
  subst h1;unfold fS;rw[WD];by_cases e:k'=k
  ·rw[acI e,lK (p:=(k',v)) e];exact⟨v,rfl,h2⟩
  ·rw[acJ e,lJ (p:=(k',v)) e];exact lH k h3 (by simpa using hl)
 |[],_::_,_,_,_,hl=>by simp at hl
 |_::_,[],_,_,_,hl=>by simp at hl
def je{K:Vn}{F:Hp}{ks:List κ}{ds:List D}{vs:List V}(k:κ)(h:DenL K F ds vs)(hl:ks.length=ds.length):(lI (ks.zip vs) k).isSome=(fS ks ds k).isSome:=by
 have:=lH k h hl;split at this
 ·rename_i d e;obtain⟨v,e1,_⟩:=this;rw[e1,e];rfl
 ·rename_i e;rw[this,e];rfl
def xN{K:Vn}{F:Hp}{d:D}{v:V}(hd:Den K F d v):∀{ks:List κ}{ds:List D}{vs:List V}(k:κ),DenL K F ds vs->ks.length=ds.length->
 ∃ws,(ks.zip vs).map (λkv=>if kv.1=k then(kv.1,v) else kv)=ks.zip ws/\DenL K F (md ks ds k d) ws
 |[],[],_,_,h,_=>⟨[],rfl,rfl⟩
 |k'::ks,d'::ds,_,k,⟨v',r,h1,h2,h3⟩,hl=>by
  subst h1;obtain⟨ws,e1,e2⟩:=xN hd k h3 (by simpa using hl);by_cases e:k'=k
  ·refine⟨v::ws,?_,?_⟩
   ·rw[WD,Vi,e1,acI e];rfl
   ·unfold md;rw[acI e];exact .cons hd e2
  ·refine⟨v'::ws,?_,?_⟩
   ·rw[WD,Vi,e1,acJ e];rfl
   ·unfold md;rw[acJ e];exact .cons h2 e2
 |[],_::_,_,_,_,hl=>by simp at hl
 |_::_,[],_,_,_,hl=>by simp at hl
def i6:∀(ks:List κ) (ds:List D) (k:κ) (d:D),ks.length=ds.length->(md ks ds k d).length=ds.length
 |[],[],_,_,_=>rfl
 |_::ks,_::ds,k,d,h=>by unfold md;rw[Vk,Vk,i6 ks ds k d (by simpa using h)]
 |[],_::_,_,_,h=>by simp at h
 |_::_,[],_,_,h=>by simp at h
def dh(ks:List κ)(ds:List D)(k:κ):List κ:=if (fS ks ds k).isSome then ks else ks++[k]
def cq(ks:List κ)(ds:List D)(k:κ)(d:D):List D:=if (fS ks ds k).isSome then md ks ds k d else ds++[d]
def u0{K:Vn}{F:Hp}{d:D}{v:V}(hd:Den K F d v){ks:List κ}{ds:List D}{vs:List V}(k:κ)(h:DenL K F ds vs)(hl:ks.length=ds.length):
 ∃ws,putK (ks.zip vs) k v=(dh ks ds k).zip ws/\DenL K F (cq ks ds k d) ws/\(dh ks ds k).length=(cq ks ds k d).length:=by
 have hs:=je (K:=K) (F:=F) k h hl;unfold putK dh cq;have ha:((ks.zip vs).any λkv=>decide (kv.1=k))=(lI (ks.zip vs) k).isSome:=qp ..;rw[ha,hs];cases e:(fS ks ds k).isSome with
 |true=>
  rw[acI rfl,acI rfl,acI rfl];obtain⟨ws,e1,e2⟩:=xN hd k h hl;exact⟨ws,e1,e2,by rw[i6 ks ds k d hl];exact hl⟩
 |false=>
  rw[acJ VM,acJ VM,acJ VM];refine⟨vs++[v],?_,h.append (.cons hd .nil),by simp[hl]⟩;rw[Zx (by rw[hl];exact h.len)];rfl
end
def A4{κ:Type}{K:Vn}{F:Hp}{ks:List κ}{ds:List D}{vs:List V}(h:DenL K F ds vs)(hl:ks.length=ds.length):(ks.zip vs).length=ds.length:=by
 rw[Ym,hl,<-h.len];omega
def qg(ρ:aQ)(i:Nat):Option D:=match ρ[i]? with
 |some (some (.fz d))=>some d
 |some (some (.ow c))=>some c.d
 |_=>none
def FF{K:Vn}{F H:Hp}{σ:St}{ρ:aQ}{i:Nat}{ks:List (List Key)}{ds:List D}(s:StE K F H σ ρ)(e:qg ρ i=some (.dct ks ds)):
 ∃a vs,σ[i]? =some (some (.ref a))/\Rd H a (.dT (ks.zip vs))/\DenL K F ds vs/\ks.length=ds.length/\ds.length<=lim:=by
 unfold qg at e;split at e
 ·rename_i d e1;cases e;obtain⟨v,h1,a,ob,vs,rfl,h2,h3,h4,h5⟩:=s.den i _ e1;exact⟨a,vs,h1, .inr ⟨ob,s.fh _ _ h2⟩,h3,h4,h5⟩
 ·rename_i c e1;cases c<;>cases e
  obtain⟨v,h1,a,o,rfl,h2,_,vs,rfl,h3,h4,h5⟩:=s.den i _ e1;exact⟨a,vs,h1, .inl h2,h3,h4,h5⟩
 ·cases e
def FE{K:Vn}{F H:Hp}{σ:St}{ρ:aQ}{i:Nat}{ks:List Key}{ds:List D}(s:StE K F H σ ρ)(e:qg ρ i=some (.dci ks ds)):
 ∃a vs,σ[i]? =some (some (.ref a))/\Rd H a (.dK (ks.zip vs))/\DenL K F ds vs/\ks.length=ds.length/\ds.length<=lim:=by
 unfold qg at e;split at e
 ·rename_i d e1;cases e;obtain⟨v,h1,a,ob,vs,rfl,h2,h3,h4,h5⟩:=s.den i _ e1;exact⟨a,vs,h1, .inr ⟨ob,s.fh _ _ h2⟩,h3,h4,h5⟩
 ·rename_i c e1;cases c<;>cases e
  obtain⟨v,h1,a,o,rfl,h2,_,vs,rfl,h3,h4,h5⟩:=s.den i _ e1;exact⟨a,vs,h1, .inl h2,h3,h4,h5⟩
 ·cases e
def Ge:D->D->Option (Option D)
 | .dct ks ds,k=>(eD k).map (fS ks ds)
 | .dci ks ds,k=>(y9 k).map (fS ks ds)
 |_,_=>none
def z_{K:Vn}{F H:Hp}{σ:St}{ρ:aQ}{i:Nat}{d k:D}{y:V}{o:Option D}(s:StE K F H σ ρ)(hi:qg ρ i=some d)(hk:Den K F k y)(e:Ge d k=some o):
 ∃a ov,σ[i]? =some (some (.ref a))/\qB H a y ov/\ov.isSome=o.isSome/\∀d',o=some d'->∃v,ov=some v/\Den K F d' v:=by
 unfold Ge at e;split at e
 ·rename_i ks ds;cases q:eD k with
  |none=>rw[q] at e;cases e
  |some kk=>
   rw[q] at e;cases e;obtain⟨a,vs,h1,h2,h3,h4,h5⟩:=FF s hi;unfold eD at q;split at q
   ·rename_i es;obtain⟨b,ws,rfl,k2,k3,_⟩:=hk;have e1:=gA q k3;subst e1;refine⟨a,_,h1, .inr ⟨_,kk,b,h2,rfl,s.fh _ _ k2,rfl⟩,je kk h3 h4,λd' nQ=>?_⟩;have:=lH (K:=K) (F:=F) kk h3 h4;rw[nQ] at this;exact this
   ·cases q
 ·rename_i ks ds;cases q:y9 k with
  |none=>rw[q] at e;cases e
  |some kk=>
   rw[q] at e;cases e;obtain⟨a,vs,h1,h2,h3,h4,h5⟩:=FE s hi;have e1:=o9 q hk;subst e1;refine⟨a,_,h1, .inl ⟨_,kk,h2,rfl,rfl⟩,je kk h3 h4,λd' nQ=>?_⟩;have:=lH (K:=K) (F:=F) kk h3 h4;rw[nQ] at this;exact this
 ·cases e
section
variable{X:Cx}{Xw:Nat->Hp->Prop}{a e:Expr}{δ δk δv:DE}{pos p pos' zE:Pos}{x:Str}{i:Nat}
def Mi(neg:Bool)(i:Nat)(δ:DE):DE:=λρ=>δ ρ>>=λk=>match qg ρ i with
 |some d=>match Ge d k with
  |some o=>aa (.bl (if neg then !o.isSome else o.isSome))
  |none=>ag
 |none=>ag
def Kj{neg:Bool}{σ:St}{H:Hp}{Q:VK}(h:tD X.K Xw (Mi neg i δ) σ H Q):(λσ H Q=>tD X.K Xw δ σ H λy H1=>qm i σ H1 λx H2=>∃a o,x= .ref a/\qB H2 a y o/\Q (.bl (if neg then !o.isSome else o.isSome)) H2) σ H Q:=by
 obtain⟨F,ρ,s,w⟩:=h;refine⟨F,ρ,s,WP.mono (WP.bind w) λy H1 ⟨F1,k,e1,q1,w1⟩=>?_⟩;have s1:=s.ext e1;cases hi:qg ρ i with
 |none=>rw[hi] at w1;exact w1.elim
 |some d=>
  rw[hi] at w1;have w1:WP X.K Xw F1 H1 (match Ge d k with | some o=>aa (.bl (if neg then !o.isSome else o.isSome)) | none=>ag) Q:=w1;cases he:Ge d k with
  |none=>rw[he] at w1;exact w1.elim
  |some o=>
   rw[he] at w1;obtain⟨a,ov,h1,h2,h3,_⟩:=z_ s1 hi q1 he;refine⟨.ref a,h1,a,ov,rfl,h2,?_⟩;rw[h3];exact WP.now w1 e1.fh rfl
def QA(hu:X.A.units+64<cLine)(ha:PD X Xw a δ)(hv:PE X (.Name x p) (qm i))(hm:WJ .In (.Name x p)=false:=by rfl):PD X Xw (.Compare a [.In] [.Name x p] pos) (Mi false i δ):=
 PE.weak (K3 (KR (by omega) ha hv) hm) λσ H Q h=>Kj (neg:=false) h
def AZ(i:Nat):DS:=λρ=>aa (.nx (ρ.set i (some (.ow (.dct [] [])))))
def p3(hN:X.N.Nodup)(hi:X.N[i]? =some x)(hx:Loc X.env.scope x)(hf:X.fn x=true\/X.env.scope.names.lookup x=some .local:=by first | exact .inl rfl | exact .inr rfl):
 iy X Xw (.Assign [.Name x pos'] (.Dict [] [] zE) pos) (AZ i):=λs0 acS=>PS.weak (uX E8 (a8 hN hi hx hf) rfl) λD σ H ⟨F,ρ,s,w⟩=>λq hq=>
 w _ F _ (s.setNew (c₀:= .dct [] []) hq ⟨[],rfl,rfl,rfl,V1 _⟩)
def l8:C->D->D->Option C
 | .dct ks ds,k,d=>match eD k with
   |some kk=>if ds.length<lim then some (.dct (dh ks ds kk) (cq ks ds kk d)) else none
   |none=>none
 | .dci ks ds,k,d=>match y9 k with
   |some kk=>if ds.length<lim then some (.dci (dh ks ds kk) (cq ks ds kk d)) else none
   |none=>none
 |_,_,_=>none
def zr(ρ:aQ)(i:Nat):Option C:=match ρ[i]? with
 |some (some (.ow c))=>some c
 |_=>none
def sJ{ρ:aQ}{i:Nat}{c:C}(h:zr ρ i=some c):ρ[i]? =some (some (.ow c)):=by
 unfold zr at h;split at h
 ·rename_i c' e;cases h;exact e
 ·cases h
def f9(i:Nat)(δk δv:DE):DS:=λρ=>match zr ρ i with
 |some c=>δv ρ>>=λv=>δk ρ>>=λk=>match l8 c k v with
  |some c'=>aa (.nx (ρ.set i (some (.ow c'))))
  |none=>ag
 |none=>ag
def sU{κ:Type}[DecidableEq κ]{ks:List κ}{ds:List D}{k:κ}{d:D}(hl:ks.length=ds.length)(h:ds.length<lim):(cq ks ds k d).length<=lim:=by
 unfold cq;split
 ·rw[i6 ks ds k d hl];omega
 ·rw[Vm];exact h
def Fl{K:Vn}{F H:Hp}{c c':C}{k d:D}{y v:V}{o:HO}{b:Addr}(hs:Same F H)(hb:H b=some o)(hc:DenC K F c o)(hk:Den K F k y)(hd:Den K F d v)(e:l8 c k d=some c'):∃o',DPut H b y v (upd H b o')/\DenC K F c' o':=by
 have MT:=ck;unfold l8 at e;split at e
 ·rename_i ks ds k d;obtain⟨vs,rfl,h3,h4,h5⟩:=hc;split at e
  ·rename_i kk q;split at e
   ·rename_i cN;cases e;unfold eD at q;split at q
    ·rename_i es;obtain⟨b2,ws,rfl,k2,k3,_⟩:=hk;have e1:=gA q k3;subst e1;obtain⟨us,e2,e3,e4⟩:=u0 hd kk h3 h4;refine⟨_,DPut.t hb (hs _ _ k2) (by rw[A4 h3 h4];omega),us,?_,e3,e4,sU h4 cN⟩;rw[e2]
    ·cases q
   ·cases e
  ·cases e
 ·rename_i ks ds k d;obtain⟨vs,rfl,h3,h4,h5⟩:=hc;split at e
  ·rename_i kk q;split at e
   ·rename_i cN;cases e;have e1:=o9 q hk;subst e1;obtain⟨us,e2,e3,e4⟩:=u0 hd kk h3 h4;refine⟨_,DPut.k hb (by rw[A4 h3 h4];omega),us,?_,e3,e4,sU h4 cN⟩;rw[e2]
   ·cases e
  ·cases e
 ·cases e
def iY(hu:X.A.units+64<cLine)(hv:PE X (.Name x p) (qm i))(hk:PD X Xw a δk)(he:PD X Xw e δv)(hs:Zr e (some (.Subscript (.Name x p) a pos')) pos.line X.env=pure false:=by rfl):
 iy X Xw (.Assign [.Subscript (.Name x p) a pos'] e pos) (f9 i δk δv):=λs0 acS=>PS.weak (HV (by omega) hv hk he hs) λD σ H ⟨F,ρ,s,w⟩=>by
 unfold f9 at w;cases ho:zr ρ i with
 |none=>rw[ho] at w;exact w.elim
 |some c=>
  rw[ho] at w;have hi:=sJ ho;have w:WPS X.K Xw s0 acS (δv ρ>>=λv=>δk ρ>>=λk=>match l8 c k v with | some c'=>aa (.nx (ρ.set i (some (.ow c')))) | none=>ag) D:=w;refine⟨F,ρ,s.st,?_⟩;rcases(δv ρ).cs with q | ⟨n,q⟩ | ⟨dv,q⟩
  ·rw[q] at w;exact w.elim
  ·rw[q] at w⊢;exact λF' H' e'=>w F' H' (s.ext.trans e')
  ·rw[q] at w⊢;intro v H1 F1 e1 hq;have s1:=s.ext' e1;obtain⟨u,h1,b,o,rfl,h2,h3,h4⟩:=s1.st.den i _ hi;have w:WPS X.K Xw s0 acS (δk ρ>>=λk=>match l8 c k dv with | some c'=>aa (.nx (ρ.set i (some (.ow c')))) | none=>ag) D:=w;refine⟨.ref b,h1,F1,ρ,s1.st,?_⟩;rcases(δk ρ).cs with q2 | ⟨n,q2⟩ | ⟨dk,q2⟩
   ·rw[q2] at w;exact w.elim
   ·rw[q2] at w⊢;exact λF' H' e'=>w F' H' (s1.ext.trans e')
   ·rw[q2] at w⊢;intro y H2 F2 e2 hy;have w:WPS X.K Xw s0 acS (match l8 c dk dv with | some c'=>aa (.nx (ρ.set i (some (.ow c')))) | none=>ag) D:=w;cases hp:l8 c dk dv with
    |none=>rw[hp] at w;exact w.elim
    |some c'=>
     rw[hp] at w;have s2:=s1.ext' e2;obtain⟨u2,k1,b2,o2,JY,k2,k3,k4⟩:=s2.st.den i _ hi;rw[h1] at k1;cases k1;cases JY;obtain⟨o',g,hc⟩:=Fl s2.st.fh k2 k4 hy (Den.mono e2.ff hq) hp;exact⟨b,_,rfl,g,w σ F2 _ (s2.chg hi h1 hc)⟩
end
def eK(c:DT)(body:DS):Nat->DS
 |0,_=>ag
 |n+1,ρ=>c ρ>>=λb=>if b then body ρ>>=λo=>match o with | .nx ρ'=>eK c body n ρ' | .rt d=>aa (.rt d) else aa (.nx ρ)
def zH(c:DT)(body:DS):DS:=λρ=>eK c body lim ρ
section
variable{X:Cx}{Xw:Nat->Hp->Prop}{τ:DS}{tc:DT}{pos:Pos}
def sS{c:Expr}{body:List Stmt}(hp:PassesOwn (model X.prog X.w) X.A X.env X.xe)(hc:qC X Xw c tc)(hb:PSDs X Xw body τ):iy X Xw (.While c body [] pos) (zH tc τ):=λs0 acS=>PS.weak (Fe hp hc hb.ex) λD σ H ⟨F,ρ,s,w⟩=>by
 refine⟨λm σ H=>∃F ρ,StOk X.K s0 acS F H σ ρ/\WPS X.K Xw s0 acS (eK tc τ m ρ) D,⟨lim,F,ρ,s,w⟩,?_⟩;rintro m σ H ⟨F,ρ,s,w⟩;cases m with
 |zero=>exact w.elim
 |succ m=>
  refine⟨F,ρ,s.st,?_⟩;unfold eK at w
  match tc ρ,w with
  |none,w=>exact w
  |some (.ex n),w=>exact λF' H' e'=>w F' H' (s.ext.trans e')
  |some (.ok false),w=>exact λH' F' e'=>w σ F' H' (s.ext' e')
  |some (.ok true),w=>
   intro H' F' e';have w:WPS X.K Xw s0 acS (τ ρ>>=λo=>match o with | .nx ρ'=>eK tc τ m ρ' | .rt d=>aa (.rt d)) D:=w;refine⟨λσ' H'=>∃F' ρ',StOk X.K s0 acS F' H' σ' ρ'/\WPS X.K Xw s0 acS (eK tc τ m ρ') D,λσ' H' h=>⟨m,XC m,h⟩,s0,acS,F',ρ,s.ext' e',?_⟩
   match τ ρ,w with
   |none,w=>exact w
   |some (.ok (.nx ρ')),w=>exact λσ' F' H' s'=>⟨F',ρ',s',w⟩
   |some (.ok (.rt d)),w=>exact w
   |some (.ex n),w=>exact w
end
def jD:List D->Option (List (List Key))
 |[]=>some []
 |d::ds=>match eD d,jD ds with
  |some k,some ks=>some (k::ks)
  |_,_=>none
def JL:∀{x y:D}{k k':Key}{n:Nat},y9 x=some k->y9 y=some k'->jw n x y=some (decide (k=k'))
 | .int i, .int j,_,_,n,e1,e2=>by
   cases e1;cases e2;have:jw n (.int i) (.int j)=some (i==j):=by cases n<;>rfl
   rw[this];congr 1;by_cases h:i=j
   ·subst h;simp
   ·simp[h]
 | .str x, .str y,_,_,n,e1,e2=>by
   cases e1;cases e2;have:jw n (.str x) (.str y)=some (x==y):=by cases n<;>rfl
   rw[this];congr 1;by_cases h:x=y
   ·subst h;simp
   ·simp[h]
 | .int i, .str y,_,_,n,e1,e2=>by
   cases e1;cases e2;have:jw n (.int i) (.str y)=some false:=by cases n<;>rfl
   rw[this];simp
 | .str x, .int j,_,_,n,e1,e2=>by
   cases e1;cases e2;have:jw n (.str x) (.int j)=some false:=by cases n<;>rfl
   rw[this];simp
 | .non,_,_,_,_,e1,_=>by cases e1
 | .bl _,_,_,_,_,e1,_=>by cases e1
 | .raw _,_,_,_,_,e1,_=>by cases e1
 | .exc _,_,_,_,_,e1,_=>by cases e1
 | .scr _,_,_,_,_,e1,_=>by cases e1
 | .tup _,_,_,_,_,e1,_=>by cases e1
 | .lst _,_,_,_,_,e1,_=>by cases e1
 | .dct _ _,_,_,_,_,e1,_=>by cases e1
 | .dci _ _,_,_,_,_,e1,_=>by cases e1
 |_, .non,_,_,_,_,e2=>by cases e2
 |_, .bl _,_,_,_,_,e2=>by cases e2
 |_, .raw _,_,_,_,_,e2=>by cases e2
 |_, .exc _,_,_,_,_,e2=>by cases e2
 |_, .scr _,_,_,_,_,e2=>by cases e2
 |_, .tup _,_,_,_,_,e2=>by cases e2
 |_, .lst _,_,_,_,_,e2=>by cases e2
 |_, .dct _ _,_,_,_,_,e2=>by cases e2
 |_, .dci _ _,_,_,_,_,e2=>by cases e2
def Al{n:Nat}:∀{xs ys:List D}{k k':List Key},uh xs=some k->uh ys=some k'->mB (jw n) xs ys=some (decide (k=k'))
 |[],[],_,_,e1,e2=>by cases e1;cases e2;rfl
 |x::xs,[],_,_,e1,e2=>by
  cases e2;unfold uh at e1;split at e1
  ·cases e1;simp[mB]
  ·cases e1
 |[],y::ys,_,_,e1,e2=>by
  cases e1;unfold uh at e2;split at e2
  ·cases e2;simp[mB]
  ·cases e2
 |x::xs,y::ys,_,_,e1,e2=>by
  unfold uh at e1 e2;split at e1
  ·rename_i k ks q1 q2;cases e1;split at e2
   ·rename_i k' ks' q3 q4;cases e2;unfold mB;rw[JL q1 q3,Al q2 q4];simp
   ·cases e2
  ·cases e1
def GO{x y:D}{k k':List Key}{n:Nat}(e1:eD x=some k)(e2:eD y=some k'):jw (n+1) x y=some (decide (k=k')):=by
 cases x with
 |tup xs=>
  cases y with
  |tup ys=>exact Al (n:=n) e1 e2
  |_=>cases e2
 |_=>cases e1
def Eb{K:Vn}{F:Hp}{d:D}{v:V}{k:List Key}(e:eD d=some k)(h:Den K F d v):∃a,v= .ref a/\F a=some (.tup (k.map kV)):=by
 cases d with
 |tup ds=>
  obtain⟨a,vs,rfl,h2,h3,_⟩:=h;have:=gA e h3;subst this;exact⟨a,rfl,h2⟩
 |_=>cases e
def ze(k:List Key)(ks:List (List Key)):Bool:=ks.any λk'=>decide (k'=k)
open Classical in
noncomputable def isKey(H:Hp)(k:List Key)(u:Value):Bool:=decide (∃a,u= .ref a/\H a=some (.tup (k.map kV)))
def r_{K:Vn}{F H:Hp}{d:D}{v:V}{u:Value}{k k':List Key}(hs:Same F H)(e:eD d=some k')(h:Den K F d v)(r:RelV v u):isKey H k u=decide (k'=k):=by
 obtain⟨a,rfl,h2⟩:=Eb e h;cases (show u=_ from r);unfold isKey;by_cases hk:k'=k
 ·subst hk;rw[acL rfl];exact @acL _ (aaG _) ⟨a,rfl,hs _ _ h2⟩
 ·rw[acN hk];refine @acN _ (aaG _) λ⟨b,e1,e2⟩=>hk ?_;cases e1;rw[hs _ _ h2] at e2;injection e2 with e2
  injection e2 with e2
  exact Ay e2
def sm{X:Cx}{f8:List (Addr×Obj)}{σ:St}{F H:Hp}{s:Vf}{A:V2}{x:D}{v:V}{u:Value}{k:List Key}(I:Inv X f8 σ H s)(hs:Same F H)(hu:A.units+6<cLine)(ex:eD x=some k)(hx:Den X.K F x v)(rx:RelV v u):
 ∀{ys:List D}{vs:List V}{aB:List Value}{ks:List (List Key)},jD ys=some ks->DenL X.K F ys vs->Vals vs aB->aB.any (isKey H k)=ze k ks/\∀t∈aB,EqAt A s t u (isKey H k t)
 |[],_,_,_,e,h,r=>by
  cases e;cases (show _=_ from h);cases r;exact⟨rfl,λt ht=>by cases ht⟩
 |y::ys,_,_,_,e,⟨w,ws,h1,h2,h3⟩,r=>by
  subst h1;unfold jD at e;split at e
  ·rename_i k' ks e1 e2;cases e;cases r with
   |cons r1 r2=>
    obtain⟨Qj,Qk⟩:=sm I hs hu ex hx rx e2 h3 r2;have hk:=r_ (k:=k) hs e1 h2 r1;refine⟨?_,λt ht=>?_⟩
    ·rw[Yp,Qj,hk];rfl
    ·rcases Vo.mp ht with rfl | ht
     ·rw[hk];exact(t9 I hs 6 A y x w v t u _ hu h2 hx r1 rx (GO e1 ex)).eq
     ·exact Qk t ht
  ·cases e
end L3
namespace L3
open PySem PySem.W PyProof.Rows
def di{α:Type}(b:Nat->Nat->Bool):KasT α->α
 | .ret a=>a
 | .ask i j k=>di b (k (b i j))
def ft{α β:Type}(b:Nat->Nat->Bool)(f:α->KasT β):∀t:KasT α,di b (t.bind f)=di b (f (di b t))
 | .ret _=>rfl
 | .ask i j k=>ft b f (k (b i j))
structure Lt (n:Nat) (b:Nat->Nat->Bool):Prop where
 tr:∀i j k,b i j=true->b j k=true->b i k=true
 UM:∀i j,b i j=true->b j i=false
 tot:∀i j,i<n->j<n->i≠j->b i j=true\/b j i=true
abbrev at'(p:Array Nat)(i:Nat):Nat:=p.getD i 0
def Ri(b:Nat->Nat->Bool)(p:Array Nat)(k:Nat):Prop:=∀i j,i<j->j<k->b (at' p i) (at' p j)=true
def Fa(b:Nat->Nat->Bool)(p:Array Nat)(k:Nat):Prop:=∀i j,i<j->j<k->b (at' p j) (at' p i)=true
structure PN (n:Nat) (p:Array Nat):Prop where
 sz:p.size=n
 lt:∀i,i<n->at' p i<n
 inj:∀i j,i<n->j<n->at' p i=at' p j->i=j
section
variable{n:Nat}{b:Nat->Nat->Bool}(L:Lt n b)
include L
theorem Ri.more{p:Array Nat}{k:Nat}(h:Ri b p k)(h1:1<=k)(e:b (at' p (k - 1)) (at' p k)=true):Ri b p (k+1):=λi j Aq hj=>by
 by_cases hk:j<k
 ·exact h i j Aq hk
 ·have:j=k:=by omega
  subst this;by_cases hi:i=j - 1
  ·subst hi;exact e
  ·exact L.tr _ _ _ (h i (j - 1) (by omega) (by omega)) e
theorem Fa.more{p:Array Nat}{k:Nat}(h:Fa b p k)(h1:1<=k)(e:b (at' p k) (at' p (k - 1))=true):Fa b p (k+1):=λi j Aq hj=>by
 by_cases hk:j<k
 ·exact h i j Aq hk
 ·have:j=k:=by omega
  subst this;by_cases hi:i=j - 1
  ·subst hi;exact e
  ·exact L.tr _ _ _ e (h i (j - 1) (by omega) (by omega))
theorem tJ{p:Array Nat}(P:PN n p):∀(f k:Nat),1<=k->k+f<=n->Ri b p k->k<=di b (kas_asc p f k)/\di b (kas_asc p f k)<=k+f/\Ri b p (di b (kas_asc p f k))/\(di b (kas_asc p f k)<k+f->b (at' p (di b (kas_asc p f k))) (at' p (di b (kas_asc p f k) - 1))=true)
 |0,k,h1,hn,h=>⟨Vj _,Vj _,h,λz=>acK z (Wc _)⟩
 |f+1,k,h1,hn,h=>by
  have e:di b (kas_asc p (f+1) k)=di b (if b (at' p k) (at' p (k - 1))=true then KasT.ret k else kas_asc p f (k+1)):=rfl;rw[e];by_cases hb:b (at' p k) (at' p (k - 1))=true
  ·rw[acI hb];exact⟨Vj _,by show k<=_;omega,h,λ_=>hb⟩
  ·rw[acJ hb];have hr:b (at' p (k - 1)) (at' p k)=true:=by
    rcases L.tot (at' p (k - 1)) (at' p k) (P.lt _ (by omega)) (P.lt _ (by omega)) (λz=>by have:=P.inj _ _ (by omega) (by omega) z;omega) with q | q
    ·exact q
    ·exact acK q hb
   obtain⟨a1,a2,a3,a4⟩:=tJ P f (k+1) (by omega) (by omega) (Ri.more L h h1 hr);exact⟨by omega,by omega,a3,λz=>a4 (by omega)⟩
theorem wg{p:Array Nat}(P:PN n p):∀(f k:Nat),1<=k->k+f<=n->Fa b p k->∃m,di b (kas_desc f p k 0)=(p,m,0)/\k<=m/\m<=k+f/\Fa b p m
 |0,k,h1,hn,h=>⟨k,rfl,Vj _,Vj _,h⟩
 |f+1,k,h1,hn,h=>by
  have e:di b (kas_desc (f+1) p k 0)=di b (if b (at' p k) (at' p (k - 1))=true then(if 0>0 then kas_desc f (kas_rev p (k - (0+1)) k) (k+1) 0 else kas_desc f p (k+1) 0)
   else .ask (p.getD (k - 1) 0) (p.getD k 0) λd=>if d=true then .ret (p,k,0) else kas_desc f p (k+1) (0+1)):=rfl
  rw[e];by_cases hb:b (at' p k) (at' p (k - 1))=true
  ·rw[acI hb,acJ (by omega)];obtain⟨m,e1,e2,e3,e4⟩:=wg P f (k+1) (by omega) (by omega) (Fa.more L h h1 hb);exact⟨m,e1,by omega,by omega,e4⟩
  ·rw[acJ hb];have hr:b (at' p (k - 1)) (at' p k)=true:=by
    rcases L.tot (at' p (k - 1)) (at' p k) (P.lt _ (by omega)) (P.lt _ (by omega)) (λz=>by have:=P.inj _ _ (by omega) (by omega) z;omega) with q | q
    ·exact q
    ·exact acK q hb
   refine⟨k,?_,Vj _,by omega,h⟩;show di b (if b (at' p (k - 1)) (at' p k)=true then KasT.ret (p,k,0) else kas_desc f p (k+1) (0+1))=_;rw[acI hr];rfl
end
def eA(p:Array Nat)(k:Nat):at' p k=(p[k]?).getD 0:=by
 unfold at';rw[Vv]
def Ft{p:Array Nat}{m:Nat}(hm:m<=p.size)(k:Nat):at' (kas_rev p 0 m) k=if k<m then at' p (m - 1 - k) else at' p k:=by
 have e:=getElem?_mirror_all (xs:=p) (i:=0) hm k;rw[eA];show (((mirror p 0 m ((m - 0) / 2))[k]?).getD 0)=_;rw[e];by_cases h:k<m
 ·rw[acI ⟨V1 _,h⟩,acI h,eA,Ye]
 ·rw[acJ (λz=>h z.2),acJ h,eA]
def C8{p:Array Nat}{k l:Nat}(hk:k<p.size)(hl:l<=k)(j:Nat):at' (bubble p k (k - l)) j=if j=l then at' p k else if l<j/\j<=k then at' p (j - 1) else at' p j:=by
 have e:=getElem?_bubble hk (k - l) (by omega) j;have e2:k - (k - l)=l:=by omega
 rw[e2] at e;rw[eA (bubble p k (k - l)),e,eA p k,eA p (j - 1),eA p j];by_cases c1:j=l
 ·rw[acI c1,acI c1]
 ·rw[acJ c1,acJ c1];by_cases c2:l<j/\j<=k
  ·rw[acI c2,acI c2]
  ·rw[acJ c2,acJ c2]
section
variable{n:Nat}{b:Nat->Nat->Bool}
def PN.rev{p:Array Nat}(P:PN n p){m:Nat}(hm:m<=n):PN n (kas_rev p 0 m):=by
 have ha:=Ft (p:=p) (m:=m) (by rw[P.sz];exact hm);refine⟨(mirror_size ..).trans P.sz,λi hi=>?_,λi j hi hj e=>?_⟩
 ·rw[ha];split
  ·exact P.lt _ (by omega)
  ·exact P.lt _ hi
 ·rw[ha,ha] at e;split at e<;>split at e
  ·have:=P.inj _ _ (by omega) (by omega) e;omega
  ·have:=P.inj _ _ (by omega) hj e;omega
  ·have:=P.inj _ _ hi (by omega) e;omega
  ·exact P.inj _ _ hi hj e
def PN.bub{p:Array Nat}(P:PN n p){k l:Nat}(hk:k<n)(hl:l<=k):PN n (bubble p k (k - l)):=by
 have ha:=C8 (p:=p) (k:=k) (l:=l) (by rw[P.sz];exact hk) hl;refine⟨(bubble_size ..).trans P.sz,λi hi=>?_,λi j hi hj e=>?_⟩
 ·rw[ha];split
  ·exact P.lt _ hk
  ·split
   ·exact P.lt _ (by omega)
   ·exact P.lt _ hi
 ·rw[ha,ha] at e;split at e
  ·split at e
   ·omega
   ·split at e
    ·have:=P.inj _ _ hk (by omega) e;omega
    ·have:=P.inj _ _ hk hj e;omega
  ·split at e
   ·split at e
    ·have:=P.inj _ _ (by omega) hk e;omega
    ·split at e
     ·have:=P.inj _ _ (by omega) (by omega) e;omega
     ·have:=P.inj _ _ (by omega) hj e;omega
   ·split at e
    ·have:=P.inj _ _ hi hk e;omega
    ·split at e
     ·have:=P.inj _ _ hi (by omega) e;omega
     ·exact P.inj _ _ hi hj e
def Fa.rev{p:Array Nat}(P:PN n p){m:Nat}(hm:m<=n)(h:Fa b p m):Ri b (kas_rev p 0 m) m:=λi j Aq hj=>by
 have ha:=Ft (p:=p) (m:=m) (by rw[P.sz];exact hm);rw[ha,ha,acI (by omega),acI hj];exact h _ _ (by omega) (by omega)
variable(L:Lt n b)
include L
theorem FX{p:Array Nat}(P:PN n p){m:Nat}(h1:1<=m)(hm:m<=n)(h:Fa b p m):∃k q,di b (kas_tail3 m n p)=(k,q)/\PN n q/\1<=k/\k<=n/\Ri b q k:=by
 unfold kas_tail3;rw[ft];obtain⟨a1,a2,a3,_⟩:=tJ L (P.rev hm) (n - m) m h1 (by omega) (Fa.rev P hm h);exact⟨_,_,rfl,P.rev hm,by omega,by omega,a3⟩
theorem Bj{p:Array Nat}(P:PN n p)(h2:2<=n):∃k q,di b (kas_count n p)=(k,q)/\PN n q/\1<=k/\k<=n/\Ri b q k:=by
 unfold kas_count;rw[ft];obtain⟨a1,a2,a3,a4⟩:=tJ L P (n - 1) 1 (Vj _) (by omega) (λi j Aq hj=>by omega);generalize di b (kas_asc p (n - 1) 1)=m at a1 a2 a3 a4;by_cases he:m=n
 ·subst he;rw[acI (by simp)];exact⟨m,p,rfl,P,by omega,Vj _,a3⟩
 ·rw[acJ (by simpa using he)];by_cases hg:m>1
  ·rw[acI hg];have hb:b (p.getD 0 0) (p.getD (m - 1) 0)=true:=a3 0 (m - 1) (by omega) (by omega);show∃k q,di b (if b (p.getD 0 0) (p.getD (m - 1) 0)=true then KasT.ret (m,p) else kas_descPart m n (kas_rev p 0 m))=(k,q)/\_;rw[acI hb];exact⟨m,p,rfl,P,by omega,by omega,a3⟩
  ·rw[acJ hg];have hm:m=1:=by omega
   subst hm;have hb:=a4 (by omega);unfold kas_descPart;rw[ft];obtain⟨m,e1,e2,e3,e4⟩:=wg L P (n - (1+1)) (1+1) (by omega) (by omega) (λi j Aq hj=>by
    have hi:i=0:=by omega
    have hj:j=1:=by omega
    subst hi hj;exact hb)
   rw[e1]
   dsimp only
   rw[acJ (by omega)];exact FX L P (by omega) (by omega) e4
theorem l7{p:Array Nat}(P:PN n p){k:Nat}(hk:k<n)(h:Ri b p k):∀(f l r:Nat),l<=r->r<=k->r - l<=f->(∀i,i<l->b (at' p i) (at' p k)=true)->(∀i,r<=i->i<k->b (at' p k) (at' p i)=true)->
 di b (kas_place p k f l r)<=k/\(∀i,i<di b (kas_place p k f l r)->b (at' p i) (at' p k)=true)/\∀i,di b (kas_place p k f l r)<=i->i<k->b (at' p k) (at' p i)=true
 |0,l,r,h1,h2,h3,h4,h5=>by
  have:r=l:=by omega
  subst this;exact⟨h2,h4,h5⟩
 |f+1,l,r,h1,h2,h3,h4,h5=>by
  unfold kas_place;by_cases RE:l>=r
  ·rw[acI RE];have:r=l:=by omega
   subst this;exact⟨h2,h4,h5⟩
  ·rw[acJ RE];have hm:(l+r) / 2<r:=by omega
   have Jc:l<=(l+r) / 2:=by omega
   show di b (if b (at' p k) (at' p ((l+r) / 2))=true then kas_place p k f l ((l+r) / 2) else kas_place p k f ((l+r) / 2+1) r)<=k/\(∀i,i<di b (if b (at' p k) (at' p ((l+r) / 2))=true then kas_place p k f l ((l+r) / 2) else kas_place p k f ((l+r) / 2+1) r)->_)/\∀i,di b (if b (at' p k) (at' p ((l+r) / 2))=true then kas_place p k f l ((l+r) / 2) else kas_place p k f ((l+r) / 2+1) r)<=i->_;by_cases hb:b (at' p k) (at' p ((l+r) / 2))=true
   ·rw[acI hb];refine l7 P hk h f l ((l+r) / 2) Jc (by omega) (by omega) h4 λi hi Tn=>?_;by_cases e:i=(l+r) / 2
    ·rw[e];exact hb
    ·exact L.tr _ _ _ hb (h _ _ (by omega) Tn)
   ·rw[acJ hb];have hr:b (at' p ((l+r) / 2)) (at' p k)=true:=by
     rcases L.tot (at' p ((l+r) / 2)) (at' p k) (P.lt _ (by omega)) (P.lt _ hk) (λz=>by have:=P.inj _ _ (by omega) hk z;omega) with q | q
     ·exact q
     ·exact acK q hb
    refine l7 P hk h f ((l+r) / 2+1) r (by omega) h2 (by omega) (λi hi=>?_) h5;by_cases e:i=(l+r) / 2
    ·rw[e];exact hr
    ·exact L.tr _ _ _ (h i ((l+r) / 2) (by omega) (by omega)) hr
theorem Ae:∀(f:Nat) {p:Array Nat}{k:Nat},PN n p->k+f<=n->Ri b p k->PN n (di b (kas_bin f p k))/\Ri b (di b (kas_bin f p k)) (k+f)
 |0,p,k,P,_,h=>⟨P,h⟩
 |f+1,p,k,P,hn,h=>by
  have hk:k<n:=by omega
  unfold kas_bin;rw[ft];obtain⟨a1,a2,a3⟩:=l7 L P hk h k 0 k (V1 _) (Vj _) (by omega) (λi hi=>by omega) (λi h1 h2=>by omega);generalize di b (kas_place p k k 0 k)=l at a1 a2 a3;have ha:=C8 (p:=p) (k:=k) (l:=l) (by rw[P.sz];exact hk) a1;have hR:Ri b (bubble p k (k - l)) (k+1):=λi j Aq hj=>by
   rw[ha,ha];by_cases c1:i=l
   ·rw[acI c1,acJ (by omega),acI ⟨by omega,by omega⟩];exact a3 _ (by omega) (by omega)
   ·rw[acJ c1];by_cases c2:j=l
    ·rw[acI c2,acJ (by omega)];exact a2 _ (by omega)
    ·rw[acJ c2];by_cases c3:l<i/\i<=k
     ·rw[acI c3,acI ⟨by omega,by omega⟩];exact h _ _ (by omega) (by omega)
     ·rw[acJ c3];by_cases c4:l<j/\j<=k
      ·rw[acI c4];exact h _ _ (by omega) (by omega)
      ·rw[acJ c4];exact h _ _ Aq (by omega)
  have:=Ae f (P.bub hk a1) (by omega) hR;rw[show k+(f+1)=k+1+f by omega];exact this
theorem FH(h2:2<=n):PN n (di b (kas_sort n))/\Ri b (di b (kas_sort n)) n:=by
 have P0:PN n (W2 (Vw n)):=by
  have e:∀i,i<n->at' (W2 (Vw n)) i=i:=λi hi=>by rw[eA];simp[hi]
  exact⟨by simp,λi hi=>by rw[e i hi];exact hi,λi j hi hj z=>by rw[e i hi,e j hj] at z;exact z⟩
 unfold kas_sort;rw[ft];obtain⟨k,q,e,P,k1,kn,hR⟩:=Bj L P0 h2;rw[e]
 dsimp only
 by_cases cN:k<n
 ·rw[acI cN];have:=Ae L (n - max k 1) (k:=max k 1) P (by omega) (by rw[show max k 1=k by omega];exact hR);rw[show max k 1+(n - max k 1)=n by omega] at this;exact this
 ·rw[acJ cN];have:k=n:=by omega
  subst this;exact⟨P,hR⟩
end
def Asks{α:Type}(n:Nat)(P:α->Prop):KasT α->Prop
 | .ret a=>P a
 | .ask i j k=>i<n/\j<n/\∀c,Asks n P (k c)
def Asks.bind{α β:Type}{n:Nat}{P:α->Prop}{Q:β->Prop}{f:α->KasT β}:∀{t:KasT α},Asks n P t->(∀a,P a->Asks n Q (f a))->Asks n Q (t.bind f)
 | .ret a,h,hf=>hf a h
 | .ask i j k,h,hf=>⟨h.1,h.2.1,λc=>Asks.bind (h.2.2 c) hf⟩
def wp_run{α:Type}{n:Nat}{P:α->Prop}{b:Nat->Nat->Bool}{cmp:Nat->Nat->(Bool->Vf->Prop)->Vf->Prop}{Q:α->Vf->Prop}{s:Vf}(hc:∀i j C,i<n->j<n->C (b i j) s->cmp i j C s):∀{t:KasT α},Asks n P t->Q (di b t) s->t.kasWp cmp Q s
 | .ret a,_,h=>h
 | .ask i j k,ha,h=>hc i j _ ha.1 ha.2.1 (wp_run hc (ha.2.2 _) h)
def Below(n:Nat)(p:Array Nat):Prop:=∀x∈p,x<n
section
variable{n:Nat}(hn:0<n)
include hn
theorem Below.at{p:Array Nat}(h:Below n p)(i:Nat):at' p i<n:=by
 rw[eA];cases e:p[i]? with
 |none=>exact hn
 |some x=>exact h x (Array.mem_of_getElem? e)
theorem Below.rev{p:Array Nat}(h:Below n p)(i j:Nat):Below n (kas_rev p i j):=λx hx=>h x ((mirror_perm p i j ((j - i) / 2)).mem_iff.mp hx)
theorem Below.bub{p:Array Nat}(h:Below n p)(k d:Nat):Below n (bubble p k d):=λx hx=>h x ((bubble_perm p k d).mem_iff.mp hx)
theorem n9{p:Array Nat}(h:Below n p):∀f k,Asks n (λ_=>True) (kas_asc p f k)
 |0,k=>trivial
 |f+1,k=>⟨Below.at hn h _,Below.at hn h _,λc=>by
  show Asks n _ (if c=true then KasT.ret k else kas_asc p f (k+1));cases c
  ·exact n9 h f (k+1)
  ·exact trivial⟩
theorem jg:∀f {p:Array Nat} k q,Below n p->Asks n (λr=>Below n r.1) (kas_desc f p k q)
 |0,p,k,q,h=>h
 |f+1,p,k,q,h=>⟨Below.at hn h _,Below.at hn h _,λc=>by
  cases c
  ·refine⟨Below.at hn h _,Below.at hn h _,λd=>?_⟩;cases d
   ·exact jg f _ _ h
   ·exact h
  ·show Asks n _ (if q>0 then kas_desc f (kas_rev p (k - (q+1)) k) (k+1) 0 else kas_desc f p (k+1) 0);split
   ·exact jg f _ _ (Below.rev hn h _ _)
   ·exact jg f _ _ h⟩
theorem rn{p:Array Nat}(h:Below n p)(m r:Nat):Asks n (λx=>Below n x.2) (kas_tail3 m r p):=Asks.bind (n9 hn (Below.rev hn h 0 m) _ _) λ_ _=>Below.rev hn h 0 m
theorem n_{p:Array Nat}(h:Below n p)(m r:Nat):Asks n (λx=>Below n x.2) (kas_descPart m r p):=Asks.bind (jg hn _ _ _ h) λx hx=>by
 split
 ·exact rn hn (Below.rev hn hx _ _) _ _
 ·exact rn hn hx _ _
theorem yz{p:Array Nat}(h:Below n p)(r:Nat):Asks n (λx=>Below n x.2) (kas_count r p):=Asks.bind (n9 hn h _ _) λm _=>by
 split
 ·exact h
 ·split
  ·refine⟨Below.at hn h _,Below.at hn h _,λc=>?_⟩;cases c
   ·exact n_ hn (Below.rev hn h _ _) _ _
   ·exact h
  ·exact n_ hn h _ _
theorem jP{p:Array Nat}(h:Below n p)(k:Nat):∀f l r,Asks n (λ_=>True) (kas_place p k f l r)
 |0,l,r=>trivial
 |f+1,l,r=>by
  unfold kas_place;split
  ·exact trivial
  ·refine⟨Below.at hn h _,Below.at hn h _,λc=>?_⟩;cases c
   ·exact jP h k f _ _
   ·exact jP h k f _ _
theorem vQ:∀f {p:Array Nat} k,Below n p->Asks n (λ_=>True) (kas_bin f p k)
 |0,p,k,h=>trivial
 |f+1,p,k,h=>Asks.bind (jP hn h k _ _ _) λl _=>vQ f _ (Below.bub hn h _ _)
theorem A8:Asks n (λ_=>True) (kas_sort n):=by
 have h0:Below n (W2 (Vw n)):=λx hx=>by simpa using hx
 refine Asks.bind (yz hn h0 n) λx hx=>?_;split
 ·exact vQ hn _ _ hx
 ·exact trivial
end
def d_:List Int->List Int->Bool
 |[],[]=>false
 |[],_::_=>true
 |_::_,[]=>false
 |x::xs,y::ys=>if x=y then d_ xs ys else decide (x<y)
def uq:∀a b c:List Int,d_ a b=true->d_ b c=true->d_ a c=true
 |[],[],_,h,_=>by cases h
 |[],_::_,[],_,h=>by cases h
 |[],_::_,_::_,_,_=>rfl
 |_::_,[],_,h,_=>by cases h
 |_::_,_::_,[],_,h=>by cases h
 |x::a,y::b,z::c,h1,h2=>by
  unfold d_ at h1 h2⊢;by_cases e1:x=y
  ·subst e1;rw[acI rfl] at h1;by_cases e2:x=z
   ·subst e2;rw[acI rfl] at h2⊢;exact uq a b c h1 h2
   ·rw[acJ e2] at h2⊢;exact h2
  ·rw[acJ e1] at h1;have h1:=acO h1;by_cases e2:y=z
   ·subst e2;rw[acJ e1];exact acL h1
   ·rw[acJ e2] at h2;have h2:=acO h2;rw[acJ (by omega)];exact acL (by omega)
def kL:∀a b:List Int,d_ a b=true->d_ b a=false
 |[],[],h=>by cases h
 |[],_::_,_=>rfl
 |_::_,[],h=>by cases h
 |x::a,y::b,h=>by
  unfold d_ at h⊢;by_cases e:x=y
  ·subst e;rw[acI rfl] at h⊢;exact kL a b h
  ·rw[acJ e] at h;have h:=acO h;rw[acJ (λz=>e z.symm)];exact acN (by omega)
def pd:∀a b:List Int,a≠b->d_ a b=true\/d_ b a=true
 |[],[],h=>acK rfl h
 |[],_::_,_=> .inl rfl
 |_::_,[],_=> .inr rfl
 |x::a,y::b,h=>by
  unfold d_;by_cases e:x=y
  ·subst e;rw[acI rfl,acI rfl];exact pd a b λz=>h (by rw[z])
  ·rw[acJ e,acJ (λz=>e z.symm)];by_cases q:x<y
   ·exact .inl (acL q)
   ·exact .inr (acL (by omega))
section
variable{prog:VG}{w:World}{A:V2}{E:Value->Vf->Prop}{s:Vf}
def wR{Q:Bool->Vf->Prop}:∀{us vs:List Value}{xs ys:List Int}(i:Nat) {fin:Bool},Xz us xs->Xz vs ys->fin=decide (xs.length<ys.length)->Q (d_ xs ys) s->KatLex prog w A true fin Q (us.zip vs) i s
 |_,_,_,_,i,_, .nil, .nil,e,h=>by subst e;exact kat_nil h
 |_,_,_,_,i,_, .nil, .cons y t r,e,h=>by subst e;exact kat_nil h
 |_,_,_,_,i,_, .cons x t r, .nil,e,h=>by subst e;exact kat_nil h
 |_,_,_,_,i,_, .cons (vs:=us) (ns:=xs) x t r, .cons (vs:=vs) (ns:=ys) y u r',e,h=>by
  refine kat_cons (wpAny_eqBool_int ?_);by_cases q:x=y
  ·subst q;rw[show (x==x)=true by simp];refine kat_yes (wR (i+1) r r' (by rw[e];simp) ?_);unfold d_ at h;rw[acI rfl] at h;exact h
  ·rw[show (x==y)=false by simpa using q];unfold d_ at h;rw[acJ q] at h;refine kat_no ?_;by_cases hi:(i==0)=true
   ·rw[hi];exact oneLt_int h
   ·rw[show (i==0)=false by simpa using hi];exact kat_one _ _ (aaJ h)
def TupsAt(h:Heap):List Value->List (List Int)->Prop
 |[],[]=>True
 |v::vs,k::ks=>(∃a o us m,v= .ref a/\h.get? a=some o/\o.cls= .type "tuple"/\o.data= .seq (W2 us) m/\Xz us k/\k≠[])/\TupsAt h vs ks
 |_,_=>False
def TupsAt.len{h:Heap}:∀{vs:List Value}{ks:List (List Int)},TupsAt h vs ks->vs.length=ks.length
 |[],[],_=>rfl
 |v::vs,k::ks,t=>by rw[Vk,Vk,TupsAt.len t.2]
 |[],_::_,t=>t.elim
 |_::_,[],t=>t.elim
def TupsAt.get{h:Heap}:∀{vs:List Value}{ks:List (List Int)}{i:Nat},TupsAt h vs ks->i<vs.length->∃a o us m,vs.getD i Wi= .ref a/\h.get? a=some o/\o.cls= .type "tuple"/\o.data= .seq (W2 us) m/\Xz us (ks.getD i [])/\ks.getD i []≠[]
 |v::vs,k::ks,0,t,_=>t.1
 |v::vs,k::ks,i+1,t,hi=>TupsAt.get (i:=i) t.2 (by simpa using hi)
 |[],_,_,_,hi=>by simp at hi
 |_::_,[],_,t,_=>t.elim
def TupsAt.keep{h h':Heap}{a:Addr}(k:∀b o,b≠a->h.get? b=some o->h'.get? b=some o)(ha:∀o,h.get? a=some o->o.cls≠ .type "tuple"):∀{vs:List Value}{ks:List (List Int)},TupsAt h vs ks->TupsAt h' vs ks
 |[],[],_=>trivial
 |v::vs,x::ks,⟨⟨b,o,us,m,e1,e2,e3,e4⟩,t⟩=>⟨⟨b,o,us,m,e1,k b o (λz=>ha o (by rw[<-z];exact e2) e3) e2,e3,e4⟩,TupsAt.keep k ha t⟩
 |[],_::_,t=>t.elim
 |_::_,[],t=>t.elim
def oW:∀{us:List Value}{xs:List Int},Xz us xs->us.length=xs.length
 |_,_, .nil=>rfl
 |_,_, .cons x t r=>by rw[Vk,Vk,oW r]
def TupsAt.firsts{M:Model}{h:Heap}:∀{vs:List Value}{ks:List (List Int)},TupsAt h vs ks->∃fs,KatTups h vs fs/\fs.length=vs.length/\∀v∈fs,Looks M h (typeOf v) (.type "int")
 |[],[],_=>⟨[],KatTups.nil,rfl,λ_ z=>by cases z⟩
 |v::vs,k::ks,⟨⟨a,o,us,m,e1,e2,e3,e4,e5,e6⟩,t⟩=>by
  obtain⟨fs,q1,q2,q3⟩:=TupsAt.firsts (M:=M) t;subst e1;cases e5 with
  |nil=>exact acK rfl e6
  |cons x t r=>
   refine⟨.int x t::fs,KatTups.cons e2 e3 e4 (by simp) q1,by simp[q2],λv hv=>?_⟩;rcases Vo.mp hv with rfl | hv
   ·exact show Looks M h (pure (Y2 "int")) (Y2 "int") from .now
   ·exact q3 v hv
 |[],_::_,t=>t.elim
 |_::_,[],t=>t.elim
def asked{vs:List Value}{ks:List (List Int)}(t:TupsAt s.heap vs ks)(i j:Nat)(C:Bool->Vf->Prop)(hi:i<vs.length)(hj:j<vs.length)(h:C (d_ (ks.getD i []) (ks.getD j [])) s):kas_ask prog w A (tuples' true) vs i j C s:=by
 obtain⟨a,o,us,m,e1,e2,_,e4,e5,_⟩:=t.get hi;obtain⟨a',o',U9,m',CG,LO,_,So,Q9,_⟩:=t.get hj;unfold kas_ask;rw[e1,CG];refine kat_lt e2 e4 LO So (wR 0 e5 Q9 ?_ h);rw[Vl,Vl,oW e5,oW Q9]
def Ex{α:Type}{l:List α}(h:l.Nodup){i j:Nat}(hi:i<l.length)(hj:j<l.length)(e:l[i]=l[j]):i=j:=by
 rcases Nat.lt_trichotomy i j with q | q | q
 ·exact acK e (Wj.mp h i j hi hj q)
 ·exact q
 ·exact acK e.symm (Wj.mp h j i hj hi q)
def tm{a:Addr}{c:Nat}{vs:List Value}{ks:List (List Int)}{P:PySem.Fin->Vf->Prop}(ho:s.heap.get? a=some (X2 "list" vs.toArray c))(ht:TupsAt s.heap vs ks)(hd:ks.Nodup)(Gg:vs.length<64)
 (h:∀(p:Array Nat) (h':Heap) (c':Nat),PN vs.length p->Ri (λi j=>d_ (ks.getD i []) (ks.getD j [])) p vs.length->h'.get? a=some (X2 "list" (W2 (p.toList.map λi=>vs.getD i Wi)) c')->
  (∀b o,b≠a->s.heap.get? b=some o->h'.get? b=some o)->P (.done (.ret .none)) {s with heap:=h'}):wpAny (model prog w) A (X3.«list.sort» ⟨[.ref a],[]⟩) P E s:=by
 have CL:VB=16777216:=Xe;have s1:=VT s.heap a (XE λ_=>(#[]:Array Value));obtain⟨e1,RI⟩:∃e1,(s.heap.update a (XE λ_=>(#[]:Array Value))).get? a=some (X2 "list" #[] e1):=⟨_,get?_update_seq ho λ_=> #[]⟩
 have k1:∀b o,b≠a->s.heap.get? b=some o->(((s.heap.update a (XE λ_=>(#[]:Array Value))).push (X2 "tuple" vs.toArray 0)).push (X2 "list" #[] 0)).get? b=some o:=λb o hb e=>
  Vd _ (Vd _ ((s1.2 b hb).trans e))
 have PL:=Vd (X2 "list" #[] 0) (Vd (X2 "tuple" vs.toArray 0) RI);have t3:=ht.keep k1 (λo e z=>by rw[ho] at e;cases e;exact acK (Value.type.inj z) (by decide));have fin:∀(st:SortSt) (p:Array Nat),PN vs.length p->Ri (λi j=>d_ (ks.getD i []) (ks.getD j [])) p vs.length->(arrOf st).map (·.2)=W2 (p.toList.map λi=>vs.getD i Wi)->failedOf st=none->
  wpAny (model prog w) A (do
   let touched:=(<-seqEpoch a) !=e1
   Builtin.List.listUpdate (.ref a) λ_=>(arrOf st).map (·.2)
   if let some e:=failedOf st then rule "list.sort.comparison-raised";throw e
   if touched then rule "list.sort.modified";raiseError "ValueError" "list modified during sort"
   ret .none) P E {s with heap:=((s.heap.update a (XE λ_=>(#[]:Array Value))).push (X2 "tuple" vs.toArray 0)).push (X2 "list" #[] 0)}:=λst p hp hr he hf=>by
  have hz:(W2 (p.toList.map λi=>vs.getD i Wi)).size=vs.length:=by rw[Vl,Vb,Vh,hp.sz]
  rw[he,hf];refine U_ (seqEpoch_at PL rfl (U_ (listUpdate_at PL rfl ?_ (V1 _) (by rw[hz,CL];omega))));simp only[bne_self_eq_false,VC,if_false];have s2:=VT (((s.heap.update a (XE λ_=>(#[]:Array Value))).push (X2 "tuple" vs.toArray 0)).push (X2 "list" #[] 0)) a (XE λ_=>W2 (p.toList.map λi=>vs.getD i Wi));exact Va (h p _ _ hp hr (get?_update_seq PL λ_=>W2 (p.toList.map λi=>vs.getD i Wi)) λb o hb e=>(s2.2 b hb).trans (k1 b o hb e))
 rw[list_sort_plain];refine U_ (listItems_at ho rfl (U_ (listUpdate_at ho rfl (U_ (seqEpoch_at RI rfl ?_)) (by rw[Vl,CL];omega) (V1 _))));refine U_ (wpAny_newTuple (U_ (acb (Wf ?_) (V1 _))) (by show vs.length<=_;rw[CL];omega));show wpAny (model prog w) A _ P E {s with heap:=((s.heap.update a (XE λ_=>(#[]:Array Value))).push (X2 "tuple" vs.toArray 0)).push (X2 "list" #[] 0)}
 dsimp only
 by_cases hs:vs.toArray.size<2
 ·rw[acI hs,acI hs];have Jb:vs.length<2:=by simpa using hs
  refine U_ (Va (U_ (Va ?_)));refine fin (SortSt.mk' general' (vs.toArray.zip vs.toArray) #[] 7 none) (W2 (Vw vs.length)) ⟨by simp,λi hi=>?_,λi j hi hj _=>by omega⟩ (λi j Aq hj=>by omega) ?_ rfl
  ·rw[eA];simp[hi]
  ·show (vs.toArray.zip vs.toArray).map (·.2)=_;apply Array.toList_inj.mp;refine aax (by simp) λi a1 a2=>?_;simp at a1;simp[a1]
 ·rw[acJ hs,acJ hs];have Jb:2<=vs.length:=by
   have:¬vs.length<2:=by simpa using hs
   omega
  obtain⟨fs,q1,q2,q3⟩:=t3.firsts (M:=model prog w);refine U_ (kat_kind q1 (by omega) q3 rfl ?_);have hb:Lt vs.length (λi j=>d_ (ks.getD i []) (ks.getD j [])):=⟨λi j k=>uq _ _ _,λi j=>kL _ _,λi j hi hj Aq=>pd _ _ λz=>Aq (by
   rw[ht.len] at hi hj;rw[VN,VN,Vg hi,Vg hj] at z;exact Ex hd hi hj (by simpa using z))⟩
  obtain⟨r1,r2⟩:=FH hb Jb;have run:=kat_run (prog:=prog) (w:=w) (A:=A) (E:=E) (ks:=vs) (vs:=vs) (κ:=tuples' true) (Q:=λst s'=>s'={s with heap:=((s.heap.update a (XE λ_=>(#[]:Array Value))).push (X2 "tuple" vs.toArray 0)).push (X2 "list" #[] 0)}/\∃p,PN vs.length p/\Ri (λi j=>d_ (ks.getD i []) (ks.getD j [])) p vs.length/\(arrOf st).map (·.2)=W2 (p.toList.map λi=>vs.getD i Wi)/\failedOf st=none)
   (G:=λp s'=>s'={s with heap:=((s.heap.update a (XE λ_=>(#[]:Array Value))).push (X2 "tuple" vs.toArray 0)).push (X2 "list" #[] 0)}/\PN vs.length p/\Ri (λi j=>d_ (ks.getD i []) (ks.getD j [])) p vs.length) rfl Jb Gg
   (λp qi s' a1 a2 a3 a4=>⟨a4.1,p,a4.2.1,a4.2.2,kat_snds rfl a2,a3⟩)
   (wp_run (s:={s with heap:=((s.heap.update a (XE λ_=>(#[]:Array Value))).push (X2 "tuple" vs.toArray 0)).push (X2 "list" #[] 0)}) (λi j C hi hj hC=>asked t3 i j C hi hj hC) (A8 (by omega)) ⟨rfl,r1,r2⟩)
  refine U_ (Wl run ?_ λ_ _ e=>e);rintro⟨⟨⟩,qi⟩ s' ⟨rfl,p,a1,a2,a3,a4⟩;exact fin qi p a1 a2 a3 a4
end
section
variable{prog:VG}{w:World}{A:V2}{E:Value->Vf->Prop}{s:Vf}
def sf{d:Addr}{od:Obj}{es:Array XA}{ep:Nat}{Q:Value->Vf->Prop}(lo:(d==W0)=false)(ho:s.heap.get? d=some od)(hx:od.ExactDict)(hd:od.data= .dict es ep)
 (hQ:Q (.ref s.heap.objs.size) {s with heap:=s.heap.push {cls:= .type "dict_keyiterator",data:= .fields #[.ref d, .int 0 0, .int es.size 0, .int ep 0]} }):wpAny (model prog w) A (ab1 (.ref d)) Q E s:=by
 have hT:s.TypeIs (.ref d) "dict":=⟨od,ho,hx.1⟩
 refine aaO hT F.slot_dict_iter (Wx F.slot_dict_iter hT F.entry_dict_iter ?_ (F.args_dict_iter_1 _));unfold X3.«dict.__iter__» Builtin.Dict.dictSlotNone;refine U_ (U_ (ZQ hT ?_));show wpAny _ _ (pure (VQ d)) _ _ s;refine Va ?_;show wpAny _ _ (YW d>>=_) _ _ s;unfold YW;rw[acJ (by rw[lo];exact VM)];refine U_ (Va (U_ (Xc ho hd (U_ (Y0 ho hd ?_)))));refine U_ (Wg (Va ⟨_,rfl,"dict_keyiterator",_,⟨_,Vq _ rfl,rfl⟩,F.slot_dict_keyiterator_next.lookup,?_⟩));simpa[Yg] using hQ
def w9{it d:Addr}{od:Obj}{es:Array XA}{i ep:Nat}{e:XA}{Q:Option Value->Vf->Prop}(hit:s.heap.IsKeyIter it d i es.size ep)(BC:s.heap.get? d=some od)(nE:od.data= .dict es ep)(hx:es[i]? =some e)
 (hQ:∀h',h'.IsKeyIter it d (i+1) es.size ep->WQ it s.heap h'->Q (some e.key) {s with heap:=h'}):wpAny (model prog w) A (YM (.ref it)) Q E s:=by
 obtain⟨o,ho,hc,hd⟩:=id hit;have cN:i<es.size:=(V8.mp hx).1;have Kc:Zn "dict_keyiterator"=false:=by decide
 unfold YM;refine U_ (aaz (Xa (name:=V0 "__next__") hit.typeIs XQ
  (Wx XQ hit.typeIs aaZ ?_ (aaM _))))
 refine U_ (Va (U_ (U_ ?_)))
 first | refine U_ (XJ hit.typeIs (Va ?_)) | refine U_ (Ys hit.typeIs (Va ?_))
 refine U_ (aad ho hd ?_);simp only[Kc,VC,if_false];show wpAny _ _ (if (VQ d==Wi)=true then _ else _) _ _ s;rw[acJ (show¬((VQ d==Wi)=true) from VM)];refine U_ (Va (U_ (Xc BC nE ?_)));rw[acJ (by simp)];refine U_ (Va (U_ (Y0 BC nE ?_)));rw[acJ (by simp)];refine Va ?_;simp only[show¬((i:Int)<0) from by omega,if_false,Zc,hx];refine U_ ?_
 first | refine U_ (XJ hit.typeIs (Va ?_)) | refine U_ (Ys hit.typeIs (Va ?_))
 refine U_ (wpAny_isOneOf_keyiter hit.typeIs ?_);show wpAny _ _ (acg (.ref it) 1 (Yg ((i:Int)+1))>>=_) _ _ s;refine U_ (Zi ho hd (by simp) ?_);have Bz:(s.heap.update it (Z9 (·.setIfInBounds 1 (Yg ((i:Int)+1))))).IsKeyIter it d (i+1) es.size ep:=
  ⟨_,Wb _ ho (ZF (XI hd _)),(aam ..).trans hc,by rw[XI hd];simp[Yg]⟩
 refine U_ (Wf (U_ (wpAny_isOneOf_keyiter (s:={s with heap:=s.heap.update it (Z9 (·.setIfInBounds 1 (Yg ((i:Int)+1))))}) Bz.typeIs ?_)));show wpAny _ _ (pure e.key) _ _ _;exact Va (Va ⟨_,rfl,Va (hQ _ Bz (VT ..))⟩)
def rJ{it d:Addr}{od:Obj}{es:Array XA}{ep i:Nat}{Q:Option Value->Vf->Prop}(hh:A.handled=none)(hit:s.heap.IsKeyIter it d i es.size ep)(hi:es.size<=i)(BC:s.heap.get? d=some od)(nE:od.data= .dict es ep)
 (hQ:∀h',ab9 it s.heap h'->Q none {s with heap:=h'}):wpAny (model prog w) A (YM (.ref it)) Q E s:=by
 obtain⟨o,ho,hc,hd⟩:=id hit;have Kc:Zn "dict_keyiterator"=false:=by decide
 unfold YM;refine U_ (aaz (Xa (name:=V0 "__next__") hit.typeIs XQ
  (Wx XQ hit.typeIs aaZ ?_ (aaM _))))
 refine U_ (Va (U_ (U_ ?_)))
 first | refine U_ (XJ hit.typeIs (Va ?_)) | refine U_ (Ys hit.typeIs (Va ?_))
 refine U_ (aad ho hd ?_);simp only[Kc,VC,if_false];show wpAny _ _ (if (VQ d==Wi)=true then _ else _) _ _ s;rw[acJ (show¬((VQ d==Wi)=true) from VM)];refine U_ (Va (U_ (Xc BC nE ?_)));rw[acJ (by simp)];refine U_ (Va (U_ (Y0 BC nE ?_)));rw[acJ (by simp)];refine Va ?_;simp only[show¬((i:Int)<0) from by omega,if_false,Zc,Yu hi];refine U_ ?_
 first | refine U_ (XJ hit.typeIs (Va ?_)) | refine U_ (Ys hit.typeIs (Va ?_))
 show wpAny _ _ (acg (.ref it) 0 .none>>=_) _ _ s;refine U_ (Zi ho hd (by simp) ?_);show wpAny _ _ (newExc (.type "StopIteration") []>>=_) _ _ _;refine U_ ?_;simp only[newExc,newTuple];refine U_ (Wg ?_ (by size_fits));refine U_ (m:=aaf _ _) (ZC (a:=Wi) (by first | rfl | (simp only[aaf];rfl)) ?_);refine Wg ?_ (by size_fits);simp only[raiseNew];refine U_ (wpAny_handled ?_);rw[show A.in1.handled=none from hh];refine U_ (Va (wpAny_throw ?_));refine U_ (ZJ (T:="StopIteration") (b:=true) ⟨_,Vq _ rfl,rfl⟩ isSubtype_stop ?_);exact Va (hQ _ (((VT ..).extBut.push _).push _))
def Dp{it d:Addr}{od:Obj}{es:Array XA}{ep:Nat}{Q:Option Value->Vf->Prop}(hh:A.handled=none)(hit:s.heap.IsKeyIter it d es.size es.size ep)(BC:s.heap.get? d=some od)(nE:od.data= .dict es ep)
 (hQ:∀h',ab9 it s.heap h'->Q none {s with heap:=h'}):wpAny (model prog w) A (YM (.ref it)) Q E s:=rJ hh hit (Vj _) BC nE hQ
def ID(es:Array XA):Nat->Value->Prop:=λi v=>∃e,es[i]? =some e/\v=e.key
def zW(hh:A.handled=none)(I d:Addr)(gh:d≠I){od:Obj}{es:Array XA}{ep:Nat}(nE:od.data= .dict es ep):
 Walks prog w A I [I,d] [I] es.size (ID es) (λi h=>h.IsKeyIter I d i es.size ep/\h.get? d=some od) where
 sub:=λb hb=>by simp at hb;simp[hb]
 frame:=λ_ _ _ st hk=>⟨st.1.at λo e=>hk I (by simp) o e,hk d (by simp) _ st.2⟩
 item:=λi s Q E hi st hQ=>by
  have hx:es[i]? =some es[i]:=Vu hi;exact w9 st.1 st.2 nE hx λh' Bz wH=>hQ _ h' s.toks ⟨_,hx,rfl⟩ ⟨Bz,(wH.2 d gh).trans st.2⟩ λb o hb e=>wH.extBut b o (λh=>hb (by simp[h])) e
 done:=λs Q E st hQ=>Dp hh st.1 st.2 nE λh' Pn=>hQ h' s.toks λb o hb e=>Pn b o (λh=>hb (by simp[h])) e
 self:=λ_ _ _ _ st hQ=>wpAny_pyIter_keyiter st.1 hQ
def FJ{d:Addr}{od:Obj}{es:Array XA}{ep:Nat}(lo:(d==W0)=false)(hx:od.ExactDict)(nE:od.data= .dict es ep):KdlSrc prog w "dict" d d es.size (ID es) (λh=>h.get? d=some od) where
 type:=λ_ hm=>⟨od,hm,hx.1⟩
 there:=λ_ hm=>⟨Vr hm,Vr hm⟩
 keep:=λ_ _ hm hk=>hk d (.inl rfl) od hm
 notList:=by decide
 notTuple:=by decide
 hint:=λ_ _ s _ hm hq=>kdl_hint_dict ⟨od,hm,hx.1⟩ hq
 iter:=λ_ _ hh hm=>⟨_,_,(λ_ _ hq=>sf lo hm hx nE hq),zW hh _ d (VH (Vr hm)) nE,⟨⟨_,Vq _ rfl,rfl,rfl⟩,Vd _ hm⟩⟩
end
end L3
namespace L3
open PySem
def insI(k:List Int):List (List Int)->List (List Int)
 |[]=>[k]
 |x::r=>if d_ k x then k::x::r else x::insI k r
def sortI:List (List Int)->List (List Int)
 |[]=>[]
 |k::r=>insI k (sortI r)
def yx(l:List (List Int)):Prop:=l.Pairwise λa b=>d_ a b=true
def oV{k x:List Int}:∀{l:List (List Int)},x∈insI k l↔x=k\/x∈l
 |[]=>by simp[insI]
 |y::r=>by
  unfold insI;split
  ·simp
  ·rw[Vo,oV,Vo];constructor
   ·rintro(h | h | h)<;>simp[h]
   ·rintro(h | h | h)<;>simp[h]
def rV{k:List Int}:∀{l:List (List Int)},yx l->k∉l->yx (insI k l)
 |[],_,_=>List.pairwise_singleton _ _
 |x::r,h,hk=>by
  have h:=WE.mp h;unfold insI;split
  ·rename_i q;refine WE.mpr ⟨λy hy=>?_,WE.mpr h⟩;rcases Vo.mp hy with rfl | hy
   ·exact q
   ·exact uq _ _ _ q (h.1 y hy)
  ·rename_i q;have hx:d_ x k=true:=by
    rcases pd k x (λz=>hk (by rw[z];exact Ve ..)) with z | z
    ·exact acK z q
    ·exact z
   refine WE.mpr ⟨λy hy=>?_,rV h.2 λz=>hk (Vc _ z)⟩;rcases oV.mp hy with rfl | hy
   ·exact hx
   ·exact h.1 y hy
def dJ{x:List Int}:∀{l:List (List Int)},x∈sortI l↔x∈l
 |[]=>Iff.rfl
 |k::r=>by unfold sortI;rw[oV,dJ,Vo]
def fO:∀{l:List (List Int)},l.Nodup->yx (sortI l)
 |[],_=>Zu
 |k::r,h=>by
  have h:=WG.mp h;exact rV (fO h.2) λz=>h.1 (dJ.mp z)
def lu:∀{a b:List (List Int)},yx a->yx b->(∀x,x∈a↔x∈b)->a=b
 |[],[],_,_,_=>rfl
 |[],y::b,_,_,h=>by have:=(h y).mpr (Ve ..);cases this
 |x::a,[],_,_,h=>by have:=(h x).mp (Ve ..);cases this
 |x::a,y::b,ha,hb,h=>by
  have ha:=WE.mp ha;have hb:=WE.mp hb;have e:x=y:=by
   rcases Vo.mp ((h x).mp (Ve ..)) with q | q
   ·exact q
   ·rcases Vo.mp ((h y).mpr (Ve ..)) with p | p
    ·exact p.symm
    ·have z1:=hb.1 x q;have z2:=ha.1 y p;rw[kL _ _ z1] at z2;cases z2
  subst e;have RS:∀k,d_ k k≠true:=λk z=>by have:=kL _ _ z;rw[z] at this;cases this
  rw[lu ha.2 hb.2 λz=>?_];constructor
  ·intro hz;rcases Vo.mp ((h z).mp (Vc _ hz)) with q | q
   ·subst q;exact acK (ha.1 z hz) (RS z)
   ·exact q
  ·intro hz;rcases Vo.mp ((h z).mpr (Vc _ hz)) with q | q
   ·subst q;exact acK (hb.1 z hz) (RS z)
   ·exact q
def zD:∀(n:Nat) (l:List Nat),l.Nodup->(∀x∈l,x<n)->l.length=n->∀k,k<n->k∈l
 |0,_,_,_,_,k,hk=>by omega
 |n+1,l,hd,hl,hn,k,hk=>by
  by_cases h:n∈l
  ·by_cases e:k=n
   ·subst e;exact h
   ·refine List.mem_of_mem_erase (zD n (l.erase n) (hd.erase n) (λx hx=>?_) (by rw[Y9 h,hn];rfl) k (by omega));have hx:=hd.mem_erase_iff.mp hx;have:=hl x hx.2;have:=hx.1;omega
  ·cases l with
   |nil=>simp at hn
   |cons x r=>
    have hd:=WG.mp hd;have lt:∀y∈x::r,y<n:=λy hy=>by
     have:=hl y hy;have:y≠n:=λz=>h (by rw[<-z];exact hy);omega
    exact acK (zD n r hd.2 (λy hy=>lt y (Vc _ hy)) (by simpa using hn) x (lt x (Ve ..))) hd.1
def tq{ks:List (List Int)}{p:Array Nat}(hd:ks.Nodup)(P:PN ks.length p)(R:Ri (λi j=>d_ (ks.getD i []) (ks.getD j [])) p ks.length):(p.toList.map λi=>ks.getD i [])=sortI ks:=by
 have hsz:p.toList.length=ks.length:=by rw[Vh];exact P.sz
 have LS:∀i (h:i<p.toList.length),p.toList[i]=at' p i:=λi h=>by
  have h':i<p.size:=by rw[Vh] at h;exact h
  rw[eA,Vu h'];simp
 refine lu ?_ (fO hd) λx=>?_
 ·refine Wj.mpr λi j hi hj Aq=>?_;rw[Vb] at hi hj;rw[Xj,Xj,LS i hi,LS j hj];exact R i j Aq (by omega)
 ·rw[dJ];constructor
  ·intro hx;obtain⟨i,hi,rfl⟩:=Vp.mp hx;obtain⟨j,hj,rfl⟩:=Wk.mp hi;have:=P.lt j (by omega);rw[LS j hj,VN,Vg this];exact X9 this
  ·intro hx;obtain⟨k,hk,rfl⟩:=Wk.mp hx;have Ar:k∈p.toList:=by
    have hn:p.toList.Nodup:=Wj.mpr λi j hi hj Aq z=>by
     rw[LS i hi,LS j hj] at z;have:=P.inj i j (by omega) (by omega) z;omega
    exact zD ks.length p.toList hn (λx hx=>by
     obtain⟨j,hj,rfl⟩:=Wk.mp hx;rw[LS j hj];exact P.lt j (by omega)) hsz k hk
   refine Vp.mpr ⟨k,Ar,?_⟩;rw[VN,Vg hk];rfl
end L3
namespace L3
open PySem PySem.Spec L2 SeqAt HT
open PyProof.Rows hiding St
def tupI(k:List Int):D:= .tup (k.map D.int)
def Jg:D->Option (List Int)
 | .tup ds=>nums ds
 |_=>none
def gQ:List D->Option (List (List Int))
 |[]=>some []
 |d::ds=>match Jg d,gQ ds with
  |some k,some ks=>some (k::ks)
  |_,_=>none
def eJ(ks:List (List Int)):Bool:=decide ks.Nodup&&decide (ks.length<64)&&ks.all λk=>!k.isEmpty
def cj(H:Hp):List V->List (List Int)->Prop:=aag λv k=>∃a,v= .ref a/\H a=some (.tup (k.map V.int))
def rX{K:Vn}{F H:Hp}(hs:Same F H):∀{ds:List D}{vs:List V}{ks:List (List Int)},gQ ds=some ks->DenL K F ds vs->cj H vs ks/\cj F vs ks
 |[],_,_,e,h=>by cases e;cases (show _=_ from h);exact⟨.nil, .nil⟩
 |d::ds,_,_,e,⟨v,r,h1,h2,h3⟩=>by
  subst h1;unfold gQ at e;split at e
  ·rename_i k ks e1 e2;cases e;obtain⟨Qj,Qk⟩:=rX hs e2 h3;cases d with
   |tup es=>
    obtain⟨a,ws,rfl,k2,k3,_⟩:=h2;have:=gy e1 k3;subst this;exact⟨.cons ⟨a,rfl,hs _ _ k2⟩ Qj, .cons ⟨a,rfl,k2⟩ Qk⟩
   |_=>cases e1
  ·cases e
def p9{K:Vn}{F:Hp}:∀{ws:List V}{ks:List (List Int)},cj F ws ks->(∀k∈ks,k.length<=lim)->DenL K F (ks.map tupI) ws
 |_,_, .nil,_=>rfl
 |_,_, .cons (b:=k) h t,hl=>by
  obtain⟨a,rfl,h⟩:=h;exact .cons ⟨a,_,rfl,h,DenL.ints k,by rw[Vb];exact hl k (Ve ..)⟩ (p9 t λk hk=>hl k (Vc _ hk))
def l9{X:Cx}{f8:List (Addr×Obj)}{σ:St}{H:Hp}{s:Vf}(I:Inv X f8 σ H s):∀{vs:List V}{aB:List Value}{ks:List (List Int)},cj H vs ks->Vals vs aB->(∀k∈ks,k≠[])->TupsAt s.heap aB ks
 |_,_,_, .nil,r,_=>by cases r;exact trivial
 |_,_,_, .cons (b:=k) h t,r,hn=>by
  obtain⟨a,rfl,h⟩:=h;cases r with
  |cons r1 r2=>
   cases (show _=_ from r1);obtain⟨us,ru,pt,_⟩:=I.tuple (SqT.of (K:=X.K) h);obtain⟨o,q1,q2,m,q3⟩:=pt;exact⟨⟨a,o,us,m,rfl,q1,q2,q3,intsAre_of ru,hn k (Ve ..)⟩,l9 I t r2 λk hk=>hn k (Vc _ hk)⟩
def lr{H:Hp}:∀{vs:List V}{ks:List (List Int)}{i:Nat},cj H vs ks->i<vs.length->∃a,vs.getD i .non= .ref a/\H a=some (.tup ((ks.getD i []).map V.int))
 |_,_,i, .nil,hi=>by simp at hi
 |_,_,0, .cons h t,_=>h
 |_,_,i+1, .cons h t,hi=>lr (i:=i) t (by simpa using hi)
def iZ{H:Hp}:∀{vs:List V}{ks:List (List Int)},cj H vs ks->vs.length=ks.length
 |_,_, .nil=>rfl
 |_,_, .cons h t=>by rw[Vk,Vk,iZ t]
def gG{H:Hp}{vs:List V}{ks:List (List Int)}(h:cj H vs ks):∀{is:List Nat},(∀i∈is,i<vs.length)->cj H (is.map λi=>vs.getD i .non) (is.map λi=>ks.getD i [])
 |[],_=> .nil
 |i::is,hi=> .cons (lr h (hi i (Ve ..))) (gG h λj hj=>hi j (Vc _ hj))
def mq:∀{vs:List V}{us:List Value}(i:Nat),Vals vs us->i<vs.length->RelV (vs.getD i .non) (us.getD i Wi)
 |_,_,i, .nil,hi=>by simp at hi
 |_,_,0, .cons h t,_=>h
 |_,_,i+1, .cons h t,hi=>mq i t (by simpa using hi)
def mr{vs:List V}{us:List Value}(h:Vals vs us):∀{is:List Nat},(∀i∈is,i<vs.length)->Vals (is.map λi=>vs.getD i .non) (is.map λi=>us.getD i Wi)
 |[],_=> .nil
 |i::is,hi=> .cons (mq i h (hi i (Ve ..))) (mr h λj hj=>hi j (Vc _ hj))
section
variable{e:Expr}
def rY{K:Vn}{F:Hp}:∀{ds:List D}{vs:List V}{ks:List (List Int)},gQ ds=some ks->DenL K F ds vs->∀k∈ks,k.length<=lim
 |[],_,_,e,_=>by cases e;exact λk hk=>by cases hk
 |d::ds,_,_,e,⟨v,r,h1,h2,h3⟩=>by
  unfold gQ at e;split at e
  ·rename_i k ks e1 e2;cases e;intro k' rT;rcases Vo.mp rT with rfl | rT
   ·cases d with
    |tup es=>
     obtain⟨a,ws,rfl,k2,k3,k4⟩:=h2;have:=gy e1 k3;have hl:=k3.len;rw[this,Vb] at hl;omega
    |_=>cases e1
   ·exact rY e2 h3 k' rT
  ·cases e
def mh:∀l:List (List Int),(sortI l).length=l.length
 |[]=>rfl
 |k::r=>by
  have ins:∀(k:List Int) (l:List (List Int)),(insI k l).length=l.length+1:=by
   intro k l;induction l with
   |nil=>rfl
   |cons x l ih=>
    unfold insI;split
    ·rfl
    ·rw[Vk,ih,Vk]
  unfold sortI;rw[ins,mh r,Vk]
end
def o7(k:List Int):List Key:=k.map aaj
def NZ:List V->Hp->VK->Prop:=λxs H Q=>∃p aA ks,xs=[.ref p]/\Rd H p (.dT aA)/\aA.map (·.1)=ks.map o7/\eJ ks=true/\∀(q:Addr) (ws:List V),H q=none->cj H ws (sortI ks)->Q (.ref q) (upd H q (.lst ws))
def sr{H:Hp}:∀{aA:List (List Key×V)}{xs:List (List Key×Addr×Value)}{ks:List (List Int)},aag (λ(p:List Key×V) (q:List Key×Addr×Value)=>p.1=q.1/\H q.2.1=some (.tup (p.1.map kV))/\RelV p.2 q.2.2) aA xs->
 aA.map (·.1)=ks.map o7->cj H (xs.map λx=>V.ref x.2.1) ks
 |_,_,[], .nil,_=> .nil
 |_,_,_::_, .nil,e=>by simp at e
 |_,_,[], .cons h t,e=>by simp at e
 |_,_,k::ks, .cons h t,e=>by
  rw[Vi,Vi] at e;injection e with e1 e2
  refine .cons ⟨_,rfl,?_⟩ (sr t e2);have hk:(o7 k).map kV=k.map V.int:=by unfold o7;rw[VX];rfl
  rw[h.2.1,e1,hk]
section
variable{X:Cx}{Xw:Nat->Hp->Prop}{e:Expr}{δs:DA}{pos p:Pos}
def Bg(hc:X.calm=true):CallR X (.builtin "sorted") NZ:=by
 intro f8 s σ H xs us Q I r h;obtain⟨a,aA,ks,rfl,hH,GZ,hk,q⟩:=h;obtain⟨u,rfl,r1⟩:=r.one;cases (show u=_ from r1);obtain⟨z,lo,xs,rel,o,es,ep,g1,g2,g3,g4,g5⟩:=(show ObjOk X.prog X.w H s.heap a (.dT aA) from hH.ok I.hok)
 unfold eJ at hk;rw[VA,VA] at hk;have hd:ks.Nodup:=acO hk.1.1;have Gg:ks.length<64:=acO hk.1.2;have gh:∀k∈ks,k≠[]:=λk rT z=>by have:=Wu.mp hk.2 k rT;rw[z] at this;cases this
 have hr:=sr rel GZ;have yX:=iZ hr;rw[Vb] at yX;have OC:es.size=xs.length:=by rw[<-Vh,g4,Vb]
 have CL:VB=16777216:=Xe;refine aa0 kind_sorted plain_sorted entry_sorted (args_sorted1 _) ?_;unfold X3.«sorted»;refine U_ (m:=checkCount "sorted" 1 1 _) (Va (U_ (abz (A:=X.A.in1) (FJ lo g2 g3) (I.ok.hd hc) g1 (by rw[OC,CL];omega) λh1 tk u8 Ea qK=>?_)));have MC:u8.toList.length=xs.length:=by rw[Vh,<-OC];exact qK.1
 have I1:Inv X f8 σ H {s with heap:=h1,toks:=tk}:=I.kept (t':=tk) λb ob e=>Ea b ob e;have rv:Vals (xs.map λx=>V.ref x.2.1) u8.toList:=by
  have ext:∀{vs:List V}{us:List Value},vs.length=us.length->(∀(i:Nat) (v:V) (u:Value),vs[i]? =some v->us[i]? =some u->RelV v u)->Vals vs us:=by
   intro vs;induction vs with
   |nil=>intro us h _;cases us with | nil=>exact .nil | cons _ _=>simp at h
   |cons v vs ih=>
    intro us h hh;cases us with
    |nil=>simp at h
    |cons u us=>exact .cons (hh 0 v u rfl rfl) (ih (by simpa using h) λi v u h1 h2=>hh (i+1) v u h1 h2)
  refine ext (by rw[Vb,MC]) λi v u e1 e2=>?_;rw[Wq] at e2;obtain⟨en,q1,q2⟩:=qK.2 i u e2;rw[<-Wq,g4,Vz] at q1;rw[Vz] at e1;cases w:xs[i]? with
  |none=>rw[w] at e1;cases e1
  |some x=>
   rw[w] at e1 q1;cases e1;cases q1;exact q2
 have ht:=l9 I1 hr rv gh;refine U_ (acb ?_ (by rw[CL];omega));have Ka:(h1.push (X2 "list" u8.toList.toArray 0)).get? h1.objs.size=some (X2 "list" u8.toList.toArray 0):=Vq _ rfl;refine U_ (Wf (Wx slot_list_sort ⟨_,Ka,rfl⟩ entry_list_sort (tm (s:={s with heap:=h1.push (X2 "list" u8.toList.toArray 0),toks:=tk}) Ka
  (ht.keep (a:=h1.objs.size) (λb o _ e=>Vd _ e) (λo e=>acK (Vr e) (Wc _))) hd (by omega) λP h' c' hP hR Bx DQ=>?_) (args_list_sort _)))
 have LQ:∀i∈P.toList,i<(xs.map λx=>V.ref x.2.1).length:=λi hi=>by
  obtain⟨j,hj,rfl⟩:=Wk.mp hi;have h':j<P.size:=by rw[Vh] at hj;exact hj
  have:=hP.lt j (by rw[hP.sz] at h';exact h');rw[eA,Vu h'] at this;have e:P.toList[j]=P[j]:=by simp
  rw[e,Vb];have:P[j]<u8.toList.length:=this;omega
 have Pa:PN ks.length P:=by rw[<-yX,<-MC];exact hP
 have Pb:Ri (λi j=>d_ (ks.getD i []) (ks.getD j [])) P ks.length:=by rw[<-yX,<-MC];exact hR
 have LX:=tq hd Pa Pb;have Nc:=gG hr LQ;rw[LX] at Nc;refine⟨_,rfl,Va ⟨_,rfl,⟨.ref h1.objs.size,_,I1.laid (a:=h1.objs.size) (t':=tk) (o:= .lst (P.toList.map λi=>(xs.map λx=>V.ref x.2.1).getD i .non)) (λb ob e=>DQ b ob (VH (Vr e)) (Vd _ e)) (Vj _) ?_,rfl,q _ _ (I1.hok.fresh (Vj _)) Nc⟩⟩⟩;exact⟨by rw[Vb,Vh,hP.sz,CL];omega,_,c',mr rv LQ,Bx⟩
def sW{F F':Hp}(e:Same F F'):∀{ws:List V}{ks:List (List Int)},cj F ws ks->cj F' ws ks
 |_,_, .nil=> .nil
 |_,_, .cons ⟨b,q1,q2⟩ t=> .cons ⟨b,q1,e _ _ q2⟩ (sW e t)
def p_{F H:Hp}(hs:Same F H):∀{ws:List V}{ks:List (List Int)},cj H ws ks->∃F',Ext F H F' H/\cj F' ws ks
 |_,_, .nil=>⟨F,Ext.refl hs, .nil⟩
 |_,_, .cons h t=>by
  obtain⟨a,rfl,h⟩:=h;obtain⟨F1,e1,r1⟩:=p_ hs t;have e2:=Ext.tup (F:=F1) e1.fh h;refine⟨_,e1.trans e2, .cons ⟨a,rfl,aD⟩ ?_⟩;exact sW e2.ff r1
def rW:List Key->Option (List Int)
 |[]=>some []
 | .inl i::r=>(rW r).map (i:: ·)
 |_=>none
def fI:List (List Key)->Option (List (List Int))
 |[]=>some []
 |k::r=>match rW k,fI r with
  |some x,some xs=>some (x::xs)
  |_,_=>none
def wI:∀{k:List Key}{x:List Int},rW k=some x->k=o7 x
 |[],_,e=>by cases e;rfl
 | .inl i::r,_,e=>by
   unfold rW at e;cases q:rW r with
   |none=>rw[q] at e;cases e
   |some y=>rw[q] at e;cases e;rw[wI q];rfl
 | .inr _::r,_,e=>by cases e
def lT:∀{kk:List (List Key)}{ks:List (List Int)},fI kk=some ks->kk=ks.map o7
 |[],_,e=>by cases e;rfl
 |k::r,_,e=>by
  unfold fI at e;split at e
  ·rename_i x xs e1 e2;cases e;rw[Vi,<-wI e1,<-lT e2]
  ·cases e
def tu:List D->M D
 |[.dct kk ds]=>match fI kk with
  |some ks=>if eJ ks&&ks.all (λk=>decide (k.length<=lim)) then aa (.lst ((sortI ks).map tupI)) else ag
  |none=>ag
 |_=>ag
def ju{α β:Type}:∀{a:List α}{b:List β},a.length=b.length->(a.zip b).map (·.1)=a
 |[],[],_=>rfl
 |x::a,y::b,h=>by rw[WD,Vi,ju (by simpa using h)]
 |[],_::_,h=>by simp at h
 |_::_,[],h=>by simp at h
def HE(hc:X.calm=true)(hg:Gl X "sorted")(hm:X.mg "sorted"=none)(hb:V4 "sorted"=some (.builtin "sorted"))(ha:iu X Xw [e] δs)(he:Vs [e] X.env=[(false,eval e X.env)]:=by rfl):PD X Xw (.Call (.Name "sorted" p) [e] [] pos) (dA tu δs):=
 dZ (Bg hc) (λXw F H vs ds Q s h w=>by
  unfold tu at w;split at w
  ·rename_i kk ds;obtain⟨v,rfl,h1⟩:=h.one;obtain⟨a,ob,ws,rfl,h2,h3,h4,h5⟩:=h1;split at w
   ·rename_i ks J4;split at w
    ·rename_i hok;rw[VA] at hok;have hl:∀k∈ks,k.length<=lim:=λk hk=>acO (Wu.mp hok.2 k hk);have Gg:ks.length<64:=by
      have:=hok.1;unfold eJ at this;rw[VA,VA] at this;exact acO this.1.2
     refine⟨a,_,ks,rfl, .inr ⟨ob,s _ _ h2⟩,by rw[ju (by rw[h4];exact h3.len),lT J4],hok.1,λq us hq hr=>?_⟩;obtain⟨F1,e1,r1⟩:=p_ s hr;have e2:=Ext.lay (o:= .lst us) e1.fh hq;exact WP.fin w (e1.trans e2) ⟨q,_,rfl,aD,DenL.mono e2.ff (p9 r1 λk hk=>hl k (dJ.mp hk)),by rw[Vb,mh];unfold lim;omega⟩
    ·exact w.elim
   ·exact w.elim
  ·exact w.elim) hg hm hb ha (by decide) (by decide) he rfl
end
end L3
namespace L3
open PySem PySem.Spec L2
open PyProof.Rows hiding St
def orM{α:Type}(a b:M α):M α:=match a with
 |none=>b
 |some r=>some r
def BF(a b:DA):DA:=λρ=>orM (a ρ) (b ρ)
section
variable{X:Cx}{Xw:Nat->Hp->Prop}{e tg:Expr}{δi δi':DA}
def AQ(h:yu X Xw tg e δi)(h':yu X Xw tg e δi'):yu X Xw tg e (BF δi δi'):=λf8 s σ H Q I ⟨F,ρ,S,w⟩=>by
 unfold BF orM at w;cases q:δi ρ with
 |none=>rw[q] at w;exact h' f8 s σ H Q I ⟨F,ρ,S,w⟩
 |some r=>rw[q] at w;exact h f8 s σ H Q I ⟨F,ρ,S,by rw[q];exact w⟩
def sR{st:Stmt}:iy X Xw st (λ_=>ag):=λs0 acS f8 s σ H D I ⟨F,ρ,S,w⟩=>w.elim
end
def fgt:List Nat->aQ->aQ
 |[],ρ=>ρ
 |i::is,ρ=>fgt is (ρ.set i none)
def NB(f:aQ->aQ):Out->M Out
 | .nx ρ=>aa (.nx (f ρ))
 | .rt d=>aa (.rt d)
def bN(is:List Nat)(τ:DS):DS:=λρ=>τ ρ>>=NB (fgt is)
def StOk.fgt1{K:Vn}{s0 acS F H:Hp}{σ:St}{ρ:aQ}(s:StOk K s0 acS F H σ ρ)(i:Nat):StOk K s0 acS F H σ (ρ.set i none):=by
 have get:∀(j:Nat) (sl:Sl),(ρ.set i none)[j]? =some (some sl)->ρ[j]? =some (some sl):=λj sl e=>by
  by_cases hj:j=i
  ·subst hj;by_cases hl:j<ρ.length
   ·rw[VF hl] at e;cases e
   ·rw[XO (by simpa using hl)] at e;cases e
  ·rw[Vy (Wv hj)] at e;exact e
 exact⟨s.ext,⟨s.st.fh,λj sl e=>s.st.den j sl (get j sl e)⟩,by simp[s.len],λj c a e e'=>s.own j c a (get j _ e) e',λj k c c' a e1 e2 e3 e4=>s.sep j k c c' a (get j _ e1) (get k _ e2) e3 e4⟩
def StOk.fgt{K:Vn}{s0 acS F H:Hp}{σ:St}:∀(is:List Nat) {ρ:aQ},StOk K s0 acS F H σ ρ->StOk K s0 acS F H σ (L3.fgt is ρ)
 |[],_,s=>s
 |i::is,_,s=>StOk.fgt is (s.fgt1 i)
def WPS.fgt{K:Vn}{Xw:Nat->Hp->Prop}{s0 acS:Hp}{is:List Nat}{m:M Out}{Dn:Ends}(w:WPS K Xw s0 acS (m>>=NB (L3.fgt is)) Dn):WPS K Xw s0 acS m Dn:=by
 match m,w with
 |none,w=>exact w
 |some (.ok (.nx ρ)),w=>exact λσ F H s=>w σ F H (s.fgt is)
 |some (.ok (.rt d)),w=>exact w
 |some (.ex n),w=>exact w
section
variable{X:Cx}{Xw:Nat->Hp->Prop}{R_:List Stmt}{τ:DS}{is:List Nat}
def aW(h:PSDs X Xw R_ τ):PSDs X Xw R_ (bN is τ):=λs0 acS=>PSs.weak (h s0 acS) λD σ H ⟨F,ρ,s,w⟩=>⟨F,ρ,s,WPS.fgt w⟩
end
def SA:Option Sl->Option Sl
 |some (.ow c)=>some (.fz c.d)
 |x=>x
def yr(ρ:aQ):aQ:=ρ.map SA
def refA(h:Heap)(P:Addr->Prop)[DecidablePred P](H:Hp):Hp:=λb=>if P b then(H b).map (nB ((h.get? b).getD {cls:= .none,data:= .fields #[]})) else H b
def yT(ob:Obj)(o:HO):nB ob o=o\/((∃k,o= .dT k)\/∃k,o= .dK k)/\nB ob o= .frz ob o:=by
 cases o<;>first | exact .inl rfl | exact .inr ⟨.inl ⟨_,rfl⟩,rfl⟩ | exact .inr ⟨.inr ⟨_,rfl⟩,rfl⟩
section
variable{X:Cx}{f8:List (Addr×Obj)}{σ:St}{H:Hp}{s:Vf}{P:Addr->Prop}[DecidablePred P]
def gF{h:Heap}{b:Addr}(e:H b=none):refA h P H b=none:=by
 unfold refA;split
 ·rw[e];rfl
 ·exact e
def sV{h:Heap}{b:Addr}{o:HO}(e:H b=some o):refA h P H b=some o\/((∃k,o= .dT k)\/∃k,o= .dK k)/\P b/\refA h P H b=some (.frz ((h.get? b).getD {cls:= .none,data:= .fields #[]}) o):=by
 unfold refA;split
 ·rename_i hp;rw[e];rcases yT ((h.get? b).getD {cls:= .none,data:= .fields #[]}) o with q | ⟨q1,q2⟩
  ·exact .inl (by show some _=_;rw[q])
  ·exact .inr ⟨q1,hp,by show some _=_;rw[q2]⟩
 ·exact .inl e
def gE{h:Heap}{b:Addr}{o:HO}(e:H b=some o)(n1:∀k,o≠ .dT k)(n2:∀k,o≠ .dK k):refA h P H b=some o:=by
 rcases sV (P:=P) (h:=h) e with q | ⟨⟨k,q⟩ | ⟨k,q⟩,_⟩
 ·exact q
 ·exact acK q (n1 k)
 ·exact acK q (n2 k)
def Inv.refA(I:Inv X f8 σ H s):Inv X f8 σ (L3.refA s.heap P H) s:=by
 have obj:∀b o,H b=some o->((∃k,o=HO.dT k)\/∃k,o= .dK k)->∃ob,s.heap.get? b=some ob:=λb o e hu=>by
  have hk:=I.hok b o e;rcases hu with⟨k,h1⟩ | ⟨k,h1⟩
  ·subst h1;obtain⟨_,_,_,_,ob,_,_,q,_⟩:=hk;exact⟨ob,q⟩
  ·subst h1;obtain⟨_,_,_,_,ob,_,_,q,_⟩:=hk;exact⟨ob,q⟩
 refine⟨I.ok,I.os,I.bare,⟨I.base.keep,I.base.slot,λb q h1 h2 h3=>gF (I.base.free b q h1 h2 h3),I.base.there,λb xs q=>gE (I.base.tups b xs q) (λ_ z=>nomatch z) (λ_ z=>nomatch z),
  λb q1 v q=>gE (I.base.frzs b q1 v q) (λ_ z=>nomatch z) (λ_ z=>nomatch z),λb ps q=>?_⟩,I.loc,I.cell,gF I.free,λx c q=>gF (I.freeC x c q),λp hp=>?_,λb v q=>?_,I.len⟩
 ·obtain⟨m,this⟩:=I.base.tbls b ps q;exact⟨m,gE this (λ_ z=>nomatch z) (λ_ z=>nomatch z)⟩
 ·obtain⟨h1,h2,h3⟩:=I.pin p hp;exact⟨h1,gF h2,h3⟩
 ·have st:∀{c:Addr}{v:HO},ObjOk X.prog X.w H s.heap c v->ObjOk X.prog X.w (L3.refA s.heap P H) s.heap c v:=λ{c v} k=>k.stay (λ_ _ _ q=>q)
   (λc' q=>gE q (λ_ z=>nomatch z) (λ_ z=>nomatch z)) λc' xs q=>gE q (λ_ z=>nomatch z) (λ_ z=>nomatch z)
  cases e:H b with
  |none=>rw[gF e] at q;cases q
  |some o=>
   rcases sV (P:=P) (h:=s.heap) e with z | ⟨hu,hp,z⟩
   ·rw[z] at q;cases q;exact st (I.hok b _ e)
   ·rw[z] at q;cases q;obtain⟨ob,MX⟩:=obj b o e hu;rw[MX];exact⟨MX,st (I.hok b o e)⟩
def unA(P:Addr->Prop)[DecidablePred P](H:Hp):Hp:=λb=>if P b then(match H b with | some (.frz _ u)=>some u | x=>x) else H b
def Inv.unA(I:Inv X f8 σ H s)(hP:∀b,P b->∀o u,X.acS b≠some (.frz o u))(hQ:∀b,P b->∀o u,H b=some (.frz o u)->(∃k,u= .dT k)\/∃k,u= .dK k):Inv X f8 σ (L3.unA P H) s:=by
 have non:∀b,H b=none->L3.unA P H b=none:=λb e=>by unfold L3.unA;rw[e];split<;>rfl
 have keep:∀b o,H b=some o->(∀q u,o≠ .frz q u)->L3.unA P H b=some o:=λb o e n=>by
  unfold L3.unA;split
  ·rw[e];cases o<;>first | rfl | exact acK rfl (n _ _)
  ·exact e
 refine⟨I.ok,I.os,I.bare,⟨I.base.keep,I.base.slot,λb q h1 h2 h3=>non b (I.base.free b q h1 h2 h3),I.base.there,λb xs q=>keep b _ (I.base.tups b xs q) (λ_ _ z=>nomatch z),
  λb q1 v q=>?_,λb ps q=>?_⟩,I.loc,I.cell,non _ I.free,λx c q=>non _ (I.freeC x c q),λp hp=>?_,λb v q=>?_,I.len⟩
 ·have:=I.base.frzs b q1 v q;unfold L3.unA;rw[acJ (λhp=>hP b hp q1 v q)];exact this
 ·obtain⟨m,this⟩:=I.base.tbls b ps q;exact⟨m,keep b _ this (λ_ _ z=>nomatch z)⟩
 ·obtain⟨h1,h2,h3⟩:=I.pin p hp;exact⟨h1,non _ h2,h3⟩
 ·have st:∀{c:Addr}{v:HO},ObjOk X.prog X.w H s.heap c v->ObjOk X.prog X.w (L3.unA P H) s.heap c v:=λ{c v} k=>k.stay (λ_ _ _ q=>q)
   (λc' q=>keep c' _ q (λ_ _ z=>nomatch z)) λc' xs q=>keep c' _ q (λ_ _ z=>nomatch z)
  cases e:H b with
  |none=>rw[non b e] at q;cases q
  |some o=>
   have ko:=I.hok b o e;by_cases hf:∃ob u,o= .frz ob u
   ·obtain⟨ob,u,rfl⟩:=hf;unfold L3.unA at q;split at q
    ·rw[e] at q;cases q;obtain⟨_,k2⟩:=ko;exact st k2
    ·rw[e] at q;cases q;exact st ko
   ·rw[keep b o e (λq u z=>hf ⟨q,u,z⟩)] at q;cases q;exact st ko
end
mutual
def wt:D->Bool
 | .non=>true
 | .bl _=>true
 | .int _=>true
 | .str _=>true
 | .tup ds=>Ao ds
 | .raw _=>false
 | .exc _=>false
 | .scr _=>false
 | .lst _=>false
 | .dct _ _=>false
 | .dci _ _=>false
def Ao:List D->Bool
 |[]=>true
 |d::ds=>wt d&&Ao ds
end
def oF(d:D):M D:=if wt d then aa d else ag
def OwnAt(σ:St)(ρ:aQ)(b:Addr):Prop:=∃(i:Nat) (c:C),ρ[i]? =some (some (Sl.ow c))/\σ[i]? =some (some (V.ref b))
section
variable{K:Vn}{F H F' H':Hp}{σ:St}{ρ:aQ}{h:Heap}{b:Addr}
def OwnAt.obj(S:StE K F H σ ρ)(p:OwnAt σ ρ b):F b=none/\∃o,H b=some o/\((∃x,o= .lst x)\/(∃x,o= .dT x)\/∃x,o= .dK x):=by
 obtain⟨i,c,h1,h2⟩:=p;obtain⟨v,h3,a,o,rfl,h4,h5,h6⟩:=S.den i _ h1;rw[h3] at h2;cases h2;refine⟨h5,o,h4,?_⟩;cases c with
 |lst ds=>obtain⟨vs,rfl,_⟩:=h6;exact .inl ⟨_,rfl⟩
 |dct ks ds=>obtain⟨vs,rfl,_⟩:=h6;exact .inr (.inl ⟨_,rfl⟩)
 |dci ks ds=>obtain⟨vs,rfl,_⟩:=h6;exact .inr (.inr ⟨_,rfl⟩)
open Classical in
noncomputable def fA(σ:St)(ρ:aQ)(H1 F:Hp):Hp:=λb=>if OwnAt σ ρ b then H1 b else F b
open Classical in
def Am(S:StE K F H σ ρ){H1:Hp}:Same F (fA σ ρ H1 F):=λb u e=>by
 unfold fA;rw[acJ (λp=>by rw[(OwnAt.obj S p).1] at e;cases e)];exact e
open Classical in
def Dy(S:StE K F H σ ρ):StE K (fA σ ρ (refA h (OwnAt σ ρ) H) F) (refA h (OwnAt σ ρ) H) σ (yr ρ):=by
 refine⟨λb u e=>?_,λj sl e=>?_⟩
 ·unfold fA at e;split at e
  ·exact e
  ·rename_i hp;unfold refA;rw[acJ hp];exact S.fh b u e
 ·unfold yr at e;rw[Vz] at e;cases q:ρ[j]? with
  |none=>rw[q] at e;cases e
  |some x=>
   rw[q] at e;cases x with
   |none=>cases e
   |some y=>
    cases y with
    |fz d=>
     cases e;obtain⟨v,h1,h2⟩:=S.den j _ q;exact⟨v,h1,Den.mono (Am S) h2⟩
    |ow c=>
     cases e;obtain⟨v,h1,a,o,rfl,h4,h5,h6⟩:=S.den j _ q;refine⟨_,h1,DenC.den (ob:=(h.get? a).getD {cls:= .none,data:= .fields #[]}) h6 (Am S) ?_⟩;have hp:OwnAt σ ρ a:=⟨j,c,q,h1⟩
     unfold fA refA;rw[acI hp,acI hp,h4];rfl
open Classical in
def wA(S:StE K F H σ ρ)(E:Ext (fA σ ρ (refA h (OwnAt σ ρ) H) F) (refA h (OwnAt σ ρ) H) F' H'):
 Ext F H (λb=>if OwnAt σ ρ b then none else F' b) (unA (OwnAt σ ρ) H')/\∀b,OwnAt σ ρ b->∀o u,H' b=some (.frz o u)->(∃k,u= .dT k)\/∃k,u= .dK k:=by
 have Q6:∀b,OwnAt σ ρ b->∃o,H b=some o/\H' b=some (nB ((h.get? b).getD {cls:= .none,data:= .fields #[]}) o)/\((∃x,o= .lst x)\/(∃x,o= .dT x)\/∃x,o= .dK x):=λb hp=>by
  obtain⟨_,o,h1,h2⟩:=OwnAt.obj S hp;refine⟨o,h1,E.hh b _ ?_,h2⟩;unfold refA;rw[acI hp,h1];rfl
 refine⟨⟨λb o e=>?_,λb u e=>?_,λb u e=>?_,λb hb=>?_⟩,λb hp o u e=>?_⟩
 ·unfold unA;by_cases hp:OwnAt σ ρ b
  ·obtain⟨o',h1,h2,h3⟩:=Q6 b hp;rw[e] at h1;cases h1;rw[acI hp,h2];rcases h3 with⟨x,rfl⟩ | ⟨x,rfl⟩ | ⟨x,rfl⟩<;>rfl
  ·rw[acJ hp];refine E.hh b o ?_;unfold refA;rw[acJ hp];exact e
 ·have hp:¬OwnAt σ ρ b:=λp=>by rw[(OwnAt.obj S p).1] at e;cases e
  show (if OwnAt σ ρ b then none else F' b)=_;rw[acJ hp];refine E.ff b u ?_;unfold fA;rw[acJ hp];exact e
 ·have e:(if OwnAt σ ρ b then none else F' b)=some u:=e;split at e
  ·cases e
  ·rename_i hp;unfold unA;rw[acJ hp];exact E.fh b u e
 ·show (if OwnAt σ ρ b then none else F' b)=F b\/_;by_cases hp:OwnAt σ ρ b
  ·rw[acI hp];exact .inl (OwnAt.obj S hp).1.symm
  ·rw[acJ hp];have e1:refA h (OwnAt σ ρ) H b=H b:=by unfold refA;rw[acJ hp]
   have e2:fA σ ρ (refA h (OwnAt σ ρ) H) F b=F b:=by unfold fA;rw[acJ hp]
   rcases E.new b (by rw[e1];exact hb) with q | q
   ·exact .inl (q.trans e2)
   ·rw[e1] at q;exact .inr q
 ·obtain⟨o',h1,h2,h3⟩:=Q6 b hp;rw[e] at h2;rcases h3 with⟨x,rfl⟩ | ⟨x,rfl⟩ | ⟨x,rfl⟩
  ·cases h2
  ·cases h2;exact .inl ⟨_,rfl⟩
  ·cases h2;exact .inr ⟨_,rfl⟩
open Classical in
mutual
def wx(S:StE K F H σ ρ)(E:Ext (fA σ ρ (refA h (OwnAt σ ρ) H) F) (refA h (OwnAt σ ρ) H) F' H'):∀{d:D}{v:V},wt d=true->Den K F' d v->Den K (λb=>if OwnAt σ ρ b then none else F' b) d v
 | .non,_,_,q=>q
 | .bl _,_,_,q=>q
 | .int _,_,_,q=>q
 | .str _,_,_,q=>q
 | .tup ds,_,f,⟨a,vs,h1,h2,h3,h4⟩=>by
   refine⟨a,vs,h1,?_,rK S E ?_ h3,h4⟩
   ·show (if OwnAt σ ρ a then none else F' a)=_;rw[acJ,h2];intro hp;obtain⟨_,o,k1,k2⟩:=OwnAt.obj S hp;have k3:fA σ ρ (refA h (OwnAt σ ρ) H) F a=some (nB ((h.get? a).getD {cls:= .none,data:= .fields #[]}) o):=by
     unfold fA refA;rw[acI hp,acI hp,k1];rfl
    have k4:=E.ff a _ k3;rw[h2] at k4;rcases k2 with⟨x,rfl⟩ | ⟨x,rfl⟩ | ⟨x,rfl⟩<;>cases k4
   ·exact f
 | .raw _,_,f,_=>by cases f
 | .exc _,_,f,_=>by cases f
 | .scr _,_,f,_=>by cases f
 | .lst _,_,f,_=>by cases f
 | .dct _ _,_,f,_=>by cases f
 | .dci _ _,_,f,_=>by cases f
def rK(S:StE K F H σ ρ)(E:Ext (fA σ ρ (refA h (OwnAt σ ρ) H) F) (refA h (OwnAt σ ρ) H) F' H'):∀{ds:List D}{vs:List V},Ao ds=true->DenL K F' ds vs->DenL K (λb=>if OwnAt σ ρ b then none else F' b) ds vs
 |[],_,_,q=>q
 |d::ds,_,f,⟨v,r,h1,h2,h3⟩=>by
  unfold Ao at f;rw[VA] at f;exact⟨v,r,h1,wx S E f.1 h2,rK S E f.2 h3⟩
end
end
section
variable{X:Cx}{Xw:Nat->Hp->Prop}{e:Expr}{δ:DE}{τ:DT}
def sM{f8:List (Addr×Obj)}{s:Vf}{F H:Hp}{σ:St}{ρ:aQ}(I:Inv X f8 σ H s)(S:StE X.K F H σ ρ)(b:Addr)(p:OwnAt σ ρ b)(o:Obj)(u:HO):X.acS b≠some (.frz o u):=λz=>by
 obtain⟨_,o',k1,k2⟩:=OwnAt.obj S p;have:=I.base.frzs b o u z;rw[k1] at this;rcases k2 with⟨x,rfl⟩ | ⟨x,rfl⟩ | ⟨x,rfl⟩<;>cases this
def pE{α:Type}(m:M α):noex m=ag\/∃a,m=aa a/\noex m=aa a:=by
 rcases m.cs with h | ⟨n,h⟩ | ⟨a,h⟩
 ·subst h;exact .inl rfl
 ·subst h;exact .inl rfl
 ·subst h;exact .inr ⟨a,rfl,rfl⟩
def zC(h:qC X Xw e τ):qC X Xw e (λρ=>noex (τ (yr ρ))):=λf8 s σ H Q I ⟨F,ρ,S,w⟩=>by
 classical
 rcases pE (τ (yr ρ)) with q | ⟨b,q,q2⟩
 ·have w:WPB Xw F H (noex (τ (yr ρ))) Q:=w;rw[q] at w;exact w.elim
 ·have w:WPB Xw F H (noex (τ (yr ρ))) Q:=w;rw[q2] at w;refine bV (h f8 s σ _ (λb' H'=>Q b' (unA (OwnAt σ ρ) H')/\∀c,OwnAt σ ρ c->∀o u,H' c=some (.frz o u)->(∃k,u= .dT k)\/∃k,u= .dK k) (Inv.refA (P:=OwnAt σ ρ) I) ⟨_,_,Dy (h:=s.heap) S,?_⟩) λb' s' ⟨H',I',q1,q3⟩=>⟨_,Inv.unA I' (sM I S) q3,q1⟩
  rw[q];intro H' F' E;obtain⟨E1,q3⟩:=wA S E;exact⟨w _ _ E1,q3⟩
def NG(h:PD X Xw e δ):PD X Xw e (λρ=>noex (δ (yr ρ))>>=oF):=λf8 s σ H Q I ⟨F,ρ,S,w⟩=>by
 classical
 rcases pE (δ (yr ρ)) with q | ⟨d,q,q2⟩
 ·have w:WP X.K Xw F H (noex (δ (yr ρ))>>=oF) Q:=w;rw[q] at w;exact w.elim
 ·have w:WP X.K Xw F H (noex (δ (yr ρ))>>=oF) Q:=w;rw[q2,au] at w;unfold oF at w;split at w
  ·rename_i hf;refine bV (h f8 s σ _ (λv H'=>Q v (unA (OwnAt σ ρ) H')/\∀c,OwnAt σ ρ c->∀o u,H' c=some (.frz o u)->(∃k,u= .dT k)\/∃k,u= .dK k) (Inv.refA (P:=OwnAt σ ρ) I) ⟨_,_,Dy (h:=s.heap) S,?_⟩) λb' s' ⟨v,H',I',rv,q1,q3⟩=>⟨v,_,Inv.unA I' (sM I S) q3,rv,q1⟩
   rw[q];intro v H' F' E dn;obtain⟨E1,q3⟩:=wA S E;exact⟨w _ _ _ E1 (wx S E hf dn),q3⟩
  ·exact w.elim
end
abbrev DF:=aQ->M C
def WPF(K:Vn)(Xw:Nat->Hp->Prop)(F H:Hp)(m:M C)(Q:VK):Prop:=
 match m with
 |none=>False
 |some (.ok c)=>∀a o H' F',Ext F H F' H'->H' a=some o->F' a=none->H a=none->DenC K F' c o->Q (.ref a) H'
 |some (.ex n)=>∀F' H',Ext F H F' H'->Xw n H'
def Uz(K:Vn)(Xw:Nat->Hp->Prop)(δ:DF):TE:=λσ H Q=>∃F ρ,StE K F H σ ρ/\WPF K Xw F H (δ ρ) Q
def OU(X:Cx)(Xw:Nat->Hp->Prop)(e:Expr)(δ:DF):Prop:=PE X e (Uz X.K Xw δ)
def s_(i:Nat)(δ:DF):DS:=λρ=>δ ρ>>=λc=>aa (.nx (ρ.set i (some (.ow c))))
def StOk.setFresh{K:Vn}{s0 acS F H F' H':Hp}{σ:St}{ρ:aQ}(s:StOk K s0 acS F H σ ρ){i:Nat}{a:Addr}{o:HO}{c₀:C}(E:Ext F H F' H')(ho:H' a=some o)(nF:F' a=none)(n:H a=none)(h:DenC K F' c₀ o):
 StOk K s0 acS F' H' (σ.set i (some (.ref a))) (ρ.set i (some (.ow c₀))):=by
 have hle:=s.len;have get:∀(j:Nat) (sl:Sl),(ρ.set i (some (.ow c₀)))[j]? =some (some sl)->(j=i/\i<ρ.length/\sl= .ow c₀)\/(j≠i/\ρ[j]? =some (some sl)):=λj sl e=>by
  by_cases hj:j=i
  ·subst hj;have hi:j<ρ.length:=by
    have:=(Vt.mp e).1;simpa using this
   rw[VF hi] at e;cases e;exact .inl ⟨rfl,hi,rfl⟩
  ·rw[Vy (Wv hj)] at e;exact .inr ⟨hj,e⟩
 have old:∀(j:Nat) (c:C) (b:Addr),ρ[j]? =some (some (.ow c))->σ[j]? =some (some (.ref b))->b≠a:=λj c b e e' z=>by
  obtain⟨u,h1,b',o,h2,h3,_⟩:=s.st.den j _ e;rw[h1] at e';cases e';cases h2;rw[z,n] at h3;cases h3
 refine⟨s.ext.trans E,⟨E.fh,λj sl e=>?_⟩,by simp[hle],λj c b e e'=>?_,λj k c c' b e1 e2 e3 e4=>?_⟩
 ·rcases get j sl e with⟨rfl,hi,rfl⟩ | ⟨hj,e⟩
  ·exact⟨.ref a,by rw[VF (by omega)],a,_,rfl,ho,nF,h⟩
  ·obtain⟨u,h1,h2⟩:=s.st.den j sl e;exact⟨u,by rw[Vy (Wv hj)];exact h1,h2.ext E⟩
 ·rcases get j _ e with⟨rfl,hi,_⟩ | ⟨hj,e⟩
  ·rw[VF (by omega)] at e';cases e';exact Same.free s.ext.hh n
  ·rw[Vy (Wv hj)] at e';exact s.own j c b e e'
 ·rcases get j _ e1 with⟨rfl,hi,_⟩ | ⟨hj,e1⟩
  ·rw[VF (by omega)] at e3;cases e3;rcases get k _ e2 with⟨rfl,_,_⟩ | ⟨hk,e2⟩
   ·rfl
   ·rw[Vy (Wv hk)] at e4;exact acK rfl (old k c' a e2 e4)
  ·rcases get k _ e2 with⟨PB,hi,_⟩ | ⟨hk,e2⟩
   ·rw[PB,VF (by omega)] at e4;cases e4;rw[Vy (Wv hj)] at e3;exact acK rfl (old j c a (by assumption) e3)
   ·rw[Vy (Wv hj)] at e3;rw[Vy (Wv hk)] at e4;exact s.sep j k c c' b e1 e2 e3 e4
def WPF.mono{K:Vn}{Xw:Nat->Hp->Prop}{F H:Hp}{m:M C}{Q Q':VK}(h:WPF K Xw F H m Q)(k:∀v H',Q v H'->Q' v H'):WPF K Xw F H m Q':=by
 match m,h with
 |none,h=>exact h
 |some (.ok d),h=>exact λa o H' F' e h1 h2 h3 h4=>k _ _ (h a o H' F' e h1 h2 h3 h4)
 |some (.ex n),h=>exact h
def WPF.ext{K:Vn}{Xw:Nat->Hp->Prop}{F H F1 H1:Hp}{m:M C}{Q:VK}(e:Ext F H F1 H1)(h:WPF K Xw F H m Q):WPF K Xw F1 H1 m Q:=by
 match m,h with
 |none,h=>exact h
 |some (.ok d),h=>exact λa o H' F' e' h1 h2 h3 h4=>h a o H' F' (e.trans e') h1 h2 (Same.free e.hh h3) h4
 |some (.ex n),h=>exact λF2 H2 e2=>h F2 H2 (e.trans e2)
def WPF.bind{K:Vn}{Xw:Nat->Hp->Prop}{F H:Hp}{m:M D}{k:D->M C}{Q:VK}(h:WPF K Xw F H (m>>=k) Q):WP K Xw F H m λv H1=>∃F1 d,Ext F H F1 H1/\Den K F1 d v/\WPF K Xw F1 H1 (k d) Q:=by
 match m,h with
 |none,h=>exact h
 |some (.ok d),h=>exact λv H2 F2 e2 q=>⟨F2,d,e2,q,WPF.ext e2 (show WPF K Xw F H (k d) Q from h)⟩
 |some (.ex n),h=>exact h
def WPF.bindL{K:Vn}{Xw:Nat->Hp->Prop}{F H:Hp}{m:M (List D)}{k:List D->M C}{Q:VK}(h:WPF K Xw F H (m>>=k) Q):WPL K Xw F H m λv H1=>∃F1 d,Ext F H F1 H1/\DenL K F1 d v/\WPF K Xw F1 H1 (k d) Q:=by
 match m,h with
 |none,h=>exact h
 |some (.ok d),h=>exact λv H2 F2 e2 q=>⟨F2,d,e2,q,WPF.ext e2 (show WPF K Xw F H (k d) Q from h)⟩
 |some (.ex n),h=>exact h
section
variable{X:Cx}{Xw:Nat->Hp->Prop}{e k v a b:Expr}{es:List Expr}{δ:DF}{pos pos' p:Pos}{x:Str}{i:Nat}
def xG(hN:X.N.Nodup)(hi:X.N[i]? =some x)(hx:Loc X.env.scope x)(he:OU X Xw e δ)(hf:X.fn x=true\/X.env.scope.names.lookup x=some .local:=by first | exact .inl rfl | exact .inr rfl)
 (hs:ace [.Name x pos'] e pos.line X.env=pure false:=by rfl):
 iy X Xw (.Assign [.Name x pos'] e pos) (s_ i δ):=λs0 acS=>PS.weak (uX he (a8 hN hi hx hf) hs) λD σ H ⟨F,ρ,s,w⟩=>by
 refine⟨F,ρ,s.st,?_⟩;unfold s_ at w
 match δ ρ,w with
 |none,w=>exact w
 |some (.ok c),w=>exact λa o H' F' E h1 h2 h3 h4=>w _ F' H' (s.setFresh E h1 h2 h3 h4)
 |some (.ex n),w=>exact λF' H' e'=>w F' H' (s.ext.trans e')
def Ext.fresh{F H:Hp}{p:Addr}{o:HO}(s:Same F H)(hp:H p=none):Ext F H F (upd H p o)/\F p=none:=⟨Ext.free s hp,Same.free s hp⟩
def Ml{f8:List (Addr×Obj)}{σ:St}{H H':Hp}{s:Vf}{a:Addr}{y v:V}{u r:Value}{A:V2}{E:Value->Vf->Prop}{Q:Unit->Vf->Prop}(hu:A.units+1<cLine)(I:Inv X f8 σ H s)(g:DPut H a y v H')(ry:RelV y u)(rv:RelV v r)(h:∀s',Inv X f8 σ H' s'->Q () s'):
 wpAny (model X.prog X.w) A (dictSet a u r) Q E s:=by
 rcases g with⟨aA,k,e,ey,l,eH⟩ | ⟨aA,k,b,e,ey,eb,l,eH⟩
 ·subst ey eH;obtain⟨z,hd,vs,rel,dd⟩:=IK I.hok e;have hz:vs.length<=VB:=by rw[<-rel.length];exact z
  have hl:(putK aA k v).length<=VB:=by have:=eU aA k v;omega
  refine wpAny_dictSet_pairs (hsz:=hz) (sj ry) dd λh' Bo hs=>h _ ?_;have he:∃q,h'.get? a=some q:=let ⟨q,_,_,hq,_⟩:=Bo;⟨q,hq⟩
  exact kx I (by rw[e];exact WN) hs he (Dl hl hd (rel.put k rv) Bo)
 ·subst ey eH;cases (show u=VQ b from ry);obtain⟨z,hd,xs,rel,dd⟩:=Dm I.hok e;have hz:xs.length<=VB:=by rw[<-Xs rel];exact z
  have hl:(putK aA k v).length<=VB:=by have:=eU aA k v;omega
  refine wpAny_dictSet_heap (knd:=XM (a6 X.prog X.w)) (hsz:=hz) (by exact(show A.units<cLine by omega)) (j2 I.hok eb) dd λh' Bo hs=>h _ ?_;obtain⟨q,es,ep,hq,h2,h3,h4,_,h5⟩:=Bo;refine kx I (by rw[e];exact WN) hs ⟨q,hq⟩ ⟨hl,hd,_,(rel.put k eb rv).keeps λc ys ec=>?_,q,es,ep,hq,h2,h3,h4,h5⟩;rw[av (Er ec e (λz=>nomatch z))];exact ec
end
section
variable{X:Cx}{Xw:Nat->Hp->Prop}{e k v a b:Expr}{es:List Expr}{δk δv δa δb:DE}{pos p:Pos}{x:Str}{i:Nat}
def Dk{o0:HO}{put:Hp->Addr->V->V->Hp->Prop}(hu:X.A.units+1<cLine)(h0:∀(H:Hp) (h:Heap),W0<h.objs.size->ObjOk X.prog X.w H (h.push {cls:= .type "dict",data:= .dict #[]}) h.objs.size o0){tk tv:TE}(hk:PE X k tk)(hv:PE X v tv):
 PE X (.Dict [some k] [v] pos) (λσ H Q=>∀p,H p=none->tk σ (upd H p o0) λy H1=>tv σ H1 λz H2=>∃H3,DPut H2 p y z H3/\Q (.ref p) H3):=by
 intro f8 s σ H Q I q;have hn:=I.hok.fresh (Vj s.heap.objs.size);have I1:=I.laid (a:=s.heap.objs.size) (o:=o0) (h':=s.heap.push {cls:= .type "dict",data:= .dict #[]}) (t':=s.toks) (λ_ _ q=>Vd _ q) (Vj _) (h0 _ s.heap I.big);refine wpAny_Dict_any rfl rfl (by simp) (by simp) (bV (Fd hk hv HR f8 _ σ _ (λps H2=>∃y z H3,ps=[(y,z)]/\DPut H2 s.heap.objs.size y z H3/\Q (.ref s.heap.objs.size) H3) I1 ?_) λws s2 ⟨ps,H2,I2,rel,y,z,H3,ep,g,q2⟩=>?_)
 ·refine ?_;have:=q _ hn;show tk σ _ λy H1=>tv σ H1 λz H2=>∃y' z' H3,[(y,z)]=[(y',z')]/\DPut H2 s.heap.objs.size y' z' H3/\Q (.ref s.heap.objs.size) H3;have e:(λ(y:V) (H1:Hp)=>tv σ H1 λz H2=>∃y' z' H3,[(y,z)]=[(y',z')]/\DPut H2 s.heap.objs.size y' z' H3/\Q (.ref s.heap.objs.size) H3)=(λy H1=>tv σ H1 λz H2=>∃H3,DPut H2 s.heap.objs.size y z H3/\Q (.ref s.heap.objs.size) H3):=by
   funext y H1;congr 1;funext z H2;refine propext ⟨λ⟨y',z',H3,ee,r⟩=>?_,λ⟨H3,r⟩=>⟨y,z,H3,rfl,r⟩⟩;cases ee;exact⟨H3,r⟩
  rw[e];exact this
 ·subst ep;cases rel with
  | @cons a b as bs h t=>
    cases t;obtain⟨r1,r2⟩:=h;unfold storeAll;rw[aaL];refine U_ (U_ (Ml hu I2 g r1 r2 λs3 I3=>?_));refine Va ?_;show wpAny _ _ (forIn ([]:List (Value×Value)) Yv _) _ _ _;rw[List.forIn_nil];exact Va ⟨V.ref s.heap.objs.size,_,I3,rfl,q2⟩
def rG(k v:D):M C:=match eD k with
 |some kk=>aa (.dct [kk] [v])
 |none=>ag
def Cd(hu:X.A.units+64<cLine)(hk:PD X Xw k δk)(hv:PD X Xw v δv):OU X Xw (.Dict [some k] [v] pos) (λρ=>δk ρ>>=λx=>δv ρ>>=λy=>rG x y):=
 PE.weak (Dk (o0:= .dT []) (put:=DPut) (by omega) (λH h hb=>wk h hb) hk hv) λσ H Q ⟨F,ρ,s,w⟩ q hq=>by
  have e0:=Ext.free (o:= .dT []) s.fh hq;refine⟨F,ρ,s.ext e0,?_⟩;have w:WPF X.K Xw F H (δk ρ>>=λx=>δv ρ>>=λy=>rG x y) Q:=w
  match rT:δk ρ,w with
  |none,w=>exact w
  |some (.ex n),w=>exact λF' H' e'=>w F' H' (e0.trans e')
  |some (.ok kd),w=>
   intro y H1 F1 e1 q1;refine⟨F1,ρ,(s.ext e0).ext e1,?_⟩;have w:WPF X.K Xw F H (δv ρ>>=λy=>rG kd y) Q:=w
   match P9:δv ρ,w with
   |none,w=>exact w
   |some (.ex n),w=>exact λF' H' e'=>w F' H' (e0.trans (e1.trans e'))
   |some (.ok vd),w=>
    intro z H2 F2 e2 q2;have w3:WPF X.K Xw F H (rG kd vd) Q:=w;clear w;unfold rG at w3;cases GZ:eD kd with
    |none=>rw[GZ] at w3;exact w3.elim
    |some kk=>
     rw[GZ] at w3;have E:=e1.trans e2;have P1:H2 q=some (.dT []):=E.hh _ _ aD;have Rm:F2 q=none:=by
      have:=E.old (a:=q) (o:= .dT []) aD (λ_ z=>nomatch z);rw[this];exact Same.free s.fh hq
     unfold eD at GZ;split at GZ
     ·rename_i es;obtain⟨b,ws,rfl,k2,k3,_⟩:=Den.mono e2.ff q1;have e5:=gA GZ k3;subst e5;refine⟨_,DPut.t (k:=kk) P1 (e2.fh _ _ k2) (by rw[Xe];decide),?_⟩;refine w3 q (.dT (putK [] kk z)) _ F2 ⟨λc u hc=>?_,(e0.trans E).ff,λc u hc=>?_,(e0.trans E).new⟩ aD Rm hq ⟨[z],rfl, .cons q2 .nil,rfl,show 1<=lim by decide⟩
      ·rw[av (λzz=>by rw[zz,hq] at hc;cases hc)];exact(e0.trans E).hh c u hc
      ·rw[av (λzz=>by rw[zz,Rm] at hc;cases hc)];exact e2.fh c u hc
     ·cases GZ
def z9{K:Vn}{F H:Hp}{d k:D}{x y:V}{o:Option D}(s:Same F H)(hd:Den K F d x)(hk:Den K F k y)(e:Ge d k=some o):
 ∃a ov,x= .ref a/\qB H a y ov/\ov.isSome=o.isSome/\∀d',o=some d'->∃v,ov=some v/\Den K F d' v:=by
 obtain⟨a,ov,h1,h2,h3,h4⟩:=z_ (σ:=[some x]) (ρ:=[some (.fz d)]) (i:=0) (H:=H) ⟨s,λi sl q=>by
  match i,q with
  |0,q=>cases q;exact⟨x,rfl,hd⟩
  |i+1,q=>simp at q⟩ rfl hk e
 cases h1;exact⟨a,ov,rfl,h2,h3,h4⟩
def qJ(neg:Bool)(k d:D):M D:=match Ge d k with
 |some o=>aa (.bl (if neg then !o.isSome else o.isSome))
 |none=>ag
def NR(neg:Bool):R2:=λy x H Q=>∃a o,x= .ref a/\qB H a y o/\Q (.bl (if neg then !o.isSome else o.isSome)) H
def B_(hu:X.A.units+64<cLine):OpR X (Ww .NotIn) (NR true):=λf8 s σ H y x v u Q I ry rx ⟨a,o,ex,g,q⟩=>by
 subst ex;obtain rfl:u=VQ a:=rx;exact GF (by omega) I g ry λs' I'=>⟨.bl (!o.isSome),_,I',rfl,q⟩
def Ht{K:Vn}{neg:Bool}:yp K (NR neg) (qJ neg):=λXw F H y x dk dd Q s hk hd w=>by
 unfold qJ at w;cases he:Ge dd dk with
 |none=>rw[he] at w;exact w.elim
 |some o=>
  rw[he] at w;obtain⟨a,ov,h1,h2,h3,_⟩:=z9 s hd hk he;refine⟨a,ov,h1,h2,?_⟩;rw[h3];exact WP.now w s rfl
def sT(hu:X.A.units+64<cLine)(ha:PD X Xw a δa)(hb:PD X Xw b δb)(hm:WJ .NotIn b=false:=by rfl):qC X Xw (.Compare a [.NotIn] [b] pos) (dN (d2 (qJ true) δa δb)):=lp (B_ hu) Ht ha hb hm
def dz(d k:D):M D:=match Ge d k with
 |some (some v)=>aa v
 |_=>ag
def j7(hu:X.A.units+64<cLine)(ha:PD X Xw a δa)(hb:PD X Xw b δb)(hs:Jy b:=by intro _ _;rfl):PD X Xw (.Subscript a b pos) (d2 dz δa δb):=
 PE.weak (HK (by omega) ha hb hs) λσ H Q ⟨F,ρ,s,w⟩=>by
  refine⟨F,ρ,s,WP.mono (WP.bind w) λx H1 ⟨F1,d,e1,q1,w1⟩=>?_⟩;refine⟨F1,ρ,s.ext e1,WP.mono (WP.bind w1) λy H2 ⟨F2,k,e2,q2,w2⟩=>?_⟩;unfold dz at w2;cases he:Ge d k with
  |none=>rw[he] at w2;exact w2.elim
  |some o=>
   cases o with
   |none=>rw[he] at w2;exact w2.elim
   |some d'=>
    rw[he] at w2;obtain⟨a,ov,h1,h2,h3,h4⟩:=z9 e2.fh (Den.mono e2.ff q1) q2 he;obtain⟨v,rfl,hd⟩:=h4 d' rfl;exact⟨a,v,h1,h2,WP.now w2 e2.fh hd⟩
end
section
variable{X:Cx}{f8:List (Addr×Obj)}{σ:St}{H:Hp}{s:Vf}{h':Heap}
def Inv.turnedLaid{t':Nat}{ch:List Addr}{a:Addr}{o:HO}(I:Inv X f8 σ H s)(k:∀b q,b∉ch->s.heap.get? b=some q->h'.get? b=some q)(hf:∀b∈ch,nZ X f8 H b)(hp:s.heap.objs.size<=a)(new:ObjOk X.prog X.w (upd H a o) h' a o):
 Inv X f8 σ (upd H a o) {s with heap:=h',toks:=t'}:=by
 have hn:=I.hok.fresh hp;have Jn:∀b u,H b=some u->b∉ch:=λb u e z=>by rw[(hf b z).1] at e;cases e
 refine I.step (g':=s.gens) (d':=s.drawn) (ch:=ch) (λb hb=>?_) (λb q _ _ hc e _=>k b q hc e) (λb q _ _ hc e _=>⟨q.slots,k b q hc e⟩) (λb q hc e n=>?_)
  (λb q hc e=>⟨q,k b q hc e⟩) (λb xs e=>?_) (λb q u e=>?_) (λb ps e=>⟨#[],?_⟩) (λm hm=>?_) (λb u e=>?_) I.bare
 ·obtain⟨f0,f1,f2,f3,f4,f5⟩:=hf b hb;exact⟨f3,f1,f4,f5⟩
 ·rw[av (λz=>by rw[z] at e;exact acK (Vr e) (Nat.not_lt.mpr hp))];exact n
 ·rw[av (a_ e hn)];exact e
 ·rw[av (a_ e hn)];exact e
 ·rw[av (a_ e hn),e];simp
 ·obtain⟨q,es,ep,ho,r⟩:=hm;exact⟨q,es,ep,k _ q (λz=>(hf _ z).2.1 rfl) ho,r⟩
 ·by_cases hb:b=a
  ·subst hb;rw[aD] at e;cases e;exact new
  ·rw[av hb] at e;refine(I.hok b u e).stay (λc v hc q=>k c v ?_ q) (λc q=>by rw[av (a_ q hn)];exact q) λc xs q=>by rw[av (a_ q hn)];exact q
   rcases hc with z | z
   ·rw[z];exact Jn b u e
   ·exact Jn c _ z
def Inv.turnedL{t':Nat}{ch:List Addr}(I:Inv X f8 σ H s)(k:∀b q,b∉ch->s.heap.get? b=some q->h'.get? b=some q)(hf:∀b∈ch,nZ X f8 H b):Inv X f8 σ H {s with heap:=h',toks:=t'}:=by
 have Jn:∀b u,H b=some u->b∉ch:=λb u e z=>by rw[(hf b z).1] at e;cases e
 refine I.step (g':=s.gens) (d':=s.drawn) (ch:=ch) (λb hb=>?_) (λb q _ _ hc e _=>k b q hc e) (λb q _ _ hc e _=>⟨q.slots,k b q hc e⟩) (λb q hc e n=>n)
  (λb q hc e=>⟨q,k b q hc e⟩) (λb xs e=>e) (λb q u e=>e) (λb ps e=>⟨#[],by rw[e];simp⟩) (λm hm=>?_) (λb u e=>?_) I.bare
 ·obtain⟨f0,f1,f2,f3,f4,f5⟩:=hf b hb;exact⟨f3,f1,f4,f5⟩
 ·obtain⟨q,es,ep,ho,r⟩:=hm;exact⟨q,es,ep,k _ q (λz=>(hf _ z).2.1 rfl) ho,r⟩
 ·refine(I.hok b u e).stay (λc v hc q=>k c v ?_ q) (λc q=>q) λc xs q=>q;rcases hc with z | z
  ·rw[z];exact Jn b u e
  ·exact Jn c _ z
end
def Q1(K:Vn)(a:Addr):It:=
 ⟨λi H=>∃xs x,SqL K H a xs/\xs[i]? =some x,λi H x H'=>∃p,x= .ref p/\H p=none/\∃v,(∀xs,SqL K H a xs->xs[i]? =some v)/\H'=upd H p (.tup [.int (i:Int),v]),λi H=>∃xs,SqL K H a xs/\xs.length<=i⟩
def Cz{P:VG}{w:World}{K:Vn}{es:List Expr}{x1}{tp:Pos}(l e it:Addr)(LU:e≠it):
 Turn P w K (.Tuple es x1 tp) (Q1 K l) [e,it] e (λi h=>∃old,IsEnum h e it (i:Int) old/\h.IsListIter it l i) where
 mem:=by simp
 obj:=λi h ⟨old,zO,tx⟩ b hb=>by
  rcases Vo.mp hb with z | z
  ·subst z;exact⟨_,zO,λv z=>nomatch z⟩
  ·have z:b=it:=by simpa using z
   subst z;obtain⟨o,e1,c,d⟩:=tx;exact⟨o,e1,λv z=>by rw[d] at z;cases z⟩
 keep:=λi h h' ⟨old,zO,tx⟩ k=>⟨old,k e (by simp) _ zO,tx.at λo q=>k it (by simp) o q⟩
 item:=by
  intro X hP hw hK hc i f8 s σ H E I hf st hg;subst hP hw hK;obtain⟨old,zO,tx⟩:=st;obtain⟨xs,x,hq,hx⟩:=hg;obtain⟨aB,rv,p,hz⟩:=I.list hq;obtain⟨u,hu,ru⟩:=rv.get hx;refine wpAny_pyNext_enum_item zO tx p.isList (x:=u) (by simpa using hu) LU λh1 k1 k2 k3 k4 k5=>?_;refine⟨_,rfl,wpAny_letOwnedTupleGo_enum k1 λh2 m1 m2=>?_⟩;have gh:s.heap.objs.size≠e:=XS (Vr zO);have QW:h2.get? s.heap.objs.size=some {cls:= .type "tuple",data:= .seq #[.int i s.toks,u]}:=(m2.2 _ gh).trans k3;have keep:∀b q,b∉[e,it]->s.heap.get? b=some q->h2.get? b=some q:=λb q hb e1=>by
   have Ox:b≠e:=λz=>hb (by simp[z]);have JY:b≠it:=λz=>hb (by simp[z]);exact(m2.2 b Ox).trans (k5 b q Ox JY e1)
  have I2:Inv X f8 σ (upd H s.heap.objs.size (.tup [.int (i:Int),x])) {s with heap:=h2,toks:=s.toks+1}:=by
   refine Inv.turnedLaid (s:=s) I keep hf (Vj _) ⟨?_,[.int i s.toks,u], .cons ⟨_,rfl⟩ (.cons ru .nil),_,QW,rfl,_,rfl⟩;rw[Xe];show 2<=_;decide
  refine⟨.ref s.heap.objs.size,_,I2,rfl,⟨_,rfl,I.hok.fresh (Vj _),x,λys hy=>by rw[I.list_inj hy hq];exact hx,rfl⟩,⟨u,?_,?_⟩,λb hb=>?_⟩
  ·have:((i+1:Nat):Int)=(i:Int)+1:=by push_cast;rfl
   rw[this];exact m1
  ·exact k2.at λo q=>(m2.2 it (Wv LU)).trans q
  ·rw[av (λz=>by
    rcases Vo.mp hb with y | y
    ·exact acK (Vr zO) (by rw[<-y,z];exact Wc _)
    ·have y:b=it:=by simpa using y
     obtain⟨o,q1,_⟩:=id tx;exact acK (Vr q1) (by rw[<-y,z];exact Wc _))]
   exact(hf b hb).1
 done:=by
  intro X hP hw hK hc i f8 s σ H E I hf st hg;subst hP hw hK;obtain⟨old,zO,tx⟩:=st;obtain⟨xs,hq,hx⟩:=hg;obtain⟨aB,rv,p,hz⟩:=I.list hq;have hl:=rv.length;exact wpAny_pyNext_enum_end (I.ok.hd hc) zO tx p.isList (by simp;omega) λh' eb=>⟨rfl,Inv.turnedL (t':=s.toks) (ch:=[it]) I (λb q hb e1=>eb b q (λz=>hb (by simp[z])) e1) λb hb=>hf b (Vc _ hb)⟩
 self:=λA i s Q E st h=>by
  obtain⟨old,zO,tx⟩:=st;exact wpAny_pyIter_enum zO h
def D5{K:Vn}{F:Hp}{a:Addr}{vs:List V}{ds:List D}(h:SqL K F a vs)(hd:DenL K F ds vs):ItD K F (Q1 K a) (ds.mapIdx λi d=> .tup [.int (i:Int),d]):=λF' H' i s1 s2=>by
 have hs:=Same.seq s2 (Same.seq s1 h);refine⟨λd e=>?_,λhl=>⟨vs,hs,by rw[List.length_mapIdx,hd.len] at hl;exact hl⟩⟩;rw[abV] at e;cases q:ds[i]? with
 |none=>rw[q] at e;cases e
 |some d0=>
  rw[q] at e;cases e;obtain⟨v,e1,q1⟩:=hd.get q;refine⟨⟨vs,v,hs,e1⟩,λx H'' ⟨p,y1,y2,u,y3,y4⟩=>?_⟩;subst y1 y4;have:=y3 vs hs;rw[e1] at this;cases this;have E:=Ext.lay (o:= .tup [.int (i:Int),v]) s2 y2;exact⟨_,E,p,_,rfl,aD, .cons rfl (.cons (Den.mono E.ff (Den.mono s1 q1)) .nil),by show 2<=lim;decide⟩
section
variable{X:Cx}{Xw:Nat->Hp->Prop}{e:Expr}{es:List Expr}{δs:DA}{pos p tp:Pos}{x1:Nat}
def Ak:List D->M (List D)
 |[.lst ds]=>aa (ds.mapIdx λi d=> .tup [.int (i:Int),d])
 |_=>ag
def EZ(hg:Gl X "enumerate")(hm:X.mg "enumerate"=none)(ha:iu X Xw [e] δs)(hs:Vs [e] X.env=[(false,eval e X.env)]:=by rfl):yu X Xw (.Tuple es x1 tp) (.Call (.Name "enumerate" p) [e] [] pos) (λρ=>δs ρ>>=Ak):=by
 intro f8 s σ H R I ⟨F,ρ,S,w⟩;refine Call_ (iJ I hg hm (show V4 "enumerate"=some (.type "enumerate") from rfl) (WV (bV (ha pos f8 s σ H (λvs H1=>∃F1 ds,Ext F H F1 H1/\DenL X.K F1 ds vs/\WPI X.K Xw F1 H1 (Ak ds) R) I ⟨F,ρ,S,WPI.bindL w⟩) λus s1 ⟨vs,H1,I1,r1,F1,ds,e1,q1,w1⟩=>?_) hs rfl));unfold Ak at w1;split at w1
 ·rename_i ds;obtain⟨v,rfl,h1⟩:=q1.one;obtain⟨a,xs,rfl,h2,h3,h4⟩:=h1;obtain⟨u,rfl,r2⟩:=r1.one;cases (show u=_ from r2);obtain⟨aB,rv,pl,hz⟩:=I1.list (SqL.of (K:=X.K) (e1.fh _ _ h2));refine call_enumerate_list pl.isList λh' k1 k2 k3 k4=>?_;refine wpAny_pyIter_enum k1 ?_;refine⟨s1.heap.objs.size+1,[s1.heap.objs.size+1,s1.heap.objs.size],_,_,H1,rfl,I1.kept (t':=s1.toks) λb o e=>k4 b o e,Cz a _ _ (XS (XC _)),⟨.none,k1,k2⟩,λb hb=>?_,w1 _ _ _ (Ext.refl e1.fh) (D5 (SqL.of h2) h3)⟩;have e:s1.heap.objs.size<=b:=by
   rcases Vo.mp hb with z | z
   ·rw[z];exact Nat.le_succ _
   ·have z:b=s1.heap.objs.size:=by simpa using z
    rw[z];exact Vj _
  exact I1.fpOk e (I1.hok.fresh e)
 ·exact w1.elim
end
def G_:Key->D
 | .inl i=> .int i
 | .inr x=> .str x
def IC(H:Hp)(d:Addr)(od:Obj)(i:Nat)(x:V):Prop:=
 (∃aA k b,H d=some (.frz od (.dT aA))/\(aA.map (·.1))[i]? =some k/\x= .ref b/\H b=some (.tup (k.map kV)))\/
 ∃aA k,H d=some (.frz od (.dK aA))/\(aA.map (·.1))[i]? =some k/\x=kV k
def Q0(d:Addr)(od:Obj):It:=
 ⟨λi H=>(∃aA,H d=some (.frz od (.dT aA))/\i<aA.length)\/∃aA,H d=some (.frz od (.dK aA))/\i<aA.length,λi H x H'=>H'=H/\IC H d od i x,
  λi H=>(∃aA,H d=some (.frz od (.dT aA))/\aA.length<=i)\/∃aA,H d=some (.frz od (.dK aA))/\aA.length<=i⟩
def mZ{α β γ:Type}{R:α->β->Prop}{f:α->γ}{g:β->γ}(h:∀a b,R a b->f a=g b):∀{l:List α}{m:List β},aag R l m->l.map f=m.map g
 |_,_, .nil=>rfl
 |_,_, .cons r t=>by rw[Vi,Vi,h _ _ r,mZ h t]
def j5{α β:Type}{R:α->β->Prop}:∀{l:List α}{m:List β}{i:Nat}{a:α},aag R l m->l[i]? =some a->∃b,m[i]? =some b/\R a b
 |_,_,i,_, .nil,e=>by simp at e
 |_,_,0,_, .cons r t,e=>by simp at e;subst e;exact⟨_,rfl,r⟩
 |_,_,i+1,_, .cons r t,e=>by
  obtain⟨b,e1,e2⟩:=j5 (i:=i) t (by simpa using e);exact⟨b,by simpa using e1,e2⟩
def Cb{prog:VG}{w:World}{κ:Type}[DecidableEq κ]{knd:KeyKind prog w κ}:∀{es:List XA}{aA:List (κ×Value)}{i:Nat}{kv:κ×Value},Pairs knd es aA->aA[i]? =some kv->∃e,es[i]? =some e/\knd.is kv.1 e.key=true:=by
 intro es aA i kv h e;induction h generalizing i with
 |nil=>simp at e
 | @cons en U8 LP Uo h1 h2 h3 ih=>
   cases i with
   |zero=>simp at e;subst e;exact⟨en,rfl,h1⟩
   |succ i=>
    obtain⟨q,e1,e2⟩:=ih (i:=i) (by simpa using e);exact⟨q,by simpa using e1,e2⟩
def Ks{k:Key}{u:Value}(h:o8 k u=true):RelV (kV k) u:=by
 rcases bU h with⟨i,t,rfl,rfl⟩ | ⟨x,t,rfl,rfl⟩
 ·exact⟨t,rfl⟩
 ·exact⟨t,rfl⟩
def oC{X:Cx}{f8:List (Addr×Obj)}{σ:St}{H:Hp}{s:Vf}{d:Addr}{od:Obj}{n:Nat}(I:Inv X f8 σ H s)
 (h:(∃aA,H d=some (.frz od (.dT aA))/\n=aA.length)\/∃aA,H d=some (.frz od (.dK aA))/\n=aA.length):
 ∃es ep,(d==W0)=false/\s.heap.get? d=some od/\od.ExactDict/\od.data= .dict es ep/\es.size=n/\∀i,i<n->∃e x,es[i]? =some e/\RelV x e.key/\IC H d od i x:=by
 rcases h with⟨aA,e,rfl⟩ | ⟨aA,e,rfl⟩
 ·obtain⟨ho,z,lo,xs,rel,o,es,ep,h1,h2,h3,h4,h5⟩:=(show ObjOk X.prog X.w H s.heap d (.frz od (.dT aA)) from I.hok d _ e)
  rw[ho] at h1;cases h1;have hl:es.size=aA.length:=by
   rw[<-Vh,h4,Vb];exact(Xs rel).symm
  refine⟨es,ep,lo,ho,h2,h3,hl,λi hi=>?_⟩;obtain⟨q,e1,e2,e3,e4⟩:=j5 rel (Vg hi);refine⟨ab2 (XM (a6 X.prog X.w)) q, .ref q.2.1,?_,rfl, .inl ⟨aA,aA[i].1,q.2.1,e,?_,rfl,e3⟩⟩
  ·rw[<-Wq,h4,Vz,e1];rfl
  ·rw[Vz,Vg hi];rfl
 ·obtain⟨ho,z,lo,vs,rel,o,es,ep,h1,h2,h3,h4,h5,h6⟩:=(show ObjOk X.prog X.w H s.heap d (.frz od (.dK aA)) from I.hok d _ e)
  rw[ho] at h1;cases h1;have hl:es.size=aA.length:=by
   rw[<-Vh,h5.length];exact(Xs rel).symm
  refine⟨es,ep,lo,ho,h2,h3,hl,λi hi=>?_⟩;obtain⟨q,e1,e2,e3⟩:=j5 rel (Vg hi);obtain⟨en,e4,e5⟩:=Cb h5 e1;refine⟨en,kV aA[i].1,by rw[<-Wq];exact e4,?_, .inr ⟨aA,aA[i].1,e,by rw[Vz,Vg hi];rfl,rfl⟩⟩;rw[e2];exact Ks e5
def CA{P:VG}{w:World}{K:Vn}{tg:Expr}(d it:Addr)(od:Obj)(es:Array XA)(ep:Nat)(nE:od.data= .dict es ep):
 Turn P w K tg (Q0 d od) [it] it (λi h=>h.IsKeyIter it d i es.size ep) where
 mem:=by simp
 obj:=λi h st b hb=>by
  have e:b=it:=by simpa using hb
  subst e;obtain⟨o,e,c,dd⟩:=st;exact⟨o,e,λv z=>by rw[dd] at z;cases z⟩
 keep:=λi h h' st k=>st.at λo e=>k it (by simp) o e
 item:=by
  intro X hP hw hK hc i f8 s σ H E I hf st hg;subst hP hw hK;obtain⟨n,hn,hi⟩:∃n,((∃aA,H d=some (.frz od (.dT aA))/\n=aA.length)\/∃aA,H d=some (.frz od (.dK aA))/\n=aA.length)/\i<n:=by
   rcases hg with⟨aA,e,hi⟩ | ⟨aA,e,hi⟩
   ·exact⟨_, .inl ⟨aA,e,rfl⟩,hi⟩
   ·exact⟨_, .inr ⟨aA,e,rfl⟩,hi⟩
  obtain⟨LP,GJ,lo,ho,hx,nQ,hsz,hk⟩:=oC I hn;rw[nE] at nQ;cases nQ;obtain⟨en,x,e1,rx,ka⟩:=hk i hi;obtain⟨f0,f1,f2,f3,f4,f5⟩:=hf it (by simp);refine w9 st ho nE e1 λh' qi sb=>?_;have I1:Inv X f8 σ H {s with heap:=h'}:=I.turned (t':=s.toks) (λb o hb e=>(sb.2 b hb).trans e) f0 f1 f3 f4 f5;obtain⟨o,e2,c,dd⟩:=id qi;exact⟨_,rfl,rR (s:={s with heap:=h'}) e2 c dd (by decide) ⟨x,H,I1,rx,⟨rfl,ka⟩,qi,λb hb=>(hf b hb).1⟩⟩
 done:=by
  intro X hP hw hK hc i f8 s σ H E I hf st hg;subst hP hw hK;obtain⟨n,hn,hi⟩:∃n,((∃aA,H d=some (.frz od (.dT aA))/\n=aA.length)\/∃aA,H d=some (.frz od (.dK aA))/\n=aA.length)/\n<=i:=by
   rcases hg with⟨aA,e,hi⟩ | ⟨aA,e,hi⟩
   ·exact⟨_, .inl ⟨aA,e,rfl⟩,hi⟩
   ·exact⟨_, .inr ⟨aA,e,rfl⟩,hi⟩
  obtain⟨LP,GJ,lo,ho,hx,nQ,hsz,hk⟩:=oC I hn;rw[nE] at nQ;cases nQ;obtain⟨f0,f1,f2,f3,f4,f5⟩:=hf it (by simp);exact rJ (I.ok.hd hc) st (by omega) ho nE λh' eb=>⟨rfl,I.turned (t':=s.toks) (λb o hb e=>eb b o hb e) f0 f1 f3 f4 f5⟩
 self:=λ_ _ _ _ _ st h=>wpAny_pyIter_keyiter st h
def tupK(k:List Key):D:= .tup (k.map G_)
def AJ:Key->Bool
 | .inl _=>true
 | .inr x=>decide (x.length<=lim)
def mH:D->M (List D)
 | .dct ks _=>if ks.all (λk=>decide (k.length<=lim)&&k.all AJ) then aa (ks.map tupK) else ag
 | .dci ks _=>if ks.all AJ then aa (ks.map G_) else ag
 |_=>ag
def wM{K:Vn}{F:Hp}{k:Key}(h:AJ k=true):Den K F (G_ k) (kV k):=by
 cases k with
 |inl i=>exact rfl
 |inr x=>exact⟨rfl,acO h⟩
def sk{K:Vn}{F:Hp}:∀{k:List Key},k.all AJ=true->DenL K F (k.map G_) (k.map kV)
 |[],_=>rfl
 |x::k,h=>by
  rw[YL,VA] at h;exact .cons (wM h.1) (sk h.2)
def D6{K:Vn}{F:Hp}{a:Addr}{ob:Obj}{d:D}{ds:List D}(hd:Den K F d (.ref a))(hF:∃u,F a=some (.frz ob u))(e:mH d=aa ds):ItD K F (Q0 a ob) ds:=λF' H' i s1 s2=>by
 unfold mH at e;split at e
 ·rename_i ks es;split at e
  ·rename_i hok;obtain rfl:=fZ e;obtain⟨a',Us,vs,z,h2,h3,h4,h5⟩:=hd;cases z;obtain⟨u,hu⟩:=hF;rw[h2] at hu;cases hu;have hh:=s2 _ _ (s1 _ _ h2);have hz:=ju (a:=ks) (b:=vs) (by rw[h4];exact h3.len);have hl:(ks.zip vs).length=ks.length:=by rw[<-Vb (f:=(·.1)),hz]
   refine⟨λd e=>?_,λhle=> .inl ⟨_,hh,by rw[hl];simpa using hle⟩⟩;rw[Vz] at e;cases q:ks[i]? with
   |none=>rw[q] at e;cases e
   |some k=>
    rw[q] at e;cases e;have hi:=(Vt.mp q).1;refine⟨.inl ⟨_,hh,by rw[hl];exact hi⟩,λx H'' ⟨y1,y2⟩=>?_⟩;subst y1;have hk:=Wu.mp hok k (VY q);rw[VA] at hk;rcases y2 with⟨aA,k',b,q1,q2,rfl,q3⟩ | ⟨aA,k',q1,q2,rfl⟩
    ·rw[hh] at q1;cases q1;rw[hz,q] at q2;cases q2;have E:=Ext.tup (F:=F') s2 q3;exact⟨_,E,b,_,rfl,aD,sk hk.2,by rw[Vb];exact acO hk.1⟩
    ·rw[hh] at q1;cases q1
  ·exact(jd e).elim
 ·rename_i ks es;split at e
  ·rename_i hok;obtain rfl:=fZ e;obtain⟨a',Us,vs,z,h2,h3,h4,h5⟩:=hd;cases z;obtain⟨u,hu⟩:=hF;rw[h2] at hu;cases hu;have hh:=s2 _ _ (s1 _ _ h2);have hz:=ju (a:=ks) (b:=vs) (by rw[h4];exact h3.len);have hl:(ks.zip vs).length=ks.length:=by rw[<-Vb (f:=(·.1)),hz]
   refine⟨λd e=>?_,λhle=> .inr ⟨_,hh,by rw[hl];simpa using hle⟩⟩;rw[Vz] at e;cases q:ks[i]? with
   |none=>rw[q] at e;cases e
   |some k=>
    rw[q] at e;cases e;have hi:=(Vt.mp q).1;refine⟨.inr ⟨_,hh,by rw[hl];exact hi⟩,λx H'' ⟨y1,y2⟩=>?_⟩;subst y1;have hk:=Wu.mp hok k (VY q);rcases y2 with⟨aA,k',b,q1,q2,rfl,q3⟩ | ⟨aA,k',q1,q2,rfl⟩
    ·rw[hh] at q1;cases q1
    ·rw[hh] at q1;cases q1;rw[hz,q] at q2;cases q2;exact⟨F',Ext.refl s2,wM hk⟩
  ·exact(jd e).elim
 ·exact(jd e).elim
section
variable{X:Cx}{Xw:Nat->Hp->Prop}{tg l:Expr}{δ:DE}
def E2(h:PD X Xw l δ):yu X Xw tg l (λρ=>δ ρ>>=mH):=by
 intro f8 s σ H R I ⟨F,ρ,S,w⟩;refine bV (h f8 s σ H (λv H1=>∃F1 d,Ext F H F1 H1/\Den X.K F1 d v/\WPI X.K Xw F1 H1 (mH d) R) I ⟨F,ρ,S,WPI.bind w⟩) λu s1 ⟨v,H1,I1,r1,F1,d,e1,q1,w1⟩=>?_;rcases(mH d).cs with z | ⟨n,z⟩ | ⟨ds,z⟩
 ·rw[z] at w1;exact w1.elim
 ·exfalso
  unfold mH at z;split at z
  ·split at z<;>cases z
  ·split at z<;>cases z
  ·cases z
 ·rw[z] at w1;obtain⟨a,ob,u',rfl,hF,hn⟩:∃a ob u',v= .ref a/\F1 a=some (.frz ob u')/\∃n,((∃aA,H1 a=some (.frz ob (.dT aA))/\n=aA.length)\/∃aA,H1 a=some (.frz ob (.dK aA))/\n=aA.length):=by
   unfold mH at z;split at z
   ·obtain⟨a,ob,vs,e,h2,_⟩:=q1;exact⟨a,ob,_,e,h2,_, .inl ⟨_,e1.fh _ _ h2,rfl⟩⟩
   ·obtain⟨a,ob,vs,e,h2,_⟩:=q1;exact⟨a,ob,_,e,h2,_, .inr ⟨_,e1.fh _ _ h2,rfl⟩⟩
   ·exact(jd z).elim
  obtain⟨n,hn⟩:=hn;cases (show u=_ from r1);obtain⟨es,ep,lo,ho,hx,hd,hsz,hk⟩:=oC I1 hn;refine sf lo ho hx hd ?_;refine⟨s1.heap.objs.size,[s1.heap.objs.size],_,_,H1,rfl,I1.kept (t':=s1.toks) λb o e=>Vd _ e,CA a _ ob es ep hd,⟨_,Vq _ rfl,rfl,rfl⟩,λb hb=>?_,w1 _ _ _ (Ext.refl e1.fh) (D6 q1 ⟨_,hF⟩ z)⟩;have e:b=s1.heap.objs.size:=by simpa using hb
  subst e;exact I1.fpOk (Vj _) (I1.hok.fresh (Vj _))
end
end L3
namespace L3
open PySem
section
variable{prog:VG}{w:World}{K:Type}[DecidableEq K]{knd:HeapKind prog w K}{A:V2}{E:Value->Vf->Prop}{s:Vf}
def qd{d a:Addr}{xs:List (K×Addr×Value)}{k:K}{v:Value}{Q:Unit->Vf->Prop}(hu:knd.room A)(BA:knd.is s.heap k a)(hm:s.heap.DictOfH knd d xs)(hsz:xs.length<=VB)
 (hQ:∀h',h'.DictOfH knd d (YO xs k a v)->WQ d s.heap h'->Q () {s with heap:=h'}):wpAny (model prog w) A (aaA d (.ref a) (knd.hash k) v) Q E s:=by
 obtain⟨o,es,ep,ho,hc,hd,he,Pw,hn⟩:=hm;unfold aaA;refine Wf (U_ (wpAny_dictFind_heap hu BA ho hd he Pw hn (λoP=>?_) λj p hj=>?_))
 ·have e0:=atKey_none_of_get oP;have hz:es.size<=VB:=by rw[abt he];exact hsz
  refine U_ (abZ (wpAny_updateDictKeys (hz:=hz) ho hd (hQ _ ?_ (VT ..))));rw[storedH_new e0];refine⟨_,_,ep+1,Wb _ ho (ZW (YJ hd _)),hc.mapDictKeys _,YJ hd _,by simp[he,ab2],λx hx=>?_,?_⟩
  ·rcases V3.mp hx with hx | hx
   ·exact knd.keeps (Pw x hx) ho hd (VT ..)
   ·obtain rfl:x=(k,a,v):=by simpa using hx
    exact knd.keeps BA ho hd (VT ..)
  ·rw[WA];refine Xo.mpr ⟨hn,by simp,λx hx y hy z=>?_⟩;have hy:y=k:=by simpa using hy
   exact not_mem_keys_of_get oP (by rw[<-hy,<-z];exact hx)
 ·have e0:=atKey_of_get hn hj;refine U_ (abZ (U_ (wpAny_updateDict ho hd (wpAny_point (hQ _ ?_ (VT ..))))));rw[storedH_old e0];refine⟨_,_,ep,Wb _ ho (ZW (Obj.data_mapDict hd _)),hc.mapDict _,Obj.data_mapDict hd _,?_,λx hx=>?_,by rw[keys_map_putAt];exact hn⟩
  ·have:=modify_map_putAt (ab2 knd) (λe:XA=>{e with val:=v}) k v (λ_ _=>rfl) hn hj;rw[<-he] at this;obtain⟨l⟩:=es;simpa using this
  ·obtain⟨y,hy,rfl⟩:=Vp.mp hx;unfold putAt;split<;>exact knd.keeps (Pw y hy) ho hd (VT ..)
def bz(xs ys:List (K×Addr×Value)):List (K×Addr×Value):=ys.foldl (λu8 y=>YO u8 y.1 y.2.1 y.2.2) xs
def yb(xs:List (K×Addr×Value))(k:K)(a:Addr)(v:Value):(YO xs k a v).length<=xs.length+1:=by
 unfold YO;split<;>simp
def iM:∀(ys xs:List (K×Addr×Value)),(bz xs ys).length<=xs.length+ys.length
 |[],xs=>Vj _
 |y::ys,xs=>by
  have h1:=iM ys (YO xs y.1 y.2.1 y.2.2);have h2:=yb xs y.1 y.2.1 y.2.2;show (bz (YO xs y.1 y.2.1 y.2.2) ys).length<=_;rw[Vk];omega
def kN{xs ys:List (K×Addr×Value)}{i:Nat}{y:K×Addr×Value}(h:ys[i]? =some y):bz xs (ys.take (i+1))=YO (bz xs (ys.take i)) y.1 y.2.1 y.2.2:=by
 rw[List.take_add_one,h];unfold bz;rw[List.foldl_append];rfl
def iN:∀(ys u8:List (K×Addr×Value)),((u8++ys).map (·.1)).Nodup->bz u8 ys=u8++ys
 |[],u8,_=>by simp[bz]
 |y::ys,u8,hn=>by
  show bz (YO u8 y.1 y.2.1 y.2.2) ys=_;have PK:y.1∉u8.map (·.1):=λh=>by
   rw[WA] at hn;exact(Xo.mp hn).2.2 _ h _ (by simp) rfl
  have e0:atKey u8 y.1=none:=atKey_none_of_get λj p hj=>PK (Vp.mpr ⟨_,VY hj,rfl⟩);rw[storedH_new e0,iN ys (u8++[(y.1,y.2.1,y.2.2)]) (by simpa using hn)];simp
def t6{id:String}{o:Addr}{ob:Obj}{es:Array XA}{ep:Nat}{Q:Array XA->Vf->Prop}(ho:s.heap.get? o=some ob)(hd:ob.data= .dict es ep)
 (hq:∀e∈es.toList,∃a,e.key= .ref a/\s.TypeIs (.ref a) "tuple")(hh:∀e∈es.toList,(es.filter (·.hash==e.hash)).size<=1)(h:Q es s):wpAny (model prog w) A (ZM id o) Q E s:=by
 unfold ZM;refine U_ (Xc ho hd ?_);rw[<-ZZ];refine U_ (Yi _ (λP3 _ s'=>s'=s/\∀e∈P3,e∈es.toList) _ ?_ ?_ _ _ ⟨rfl,λ_ h=>h⟩)
 ·rintro e P3 b s' ⟨rfl,hr⟩;obtain⟨a,ea,ta⟩:=hq e (hr e (Ve ..));have hf:=hh e (hr e (Ve ..));have cN:¬((es.filter (·.hash==e.hash)).size>1):=by omega
  rw[ea];unfold Builtin.Dict.quietEq;refine U_ (U_ (YZ ta F.slot_tuple_eq.lookup (Va ?_)));simp only[cN,if_false];have:(some (Yh "tuple.__eq__")==some (Yh "object.__eq__"))=false:=by decide
  simp only[this,YX,if_true];exact Va ⟨rfl,λx hx=>hr x (Vc _ hx)⟩
 ·rintro b s' ⟨rfl,_⟩;exact Va h
def pq{nm:String}{d o:Addr}{xs ys:List (K×Addr×Value)}{Q:Unit->Vf->Prop}(hu:knd.room A)(Ry:d≠o)(TU:(o==W0)=false)(hd:s.heap.DictOfH knd d xs)(ho:s.heap.DictOfH knd o ys)
 (Tx:∀{h:Heap}{k:K}{a:Addr},knd.is h k a->∃ob,h.get? a=some ob/\ob.cls= .type "tuple")(hh:xs=[]->(ys.map λy=>knd.hash y.1).Nodup)(hsz:xs.length+ys.length<=VB)
 (hQ:∀h',h'.DictOfH knd d (bz xs ys)->WQ d s.heap h'->Q () {s with heap:=h'}):wpAny (model prog w) A (aap nm d o) Q E s:=by
 obtain⟨od,Sw,Ss,BC,rS,nE,S7,Pt,Gk⟩:=id hd;obtain⟨oo,yQ,Su,MY,UQ,Bv,CJ,Pu,oP⟩:=id ho;have M2:=abt CJ;unfold aap;rw[acJ (by simpa using Ry)];unfold YW;rw[acJ (by rw[TU];exact VM)];refine U_ (Va (U_ (Xc MY Bv ?_)));have loop:∀(body:Nat->PUnit->Sem (ForInStep PUnit)),body=(λi (_:PUnit)=>(do
       let l'<-dictEntries o
       match l'[i]? with
        |some e=>do
         holding [e.key,e.val] (aaA d e.key e.hash e.val)
         let GJ<-dictEpoch o
         if (GJ !=Su)=true then do (unsupported (Xn nm++Xn ":source-changed-during-callback"):Sem PUnit);pure (Wy Yv) else pure (Wy Yv)
        |_=>do
         (unsupported "internal:dict-merge":Sem PUnit)
         pure (Wy Yv):Sem (ForInStep PUnit)))->wpAny (model prog w) A (forIn [:yQ.size] Yv body) (λ_ s'=>Q () s') E s:=by
  rintro _ rfl;rw[Std.Legacy.Range.forIn_eq_forIn_range'];simp only[Std.Legacy.Range.size,Nat.sub_zero,Nat.add_sub_cancel,Nat.div_one];refine Yi _ (λP3 _ s'=>∃h' i,s'={s with heap:=h'}/\P3=Wr i (yQ.size - i)/\i<=yQ.size/\h'.DictOfH knd d (bz xs (ys.take i))/\h'.get? o=some oo/\WQ d s.heap h') _ ?_ ?_ _ _
   ⟨s.heap,0,rfl,by simp,V1 _,by simpa[bz] using hd,MY,aa4 _ _⟩
  ·rintro x P3 b s' ⟨h',i,rfl,hr,hi,nQ,Kb,wH⟩;have cN:i<yQ.size:=by
    by_cases h:i<yQ.size
    ·exact h
    ·rw[show yQ.size - i=0 by omega] at hr;simp at hr
   rw[show yQ.size - i=(yQ.size - (i+1))+1 by omega,Zl] at hr;injection hr with h1 h2
   subst h1;refine U_ (Xc Kb Bv ?_);obtain⟨y,hy⟩:∃y,ys[x]? =some y:=⟨_,Vg (by omega)⟩
   rw[entry_at CJ x,hy];have TM:(bz xs (ys.take x)).length<=VB:=by
    have e1:=iM (ys.take x) xs;rw[Xi] at e1;omega
   have Tz:knd.is h' y.1 y.2.1:=knd.keeps (Pu y (VY hy)) BC nE wH;refine U_ (Wf (qd hu Tz nQ TM λRg Pk M8=>?_));have Je:Rg.get? o=some oo:=(M8.2 o (Wv Ry)).trans Kb;refine U_ (Y0 Je Bv ?_);rw[acJ (by simp)];exact Va ⟨Rg,x+1,rfl,h2,cN,by rw[kN hy];exact Pk,Je,wH.trans M8⟩
  ·rintro b s' ⟨h',i,rfl,hr,hi,nQ,Kb,wH⟩;have nR:i=yQ.size:=by
    by_cases h:i<yQ.size
    ·rw[show yQ.size - i=(yQ.size - (i+1))+1 by omega,Zl] at hr;exact nomatch hr
    ·omega
   refine hQ h' ?_ wH;rw[nR,M2,Zk] at nQ;exact nQ
 have go:wpAny (model prog w) A (do
  let Mp<-dictEpoch o
  let l<-dictEntries o
  forIn [:l.size] Yv λi (_:PUnit)=>(do
   let l'<-dictEntries o
   match l'[i]? with
    |some e=>do
     holding [e.key,e.val] (aaA d e.key e.hash e.val)
     let GJ<-dictEpoch o
     if (GJ !=Mp)=true then do (unsupported (Xn nm++Xn ":source-changed-during-callback"):Sem PUnit);pure (Wy Yv) else pure (Wy Yv)
    |_=>do
     (unsupported "internal:dict-merge":Sem PUnit)
     pure (Wy Yv):Sem (ForInStep PUnit))
  pure ()) Q E s:=by
  refine U_ (Y0 MY Bv (U_ (Xc MY Bv (U_ ?_))));exact Wl (loop _ rfl) (λ_ _ h=>Va h) λ_ _ h=>h
 dsimp only
 split
 ·refine U_ (Xc BC nE ?_);split
  ·rename_i J3;have Kf:xs=[]:=by
    have h0:Sw= #[]:=acz.mp J3;have:=abt S7;rw[h0] at this;exact Yn.mp (by simpa using this.symm)
   subst Kf;have TN:=hh rfl;refine U_ (t6 MY Bv (λe he=>?_) (λe he=>?_) ?_)
   ·rw[CJ] at he;obtain⟨y,hy,rfl⟩:=Vp.mp he;obtain⟨ob,h1,h2⟩:=Tx (Pu y hy);exact⟨y.2.1,rfl,ob,h1,h2⟩
   ·have:(yQ.filter (·.hash==e.hash)).size=((ys.map λy=>knd.hash y.1).filter (· ==e.hash)).length:=by
     rw[<-Vh,abY,CJ,List.filter_map,List.filter_map,Vb,Vb];rfl
    rw[this];have hc:=List.nodup_iff_count.mp TN e.hash;rw[List.count_eq_countP,List.countP_eq_length_filter] at hc;exact hc
   ·have hm:bz ([]:List (K×Addr×Value)) ys=ys:=by
     rw[iN ys [] (by simpa using oP)];rfl
    rw[hm] at hQ;split
    ·have T9:yQ.size<=VB+1:=by simp at hsz;omega
     refine U_ (wpAny_updateDictKeysTo BC nE (Va (hQ _ ⟨_,_,Ss+1,Wb _ BC (ZW (YJ nE _)),rS.mapDictKeys _,YJ nE _,CJ,λx hx=>?_,oP⟩ (VT ..))) T9);exact knd.keeps (Pu x hx) BC nE (VT ..)
    ·rename_i gh;have h0:yQ= #[]:=acz.mp (by simpa using gh);have TJ:ys=[]:=Yn.mp (by rw[<-M2,h0];rfl);subst TJ;exact Va (hQ _ hd (aa4 _ _))
  ·exact go
 ·exact go
end
end L3
namespace L3
open PySem PySem.Spec L2
open PyProof.Rows hiding St
def Iz{P:VG}{w:World}{h:Heap}{k:List Key}{a:Addr}(h1:(XM (a6 P w)).is h k a):∃ob,h.get? a=some ob/\ob.cls= .type "tuple":=by
 obtain⟨ob,aB,n,q1,q2,_⟩:=h1;exact⟨ob,q1,q2⟩
def iL(aA more:List (List Key×V)):List (List Key×V):=more.foldl (λu8 kv=>putK u8 kv.1 kv.2) aA
def AE{H:Hp}:∀{more:List (List Key×V)}{ys:List (List Key×Addr×Value)},KT H more ys->∀{aA:List (List Key×V)}{xs:List (List Key×Addr×Value)},KT H aA xs->KT H (iL aA more) (bz xs ys)
 |_,_, .nil,_,_,q=>q
 |_,_, .cons h t,aA,xs,r=>by
  refine AE t ?_;have:=KT.put r _ h.2.1 h.2.2;rw[h.1] at this;show KT H (putK aA _ _) (YO xs _ _ _);rw[h.1];exact this
def pb:∀(more aA:List (List Key×V)),(iL aA more).length<=aA.length+more.length
 |[],aA=>Vj _
 |p::r,aA=>by
  have h1:=pb r (putK aA p.1 p.2);have h2:=eU aA p.1 p.2;show (iL (putK aA p.1 p.2) r).length<=_;rw[Vk];omega
def eT(k:List Int):Int:=reduceHash (ZY (k.map hashInt))
def DJ{P:VG}{w:World}(k:List Int):(XM (a6 P w)).hash (o7 k)=eT k:=by
 show reduceHash (ZY ((o7 k).map (Nm w)))=_;unfold eT o7;rw[VX];rfl
section
variable{X:Cx}{f8:List (Addr×Obj)}{σ:St}{H:Hp}{s:Vf}{a b:Addr}{A:V2}{E:Value->Vf->Prop}
def Di{aA more:List (List Key×V)}{ks:List (List Int)}{Q:Value->Vf->Prop}(hu:A.units+2<cLine)(I:Inv X f8 σ H s)(ha:H a=some (.dT aA))(hb:Rd H b (.dT more))(GW:a≠b)(hk:more.map (·.1)=ks.map o7)
 (hh:aA=[]->(ks.map eT).Nodup)(hz:aA.length+more.length<=VB)(h:∀s',Inv X f8 σ (upd H a (.dT (iL aA more))) s'->Q .none s'):
 wpAny (model X.prog X.w) A (call (.builtin "dict.update") [.ref a, .ref b]) Q E s:=by
 obtain⟨z1,lo1,xs,N0,Om⟩:=Dm I.hok ha;obtain⟨z2,Uq,ys,Ie,yq⟩:=oD I.hok hb;have l1:=Xs N0;have l2:=Xs Ie;have hT:=Om.typeIs;refine Wx aaI hT PySem.F.entry_dict_update ?_ (PySem.F.args_dict_update_2 _ _);unfold X3.«dict.update»;refine U_ ?_;unfold aaa;refine U_ (ZQ hT ?_);show wpAny _ _ (pure (a,[VQ b])) _ _ s;refine Va ?_;show wpAny _ _ (X0 "dict.update" a (.ref b) [] .none) _ _ s;unfold X0;refine U_ (Yr yq.typeIs ?_);rw[acJ (by decide)];refine U_ ?_;unfold Builtin.Dict.merge;refine U_ ?_;unfold Builtin.Dict.readDirectly;refine U_ (ZJ yq.typeIs isSubtype_dict_dict ?_);simp only[XY,VC,if_false];refine U_ (YZ yq.typeIs PySem.F.slot_dict_iter.lookup (Va ?_));simp only[beq_self_eq_true,if_true];refine U_ (Va ?_);refine pq (knd:=XM (a6 X.prog X.w)) (show A.in1.units<cLine by show A.units+1<cLine;omega) GW Uq Om yq Iz (λe0=>?_) (by omega) λh' Bo wH=>?_
 ·have e1:aA=[]:=Yn.mp (by rw[l1,e0];rfl);have:=hh e1;have e2:(ys.map λy=>(XM (a6 X.prog X.w)).hash y.1)=ks.map eT:=by
   have e3:more.map (·.1)=ys.map (·.1):=mZ (λ_ _ r=>r.1) Ie;rw[show (λy:List Key×Addr×Value=>(XM (a6 X.prog X.w)).hash y.1)=(XM (a6 X.prog X.w)).hash∘(·.1) from rfl,<-VX,<-e3,hk,VX];exact W_ λk _=>DJ k
  rw[e2];exact this
 ·show wpAny _ _ (aab a []>>=_) _ _ _;refine U_ (Va (Va ⟨.none,rfl,h _ ?_⟩));obtain⟨q,es,ep,hq,h2,h3,h4,_,h5⟩:=Bo;have hl:(iL aA more).length<=VB:=by have:=pb more aA;omega
  refine kx I (t':=s.toks) (by rw[ha];exact WN) wH ⟨q,hq⟩ ⟨hl,lo1,_,(AE Ie N0).keeps λc ys ec=>?_,q,es,ep,hq,h2,h3,h4,h5⟩;rw[av (Er ec ha (λz=>nomatch z))];exact ec
end
def b9(ks:List (List Key))(ds:List D):List (List Key)->List D->List (List Key)×List D
 |k::ks',d::ds'=>b9 (dh ks ds k) (cq ks ds k d) ks' ds'
 |_,_=>(ks,ds)
def F9(ks:List (List Key))(ds:List D):D->Option C
 | .dct ks' ds'=>match fI ks' with
   |some ns=>if ds.length+ds'.length<=lim/\(ks.isEmpty=true->(ns.map eT).Nodup) then some (.dct (b9 ks ds ks' ds').1 (b9 ks ds ks' ds').2) else none
   |none=>none
 |_=>none
def pj{K:Vn}{F:Hp}:∀{ks':List (List Key)}{ds':List D}{vs':List V}{ks:List (List Key)}{ds:List D}{vs:List V},DenL K F ds' vs'->ks'.length=ds'.length->DenL K F ds vs->ks.length=ds.length->
 ∃ws,iL (ks.zip vs) (ks'.zip vs')=(b9 ks ds ks' ds').1.zip ws/\DenL K F (b9 ks ds ks' ds').2 ws/\(b9 ks ds ks' ds').1.length=(b9 ks ds ks' ds').2.length
 |[],[],vs',ks,ds,vs,h',_,h,hl=>⟨vs,rfl,h,hl⟩
 |k::ks',d::ds',vs',ks,ds,vs,⟨v,r,e,h1,h2⟩,yW,h,hl=>by
  subst e;obtain⟨ws,e1,e2,e3⟩:=u0 (K:=K) (F:=F) h1 k h hl;obtain⟨us,q1,q2,q3⟩:=pj (ks':=ks') (ds':=ds') (vs':=r) h2 (by simpa using yW) e2 e3;refine⟨us,?_,q2,q3⟩;show iL (putK (ks.zip vs) k v) (ks'.zip r)=_;rw[e1];exact q1
 |[],_::_,_,_,_,_,_,yW,_,_=>by simp at yW
 |_::_,[],_,_,_,_,_,yW,_,_=>by simp at yW
def Fo{κ:Type}[DecidableEq κ]{ks:List κ}{ds:List D}{k:κ}{d:D}(hl:ks.length=ds.length):(cq ks ds k d).length<=ds.length+1:=by
 unfold cq;split
 ·rw[i6 ks ds k d hl];omega
 ·simp
def Fp{κ:Type}[DecidableEq κ]{ks:List κ}{ds:List D}{k:κ}{d:D}(hl:ks.length=ds.length):(dh ks ds k).length=(cq ks ds k d).length:=by
 unfold cq dh;split
 ·rw[i6 ks ds k d hl];exact hl
 ·simp[hl]
def pk:∀{ks':List (List Key)}{ds':List D}{ks:List (List Key)}{ds:List D},ks.length=ds.length->(b9 ks ds ks' ds').2.length<=ds.length+ds'.length
 |[],ds',ks,ds,_=>by show ds.length<=_;omega
 |_::_,[],ks,ds,_=>by show ds.length<=_;simp
 |k::ks',d::ds',ks,ds,hl=>by
  have h1:=pk (ks':=ks') (ds':=ds') (ks:=dh ks ds k) (ds:=cq ks ds k d) (Fp hl);have h2:=Fo (k:=k) (d:=d) hl;show (b9 (dh ks ds k) (cq ks ds k d) ks' ds').2.length<=_;rw[Vk];omega
section
variable{X:Cx}{Xw:Nat->Hp->Prop}{o e:Expr}{δ:DE}{pos p W1 aO:Pos}{x:Str}{i:Nat}
def Cr(i:Nat)(δ:DE):DS:=λρ=>match zr ρ i with
 |some (.dct ks ds)=>δ ρ>>=λd=>match F9 ks ds d with
  |some c'=>aa (.nx (ρ.set i (some (.ow c'))))
  |none=>ag
 |_=>ag
def K_{td ty:TE}(hu:X.A.units+2<cLine)(ho:PE X o td)(he:PE X e ty)(m:M1 X o "update" W1 e aO):
 PE X (.Call (.Attribute o "update" W1) [e] [] aO) (λσ H Q=>td σ H λx H1=>∃a,x= .ref a/\QZ H1 a/\ty σ H1 λy H2=>∃(b:Addr) (aA more:List (List Key×V)) (ks:List (List Int)),y= .ref b/\H2 a=some (.dT aA)/\Rd H2 b (.dT more)/\a≠b/\more.map (·.1)=ks.map o7/\(aA=[]->(ks.map eT).Nodup)/\aA.length+more.length<=VB/\Q .non (upd H2 a (.dT (iL aA more)))):=by
 intro f8 s σ H Q I h;refine wpAny_Call_method m.base m.few m.line PySem.F.plainAttrs_dict aaI (by rfl) (bV (ho f8 s σ H _ I h) λu s1 ⟨x,H1,I1,rx,a,ex,d,q1⟩=>?_);subst ex;obtain rfl:u=VQ a:=rx;obtain⟨t1,t2,_⟩:=Kl I1 d;refine⟨t1,t2,?_⟩;rw[m.trees];refine abk rfl (ZI (YR (bV (he f8 s1 σ H1 _ I1 q1) λiv s2 ⟨y,H2,I2,ry,b,aA,more,ks,ey,k1,k2,k3,k4,k5,k6,q2⟩=>Y8 ?_)));subst ey;obtain rfl:iv=VQ b:=ry;exact Di hu I2 k1 k2 k3 k4 k5 k6 λs3 I3=>⟨.non,_,I3,rfl,q2⟩
def HZ(hu:X.A.units+64<cLine)(hv:PE X (.Name x p) (qm i))(he:PD X Xw e δ)(m:M1 X (.Name x p) "update" W1 e aO)(hs:Zr (.Call (.Attribute (.Name x p) "update" W1) [e] [] aO) none pos.line X.env=pure false:=by rfl):
 iy X Xw (.Expr (.Call (.Attribute (.Name x p) "update" W1) [e] [] aO) pos) (Cr i δ):=λs0 acS=>PS.weak (nT (K_ (by omega) hv he m) hs) λD σ H ⟨F,ρ,s,w⟩=>by
 unfold Cr at w;split at w
 ·rename_i ks ds OF;have hi:=sJ OF;obtain⟨v,P9,a,oh,rfl,hH,hF,vs,rfl,hd,hl,hz⟩:=s.st.den i _ hi;refine⟨.ref a,P9,a,rfl, .inr ⟨_, .inl hH⟩,F,ρ,s.st,?_⟩;rcases(δ ρ).cs with q | ⟨n,q⟩ | ⟨d,q⟩
  ·rw[q] at w;exact w.elim
  ·rw[q] at w⊢;exact λF' H' e'=>w F' H' (s.ext.trans e')
  ·rw[q] at w⊢;intro u H1 F1 e1 hq;have w:WPS X.K Xw s0 acS (match F9 ks ds d with | some c'=>aa (.nx (ρ.set i (some (.ow c')))) | none=>ag) D:=w;cases d with
   |dct ks' ds'=>
    obtain⟨b,ob,vs',rfl,k2,k3,k4,k5⟩:=hq;cases hc:F9 ks ds (.dct ks' ds') with
    |none=>rw[hc] at w;exact w.elim
    |some c'=>
     rw[hc] at w;have hc:(match fI ks' with | some ns=>if ds.length+ds'.length<=lim/\(ks.isEmpty=true->(ns.map eT).Nodup) then some (C.dct (b9 ks ds ks' ds').1 (b9 ks ds ks' ds').2) else none | none=>none)=some c':=hc;cases hn:fI ks' with
     |none=>rw[hn] at hc;cases hc
     |some ns=>
      rw[hn] at hc;have hc:(if ds.length+ds'.length<=lim/\(ks.isEmpty=true->(ns.map eT).Nodup) then some (C.dct (b9 ks ds ks' ds').1 (b9 ks ds ks' ds').2) else none)=some c':=hc;split at hc
      ·rename_i MF;cases hc;have Rw:=DenL.mono e1.ff hd;have l1:=Rw.len;have l2:=k3.len;have GW:a≠b:=λz=>by
        have:=e1.old hH (λ_ z=>nomatch z);rw[hF,z,k2] at this;cases this
       obtain⟨ws,m1,m2,m3⟩:=pj k3 k4 Rw hl;refine⟨b,ks.zip vs,ks'.zip vs',ns,rfl,e1.hh _ _ hH, .inr ⟨ob,e1.fh _ _ k2⟩,GW,by rw[ju (by rw[k4];exact l2),lT hn],λz=>MF.2 ?_,?_,?_⟩
       ·have:=ju (a:=ks) (b:=vs) (by rw[hl];exact l1);rw[z] at this;rw[<-this];rfl
       ·rw[Ym,Ym];have:=ck;omega
       ·rw[m1];exact w σ F1 _ ((s.ext' e1).chg (c₀:= .dct (b9 ks ds ks' ds').1 (b9 ks ds ks' ds').2) hi P9 ⟨ws,rfl,m2,m3,by have:=pk (ks':=ks') (ds':=ds') hl;omega⟩)
      ·cases hc
   |_=>exact w.elim
 ·exact w.elim
end
section
end
section
variable{a:Expr}
end
def yU:List Nat->IE
 |[]=>Mw
 |i::is=>IS (DG i) (yU is)
def zI:List Nat->List D->aQ->aQ
 |i::is,d::ds,ρ=>zI is ds (ρ.set i (some (.fz d)))
 |_,_,ρ=>ρ
def p6(is:List Nat):D->aQ->Option aQ
 | .tup ds,ρ=>if ds.length=is.length then some (zI is ds ρ) else none
 |_,_=>none
def tf{K:Vn}{s0 acS F H:Hp}{Q:St->Hp->Prop}:∀(is:List Nat) (ds:List D) (vs:List V) (σ:St) (ρ:aQ),ds.length=is.length->StOk K s0 acS F H σ ρ->DenL K F ds vs->(∀σ',StOk K s0 acS F H σ' (zI is ds ρ)->Q σ' H)->yU is vs σ H Q
 |[],[],vs,σ,ρ,_,s,h,k=>⟨h,k σ s⟩
 |i::is,d::ds,vs,σ,ρ,hl,s,⟨v,r,e,h1,h2⟩,k=>by
  subst e;exact⟨v,r,rfl,tf is ds r _ _ (by simpa using hl) (s.set h1) h2 k⟩
 |[],_::_,_,_,_,hl,_,_,_=>by simp at hl
 |_::_,[],_,_,_,hl,_,_,_=>by simp at hl
def AV{K:Vn}{is:List Nat}:z5 K (Mx K is.length (yU is)) (p6 is):=λs0 acS F H σ ρ ρ' d v Q s q e k=>by
 unfold p6 at e;split at e
 ·rename_i ds;split at e
  ·rename_i hl;cases e;obtain⟨a,vs,rfl,hs,hd,_⟩:=q;exact⟨a,vs,rfl,SqT.of (s.st.fh _ _ hs),by rw[<-hd.len];exact hl,tf is ds vs σ ρ hl s hd k⟩
  ·cases e
 ·cases e
section
variable{prog:VG}{w:World}{A:V2}{E:Value->Vf->Prop}{s:Vf}
def B1{a b:Value}{r:Bool}{I T S:Addr}{good:Heap->Prop}{R:ab3->Vf->Prop}(hh:A.handled=none)(gh:T≠I)(Ov:S≠I)(SR:S≠T)
 (hg:∀h h',(∀c o,c≠I->c≠S->h.get? c=some o->h'.get? c=some o)->good h->good h')
 (J0:∀(h':Heap) (tk:Nat) (Q':Value->Vf->Prop) (E':Value->Vf->Prop),good h'->Q' (.bool r) {s with heap:=h',toks:=tk}->wpAny (model prog w) A.in1 (abu .Lt b a) Q' E' {s with heap:=h',toks:=tk})
 (hR:∀h' tk,good h'->R (.ok (.ret (if r then b else a))) {s with heap:=h',toks:=tk}){h0:Heap}{t0 c:Nat}(g0:good h0)(kG:h0.IsTupleIter I T 0/\h0.IsTuple T #[a,b])
 (hS:h0.get? S=some {cls:= .type "list",dict:=none,data:= .seq #[] c,slots:= #[]}):
 YF (model prog w) A (.builtin "min.loop" ⟨[.ref I, .none, .ref S],[]⟩) R {s with heap:=h0,toks:=t0}:=by
 have wG:(Xn "min"++Xn ".loop":String)="min.loop":=by decide
 have W:=Walks.tuple (prog:=prog) (w:=w) (A:=A.in1) hh I T gh #[a,b];have nI:∀{c:Addr},c≠I->c∉[I]:=λq z=>q (VS.mp z);have fr:∀{i:Nat}{h:Heap}{f:Obj->Obj},(h.IsTupleIter I T i/\h.IsTuple T #[a,b])->((h.update S f).IsTupleIter I T i/\(h.update S f).IsTuple T #[a,b]):=λ{i h f} q=>W.frame _ _ _ q λc hc o e=>(Zp _ _ (λz:S=c=>by
  subst z;rcases Vo.mp hc with z | z
  ·exact Ov z
  ·exact SR (VS.mp z))).trans e
 have up:∀{h:Heap}{f:Obj->Obj},good h->good (h.update S f):=λq=>hg _ _ (λc o _ hc e=>(Zp _ _ (Wv hc)).trans e) q;refine WX aaY ?_;rw[WB XG _];show wpAny _ A.in1 (seqItems? (.ref S)>>=_) _ _ _;refine U_ (YI hS rfl ?_);show wpAny _ A.in1 (acd (YM (.ref I)) _>>=_) _ _ _;refine U_ (Zh (W.item 0 _ _ _ (by simp) kG λv h1 t1 hP zO k1=>?_));have hv:v=a:=(VO hP).symm;subst hv;have S1:=k1 S _ (nI Ov) hS;have g1:good h1:=hg _ _ (λc o hc _ e=>k1 c o (nI hc) e) g0;show wpAny _ A.in1 (updateSeq S (λ_=> #[v,v])>>=_) _ _ _;refine U_ ?_;refine abo S1 rfl ?_;rw[wG];refine Va ⟨XF XG _,?_⟩;refine WX aaY ?_;rw[WB XG _];show wpAny _ A.in1 (seqItems? (.ref S)>>=_) _ _ _;refine U_ (YI (Wb _ S1 rfl) rfl ?_);show wpAny _ A.in1 (acd (YM (.ref I)) _>>=_) _ _ _;refine U_ (Zh (W.item 1 _ _ _ (by simp) (fr zO) λu h2 t2 SM tx k2=>?_));have hu:u=b:=(VO SM).symm;subst hu;have S2:=k2 S _ (nI Ov) (Wb _ S1 rfl);have g2:good h2:=hg _ _ (λc o hc _ e=>k2 c o (nI hc) e) (up g1);show wpAny _ A.in1 (acd (holding [u,u] (abu .Lt u v>>=_)) _>>=_) _ _ _;refine U_ (Zh (Wf (U_ (J0 _ _ _ _ g2 ?_))));refine U_ (Wf (WR ?_));refine U_ (abp (Va ?_));have last:∀{h3:Heap}{t3 c3:Nat}{x y:Value},x=(if r then u else v)->good h3->(h3.IsTupleIter I T 2/\h3.IsTuple T #[v,u])->h3.get? S=some {cls:= .type "list",dict:=none,data:= .seq #[x,y] c3,slots:= #[]}->
  YF (model prog w) A (.builtin "min.loop" ⟨[.ref I, .none, .ref S],[]⟩) R {s with heap:=h3,toks:=t3}:=λ{h3 t3 c3 x y} ex g3 FL S3=>by
  refine WX aaY ?_;rw[WB XG _];show wpAny _ A.in1 (seqItems? (.ref S)>>=_) _ _ _;refine U_ (YI S3 rfl ?_);show wpAny _ A.in1 (acd (YM (.ref I)) _>>=_) _ _ _;refine U_ (Zh (W.done _ _ _ FL λh4 t4 k4=>?_));have S4:=k4 S _ (nI Ov) S3;show wpAny _ A.in1 (updateSeq S (λ_=> #[])>>=_) _ _ _;refine U_ ?_;refine abo S4 rfl (U_ (abp (Va ?_)));rw[ex];exact hR _ _ (up (hg _ _ (λc o hc _ e=>k4 c o (nI hc) e) g3))
 cases hr:r with
 |true=>
  simp only[if_true];refine U_ ?_;refine abo S2 rfl (U_ (abp ?_));rw[wG];exact Va ⟨XF XG _,last (by rw[hr];rfl) (up g2) (fr tx) (Wb _ S2 rfl)⟩
 |false=>
  simp only[VC,if_false];refine U_ (abp ?_);rw[wG];exact Va ⟨XF XG _,last (by rw[hr];rfl) g2 tx S2⟩
def wX{a b:Value}{r:Bool}{Q:Value->Vf->Prop}(hh:A.handled=none)
 (J0:∀(h':Heap) (tk:Nat) (Q':Value->Vf->Prop) (E':Value->Vf->Prop),(∀c o,s.heap.get? c=some o->h'.get? c=some o)->Q' (.bool r) {s with heap:=h',toks:=tk}->wpAny (model prog w) A.in1 (abu .Lt b a) Q' E' {s with heap:=h',toks:=tk})
 (h:∀h' tk,(∀c o,s.heap.get? c=some o->h'.get? c=some o)->Q (if r then b else a) {s with heap:=h',toks:=tk}):
 wpAny (model prog w) A (call (.builtin "min") [a,b]) Q E s:=by
 have wG:(Xn "min"++Xn ".loop":String)="min.loop":=by decide
 have hT:(s.heap.push {cls:= .type "tuple",data:= .seq #[a,b]}).IsTuple s.heap.objs.size #[a,b]:=⟨_,Vq _ rfl,rfl,0,rfl⟩
 have hsz:(s.heap.push {cls:= .type "tuple",data:= .seq #[a,b]}).objs.size=s.heap.objs.size+1:=Xl ..;refine call_function_tree F.kind_min F.plain_min F.entry_min (F.args_min2 _ _) ?_;show wpAny _ A.in1 (ZA "min" ["key","default"] 0 ⟨[],[]⟩>>=_) _ _ s;refine U_ (ZC (show ZA "min" ["key","default"] 0 ⟨[],[]⟩=pure [none,none] from rfl) ?_);show wpAny _ A.in1 (newTuple [a,b]>>=_) _ _ s;refine U_ (Wg ?_);refine U_ (wpAny_pyIter_tuple hT ?_);refine U_ (Wg ?_);rw[wG];refine Va ⟨XF XG _,?_⟩;have RY:∀{c:Addr}{o:Obj},s.heap.get? c=some o->c<s.heap.objs.size:=λe=>Vr e;refine B1 (s:=s) (r:=r) (good:=λh'=>∀c o,s.heap.get? c=some o->h'.get? c=some o) hh (T:=s.heap.objs.size) ?_ ?_ ?_ (λh1 h2 k g c o e=>k c o ?_ ?_ (g c o e)) J0 (λh' tk g=>h h' tk g) (λc o e=>Vd _ (Vd _ (Vd _ e))) ⟨?_,?_⟩ (Vq _ rfl)
 ·rw[hsz];exact VH (XC _)
 ·rw[Xl];exact XS (XC _)
 ·rw[Xl,hsz];exact XS (Xr (XC _))
 ·have:=RY e;rw[hsz];exact VH (Xr this)
 ·have:=RY e;rw[Xl,hsz];exact VH (Xr (Xr this))
 ·exact⟨_,Vd _ (Vq _ rfl),rfl,rfl⟩
 ·exact(hT.push _).push _
end
def ur:Z2 (.type "list") "keys"=pure none:=by rw[abr,ZU];kernel_rfl
def dS:entryFor table "dict.update.loop"=some X3.«dict.update.loop» :=entryFor_of_tree (by kernel_rfl)
def bP:plainId "dict.update.loop"=true:=by decide+kernel
def qN:(Y2 "list" !=Y2 "dict")=true:=by decide
section
variable{prog:VG}{w:World}{A:V2}{E:Value->Vf->Prop}{s:Vf}
def uk{a:Addr}{o:Obj}{xs:Array Value}{k:Nat}{Q:Option Value->Vf->Prop}(hx:s.heap.get? a=some o)(hc:o.cls= .type "list")(wF:o.data= .seq xs k)(hd:o.dict=none)(hA:A.handled=none)
 (h:∀h' tk,(∀b ob,s.heap.get? b=some ob->h'.get? b=some ob)->Q none {s with heap:=h',toks:=tk}):wpAny (model prog w) A (getAttr? (.ref a) "keys") Q E s:=by
 obtain⟨c,dct,dat,sl⟩:=o;simp only at hc wF hd;subst hc wF hd;obtain⟨hp,g,d,tk,os⟩:=s;have hT:∀OO,(⟨hp,g,d,OO,os⟩:Vf).TypeIs (.ref a) "list":=λ_=>⟨_,hx,rfl⟩
 have f1:=sub_AttributeError;have f3:=F.slot_list_getattribute.lookup;have f4:=F.slot_list_getattribute.bind (.ref a);have f5:=am_list_getattr_none;unfold getAttr? getAttrBy? getAttrBy
 repeat (any_goals (first | assumption | exact hT _ | ((with_reducible show wpAny _ _ (call (Yh "list.__getattribute__") _ _) _ _ _);refine X7 F.slot_list_getattribute (hT _) am_entry_list_getattribute (F.args_list_getattribute_2 _ _) (meets_getattribute_miss_list a xs k sl "keys" _ ur (by decide) (by size_fits)) ⟨hx,hA,λh' OO e BE=>?_⟩) | wp_step))
 obtain⟨t',u',he⟩:=BE.there;show wpAny _ _ (getattributeRaised _ _ _ _ _ _ _) _ _ _;unfold getattributeRaised
 repeat (any_goals (first | assumption | wp_step))
 exact h _ _ λb ob e=>BE.keeps b ob e
abbrev Ha(prog:VG)(w:World):HeapKind prog w (List Key):=XM (a6 prog w)
def DictOfH.at'{h h':Heap}{d:Addr}{xs:List (List Key×Addr×Value)}(x:h.DictOfH (Ha prog w) d xs)(k:∀c o,h.get? c=some o->(c=d\/∃y∈xs,y.2.1=c)->h'.get? c=some o):h'.DictOfH (Ha prog w) d xs:=by
 obtain⟨o,es,ep,h1,h2,h3,h4,h5,h6⟩:=x;refine⟨o,es,ep,k _ _ h1 (.inl rfl),h2,h3,h4,λy hy=>?_,h6⟩;obtain⟨oa,items,n,a1,a2⟩:=h5 y hy;exact⟨oa,items,n,k _ _ a1 (.inr ⟨y,hy,rfl⟩),a2⟩
def vz{xs:List (List Key×Addr×Value)}{k:List Key}{a:Addr}{v:Value}{x:List Key×Addr×Value}(h:x∈YO xs k a v):(∃z∈xs,z.2.1=x.2.1)\/x.2.1=a:=by
 unfold YO at h;split at h
 ·obtain⟨z,hz,rfl⟩:=Vp.mp h;refine .inl ⟨z,hz,?_⟩;unfold putAt;split<;>rfl
 ·rcases V3.mp h with h | h
  ·exact .inl ⟨x,h,rfl⟩
  ·rw[VS.mp h];exact .inr rfl
def kM:∀(ys u8:List (List Key×Addr×Value)) {x:List Key×Addr×Value},x∈bz u8 ys->(∃z∈u8,z.2.1=x.2.1)\/∃z∈ys,z.2.1=x.2.1
 |[],u8,x,h=> .inl ⟨x,h,rfl⟩
 |y::ys,u8,x,h=>by
  rcases kM ys (YO u8 y.1 y.2.1 y.2.2) h with⟨z,hz,e⟩ | ⟨z,hz,e⟩
  ·rcases vz hz with⟨q,hq,e2⟩ | e2
   ·exact .inl ⟨q,hq,e2.trans e⟩
   ·exact .inr ⟨y,Ve ..,e2.symm.trans e⟩
  ·exact .inr ⟨z,Vc _ hz,e⟩
def xy{D I L:Addr}{vs:List Value}{ys:List (List Key×Addr×Value)}{old:Heap}{R:ab3->Vf->Prop}(hh:A.handled=none)(hu:A.units+1<cLine)(SK:L≠I)(O9:D≠I)(SI:old.get? I=none)(SF:old.get? D=none)(hL:old.IsList L vs.toArray)
 (pairs:∀i,i<vs.length->∃p y,vs[i]? =some (.ref p)/\ys[i]? =some y/\old.IsTuple p #[.ref y.2.1,y.2.2]/\WS (a6 prog w) old y.1 y.2.1)(hsz:ys.length<=VB)(hl:ys.length=vs.length)
 (hR:∀h' tk,(∀c o,old.get? c=some o->h'.get? c=some o)->h'.DictOfH (Ha prog w) D (bz [] ys)->R (.ok (.ret .none)) {s with heap:=h',toks:=tk}):
 ∀(r i:Nat) (h:Heap) (tk:Nat) (j:Int) (tj:Tok),vs.length - i=r->i<=vs.length->(∀c o,old.get? c=some o->h.get? c=some o)->h.IsListIter I L i->h.DictOfH (Ha prog w) D (bz [] (ys.take i))->
  YF (model prog w) A (.builtin "dict.update.loop" ⟨[.ref D, .ref I, .int j tj, .none],[]⟩) R {s with heap:=h,toks:=tk}:=by
 have W:=acj (prog:=prog) (w:=w) (A:=A.in1) hh I L SK vs.toArray;have Nb:vs.toArray.size=vs.length:=Vl ..;have nI:∀{c:Addr},c≠I->c∉[I]:=λq z=>q (VS.mp z);have Hq:∀{c:Addr}{o:Obj},old.get? c=some o->c≠I:=λe z=>by rw[z,SI] at e;cases e
 have Qv:∀{c:Addr}{o:Obj},old.get? c=some o->c≠D:=λe z=>by rw[z,SF] at e;cases e
 have listAt:∀{h:Heap},(∀c o,old.get? c=some o->h.get? c=some o)->h.IsList L vs.toArray:=λ{h} k=>by
  obtain⟨o,e,q⟩:=hL;exact⟨o,k _ _ e,q⟩
 have Qw:∀y∈ys,∃o,old.get? y.2.1=some o:=λy hy=>by
  obtain⟨i,hi,rfl⟩:=ab7 hy;obtain⟨p,y,_,ey,_,⟨o,_,_,e,_⟩⟩:=pairs i (by omega);rw[Vg hi] at ey;cases ey;exact⟨o,e⟩
 have Ny:∀{i:Nat}(x:List Key×Addr×Value),x∈bz [] (ys.take i)->∃o,old.get? x.2.1=some o:=λ{i} x hx=>by
  rcases kM _ _ hx with⟨z,hz,_⟩ | ⟨z,hz,e⟩
  ·cases hz
  ·rw[<-e];exact Qw z (List.mem_of_mem_take hz)
 intro r;induction r with
 |zero=>
  intro i h tk j tj hr hi k it dd;have nR:i=vs.length:=by omega
  refine WX dS ?_;rw[WB bP _];show wpAny _ A.in1 (YM (.ref I)>>=_) _ _ _;refine U_ (W.done _ _ _ ⟨by rw[Nb,<-nR];exact it,listAt k⟩ λh1 t1 k1=>?_);show wpAny _ A.in1 (aab D []>>=_) _ _ _;refine U_ (Va (Va ?_));have Bo:h.DictOfH (Ha prog w) D (bz [] ys):=by
   rw[nR,<-hl,Zk] at dd;exact dd
  refine hR _ _ (λc o e=>k1 c o (nI (Hq e)) (k c o e)) (DictOfH.at' Bo λc o e hc=>k1 c o (nI ?_) e);rcases hc with rfl | ⟨x,hx,rfl⟩
  ·exact O9
  ·exact Ny (i:=ys.length) x (by rw[Zk];exact hx) |>.elim λo e=>Hq e
 |succ r ih=>
  intro i h tk j tj hr hi k it dd;have cN:i<vs.length:=by omega
  obtain⟨p,y,ep,ey,tp,ky⟩:=pairs i cN;refine WX dS ?_;rw[WB bP _];show wpAny _ A.in1 (YM (.ref I)>>=_) _ _ _;refine U_ (W.item i _ _ _ (by rw[Nb];exact cN) ⟨it,listAt k⟩ λv h1 t1 hP zO k1=>?_);have hv:v= .ref p:=by
   have:vs[i]? =some v:=by simpa using hP
   rw[ep] at this;exact(VO this).symm
  subst hv;have Np:∀c o,old.get? c=some o->h1.get? c=some o:=λc o e=>k1 c o (nI (Hq e)) (k c o e);show wpAny _ A.in1 (holding [VQ p] (acd (aao (.ref p)) _>>=_)>>=_) _ _ _;have Om:h1.DictOfH (Ha prog w) D (bz [] (ys.take i)):=DictOfH.at' dd λc o e hc=>k1 c o (nI (by
   rcases hc with rfl | ⟨x,hx,rfl⟩
   ·exact O9
   ·obtain⟨o',e'⟩:=Ny x hx;exact Hq e')) e
  obtain⟨op,eo,SY,np,S0⟩:=tp;have R5:=Np _ _ eo;refine U_ (Wf (U_ (Zh ?_)));unfold aao;refine U_ (Yr ⟨op,R5,SY⟩ ?_);rw[acI (by decide)];refine U_ (YI R5 S0 (Va ?_));show wpAny _ A.in1 (holding [VQ y.2.1,y.2.2] (dictSet D (.ref y.2.1) y.2.2)) _ _ _;have Up:WS (a6 prog w) h1 y.1 y.2.1:=by
   obtain⟨oa,items,n,a1,a2⟩:=ky;exact⟨oa,items,n,Np _ _ a1,a2⟩
  have hz:(bz [] (ys.take i)).length<=VB:=by
   have:=iM (ys.take i) ([]:List (List Key×Addr×Value));rw[Xi] at this;have h3:min i ys.length<=ys.length:=Nat.min_le_right ..;simp only[V6] at this;omega
  refine Wf (wpAny_dictSet_heap (knd:=Ha prog w) (hsz:=hz) (show A.in1.units<cLine from hu) Up Om λh2 yq Kd=>?_);show wpAny _ A.in1 (pure (Fin.again (.builtin "dict.update.loop" ⟨[.ref D, .ref I,Yg (j+1), .none],[]⟩))) _ _ _;refine Va ⟨XF bP _,?_⟩;rw[<-kN ey] at yq;refine ih (i+1) h2 _ _ _ (by omega) (by omega) (λc o e=>?_) ?_ yq
  ·rw[Kd.2 c (Qv e)];exact Np c o e
  ·obtain⟨oI,eI,q⟩:=zO.1;exact⟨oI,by rw[Kd.2 I (Wv O9)];exact eI,q⟩
def nz{L:Addr}{o:Obj}{n:Nat}{vs:List Value}{ys:List (List Key×Addr×Value)}{Q:Value->Vf->Prop}(hA:A.handled=none)(hu:A.units+8<cLine)(hx:s.heap.get? L=some o)(hc:o.cls= .type "list")(wF:o.data= .seq vs.toArray n)(hd:o.dict=none)
 (pairs:∀i,i<vs.length->∃p y,vs[i]? =some (.ref p)/\ys[i]? =some y/\s.heap.IsTuple p #[.ref y.2.1,y.2.2]/\WS (a6 prog w) s.heap y.1 y.2.1)(hsz:ys.length<=VB)(hl:ys.length=vs.length)
 (h:∀h' tk,(∀c o,s.heap.get? c=some o->h'.get? c=some o)->h'.DictOfH (Ha prog w) s.heap.objs.size (bz [] ys)->Q (.ref s.heap.objs.size) {s with heap:=h',toks:=tk}):
 wpAny (model prog w) A (call (.type "dict") [.ref L]) Q E s:=by
 refine callType_codes (Q₁:=λobj v6=>obj= .ref s.heap.objs.size/\v6={s with heap:=s.heap.push {cls:= .type "dict",data:= .dict #[]} }) F.kt_called_dict (F.kt_typeCall_dict_1 _) F.entry_dict_init (kt_code_dict_new _ ⟨rfl,rfl⟩) ?_;rintro obj v6 ⟨rfl,rfl⟩;have lS:(s.heap.push {cls:= .type "dict",data:= .dict #[]}).DictOfH (Ha prog w) s.heap.objs.size []:=⟨_,#[],0,Vq _ rfl,⟨rfl,rfl,rfl⟩,rfl,rfl,λx hx=>(by cases hx),YB⟩
 have hT:({s with heap:=s.heap.push {cls:= .type "dict",data:= .dict #[]} }:Vf).TypeIs (.ref s.heap.objs.size) "dict":=⟨_,Vq _ rfl,rfl⟩
 refine⟨hT,F.args_dict_init_2 _ _,?_⟩;have BE:(s.heap.push {cls:= .type "dict",data:= .dict #[]}).get? L=some o:=Vd _ hx;unfold X3.«dict.__init__»;refine U_ ?_;unfold aaa;refine U_ (ZQ hT ?_);show wpAny _ _ (pure (s.heap.objs.size,[VQ L])) _ _ _;refine Va ?_;show wpAny _ _ (X0 "dict.__init__" s.heap.objs.size (.ref L) [] .none) _ _ _;unfold X0;refine U_ (Yr ⟨o,BE,hc⟩ ?_);rw[acI qN];refine U_ (uk BE hc wF hd (by exact hA) λh1 t1 k1=>?_);show wpAny _ _ (rule _>>=_) _ _ _;refine U_ (abZ ?_);have SJ:h1.IsList L vs.toArray:=⟨o,k1 _ _ BE,hc,n,wF⟩
 refine U_ (Zq SJ ?_);refine Va ⟨XF bP _,?_⟩;have Np:∀c ob,s.heap.get? c=some ob->h1.get? c=some ob:=λc ob e=>k1 c ob (Vd _ e);have AG:∀{c:Addr},s.heap.objs.size<=c->s.heap.get? c=none:=λ{c} hc=>by
  cases e:s.heap.get? c with
  |none=>rfl
  |some ob=>exact acK (Vr e) (Nat.not_lt.mpr hc)
 have nD:s.heap.get? s.heap.objs.size=none:=AG (Vj _);have yX:L<h1.objs.size:=Vr (k1 _ _ BE);have RZ:s.heap.objs.size<h1.objs.size:=Vr (k1 _ _ (Vq _ rfl));refine xy (A:=A.in1) (s:=s) (old:=s.heap) (vs:=vs) (ys:=ys) (R:=wants (λr v4=>r=Wi/\Q (VQ s.heap.objs.size) v4) E) (by exact hA) (by show A.units+1+1<cLine;omega) (VH yX) (VH RZ) (AG (W4 RZ)) nD ⟨o,hx,hc,n,wF⟩ pairs hsz hl (λh' tk k dd=>⟨rfl,h h' tk k dd⟩) vs.length 0 _ _ _ _ rfl (V1 _) (λc ob e=>Vd _ (Np c ob e)) ⟨_,Vq _ rfl,rfl,rfl⟩ ?_;refine DictOfH.at' lS λc ob e hc=>Vd _ (k1 c ob e)
end
def LZ:D->D->Option Bool
 | .tup xs, .tup ys=>match nums xs,nums ys with
   |some a,some b=>some (HT.lexLt a b)
   |_,_=>none
 |_,_=>none
def wC(x y:D):M D:=match LZ x y with | some b=>aa (.bl b) | none=>ag
def sE:List D->M D
 |[x,y]=>match LZ y x with | some b=>aa (if b then y else x) | none=>ag
 |_=>ag
section
variable{X:Cx}{Xw:Nat->Hp->Prop}{a b e e2:Expr}{δa δb:DE}{δs:DA}{p pos:Pos}
def AD{K:Vn}{F:Hp}{x y:D}{v u:V}{r:Bool}(e:LZ x y=some r)(hx:Den K F x v)(hy:Den K F y u):∃a b ns ms,v= .ref a/\u= .ref b/\F a=some (.tup (ns.map V.int))/\F b=some (.tup (ms.map V.int))/\r=HT.lexLt ns ms:=by
 unfold LZ at e;split at e
 ·rename_i xs ys;obtain⟨a,vs,rfl,h2,h3,h4⟩:=hx;obtain⟨b,us,rfl,k2,k3,k4⟩:=hy;split at e
  ·rename_i ns ms e1 e2;cases gy e1 h3;cases gy e2 k3;cases e;exact⟨a,b,ns,ms,rfl,rfl,h2,k2,rfl⟩
  ·cases e
 ·cases e
def Hy{K:Vn}:yp K (NW K) wC:=λXw F H x y dx dy Q s hx hy w=>by
 unfold wC at w;split at w
 ·rename_i r e;obtain⟨a,b,ns,ms,rfl,rfl,h1,h2,rfl⟩:=AD e hx hy;exact⟨a,b,ns,ms,rfl,rfl,SqT.of (s _ _ h1),SqT.of (s _ _ h2),WP.now w s rfl⟩
 ·exact w.elim
def Lf(hu:X.A.units+64<cLine)(ha:PD X Xw a δa)(hb:PD X Xw b δb):qC X Xw (.Compare a [.Lt] [b] pos) (dN (d2 wC δa δb)):=lp (KH (by omega)) Hy ha hb
def NX(K:Vn):List V->Hp->VK->Prop:=λxs H Q=>∃a b ns ms,xs=[.ref a, .ref b]/\SqT K H a (ns.map V.int)/\SqT K H b (ms.map V.int)/\Q (if HT.lexLt ms ns then .ref b else .ref a) H
def Bf(hc:X.calm=true)(hu:X.A.units+64<cLine):CallR X (.builtin "min") (NX X.K):=by
 intro f8 s σ H xs us Q I r h;obtain⟨a,b,ns,ms,rfl,ha,hb,q⟩:=h;obtain⟨u,w',rfl,rx,ry⟩:=vals2 r;cases rx;cases ry;obtain⟨aB,r1,p1,_⟩:=I.tuple ha;obtain⟨eB,r2,p2,_⟩:=I.tuple hb;have i1:Xz aB.toArray.toList ns:=intsAre_of r1;have i2:Xz eB.toArray.toList ms:=intsAre_of r2;refine wX (r:=HT.lexLt ms ns) (I.ok.hd hc) (λh' tk Q' E' k hq=>?_) λh' tk k=>⟨_,H,I.kept k,?_,q⟩
 ·obtain⟨o1,e1,q1⟩:=p1;obtain⟨o2,e2,q2⟩:=p2;exact HT.lt_tupInts (s:={s with heap:=h',toks:=tk}) ⟨o2,k _ _ e2,q2⟩ ⟨o1,k _ _ e1,q1⟩ i2 i1 (by show X.A.units+1<cLine;omega) hq
 ·cases HT.lexLt ms ns<;>rfl
def HD(hu:X.A.units+64<cLine)(hc:X.calm=true)(hg:Gl X "min")(hm:X.mg "min"=none)(hb:V4 "min"=some (.builtin "min"))(ha:iu X Xw [e,e2] δs)(he:Vs [e,e2] X.env=(false,eval e X.env)::Vs [e2] X.env:=by rfl)
 (iz:(W7 pos (Vs [e2] X.env)).any (·.1)=false:=by rfl):PD X Xw (.Call (.Name "min" p) [e,e2] [] pos) (dA sE δs):=
 dZ (Bf hc hu) (λXw F H vs ds Q s h w=>by
  unfold sE at w;split at w
  ·rename_i x y;obtain⟨v,v',rfl,h1,h2⟩:=h.two;split at w
   ·rename_i r e;obtain⟨b,a,ms,ns,rfl,rfl,k1,k2,rfl⟩:=AD e h2 h1;refine⟨a,b,ns,ms,rfl,SqT.of (s _ _ k2),SqT.of (s _ _ k1),?_⟩;cases hl:HT.lexLt ms ns with
    |true=>rw[hl] at w;exact WP.now w s h2
    |false=>rw[hl] at w;exact WP.now w s h1
   ·exact w.elim
  ·exact w.elim) hg hm hb ha (by decide) (by decide) he iz
def j6:List D->Option (List (List Key)×List D)
 |[]=>some ([],[])
 | .tup [k,v]::r=>match eD k,j6 r with
   |some kk,some q=>some (kk::q.1,v::q.2)
   |_,_=>none
 |_=>none
def Ai:List D->M C
 |[.lst ds]=>match j6 ds with
  |some q=>if q.1.Nodup/\q.2.length<=lim then aa (.dct q.1 q.2) else ag
  |none=>ag
 |_=>ag
def Lk:List V->Hp->VK->Prop:=λxs H Q=>∃(a:Addr) (ps:List (Addr×List Key×Addr×V)),xs=[.ref a]/\H a=some (.lst (ps.map λp=>V.ref p.1))/\(∀p∈ps,H p.1=some (.tup [.ref p.2.2.1,p.2.2.2])/\H p.2.2.1=some (.tup (p.2.1.map kV)))/\
 (ps.map (·.2.1)).Nodup/\ps.length<=VB/\∀q,H q=none->Q (.ref q) (upd H q (.dT (ps.map λp=>(p.2.1,p.2.2.2))))
def pairs_at{P:VG}{w:World}{H:Hp}{h:Heap}(ok:HOk P w H h):∀(ps:List (Addr×List Key×Addr×V)) (us:List Value),Vals (ps.map λp=>V.ref p.1) us->(∀p∈ps,H p.1=some (.tup [.ref p.2.2.1,p.2.2.2])/\H p.2.2.1=some (.tup (p.2.1.map kV)))->
 ∃ys:List (List Key×Addr×Value),ys.length=us.length/\ys.map (·.1)=ps.map (·.2.1)/\(∀i,i<us.length->∃p y,us[i]? =some (.ref p)/\ys[i]? =some y/\h.IsTuple p #[.ref y.2.1,y.2.2]/\WS (a6 P w) h y.1 y.2.1)/\
  aag (λ(p:List Key×V) (q:List Key×Addr×Value)=>p.1=q.1/\H q.2.1=some (.tup (p.1.map kV))/\RelV p.2 q.2.2) (ps.map λp=>(p.2.1,p.2.2.2)) ys
 |[],_, .nil,_=>⟨[],rfl,rfl,λi hi=>acK hi (Nat.not_lt_zero _), .nil⟩
 |p::ps,u::us, .cons r rs,hp=>by
  obtain⟨ys,l1,l2,l3,l4⟩:=pairs_at ok ps us rs λq hq=>hp q (Vc _ hq);obtain⟨e1,e2⟩:=hp p (Ve ..);have hr:u= .ref p.1:=r;obtain⟨_,aB,rv,o,h1,h2,n,h3⟩:=(show ObjOk P w H h p.1 (.tup [.ref p.2.2.1,p.2.2.2]) from ok _ _ e1)
  obtain⟨x,y,rfl,rx,ry⟩:=vals2 rv;have hx:x= .ref p.2.2.1:=rx;subst hx;refine⟨(p.2.1,p.2.2.1,y)::ys,by simp[l1],by simp[l2],λi hi=>?_, .cons ⟨rfl,e2,ry⟩ l4⟩;cases i with
  |zero=>exact⟨p.1,_,by rw[hr];rfl,rfl,⟨o,h1,h2,n,h3⟩,j2 ok e2⟩
  |succ i=>
   obtain⟨q,y',a1,a2,a3⟩:=l3 i (by simpa using hi);exact⟨q,y',by simpa using a1,by simpa using a2,a3⟩
def yK(hc:X.calm=true)(hu:X.A.units+64<cLine):CallR X (.type "dict") Lk:=by
 intro f8 s σ H xs us Q I r h;obtain⟨a,ps,rfl,ha,hp,hn,hz,q⟩:=h;obtain⟨u,rfl,rx⟩:=vals1 r;cases rx;obtain⟨_,aB,n,rv,e⟩:=(show ObjOk X.prog X.w H s.heap a (.lst _) from I.hok _ _ ha)
 obtain⟨ys,l1,l2,l3,l4⟩:=pairs_at I.hok ps aB rv hp;have U0:ys.length=ps.length:=by
  have:=acP aaK l2;simpa using this
 have Gk:(ys.map (·.1)).Nodup:=by rw[l2];exact hn
 refine nz (vs:=aB) (ys:=ys) (I.ok.hd hc) (by omega) e rfl rfl rfl l3 (by omega) l1 λh' tk k dd=>?_;rw[iN ys [] (by simpa using Gk),VL] at dd;obtain⟨o,es,ep,d1,d2,d3,d4,_,d5⟩:=dd;refine⟨.ref s.heap.objs.size,_,I.laid (t':=tk) k (Vj _) (o:= .dT (ps.map λp=>(p.2.1,p.2.2.2))) ⟨by rw[Vb];exact hz,?_,ys,?_,o,es,ep,d1,d2,d3,d4,d5⟩,rfl,q _ (I.hok.fresh (Vj _))⟩
 ·have:=I.big;exact beq_false_of_ne (XS this)
 ·refine Paired.mapP l4 λx y z=>⟨z.1,?_,z.2.2⟩
  rw[av (λzz=>?_)]
  ·exact z.2.1
  ·have:=I.hok.fresh (a:=s.heap.objs.size) (Vj _);rw[<-zz,z.2.1] at this;cases this
def sN{K:Vn}{F:Hp}:∀{ds:List D}{vs:List V}{q:List (List Key)×List D},j6 ds=some q->DenL K F ds vs->∃ps:List (Addr×List Key×Addr×V),vs=ps.map (λp=>V.ref p.1)/\(∀p∈ps,F p.1=some (.tup [.ref p.2.2.1,p.2.2.2])/\F p.2.2.1=some (.tup (p.2.1.map kV)))/\
 ps.map (·.2.1)=q.1/\DenL K F q.2 (ps.map (·.2.2.2))/\q.1.length=q.2.length
 |[],_,_,e,h=>by
  cases e;cases (show _=_ from h);exact⟨[],rfl,(λp hp=>(by cases hp)),rfl,rfl,rfl⟩
 |d::ds,_,q,e,⟨v,r,h1,h2,h3⟩=>by
  unfold j6 at e;split at e
  ·cases ‹_::_=[]›
  ·rename_i k x r' heq;cases heq;split at e
   ·rename_i kk q' e1 e2;cases e;obtain⟨ps,i1,i2,i3,i4,i5⟩:=sN e2 h3;obtain⟨b,ws,rfl,b2,b3,b4⟩:=h2;obtain⟨kv,r1,rfl,k1,r2⟩:=b3;obtain⟨xv,r3,rfl,x1,r4⟩:=r2;cases (show _=_ from r4);unfold eD at e1;split at e1
    ·obtain⟨c,ws,rfl,c2,c3,c4⟩:=k1;have e5:=gA e1 c3;subst e5;refine⟨(b,kk,c,xv)::ps,by rw[h1,i1];rfl,λp hp=>?_,by simp[i3],⟨xv,_,rfl,x1,i4⟩,by simp[i5]⟩;rcases Vo.mp hp with rfl | hp
     ·exact⟨b2,c2⟩
     ·exact i2 p hp
    ·cases e1
   ·cases e
  ·cases e
def yh{α β γ:Type}(f:α->β)(g:α->γ):∀l:List α,(l.map f).zip (l.map g)=l.map λx=>(f x,g x)
 |[]=>rfl
 |a::l=>by rw[Vi,Vi,WD,yh f g l];rfl
def EY(hu:X.A.units+64<cLine)(hc:X.calm=true)(hg:Gl X "dict")(hm:X.mg "dict"=none)(hb:V4 "dict"=some (.type "dict"))(ha:iu X Xw [e] δs)(he:Vs [e] X.env=[(false,eval e X.env)]:=by rfl):
 OU X Xw (.Call (.Name "dict" p) [e] [] pos) (λρ=>δs ρ>>=Ai):=
 PE.weak (sO (yK hc hu) hg hm hb ha (by decide) (by decide) he rfl) λσ H Q ⟨F,ρ,s,w⟩=>by
  refine⟨F,ρ,s,WPL.mono (WPF.bindL w) λvs H1 ⟨F1,ds,e1,q1,w1⟩=>?_⟩;unfold Ai at w1;split at w1
  ·rename_i ds;obtain⟨v,rfl,h1⟩:=q1.one;obtain⟨a,ws,rfl,h2,h3,h4⟩:=h1;split at w1
   ·rename_i q eq;split at w1
    ·rename_i hq;obtain⟨ps,rfl,i2,i3,i4,i5⟩:=sN eq h3;have M2:ps.length=q.2.length:=by rw[<-i5,<-i3,Vb]
     refine⟨a,ps,rfl,e1.fh _ _ h2,λp hp=>⟨e1.fh _ _ (i2 p hp).1,e1.fh _ _ (i2 p hp).2⟩,by rw[i3];exact hq.1,?_,λr hr=>?_⟩
     ·have:=ck;have:=hq.2;omega
     obtain⟨E,nF⟩:=Ext.fresh (o:= .dT (ps.map λp=>(p.2.1,p.2.2.2))) e1.fh hr;refine w1 r _ _ F1 E aD nF hr ⟨ps.map (·.2.2.2),?_,i4,i5,hq.2⟩;rw[<-i3,yh]
    ·exact w1.elim
   ·exact w1.elim
  ·exact w1.elim
end
mutual
def IJ:D->Bool
 | .non=>true
 | .bl _=>true
 | .int _=>true
 | .str _=>true
 | .tup ds=>we ds
 | .lst ds=>we ds
 | .raw _=>false
 | .exc _=>false
 | .scr _=>false
 | .dct _ _=>false
 | .dci _ _=>false
def we:List D->Bool
 |[]=>true
 |d::ds=>IJ d&&we ds
end
def xt(ρ:aQ):Bool:=ρ.all λx=>match x with
 |some (.ow (.lst _))=>false
 |_=>true
def EK{ρ:aQ}{i:Nat}{ds:List D}(h:xt ρ=true)(e:ρ[i]? =some (some (.ow (.lst ds)))):False:=by
 have:=Wu.mp h _ (VY e);cases this
section
variable{K:Vn}{F H F' H':Hp}{σ:St}{ρ:aQ}{h:Heap}{b:Addr}
def OwnAt.dict(S:StE K F H σ ρ)(hd:xt ρ=true)(p:OwnAt σ ρ b):∃o,H b=some o/\((∃x,o= .dT x)\/∃x,o= .dK x):=by
 obtain⟨i,c,h1,h2⟩:=p;obtain⟨v,h3,a,o,rfl,h4,h5,h6⟩:=S.den i _ h1;rw[h3] at h2;cases h2;refine⟨o,h4,?_⟩;cases c with
 |lst ds=>exact(EK hd h1).elim
 |dct ks ds=>obtain⟨vs,rfl,_⟩:=h6;exact .inl ⟨_,rfl⟩
 |dci ks ds=>obtain⟨vs,rfl,_⟩:=h6;exact .inr ⟨_,rfl⟩
open Classical in
def AH(S:StE K F H σ ρ)(hd:xt ρ=true)(E:Ext (fA σ ρ (refA h (OwnAt σ ρ) H) F) (refA h (OwnAt σ ρ) H) F' H'){a:Addr}{o:HO}(e:F' a=some o)(gh:∀q u,o≠ .frz q u):(if OwnAt σ ρ a then none else F' a)=some o:=by
 rw[acJ,e];intro hp;obtain⟨o',k1,k2⟩:=OwnAt.dict S hd hp;have k3:fA σ ρ (refA h (OwnAt σ ρ) H) F a=some (nB ((h.get? a).getD {cls:= .none,data:= .fields #[]}) o'):=by
  unfold fA refA;rw[acI hp,acI hp,k1];rfl
 have k4:=E.ff a _ k3;rw[e] at k4;rcases k2 with⟨x,rfl⟩ | ⟨x,rfl⟩<;>cases k4<;>exact gh _ _ rfl
open Classical in
mutual
def Dj(S:StE K F H σ ρ)(hd:xt ρ=true)(E:Ext (fA σ ρ (refA h (OwnAt σ ρ) H) F) (refA h (OwnAt σ ρ) H) F' H'):∀{d:D}{v:V},IJ d=true->Den K F' d v->Den K (λb=>if OwnAt σ ρ b then none else F' b) d v
 | .non,_,_,q=>q
 | .bl _,_,_,q=>q
 | .int _,_,_,q=>q
 | .str _,_,_,q=>q
 | .tup ds,_,f,⟨a,vs,h1,h2,h3,h4⟩=>⟨a,vs,h1,AH S hd E h2 (λ_ _ z=>nomatch z),lQ S hd E f h3,h4⟩
 | .lst ds,_,f,⟨a,vs,h1,h2,h3,h4⟩=>⟨a,vs,h1,AH S hd E h2 (λ_ _ z=>nomatch z),lQ S hd E f h3,h4⟩
 | .raw _,_,f,_=>by cases f
 | .exc _,_,f,_=>by cases f
 | .scr _,_,f,_=>by cases f
 | .dct _ _,_,f,_=>by cases f
 | .dci _ _,_,f,_=>by cases f
def lQ(S:StE K F H σ ρ)(hd:xt ρ=true)(E:Ext (fA σ ρ (refA h (OwnAt σ ρ) H) F) (refA h (OwnAt σ ρ) H) F' H'):∀{ds:List D}{vs:List V},we ds=true->DenL K F' ds vs->DenL K (λb=>if OwnAt σ ρ b then none else F' b) ds vs
 |[],_,_,q=>q
 |d::ds,_,f,⟨v,r,h1,h2,h3⟩=>by
  unfold we at f;rw[VA] at f;exact⟨v,r,h1,Dj S hd E f.1 h2,lQ S hd E f.2 h3⟩
end
end
def Mj(δ:DE):DE:=λρ=>noex (δ (yr ρ))>>=oF
def FV(τ:DT):DT:=λρ=>noex (τ (yr ρ))
def Ij(is:List Nat)(τ:DS):DS:=λρ=>τ (fgt is ρ)
section
variable{X:Cx}{Xw:Nat->Hp->Prop}{st:Stmt}{τ:DS}{is:List Nat}
def AU(h:iy X Xw st τ):iy X Xw st (Ij is τ):=λs0 acS=>PS.weak (h s0 acS) λD σ H ⟨F,ρ,s,w⟩=>⟨F,_,s.fgt is,w⟩
end
section
variable{X:Cx}{Xw:Nat->Hp->Prop}{a b e o:Expr}{δo:DE}{δl:DA}{W1 aO:Pos}
def Bp(x y:Str):Bool:=decide (0+y.length<=x.length)&&abf x y (x.length - y.length)
def ji:D->List D->M D
 | .str x,[.str y]=>aa (.bl (Bp x y))
 |_,_=>ag
def w6:Gb X "str.endswith" (λx vs H Q=>∃y z:Str,x= .str y/\vs=[.str z]/\Q (.bl (Bp y z)) H):=by
 intro f8 s σ H x vs v us Q I rx rv h;obtain⟨y,z,rfl,rfl,q⟩:=h;obtain⟨t,rfl⟩:=rx;obtain⟨u,rfl,r1⟩:=rv.one;obtain⟨t2,rfl⟩:=r1;exact call_gives F.slot_str_endswith (Yt _ _ _) F.entry_str_endswith (F.args_str_endswith_2 _ _) (gives_str_endswith y z t t2) ⟨.bl (Bp y z),H,I.tok _,rfl,q⟩
def xA(ho:PD X Xw o δo)(ha:iu X Xw [e] δl)(cU:WK o "endswith" X.env (eval o X.env)=eval o X.env:=by rfl)
 (fH:((W7 aO (Vs [e] X.env)).all (λx=>!x.1)&&(YA aO (Xf [] X.env)).all (λx=>x.1.isSome)&&decide ([e].length+([]:List Xb).length+(if ([]:List Xb).isEmpty then 0 else 1)<30))=true:=by rfl)
 (cV:(W1.endLine==aO.line)=true:=by rfl)(kG:Vs [e] X.env=[(false,eval e X.env)]:=by rfl):PD X Xw (.Call (.Attribute o "endswith" W1) [e] [] aO) (dM kh ji δo δl):=
 m6 Xy PySem.F.slot_str_endswith PySem.F.type_str_endswith w6 o3 (λXw F H x vs d ds Q s hx hv w=>by
  unfold ji at w;split at w
  ·rename_i y z;obtain⟨v,rfl,h1⟩:=hv.one;exact⟨y,z,hx.1,by rw[h1.1],WP.now w s rfl⟩
  ·exact w.elim) ho ha cU fH cV kG rfl
def splitM:D->List D->M D
 | .str x,[.str y]=>if y.length≠0/\x.length+2<=lim then aa (.lst ((X8 x y).map D.str)) else ag
 |_,_=>ag
def jO:∀(xs:List Str) (n:Nat),Vals (xs.map V.str) (strsFrom n xs)
 |[],_=> .nil
 |x::r,n=> .cons ⟨n,rfl⟩ (jO r (n+1))
def En:Gb X "str.split" (λx vs H Q=>∃y z:Str,x= .str y/\vs=[.str z]/\z.length≠0/\y.length+2<=lim/\∀p,H p=none->Q (.ref p) (upd H p (.lst ((X8 y z).map V.str)))):=by
 intro f8 s σ H x vs v us Q I rx rv h;obtain⟨y,z,rfl,rfl,hz,hy,q⟩:=h;obtain⟨t,rfl⟩:=rx;obtain⟨u,rfl,r1⟩:=rv.one;obtain⟨t2,rfl⟩:=r1;have RP:(z.length==0)=false:=by simpa using hz
 have hl:y.length<=VB:=by have:=ck;omega
 have hn:=split_le y z;cases hc:(decide (y.length<z.length)||decide (aa1 y<aa1 z)) with
 |true=>
  have es:X8 y z=[y]:=by unfold X8;rw[acI hc]
  rw[es] at q hn;refine X7 aaX (Yt _ _ _) aaF (aan _ _) (meets_str_split_cannot_occur y z t t2 hc) ?_;refine⟨.ref s.heap.objs.size,_,I.laid (t':=s.toks) (o:= .lst [.str y]) (λb ob q=>Vd _ q) (Vj _) ?_,rfl,q _ (I.hok.fresh (Vj _))⟩;exact⟨by show 1<=_;decide,[.str y t],0, .cons ⟨t,rfl⟩ .nil,Vq _ rfl⟩
 |false=>
  cases ho:(WT y z 0 y.length (y.length+1)).isEmpty with
  |true=>
   have es:X8 y z=[y]:=by unfold X8;rw[acJ (by rw[hc];simp),acI ho]
   rw[es] at q hn;refine X7 aaX (Yt _ _ _) aaF (aan _ _) (meets_str_split_not_found y z t t2 hc RP ho) ?_;refine⟨.ref s.heap.objs.size,_,I.laid (t':=s.toks) (o:= .lst [.str y]) (λb ob q=>Vd _ q) (Vj _) ?_,rfl,q _ (I.hok.fresh (Vj _))⟩;exact⟨by show 1<=_;decide,[.str y t],0, .cons ⟨t,rfl⟩ .nil,Vq _ rfl⟩
  |false=>
   have es:X8 y z=Builtin.Str.partsBetween y (WT y z 0 y.length (y.length+1)) z.length:=by unfold X8;rw[acJ (by rw[hc];simp),acJ (by rw[ho];simp)]
   rw[es] at q hn;refine X7 aaX (Yt _ _ _) aaF (aan _ _) (meets_str_split_sep y z t t2 hc RP ho hl (by have:=ck;omega)) ?_;refine⟨.ref s.heap.objs.size,_,I.laid (o:= .lst _) (λb ob q=>Vd _ q) (Vj _) ?_,rfl,q _ (I.hok.fresh (Vj _))⟩;exact⟨by rw[Vb];have:=ck;omega,_,0,jO _ _,Vq _ rfl⟩
def rF{K:Vn}{F:Hp}:∀{xs:List Str},(∀x∈xs,x.length<=lim)->DenL K F (xs.map D.str) (xs.map V.str)
 |[],_=> .nil
 |x::r,h=> .cons ⟨rfl,h x (Ve ..)⟩ (rF λy hy=>h y (Vc _ hy))
def EU(ho:PD X Xw o δo)(ha:iu X Xw [e] δl)(cU:WK o "split" X.env (eval o X.env)=eval o X.env:=by rfl)
 (fH:((W7 aO (Vs [e] X.env)).all (λx=>!x.1)&&(YA aO (Xf [] X.env)).all (λx=>x.1.isSome)&&decide ([e].length+([]:List Xb).length+(if ([]:List Xb).isEmpty then 0 else 1)<30))=true:=by rfl)
 (cV:(W1.endLine==aO.line)=true:=by rfl)(kG:Vs [e] X.env=[(false,eval e X.env)]:=by rfl):PD X Xw (.Call (.Attribute o "split" W1) [e] [] aO) (dM kh splitM δo δl):=
 m6 Xy PySem.F.slot_str_split PySem.F.type_str_split En o3 (λXw F H x vs d ds Q s hx hv w=>by
  unfold splitM at w;split at w
  ·rename_i y z;obtain⟨v,rfl,h1⟩:=hv.one;split at w
   ·rename_i hc;have hn:=split_le y z;exact⟨y,z,hx.1,by rw[h1.1],hc.1,hc.2,λp hp=>WP.fin w (Ext.lay s hp) ⟨p,_,rfl,aD,rF λa ha=>by have:=part_short ha;omega,by rw[Vb];omega⟩⟩
   ·exact w.elim
  ·exact w.elim) ho ha cU fH cV kG rfl
def fK:D->List D->M D
 | .str sep,[.lst ds]=>match lF ds with
   |some xs=>if (xs.map (·.length)).sum+xs.length*sep.length<=lim then aa (.str (Z8 sep xs)) else ag
   |none=>ag
 |_,_=>ag
def wL(sep:Str):∀xs:List Str,(Z8 sep xs).length<=(xs.map (·.length)).sum+xs.length*sep.length:=by
 intro xs;show (abg _ xs).length<=_;rw[aa_];induction xs with
 |nil=>show (0:Nat)<=_;exact V1 _
 |cons x r ih=>
  cases r with
  |nil=>
   show x.length<=_;simp
  |cons y r=>
   show (x++sep++acC _ (y::r)).length<=_;rw[aX,aX,Vi,Xk,Vk,Zj];omega
def Lm(K:Vn):V->List V->Hp->VK->Prop:=λx vs H Q=>∃(sep:Str) (a:Addr) (xs:List Str),x= .str sep/\vs=[.ref a]/\H a=some (.lst (xs.map V.str))/\(xs.map (·.length)).sum+xs.length*sep.length<=lim/\Q (.str (Z8 sep xs)) H
def Em:Gb X "str.join" (Lm X.K):=by
 intro f8 s σ H x vs v us Q I rx rv h;obtain⟨sep,a,xs,rfl,rfl,hH,hl,q⟩:=h;obtain⟨t,rfl⟩:=rx;obtain⟨u,rfl,r1⟩:=rv.one;cases (show u=_ from r1);have hok:(xs.map (·.length)).sum+xs.length*sep.length<=16777216:=by
  unfold lim at hl;omega
 obtain⟨aB,r2,pl,hz⟩:=I.list (SqL.of (K:=X.K) hH);refine join_list pl.isList (by simpa using lL r2) hok λt' k=>⟨.str _,H,I.tok k,⟨t',rfl⟩,q⟩
def xC(ho:PD X Xw o δo)(ha:iu X Xw [e] δl)(cU:WK o "join" X.env (eval o X.env)=eval o X.env:=by rfl)
 (fH:((W7 aO (Vs [e] X.env)).all (λx=>!x.1)&&(YA aO (Xf [] X.env)).all (λx=>x.1.isSome)&&decide ([e].length+([]:List Xb).length+(if ([]:List Xb).isEmpty then 0 else 1)<30))=true:=by rfl)
 (cV:(W1.endLine==aO.line)=true:=by rfl)(kG:Vs [e] X.env=[(false,eval e X.env)]:=by rfl):PD X Xw (.Call (.Attribute o "join" W1) [e] [] aO) (dM kh fK δo δl):=
 m6 Xy abe abd Em o3 (λXw F H x vs d ds Q s hx hv w=>by
  unfold fK at w;split at w
  ·rename_i sep ds;obtain⟨v,rfl,h1⟩:=hv.one;obtain⟨a,ws,rfl,h2,h3,_⟩:=h1;split at w
   ·rename_i xs Kf;split at w
    ·rename_i hc;exact⟨sep,a,xs,hx.1,rfl,by rw[<-lG Kf h3];exact s _ _ h2,hc,WP.now w s ⟨rfl,VI (wL sep xs) hc⟩⟩
    ·exact w.elim
   ·exact w.elim
  ·exact w.elim) ho ha cU fH cV kG rfl
def il{x y:Str}(h:x.cps.toList=y.cps.toList):x=y:=by
 obtain⟨⟨a⟩⟩:=x;obtain⟨⟨b⟩⟩:=y;cases (show a=b from h);rfl
end
section
variable{a:Expr}
end
section
def qr:∀{xs:List V}{us:List Value},xs.length=us.length->(∀(i:Nat) x u,xs[i]? =some x->us[i]? =some u->RelV x u)->Vals xs us
 |[],[],_,_=> .nil
 |x::xs,u::us,hl,h=> .cons (h 0 x u rfl rfl) (qr (by simpa using hl) λi y v e1 e2=>h (i+1) y v (by simpa using e1) (by simpa using e2))
end
end L3
namespace L3
open PySem PySem.SetTable
def sH{α:Type}[DecidableEq α]:∀{l U:List α},l.Nodup->(∀x∈l,x∈U)->l.length<=U.length
 |[],_,_,_=>V1 _
 |a::l,U,hn,h=>by
  have ha:=h a (Ve ..);have G0:=WG.mp hn;have:=sH (l:=l) (U:=U.erase a) G0.2 λx hx=>(abU (λe:x=a=>G0.1 (e▸hx))).mpr (h x (Vc _ hx));rw[Y9 ha] at this;have:0<U.length:=abD ha;rw[Vk];omega
def iK(m b:Nat):Nat->Nat×Nat
 |0=>(b % (m+1),b)
 |k+1=>leap m (iK m b k).1 (iK m b k).2
def L9(m i:Nat):Nat:=(i*5+1) % (m+1)
def it(m:Nat):Nat->Nat->Nat
 |0,x=>x
 |n+1,x=>L9 m (it m n x)
def o4(m:Nat):∀a b x,it m (a+b) x=it m a (it m b x)
 |0,b,x=>by rw[Ye];rfl
 |a+1,b,x=>by rw[YU];show L9 m _=L9 m _;rw[o4 m a b x]
def Ng(m b:Nat):∀k,(iK m b k).2=b / 32 ^ k
 |0=>by simp[iK]
 |k+1=>by
  show (iK m b k).2 / 32=_;rw[Ng m b k,abL,Nat.pow_succ]
def Au{m b:Nat}(hb:b<2 ^ 64):∀k,(iK m b (k+13)).1=it m k (iK m b 13).1
 |0=>by rw[Ye];rfl
 |k+1=>by
  rw[YU];have hq:(iK m b (k+13)).2 / 32=0:=by
   rw[Ng];refine Nat.div_eq_of_lt ?_;refine Z_ (m:=b / 32 ^ 13) ?_ ?_
   ·rw[Nat.pow_add,abS,<-abL];exact Nat.div_le_self ..
   ·have:b / 32 ^ 13<1:=Nat.div_lt_of_lt_mul (by omega);omega
  show ((iK m b (k+13)).1*5+1+(iK m b (k+13)).2 / 32) % (m+1)=L9 m _;rw[hq,Au hb k];rfl
def Ga(m:Nat):Prop:=m=7\/m=31\/m=127
def Qy(m:Nat):Nat->Nat->List Nat
 |0,_=>[]
 |n+1,x=>x::Qy m n (L9 m x)
def zq(m:Nat):∀(n x j:Nat),j∈Qy m n x->∃a,a<n/\it m a x=j
 |0,x,j,h=>by cases h
 |n+1,x,j,h=>by
  rcases Vo.mp h with rfl | h
  ·exact⟨0,by omega,rfl⟩
  ·obtain⟨a,ha,e⟩:=zq m n (L9 m x) j h;exact⟨a+1,by omega,by rw[o4 m a 1 x];exact e⟩
def Hz{m:Nat}(hm:Ga m):(∀j,j<m+1->j∈Qy m (m+1) 0)/\it m (m+1) 0=0:=by
 rcases hm with rfl | rfl | rfl
 ·exact⟨by decide+kernel,by decide+kernel⟩
 ·exact⟨by decide+kernel,by decide+kernel⟩
 ·exact⟨by decide+kernel,by decide+kernel⟩
def Sm{m:Nat}(hm:Ga m){i j:Nat}(hi:i<m+1)(hj:j<m+1):∃n,n<=m/\it m n i=j:=by
 obtain⟨h1,h2⟩:=Hz hm;obtain⟨a,ha,rfl⟩:=zq m _ 0 i (h1 i hi);obtain⟨b,hb,rfl⟩:=zq m _ 0 j (h1 j hj);by_cases h:a<=b
 ·exact⟨b - a,by omega,by rw[<-o4,Nat.sub_add_cancel h]⟩
 ·refine⟨m+1 - a+b,by omega,?_⟩;rw[<-o4,show m+1 - a+b+a=b+(m+1) by omega,o4,h2]
def Jf(m b k:Nat):(iK m b k).1<m+1:=by
 cases k with
 |zero=>exact abh _ (by omega)
 |succ k=>exact abh _ (by omega)
def reach{m b:Nat}(hm:Ga m)(hb:b<2 ^ 64){j:Nat}(hj:j<m+1):∃k,k<=m+13/\(iK m b k).1=j:=by
 obtain⟨n,hn,e⟩:=Sm hm (Jf m b 13) hj;exact⟨n+13,by omega,by rw[Au hb,e]⟩
def Af(h:Int):bits h<2 ^ 64:=by
 unfold bits;have h1:=ZH h (show (2 ^ 64:Int)≠0 by decide);have h2:=YV h (show (0:Int)<2 ^ 64 by decide);omega
def lO(t:Wo):Nat->Probe->Probe
 |0,p=>p
 |n+1,p=>lO t n (t.advance p)
def rm(t:Wo)(p:Probe):(t.advance p).dummy=p.dummy:=by
 unfold advance;split<;>rfl
def kj(t:Wo):∀a b p,lO t (a+b) p=lO t b (lO t a p)
 |0,b,p=>by rw[Ye];rfl
 |a+1,b,p=>by rw[YU];exact kj t a b _
def sK(m:Nat)(h:Int)(k:Nat):Probe:={j:=(iK m (bits h) k).1,more:=runEnd m (iK m (bits h) k).1 - (iK m (bits h) k).1,i:=(iK m (bits h) k).1,perturb:=(iK m (bits h) k).2,dummy:=none}
def Fx(m i:Nat):runEnd m i - i<=9:=by
 unfold runEnd;split<;>omega
def yy(t:Wo):∀(n:Nat) (p:Probe),n<=p.more->lO t n p={p with j:=p.j+n,more:=p.more - n}
 |0,p,_=>rfl
 |n+1,p,h=>by
  show lO t n (t.advance p)=_;have e:t.advance p={p with j:=p.j+1,more:=p.more - 1}:=by unfold advance;rw[acI (by omega)]
  rw[e,yy t n _ (by show n<=p.more - 1;omega)];show ({j:=p.j+1+n,more:=p.more - 1 - n,i:=p.i,perturb:=p.perturb,dummy:=p.dummy}:Probe)=_;rw[Nat.add_assoc,aas 1 n,Nat.sub_sub,aas 1 n]
def vP{t:Wo}{h:Int}{k:Nat}:lO t ((sK t.mask h k).more+1) (sK t.mask h k)=sK t.mask h (k+1):=by
 rw[kj,yy t _ _ (Vj _)];show t.advance _=_;unfold advance;rw[acJ (show¬(sK t.mask h k).more - (sK t.mask h k).more>0 by rw[Nat.sub_self];exact Wc 0)];rfl
def CT{t:Wo}{h:Int}:∀k,∃n,n<=10*k/\lO t n (t.probeStart h)=sK t.mask h k
 |0=>⟨0,V1 _,rfl⟩
 |k+1=>by
  obtain⟨n,hn,e⟩:=CT (t:=t) (h:=h) k;have:=Fx t.mask (iK t.mask (bits h) k).1;refine⟨n+((sK t.mask h k).more+1),?_,by rw[kj,e,vP]⟩;show n+(runEnd t.mask (iK t.mask (bits h) k).1 - (iK t.mask (bits h) k).1+1)<=_;omega
def GS{t:Wo}{hashAt:Nat->Int}{h:Int}(hd:∀j,t.slot j≠ .dummy)(hh:∀j i,t.slot j= .live i->(hashAt i==h)=false):
 ∀(n fuel:Nat) (p:Probe),n<fuel->p.dummy=none->t.slot (lO t n p).j= .empty->∃j,probe.go t hashAt h fuel p=some (.empty j none)/\t.slot j= .empty
 |n,0,p,hn,_,_=>acK hn (by omega)
 |n,fuel+1,p,hn,hp,he=>by
  unfold probe.go;cases hs:t.slot p.j with
  |empty=>exact⟨p.j,by rw[hp],hs⟩
  |dummy=>exact acK hs (hd _)
  |live i=>
   dsimp only
   rw[hh p.j i hs];cases n with
   |zero=>rw[show (lO t 0 p).j=p.j from rfl,hs] at he;cases he
   |succ n=>
    have:=GS hd hh n fuel (t.advance p) (by omega) (by rw[rm];exact hp) he;simpa using this
def jt{t:Wo}{j i:Nat}(h:t.slot j= .live i):t.place[i]? =some j:=by
 unfold slot at h
 dsimp only at h
 split at h
 ·rename_i e;cases h;exact Zs e
 ·split at h<;>cases h
def fk{t:Wo}(hd:t.dummies= #[])(j:Nat):t.slot j≠ .dummy:=by
 unfold slot
 dsimp only
 split
 ·exact λz=>by cases z
 ·split
  ·rename_i e;rw[hd] at e;unfold has at e;simp at e
  ·exact λz=>by cases z
def zL{t:Wo}(hd:t.dummies= #[])(hp:t.place.size<=t.mask):∃j,j<t.mask+1/\t.slot j= .empty:=by
 apply WL;intro oP;have:∀j∈Vw (t.mask+1),j∈t.place.toList:=λj hj=>by
  cases hs:t.slot j with
  |empty=>exact acK ⟨j,V5.mp hj,hs⟩ oP
  |dummy=>exact acK hs (fk hd j)
  |live i=>exact VY ((Wq ..).trans (jt hs))
 have:=sH List.nodup_range this;rw[We,Vh] at this;omega
def vals(o:Array (Option Nat))(n:Nat):List Nat:=(Vw n).filterMap λj=>o.getD j none
def Dw{α β:Type}[DecidableEq α]{f g:α->Option β}{a:α}{b:β}(h0:f a=none)(h1:g a=some b):∀{l:List α},l.Nodup->a∈l->(∀x∈l,x≠a->g x=f x)->(l.filterMap g).Perm (b::l.filterMap f)
 |[],_,h,_=>by cases h
 |x::l,hn,h,hg=>by
  have G0:=WG.mp hn;by_cases e:x=a
  ·subst e;rw[WU h1,Yd h0];have:l.filterMap g=l.filterMap f:=oH λy hy=>hg y (Vc _ hy) λz=>G0.1 (z▸hy);rw[this]
  ·have ih:=Dw h0 h1 G0.2 ((Vo.mp h).resolve_left λz=>e z.symm) λy hy=>hg y (Vc _ hy);have hx:=hg x (Ve ..) e;cases hf:f x with
   |none=>rw[Yd (hx.trans hf),Yd hf];exact ih
   |some y=>rw[WU (hx.trans hf),WU hf];exact(ih.cons y).trans (List.Perm.swap ..)
def rO{m:Nat}{o:Array (Option Nat)}{b:Nat}:∀(n fuel k:Nat),n<fuel->(o.getD (iK m b (k+n)).1 (some 0)).isNone=true->∃j,layClean.free m o fuel (iK m b k).1 (iK m b k).2=some j/\(o.getD j (some 0)).isNone=true
 |n,0,k,h,_=>acK h (by omega)
 |n,fuel+1,k,h,he=>by
  unfold layClean.free;cases hf:(Vw (runEnd m (iK m b k).1+1 - (iK m b k).1)).find? λq=>(o.getD ((iK m b k).1+q) (some 0)).isNone with
  |some q=>exact⟨_,rfl,List.find?_some (p:=λq=>(o.getD ((iK m b k).1+q) (some 0)).isNone) hf⟩
  |none=>
   cases n with
   |zero=>
    have:=acu.mp hf 0 (V5.mpr (by unfold runEnd;split<;>omega));rw[Nat.add_zero] at this he;exact acK he this
   |succ n=>
    exact rO n fuel (k+1) (by omega) (by rw[YU];exact he)
def oZ{o:Array (Option Nat)}{j:Nat}(h:(o.getD j (some 0)).isNone=true):j<o.size/\o[j]? =some none:=by
 rw[Vv] at h;cases e:o[j]? with
 |none=>rw[e] at h;cases h
 |some v=>
  rw[e] at h;cases v with
  |none=>exact⟨(V8.mp e).1,rfl⟩
  |some v=>cases h
def Eh{m:Nat}(hm:Ga m){o:Array (Option Nat)}{h:Int}{k:Nat}(hs:o.size=m+1)(hp:(vals o (m+1)).Perm (Vw k))(hk:k<=m):
 ∃j,layClean.free m o (turns m) (bits h % (m+1)) (bits h)=some j/\(o.setIfInBounds j (some k)).size=m+1/\(vals (o.setIfInBounds j (some k)) (m+1)).Perm (Vw (k+1)):=by
 obtain⟨j0,Px,OA⟩:∃j,j<m+1/\o.getD j none=none:=by
  apply WL;intro oP;have all:∀l:List Nat,(∀j∈l,j<m+1)->(l.filterMap λj=>o.getD j none).length=l.length:=by
   intro l;induction l with
   |nil=>exact λ_=>rfl
   |cons a l ih=>
    intro h;cases e:o.getD a none with
    |none=>exact acK ⟨a,h a (Ve ..),e⟩ oP
    |some v=>rw[WU (f:=λj=>o.getD j none) e,Vk,Vk,ih λj hj=>h j (Vc _ hj)]
  have h1:=hp.length_eq;rw[vals,all _ λj hj=>V5.mp hj,We,We] at h1;omega
 have MK:(o.getD j0 (some 0)).isNone=true:=by
  rw[Vv] at OA⊢;rw[Vu (by omega)] at OA⊢;rw[Zb] at OA⊢;rw[OA];rfl
 obtain⟨q,hq,e⟩:=reach hm (Af h) Px;obtain⟨j,ej,hj⟩:=rO (m:=m) (o:=o) (b:=bits h) q (turns m) 0 (by unfold turns;omega) (by rw[Ye,e];exact MK);obtain⟨cN,Bx⟩:=oZ hj;refine⟨j,ej,by rw[aa6];exact hs,?_⟩;have hP:=Dw (f:=λi=>o.getD i none) (g:=λi=>(o.setIfInBounds j (some k)).getD i none) (a:=j) (b:=k) (by
  show o.getD j none=none;rw[Vv,Bx];rfl) (by
  show (o.setIfInBounds j (some k)).getD j none=some k;rw[Vv,Zw cN];rfl) (l:=Vw (m+1)) List.nodup_range (V5.mpr (by omega)) λx _ hx=>by
  show (o.setIfInBounds j (some k)).getD x none=o.getD x none;rw[Vv,Vv,aac (λz=>hx z.symm)]
 refine hP.trans ((hp.cons k).trans ?_);rw[List.range_succ (n:=k)];exact List.perm_append_comm (l₁:=[k])
def AA{m:Nat}(hm:Ga m):∀(hs:List Int) (o:Array (Option Nat)) (k:Nat),o.size=m+1->(vals o (m+1)).Perm (Vw k)->k+hs.length<=m->
 ∃o',(hs.foldl (init:=some (o,k)) λu8 h=>do
  let (owner,k)<-u8
  let j<-layClean.free m owner (turns m) (bits h % (m+1)) (bits h)
  pure (owner.setIfInBounds j (some k),k+1))=some (o',k+hs.length)/\(vals o' (m+1)).Perm (Vw (k+hs.length))
 |[],o,k,h1,h2,h3=>⟨o,rfl,h2⟩
 |h::hs,o,k,h1,h2,h3=>by
  rw[Vk] at h3;obtain⟨j,ej,e1,e2⟩:=Eh hm (h:=h) h1 h2 (by omega);obtain⟨o',e3,e4⟩:=AA hm hs _ (k+1) e1 e2 (by omega);rw[Vk,show k+(hs.length+1)=k+1+hs.length by omega];refine⟨o',?_,e4⟩;rw[Xp,<-e3];congr 1;show (layClean.free m o (turns m) (bits h % (m+1)) (bits h)>>=_)=_;rw[ej];rfl
def zV(m:Nat):vals (aaH (m+1) none) (m+1)=[]:=by
 unfold vals;refine List.filterMap_eq_nil_iff.mpr λj hj=>?_;rw[Vv,aa7];split<;>rfl
def Hb{m f mv:Nat}{led pl:Bool}(hm:Ga m){hs:Array Int}(hl:hs.size<=m):
 ∃t order,laid m f mv led pl hs=some (t,order)/\t.mask=m/\t.dummies= #[]/\t.place.size=hs.size/\order.toList.Perm (Vw hs.size)/\t.plain=pl/\t.led=led/\t.place.toList.Pairwise (· < ·):=by
 obtain⟨o,e1,e2⟩:=AA hm hs.toList (aaH (m+1) none) 0 (by simp) (by rw[zV];exact .refl _) (by rw[Ye,Vh];exact hl);rw[Ye,Vh] at e1 e2;have e3:layClean m hs=some o:=by
  unfold layClean;rw[<-aca,e1];rfl
 have e4:((Vw (m+1)).filterMap λj=>(o.getD j none).map (j,·)).map (·.2)=vals o (m+1):=by
  unfold vals;rw[List.map_filterMap];refine oH λj _=>?_;cases o.getD j none<;>rfl
 refine⟨_,_,by unfold laid;rw[e3];rfl,rfl,rfl,?_,?_,rfl,rfl,?_⟩
 ·show ((((Vw (m+1)).filterMap λj=>(o.getD j none).map (j,·)).map (·.1)).toArray).size=_;rw[Vl,Vb,<-Vb (f:=(·.2)),e4,e2.length_eq,We]
 ·show ((((Vw (m+1)).filterMap λj=>(o.getD j none).map (j,·)).map (·.2)).toArray).toList.Perm _;rw[e4];exact e2
 ·show ((((Vw (m+1)).filterMap λj=>(o.getD j none).map (j,·)).map (·.1)).toArray).toList.Pairwise (· < ·);have:∀l:List Nat,((l.filterMap λj=>(o.getD j none).map (j,·)).map (·.1)).Sublist l:=by
   intro l;induction l with
   |nil=>exact .slnil
   |cons a l ih=>
    cases e:o.getD a none with
    |none=>rw[Yd (f:=λj=>(o.getD j none).map (j,·)) (by show (o.getD a none).map (a,·)=none;rw[e];rfl)];exact ih.cons a
    |some v=>rw[WU (f:=λj=>(o.getD j none).map (j,·)) (b:=(a,v)) (by show (o.getD a none).map (a,·)=some (a,v);rw[e];rfl)];exact List.cons_sublist_cons.mpr ih
  exact List.Pairwise.sublist (this _) List.pairwise_lt_range
def og{xs:Array Nat}(hs:xs.toList.Pairwise (· < ·)){j:Nat}:∀(fuel lo hi:Nat),lo<=hi->hi<=xs.size->hi - lo<=fuel->(∀i (h:i<xs.size),i<lo->xs[i]<j)->(∀i (h:i<xs.size),hi<=i->j<=xs[i])->
 below.go xs j fuel lo hi<=xs.size/\(∀i (h:i<xs.size),i<below.go xs j fuel lo hi->xs[i]<j)/\∀i (h:i<xs.size),below.go xs j fuel lo hi<=i->j<=xs[i]
 |0,lo,hi,h1,h2,h3,h4,h5=>by
  have:lo=hi:=by omega
  subst this;exact⟨h2,h4,h5⟩
 |fuel+1,lo,hi,h1,h2,h3,h4,h5=>by
  have mono:∀i k (hk:k<xs.size) (h:i<k),xs[i]'(by omega)<xs[k]:=λi k hk h=>by
   have:=Wj.mp hs i k (by simpa using (by omega:i<xs.size)) (by simpa using hk) h;simpa using this
  unfold below.go;by_cases cN:lo<hi
  ·rw[acI cN]
   dsimp only
   have hm:(lo+hi) / 2<xs.size:=by omega
   have hg:xs.getD ((lo+hi) / 2) j=xs[(lo+hi) / 2]:=by rw[Vv,Vu hm];rfl
   rw[hg];by_cases hc:xs[(lo+hi) / 2]<j
   ·rw[acI hc];refine og hs fuel _ hi (by omega) h2 (by omega) (λi h vM=>?_) h5;by_cases e:i=(lo+hi) / 2
    ·subst e;exact hc
    ·exact XT (mono i _ hm (by omega)) hc
   ·rw[acJ hc];refine og hs fuel lo _ (by omega) (by omega) (by omega) h4 λi h vM=>?_;by_cases e:i=(lo+hi) / 2
    ·subst e;omega
    ·have:=mono _ i h (by omega:(lo+hi) / 2<i);omega
  ·rw[acJ cN];have:lo=hi:=by omega
   subst this;exact⟨h2,h4,h5⟩
def kq{xs:Array Nat}(hs:xs.toList.Pairwise (· < ·))(j:Nat):below xs j<=xs.size/\(∀i (h:i<xs.size),i<below xs j->xs[i]<j)/\∀i (h:i<xs.size),below xs j<=i->j<=xs[i]:=
 og hs xs.size 0 xs.size (V1 _) (Vj _) (by omega) (λi h hi=>acK hi (by omega)) λi h hi=>acK h (by omega)
def Fu{t:Wo}{j:Nat}(hs:t.place.toList.Pairwise (· < ·))(h:t.slot j= .empty):(insertAt t.place (below t.place j) j).toList.Pairwise (· < ·):=by
 obtain⟨h1,h2,h3⟩:=kq hs j;have gh:t.place[below t.place j]? ≠some j:=λz=>by
  unfold slot at h
  dsimp only at h
  rw[z,beq_self_eq_true] at h;cases h
 rw[toList_insertAt];have wH:=hs;rw[<-YC (below t.place j) t.place.toList,YH] at wH;obtain⟨q1,q2,q3⟩:=wH;have lo:∀a∈t.place.toList.take (below t.place j),a<j:=λa ha=>by
  obtain⟨i,hi,e⟩:=List.mem_take_iff_getElem.mp ha;have vM:i<t.place.size:=by simp at hi;omega
  have:=h2 i vM (by omega);rw[<-e];simpa using this
 have hi:∀a∈t.place.toList.drop (below t.place j),j<a:=λa ha=>by
  obtain⟨i,hi,e⟩:=List.mem_drop_iff_getElem.mp ha;have vM:below t.place j+i<t.place.size:=by
   have:i+below t.place j<t.place.size:=by simpa using hi
   omega
  have:=h3 _ vM (by omega);have e':t.place[below t.place j+i]=a:=by simpa using e
  rw[e'] at this;refine Nat.lt_of_le_of_ne this λz=>?_;subst z;by_cases i0:i=0
  ·subst i0;refine gh ?_;rw[Vu (by simpa using vM)];exact acP some (by simpa using e')
  ·have h0:below t.place j<t.place.size:=by omega
   have m1:=h3 _ h0 (Vj _);have m2:=Wj.mp hs (below t.place j) (below t.place j+i) (by simpa using h0) (by simpa using vM) (by omega);have m2:t.place[below t.place j]<t.place[below t.place j+i]:=by simpa using m2
   omega
 refine YH.mpr ⟨q1,WE.mpr ⟨hi,q2⟩,λa ha b hb=>?_⟩;rcases Vo.mp hb with rfl | hb
 ·exact lo a ha
 ·exact q3 a ha b hb
def slotAt(xs:Array Nat):Nat->Nat
 |0=>0
 |k+1=>xs.getD k 0+1
def below_at{xs:Array Nat}(hs:xs.toList.Pairwise (· < ·)):∀{k:Nat},k<=xs.size->below xs (slotAt xs k)=k
 |0,_=>by
  obtain⟨h1,h2,_⟩:=kq hs 0;show below xs 0=0;cases e:below xs 0 with
  |zero=>rfl
  |succ p=>
   rw[e] at h1 h2;exact acK (h2 0 (by omega) (by omega)) (by omega)
 |k+1,hk=>by
  have hg:xs.getD k 0=xs[k]:=by rw[Vv,Vu (by omega)];rfl
  show below xs (xs.getD k 0+1)=k+1;rw[hg];obtain⟨h1,h2,h3⟩:=kq hs (xs[k]+1);have a1:¬below xs (xs[k]+1)<=k:=λz=>by have:=h3 k (by omega) z;omega
  have a2:¬k+1<below xs (xs[k]+1):=λz=>by
   have cN:k+1<xs.size:=by omega
   have m1:=h2 (k+1) cN z;have m2:=Wj.mp hs k (k+1) (by simpa using (by omega:k<xs.size)) (by simpa using cN) (by omega);have m2:xs[k]<xs[k+1]:=by simpa using m2
   omega
  omega
structure TabOk (t:Wo) (n:Nat) (ld:Bool):Prop where
 msk:Ga t.mask
 size:t.place.size=n
 dum:t.dummies= #[]
 room:5*n<3*t.mask
 plain:t.plain=true
 led:t.led=ld
 rise:t.place.toList.Pairwise (· < ·)
def TabOk.fits{t:Wo}{n:Nat}{ld:Bool}(h:TabOk t n ld):t.fits n=true:=by
 unfold acD fill;rw[h.dum,h.size];have:=h.room;simp;omega
def CO(ld:Bool)(h:Heap)(a:Addr)(xs:List (Int×Value)):Prop:=∃o es ep t,h.get? a=some o/\o.ExactSet/\o.data= .set es ep t/\es.toList.Perm xs/\TabOk t es.size ld
def jN{α:Type}(xs:Array α)(p:Nat)(x:α):(insertAt xs p x).size=xs.size+1:=by
 have:=(insertAt_perm xs p x).length_eq;simpa using this
section
variable{prog:VG}{w:World}{A:V2}{E:Value->Vf->Prop}{s:Vf}
def kD{ks:List Int}{b:Addr}{Q:Bool->Vf->Prop}(hk:WS (Xg prog w) s.heap ks b)(h:Q true s):wpAny (model prog w) A (hashByValue 8 (.ref b)) Q E s:=by
 have hT:=hk.typeIs;obtain⟨o,items,n,ho,_,hd,hi⟩:=hk;unfold hashByValue;refine U_ (YZ hT F.slot_tuple_hash.lookup ?_)
 dsimp only
 refine U_ (YI ho hd ?_);refine U_ ?_;show wpAny _ _ (forIn items _ _) _ _ s;rw[<-ZZ];refine Yi _ (λP3 r s'=>r.1=none/\s'=s/\∃ks',ItemsAre (Xg prog w) ks' P3) _ ?_ ?_ _ _ ⟨rfl,rfl,ks,hi⟩
 ·rintro v P3 r s' ⟨hr,rfl,ks',hl⟩;cases hl with
  | @cons k v Qn vs h1 h2=>
    have hv:hashByValue 7 v=pure true:=by
     cases v<;>first | rfl | (exact acK h1 (by simp[Xg,aaB]))
    rw[hv];refine U_ (Va ?_);simp only[XY,VC,if_false];exact Va ⟨rfl,rfl,_,h2⟩
 ·rintro⟨r1,r2⟩ s' ⟨hr,rfl,_⟩;simp only at hr;subst hr;exact Va h
def Gq:sizeAbove (grown 5)=32:=by decide
def CQ:sizeAbove (grown 19)=128:=by decide
end
def mj{prog:VG}{w:World}{h h':Heap}{ks:List Int}{b:Addr}(x:WS (Xg prog w) h ks b)(e:∀o,h.get? b=some o->h'.get? b=some o):WS (Xg prog w) h' ks b:=
 let ⟨o,items,n,ho,r⟩:=x
 ⟨o,items,n,e o ho,r⟩
section
variable{prog:VG}{w:World}
def LY(prog:VG)(w:World)(ks:Nat->List Int)(ad:Nat->Addr)(i:Nat):List (Int×Value):=(Vw i).map λj=>(Ze (Xg prog w) (ks j), .ref (ad j))
end
def kJ(w:World):Bool:=!w.params.followText "set-order"
section
variable{prog:VG}{w:World}{A:V2}{E:Value->Vf->Prop}{s:Vf}
def xX(a:Value){Q₁:Value->Vf->Prop}(h:Q₁ (.ref s.heap.objs.size) {s with heap:=s.heap.push {cls:= .type "set",dict:=none,data:= .set #[] 0 (.fresh 0 0 (kJ w))} }):
 YF (model prog w) A (.call (.builtin "set.__new__") ⟨[.type "set",a],[]⟩) (wants Q₁ E) s:=by
 refine codeAny_of_tree (show wpAny _ A.in1 (do aa9 "set.__new__" ⟨[.type "set",a],[]⟩;again (.builtin "set.__new__" ⟨[.type "set",a],[]⟩)) _ _ s from ?_);refine U_ (ZC (F.newCall_set_1 a) (Va ⟨XF F.plain_set_new _,WX F.entry_set_new ?_⟩));rw[WB F.plain_set_new _];unfold X3.«set.__new__» Builtin.Frozenset.newClass;have D0:=sub_set_self;obtain⟨hp,g,d,tk,os⟩:=s
 dsimp only
 wp_walk
 refine YN (Va ?_);simp only[newObj];exact U_ (wpAny_alloc (Va (Va h)))
end
end L3
namespace L3
open PySem PySem.Spec L2 HT
open PyProof.Rows hiding St
def items_int{P:VG}{w:World}:∀{us:List Value}{ns:List Int},Xz us ns->ItemsAre (Xg P w) ns us
 |_,_, .nil=> .nil
 |_,_, .cons n t h=> .cons (intKind_is _ _ _ _) (items_int h)
def A5:V->Addr
 | .ref a=>a
 |_=>0
def xK{X:Cx}{f8:List (Addr×Obj)}{σ:St}{H:Hp}{s:Vf}(I:Inv X f8 σ H s){vs:List V}{aB:List Value}{ks:List (List Int)}(hr:cj H vs ks)(rv:Vals vs aB){i:Nat}(hi:i<aB.toArray.size):
 aB.toArray[i]? =some (.ref (A5 (vs.getD i .non)))/\WS (Xg X.prog X.w) s.heap (ks.getD i []) (A5 (vs.getD i .non)):=by
 have hl:=rv.length;have vM:i<aB.length:=by simpa using hi
 obtain⟨a,e1,e2⟩:=lr hr (i:=i) (by omega);have r:=mq i rv (by omega);rw[e1] at r⊢;have r:aB.getD i Wi= .ref a:=r;refine⟨?_,?_⟩
 ·rw[VN,Vg vM,Zb] at r;rw[abN,Vg vM,r];rfl
 ·obtain⟨us,ru,pt,_⟩:=I.tuple (SqT.of (K:=X.K) e2);obtain⟨o,q1,q2,m,q3⟩:=pt;exact⟨o,us.toArray,m,q1,q2,q3,by simpa using items_int (intsAre_of ru)⟩
end L3
namespace L3
open PySem PySem.SetTable PySem.W PyProof.Rows
def df:Slot "set_iterator" "__next__" "set_iterator.__next__":=
 .of (owner:="set_iterator") (n:="__next__") (by rw[abr,ZU];kernel_rfl) (by decide+kernel) (by decide+kernel) (by decide+kernel) (by first | exact .inl (by decide+kernel) | exact .inr (by decide+kernel)) (by rw[abO];kernel_rfl)
def lB:Slot "set_iterator" "__iter__" "set_iterator.__iter__":=
 .of (owner:="set_iterator") (n:="__iter__") (by rw[abr,ZU];kernel_rfl) (by decide+kernel) (by decide+kernel) (by decide+kernel) (by first | exact .inl (by decide+kernel) | exact .inr (by decide+kernel)) (by rw[abO];kernel_rfl)
def xu:Manifest.owners.lookup (String.ofList ['r', 'o', 't', 'a', 'r', 'e', 't', 'i', '_', 't', 'e', 's'].reverse)=some Manifest.sig_set_iterator:=by kernel_rfl
def kl(a:Value):argsOk "set_iterator.__next__" ⟨[a],[]⟩:=by
 unfold argsOk;rw[signature?_of (id:="set_iterator.__next__") (n:=['_', '_', 't', 'x', 'e', 'n', '_', '_']) (o:=['r', 'o', 't', 'a', 'r', 'e', 't', 'i', '_', 't', 'e', 's']) (by kernel_rfl) xu]
 kernel_rfl
def tI(a:Value):argsOk "set_iterator.__iter__" ⟨[a],[]⟩:=by
 unfold argsOk;rw[signature?_of (id:="set_iterator.__iter__") (n:=['_', '_', 'r', 'e', 't', 'i', '_', '_']) (o:=['r', 'o', 't', 'a', 'r', 'e', 't', 'i', '_', 't', 'e', 's']) (by kernel_rfl) xu]
 kernel_rfl
def jC:entryFor table "set_iterator.__next__"=some X3.«set_iterator.__next__» :=entryFor_of_tree (by kernel_rfl)
def oE:entryFor table "set.__iter__"=some X3.«frozenset.__iter__» :=entryFor_alias (id':="frozenset.__iter__") (by kernel_rfl) rfl (by decide+kernel) (by kernel_rfl)
def qI:entryFor table "set_iterator.__iter__"=some X3.«dict_keyiterator.__iter__» :=entryFor_alias (id':="dict_keyiterator.__iter__") (by kernel_rfl) rfl (by decide+kernel) (by kernel_rfl)
def IsSI(h:Heap)(it a:Addr)(sl k n ep:Nat):Prop:=∃o,h.get? it=some o/\o.cls= .type "set_iterator"/\o.data= .fields #[Yg sl,Yg k, .ref a,Yg n,Yg ep]
def IsSI.typeIs{s:Vf}{it a:Addr}{sl k n ep:Nat}(x:IsSI s.heap it a sl k n ep):s.TypeIs (.ref it) "set_iterator":=let ⟨o,ho,hc,_⟩:=x;⟨o,ho,hc⟩
def IsSI.at{h h':Heap}{it a:Addr}{sl k n ep:Nat}(x:IsSI h it a sl k n ep)(e:∀o,h.get? it=some o->h'.get? it=some o):IsSI h' it a sl k n ep:=let ⟨o,ho,r⟩:=x;⟨o,e o ho,r⟩
def kY(w:World)(a:Addr)(ep:Nat)(es:Array (Int×Value)):Array (Int×Value):=if w.params.followText "set-order" then pickOrder (w.params.setOrder a ep) es else es
def gK(w:World)(t:Wo)(k:Nat):Nat:=if w.params.followText "set-order" then 0 else slotAt t.place k
section
variable{prog:VG}{w:World}{A:V2}{E:Value->Vf->Prop}{s:Vf}{a:Addr}{o:Obj}{es:Array (Int×Value)}{ep:Nat}{t:Wo}
def D8{Q:Value->Vf->Prop}(ho:s.heap.get? a=some o)(hex:o.ExactSet)(hd:o.data= .set es ep t)(ht:TabOk t es.size (kJ w))
 (hQ:Q (.ref s.heap.objs.size) {s with heap:=s.heap.push {cls:= .type "set_iterator",data:= .fields #[Yg 0,Yg 0, .ref a,Yg es.size,Yg ep]} }):wpAny (model prog w) A (ab1 (.ref a)) Q E s:=by
 have hT:s.TypeIs (.ref a) "set":=⟨o,ho,hex.1⟩
 have hf:=ht.fits;refine aaO hT F.slot_set_iter (Wx F.slot_set_iter hT oE ?_ (F.args_set_iter_1 _));unfold X3.«frozenset.__iter__» Builtin.Frozenset.slot0 slotArgs;simp only[aav,XY,VC,↓reduceIte,bind_assoc,V6,bne_self_eq_false];unfold Builtin.Frozenset.addrOf Builtin.Frozenset.sizeOf;refine U_ (Va ?_)
 try dsimp only
 refine U_ (Va ?_);refine U_ (U_ (aai ho hd hf (Va ?_)));unfold setDrawn setsByText;refine U_ (U_ (Wz ho hd hf (U_ (U_ (YN (Va (Va ?_)))))));refine Xx (λGW=>?_) λ_=>?_
 ·have MA:(!w.params.followText "set-order" &&(!t.plain&&decide (es.size>1)))=true:=GW;rw[ht.plain] at MA;simp at MA
 ·refine U_ (Va (U_ (wpAny_setEpoch_of ho hd hf ?_)));unfold newFields;exact U_ (Wg (Va ⟨_,rfl,"set_iterator",_,⟨_,Vq _ rfl,rfl⟩,df.lookup,hQ⟩))
def FC{it:Addr}{sl k n:Nat}{Q:Value->Vf->Prop}(hit:IsSI s.heap it a sl k n ep)(h:Q (.ref it) s):wpAny (model prog w) A (ab1 (.ref it)) Q E s:=by
 refine aaO hit.typeIs lB (Wx lB hit.typeIs qI ?_ (tI _));show wpAny _ _ (ret (.ref it)) _ _ s;exact Va ⟨_,rfl,"set_iterator",_,hit.typeIs,df.lookup,h⟩
def qe{k:Nat}{Q:Option (Value×Nat)->Vf->Prop}(ho:s.heap.get? a=some o)(hd:o.data= .set es ep t)(ht:TabOk t es.size (kJ w))(hk:k<=es.size)
 (h:Q ((kY w a ep es)[k]?.map λe=>(e.2,gK w t (k+1))) s):wpAny (model prog w) A (setNext a (gK w t k) k ep) Q E s:=by
 have hf:=ht.fits;unfold setNext setsByText;refine U_ (Wz ho hd hf (U_ (U_ (YN (Va ?_)))));have hl:=ht.led;unfold kY gK at h;unfold gK;unfold kJ at hl;refine Xx (λhb=>?_) λhb=>?_
 ·have hb:w.params.followText "set-order"=true:=hb;rw[acI hb,acI hb] at h
  dsimp only
  rw[bne_self_eq_false,acJ (by decide),acI hb];unfold setWalk setsByText;refine U_ (U_ (Wz ho hd hf (U_ (U_ (YN (Va ?_))))));refine Xx (λ_=>?_) λoP=>acK hb oP;exact U_ (YN (Va (Va h)))
 ·have hb:¬w.params.followText "set-order"=true:=hb;have ub:w.params.followText "set-order"=false:=by simpa using hb
  rw[acJ hb,acJ hb] at h;rw[ub] at hl
  dsimp only
  refine Xx (λS5=>?_) λ_=>?_
  ·have MJ:(!t.plain&&decide (es.size>1))=true:=S5;rw[ht.plain] at MJ;simp at MJ
  ·refine U_ (ZC (a:=()) ?_ ?_)
   ·show (if (!t.led&& !es.isEmpty)=true then(unsupported "set:maker-not-led":Sem Unit) else pure ())=_;rw[hl];rfl
   ·rw[acJ hb,below_at ht.rise (by rw[ht.size];exact hk)];refine Va ?_;by_cases cN:k<es.size
    ·have h1:es[k]? =some es[k]:=Vu cN;have h2:t.place[k]? =some (t.place[k]'(by rw[ht.size];exact cN)):=Vu (by rw[ht.size];exact cN);have h3:slotAt t.place (k+1)=t.place[k]'(by rw[ht.size];exact cN)+1:=by
      show t.place.getD k 0+1=_;rw[Vv,h2];rfl
     rw[h1,h2];rw[h1,h3] at h;exact h
    ·have h1:es[k]? =none:=Yu (by omega);rw[h1];rw[h1] at h;exact h
def sP{α:Type}(next:Nat->Nat):∀(fuel k:Nat) (left:List α) (out:Array α),left.length=fuel->(acB next fuel k left out).toList.Perm (out.toList++left)
 |0,k,left,out,h=>by
  rw[Yn.mp h,V7];exact .refl _
 |fuel+1,k,left,out,h=>by
  unfold acB;have hi:next k % left.length<left.length:=abh _ (by omega);rw[Vg hi]
  dsimp only
  refine(sP next fuel (k+1) _ _ (by rw[List.length_eraseIdx_of_lt hi];omega)).trans ?_;rw[acy,W6];refine List.Perm.append_left _ ?_;rw[List.eraseIdx_eq_take_drop_succ];have hp:=(aat (a:=left[next k % left.length]) (l₁:=left.take (next k % left.length)) (l₂:=left.drop (next k % left.length+1))).symm;rw[<-X4 hi,YC] at hp;exact hp
def iS(w:World)(a:Addr)(ep:Nat)(es:Array (Int×Value)):(kY w a ep es).toList.Perm es.toList:=by
 unfold kY;split
 ·exact(sP _ es.size 0 es.toList #[] (Vh ..)).trans (by simp)
 ·exact .refl _
def Et{it:Addr}{k:Nat}{e:Int×Value}{Q:Option Value->Vf->Prop}(hit:IsSI s.heap it a (gK w t k) k es.size ep)(gh:a≠it)(ho:s.heap.get? a=some o)(hd:o.data= .set es ep t)(ht:TabOk t es.size (kJ w))(hx:(kY w a ep es)[k]? =some e)
 (hQ:∀h',IsSI h' it a (gK w t (k+1)) (k+1) es.size ep->WQ it s.heap h'->Q (some e.2) {s with heap:=h'}):wpAny (model prog w) A (YM (.ref it)) Q E s:=by
 have hsz:(kY w a ep es).size=es.size:=by rw[<-Vh,(iS w a ep es).length_eq,Vh]
 have cN:k<es.size:=by rw[<-hsz];exact(V8.mp hx).1
 obtain⟨oi,LW,Rv,J2⟩:=id hit;unfold YM;refine U_ (aaz (Xa (name:=V0 "__next__") hit.typeIs df (Wx df hit.typeIs jC ?_ (kl _))));unfold X3.«set_iterator.__next__» slotArgs;simp only[aav,XY,VC,↓reduceIte,bind_assoc,V6,bne_self_eq_false];refine U_ (Va (U_ (aad LW J2 ?_)));simp only[Yg];refine U_ (aai ho hd ht.fits ?_);rw[acJ (by simp)];simp only[Zc];refine U_ (qe ho hd ht (W4 cN) ?_);rw[hx];show wpAny _ _ (acg (.ref it) 0 (Yg ((gK w t (k+1):Nat):Int))>>=_) _ _ s;refine U_ (Zi LW J2 (by simp) ?_);have h1:(s.heap.update it (Z9 (·.setIfInBounds 0 (Yg ((gK w t (k+1):Nat):Int))))).get? it=some (Z9 (·.setIfInBounds 0 (Yg ((gK w t (k+1):Nat):Int))) oi):=Wb _ LW (ZF (XI J2 _));have d1:=XI J2 (·.setIfInBounds 0 (Yg ((gK w t (k+1):Nat):Int)));show wpAny _ _ (acg (.ref it) 1 (Yg ((k:Int)+1))>>=_) _ _ _;refine U_ (Zi h1 d1 (by simp) ?_);refine Va ⟨_,rfl,Va (hQ _ ⟨_,Wb _ h1 (ZF (XI d1 _)),(aam ..).trans ((aam ..).trans Rv),?_⟩ ((VT ..).trans (VT ..)))⟩;rw[XI d1];simp[Yg]
def GI{it:Addr}{Q:Option Value->Vf->Prop}(hh:A.handled=none)(hit:IsSI s.heap it a (gK w t es.size) es.size es.size ep)(ho:s.heap.get? a=some o)(hd:o.data= .set es ep t)(ht:TabOk t es.size (kJ w))
 (hQ:∀h',ab9 it s.heap h'->Q none {s with heap:=h'}):wpAny (model prog w) A (YM (.ref it)) Q E s:=by
 have hsz:(kY w a ep es).size=es.size:=by rw[<-Vh,(iS w a ep es).length_eq,Vh]
 obtain⟨oi,LW,Rv,J2⟩:=id hit;unfold YM;refine U_ (aaz (Xa (name:=V0 "__next__") hit.typeIs df (Wx df hit.typeIs jC ?_ (kl _))));unfold X3.«set_iterator.__next__» slotArgs;simp only[aav,XY,VC,↓reduceIte,bind_assoc,V6,bne_self_eq_false];refine U_ (Va (U_ (aad LW J2 ?_)));simp only[Yg];refine U_ (aai ho hd ht.fits ?_);rw[acJ (by simp)];simp only[Zc];refine U_ (qe ho hd ht (Vj _) ?_);rw[Yu (aar hsz)];show wpAny _ _ (acg (.ref it) 2 .none>>=_) _ _ s;refine U_ (Zi LW J2 (by simp) ?_);refine U_ ?_;simp only[newExc,newTuple];refine U_ (Wg ?_ (by size_fits));refine U_ (m:=aaf _ _) (ZC (a:=Wi) (by first | rfl | (simp only[aaf];rfl)) ?_);refine Wg ?_ (by size_fits);simp only[raiseNew];refine U_ (wpAny_handled ?_);rw[show A.in1.handled=none from hh];refine U_ (Va (wpAny_throw ?_));refine U_ (ZJ (T:="StopIteration") (b:=true) ⟨_,Vq _ rfl,rfl⟩ isSubtype_stop ?_);exact Va (hQ _ (((VT ..).extBut.push _).push _))
def Me(w:World)(a:Addr)(ep:Nat)(es:Array (Int×Value)):Nat->Value->Prop:=λi v=>∃e,(kY w a ep es)[i]? =some e/\v=e.2
def CF(hh:A.handled=none)(I a:Addr)(gh:a≠I)(hd:o.data= .set es ep t)(ht:TabOk t es.size (kJ w)):
 Walks prog w A I [I,a] [I] es.size (Me w a ep es) (λi h=>IsSI h I a (gK w t i) i es.size ep/\h.get? a=some o) where
 sub:=λb hb=>by simp at hb;simp[hb]
 frame:=λ_ _ _ st hk=>⟨st.1.at λo e=>hk I (by simp) o e,hk a (by simp) _ st.2⟩
 item:=λi s Q E hi st hQ=>by
  have hsz:(kY w a ep es).size=es.size:=by rw[<-Vh,(iS w a ep es).length_eq,Vh]
  have hx:(kY w a ep es)[i]? =some ((kY w a ep es)[i]'(by omega)):=Vu (by omega);exact Et st.1 gh st.2 hd ht hx λh' Bz wH=>hQ _ h' s.toks ⟨_,hx,rfl⟩ ⟨Bz,(wH.2 a gh).trans st.2⟩ λb o hb e=>wH.extBut b o (λh=>hb (by simp[h])) e
 done:=λs Q E st hQ=>GI hh st.1 st.2 hd ht λh' Pn=>hQ h' s.toks λb o hb e=>Pn b o (λh=>hb (by simp[h])) e
 self:=λ_ _ _ _ st hQ=>FC st.1 hQ
def DP{Q:Bool->Vf->Prop}(hT:s.TypeIs (.ref a) "set")(h:Q false s):wpAny (model prog w) A (ZP (.ref a)) Q E s:=by
 unfold ZP;refine U_ (YZ hT F.slot_set_len.lookup ?_);generalize Pt:("set.__len__":String)=Uk
 wp_delta
 rw[show splitId Uk=some ("set","__len__") from by subst Pt;decide+kernel];subst Pt;refine U_ (ZJ (T:="set") (b:=true) hT (by rw[abO];kernel_rfl) ?_);refine Xx (λGW=>acK GW (by decide)) λ_=>Xx (λ_=>U_ (Yr hT (Va h))) λGW=>acK (by decide+kernel) GW
def Iq{a:Addr}(hex:o.ExactSet)(hd:o.data= .set es ep t)(ht:TabOk t es.size (kJ w)):KdlSrc prog w "set" a a es.size (Me w a ep es) (λh=>h.get? a=some o) where
 type:=λ_ hm=>⟨o,hm,hex.1⟩
 there:=λ_ hm=>⟨Vr hm,Vr hm⟩
 keep:=λ_ _ hm hk=>hk a (.inl rfl) o hm
 notList:=by decide
 notTuple:=by decide
 hint:=λ_ _ s _ hm hq=>DP ⟨o,hm,hex.1⟩ hq
 iter:=λ_ _ hh hm=>⟨_,_,(λ_ _ hq=>D8 hm hex hd ht hq),CF hh _ a (VH (Vr hm)) hd ht,⟨⟨_,Vq _ rfl,rfl,by unfold gK;split<;>rfl⟩,Vd _ hm⟩⟩
end
end L3
namespace L3
open PySem PySem.Spec L2 SeqAt HT
open PyProof.Rows hiding St
section
variable{X:Cx}{e:Expr}
def zM{f8:List (Addr×Obj)}{σ:St}{H:Hp}{s:Vf}{Q:VK}(I:Inv X f8 σ H s)(hc:X.calm=true){S:Addr}{ws:List V}{ks:List (List Int)}(hr:cj H ws ks)(hk:eJ ks=true)
 (hS:CO (kJ X.w) s.heap S (LY X.prog X.w (λi=>ks.getD i []) (λi=>A5 (ws.getD i .non)) ks.length))
 (q:∀(q:Addr) (us:List V),H q=none->cj H us (sortI ks)->Q (.ref q) (upd H q (.lst us))):wpAny (model X.prog X.w) X.A (call (.builtin "sorted") [.ref S]) (EP X f8 σ Q) X.xe s:=by
 obtain⟨o,es,ep,t,ho,hex,wF,hp,ht⟩:=hS;unfold eJ at hk;rw[VA,VA] at hk;have hd:ks.Nodup:=acO hk.1.1;have Gg:ks.length<64:=acO hk.1.2;have gh:∀k∈ks,k≠[]:=λk rT z=>by have:=Wu.mp hk.2 k rT;rw[z] at this;cases this
 have OC:es.size=ks.length:=by rw[<-Vh,hp.length_eq];unfold LY;rw[Vb,We]
 have CL:VB=16777216:=Xe;have yX:=iZ hr;refine aa0 kind_sorted plain_sorted entry_sorted (args_sorted1 _) ?_;unfold X3.«sorted»;refine U_ (m:=checkCount "sorted" 1 1 _) (Va (U_ (abz (A:=X.A.in1) (Iq hex wF ht) (I.ok.hd hc) ho (by rw[OC,CL];omega) λh1 tk u8 Ea qK=>?_)));have I1:Inv X f8 σ H {s with heap:=h1,toks:=tk}:=I.kept (t':=tk) λb ob e=>Ea b ob e;obtain⟨js,Pz,Sq⟩:∃js:List Nat,js.Perm (Vw ks.length)/\u8.toList=js.map λj=>VQ (A5 (ws.getD j .non)):=by
  have e1:u8.toList=(kY X.w S ep es).toList.map (·.2):=by
   have hsz:(kY X.w S ep es).size=es.size:=by rw[<-Vh,(iS X.w S ep es).length_eq,Vh]
   refine acG λi=>?_;rw[Vz];by_cases hi:i<es.size
   ·have ha:u8[i]? =some (u8[i]'(by rw[qK.1];exact hi)):=Vu (by rw[qK.1];exact hi);obtain⟨e,q1,q2⟩:=qK.2 i _ ha;rw[Wq,Wq,q1,ha,q2];rfl
   ·rw[XO (by rw[Vh,qK.1];omega),XO (by rw[Vh];omega)];rfl
  have e2:((kY X.w S ep es).toList.map (·.2)).Perm ((Vw ks.length).map λj=>VQ (A5 (ws.getD j .non))):=by
   have:=(((iS X.w S ep es).trans hp).map (·.2))
   unfold LY at this;rw[VX] at this;exact this
  rw[<-e1] at e2;have lift:∀(l:List Value) (r:List Nat),l.Perm (r.map λj=>VQ (A5 (ws.getD j .non)))->∃js:List Nat,js.Perm r/\l=js.map λj=>VQ (A5 (ws.getD j .non)):=by
   intro l;induction l with
   |nil=>
    intro r h;have:=List.Perm.eq_nil h.symm;exact⟨[],by rw[ab5.mp this],rfl⟩
   |cons v l ih=>
    intro r h;obtain⟨j,hj,ej⟩:=Vp.mp (h.mem_iff.mp (Ve ..));obtain⟨r1,r2,rfl⟩:=List.append_of_mem hj;have h':l.Perm ((r1++r2).map λj=>VQ (A5 (ws.getD j .non))):=by
     have h1:=h;rw[WA,Vi,<-ej] at h1;rw[WA];exact List.Perm.cons_inv (h1.trans (by rw[ej];exact aat))
    obtain⟨js,k1,k2⟩:=ih _ h';exact⟨j::js,(k1.cons j).trans aat.symm,by rw[Vi,<-k2,ej]⟩
  exact lift _ _ e2
 have UT:js.length=ks.length:=by rw[Pz.length_eq,We]
 have nR:∀j∈js,j<ks.length:=λj hj=>V5.mp (Pz.mem_iff.mp hj);have G2:cj H (js.map λi=>ws.getD i .non) (js.map λi=>ks.getD i []):=gG hr λi hi=>by rw[yX];exact nR i hi
 have rv:Vals (js.map λi=>ws.getD i .non) u8.toList:=by
  rw[Sq];refine qr (by simp) λi v u e1 e2=>?_;rw[Vz] at e1 e2;cases hj:js[i]? with
  |none=>rw[hj] at e1;cases e1
  |some j=>
   rw[hj] at e1 e2;cases e1;cases e2;obtain⟨a,e3,_⟩:=lr hr (i:=j) (by rw[yX];exact nR j (VY hj));show RelV (ws.getD j .non) (.ref (A5 (ws.getD j .non)));rw[e3];rfl
 have DU:(js.map λi=>ks.getD i []).Perm ks:=by
  have h1:=Pz.map λi=>ks.getD i [];have h2:(Vw ks.length).map (λi=>ks.getD i [])=ks:=by
   refine aax (by simp) λi h1 h2=>?_;rw[Xj,acs,VN,Vg h2];rfl
  rwa [h2] at h1
 generalize U6:(js.map λi=>ws.getD i .non)=vs' at G2 rv;generalize GZ:(js.map λi=>ks.getD i [])=ks' at G2 DU;have nQ:ks'.Nodup:=DU.nodup_iff.mpr hd;have M_:sortI ks'=sortI ks:=lu (fO nQ) (fO hd) λx=>by rw[dJ,dJ];exact DU.mem_iff
 have Jb:=iZ G2;have UU:=rv.length;have UW:=DU.length_eq;have T7:=l9 I1 G2 rv λk rT=>gh k (DU.mem_iff.mp rT);refine U_ (acb ?_ (by rw[CL];omega));have Ka:(h1.push (X2 "list" u8.toList.toArray 0)).get? h1.objs.size=some (X2 "list" u8.toList.toArray 0):=Vq _ rfl;refine U_ (Wf (Wx slot_list_sort ⟨_,Ka,rfl⟩ entry_list_sort (tm (s:={s with heap:=h1.push (X2 "list" u8.toList.toArray 0),toks:=tk}) Ka
  (T7.keep (a:=h1.objs.size) (λb o _ e=>Vd _ e) (λo e=>acK (Vr e) (Wc _))) nQ (by omega) λP h' c' hP hR Bx DQ=>?_) (args_list_sort _)))
 have LQ:∀i∈P.toList,i<vs'.length:=λi hi=>by
  obtain⟨j,hj,rfl⟩:=Wk.mp hi;have h':j<P.size:=by rw[Vh] at hj;exact hj
  have:=hP.lt j (by rw[hP.sz] at h';exact h');rw[eA,Vu h'] at this;have e:P.toList[j]=P[j]:=by simp
  rw[e];have:P[j]<u8.toList.length:=this;omega
 have MB:u8.toList.length=ks'.length:=by omega
 have Pa:PN ks'.length P:=by rw[<-MB];exact hP
 have Pb:Ri (λi j=>d_ (ks'.getD i []) (ks'.getD j [])) P ks'.length:=by rw[<-MB];exact hR
 have LX:=tq nQ Pa Pb;have Nc:=gG G2 LQ;rw[LX,M_] at Nc;refine⟨_,rfl,Va ⟨_,rfl,⟨.ref h1.objs.size,_,I1.laid (a:=h1.objs.size) (t':=tk) (o:= .lst (P.toList.map λi=>vs'.getD i .non)) (λb ob e=>DQ b ob (VH (Vr e)) (Vd _ e)) (Vj _) ?_,rfl,q _ _ (I1.hok.fresh (Vj _)) Nc⟩⟩⟩;exact⟨by rw[Vb,Vh,hP.sz,CL];omega,_,c',mr rv LQ,Bx⟩
end
end L3
namespace L3
open PySem PySem.Spec L2 HT
open PyProof.Rows hiding St
end L3
namespace L3
open PySem PySem.Spec L2
open PyProof.Rows hiding St
section
end
end L3
namespace L3
open PySem PySem.Spec L2 SeqAt HT
open PyProof.Rows hiding St
section
end
section
variable{a:Expr}
end
end L3
namespace L3
open PySem PySem.Spec L2 HT
open PyProof.Rows hiding St
section
end
end L3
namespace L3
open PySem PySem.Spec L2 SeqAt HT
open PyProof.Rows hiding St
abbrev UL:=List (Key×List Key)
def Q4(ρ:aQ):Bool:=ρ.all λx=>match x with | some (.ow _)=>false | _=>true
end L3
namespace L3
open PySem PySem.SetTable
def tM(m:Nat):Wo:={mask:=m,place:= #[],dummies:= #[],finger:=0,led:=false,moves:=0,plain:=true}
def IG(t:Wo):∀(n:Nat) (p:Probe),lO t n p=lO (tM t.mask) n p
 |0,_=>rfl
 |n+1,p=>IG t n _
def pos(m:Nat)(h:Int)(n:Nat):Nat:=(lO (tM m) n ((tM m).probeStart h)).j
def AS(t:Wo)(h:Int)(n:Nat):(lO t n (t.probeStart h)).j=pos t.mask h n:=by rw[IG];rfl
def RchZ(m:Nat)(Z:List (Nat×Int)):Prop:=∀x∈Z,∃n,n<10*turns m/\pos m x.2 n=x.1/\∀n',n'<n->∃h',(pos m x.2 n',h')∈Z
def qS(t:Wo)(es:Array (Int×Value)):List (Nat×Int):=t.place.toList.zip (es.toList.map (·.1))
def slot_of{t:Wo}(hs:t.place.toList.Pairwise (· < ·)){i j:Nat}(h:t.place[i]? =some j):t.slot j= .live i:=by
 obtain⟨hi,e⟩:=V8.mp h;obtain⟨h1,h2,h3⟩:=kq hs j;have a1:below t.place j<=i:=by
  apply WL;intro z;have:=h2 i hi (by omega);omega
 have a2:below t.place j=i:=by
  apply WL;intro z;have hb:below t.place j<t.place.size:=by omega
  have m1:=h3 _ hb (Vj _);have m2:=Wj.mp hs (below t.place j) i (by simpa using hb) (by simpa using hi) (by omega);have m2:t.place[below t.place j]<t.place[i]:=by simpa using m2
  omega
 unfold slot
 dsimp only
 rw[a2,h,beq_self_eq_true,acI rfl]
def xk{t:Wo}{es:Array (Int×Value)}(hs:t.place.toList.Pairwise (· < ·)){j:Nat}{h:Int}(hx:(j,h)∈qS t es):∃i e,t.slot j= .live i/\es[i]? =some e/\e.1=h:=by
 obtain⟨i,hi,e⟩:=Wk.mp hx;unfold qS at hi e;rw[Ym,Vb,Vh,Vh] at hi;rw[aaw,Yc] at e;have h1:i<t.place.size:=by omega
 have h2:i<es.size:=by omega
 refine⟨i,es[i],slot_of hs ?_,Vu h2,?_⟩
 ·rw[Vu h1];exact acP some (by simpa using e.1)
 ·simpa using e.2
def FG{t:Wo}{es:Array (Int×Value)}(hd:t.dummies= #[])(hz:t.place.size=es.size){j:Nat}(h:t.slot j≠ .empty):∃x,(j,x)∈qS t es:=by
 cases hs:t.slot j with
 |empty=>exact acK hs h
 |dummy=>exact acK hs (fk hd j)
 |live i=>
  obtain⟨hi,e⟩:=V8.mp (jt hs);have h2:i<es.size:=by omega
  refine⟨es[i].1,Wk.mpr ⟨i,by unfold qS;rw[Ym,Vb,Vh,Vh];omega,?_⟩⟩;unfold qS;rw[aaw,Yc];exact⟨by simpa using e,by simp⟩
def DH{t:Wo}{hashAt:Nat->Int}{h:Int}(hd:∀j,t.slot j≠ .dummy)(hh:∀j i,t.slot j= .live i->(hashAt i==h)=false):
 ∀(n fuel:Nat) (p:Probe),n<fuel->p.dummy=none->t.slot (lO t n p).j= .empty->∃n0,n0<=n/\probe.go t hashAt h fuel p=some (.empty (lO t n0 p).j none)/\t.slot (lO t n0 p).j= .empty/\∀n',n'<n0->t.slot (lO t n' p).j≠ .empty
 |n,0,p,hn,_,_=>acK hn (by omega)
 |n,fuel+1,p,hn,hp,he=>by
  unfold probe.go;cases hs:t.slot p.j with
  |empty=>exact⟨0,V1 _,by rw[hp];rfl,hs,λn' h'=>acK h' (by omega)⟩
  |dummy=>exact acK hs (hd _)
  |live i=>
   dsimp only
   rw[hh p.j i hs];cases n with
   |zero=>rw[show (lO t 0 p).j=p.j from rfl,hs] at he;cases he
   |succ n=>
    obtain⟨n0,a1,a2,a3,a4⟩:=DH hd hh n fuel (t.advance p) (by omega) (by rw[rm];exact hp) he;refine⟨n0+1,by omega,by simp only[VC,if_false];exact a2,a3,λn' h'=>?_⟩;cases n' with
    |zero=>intro z;rw[show (lO t 0 p).j=p.j from rfl,hs] at z;cases z
    |succ n'=>exact a4 n' (by omega)
def DI{t:Wo}{hashAt:Nat->Int}{h:Int}(hd:∀j,t.slot j≠ .dummy):
 ∀(n fuel:Nat) (p:Probe),n<fuel->(∀n',n'<n->t.slot (lO t n' p).j≠ .empty)->(∃i,t.slot (lO t n p).j= .live i/\hashAt i=h)->∃j i nx,probe.go t hashAt h fuel p=some (.candidate j i nx)/\t.slot j= .live i/\hashAt i=h
 |n,0,p,hn,_,_=>acK hn (by omega)
 |n,fuel+1,p,hn,hp,he=>by
  unfold probe.go;cases hs:t.slot p.j with
  |empty=>
   cases n with
   |zero=>obtain⟨i,e,_⟩:=he;rw[show (lO t 0 p).j=p.j from rfl,hs] at e;cases e
   |succ n=>exact acK hs (hp 0 (by omega))
  |dummy=>exact acK hs (hd _)
  |live i=>
   dsimp only
   by_cases hi:hashAt i=h
   ·exact⟨p.j,i,_,by rw[acI (by rw[hi];exact beq_self_eq_true _)],hs,hi⟩
   ·rw[acJ (by simpa using hi)];cases n with
    |zero=>
     obtain⟨i',e,e'⟩:=he;rw[show (lO t 0 p).j=p.j from rfl,hs] at e;cases e;exact acK e' hi
    |succ n=>exact DI hd n fuel (t.advance p) (by omega) (λn' h'=>hp (n'+1) (by omega)) he
def Cg{t:Wo}{es:Array (Int×Value)}{hashAt:Nat->Int}{h:Int}(hm:Ga t.mask)(hd:t.dummies= #[])(hz:t.place.size=es.size)(hp:t.place.size<=t.mask)(hh:∀i,i<t.place.size->(hashAt i==h)=false):
 ∃j,t.probe hashAt h (t.probeStart h)=some (.empty j none)/\t.slot j= .empty/\∃n,n<10*turns t.mask/\pos t.mask h n=j/\∀n',n'<n->∃x,(pos t.mask h n',x)∈qS t es:=by
 obtain⟨j,hj,he⟩:=zL hd hp;obtain⟨k,hk,e⟩:=reach hm (Af h) hj;obtain⟨n,hn,ea⟩:=CT (t:=t) (h:=h) k;obtain⟨n0,a1,a2,a3,a4⟩:=DH (t:=t) (hashAt:=hashAt) (h:=h) (fk hd) (λj i hs=>hh i (V8.mp (jt hs)).1) n (10*turns t.mask) (t.probeStart h) (by unfold turns;omega) rfl (by rw[ea];show t.slot (iK t.mask (bits h) k).1=_;rw[e];exact he);refine⟨_,a2,a3,n0,by unfold turns;omega,(AS t h n0).symm,λn' h'=>FG hd hz ?_⟩;rw[<-AS];exact a4 n' h'
def Ci{t:Wo}{es:Array (Int×Value)}{h:Int}(hd:t.dummies= #[])(hz:t.place.size=es.size)(hs:t.place.toList.Pairwise (· < ·))(hr:RchZ t.mask (qS t es)){j0:Nat}(hx:(j0,h)∈qS t es):
 ∃j i nx,t.probe (λi=>(es[i]?.map (·.1)).getD 0) h (t.probeStart h)=some (.candidate j i nx)/\∃e,es[i]? =some e/\e.1=h:=by
 obtain⟨n,a1,a2,a3⟩:=hr _ hx;obtain⟨i0,e0,b1,b2,b3⟩:=xk hs hx;have ne:∀n',n'<n->t.slot (lO t n' (t.probeStart h)).j≠ .empty:=λn' h'=>by
  obtain⟨x,BE⟩:=a3 n' h';obtain⟨i,e,c1,_⟩:=xk hs BE;rw[AS,c1];exact λz=>by cases z
 obtain⟨j,i,nx,c1,c2,c3⟩:=DI (t:=t) (hashAt:=λi=>(es[i]?.map (·.1)).getD 0) (h:=h) (fk hd) n (10*turns t.mask) (t.probeStart h) a1 ne ⟨i0,by rw[AS];exact(show pos t.mask h n=j0 from a2)▸b1,by show (es[i0]?.map (·.1)).getD 0=h;rw[b2];exact b3⟩;have hi:i<es.size:=hz▸(V8.mp (jt c2)).1;refine⟨j,i,nx,c1,es[i],Vu hi,?_⟩;have c3:(es[i]?.map (·.1)).getD 0=h:=c3;rw[Vu hi] at c3;exact c3
def RchZ.put{m:Nat}{Z Z':List (Nat×Int)}{j:Nat}{h:Int}(r:RchZ m Z)(hz:∀x,x∈Z'↔x=(j,h)\/x∈Z)(hn:∃n,n<10*turns m/\pos m h n=j/\∀n',n'<n->∃x,(pos m h n',x)∈Z):RchZ m Z':=λx hx=>by
 rcases(hz x).mp hx with rfl | hx
 ·obtain⟨n,a1,a2,a3⟩:=hn;exact⟨n,a1,a2,λn' h'=>let ⟨y,hy⟩:=a3 n' h';⟨y,(hz _).mpr (.inr hy)⟩⟩
 ·obtain⟨n,a1,a2,a3⟩:=r x hx;exact⟨n,a1,a2,λn' h'=>let ⟨y,hy⟩:=a3 n' h';⟨y,(hz _).mpr (.inr hy)⟩⟩
def Hn{t t':Wo}{es:Array (Int×Value)}{p j:Nat}{e:Int×Value}(hz:t.place.size=es.size)(h:t'.place=insertAt t.place p j)(x:Nat×Int):x∈qS t' (insertAt es p e)↔x=(j,e.1)\/x∈qS t es:=by
 unfold qS;rw[h,toList_insertAt,toList_insertAt,WA,Vi,List.map_take,List.map_drop];have hl:t.place.toList.length=(es.toList.map (·.1)).length:=by rw[Vb,Vh,Vh,hz]
 generalize t.place.toList=a at hl;generalize es.toList.map (·.1)=b at hl;have yW:(a.take p).length=(b.take p).length:=by rw[Xi,Xi,hl]
 have e2:a.zip b=(a.take p).zip (b.take p)++(a.drop p).zip (b.drop p):=by
  rw[<-Zx yW,YC,YC]
 rw[Zx yW,WD,e2];simp only[V3,Vo];constructor
 ·rintro(h | h | h)
  ·exact .inr (.inl h)
  ·exact .inl h
  ·exact .inr (.inr h)
 ·rintro(h | h | h)
  ·exact .inr (.inl h)
  ·exact .inl h
  ·exact .inr (.inr h)
def Jz(m:Nat)(o:Array (Option Nat))(x:Nat):Prop:=∃k,o.getD x none=some k
def EC{m:Nat}{o:Array (Option Nat)}{x:Nat}(hs:o.size=m+1)(hx:x<m+1)(h:¬(o.getD x (some 0)).isNone=true):Jz m o x:=by
 rw[Vv,Vu (by omega),Zb] at h;unfold Jz;rw[Vv,Vu (by omega),Zb];cases e:o[x] with
 |none=>rw[e] at h;exact acK rfl h
 |some k=>exact⟨k,rfl⟩
def Co{m i:Nat}(h:i<m+1):runEnd m i<m+1:=by
 unfold runEnd;split<;>omega
def zF{m:Nat}{h:Int}{n0 k q:Nat}(e:lO (tM m) n0 ((tM m).probeStart h)=sK m h k)(hq:q<=runEnd m (iK m (bits h) k).1 - (iK m (bits h) k).1):pos m h (n0+q)=(iK m (bits h) k).1+q:=by
 unfold pos;rw[kj,e,yy (tM m) q (sK m h k) hq];rfl
def rP{m:Nat}{o:Array (Option Nat)}(hs:o.size=m+1){h:Int}{j:Nat}:∀(fuel k n0:Nat),layClean.free m o fuel (iK m (bits h) k).1 (iK m (bits h) k).2=some j->n0<=10*k->lO (tM m) n0 ((tM m).probeStart h)=sK m h k->(∀n',n'<n0->Jz m o (pos m h n'))->
 (o.getD j (some 0)).isNone=true/\∃n1,n1<10*(k+fuel)/\pos m h n1=j/\∀n',n'<n1->Jz m o (pos m h n')
 |0,k,n0,e,_,_,_=>by unfold layClean.free at e;cases e
 |fuel+1,k,n0,e,h0,ha,ho=>by
  have cN:=Jf m (bits h) k;have U4:=Co cN;have h9:=Fx m (iK m (bits h) k).1;unfold layClean.free at e;cases hf:(Vw (runEnd m (iK m (bits h) k).1+1 - (iK m (bits h) k).1)).find? λq=>(o.getD ((iK m (bits h) k).1+q) (some 0)).isNone with
  |some q=>
   rw[hf] at e;have e:(iK m (bits h) k).1+q=j:=VO e;obtain⟨b1,b2,b3⟩:=List.find?_range_eq_some.mp hf;have b2:=V5.mp b2;refine⟨e▸b1,n0+q,by omega,by rw[zF ha (by omega)];exact e,λn' h'=>?_⟩;by_cases hn:n'<n0
   ·exact ho n' hn
   ·obtain⟨q',rfl⟩:∃q',n'=n0+q':=⟨n' - n0,by omega⟩
    rw[zF ha (by omega)];refine EC hs (by omega) ?_;have:=b3 q' (by omega);intro z;rw[z] at this;cases this
  |none=>
   rw[hf] at e;have Bu:=acu.mp hf;have:=rP hs fuel (k+1) (n0+((sK m h k).more+1)) e (by show n0+(runEnd m (iK m (bits h) k).1 - (iK m (bits h) k).1+1)<=_;omega) (by rw[kj,ha];exact vP (t:=tM m)) λn' h'=>by
    by_cases hn:n'<n0
    ·exact ho n' hn
    ·obtain⟨q',rfl⟩:∃q',n'=n0+q':=⟨n' - n0,by omega⟩
     have h':n0+q'<n0+(runEnd m (iK m (bits h) k).1 - (iK m (bits h) k).1+1):=h';rw[zF ha (by omega)];have US:(iK m (bits h) k).1<=runEnd m (iK m (bits h) k).1:=by unfold runEnd;split<;>omega
     exact EC hs (by omega) (Bu q' (V5.mpr (by omega)))
   obtain⟨c0,n1,c1,c2⟩:=this;exact⟨c0,n1,by omega,c2⟩
def n4(m:Nat)(hs:List Int)(o:Array (Option Nat)):Prop:=∀j k,o.getD j none=some k->∃h,hs[k]? =some h/\∃n,n<10*turns m/\pos m h n=j/\∀n',n'<n->Jz m o (pos m h n')
def Hd{m:Nat}{o:Array (Option Nat)}{hs:List Int}{h:Int}{j:Nat}(hz:o.size=m+1)(L:n4 m hs o)(e:layClean.free m o (turns m) (bits h % (m+1)) (bits h)=some j):n4 m (hs++[h]) (o.setIfInBounds j (some hs.length)):=by
 obtain⟨h0,n1,a1,a2,a3⟩:=rP hz (turns m) 0 0 e (Vj _) rfl λn' h'=>acK h' (by omega);obtain⟨cN,Bx⟩:=oZ h0;have self:(o.setIfInBounds j (some hs.length)).getD j none=some hs.length:=by rw[Vv,Zw cN];rfl
 have L7:∀x,x≠j->(o.setIfInBounds j (some hs.length)).getD x none=o.getD x none:=λx hx=>by
  rw[Vv,Vv,aac (λz=>hx z.symm)]
 have mono:∀x,Jz m o x->Jz m (o.setIfInBounds j (some hs.length)) x:=λx ⟨k,hk⟩=>by
  by_cases hx:x=j
  ·subst hx;exact⟨_,self⟩
  ·exact⟨k,(L7 x hx).trans hk⟩
 intro x k hk;by_cases hx:x=j
 ·subst hx;rw[self] at hk;cases hk;exact⟨h,by simp,n1,by omega,a2,λn' h'=>mono _ (a3 n' h')⟩
 ·rw[L7 x hx] at hk;obtain⟨h',b1,n,b2,b3,b4⟩:=L x k hk;exact⟨h',by rw[VZ (Vt.mp b1).1];exact b1,n,b2,b3,λn' h'=>mono _ (b4 n' h')⟩
def rM{α β:Type}(f:Option α->β->Option α)(hf:∀b,f none b=none):∀l:List β,l.foldl f none=none
 |[]=>rfl
 |b::l=>by rw[Xp,hf];exact rM f hf l
def AB{m:Nat}:∀(P3 pre:List Int) (o:Array (Option Nat)) (r:Array (Option Nat)×Nat),(P3.foldl (init:=some (o,pre.length)) λu8 h=>do
 let (owner,k)<-u8
 let j<-layClean.free m owner (turns m) (bits h % (m+1)) (bits h)
 pure (owner.setIfInBounds j (some k),k+1))=some r->o.size=m+1->n4 m pre o->n4 m (pre++P3) r.1/\r.1.size=m+1
 |[],pre,o,r,e,hz,L=>by
  cases e;rw[V7];exact⟨L,hz⟩
 |h::P3,pre,o,r,e,hz,L=>by
  rw[Xp] at e;cases ej:layClean.free m o (turns m) (bits h % (m+1)) (bits h) with
  |none=>
   have e':(some (o,pre.length)>>=λx:Array (Option Nat)×Nat=>layClean.free m x.1 (turns m) (bits h % (m+1)) (bits h)>>=λj=>pure (x.1.setIfInBounds j (some x.2),x.2+1))=none:=by
    show (layClean.free m o (turns m) (bits h % (m+1)) (bits h)>>=_)=none;rw[ej];rfl
   erw [e',rM _ (λ_=>rfl)] at e
   cases e
  |some j=>
   have e':(some (o,pre.length)>>=λx:Array (Option Nat)×Nat=>layClean.free m x.1 (turns m) (bits h % (m+1)) (bits h)>>=λj=>pure (x.1.setIfInBounds j (some x.2),x.2+1))=some (o.setIfInBounds j (some pre.length),(pre++[h]).length):=by
    show (layClean.free m o (turns m) (bits h % (m+1)) (bits h)>>=_)=_;rw[ej,Vm];rfl
   erw [e'] at e
   have:=AB P3 (pre++[h]) _ r e (by rw[aa6];exact hz) (Hd hz L ej);rw[W6] at this;exact this
def Ef{m f mv:Nat}{led pl:Bool}{hs:Array Int}{t:Wo}{order:Array Nat}(e:laid m f mv led pl hs=some (t,order)):
 ∃live:List (Nat×Nat),t.place.toList=live.map (·.1)/\order.toList=live.map (·.2)/\∀x∈live,∃h,hs[x.2]? =some h/\∃n,n<10*turns m/\pos m h n=x.1/\∀n',n'<n->∃k',(pos m h n',k')∈live:=by
 unfold laid at e;cases eo:layClean m hs with
 |none=>rw[eo] at e;cases e
 |some o=>
  rw[eo] at e;have e:=VO e;rw[Yc] at e;obtain⟨e1,e2⟩:=e;have L:n4 m hs.toList o/\o.size=m+1:=by
   unfold layClean at eo;rw[<-aca] at eo;obtain⟨r,hr,er⟩:=Yq.mp eo;have:=AB hs.toList [] (aaH (m+1) none) r hr (by simp) λj k hk=>by
    rw[Vv,aa7] at hk;split at hk<;>cases hk
   rw[VL,er] at this;exact this
  refine⟨_,by rw[<-e1],by rw[<-e2],λx hx=>?_⟩;obtain⟨j,hj,ej⟩:=Yl.mp hx;obtain⟨k,hk,ek⟩:=Yq.mp ej;subst ek;obtain⟨h,a1,n,a2,a3,a4⟩:=L.1 j k hk;refine⟨h,by rw[<-Wq];exact a1,n,a2,a3,λn' h'=>?_⟩;obtain⟨k',rT⟩:=a4 n' h';refine⟨k',Yl.mpr ⟨pos m h n',V5.mpr ?_,by rw[rT];rfl⟩⟩;have:pos m h n'<o.size:=by
   apply WL;intro z;rw[Vv,Yu (by omega)] at rT;cases rT
  omega
def SetR(ld:Bool)(h:Heap)(a:Addr)(xs:List (Int×Value)):Prop:=∃o es ep t,h.get? a=some o/\o.ExactSet/\o.data= .set es ep t/\es.toList.Perm xs/\TabOk t es.size ld/\RchZ t.mask (qS t es)
def SetR.set{ld:Bool}{h:Heap}{a:Addr}{xs:List (Int×Value)}:SetR ld h a xs->CO ld h a xs:=λ⟨o,es,ep,t,a1,a2,a3,a4,a5,_⟩=>⟨o,es,ep,t,a1,a2,a3,a4,a5⟩
def SetR.at{ld:Bool}{h h':Heap}{a:Addr}{xs:List (Int×Value)}(x:SetR ld h a xs)(e:∀o,h.get? a=some o->h'.get? a=some o):SetR ld h' a xs:=
 let ⟨o,es,ep,t,ho,r⟩:=x
 ⟨o,es,ep,t,e o ho,r⟩
def Ee{m f mv:Nat}{led pl:Bool}{es:Array (Int×Value)}{t:Wo}{order:Array Nat}(e:laid m f mv led pl (es.map (·.1))=some (t,order)):RchZ m (qS t (order.filterMap (es[·]?))):=by
 obtain⟨live,h1,h2,h3⟩:=Ef e;have key:∀l:List (Nat×Nat),(∀x∈l,x.2<es.size)->(l.map (·.1)).zip (((l.map (·.2)).filterMap (es[·]?)).map (·.1))=l.map λx=>(x.1,(es.getD x.2 (0, .none)).1):=by
  intro l;induction l with
  |nil=>exact λ_=>rfl
  |cons x l ih=>
   intro h;have hx:=h x (Ve ..);have eg:es[x.2]? =some es[x.2]:=Vu hx;rw[Vi,Vi,WU (f:=λi=>es[i]?) eg,Vi,WD,ih λy hy=>h y (Vc _ hy),Vi,Vv,eg];rfl
 have nR:∀x∈live,x.2<es.size:=λx hx=>by
  obtain⟨h,a,_⟩:=h3 x hx;simpa using (V8.mp a).1
 have eo:qS t (order.filterMap (es[·]?))=live.map λx=>(x.1,(es.getD x.2 (0, .none)).1):=by
  unfold qS;rw[abn,h1,h2];exact key live nR
 rw[eo];intro y hy;obtain⟨x,hx,rfl⟩:=Vp.mp hy;obtain⟨h,a,n,b1,b2,b3⟩:=h3 x hx;have eh:(es.getD x.2 (0, .none)).1=h:=by
  rw[Array.getElem?_map,Vu (nR x hx)] at a;rw[Vv,Vu (nR x hx)];exact VO a
 rw[eh];exact⟨n,b1,b2,λn' h'=>let ⟨k',rT⟩:=b3 n' h';⟨_,Vp.mpr ⟨_,rT,rfl⟩⟩⟩
section
variable{prog:VG}{w:World}{A:V2}{E:Value->Vf->Prop}{s:Vf}
def m8{ks:List Int}{b:Addr}{Q:Bool->Vf->Prop}(hk:WS (Xg prog w) s.heap ks b)(h:Q false s):wpAny (model prog w) A (aaR 8 (.ref b)) Q E s:=by
 have hT:=hk.typeIs;obtain⟨o,items,n,ho,_,hd,hi⟩:=hk;unfold aaR;refine U_ (Yr hT ?_)
 dsimp only
 rw[acI (by decide)];refine U_ (Va ?_);simp only[XY,VC,if_false];refine U_ (YI ho hd ?_)
 dsimp only
 refine U_ ?_;show wpAny _ _ (forIn items _ _) _ _ s;rw[<-ZZ];refine Yi _ (λP3 r s'=>r.1=none/\s'=s/\∃ks',ItemsAre (Xg prog w) ks' P3) _ ?_ ?_ _ _ ⟨rfl,rfl,ks,hi⟩
 ·rintro v P3 r s' ⟨hr,rfl,ks',hl⟩;cases hl with
  | @cons k v Qn vs h1 h2=>
    have hv:aaR 7 v=pure false:=by
     cases v<;>first | rfl | (exact acK h1 (by simp[Xg,aaB]))
    rw[hv];refine U_ (Va ?_);simp only[VC,if_false];exact Va ⟨rfl,rfl,_,h2⟩
 ·rintro⟨r1,r2⟩ s' ⟨hr,rfl,_⟩;simp only at hr;subst hr;exact Va h
def u3{ks:List Int}{b c:Addr}{l:List Value}{Q:Bool->Vf->Prop}(hb:WS (Xg prog w) s.heap ks b)(hc:WS (Xg prog w) s.heap ks c)(hl:∀v∈l,v= .ref c)(h:Q false s):wpAny (model prog w) A (searchCouldBeSeen (.ref b) l) Q E s:=by
 unfold searchCouldBeSeen;refine U_ ?_;refine Yi _ (λP3 r s'=>r.1=none/\s'=s/\∀v∈P3,v= .ref c) _ ?_ ?_ _ _ ⟨rfl,rfl,hl⟩
 ·rintro v P3 r s' ⟨hr,rfl,Bu⟩;obtain rfl:=Bu v Ve;have IU:∀v∈P3,v= .ref c:=λu hu=>Bu u (Vc _ hu)
  dsimp only
  refine Xx (λ_=>Va ⟨rfl,rfl,IU⟩) λ_=>?_;refine U_ (wpAny_eqIsQuiet_tuple hb ?_);simp only[XY,VC,if_false];refine U_ (wpAny_eqIsQuiet_tuple hc ?_);simp only[XY,VC,if_false];refine U_ (m8 hb ?_);simp only[VC,if_false];refine U_ (m8 hc ?_);simp only[VC,if_false];exact Va ⟨rfl,rfl,IU⟩
 ·rintro⟨r1,r2⟩ s' ⟨hr,rfl,_⟩;simp only at hr;subst hr;exact Va h
def mf{a b c:Addr}{ks:List Int}{hk:Int}{ld:Bool}{xs:List (Int×Value)}{Q:Bool->Vf->Prop}(hu:A.units<cLine)(hb:WS (Xg prog w) s.heap ks b)(hc:WS (Xg prog w) s.heap ks c)(hS:SetR ld s.heap a xs)(nR:(hk, .ref c)∈xs)(PY:∀e∈xs,e.1=hk->e=(hk, .ref c))
 (h:Q false s):wpAny (model prog w) A (aa2 a (.ref b) hk) Q E s:=by
 obtain⟨o,es,ep,t,ho,hex,hd,hp,ht,hr⟩:=hS;have hf:=ht.fits;have Jd:∀e∈es.toList,e.1=hk->e=(hk, .ref c):=λe he=>PY e (hp.mem_iff.mp he);obtain⟨i0,Rz,e0⟩:=Wk.mp (hp.mem_iff.mpr nR);have PM:∃j0,(j0,hk)∈qS t es:=by
  rw[Vh] at Rz;have h1:i0<t.place.size:=by rw[ht.size];exact Rz
  refine⟨t.place[i0],Wk.mpr ⟨i0,by unfold qS;rw[Ym,Vb,Vh,Vh];omega,?_⟩⟩;unfold qS;rw[aaw,Yc];refine⟨by simp,?_⟩;rw[Xj,e0]
 obtain⟨j0,Px⟩:=PM;obtain⟨j,i,nx,ej,e,LU,MK⟩:=Ci ht.dum ht.size ht.rise hr Px;have PF:e∈es.toList:=by
  rw[<-Wq] at LU;exact VY LU
 have S9:=Jd e PF MK;subst S9;have Pq:t.gaveWay=false:=by
  unfold abP;rcases ht.msk with e | e | e<;>rw[e]<;>rfl
 unfold aa2 setAddHashedIn;refine Wf (U_ (Wz ho hd hf ?_))
 dsimp only
 have Pf:byScan (.ref b) es=false:=rfl;rw[Pf];simp only[VC,↓reduceIte];unfold setSearch setSearchFrom;refine U_ (U_ (Wz ho hd hf ?_))
 dsimp only
 rw[Pq];simp only[VC,↓reduceIte];refine U_ (Va ?_);split
 ·rename_i met heq;have e:met= .candidate j i nx:=VO (heq.symm.trans ej);subst e
  dsimp only
  rw[LU]
  dsimp only
  have MH:decide (ks=ks)=true:=acL rfl;refine Xx (λ_=>?_) λ_=>?_
  ·refine U_ (u3 hb hc (λv hv=>?_) ?_)
   ·obtain⟨e,he,rfl⟩:=Vp.mp hv;rw[abY] at he;obtain⟨MK,OB⟩:=Ws.mp he;rw[Jd e MK (Zs OB)]
   ·rw[acJ (by decide)];refine U_ (Wf (wpAny_eqBool_tuple hu hc hb ?_));rw[MH];refine U_ (Wz ho hd hf ?_);exact Va (Va h)
  ·refine U_ (Wf (wpAny_eqBool_tuple hu hc hb ?_));rw[MH];refine U_ (Wz ho hd hf ?_);exact Va (Va h)
 ·rename_i oP;exact acK ej (oP _)
def qf{a b:Addr}{hk:Int}{o:Obj}{es:Array (Int×Value)}{ep:Nat}{t:Wo}{Q:SetFound->Vf->Prop}(ho:s.heap.get? a=some o)(hd:o.data= .set es ep t){ld:Bool}(ht:TabOk t es.size ld)(lS:∀e∈es.toList,e.1≠hk)
 (h:∀j,t.slot j= .empty->(∃n,n<10*turns t.mask/\pos t.mask hk n=j/\∀n',n'<n->∃x,(pos t.mask hk n',x)∈qS t es)->Q (.free j false) s):wpAny (model prog w) A (setSearch a (.ref b) hk true) Q E s:=by
 have hf:=ht.fits;obtain⟨hm,iz,Pm,h5,_,_,_⟩:=ht;have Pq:t.gaveWay=false:=by
  unfold abP;rcases hm with e | e | e<;>rw[e]<;>rfl
 obtain⟨j,ej,hj,DX⟩:=Cg (t:=t) (es:=es) (hashAt:=λi=>(es[i]?.map (·.1)).getD 0) (h:=hk) hm Pm iz (by omega) λi hi=>by
  rw[Vu (by omega)];refine acQ.mpr λz=>lS (es[i]'(by omega)) (by rw[<-Array.getElem_toList];exact X9 _) z
 unfold setSearch setSearchFrom;refine U_ (Wz ho hd hf ?_)
 dsimp only
 rw[Pq];simp only[VC,↓reduceIte];refine U_ (Va ?_);split
 ·rename_i met heq;have e:met= .empty j none:=VO (heq.symm.trans ej);subst e;exact Va (h j hj DX)
 ·rename_i oP;exact acK ej (oP _)
def vg{a:Addr}{o:Obj}{es:Array (Int×Value)}{ep n:Nat}{t:Wo}{Q:Unit->Vf->Prop}(ho:s.heap.get? a=some o)(hex:o.ExactSet)(hd:o.data= .set es ep t)(hf:t.fits es.size=true)(P2:t.plain=true)(hm:Ga (sizeAbove n - 1))(h5:5*es.size<3*(sizeAbove n - 1))
 (h:∀h',WQ a s.heap h'->SetR t.led h' a es.toList->Q () {s with heap:=h'}):wpAny (model prog w) A (setRelay a n) Q E s:=by
 obtain⟨t',order,e1,e2,e3,e4,e5,e6,e7,e8⟩:=Hb (m:=sizeAbove n - 1) (f:=t.finger) (mv:=t.movedTo (sizeAbove n - 1)) (led:=t.led) (pl:=t.plain) hm (hs:=es.map (·.1)) (by rw[Array.size_map];omega);rw[Array.size_map] at e4 e5;have Ar:(order.filterMap (es[·]?)).toList.Perm es.toList:=by
  rw[abn];have:=e5.filterMap (λi=>es[i]?)
  rwa [filterMap_getElem?_range] at this
 have hsz:(order.filterMap (es[·]?)).size=es.size:=by rw[<-Vh,Ar.length_eq,Vh]
 have P4:RchZ t'.mask (qS t' (order.filterMap (es[·]?))):=by rw[e2];exact Ee e1
 have SV:sizeAbove n<=128:=by rcases hm with e | e | e<;>omega
 unfold setRelay;refine U_ (Wz ho hd hf ?_)
 dsimp only
 rw[acJ (by rw[Xe];omega)];have hr:t.relaid (es.map (·.1)) n=some (t',order):=e1;rw[hr];refine U_ (ZC (a:=(order.filterMap (es[·]?),t')) ?_ ?_)
 ·show (if ((order.filterMap (es[·]?)).size !=es.size)=true then(do (unsupported "internal:set-table-lost-an-element":Sem PUnit);pure (order.filterMap (es[·]?),t')) else pure (order.filterMap (es[·]?),t'))=_;rw[hsz,bne_self_eq_false];rfl
 ·dsimp only
  refine wpAny_storeSet_of ho hd (h _ (VT ..) ?_) (by rw[hsz,Xe];rcases hm with e | e | e<;>omega);have hg:(s.heap.update a (aal (order.filterMap (es[·]?)) t')).get? a=some {o with data:= .set (order.filterMap (es[·]?)) (ep+1) t'}:=by
   have:=Wb (aal (order.filterMap (es[·]?)) t') ho (by rw[putSet_of _ t' hd];rfl);rw[putSet_of _ t' hd] at this;exact this
  exact⟨_,_,ep+1,t',hg,hex,rfl,Ar,⟨by rw[e2];exact hm,by rw[hsz];exact e4,e3,by rw[hsz,e2];exact h5,e6.trans P2,e7,e8⟩,P4⟩
def lA{a b:Addr}{ks:List Int}{hk:Int}{ld:Bool}{xs:List (Int×Value)}{Q:Bool->Vf->Prop}(BA:WS (Xg prog w) s.heap ks b)(hS:SetR ld s.heap a xs)(lS:hk∉xs.map (·.1))(hl:xs.length<64)
 (h:∀h',WQ a s.heap h'->SetR ld h' a (xs++[(hk, .ref b)])->Q true {s with heap:=h'}):wpAny (model prog w) A (aa2 a (.ref b) hk) Q E s:=by
 obtain⟨o,es,ep,t,ho,hex,hd,hp,ht,TY⟩:=hS;have hf:=ht.fits;have hsz:es.size=xs.length:=by rw[<-Vh,hp.length_eq]
 unfold aa2 setAddHashedIn;refine Wf (U_ (Wz ho hd hf ?_))
 dsimp only
 have Pf:byScan (.ref b) es=false:=rfl;rw[Pf];simp only[VC,↓reduceIte];refine U_ (qf ho hd ht (λe he z=>lS (Vp.mpr ⟨e,hp.mem_iff.mp he,z⟩)) λj J3 DX=>?_);obtain⟨hm,iz,Pm,h5,P2,J7,T1⟩:=ht
 dsimp only
 refine U_ (Wz ho hd hf ?_)
 dsimp only
 have DY:(t.put j).1.mask=t.mask/\(t.put j).1.place.size=es.size+1/\(t.put j).1.dummies= #[]/\(t.put j).1.plain=true/\(t.put j).1.led=ld/\(t.put j).1.place.toList.Pairwise (· < ·)/\RchZ t.mask (qS (t.put j).1 (insertAt es (t.put j).2 (hk, .ref b))):=by
  refine⟨rfl,?_,?_,P2,J7,Fu T1 J3,TY.put (λx=>Hn iz rfl x) DX⟩
  ·show (insertAt t.place (below t.place j) j).size=_;rw[jN,iz]
  ·show (if has t.dummies j then eraseAt t.dummies (below t.dummies j) else t.dummies)= #[];rw[Pm];rfl
 have fin:wpAny (model prog w) A (do
  storeSet a (insertAt es (t.put j).2 (hk, .ref b)) (t.put j).1
  if (!false&&(t.put j).1.tooFull)=true then do
      setRelay a (grown (es.size+1))
      pure true
   else pure true) Q E s:=by
  obtain⟨q1,q2,q3,q4,q5,q6,q7⟩:=DY;generalize (t.put j).1=t1 at q1 q2 q3 q4 q5 q6 q7;have M9:=jN es (t.put j).2 (hk,VQ b);have PZ:(insertAt es (t.put j).2 (hk,VQ b)).toList.Perm (xs++[(hk, .ref b)]):=by
   refine(insertAt_perm es _ _).trans ?_;rw[acy];exact hp.append_right _
  generalize insertAt es (t.put j).2 (hk,VQ b)=IP at M9 PZ q7;have hg:(s.heap.update a (aal IP t1)).get? a=some {o with data:= .set IP (ep+1) t1}:=by
   have:=Wb (aal IP t1) ho (by rw[putSet_of _ t1 hd];rfl);rw[putSet_of _ t1 hd] at this;exact this
  have ud:=VT s.heap a (aal IP t1);have U1:t.mask<=127:=by rcases hm with e | e | e<;>omega
  refine U_ (wpAny_storeSet_of ho hd ?_ (by rw[Xe];omega));have DM:t1.fill=es.size+1:=by unfold fill;rw[q2,q3];rfl
  by_cases iq:t1.tooFull=true
  ·rw[iq];simp only[YX,Bool.and_self,↓reduceIte];unfold tooFull at iq;rw[DM,q1] at iq;have iq:t.mask*3<=(es.size+1)*5:=acO iq;have S_:t1.fits IP.size=true:=by
    unfold acD;rw[DM,q2,q1,M9];simp;omega
   have hr:Ga (sizeAbove (grown (es.size+1)) - 1)/\5*IP.size<3*(sizeAbove (grown (es.size+1)) - 1):=by
    rw[M9];rcases hm with e | e | e
    ·have:es.size=4:=by omega
     rw[this,Gq];exact⟨.inr (.inl rfl),by decide⟩
    ·have:es.size=18:=by omega
     rw[this,CQ];exact⟨.inr (.inr rfl),by decide⟩
    ·omega
   refine U_ (vg (o:={o with data:= .set IP (ep+1) t1}) hg hex rfl S_ q4 hr.1 hr.2 λh' wH GV=>Va (h h' (ud.trans wH) ?_));obtain⟨o2,Sv,Sr,t2,k1,k2,k3,k4,k5,k6⟩:=GV;exact⟨o2,Sv,Sr,t2,k1,k2,k3,k4.trans PZ,q5▸k5,k6⟩
  ·have iq:t1.tooFull=false:=by simpa using iq
   rw[iq];simp only[YX,YY,VC,↓reduceIte];unfold tooFull at iq;rw[DM,q1] at iq;have iq:¬t.mask*3<=(es.size+1)*5:=of_decide_eq_false iq;exact Va (h _ ud ⟨_,IP,ep+1,t1,hg,hex,rfl,PZ,⟨by rw[q1];exact hm,by rw[q2,M9],q3,by rw[M9,q1];omega,q4,q5,q6⟩,by rw[q1];exact q7⟩)
 split
 ·refine U_ (kD BA ?_);exact fin
 ·refine U_ (Va ?_);exact fin
end
def Ed(prog:VG)(w:World)(ks:Nat->List Int)(ad:Nat->Addr)(is:List Nat):List (Int×Value):=is.map λj=>(Ze (Xg prog w) (ks j), .ref (ad j))
def jx(ks:Nat->List Int):Nat->List Nat
 |0=>[]
 |i+1=>if (jx ks i).any (λj=>decide (ks j=ks i))=true then jx ks i else jx ks i++[i]
def lR{ks:Nat->List Int}:∀{i j:Nat},j∈jx ks i->j<i
 |0,j,h=>by cases h
 |i+1,j,h=>by
  unfold jx at h;split at h
  ·have:=lR h;omega
  ·rcases V3.mp h with h | h
   ·have:=lR h;omega
   ·rw[VS.mp h];omega
def t_{ks:Nat->List Int}:∀{i j j':Nat},j∈jx ks i->j'∈jx ks i->ks j=ks j'->j=j'
 |0,j,j',h,_,_=>by cases h
 |i+1,j,j',h,h',e=>by
  unfold jx at h h';split at h
  ·rename_i hc;rw[acI hc] at h';exact t_ h h' e
  ·rename_i hc;rw[acJ hc] at h';have no:∀x,x∈jx ks i->ks x≠ks i:=λx hx z=>hc (X_.mpr ⟨x,hx,acL z⟩);rcases V3.mp h with h | h<;>rcases V3.mp h' with h' | h'
   ·exact t_ h h' e
   ·rw[VS.mp h'] at e;exact acK e (no j h)
   ·rw[VS.mp h] at e;exact acK e.symm (no j' h')
   ·rw[VS.mp h,VS.mp h']
def Dv{ks:Nat->List Int}(i:Nat):(jx ks i).length<=(jx ks (i+1)).length:=by
 show _<=(if _ then _ else _:List Nat).length;split
 ·exact Vj _
 ·rw[Vm];omega
def wo{ks:Nat->List Int}{i:Nat}:∀{n:Nat},i<=n->(jx ks i).length<=(jx ks n).length
 |0,h=>by
  obtain rfl:i=0:=by omega
  exact Vj _
 |n+1,h=>by
  by_cases e:i=n+1
  ·rw[e];exact Vj _
  ·exact VI (wo (n:=n) (by omega)) (Dv n)
section
variable{prog:VG}{w:World}{A:V2}{R:ab3->Vf->Prop}{I:Addr}{fp wr:List Addr}{G:Array acv->Array acv->Prop}{n:Nat}{P:Nat->Value->Prop}{St:Nat->Vf->Prop}{ld:Bool}
def Ct(W:WalksS prog w A.in1 I fp wr G n P St)(S:Addr)(Ow:S∉fp)(ks:Nat->List Int)(ad:Nat->Addr)(P_:∀i v,P i v->v= .ref (ad i))(gh:∀i,i<n->ad i≠S/\ad i∉wr)(hu:A.in1.units<cLine)(hn:(jx ks n).length<=64)
 (GY:∀i j,i<n->j<n->Ze (Xg prog w) (ks i)=Ze (Xg prog w) (ks j)->ks i=ks j):∀(k i:Nat) (s:Vf),n - i=k->i<=n->St i s->(∀j,j<n->WS (Xg prog w) s.heap (ks j) (ad j))->SetR ld s.heap S (Ed prog w ks ad (jx ks i))->
  (∀s',Moved (S::wr) G s s'->SetR ld s'.heap S (Ed prog w ks ad (jx ks n))->R (.ok (.ret .none)) s')->YF (model prog w) A (.builtin "set.update.loop" ⟨[.ref S, .ref I],[]⟩) R s:=by
 have Rr:S∉wr:=λh=>Ow (W.sub _ h);have D0:∀b∈wr,b∈S::wr:=λb hb=>Vc _ hb;intro k;induction k with
 |zero=>
  intro i s hk hi kG hT hS hR;obtain rfl:i=n:=by omega
  refine WX Y7 ?_;rw[WB WO _];show wpAny _ A.in1 (YM (.ref I)>>=_) _ _ s;refine U_ (W.done s _ _ kG λs' hm=>?_);show wpAny _ A.in1 (ret Wi) _ _ s';exact Va (hR s' (hm.mono D0) (hS.at λo e=>hm.heap S o Rr e))
 |succ k ih=>
  intro i s hk hi kG hT hS hR;have cN:i<n:=by omega
  refine WX Y7 ?_;rw[WB WO _];show wpAny _ A.in1 (YM (.ref I)>>=_) _ _ s;refine U_ (W.item i s _ _ cN kG λv s' hP Na hm=>?_);have ev:=P_ i v hP;subst ev;have GV:SetR ld s'.heap S (Ed prog w ks ad (jx ks i)):=hS.at λo e=>hm.heap S o Rr e;have LR:∀j,j<n->WS (Xg prog w) s'.heap (ks j) (ad j):=λj hj=>mj (hT j hj) λo e=>hm.heap _ o (gh j hj).2 e;show wpAny _ A.in1 (holding [VQ (ad i)] (setAdd S (.ref (ad i)))>>=_) _ _ s';refine U_ (Wf ?_);unfold setAdd;refine Wf (U_ (wpAny_pyHash_tuple hu (LR i cN) ?_));by_cases hold:(jx ks i).any (λj=>decide (ks j=ks i))=true
  ·obtain⟨j,hj,ej⟩:=X_.mp hold;have ej:ks j=ks i:=acO ej;have Tq:=lR hj;refine mf (c:=ad j) (s:={s' with toks:=s'.toks+((ks i).length+1)}) hu (LR i cN) (ej▸LR j (by omega)) GV (Vp.mpr ⟨j,hj,by rw[ej]⟩) (λe he z=>?_) ?_
   ·obtain⟨j',RB,rfl⟩:=Vp.mp he;have Tr:=lR RB;have:=GY j' i (by omega) cN z;obtain rfl:=t_ RB hj (this.trans ej.symm);rw[ej]
   ·have Pc:SetR ld s'.heap S (Ed prog w ks ad (jx ks (i+1))):=by
     rw[show jx ks (i+1)=jx ks i from acI hold];exact GV
    refine Va ⟨XF WO _,ih (i+1) _ (by omega) cN (W.frame _ s' _ _ Na (Zo ..) λb hb o e=>e) LR Pc λLr J8 JW=>?_⟩;exact hR Lr (Moved.trans W.gtrans ((hm.mono D0).then_heap (Zo ..) λb o hb e=>e) J8) JW
  ·have RH:jx ks (i+1)=jx ks i++[i]:=acJ hold;have M2:(jx ks (i+1)).length<=64:=VI (wo cN) hn;refine lA (s:={s' with toks:=s'.toks+((ks i).length+1)}) (LR i cN) GV (λnR=>?_) (by unfold Ed;rw[Vb];rw[RH,Vm,abM] at M2;omega) λh' ud Rq=>?_
   ·obtain⟨e,he,z⟩:=Vp.mp nR;obtain⟨j,hj,rfl⟩:=Vp.mp he;have Tq:=lR hj;exact hold (X_.mpr ⟨j,hj,acL (GY j i (by omega) cN z)⟩)
   have Pc:SetR ld h' S (Ed prog w ks ad (jx ks (i+1))):=by
    rw[RH];unfold Ed at Rq⊢;rw[WA];exact Rq
   have L7:∀b o,b≠S->s'.heap.get? b=some o->h'.get? b=some o:=λb o hb e=>(ud.2 b hb).trans e;refine Va ⟨XF WO _,ih (i+1) _ (by omega) cN (W.frame _ s' _ _ Na (Zo ..) λb hb o e=>L7 b o (λz=>Ow (z▸hb)) e) (λj hj=>mj (LR j hj) λo e=>L7 _ o (gh j hj).1 e) Pc λLr J8 JW=>?_⟩;exact hR Lr (Moved.trans W.gtrans ((hm.mono D0).then_heap (Zo ..) λb o hb e=>L7 b o (λz=>hb (z▸Ve ..)) e) J8) JW
end
section
variable{prog:VG}{w:World}{A:V2}{E:Value->Vf->Prop}{s:Vf}
def om{l:Addr}{items:Array Value}{ks:Nat->List Int}{ad:Nat->Addr}{Q:Value->Vf->Prop}(hh:A.handled=none)(hu:A.units+8<cLine)(hl:s.heap.IsList l items)(hi:∀i,i<items.size->items[i]? =some (.ref (ad i)))
 (hT:∀j,j<items.size->WS (Xg prog w) s.heap (ks j) (ad j))(hn:(jx ks items.size).length<=64)(GY:∀i j,i<items.size->j<items.size->Ze (Xg prog w) (ks i)=Ze (Xg prog w) (ks j)->ks i=ks j)
 (h:∀(h':Heap) (tk:Nat),CO (kJ w) h' s.heap.objs.size (Ed prog w ks ad (jx ks items.size))->(∀b o,b<s.heap.objs.size->s.heap.get? b=some o->h'.get? b=some o)->Q (.ref s.heap.objs.size) {s with heap:=h',toks:=tk}):
 wpAny (model prog w) A (call (.type "set") [.ref l]) Q E s:=by
 obtain⟨c,tl,TK⟩:=F.called_set.mro;have RF:=F.called_set.made;have D0:=F.called_set.sub;refine wpAny_call (codeAny_of_tree ?_);show wpAny _ _ (callAny (.type "set") _) _ _ _;refine Va ⟨acx _ (by decide+kernel),WX F.entry_type_call ?_⟩;rw[Around.under_plain (weight_type_call_type "set" [.ref l] []) rfl];have h1:=F.called_set.notType;have h2:=F.called_set.canCreate;have UR:=F.typeCall_set_1 (.ref l)
 repeat (any_goals (first | assumption | wp_step))
 refine Zf (xX (.ref l) (E:=E) (Q₁:=λobj v6=>∃led:Bool,led=kJ w/\obj= .ref s.heap.objs.size/\v6={s with heap:=s.heap.push {cls:= .type "set",dict:=none,data:= .set #[] 0 (.fresh 0 0 led)} }) ⟨_,rfl,rfl,rfl⟩) λr v6 hr=>?_;cases r with
 |error e=>exact hr
 |ok fl=>
  cases fl with
  |ret obj=>
   obtain⟨led,J7,rfl,rfl⟩:=hr;have hS:(s.heap.push {cls:= .type "set",dict:=none,data:= .set #[] 0 (.fresh 0 0 led)}).get? s.heap.objs.size=some {cls:= .type "set",dict:=none,data:= .set #[] 0 (.fresh 0 0 led)}:=Vq _ rfl;have SS:Shared.TypeIs {s with heap:=s.heap.push {cls:= .type "set",dict:=none,data:= .set #[] 0 (.fresh 0 0 led)} } (.ref s.heap.objs.size) "set":=⟨_,hS,rfl⟩
   have UX:=F.called_set.init.lookup;have Oy:=F.called_set.init.bind (.ref s.heap.objs.size)
   repeat (any_goals (first | assumption | wp_step))
   refine Zf (Z6 (R:=wants (λr v4=>r= .none/\∃h' tk,v4={s with heap:=h',toks:=tk}/\CO (kJ w) h' s.heap.objs.size (Ed prog w ks ad (jx ks items.size))/\(∀b o,b<s.heap.objs.size->s.heap.get? b=some o->h'.get? b=some o)) E) F.called_set.init.plain F.entry_set_init (check_set_init_1 SS ?_)) λr₂ v4 P7=>?_
   ·obtain⟨ol,RJ,IY,nl,Rx⟩:=hl;obtain⟨Ut,Nx,R3,KQ⟩:=ol;simp only at IY Rx;subst IY;subst Rx;have PX:(s.heap.push {cls:= .type "set",dict:=none,data:= .set #[] 0 (.fresh 0 0 led)}).get? l=some {cls:= .type "list",dict:=Nx,data:= .seq items nl,slots:=KQ}:=Vd _ RJ;have T4:=F.sub_list_set;have T3:=F.sub_list_frozenset;have gh:(Y2 "list"==Y2 "dict")=false:=by decide
    have yX:(s.heap.push {cls:= .type "set",dict:=none,data:= .set #[] 0 (.fresh 0 0 led)}).IsList l items:=⟨_,PX,rfl,nl,rfl⟩
    unfold X3.«set.__init__» noKeywords Builtin.Frozenset.updateFrom;generalize SN:ab1=PI
    wp_walk
    subst SN;refine Zq yX (U_ (wpAny_runValue ?_));have RC:l<s.heap.objs.size:=Vr RJ;have Tj:A.in1.in1.in1.handled=none:=by simp[hh]
    have PJ:l≠(s.heap.push {cls:= .type "set",dict:=none,data:= .set #[] 0 (.fresh 0 0 led)}).objs.size:=by
     rw[Xl];exact VH (Xr RC)
    have Ow:s.heap.objs.size∉[(s.heap.push {cls:= .type "set",dict:=none,data:= .set #[] 0 (.fresh 0 0 led)}).objs.size,l]:=by
     rw[Xl];simp only[Vo,VS,Wh,or_false,not_or];exact⟨VH (XC _),XS RC⟩
    have Pe:∀i,i<items.size->ad i<s.heap.objs.size:=λi vM=>let ⟨o,_,_,ho,_⟩:=hT i vM;Vr ho
    refine Ct (ld:=kJ w) ((acj Tj _ l PJ items).toS) s.heap.objs.size Ow ks ad (λi v hv=>?_) (λi vM=>?_) ?_ hn GY (items.size - 0) 0 _ (by omega) (V1 _) ⟨⟨_,Vq _ rfl,rfl,rfl⟩,(yX.push _)⟩ (λj hj=>mj (hT j hj) λo e=>Vd _ (Vd _ e)) ?hS0 ?hR
    case hS0=>exact⟨_,#[],0,_,Vd _ hS,⟨rfl,rfl,rfl⟩,rfl, .refl _,⟨.inl rfl,rfl,rfl,by show 5*0<3*7;decide,rfl,J7,Zu⟩,λx hx=>by cases hx⟩
    case hR=>
     intro s' hm GV;obtain⟨h',g',d',OO,Qz⟩:=s';obtain rfl:g'=s.gens:=hm.gens;obtain rfl:d'=s.drawn:=hm.drawn;obtain rfl:Qz=s.os:=hm.os;show wpAny _ _ _ _ _ _;refine Va ?_;show wpAny _ _ (ret Wi) _ _ _;refine Va ⟨rfl,h',OO,rfl,GV.set,λb o hb e=>?_⟩;have Ox:b≠s.heap.objs.size:=VH hb;have JY:b≠(s.heap.push {cls:= .type "set",dict:=none,data:= .set #[] 0 (.fresh 0 0 led)}).objs.size:=by
      rw[Xl];exact VH (Xr hb)
     exact hm.heap b o (by simp only[Vo,VS,Wh,or_false,not_or];exact⟨Ox,JY⟩) (Vd _ (Vd _ e))
    ·have cN:i<items.size:=(V8.mp hv).1;exact VO ((show items[i]? =some v from hv).symm.trans (hi i cN))
    ·have:=Pe i vM;refine⟨VH this,?_⟩;rw[Xl];simp only[Vo,VS,Wh,or_false];exact VH (Xr this)
    ·show A.units+1+1+1<cLine;omega
   ·cases r₂ with
    |error e=>exact P7
    |ok Sz=>
     cases Sz with
     |ret r=>
      obtain⟨rfl,h',tk,rfl,GV,rT⟩:=P7
      repeat (any_goals (first | assumption | wp_step))
      exact h _ _ GV rT
     |_=>exact P7.elim
  |_=>exact hr.elim
end
end L3
namespace L3
open PySem PySem.Spec L2 SeqAt HT
open PyProof.Rows hiding St
def Gn(ks:List (List Int)):List Nat:=jx (λi=>ks.getD i []) ks.length
def qA(ks:List (List Int)):List (List Int):=(Gn ks).map λi=>ks.getD i []
def yS{ks:Nat->List Int}:∀i,((jx ks i).map ks).Nodup
 |0=>YB
 |i+1=>by
  unfold jx;split
  ·exact yS i
  ·rename_i hc;rw[WA];refine Xo.mpr ⟨yS i,by simp,λa ha b hb e=>?_⟩;obtain⟨j,hj,rfl⟩:=Vp.mp ha;rw[List.map_singleton,VS] at hb;subst hb;exact hc (X_.mpr ⟨j,hj,acL e⟩)
def An{ks:Nat->List Int}:∀{i j:Nat},j<i->∃j'∈jx ks i,ks j'=ks j
 |0,j,h=>acK h (by omega)
 |i+1,j,h=>by
  unfold jx;by_cases e:j=i
  ·subst e;split
   ·rename_i hc;obtain⟨j',h1,h2⟩:=X_.mp hc;exact⟨j',h1,acO h2⟩
   ·exact⟨j,VP _ (VS.mpr rfl),rfl⟩
  ·obtain⟨j',h1,h2⟩:=An (ks:=ks) (i:=i) (j:=j) (by omega);split
   ·exact⟨j',h1,h2⟩
   ·exact⟨j',WZ _ h1,h2⟩
def D9{ks:List (List Int)}{i:Nat}(h:i∈Gn ks):i<ks.length:=lR h
def JI(ks:List (List Int)):(qA ks).Nodup:=yS ks.length
def ua{ks:List (List Int)}{i:Nat}(h:i<ks.length):ks.getD i []=ks[i]:=by rw[VN,Vg h];rfl
def nS{ks:List (List Int)}{k:List Int}:k∈qA ks↔k∈ks:=by
 constructor
 ·intro h;obtain⟨i,hi,rfl⟩:=Vp.mp h;rw[ua (D9 hi)];exact X9 _
 ·intro h;obtain⟨j,hj,rfl⟩:=Wk.mp h;obtain⟨j',h1,h2⟩:=An (ks:=λi=>ks.getD i []) hj;exact Vp.mpr ⟨j',h1,by rw[<-ua hj];exact h2⟩
def map_inj{α β:Type}{f:α->β}:∀{l:List α},(l.map f).Nodup->∀{a b:α},a∈l->b∈l->f a=f b->a=b
 |x::l,hn,a,b,ha,hb,e=>by
  rw[Vi] at hn;have hn:=WG.mp hn;rcases Vo.mp ha with ea | Rt<;>rcases Vo.mp hb with eb | ub
  ·exact ea.trans eb.symm
  ·exact acK (Vp.mpr ⟨b,ub,by rw[<-e,ea]⟩) hn.1
  ·exact acK (Vp.mpr ⟨a,Rt,by rw[e,eb]⟩) hn.1
  ·exact map_inj hn.2 Rt ub e
def fP:D->M D
 | .lst ds=>match gQ ds with
   |some ks=>if eJ (qA ks)=true/\((qA ks).map eT).Nodup then aa (.lst ((sortI (qA ks)).map tupI)) else ag
   |none=>ag
 |_=>ag
section
variable{X:Cx}{Xw:Nat->Hp->Prop}{e:Expr}{δ:DE}{pos zE p p2:Pos}
def Cu{f8:List (Addr×Obj)}{σ:St}{H:Hp}{s:Vf}{Q:Value->Vf->Prop}{E:Value->Vf->Prop}(I:Inv X f8 σ H s)(hc:X.calm=true)(hu:X.A.units+64<cLine){a:Addr}{ws:List V}{ks:List (List Int)}(hl:SqL X.K H a ws)(hr:cj H ws ks)(hn:(qA ks).length<=64)(Gk:((qA ks).map eT).Nodup)
 (h:∀h' tk us,cj H us (qA ks)->CO (kJ X.w) h' s.heap.objs.size (LY X.prog X.w (λi=>(qA ks).getD i []) (λi=>A5 (us.getD i .non)) (qA ks).length)->(∀b o,s.heap.get? b=some o->h'.get? b=some o)->Q (.ref s.heap.objs.size) {s with heap:=h',toks:=tk}):
 wpAny (model X.prog X.w) X.A (call (.type "set") [.ref a]) Q E s:=by
 obtain⟨aB,rv,pl,hz⟩:=I.list hl;have h1:=iZ hr;have h2:=rv.length;have hsz:aB.toArray.size=ks.length:=by rw[Vl];omega
 have To:(Gn ks).length=(qA ks).length:=by unfold qA;rw[Vb]
 refine om (items:=aB.toArray) (ks:=λi=>ks.getD i []) (ad:=λi=>A5 (ws.getD i .non)) (I.ok.hd hc) (by omega) pl.isList (λi hi=>(xK I hr rv hi).1) (λi hi=>(xK I hr rv hi).2) (by rw[hsz];show (Gn ks).length<=64;omega) (λi j hi hj z=>?_) λh' tk hS hk=>?_
 ·rw[hsz] at hi hj;have m:∀i,i<ks.length->ks.getD i []∈qA ks:=λi hi=>nS.mpr (by rw[ua hi];exact X9 _);exact map_inj Gk (m i hi) (m j hj) z
 ·rw[hsz] at hS;refine h h' tk _ (gG hr λi hi=>by have:=D9 hi;omega) ?_ λb o q=>hk b o (Vr q) q;have e:Ed X.prog X.w (λi=>ks.getD i []) (λi=>A5 (ws.getD i .non)) (Gn ks)=LY X.prog X.w (λi=>(qA ks).getD i []) (λi=>A5 (((Gn ks).map λi=>ws.getD i .non).getD i .non)) (qA ks).length:=by
   unfold Ed LY;refine aax (by simp[To]) λi a1 a2=>?_;have hi:i<(Gn ks).length:=by simpa using a1
   have e1:(qA ks).getD i []=ks.getD (Gn ks)[i] []:=by
    unfold qA;rw[VN,Vz,Vg hi];rfl
   have e2:((Gn ks).map λi=>ws.getD i V.non).getD i .non=ws.getD (Gn ks)[i] .non:=by
    rw[VN,Vz,Vg hi];rfl
   rw[Xj,Xj,acs]
   dsimp only
   rw[e1,e2]
  rw[<-e];exact hS
def zB(hc:X.calm=true)(hu:X.A.units+64<cLine)(hg:Gl X "sorted")(hm:X.mg "sorted"=none)(Tc:Gl X "set")(Jc:X.mg "set"=none)(hb:V4 "sorted"=some (.builtin "sorted"))(JY:V4 "set"=some (.type "set"))(ha:PD X Xw e δ)
 (OB:Vs [e] X.env=[(false,eval e X.env)]:=by rfl)(he:Vs [.Call (.Name "set" p2) [e] [] zE] X.env=[(false,eval (.Call (.Name "set" p2) [e] [] zE) X.env)]:=by rfl):
 PD X Xw (.Call (.Name "sorted" p) [.Call (.Name "set" p2) [e] [] zE] [] pos) (d1 fP δ):=λf8 s σ H Q I ⟨F,ρ,S,w⟩=>by
 have w:WP X.K Xw F H (δ ρ>>=fP) Q:=w;refine XW (iJ I hg hm hb ?_ (by decide) (by decide));refine ZE ?_ he rfl;rw[he];refine YR (XW (iJ I Tc Jc JY ?_ (by decide) (by decide)));refine WV ?_ OB rfl;rw[OB];refine YR (bV (ha f8 s σ H _ I ⟨F,ρ,S,WP.bind w⟩) λu s1 ⟨v,H1,I1,r,F1,d,e1,q1,w1⟩=>Y8 ?_);unfold fP at w1;split at w1
 ·rename_i ds;split at w1
  ·rename_i ks J4;split at w1
   ·rename_i hok;obtain⟨a,ws,rfl,h2,h3,h4⟩:=q1;cases (show u=_ from r);have hr:=(rX e1.fh J4 h3).1;have hl:=rY J4 h3;have Gg:(qA ks).length<64:=by
     have:=hok.1;unfold eJ at this;rw[VA,VA] at this;exact acO this.1.2
    refine Cu I1 hc hu (SqL.of (e1.fh _ _ h2)) hr (by omega) hok.2 λh' tk vs G2 hS hk=>Y8 ?_;refine zM (s:={s1 with heap:=h',toks:=tk}) (I1.kept hk) hc G2 hok.1 hS λq us hq Uc=>?_;obtain⟨F2,e2,r2⟩:=p_ e1.fh Uc;have e3:=Ext.lay (o:= .lst us) e2.fh hq;exact WP.fin w1 (e2.trans e3) ⟨q,_,rfl,aD,DenL.mono e3.ff (p9 r2 λk hk=>hl k (nS.mp (dJ.mp hk))),by rw[Vb,mh];unfold lim;omega⟩
   ·exact w1.elim
  ·exact w1.elim
 ·exact w1.elim
end
section
variable{X:Cx}{Xw:Nat->Hp->Prop}{a e o:Expr}{δo:DE}{δs:DA}{pos p W1 aO:Pos}
def lD:List D->M D
 |[.int i]=>if 0<=i/\i<100/\(V0 (Xn i)).length<=lim then aa (.str (V0 (Xn i))) else ag
 |_=>ag
def Bh:CallR X (.type "str") (λxs H Q=>∃i:Int,xs=[.int i]/\0<=i/\i<100/\Q (.str (V0 (Xn i))) H):=by
 intro f8 s σ H xs us Q I r h;obtain⟨i,rfl,h0,h1,q⟩:=h;obtain⟨u,rfl,r1⟩:=r.one;obtain⟨t,rfl⟩:=r1;exact str_of_int_fit (N:=100) (by rw[acJ (by omega)];exact h1) (by decide) λ_=>⟨.str _,H,I.tok _,⟨_,rfl⟩,q⟩
def uU(hg:Gl X "str")(hm:X.mg "str"=none)(hb:V4 "str"=some (.type "str"))(ha:iu X Xw [e] δs)(he:Vs [e] X.env=[(false,eval e X.env)]:=by rfl):PD X Xw (.Call (.Name "str" p) [e] [] pos) (dA lD δs):=
 lZ Bh (λXw F H vs ds Q s h w=>by
  unfold lD at w;split at w
  ·obtain⟨v,rfl,h1⟩:=h.one;split at w
   ·rename_i hc;exact⟨_,by rw[show v=_ from h1],hc.1,hc.2.1,WP.now w s ⟨rfl,hc.2.2⟩⟩
   ·exact w.elim
  ·exact w.elim) hg hm hb ha (by decide) (by decide) he rfl
def zfillM:D->List D->M D
 | .str x,[.int i]=>if PadOk i=true/\(Z7 x i).length<=lim then aa (.str (Z7 x i)) else ag
 |_,_=>ag
def Eo:Gb X "str.zfill" (λx vs H Q=>∃(y:Str) (i:Int),x= .str y/\vs=[.int i]/\PadOk i=true/\Q (.str (Z7 y i)) H):=by
 intro f8 s σ H x vs v us Q I rx rv h;obtain⟨y,i,rfl,rfl,hp,q⟩:=h;obtain⟨t,rfl⟩:=rx;obtain⟨u,rfl,r1⟩:=rv.one;obtain⟨t2,rfl⟩:=r1;exact SC.zfill hp λt' k=>⟨.str _,H,I.tok _,⟨_,rfl⟩,q⟩
def EW(ho:PD X Xw o δo)(ha:iu X Xw [e] δs)(cU:WK o "zfill" X.env (eval o X.env)=eval o X.env:=by rfl)
 (fH:((W7 aO (Vs [e] X.env)).all (λx=>!x.1)&&(YA aO (Xf [] X.env)).all (λx=>x.1.isSome)&&decide ([e].length+([]:List Xb).length+(if ([]:List Xb).isEmpty then 0 else 1)<30))=true:=by rfl)
 (cV:(W1.endLine==aO.line)=true:=by rfl)(kG:Vs [e] X.env=[(false,eval e X.env)]:=by rfl):PD X Xw (.Call (.Attribute o "zfill" W1) [e] [] aO) (dM kh zfillM δo δs):=
 m6 Xy PySem.F.slot_str_zfill PySem.F.type_str_zfill Eo o3 (λXw F H x vs d ds Q s hx hv w=>by
  unfold zfillM at w;split at w
  ·rename_i y i;obtain⟨v,rfl,h1⟩:=hv.one;split at w
   ·rename_i hc;exact⟨y,i,hx.1,by rw[show v=_ from h1],hc.1,WP.now w s ⟨rfl,hc.2⟩⟩
   ·exact w.elim
  ·exact w.elim) ho ha cU fH cV kG rfl
def oT:D->List D->M D
 | .lst ys,[x]=>match eD x,jD ys with
   |some k,some ks=>if ze k ks=true then aa (.int ((ks.findIdx λk'=>decide (k'=k):Nat):Int)) else ag
   |_,_=>ag
 |_,_=>ag
def so{K:Vn}{F H:Hp}{k:List Key}(hs:Same F H):
 ∀{ys:List D}{vs:List V}{aB:List Value}{ks:List (List Key)},jD ys=some ks->DenL K F ys vs->Vals vs aB->aB.map (isKey H k)=ks.map λk'=>decide (k'=k)
 |[],_,_,_,e,h,r=>by
  cases e;cases (show _=_ from h);cases r;rfl
 |y::ys,_,_,_,e,⟨w,ws,h1,h2,h3⟩,r=>by
  subst h1;unfold jD at e;split at e
  ·rename_i k' ks e1 e2;cases e;cases r with
   |cons r1 r2=>rw[Vi,Vi,so hs e2 h3 r2,r_ (k:=k) hs e1 h2 r1]
  ·cases e
def NQ(K:Vn):V->List V->Hp->VK->Prop:=λx us H Q=>∃F dx v ys vs p k ks,Same F H/\Den K F dx v/\eD dx=some k/\jD ys=some ks/\DenL K F ys vs/\x= .ref p/\us=[v]/\H p=some (.lst vs)/\ze k ks=true/\Q (.int ((ks.findIdx λk'=>decide (k'=k):Nat):Int)) H
def Hj(hu:X.A.units+64<cLine):Gb X "list.index" (NQ X.K):=by
 intro f8 s σ H x vs v us Q I rx rv h;obtain⟨F,dx,w,ys,ws,p,k,ks,hs,hx,ex,ek,hd,rfl,rfl,hq,hm,q⟩:=h;cases rx;obtain⟨u,rfl,r1⟩:=rv.one;obtain⟨z,aB,m,r,hl,e⟩:=I.lstM hq;have MU:=so (K:=X.K) (k:=k) hs ek hd r;have hf:aB.findIdx (isKey H k)=ks.findIdx λk'=>decide (k'=k):=by
  have h1:=List.findIdx_map (f:=isKey H k) (p:=id) aB;have h2:=List.findIdx_map (f:=λk':List Key=>decide (k'=k)) (p:=id) ks;rw[MU] at h1;exact h1.symm.trans h2
 have cN:aB.findIdx (isKey H k)<aB.length:=by
  rw[hf,show aB.length=ks.length by simpa using acP aaK MU];obtain⟨k',Tt,Tu⟩:=X_.mp hm;exact List.findIdx_lt_length_of_exists ⟨k',Tt,Tu⟩
 have hz:aB.length<=VB:=by have:=r.length;omega
 have U5:VB=16777216:=Xe;refine X7 Y5 ⟨_,e,rfl⟩ PySem.F.entry_list_index (PySem.F.args_list_index_2 _ _) (list_indexAt p _ m none #[] u (isKey H k) (aB.findIdx (isKey H k)) (by simpa using cN) (by omega) ?_ ?_) ⟨e,λy hy=>?_,?_⟩
 ·have:=List.findIdx_getElem (p:=isKey H k) (w:=cN);simpa using this
 ·intro j hj BB;have:=abC (p:=isKey H k) (xs:=aB) (i:=j) BB;simpa using this
 ·exact(sm I hs (by show X.A.units+1+6<cLine;omega) ex hx r1 ek hd r).2 y (by simpa using hy)
 ·rw[hf];exact⟨.int _,H,I.tok _,⟨_,rfl⟩,q⟩
def HB(hu:X.A.units+64<cLine)(ho:PD X Xw o δo)(ha:iu X Xw [e] δs)(cU:WK o "index" X.env (eval o X.env)=eval o X.env:=by rfl)
 (fH:((W7 aO (Vs [e] X.env)).all (λx=>!x.1)&&(YA aO (Xf [] X.env)).all (λx=>x.1.isSome)&&decide ([e].length+([]:List Xb).length+(if ([]:List Xb).isEmpty then 0 else 1)<30))=true:=by rfl)
 (cV:(W1.endLine==aO.line)=true:=by rfl)(kG:Vs [e] X.env=[(false,eval e X.env)]:=by rfl):PD X Xw (.Call (.Attribute o "index" W1) [e] [] aO) (dM gz oT δo δs):=
 m6 Xq Y5 aaV (Hj hu) oY (λXw F H x vs d ds Q s hx hv w=>by
  unfold oT at w;split at w
  ·rename_i ys dx;obtain⟨v,rfl,h1⟩:=hv.one;obtain⟨a,ws,rfl,h2,h3,_⟩:=hx;split at w
   ·rename_i k ks e1 e2;split at w
    ·rename_i hc;exact⟨F,dx,v,ys,ws,a,k,ks,s,h1,e1,e2,h3,rfl,rfl,s _ _ h2,hc,WP.now w s rfl⟩
    ·exact w.elim
   ·exact w.elim
  ·exact w.elim) ho ha cU fH cV kG rfl
end
end L3
namespace L3
open PySem PySem.Spec L2
open PyProof.Rows hiding St
section
variable{X:Cx}{tg iter:Expr}{body:List Stmt}{pos:Pos}
def HW{wi:TI}{g:TG}{tb:TS}(hc:X.calm=true)(hi:PI X tg iter wi)(hg:PG X.nox tg g)(hb:PSs X.nox body tb)
 (hs:∀x,X6 iter X.env x=pure x:=by intro _;rfl):PS X (.For tg iter body [] pos) (N7 wi g tb):=by
 intro f8 s σ H D I h;refine wpAny_For (bV (hi f8 s σ H _ I h) λv s1 h1=>bV h1 λQm s2 h2=>?_) hs;obtain⟨it,fp,tn,J,H2,e,I2,T,tx,f2,W,⟨m0,w0⟩,turn⟩:=h2;subst e;have zP:∀{H':Hp},(∀b∈fp,H' b=none)->∀b∈fp,nZ X.nox f8 H' b:=λhn b hb=>⟨hn b hb,(f2 b hb).2⟩
 refine codeAny_forLoop_any (λn s'=>∃i σ' H',Inv X.nox f8 σ' H' s'/\tn i s'.heap/\(∀b∈fp,H' b=none)/\W i n σ' H') ?_ m0 ⟨0,σ,H2,I2.wish _,tx,λb hb=>(f2 b hb).1,w0⟩;rintro n s3 ⟨i,σ3,H3,I3,FL,JT,w3⟩;have up:∀{α:Type}{t:Sem α}{Q:α->Vf->Prop}{s:Vf}{E:Value->Vf->Prop},wpAny (model X.prog X.w) X.A t Q (λ_ _=>False) s->wpAny (model X.prog X.w) X.A t Q E s:=λh=>Wl h (λ_ _ z=>z) λ_ _ z=>z.elim;rcases turn i n σ3 H3 w3 with⟨stop,qn⟩ | ⟨go,N,hN,step⟩
 ·refine up (bV (T.done X.nox rfl rfl rfl hc i f8 s3 σ3 H3 (λ_ _=>False) I3 (zP JT) FL stop) λr s4 ⟨hr,I4⟩=>?_);subst hr;exact Yy ⟨σ3,H3,I4.unwish,qn⟩
 ·refine up (bV (T.item X.nox rfl rfl rfl hc i f8 s3 σ3 H3 (λ_ _=>False) I3 (zP JT) FL go) λr s4 ⟨u,hr,h4⟩=>?_);subst hr;refine up (bV h4 λ_ s5 ⟨x,H5,I5,r5,y5,LD,O6⟩=>?_);have I5':=I5.pinned (zP O6) (T.obj _ _ LD);refine up (bV (hg _ s5 σ3 H5 x u _ I5' r5 (step x H5 y5)) λ_ s6 ⟨σ6,H6,I6,q6⟩=>?_);refine up (bV (hb _ s6 σ6 H6 _ I6 q6) λf s7 q7=>?_);have again:∀{σ7:St}{H7:Hp},Inv X.nox (f8++l6 fp s5.heap) σ7 H7 s7->N σ7 H7->∃m,m<n/\∃i σ' H',Inv X.nox f8 σ' H' s7/\tn i s7.heap/\(∀b∈fp,H' b=none)/\W i m σ' H':=λ{σ7 H7} I7 n7=>by
   obtain⟨m',hm,w7⟩:=hN σ7 H7 n7;refine⟨m',hm,i+1,σ7,H7,I7.unpinned,T.keep _ _ _ LD λb hb o e=>(I7.pin (b,o) (VP _ (VP _ (eF hb e)))).1,λb hb=>?_,w7⟩;obtain⟨o,e,d⟩:=T.obj _ _ LD b hb;exact(I7.pin (b,o) (VP _ (VP _ (eF hb e)))).2.1
  cases f with
  |next=>obtain⟨σ7,H7,I7,n7⟩:=q7;exact again I7 n7
  |cont=>obtain⟨σ7,H7,I7,n7⟩:=q7;exact again I7 n7
  |brk=>obtain⟨σ7,H7,I7,q7⟩:=q7;exact⟨σ7,H7,I7.unpinned.unwish,q7⟩
  |ret v=>obtain⟨x7,σ7,H7,I7,r7,q7⟩:=q7;exact⟨x7,σ7,H7,I7.unpinned.unwish,r7,q7⟩
def s9(put:D->aQ->Option aQ)(δi:DA)(τ:DS):DS:=λρ=>δi ρ>>=λds=>noex (forL put τ ds ρ)
variable{Xw:Nat->Hp->Prop}{τ:DS}
def Ff{δi:DA}{g:TG}{put:D->aQ->Option aQ}(hc:X.calm=true)(hi:yu X Xw tg iter δi)(hg:PG X.nox tg g)(DY:z5 X.K g put)(hb:PSDs X.nox (λ_ _=>False) body τ)
 (hs:∀x,X6 iter X.env x=pure x:=by intro _;rfl):iy X Xw (.For tg iter body [] pos) (s9 put δi τ):=λs0 acS=>PS.weak (HW hc hi hg hb.ex hs) λD σ H ⟨F,ρ,s,w⟩=>by
 refine⟨F,ρ,s.st,?_⟩;unfold s9 at w
 match δi ρ,w with
 |none,w=>exact w
 |some (.ex n),w=>exact λF' H' e'=>w F' H' (s.ext.trans e')
 |some (.ok ds),w=>
  have w:WPS X.K (λ_ _=>False) s0 acS (forL put τ ds ρ) D:=by
   have w:WPS X.K Xw s0 acS (noex (forL put τ ds ρ)) D:=w;rcases(forL put τ ds ρ).cs with e | ⟨n,e⟩ | ⟨o,e⟩
   ·rw[e] at w;exact w.elim
   ·rw[e] at w;exact w.elim
   ·rw[e] at w⊢;cases o with
    |nx ρ'=>exact w
    |rt d=>exact w
  intro J H1 F1 e1 Nk;obtain⟨s1,back⟩:=(s.ext' e1).rebase;have hU:=si (s.ext' e1);generalize join F1 acS=U at s1 back hU;refine⟨λi m σ H=>m=ds.length - i/\i<=ds.length/\∃F ρ,StOk X.K F1 U F H σ ρ/\WPS X.K (λ_ _=>False) s0 acS (forL put τ (ds.drop i) ρ) D,⟨ds.length,by simp,V1 _,F1,ρ,s1,by simpa using w⟩,?_⟩;rintro i m σ2 H2 ⟨rfl,MR,F2,ρ2,s2,w2⟩;by_cases cN:i<ds.length
  ·obtain⟨d,hd⟩:∃d,ds[i]? =some d:=⟨_,Vg cN⟩
   obtain⟨MO,D1⟩:=(Nk F2 H2 i s2.ext.ff s2.st.fh).1 d hd;have ed:ds.drop i=d::ds.drop (i+1):=by
    obtain⟨hi,e⟩:=Vt.mp hd;rw[X4 hi,e]
   rw[ed] at w2;unfold forL at w2;refine .inr ⟨MO,λσ' H'=>∃F' ρ',StOk X.K F1 U F' H' σ' ρ'/\WPS X.K (λ_ _=>False) s0 acS (forL put τ (ds.drop (i+1)) ρ') D,λσ' H' ⟨F',ρ',h2,h3⟩=>⟨ds.length - (i+1),by omega,rfl,cN,F',ρ',h2,h3⟩,λx H3 y3=>?_⟩;obtain⟨F3,CH,q3⟩:=D1 x H3 y3
   match M0:put d ρ2,w2 with
   |none,w2=>exact w2.elim
   |some ρ3,w2=>
    refine DY F1 U F3 H3 σ2 ρ2 ρ3 d x _ (s2.ext' CH) q3 M0 λσ3 s3=>⟨F1,U,F3,ρ3,s3,?_⟩
    have w2:WPS X.K (λ_ _=>False) s0 acS (τ ρ3>>=λo=>match o with | .nx ρ2=>forL put τ (ds.drop (i+1)) ρ2 | .rt v=>aa (.rt v)) D:=w2
    match τ ρ3,w2 with
    |none,w2=>exact w2
    |some (.ok (.nx ρ')),w2=>exact λσ' F' H' s'=>⟨F',ρ',s',w2⟩
    |some (.ok (.rt d)),w2=>exact λv F' H' e q=>w2 v F' H' (back _ _ e) q
    |some (.ex n),w2=>exact λF' H' e=>w2 F' H' (back _ _ e)
  ·have hi:i=ds.length:=by omega
   subst hi;rw[aay] at w2;exact .inl ⟨(Nk F2 H2 ds.length s2.ext.ff s2.st.fh).2 (Vj _),w2 σ2 F2 H2 (s2.unbase back hU)⟩
end
end L3
namespace L3
def ON(n:Nat)(δs:DA):DS:=λρ=>bif Nat.beq n 7 then ag else(δs ρ>>=λds=>if ds.length<=lim then br n else ag)
end L3
namespace K1
open PySem PySem.Spec L2 L3
open PyProof.Rows hiding St
def L8:Nat->Nat
 |1=>1
 |_=>0
def cB(cA:Nat->Addr)(n:Nat):Addr:=cA (L8 n)
def vL(cA:Nat->Addr):List Addr:=[cA 0,cA 1]
def IZ(k:Nat):M D:=aa (.tup [.str "refused", .int ((L8 k:Nat):Int)])
def zZ:DS:=(bR (eQ (dA iH (aC (dV 0) (aC (dC (.raw (.ty "int"))) aN))) (IH (dA iH (aC (dV 0) (aC (dC (.raw (.ty "bool"))) aN))))))
def jY:List D->M D:=bY 1 (zZ)
def yj:DS:=(bR (eQ (dA iH (aC (dV 0) (aC (dC (.raw (.ty "str"))) aN))) (eQ (d2 jy (dA bL (aC (dV 0) aN)) (dC (.int 1))) (d2 (DB false) (dV 0) (dC (.str "abcdef"))))))
def cR:List D->M D:=bY 1 (yj)
def qu:DS:=(bR (ba 0 (λρ=>(aC (dA bL (aC (d2 a9 (dV 0) (dC (.int 0))) aN)) aN) ρ>>=dH) bu (dA aR (aC (dV 2) (aC (dV 0) aN)))))
def aV:List D->M D:=bY 2 (qu)
def yn:DS:=(bR (d2 jz (d2 a9 (dV 0) (d2 a9 (dV 1) (dC (.int 0)))) (d2 a9 (dV 1) (dC (.int 1)))))
def dF:List D->M D:=bY 2 (yn)
def zX:DS:=(aF (bh 3 (dA CS (aC (d2 yV (d2 a9 (dV 0) (dC (.int 0))) (d2 a9 (dV 1) (dC (.int 0)))) aN))) (aF (bh 4 (dA CS (aC (d2 yV (d2 a9 (dV 0) (dC (.int 1))) (d2 a9 (dV 1) (dC (.int 1)))) aN))) (aF (ix (dN (d2 jy (dV 2) (dC (.int 4)))) (bR (d2 jy (d2 dw (dV 3) (dV 4)) (dC (.int 1)))) dj) (bR (d2 jy (dA zd (aC (dV 3) (aC (dV 4) aN))) (dC (.int 1)))))))
def dr:List D->M D:=bY 5 (zX)
def IB:DS:=(aF (AZ 1) (aF (λρ=>noex ((cJ (putN 2) (BF (cg (dV 0)) (λρ=>(dV 0) ρ>>=mH)) (bN [2] (f9 1 (dV 2) (dC (.bl true))))) ρ)) (yt 1 (bR (dV 1)))))
def kB:List D->M D:=bY 3 (IB)
def qx:DS:=(aF (ix (dN (d2 jy (dV 0) (dA dW aN))) (bR (d2 gg (dC (.int 7)) (dV 1))) dj) (bR (d2 dw (d2 DC (dV 0) (d2 iw (dV 1) (dA bL (aC (dV 0) aN)))) (d2 gg (dC (.int 6553)) (d2 kC (dV 1) (dA bL (aC (dV 0) aN)))))))
def fE:List D->M D:=bY 2 (qx)
def yk:DS:=(aF (ix (oA (dQ (cH (dA iH (aC (dV 0) (aC (dC (.raw (.ty "str"))) aN))))) (dQ (dN (v8 (λi j=>decide (i<=j)) (λi j=>decide (i<=j)) (dC (.int 1)) (dA bL (aC (dV 0) aN)) (dC (.int 8)))))) (bR (dC (.bl false))) dj) (bR (dA allM (aC (ba 0 (λρ=>(dV 0) ρ>>=Lx) bu (ay 1 cR (aC (dV 0) aN))) aN))))
def fC:List D->M D:=bY 1 (yk)
def yo:DS:=(ix (oA (dQ (cH (ay 1 jY (aC (dV 0) aN)))) (dN (d2 (GQ true) (dV 0) (dA aR (aC (dC (.int 4)) (aC (dC (.int 8)) aN)))))) (ON 1 (aC (dC (.str "ways are 4 or 8")) aN)) dj)
def eR:List D->M D:=bY 1 (yo)
def yi:DS:=(aF (rf 1) (aF (λρ=>noex ((cJ (putN 2) (λρ=>(aC (dA bL (aC (dV 0) aN)) aN) ρ>>=dH) (bN [2] (Fy 1 (ay 2 aV (aC (dV 0) (aC (dV 2) aN)))))) ρ)) (yt 1 (bR (dV 1)))))
def fT:List D->M D:=bY 3 (yi)
def vH:DS:=(aF (rf 3) (aF (λρ=>noex ((cJ (putN 4) (λρ=>(aC (dA zd (aC (d2 yV (d2 a9 (dV 1) (dC (.int 0))) (dC (.int 1))) (aC (dC (.int 0)) aN))) (aC (dA B0 (aC (d2 dw (d2 a9 (dV 1) (dC (.int 0))) (dC (.int 2))) (aC (dA bL (aC (dV 0) aN)) aN))) aN)) ρ>>=sZ) (bN [4,5] (cJ (putN 5) (λρ=>(aC (dA zd (aC (d2 yV (d2 a9 (dV 1) (dC (.int 1))) (dC (.int 1))) (aC (dC (.int 0)) aN))) (aC (dA B0 (aC (d2 dw (d2 a9 (dV 1) (dC (.int 1))) (dC (.int 2))) (aC (dA bL (aC (d2 a9 (dV 0) (dC (.int 0))) aN)) aN))) aN)) ρ>>=sZ) (bN [5] (ix (cH (ay 3 dr (aC (dV 1) (aC (dA aR (aC (dV 4) (aC (dV 5) aN))) (aC (dV 2) aN))))) (g7 3 (dA aR (aC (dV 4) (aC (dV 5) aN)))) dj))))) ρ)) (yt 3 (bR (dV 3)))))
def c9:List D->M D:=bY 6 (vH)
def ng:DS:=(aF (bh 3 (d2 iw (d2 dw (d2 gg (d2 iw (ay 2 fE (aC (dV 0) (aC (dV 1) aN))) (dC (.int 2147483563))) (dC (.int 69069))) (d2 gg (dC (.int 104723)) (d2 dw (dV 1) (dC (.int 1))))) (dC (.int 2147483563)))) (aF (bh 3 (d2 iw (d2 dw (d2 gg (dV 3) (dV 3)) (d2 kC (dV 3) (dC (.int 3)))) (dC (.int 2147483399)))) (bR (d2 iw (d2 kC (d2 iw (d2 dw (d2 gg (dV 3) (dV 3)) (d2 kC (dV 3) (dC (.int 7)))) (dC (.int 2147483647))) (dC (.int 11))) (dV 2)))))
def aM:List D->M D:=bY 4 (ng)
def qw:DS:=(aF (ix (oA (dQ (cH (dA iH (aC (dV 0) (aC (dC (.raw (.ty "tuple"))) aN))))) (dQ (dN (v8 (λi j=>decide (i<=j)) (λi j=>decide (i<=j)) (dC (.int 1)) (dA bL (aC (dV 0) aN)) (dC (.int 8)))))) (bR (dC (.bl false))) dj) (aF (ix (dQ (cH (dA allM (aC (ba 0 (jX (dV 0)) bu (ay 1 fC (aC (dV 0) aN))) aN)))) (bR (dC (.bl false))) dj) (bR (dA allM (aC (ba 0 (jX (dV 0)) bu (d2 jy (dA bL (aC (dV 0) aN)) (dA bL (aC (d2 a9 (dV 1) (dC (.int 0))) aN)))) aN)))))
def ez:List D->M D:=bY 1 (qw)
def vF:DS:=(aF (bh 3 (ay 2 dF (aC (dV 0) (aC (dV 1) aN)))) (bR (ba 0 (cg (ay 3 c9 (aC (dV 0) (aC (dV 1) (aC (dV 2) aN))))) (dN (d2 jy (ay 2 dF (aC (dV 1) (aC (dV 0) aN))) (dV 4))) (dV 0))))
def cy:List D->M D:=bY 4 (vF)
def yl:DS:=(aF (bh 3 (d2 dw (dC (.int 1)) (ay 3 aM (aC (dV 0) (aC (dV 1) (aC (dV 2) aN)))))) (aF (bh 4 (d2 dw (dC (.int 1)) (ay 3 aM (aC (dV 0) (aC (d2 dw (dV 1) (dC (.int 1))) (aC (dV 2) aN)))))) (aF (bh 5 (d2 wB (dA dW (aC (dC (.str "ab")) (aC (dC (.str "abc")) (aC (dC (.str "aab")) (aC (dC (.str "fa")) aN))))) (ay 3 aM (aC (dV 0) (aC (d2 dw (dV 1) (dC (.int 2))) (aC (dC (.int 4)) aN)))))) (aF (bh 6 (dA aR aN)) (aF (λρ=>noex ((cJ (putN 7) (λρ=>(aC (dV 3) aN) ρ>>=dH) (bN [7,8] (aF (bh 8 (ba 0 (λρ=>(aC (dV 4) aN) ρ>>=dH) bu (d2 jz (dV 6) (ay 3 aM (aC (dV 1) (aC (d2 dw (d2 dw (d2 dw (dV 2) (dC (.int 3))) (d2 gg (dC (.int 7)) (dV 8))) (dV 0)) (aC (dA bL (aC (dV 6) aN)) aN))))))) (bh 6 (d2 oK (dV 6) (dA aR (aC (dM kh joinM (dC (.str "")) (aC (dV 8) aN)) aN))))))) ρ)) (bR (dV 6)))))))
def cp:List D->M D:=bY 9 (yl)
def vG:DS:=(ix (dQ (cH (ay 1 ez (aC (dV 0) aN)))) (ON 0 (aC (dC (.str "a tuple of 1 to 8 texts of 1 to 8 letters, all as long, is asked for")) aN)) dj)
def cz:List D->M D:=bY 1 (vG)
def vK:DS:=(aF (s_ 3 (λρ=>(dV 1) ρ>>=λx=>(dC .non) ρ>>=λy=>rG x y)) (aF (bh 4 (dA dW (aC (dV 1) aN))) (aF (λρ=>noex ((zH (cH (dV 4)) (bN [5,6,7] (aF (rf 5) (aF (cJ (putN 6) (cg (dV 4)) (bN [6,7] (cJ (putN 7) (cg (ay 3 cy (aC (dV 0) (aC (dV 6) (aC (dV 2) aN))))) (bN [7] (ix (FV (dN (d2 (qJ true) (dV 7) (dV 3)))) (aF (f9 3 (dV 7) (dV 6)) (g7 5 (dV 7))) dj))))) (yt 5 (bh 4 (dV 5))))))) ρ)) (yt 3 (bR (dV 3))))))
def cC:List D->M D:=bY 8 (vK)
def vI:DS:=(aF (AZ 1) (aF (λρ=>noex ((cJ (p6 [2,3]) (λρ=>(aC (dV 0) aN) ρ>>=Ak) (bN [2,3,4] (cJ (putN 4) (cg (dV 3)) (bN [4] (f9 1 (dV 4) (dV 2)))))) ρ)) (yt 1 (bR (dV 1)))))
def fb:List D->M D:=bY 5 (vI)
def zY:DS:=(bR (dM kh joinM (dC (.str "")) (aC (ba 0 (BF (cg (dV 0)) (jX (dV 0))) bu (d2 eZ (dV 0) (dC (.str "\n")))) aN)))
def du:List D->M D:=bY 1 (zY)
def ym:DS:=(aF (bh 1 (dA dW aN)) (aF (λρ=>noex ((cJ (putN 2) (λρ=>(aC (dA bL (aC (dV 0) aN)) aN) ρ>>=dH) (bN [2] (bh 1 (d2 mE (dV 1) (ba 0 (λρ=>(aC (dA bL (aC (d2 a9 (dV 0) (dC (.int 0))) aN)) aN) ρ>>=dH) bu (dA aR (aC (dV 3) (aC (dV 0) aN)))))))) ρ)) (bR (dV 1))))
def bw:List D->M D:=bY 3 (ym)
def vD:DS:=(aF (rf 3) (aF (λρ=>noex ((cJ (putN 4) (jX (dA aR (aC (d1 B3 (dC (.int 1))) (aC (dC (.int 0)) (aC (dC (.int 1)) aN))))) (bN [4,5,6,7,8] (cJ (putN 5) (jX (dA aR (aC (d1 B3 (dC (.int 1))) (aC (dC (.int 0)) (aC (dC (.int 1)) aN))))) (bN [5,6,7,8] (aF (bh 6 (d2 dw (d2 a9 (dV 1) (dC (.int 0))) (dV 4))) (aF (bh 7 (d2 dw (d2 a9 (dV 1) (dC (.int 1))) (dV 5))) (aF (bh 8 (eQ (v8 (λi j=>decide (i<=j)) (λi j=>decide (i<j)) (dC (.int 0)) (dV 6) (dA bL (aC (dV 0) aN))) (v8 (λi j=>decide (i<=j)) (λi j=>decide (i<j)) (dC (.int 0)) (dV 7) (dA bL (aC (d2 a9 (dV 0) (dC (.int 0))) aN))))) (ix (ku (cH (dV 8)) (ku (dN (d2 rQ (dA aR (aC (dV 4) (aC (dV 5) aN))) (dA aR (aC (dC (.int 0)) (aC (dC (.int 0)) aN))))) (oA (dN (d2 jy (dV 2) (dC (.int 8)))) (dN (d2 jy (d2 gg (dV 4) (dV 5)) (dC (.int 0))))))) (g7 3 (dA aR (aC (dV 6) (aC (dV 7) aN)))) dj)))))))) ρ)) (yt 3 (bR (dV 3)))))
def cY:List D->M D:=bY 9 (vD)
def gq(K:Vn)(cA:Nat->Addr):DS:=(aF (bh 1 (dA dW (aC (dA (nH K (vL cA)) (aC (dV 0) (aC (dC (.raw (.ref (cA 0)))) aN))) (aC (dA (nH K (vL cA)) (aC (dV 0) (aC (dC (.raw (.ref (cA 1)))) aN))) (aC (dA (nH K (vL cA)) (aC (dV 0) (aC (dC (.raw (.ref (cA 2)))) aN))) aN))))) (aF (bh 1 (d2 mE (dV 1) (dA dW (aC (dA (nH K (vL cA)) (aC (dV 0) (aC (dC (.raw (.ref (cA 3)))) aN))) (aC (dA (nH K (vL cA)) (aC (dV 0) (aC (dC (.raw (.ref (cA 4)))) aN))) (aC (dA (nH K (vL cA)) (aC (dV 0) (aC (dC (.raw (.ref (cA 5)))) aN))) aN)))))) (aF (bh 1 (d2 mE (dV 1) (dA dW (aC (dA (nH K (vL cA)) (aC (dV 0) (aC (dC (.raw (.ref (cA 6)))) aN))) aN)))) (aF (ix (oA (dN (d2 rQ (dM gz Dh (dV 1) (aC (dC (.bl true)) aN)) (dC (.int 1)))) (dQ (cH (dA (nH K (vL cA)) (aC (dV 0) (aC (dC (.raw (.ty "ValueError"))) aN)))))) (bR (dA aR (aC (dC (.str "refused")) (aC (d1 B3 (dC (.int 1))) aN)))) dj) (bR (dA aR (aC (dC (.str "refused")) (aC (dM gz Kg (dV 1) (aC (dC (.bl true)) aN)) aN))))))))
def bS(K:Vn)(cA:Nat->Addr):List D->M D:=bY 2 (gq K cA)
def vE:DS:=(aF (s_ 2 (λρ=>(aC (ba 0 (cg (ay 1 bw (aC (dV 0) aN))) bu (dA aR (aC (dV 0) (aC (dV 0) aN)))) aN) ρ>>=Ai)) (aF (rf 3) (aF (λρ=>noex ((cJ (putN 4) (cg (ay 1 bw (aC (dV 0) aN))) (bN [4,5,6] (cJ (putN 5) (cg (ay 3 cY (aC (dV 0) (aC (dV 4) (aC (dV 1) aN))))) (bN [5,6] (aF (bh 6 (d2 jz (d2 a9 (dV 0) (d2 a9 (dV 4) (dC (.int 0)))) (d2 a9 (dV 4) (dC (.int 1))))) (ix (ku (dN (d2 wC (dV 4) (dV 5))) (dN (d2 jy (dV 6) (d2 jz (d2 a9 (dV 0) (d2 a9 (dV 5) (dC (.int 0)))) (d2 a9 (dV 5) (dC (.int 1))))))) (g7 3 (dA aR (aC (dV 4) (aC (dV 5) aN)))) dj)))))) ρ)) (aF (bh 7 (dC (.bl true))) (aF (λρ=>noex ((zH (cH (dV 7)) (bN [8,9,10] (aF (bh 7 (dC (.bl false))) (yt 3 (cJ (p6 [8,9]) (cg (dV 3)) (bN [8,9,10] (ix (FV (dN (d2 rQ (d2 dz (dV 2) (dV 8)) (d2 dz (dV 2) (dV 9))))) (aF (bh 10 (Mj (dA sE (aC (d2 dz (dV 2) (dV 8)) (aC (d2 dz (dV 2) (dV 9)) aN))))) (aF (f9 2 (dV 8) (dV 10)) (aF (f9 2 (dV 9) (dV 10)) (bh 7 (dC (.bl true)))))) dj))))))) ρ)) (yt 2 (bR (dV 2))))))))
def cZ:List D->M D:=bY 11 (vE)
def vJ:DS:=(aF (ix (oA (dQ (cH (dA iH (aC (dV 0) (aC (dC (.raw (.ty "str"))) aN))))) (dQ (cH (dM kh ji (dV 0) (aC (dC (.str "\n")) aN))))) (ON 7 (aC (dC (.str "a text whose rows are each ended by a line feed is asked for")) aN)) dj) (aF (bh 1 (dA yd (aC (dM kh splitM (Q8 (dV 0) oN (oS (d1 B3 (dC (.int 1))))) (aC (dC (.str "\n")) aN)) aN))) (aF (ix (dQ (cH (ay 1 ez (aC (dV 1) aN)))) (ON 7 (aC (dC (.str "the text of a board is asked for")) aN)) dj) (bR (dV 1)))))
def dU:List D->M D:=bY 2 (vJ)
def rk:DS:=(aF (rf 2) (aF (AZ 3) (aF (λρ=>noex ((cJ (putN 4) (cg (ay 1 fT (aC (dV 0) aN))) (bN [4,5] (ix (FV (dN (d2 (qJ true) (dV 4) (dV 3)))) (aF (bh 5 (dA tu (aC (ay 3 cC (aC (dV 0) (aC (dV 4) (aC (dV 1) aN)))) aN))) (aF (g7 2 (dV 5)) (Cr 3 (ay 1 kB (aC (dV 5) aN))))) dj))) ρ)) (yt 2 (bR (dV 2))))))
def eM:List D->M D:=bY 6 (rk)
def vC:DS:=(aF (u_ (ay 1 cz (aC (dV 0) aN))) (bR (ay 1 du (aC (dV 0) aN))))
def bZ:List D->M D:=bY 1 (vC)
def z0:DS:=(aF (u_ (ay 1 cz (aC (dV 0) aN))) (aF (u_ (ay 1 eR (aC (dV 1) aN))) (aF (bh 2 (ay 1 fb (aC (ay 2 eM (aC (dV 0) (aC (dV 1) aN))) aN))) (aF (rf 3) (aF (λρ=>noex ((cJ (putN 4) (λρ=>(aC (dA bL (aC (dV 0) aN)) aN) ρ>>=dH) (bN [4] (g7 3 (ba 0 (cg (ay 2 aV (aC (dV 0) (aC (dV 4) aN)))) bu (d2 dz (dV 3) (dV 0)))))) ρ)) (yt 3 (bR (dV 3))))))))
def cS:List D->M D:=bY 5 (z0)
def rl:DS:=(bR (dM kh zfillM (dA lD (aC (dV 0) aN)) (aC (dC (.int 2)) aN)))
def bT:List D->M D:=bY 1 (rl)
def qz:DS:=(aF (rf 2) (aF (s9 (putN 3) (cg (ay 2 cS (aC (dV 0) (aC (dV 1) aN)))) (bN [3] (g7 2 (dM kh fK (dC (.str " ")) (aC (ba 0 (cg (dV 3)) bu (ay 1 bT (aC (dV 0) aN))) aN))))) (yt 2 (bR (ay 1 du (aC (dV 2) aN))))))
def bb:List D->M D:=bY 4 (qz)
def qy:DS:=(Ls (bR (Q7 (dN (d2 jy (dV 0) (dC (.int 0)))) (ay 1 bZ (aC (dV 1) aN)) (ay 2 bb (aC (dV 1) (aC (dV 2) aN))))) λk=>noex (IZ k))
def aG:List D->M D:=bY 4 (qy)
def nh:DS:=(bh 1 (ay 3 cp (aC (dV 0) (aC (dC (.int 0)) (aC (dC (.int 5)) aN)))))
def ni:DS:=(bh 2 (dC (.str "")))
def nj:DS:=(λρ=>noex ((cJ (putN 3) (jX (dV 1)) (bN [3] (bh 2 (d2 eZ (d2 eZ (dV 2) (dV 3)) (dC (.str "\n")))))) ρ))
def nk:DS:=(ix (oA (dN (d2 rQ (ay 3 aG (aC (dC (.int 0)) (aC (dV 1) (aC (dC (.int 4)) aN)))) (dV 2))) (dN (d2 rQ (ay 1 dU (aC (dV 2) aN)) (dV 1)))) (bR (dC (.bl false))) dj)
def nq:DS:=(Ij [3] (λρ=>noex ((cJ (putN 4) (jX (dA aR (aC (dC (.int 4)) (aC (dC (.int 8)) aN)))) (bN [3,4,5,6,7,8] (aF (bh 5 (ay 2 cZ (aC (dV 1) (aC (dV 4) aN)))) (aF (bh 6 (d1 fP (ba 0 (cg (ay 1 bw (aC (dV 1) aN))) bu (d2 dz (dV 6) (dV 0))))) (aF (bh 7 (dC (.str ""))) (aF (Ij [3] (cJ (putN 3) (λρ=>(aC (dA bL (aC (dV 1) aN)) aN) ρ>>=dH) (bN [3,8] (aF (bh 8 (ba 0 (λρ=>(aC (dA bL (aC (d2 a9 (dV 1) (dC (.int 0))) aN)) aN) ρ>>=dH) bu (dM gz oT (dV 7) (aC (d2 dz (dV 6) (dA aR (aC (dV 4) (aC (dV 0) aN)))) aN)))) (bh 7 (d2 eZ (d2 eZ (dV 7) (dM kh fK (dC (.str " ")) (aC (ba 0 (cg (dV 8)) bu (d2 eZ (dA lD (aC (d2 kC (dV 0) (dC (.int 10))) aN)) (dA lD (aC (d2 iw (dV 0) (dC (.int 10))) aN)))) aN))) (dC (.str "\n")))))))) (ix (dN (d2 rQ (ay 3 aG (aC (dC (.int 1)) (aC (dV 1) (aC (dV 4) aN)))) (dV 7))) (bR (dC (.bl false))) dj))))))) ρ)))
def nr:DS:=(bh 9 (d2 wB (dA dW (aC (dC .non) (aC (dA aR aN) (aC (dA Ej (aC (dV 1) aN)) (aC (d2 oK (dV 1) (dA aR (aC (dC (.str "")) aN))) (aC (dA aR (aC (dC (.str "g")) aN)) aN)))))) (ay 3 aM (aC (dV 0) (aC (dC (.int 60)) (aC (dC (.int 5)) aN))))))
def nu:DS:=(ix (dN (d2 rQ (ba 0 (λρ=>(aC (dC (.int 2)) aN) ρ>>=dH) bu (ay 3 aG (aC (dV 0) (aC (dV 10) (aC (dC (.int 5)) aN))))) (d2 JU (dA dW (aC (dA aR (aC (dC (.str "refused")) (aC (dC (.int 0)) aN))) aN)) (dC (.int 2))))) (bR (dC (.bl false))) dj)
def nv:DS:=(bR (d2 jy (ay 3 aG (aC (dC (.int 1)) (aC (dV 1) (aC (d2 wB (dA dW (aC (dC (.int 5)) (aC (dC .non) (aC (dC (.bl true)) (aC (dC (.str "4")) aN))))) (ay 3 aM (aC (dV 0) (aC (dC (.int 61)) (aC (dC (.int 4)) aN))))) aN)))) (dA aR (aC (dC (.str "refused")) (aC (dC (.int 1)) aN)))))
def mw:DS:=(aF nh (aF ni (aF nj (aF nk (aF nq (aF nr (aF nu nv)))))))
def jj:List D->M D:=bY 10 mw
structure Bl (K:Vn) (mg:Str->Option Value) (base:Heap) (cv:Nat->Value) (cA:Nat->Addr) (Cp:Addr):Prop where
 len:mg "len"=none
 isinstance:mg "isinstance"=none
 all:mg "all"=none
 abs:mg "abs"=none
 max:mg "max"=none
 min:mg "min"=none
 range:mg "range"=none
 str:mg "str"=none
 int:mg "int"=none
 bool:mg "bool"=none
 tuple:mg "tuple"=none
 list:mg "list"=none
 dict:mg "dict"=none
 set:mg "set"=none
 sorted:mg "sorted"=none
 enumerate:mg "enumerate"=none
 ValueError:mg "ValueError"=none
 LETTERS:∃t,mg "LETTERS"=some (.str "abcdef" t)
 MOST_ROWS:∃t,mg "MOST_ROWS"=some (.int 8 t)
 MOST_COLUMNS:∃t,mg "MOST_COLUMNS"=some (.int 8 t)
 cls0:mg "NoBoard"=some (.ref (cA 0))
 cls1:mg "NoWays"=some (.ref (cA 1))
 cls2:mg "NoCell"=some (.ref (cA 2))
 cls3:mg "NoLetter"=some (.ref (cA 3))
 cls4:mg "NoNumber"=some (.ref (cA 4))
 cls5:mg "NoFit"=some (.ref (cA 5))
 cls6:mg "Nothing"=some (.ref (cA 6))
 Sk:mg "NoText"=some (.ref (cA 7))
 own0:OwnCls "NoBoard" (cA 0) [.type "ValueError", .type "Exception", .type "BaseException", .type "object"] "ValueError.__new__" mg base
 own1:OwnCls "NoWays" (cA 1) [.type "ValueError", .type "Exception", .type "BaseException", .type "object"] "ValueError.__new__" mg base
 cvE:∀n,cv n= .ref (cB cA n)
 top:mg "PatchError"=some (.ref Cp)
 exm:∀n,YQ K (cv n) (.ref Cp)=some true
 exs:∀C∈vL cA,ExcC K C
 kit:∀n m,n∈[0,1]->m∈[0,1,2,3,4,5,6,7]->VE K (.ref (cA n)) (.ref (cA m))=some (decide (n=m))
 kitV:∀n,n∈[0,1]->VE K (.ref (cA n)) (.type "ValueError")=some true
section
variable{P:VG}{w:World}{K:Vn}{mg:Str->Option Value}{base:Heap}{cv:Nat->Value}{cA:Nat->Addr}{Cp:Addr}{f:Addr}
abbrev ke:Stmt:=top 14
def pA:List Str:=["thing"]
def pR:List Str:=["thing"]
def mR{j k:Nat}{A:V2}(r:Room k A)(h:j<=k:=by decide):Room j A:=r.mono h
def dB{N Q:List Str}{sc:Scope}(k:sc.kind= .function:=by rfl)(c:sc.isCoroutine=false:=by rfl)(g:sc.isGenerator=false:=by rfl)(p:N.take Q.length=Q:=by rfl)(h:N.Nodup/\(∀x∈Q,sc.names.lookup x=some .local\/sc.names.lookup x=some .cell)/\∀y∈sc.names,y.2≠ .free:=by decide+kernel):FnScope N Q sc:=⟨k,c,g,h.1,p,h.2.1,h.2.2⟩
def xV:FnScope pA pR (ai ke):=dB
def xp(B:Bl K mg base cv cA Cp)(T:bJ K mg "is_whole" ke f):aw P w K mg base cv 1 "is_whole" 1 (jY):=
 aH (N:=pA) (ps:=pR) T xV (λ_ _ _ _ _ _ us hl=>match us,hl with | [_],_=>rfl) λ_ _ _ _ _ _ hr=>
  (ao (aI (uP (l5 rfl B.isinstance rfl (ae (af (pv 0)) (ae (pX rfl B.int rfl) ah))) (zA (KZ (l5 rfl B.isinstance rfl (ae (af (pv 0)) (ae (pX rfl B.bool rfl) ah))))))))
abbrev i9:Stmt:=top 15
def mJ:List Str:=["thing"]
def mT:List Str:=["thing"]
def vc:FnScope mJ mT (ai i9):=dB
def uG(B:Bl K mg base cv cA Cp)(T:bJ K mg "is_letter" i9 f):aw P w K mg base cv 1 "is_letter" 1 (cR):=
 aH (N:=mJ) (ps:=mT) T vc (λ_ _ _ _ _ _ us hl=>match us,hl with | [_],_=>rfl) λ_ _ _ _ _ _ hr=>
  (ao (aI (uP (l5 rfl B.isinstance rfl (ae (af (pv 0)) (ae (pX rfl B.str rfl) ah))) (uP (xB hr.units (cE rfl B.len (ae (af (pv 0)) ah)) ar) (zA (KW (af (pv 0)) (HF rfl B.LETTERS (by decide))))))))
abbrev d7:Stmt:=top 20
def dX:List Str:=["board","row"]
def iT:List Str:=["board","row"]
def nM:FnScope dX iT (ai d7):=dB
def nJ(B:Bl K mg base cv cA Cp)(T:bJ K mg "cells_of_row" d7 f):aw P w K mg base cv 1 "cells_of_row" 2 (aV):=
 aH (N:=dX) (ps:=iT) T nM (λ_ _ _ _ _ _ us hl=>match us,hl with | [_,_],_=>rfl) λ_ _ _ _ _ _ hr=>
  (ao (aI (da (tn:=["column"]) (n:=0) (bA (N:=dX) (osc:=(ai d7)) rfl rfl (by decide+kernel)) rfl rfl (b_ rfl B.range (ae (cE rfl B.len (ae (bI (af (pv 0)) ar) ah)) ah)) (λ_ _ _ _ _ _ _=>cG (show WI (((["column"]:List Str))++cM ["column"] dX) by decide+kernel) rfl rfl) (λ_ _ _ _ _ _=>b6) (λ_ _ _ _ _ _=>(bW (ae (af (pv 2)) (ae (af (pv 0)) ah)))))))
abbrev ja:Stmt:=top 22
def mL:List Str:=["board","cell"]
def mX:List Str:=["board","cell"]
def ve:FnScope mL mX (ai ja):=dB
def uK(B:Bl K mg base cv cA Cp)(T:bJ K mg "letter_of" ja f):aw P w K mg base cv 1 "letter_of" 2 (dF):=
 aH (N:=mL) (ps:=mX) T ve (λ_ _ _ _ _ _ us hl=>match us,hl with | [_,_],_=>rfl) λ_ _ _ _ _ _ hr=>
  (ao (aI (uS (bI (af (pv 0)) (bI (af (pv 1)) ar)) (bI (af (pv 1)) ar))))
abbrev kc:Stmt:=top 23
def pz:List Str:=["one","other","ways","down","along"]
def pO:List Str:=["one","other","ways"]
def jc:FnScope pz pO (ai kc):=dB
def xm(B:Bl K mg base cv cA Cp)(T:bJ K mg "are_next" kc f):aw P w K mg base cv 1 "are_next" 3 (dr):=
 aH (N:=pz) (ps:=pO) T jc (λ_ _ _ _ _ _ us hl=>match us,hl with | [_,_,_],_=>rfl) λ_ _ _ _ _ _ hr=>
  (aj (aJ jc.nd rfl (.inl rfl) (EN rfl B.abs (ae (uV (bI (af (pv 0)) ar) (bI (af (pv 1)) ar)) ah) rfl)) (aj (aJ jc.nd rfl (.inl rfl) (EN rfl B.abs (ae (uV (bI (af (pv 0)) ar) (bI (af (pv 1)) ar)) ah) rfl)) (aj (cF (p4 hr.units (af (pv 2)) ar) (ao (aI (xB hr.units (cW (af (pv 3)) (af (pv 4))) ar))) bQ) (ao (aI (xB hr.units (zx rfl rfl B.max rfl (ae (af (pv 3)) (ae (af (pv 4)) ah))) ar))))))
abbrev vb:Stmt:=top 25
def AF:List Str:=["things","found","thing"]
def AK:List Str:=["things"]
def qb:FnScope AF AK (ai vb):=dB
def EF(B:Bl K mg base cv cA Cp)(T:bJ K mg "keyed" vb f):aw P w K mg base cv 1 "keyed" 1 (kB):=
 aH (N:=AF) (ps:=AK) T qb (λ_ _ _ _ _ _ us hl=>match us,hl with | [_],_=>rfl) λ_ _ _ _ _ _ hr=>
  (aj (p3 qb.nd rfl (.inl rfl)) (aj (cP (bF VR rfl (AQ (bM (af (pv 0))) (E2 (af (pv 0)))) (a8 qb.nd rfl (.inl rfl)) bt (aW (ao (iY hr.units (pv 1) (af (pv 2)) gB))))) (ao (dq (i:=1) (aI (af (pv 1)))))))
abbrev ib:Stmt:=top 30
def kT:List Str:=["found","numbers","number","patch","cell"]
def lb:List Str:=["found"]
def dm:FnScope kT lb (ai ib):=dB
def qZ(B:Bl K mg base cv cA Cp)(T:bJ K mg "numbers_of" ib f):aw P w K mg base cv 1 "numbers_of" 1 (fb):=
 aH (N:=kT) (ps:=lb) T dm (λ_ _ _ _ _ _ us hl=>match us,hl with | [_],_=>rfl) λ_ _ _ _ _ _ hr=>
  (aj (p3 dm.nd rfl (.inl rfl)) (aj (cP (bF VR rfl (EZ rfl B.enumerate (ae (af (pv 0)) ah)) (Fc rfl (ll (a8 dm.nd rfl (.inl rfl)) (ll (a8 dm.nd rfl (.inl rfl)) AR))) (AV (is:=[2,3])) (aW (ao (bF VR rfl (bM (af (pv 3))) (a8 dm.nd rfl (.inl rfl)) bt (aW (ao (iY hr.units (pv 1) (af (pv 4)) (af (pv 2)))))))))) (ao (dq (i:=1) (aI (af (pv 1)))))))
abbrev g8:Stmt:=top 33
def gV:List Str:=["rows"]
def pP:List Str:=["rows"]
def xT:FnScope gV pP (ai g8):=dB
def xn(B:Bl K mg base cv cA Cp)(T:bJ K mg "as_lines" g8 f):aw P w K mg base cv 1 "as_lines" 1 (du):=
 aH (N:=gV) (ps:=pP) T xT (λ_ _ _ _ _ _ us hl=>match us,hl with | [_],_=>rfl) λ_ _ _ _ _ _ hr=>
  (ao (aI (AO bO (ae (da (tn:=["row"]) (n:=0) (bA (N:=gV) (osc:=(ai g8)) rfl rfl (by decide+kernel)) rfl rfl (AQ (bM (af (pv 0))) (gY (af (pv 0)))) (λ_ _ _ _ _ _ _=>cG (show WI (((["row"]:List Str))++cM ["row"] gV) by decide+kernel) rfl rfl) (λ_ _ _ _ _ _=>b6) (λ_ _ _ _ _ _=>(jq (af (pv 0)) bO))) ah))))
abbrev gp:Stmt:=top 34
def jH:List Str:=["number"]
def jK:List Str:=["number"]
def qc:FnScope jH jK (ai gp):=dB
def pN(B:Bl K mg base cv cA Cp)(T:bJ K mg "two_figures" gp f):aw P w K mg base cv 1 "two_figures" 1 (bT):=
 aH (N:=jH) (ps:=jK) T qc (λ_ _ _ _ _ _ us hl=>match us,hl with | [_],_=>rfl) λ_ _ _ _ _ _ hr=>
  (ao (aI (EW (uU rfl B.str rfl (ae (af (pv 0)) ah)) (ae ar ah))))
abbrev kf:Stmt:=top 39
def pB:List Str:=["_law_script","_law_k"]
def pS:List Str:=["_law_script","_law_k"]
def xW:FnScope pB pS (ai kf):=dB
def xq(B:Bl K mg base cv cA Cp)(T:bJ K mg "_law_cell" kf f):aw P w K mg base cv 1 "_law_cell" 2 (fE):=
 aH (N:=pB) (ps:=pS) T xW (λ_ _ _ _ _ _ us hl=>match us,hl with | [_,_],_=>rfl) λ_ _ _ _ _ _ hr=>
  (aj (cF (p4 hr.units (af (pv 0)) (gj ah)) (ao (aI (iX ar (af (pv 1))))) bQ) (ao (aI (cW (KY (af (pv 0)) (j8 (af (pv 1)) (cE rfl B.len (ae (af (pv 0)) ah)))) (iX ar (pW (af (pv 1)) (cE rfl B.len (ae (af (pv 0)) ah))))))))
abbrev gb:Stmt:=top 42
def fX:List Str:=["_law_board_here","_law_found","_law_row"]
def mV:List Str:=["_law_board_here"]
def fj:FnScope fX mV (ai gb):=dB
def uI(B:Bl K mg base cv cA Cp)(T:bJ K mg "_law_cells" gb f):aw P w K mg base cv 1 "_law_cells" 1 (bw):=
 aH (N:=fX) (ps:=mV) T fj (λ_ _ _ _ _ _ us hl=>match us,hl with | [_],_=>rfl) λ_ _ _ _ _ _ hr=>
  (aj (aJ fj.nd rfl (.inl rfl) (gj ah)) (aj (cP (bF VR rfl (b_ rfl B.range (ae (cE rfl B.len (ae (af (pv 0)) ah)) ah)) (a8 fj.nd rfl (.inr rfl)) bt (aW (ao (aJ fj.nd rfl (.inl rfl) (uQ (af (pv 1)) (da (tn:=["_law_column"]) (n:=0) (bA (N:=fX) (osc:=(ai gb)) rfl rfl (by decide+kernel)) rfl rfl (b_ rfl B.range (ae (cE rfl B.len (ae (bI (af (pv 0)) ar) ah)) ah)) (λ_ _ _ _ _ _ _=>cG (show WI (((["_law_column"]:List Str))++cM ["_law_column"] fX) by decide+kernel) rfl rfl) (λ_ _ _ _ _ _=>b6) (λ_ _ _ _ _ _=>(bW (ae (af (pv 3)) (ae (af (pv 0)) ah))))))))))) (ao (aI (af (pv 1))))))
abbrev g_:Stmt:=top 43
def kQ:List Str:=["_law_board_here","_law_cell_here","_law_ways","_law_found","_law_down","_law_right","_law_row","_law_column","_law_inside"]
def k7:List Str:=["_law_board_here","_law_cell_here","_law_ways"]
def cb:FnScope kQ k7 (ai g_):=dB
def qU(B:Bl K mg base cv cA Cp)(T:bJ K mg "_law_beside" g_ f):aw P w K mg base cv 1 "_law_beside" 3 (cY):=
 aH (N:=kQ) (ps:=k7) T cb (λ_ _ _ _ _ _ us hl=>match us,hl with | [_,_,_],_=>rfl) λ_ _ _ _ _ _ hr=>
  (aj (fY cb.nd rfl (.inl rfl)) (aj (cP (bF VR rfl (gY (bW (ae (uT ar) (ae ar (ae ar ah))))) (a8 cb.nd rfl (.inl rfl)) bt (aW (ao (bF VR rfl (gY (bW (ae (uT ar) (ae ar (ae ar ah))))) (a8 cb.nd rfl (.inl rfl)) bt (aW (aj (aJ cb.nd rfl (.inl rfl) (cW (bI (af (pv 1)) ar) (af (pv 4)))) (aj (aJ cb.nd rfl (.inl rfl) (cW (bI (af (pv 1)) ar) (af (pv 5)))) (aj (aJ cb.nd rfl (.inl rfl) (uP (ER sI Js ar (af (pv 6)) (cE rfl B.len (ae (af (pv 0)) ah))) (zA (ER sI Js ar (af (pv 7)) (cE rfl B.len (ae (bI (af (pv 0)) ar) ah)))))) (ao (cF (PDW.t (uW (de (af (pv 8))) (uW (p5 hr.units (bW (ae (af (pv 4)) (ae (af (pv 5)) ah))) (bW (ae ar (ae ar ah)))) (xD (PDW.t (j9 (p4 hr.units (af (pv 2)) ar) (gZ (p4 hr.units (iX (af (pv 4)) (af (pv 5))) ar)))))))) (ao (g6 (pv 3) (bW (ae (af (pv 6)) (ae (af (pv 7)) ah))))) bQ))))))))))) (ao (dq (i:=3) (aI (af (pv 3)))))))
abbrev gn:Stmt:=top 46
def jG:List Str:=["_law_e","_law_flags"]
def jJ:List Str:=["_law_e"]
def d9:FnScope jG jJ (ai gn):=dB
def pM(B:Bl K mg base cv cA Cp)(T:bJ K mg "_law_refused" gn f):nN P w K mg base cv 1 "_law_refused" 1 (bS K cA):=
 yJ (N:=jG) (ps:=jJ) T d9 (λ_ _ _ _ _ _ us hl=>match us,hl with | [_],_=>rfl) λcx A outer s H hr=>
  (aj (aJ d9.nd rfl (.inl rfl) (gj (ae (iW B.exs rfl B.isinstance rfl (ae (af (pv 0)) (ae (gX rfl B.cls0) ah))) (ae (iW B.exs rfl B.isinstance rfl (ae (af (pv 0)) (ae (gX rfl B.cls1) ah))) (ae (iW B.exs rfl B.isinstance rfl (ae (af (pv 0)) (ae (gX rfl B.cls2) ah))) ah))))) (aj (aJ d9.nd rfl (.inl rfl) (uQ (af (pv 1)) (gj (ae (iW B.exs rfl B.isinstance rfl (ae (af (pv 0)) (ae (gX rfl B.cls3) ah))) (ae (iW B.exs rfl B.isinstance rfl (ae (af (pv 0)) (ae (gX rfl B.cls4) ah))) (ae (iW B.exs rfl B.isinstance rfl (ae (af (pv 0)) (ae (gX rfl B.cls5) ah))) ah)))))) (aj (aJ d9.nd rfl (.inl rfl) (uQ (af (pv 1)) (gj (ae (iW B.exs rfl B.isinstance rfl (ae (af (pv 0)) (ae (gX rfl B.cls6) ah))) ah)))) (aj (cF (PDW.t (j9 (p5 hr.units (KS (af (pv 1)) (ae gB ah)) ar) (gZ (d6 (de (iW B.exs rfl B.isinstance rfl (ae (af (pv 0)) (ae (pX rfl B.ValueError rfl) ah)))))))) (ao (aI (bW (ae bO (ae (uT ar) ah))))) bQ) (ao (aI (bW (ae bO (ae (KU (af (pv 1)) (ae gB ah)) ah)))))))))
abbrev lz:Stmt:=top 16
def kP:List Str:=["thing"]
def xx:List Str:=["thing"]
def Cs:FnScope kP xx (ai lz):=dB
def B7(B:Bl K mg base cv cA Cp)(vX:aw P w K mg base cv 1 "is_letter" 1 cR)(T:bJ K mg "is_row" lz f):aw P w K mg base cv 2 "is_row" 1 (fC):=
 aH (N:=kP) (ps:=xx) T Cs (λ_ _ _ _ _ _ us hl=>match us,hl with | [_],_=>rfl) λ_ _ _ _ _ _ hr=>
  (aj (cF (PDW.t (j9 (d6 (de (l5 rfl B.isinstance rfl (ae (af (pv 0)) (ae (pX rfl B.str rfl) ah))))) (gZ (d6 (Fh sI sI ar (cE rfl B.len (ae (af (pv 0)) ah)) (AM rfl B.MOST_COLUMNS)))))) (ao (aI gB)) bQ) (ao (aI (zv rfl rfl B.all rfl (ae (da (tn:=["sign"]) (n:=0) (bA (N:=kP) (osc:=(ai lz)) rfl rfl (by decide+kernel)) rfl rfl (HG (af (pv 0))) (λ_ _ _ _ _ _ _=>cG (show WI (((["sign"]:List Str))++cM ["sign"] kP) by decide+kernel) rfl rfl) (λ_ _ _ _ _ _=>b6) (λ_ _ _ _ _ _=>(b0 vX (mR hr) rfl ei (ae (af (pv 0)) ah) rfl))) ah)))))
abbrev jb:Stmt:=top 19
def mM:List Str:=["thing"]
def mY:List Str:=["thing"]
def vf:FnScope mM mY (ai jb):=dB
def uL(B:Bl K mg base cv cA Cp)(yG:aw P w K mg base cv 1 "is_whole" 1 jY)(T:bJ K mg "need_ways" jb f):aw P w K mg base cv 2 "need_ways" 1 (eR):=
 aH (N:=mM) (ps:=mY) T vf (λ_ _ _ _ _ _ us hl=>match us,hl with | [_],_=>rfl) λ_ _ _ _ _ _ hr=>
  (ao (cF (PDW.t (j9 (d6 (de (b0 yG (mR hr) rfl cO (ae (af (pv 0)) ah) rfl))) (gZ (Cj (af (pv 0)) (bW (ae ar (ae ar ah))))))) (ao (sQ B.own1 aaq rfl rfl (B.cvE 1) Jk (ae bO ah))) bQ))
abbrev i8:Stmt:=top 21
def mI:List Str:=["board","found","row"]
def mS:List Str:=["board"]
def ij:FnScope mI mS (ai i8):=dB
def uF(B:Bl K mg base cv cA Cp)(fv:aw P w K mg base cv 1 "cells_of_row" 2 aV)(T:bJ K mg "all_cells" i8 f):aw P w K mg base cv 2 "all_cells" 1 (fT):=
 aH (N:=mI) (ps:=mS) T ij (λ_ _ _ _ _ _ us hl=>match us,hl with | [_],_=>rfl) λ_ _ _ _ _ _ hr=>
  (aj (fY ij.nd rfl (.inl rfl)) (aj (cP (bF VR rfl (b_ rfl B.range (ae (cE rfl B.len (ae (af (pv 0)) ah)) ah)) (a8 ij.nd rfl (.inl rfl)) bt (aW (ao (HX (pv 1) (b0 fv (mR hr) rfl ei (ae (af (pv 0)) (ae (af (pv 2)) ah)) rfl)))))) (ao (dq (i:=1) (aI (af (pv 1)))))))
abbrev hZ:Stmt:=top 24
def kS:List Str:=["board","cell","ways","found","row","column"]
def la:List Str:=["board","cell","ways"]
def eN:FnScope kS la (ai hZ):=dB
def qY(B:Bl K mg base cv cA Cp)(yF:aw P w K mg base cv 1 "are_next" 3 dr)(T:bJ K mg "next_cells" hZ f):aw P w K mg base cv 2 "next_cells" 3 (c9):=
 aH (N:=kS) (ps:=la) T eN (λ_ _ _ _ _ _ us hl=>match us,hl with | [_,_,_],_=>rfl) λ_ _ _ _ _ _ hr=>
  (aj (fY eN.nd rfl (.inl rfl)) (aj (cP (bF VR rfl (pY rfl B.range (ae (zx rfl rfl B.max rfl (ae (uV (bI (af (pv 1)) ar) ar) (ae ar ah))) (ae (ET rfl rfl B.min rfl (ae (cW (bI (af (pv 1)) ar) ar) (ae (cE rfl B.len (ae (af (pv 0)) ah)) ah))) ah))) (a8 eN.nd rfl (.inl rfl)) bt (aW (ao (bF VR rfl (pY rfl B.range (ae (zx rfl rfl B.max rfl (ae (uV (bI (af (pv 1)) ar) ar) (ae ar ah))) (ae (ET rfl rfl B.min rfl (ae (cW (bI (af (pv 1)) ar) ar) (ae (cE rfl B.len (ae (bI (af (pv 0)) ar) ah)) ah))) ah))) (a8 eN.nd rfl (.inl rfl)) bt (aW (ao (cF (de (b0 yF (mR hr) rfl ei (ae (af (pv 1)) (ae (bW (ae (af (pv 4)) (ae (af (pv 5)) ah))) (ae (af (pv 2)) ah))) rfl)) (ao (g6 (pv 3) (bW (ae (af (pv 4)) (ae (af (pv 5)) ah))))) bQ)))))))) (ao (dq (i:=3) (aI (af (pv 3)))))))
abbrev i_:Stmt:=top 40
def mK:List Str:=["_law_script","_law_k","_law_many","_law_cell_here"]
def mW:List Str:=["_law_script","_law_k","_law_many"]
def ik:FnScope mK mW (ai i_):=dB
def uJ(B:Bl K mg base cv cA Cp)(yH:aw P w K mg base cv 1 "_law_cell" 2 fE)(T:bJ K mg "_law_drawn" i_ f):aw P w K mg base cv 2 "_law_drawn" 3 (aM):=
 aH (N:=mK) (ps:=mW) T ik (λ_ _ _ _ _ _ us hl=>match us,hl with | [_,_,_],_=>rfl) λ_ _ _ _ _ _ hr=>
  (aj (aJ ik.nd rfl (.inl rfl) (j8 (cW (iX (j8 (b0 yH (mR hr) rfl cO (ae (af (pv 0)) (ae (af (pv 1)) ah)) rfl) ar) ar) (iX ar (cW (af (pv 1)) ar))) ar)) (aj (aJ ik.nd rfl (.inl rfl) (j8 (cW (iX (af (pv 3)) (af (pv 3))) (pW (af (pv 3)) ar)) ar)) (ao (aI (j8 (pW (j8 (cW (iX (af (pv 3)) (af (pv 3))) (pW (af (pv 3)) ar)) ar) ar) (af (pv 2)))))))
abbrev fg:Stmt:=top 44
def fc:List Str:=["_law_board_here","_law_ways","_law_found","_law_pairs","_law_cell_here","_law_there","_law_mine","_law_changed","_law_one","_law_other","_law_least"]
def k8:List Str:=["_law_board_here","_law_ways"]
def aY:FnScope fc k8 (ai fg):=dB
def qV(B:Bl K mg base cv cA Cp)(dD:aw P w K mg base cv 1 "_law_cells" 1 bw)(tO:aw P w K mg base cv 1 "_law_beside" 3 cY)(T:bJ K mg "_law_labels" fg f):aw P w K mg base cv 2 "_law_labels" 2 (cZ):=
 aH (N:=fc) (ps:=k8) T aY (λ_ _ _ _ _ _ us hl=>match us,hl with | [_,_],_=>rfl) λ_ _ _ _ _ _ hr=>
  (aj (xG aY.nd rfl (.inl rfl) (EY hr.units rfl rfl B.dict rfl (ae (da (tn:=["_law_cell_here"]) (n:=0) (bA (N:=fc) (osc:=(ai fg)) rfl rfl (by decide+kernel)) rfl rfl (bM (b0 dD (mR hr) rfl cO (ae (af (pv 0)) ah) rfl)) (λ_ _ _ _ _ _ _=>cG (show WI (((["_law_cell_here"]:List Str))++cM ["_law_cell_here"] fc) by decide+kernel) rfl rfl) (λ_ _ _ _ _ _=>b6) (λ_ _ _ _ _ _=>(bW (ae (af (pv 0)) (ae (af (pv 0)) ah))))) ah))) (aj (fY aY.nd rfl (.inl rfl)) (aj (cP (bF VR rfl (bM (b0 dD (mR hr) rfl ei (ae (af (pv 0)) ah) rfl)) (a8 aY.nd rfl (.inl rfl)) bt (aW (ao (bF VR rfl (bM (b0 tO (mR hr) rfl ei (ae (af (pv 0)) (ae (af (pv 4)) (ae (af (pv 1)) ah))) rfl)) (a8 aY.nd rfl (.inl rfl)) bt (aW (aj (aJ aY.nd rfl (.inl rfl) (uS (bI (af (pv 0)) (bI (af (pv 4)) ar)) (bI (af (pv 4)) ar))) (ao (cF (PDW.t (uW (Lf hr.units (af (pv 4)) (af (pv 5))) (xD (p4 hr.units (af (pv 6)) (uS (bI (af (pv 0)) (bI (af (pv 5)) ar)) (bI (af (pv 5)) ar)))))) (ao (g6 (pv 3) (bW (ae (af (pv 4)) (ae (af (pv 5)) ah))))) bQ))))))))) (aj (aJ aY.nd rfl (.inl rfl) gB) (aj (cP (sS VR (de (af (pv 7))) (aW (aj (aJ aY.nd rfl (.inl rfl) gB) (ao (dq (i:=3) (bF VR rfl (bM (af (pv 3))) (Fc rfl (ll (a8 aY.nd rfl (.inl rfl)) (ll (a8 aY.nd rfl (.inl rfl)) AR))) (AV (is:=[8,9])) (aW (ao (cF (zC (p5 hr.units (j7 hr.units (af (pv 2)) (af (pv 8))) (j7 hr.units (af (pv 2)) (af (pv 9))))) (aj (aJ aY.nd rfl (.inl rfl) (NG (HD hr.units rfl rfl B.min rfl (ae (j7 hr.units (af (pv 2)) (af (pv 8))) (ae (j7 hr.units (af (pv 2)) (af (pv 9))) ah))))) (aj (iY hr.units (pv 2) (af (pv 8)) (af (pv 10))) (aj (iY hr.units (pv 2) (af (pv 9)) (af (pv 10))) (ao (aJ aY.nd rfl (.inl rfl) gB))))) bQ)))))))))) (ao (dq (i:=2) (aI (af (pv 2))))))))))
abbrev fM:Stmt:=top 17
def eG:List Str:=["thing"]
def pQ:List Str:=["thing"]
def xU:FnScope eG pQ (ai fM):=dB
def xo(B:Bl K mg base cv cA Cp)(C9:aw P w K mg base cv 2 "is_row" 1 fC)(T:bJ K mg "is_board" fM f):aw P w K mg base cv 3 "is_board" 1 (ez):=
 aH (N:=eG) (ps:=pQ) T xU (λ_ _ _ _ _ _ us hl=>match us,hl with | [_],_=>rfl) λ_ _ _ _ _ _ hr=>
  (aj (cF (PDW.t (j9 (d6 (de (l5 rfl B.isinstance rfl (ae (af (pv 0)) (ae (pX rfl B.tuple rfl) ah))))) (gZ (d6 (Fh sI sI ar (cE rfl B.len (ae (af (pv 0)) ah)) (AM rfl B.MOST_ROWS)))))) (ao (aI gB)) bQ) (aj (cF (d6 (de (zv rfl rfl B.all rfl (ae (da (tn:=["row"]) (n:=0) (bA (N:=eG) (osc:=(ai fM)) rfl rfl (by decide+kernel)) rfl rfl (gY (af (pv 0))) (λ_ _ _ _ _ _ _=>cG (show WI (((["row"]:List Str))++cM ["row"] eG) by decide+kernel) rfl rfl) (λ_ _ _ _ _ _=>b6) (λ_ _ _ _ _ _=>(b0 C9 (mR hr) rfl ei (ae (af (pv 0)) ah) rfl))) ah)))) (ao (aI gB)) bQ) (ao (aI (zv rfl rfl B.all rfl (ae (da (tn:=["row"]) (n:=0) (bA (N:=eG) (osc:=(ai fM)) rfl rfl (by decide+kernel)) rfl rfl (gY (af (pv 0))) (λ_ _ _ _ _ _ _=>cG (show WI (((["row"]:List Str))++cM ["row"] eG) by decide+kernel) rfl rfl) (λ_ _ _ _ _ _=>b6) (λ_ _ _ _ _ _=>(xB hr.units (cE rfl B.len (ae (af (pv 0)) ah)) (cE rfl B.len (ae (bI (af (pv 1)) ar) ah))))) ah))))))
abbrev fi:Stmt:=top 27
def fe:List Str:=["board","cell","ways","letter"]
def k9:List Str:=["board","cell","ways"]
def jL:FnScope fe k9 (ai fi):=dB
def qW(B:Bl K mg base cv cA Cp)(my:aw P w K mg base cv 1 "letter_of" 2 dF)(tQ:aw P w K mg base cv 2 "next_cells" 3 c9)(T:bJ K mg "like_cells" fi f):aw P w K mg base cv 3 "like_cells" 3 (cy):=
 aH (N:=fe) (ps:=k9) T jL (λ_ _ _ _ _ _ us hl=>match us,hl with | [_,_,_],_=>rfl) λ_ _ _ _ _ _ hr=>
  (aj (aJ jL.nd rfl (.inr rfl) (b0 my (mR hr) rfl cO (ae (af (pv 0)) (ae (af (pv 1)) ah)) rfl)) (ao (aI (da (tn:=["near"]) (n:=0) (bA (N:=fe) (osc:=(ai fi)) rfl rfl (by decide+kernel)) rfl rfl (bM (b0 tQ (mR hr) rfl cO (ae (af (pv 0)) (ae (af (pv 1)) (ae (af (pv 2)) ah))) rfl)) (λ_ _ _ _ _ _ _=>cG (show WI (((["near"]:List Str))++cM ["near"] fe) by decide+kernel) rfl rfl) (λ_ _ _ _ _ _=>(FY (p4 hr.units (b0 my (mR hr) rfl ei (ae (af (pv 1)) (ae (af (pv 0)) ah)) rfl) (af (pv 4))))) (λ_ _ _ _ _ _=>(af (pv 0)))))))
abbrev f_:Stmt:=top 41
def fW:List Str:=["_law_script","_law_at","_law_most","_law_rows","_law_wide","_law_alphabet","_law_found","_law_row","_law_signs"]
def mU:List Str:=["_law_script","_law_at","_law_most"]
def b5:FnScope fW mU (ai f_):=dB
def uH(B:Bl K mg base cv cA Cp)(bD:aw P w K mg base cv 2 "_law_drawn" 3 aM)(T:bJ K mg "_law_board" f_ f):aw P w K mg base cv 3 "_law_board" 3 (cp):=
 aH (N:=fW) (ps:=mU) T b5 (λ_ _ _ _ _ _ us hl=>match us,hl with | [_,_,_],_=>rfl) λ_ _ _ _ _ _ hr=>
  (aj (aJ b5.nd rfl (.inl rfl) (cW ar (b0 bD (mR hr) rfl cO (ae (af (pv 0)) (ae (af (pv 1)) (ae (af (pv 2)) ah))) rfl))) (aj (aJ b5.nd rfl (.inl rfl) (cW ar (b0 bD (mR hr) rfl cO (ae (af (pv 0)) (ae (cW (af (pv 1)) ar) (ae (af (pv 2)) ah))) rfl))) (aj (aJ b5.nd rfl (.inr rfl) (zw (gj (ae bO (ae bO (ae bO (ae bO ah))))) (b0 bD (mR hr) rfl cO (ae (af (pv 0)) (ae (cW (af (pv 1)) ar) (ae ar ah))) rfl))) (aj (aJ b5.nd rfl (.inl rfl) (bW ah)) (aj (cP (bF VR rfl (b_ rfl B.range (ae (af (pv 3)) ah)) (a8 b5.nd rfl (.inr rfl)) bt (aW (aj (m7 (tn:=["_law_k"]) (n:=0) b5.nd rfl (.inl rfl) (bA (N:=fW) (osc:=(ai f_)) rfl rfl (by decide+kernel)) rfl rfl (b_ rfl B.range (ae (af (pv 4)) ah)) (λ_ _ _ _ _ _ _=>cG (show WI (((["_law_k"]:List Str))++cM ["_law_k"] fW) by decide+kernel) rfl rfl) (λ_ _ _ _ _ _=>b6) (λ_ _ _ _ _ _=>(uS (af (pv 6)) (b0 bD (mR hr) rfl ei (ae (af (pv 1)) (ae (cW (cW (cW (af (pv 2)) ar) (iX ar (af (pv 8)))) (af (pv 0))) (ae (cE rfl B.len (ae (af (pv 6)) ah)) ah))) rfl)))) (ao (aJ b5.nd rfl (.inl rfl) (AL (af (pv 6)) (bW (ae (AO bO (ae (af (pv 8)) ah)) ah))))))))) (ao (aI (af (pv 6)))))))))
abbrev hJ:Stmt:=top 18
def kR:List Str:=["thing"]
def k_:List Str:=["thing"]
def ri:FnScope kR k_ (ai hJ):=dB
def qX(B:Bl K mg base cv cA Cp)(jU:aw P w K mg base cv 3 "is_board" 1 ez)(T:bJ K mg "need_board" hJ f):aw P w K mg base cv 4 "need_board" 1 (cz):=
 aH (N:=kR) (ps:=k_) T ri (λ_ _ _ _ _ _ us hl=>match us,hl with | [_],_=>rfl) λ_ _ _ _ _ _ hr=>
  (ao (cF (d6 (de (b0 jU (mR hr) rfl cO (ae (af (pv 0)) ah) rfl))) (ao (sQ B.own0 aaq rfl rfl (B.cvE 0) Jk (ae bO ah))) bQ))
abbrev ig:Stmt:=top 28
def kW:List Str:=["board","start","ways","back","ring","further","cell","near"]
def lh:List Str:=["board","start","ways"]
def cf:FnScope kW lh (ai ig):=dB
def ra(B:Bl K mg base cv cA Cp)(tP:aw P w K mg base cv 3 "like_cells" 3 cy)(T:bJ K mg "steps_back" ig f):aw P w K mg base cv 4 "steps_back" 3 (cC):=
 aH (N:=kW) (ps:=lh) T cf (λ_ _ _ _ _ _ us hl=>match us,hl with | [_,_,_],_=>rfl) λ_ _ _ _ _ _ hr=>
  (aj (xG cf.nd rfl (.inl rfl) (Cd hr.units (af (pv 1)) zy)) (aj (aJ cf.nd rfl (.inl rfl) (gj (ae (af (pv 1)) ah))) (aj (cP (sS VR (de (af (pv 4))) (aW (aj (fY cf.nd rfl (.inl rfl)) (aj (bF VR rfl (bM (af (pv 4))) (a8 cf.nd rfl (.inl rfl)) bt (aW (ao (bF VR rfl (bM (b0 tP (mR hr) rfl ei (ae (af (pv 0)) (ae (af (pv 6)) (ae (af (pv 2)) ah))) rfl)) (a8 cf.nd rfl (.inl rfl)) bt (aW (ao (cF (zC (sT hr.units (af (pv 7)) (af (pv 3)))) (aj (iY hr.units (pv 3) (af (pv 7)) (af (pv 6))) (ao (g6 (pv 5) (af (pv 7))))) bQ))))))) (ao (dq (i:=5) (aJ cf.nd rfl (.inl rfl) (af (pv 5)))))))))) (ao (dq (i:=3) (aI (af (pv 3))))))))
abbrev ie:Stmt:=top 37
def kU:List Str:=["text","board"]
def lg:List Str:=["text"]
def jM:FnScope kU lg (ai ie):=dB
def q_(B:Bl K mg base cv cA Cp)(jU:aw P w K mg base cv 3 "is_board" 1 ez)(T:bJ K mg "read_board" ie f):aw P w K mg base cv 4 "read_board" 1 (dU):=
 aH (N:=kU) (ps:=lg) T jM (λ_ _ _ _ _ _ us hl=>match us,hl with | [_],_=>rfl) λ_ _ _ _ _ _ hr=>
  (aj (cF (PDW.t (j9 (d6 (de (l5 rfl B.isinstance rfl (ae (af (pv 0)) (ae (pX rfl B.str rfl) ah))))) (gZ (d6 (de (xA (af (pv 0)) (ae bO ah))))))) (ao sR) bQ) (aj (aJ jM.nd rfl (.inl rfl) (EV rfl B.tuple rfl (ae (EU (NF (af (pv 0)) E3 (E4 (uT ar))) (ae bO ah)) ah))) (aj (cF (d6 (de (b0 jU (mR hr) rfl cO (ae (af (pv 1)) ah) rfl))) (ao sR) bQ) (ao (aI (af (pv 1)))))))
abbrev gm:Stmt:=top 29
def jF:List Str:=["board","ways","found","seen","cell","patch"]
def jI:List Str:=["board","ways"]
def cX:FnScope jF jI (ai gm):=dB
def pL(B:Bl K mg base cv cA Cp)(vW:aw P w K mg base cv 2 "all_cells" 1 fT)(tT:aw P w K mg base cv 4 "steps_back" 3 cC)(Gy:aw P w K mg base cv 1 "keyed" 1 kB)(T:bJ K mg "all_patches" gm f):aw P w K mg base cv 5 "all_patches" 2 (eM):=
 aH (N:=jF) (ps:=jI) T cX (λ_ _ _ _ _ _ us hl=>match us,hl with | [_,_],_=>rfl) λ_ _ _ _ _ _ hr=>
  (aj (fY cX.nd rfl (.inl rfl)) (aj (p3 cX.nd rfl (.inl rfl)) (aj (cP (bF VR rfl (bM (b0 vW (mR hr) rfl ei (ae (af (pv 0)) ah) rfl)) (a8 cX.nd rfl (.inl rfl)) bt (aW (ao (cF (zC (sT hr.units (af (pv 4)) (af (pv 3)))) (aj (aJ cX.nd rfl (.inl rfl) (HE rfl rfl B.sorted rfl (ae (b0 tT (mR hr) rfl ei (ae (af (pv 0)) (ae (af (pv 4)) (ae (af (pv 1)) ah))) rfl) ah))) (aj (g6 (pv 2) (af (pv 5))) (ao (HZ hr.units (pv 3) (b0 Gy (mR hr) rfl ei (ae (af (pv 5)) ah) rfl) ⟨rfl,rfl,rfl,rfl⟩)))) bQ))))) (ao (dq (i:=2) (aI (af (pv 2))))))))
abbrev g9:Stmt:=top 35
def kO:List Str:=["board"]
def kZ:List Str:=["board"]
def rh:FnScope kO kZ (ai g9):=dB
def qT(B:Bl K mg base cv cA Cp)(gO:aw P w K mg base cv 4 "need_board" 1 cz)(jT:aw P w K mg base cv 1 "as_lines" 1 du)(T:bJ K mg "board_text" g9 f):aw P w K mg base cv 5 "board_text" 1 (bZ):=
 aH (N:=kO) (ps:=kZ) T rh (λ_ _ _ _ _ _ us hl=>match us,hl with | [_],_=>rfl) λ_ _ _ _ _ _ hr=>
  (aj (uY (b0 gO (mR hr) rfl cO (ae (af (pv 0)) ah) rfl)) (ao (aI (b0 jT (mR hr) rfl cO (ae (af (pv 0)) ah) rfl))))
abbrev h7:Stmt:=top 31
def gW:List Str:=["board","ways","numbers","told","row"]
def pT:List Str:=["board","ways"]
def gc:FnScope gW pT (ai h7):=dB
def xr(B:Bl K mg base cv cA Cp)(gO:aw P w K mg base cv 4 "need_board" 1 cz)(vY:aw P w K mg base cv 2 "need_ways" 1 eR)(tR:aw P w K mg base cv 1 "numbers_of" 1 fb)(qE:aw P w K mg base cv 5 "all_patches" 2 eM)(fv:aw P w K mg base cv 1 "cells_of_row" 2 aV)(T:bJ K mg "numbered" h7 f):aw P w K mg base cv 6 "numbered" 2 (cS):=
 aH (N:=gW) (ps:=pT) T gc (λ_ _ _ _ _ _ us hl=>match us,hl with | [_,_],_=>rfl) λ_ _ _ _ _ _ hr=>
  (aj (uY (b0 gO (mR hr) rfl cO (ae (af (pv 0)) ah) rfl)) (aj (uY (b0 vY (mR hr) rfl cO (ae (af (pv 1)) ah) rfl)) (aj (aJ gc.nd rfl (.inr rfl) (b0 tR (mR hr) rfl cO (ae (b0 qE (mR hr) rfl cO (ae (af (pv 0)) (ae (af (pv 1)) ah)) rfl) ah) rfl)) (aj (fY gc.nd rfl (.inl rfl)) (aj (cP (bF VR rfl (b_ rfl B.range (ae (cE rfl B.len (ae (af (pv 0)) ah)) ah)) (a8 gc.nd rfl (.inl rfl)) bt (aW (ao (g6 (pv 3) (da (tn:=["cell"]) (n:=0) (bA (N:=gW) (osc:=(ai h7)) rfl rfl (by decide+kernel)) rfl rfl (bM (b0 fv (mR hr) rfl ei (ae (af (pv 0)) (ae (af (pv 4)) ah)) rfl)) (λ_ _ _ _ _ _ _=>cG (show WI (((["cell"]:List Str))++cM ["cell"] gW) by decide+kernel) rfl rfl) (λ_ _ _ _ _ _=>b6) (λ_ _ _ _ _ _=>(j7 hr.units (af (pv 3)) (af (pv 0)))))))))) (ao (dq (i:=3) (aI (af (pv 3))))))))))
abbrev d8:Stmt:=top 36
def dY:List Str:=["board","ways","told","numbers"]
def iV:List Str:=["board","ways"]
def eX:FnScope dY iV (ai d8):=dB
def nL(B:Bl K mg base cv cA Cp)(yI:aw P w K mg base cv 6 "numbered" 2 cS)(jT:aw P w K mg base cv 1 "as_lines" 1 du)(qG:aw P w K mg base cv 1 "two_figures" 1 bT)(T:bJ K mg "numbers_text" d8 f):aw P w K mg base cv 7 "numbers_text" 2 (bb):=
 aH (N:=dY) (ps:=iV) T eX (λ_ _ _ _ _ _ us hl=>match us,hl with | [_,_],_=>rfl) λ_ _ _ _ _ _ hr=>
  (aj (fY eX.nd rfl (.inl rfl)) (aj (Ff rfl (bM (b0 yI (mR hr) rfl cO (ae (af (pv 0)) (ae (af (pv 1)) ah)) rfl)) (a8 eX.nd rfl (.inl rfl)) bt (aW (ao (g6 (pv 2) (xC bO (ae (da (tn:=["number"]) (n:=0) (bA (N:=dY) (osc:=(ai d8)) rfl rfl (by decide+kernel)) rfl rfl (bM (af (pv 3))) (λ_ _ _ _ _ _ _=>cG (show WI (((["number"]:List Str))++cM ["number"] dY) by decide+kernel) rfl rfl) (λ_ _ _ _ _ _=>b6) (λ_ _ _ _ _ _=>(b0 qG (mR hr) rfl ei (ae (af (pv 0)) ah) rfl))) ah)))))) (ao (dq (i:=2) (aI (b0 jT (mR hr) rfl cO (ae (af (pv 2)) ah) rfl))))))
def fV(B:Bl K mg base cv cA Cp){n m:Nat}(hn:n∈[0,1])(hm:m∈[0,1,2,3,4,5,6,7]):nH K (vL cA) [.exc (cA n), .raw (.ref (cA m))]=aa (.bl (decide (n=m))):=by
 have h:cA n∈vL cA:=by
  unfold vL;simp only[Vo,Wh,or_false] at hn;rcases hn with rfl | rfl<;>simp
 show (if cA n∈vL cA then(match VE K (.ref (cA n)) (.ref (cA m)) with | some b=>aa (D.bl b) | none=>ag) else ag)=_;rw[acI h,B.kit n m hn hm]
def D4(B:Bl K mg base cv cA Cp){n:Nat}(hn:n∈[0,1]):nH K (vL cA) [.exc (cA n), .raw (.ty "ValueError")]=aa (.bl true):=by
 have h:cA n∈vL cA:=by
  unfold vL;simp only[Vo,Wh,or_false] at hn;rcases hn with rfl | rfl<;>simp
 show (if cA n∈vL cA then(match VE K (.ref (cA n)) (.type "ValueError") with | some b=>aa (D.bl b) | none=>ag) else ag)=_;rw[acI h,B.kitV n hn]
def AY(k:Nat):L8 k∈[0,1]:=by
 unfold L8;split<;>simp
def xM(B:Bl K mg base cv cA Cp)(k:Nat):bS K cA [.exc (cB cA k)]=IZ k:=by
 unfold IZ cB;have hn:=AY k;generalize L8 k=n at hn;have hv:=D4 B hn;have x0:=fV B (m:=0) hn (by decide);have x1:=fV B (m:=1) hn (by decide);have x2:=fV B (m:=2) hn (by decide);have x3:=fV B (m:=3) hn (by decide);have x4:=fV B (m:=4) hn (by decide);have x5:=fV B (m:=5) hn (by decide);have x6:=fV B (m:=6) hn (by decide);have x7:=fV B (m:=7) hn (by decide);clear B;simp only[Vo,Wh,or_false] at hn;rcases hn with rfl | rfl
 ·simp only[bS,gq,hv,x0,x1,x2,x3,x4,x5,x6,x7,bY,aF,bh,dA,aC,aN,dV,dC,d1,d2,dM,oA,dQ,cH,ix,bR,dj,dN,au,Vi,W3,WW,VL,Vx,Vk,V6,Yj,Yk,V_,Wa,dW,Nat.reduceSub,Nat.reduceAdd,lim,Nat.reduceLeDiff,if_true,mE,gz,Dh,bools,decide_true,decide_false,Nat.reduceEqDiff];rfl
 ·simp only[bS,gq,hv,x0,x1,x2,x3,x4,x5,x6,x7,bY,aF,bh,dA,aC,aN,dV,dC,d1,d2,dM,oA,dQ,cH,ix,bR,dj,dN,au,Vi,W3,WW,VL,Vx,Vk,V6,Yj,Yk,V_,Wa,dW,Nat.reduceSub,Nat.reduceAdd,lim,Nat.reduceLeDiff,if_true,mE,gz,Dh,bools,decide_true,decide_false,Nat.reduceEqDiff];rfl
def hh(B:Bl K mg base cv cA Cp){i:Nat}(k:Nat)(ρ:aQ)(e:ρ[i]? =some (some (.fz (.exc (cB cA k))))):bR (C_ 1 (bS K cA) (aC (dV i) aN)) ρ=(IZ k>>=λd=>aa (.rt d)):=by
 have h4:dV i ρ=aa (.exc (cB cA k)):=by unfold dV;rw[e]
 show ((dV i ρ>>=λx=>aN ρ>>=λxs=>aa (x::xs))>>=λds=>if ds.length=1 then noex (noex (bS K cA ds)) else ag)>>=_=_;rw[h4];show (if [D.exc (cB cA k)].length=1 then noex (noex (bS K cA [.exc (cB cA k)])) else ag)>>=_=_;rw[xM B k];rfl
abbrev fN:Stmt:=top 47
def iO:List Str:=["_law_which","_law_board_here","_law_ways","_law_e"]
def iU:List Str:=["_law_which","_law_board_here","_law_ways"]
def ir:FnScope iO iU (ai fN):=dB
def nK(B:Bl K mg base cv cA Cp)(tN:aw P w K mg base cv 5 "board_text" 1 bZ)(oj:aw P w K mg base cv 7 "numbers_text" 2 bb)(qF:nN P w K mg base cv 1 "_law_refused" 1 (bS K cA))(T:bJ K mg "_law_told" fN f):aw P w K mg base cv 8 "_law_told" 3 (aG):=
 aH (N:=iO) (ps:=iU) T ir (λ_ _ _ _ _ _ us hl=>match us,hl with | [_,_,_],_=>rfl) λ_ _ _ _ _ _ hr=>
  (ao (HY (i:=3) (hd:=IZ) B.cvE ir.nd rfl rfl rfl B.top B.exm (λpn Ec Xw' hp=>(ao (aI (ND (p4 hr.units (af (pv 0)) ar) (b0 tN (mR hr) rfl hp (ae (af (pv 1)) ah) rfl) (b0 oj (mR hr) rfl hp (ae (af (pv 1)) (ae (af (pv 2)) ah)) rfl))))) (λea=>(ao (aI (Gz qF (RoomH.of (mR hr) _) rfl (ae (af (pv 3)) ah))))) (λk ρ _ e=>hh B k ρ e)))
abbrev ax:Stmt:=top 48
def a7:List Str:=["_law_script","_law_board_here","_law_text","_law_row","_law_ways","_law_labels_here","_law_firsts","_law_lines","_law_numbers","_law_bad"]
def lY:List Str:=["_law_script"]
def bC:FnScope a7 lY (ai ax):=dB
def vn(B:Bl K mg base cv cA Cp)(iB:aw P w K mg base cv 3 "_law_board" 3 cp){cx:Value}{A:V2}{outer:List Env}{s:Vf}{H:Hp}{E:XK}(hr:Room 8 (A.deeper (XD "law" (ai ax) s.heap.objs.size f cx))):
 Box (iy (aZ (cQ P w cv) P w K mg base a7 "law" (ai ax) f cx A outer s H E) (λn H'=>E (cv n) none H') ((bc ax).getD 0 (.Pass ⟨0,0,0,0⟩)) nh):=
 ⟨(aJ bC.nd rfl (.inl rfl) (b0 iB (mR hr) rfl cO (ae (af (pv 0)) (ae ar (ae ar ah))) rfl))⟩
def vo(B:Bl K mg base cv cA Cp){cx:Value}{A:V2}{outer:List Env}{s:Vf}{H:Hp}{E:XK}(hr:Room 8 (A.deeper (XD "law" (ai ax) s.heap.objs.size f cx))):
 Box (iy (aZ (cQ P w cv) P w K mg base a7 "law" (ai ax) f cx A outer s H E) (λn H'=>E (cv n) none H') ((bc ax).getD 1 (.Pass ⟨0,0,0,0⟩)) ni):=
 ⟨(aJ bC.nd rfl (.inl rfl) bO)⟩
def vp(B:Bl K mg base cv cA Cp){cx:Value}{A:V2}{outer:List Env}{s:Vf}{H:Hp}{E:XK}(hr:Room 8 (A.deeper (XD "law" (ai ax) s.heap.objs.size f cx))):
 Box (iy (aZ (cQ P w cv) P w K mg base a7 "law" (ai ax) f cx A outer s H E) (λn H'=>E (cv n) none H') ((bc ax).getD 2 (.Pass ⟨0,0,0,0⟩)) nj):=
 ⟨(cP (bF VR rfl (gY (af (pv 1))) (a8 bC.nd rfl (.inr rfl)) bt (aW (ao (aJ bC.nd rfl (.inl rfl) (jq (jq (af (pv 2)) (af (pv 3))) bO))))))⟩
def vq(B:Bl K mg base cv cA Cp)(aP:aw P w K mg base cv 8 "_law_told" 3 aG)(gP:aw P w K mg base cv 4 "read_board" 1 dU){cx:Value}{A:V2}{outer:List Env}{s:Vf}{H:Hp}{E:XK}(hr:Room 8 (A.deeper (XD "law" (ai ax) s.heap.objs.size f cx))):
 Box (iy (aZ (cQ P w cv) P w K mg base a7 "law" (ai ax) f cx A outer s H E) (λn H'=>E (cv n) none H') ((bc ax).getD 3 (.Pass ⟨0,0,0,0⟩)) nk):=
 ⟨(cF (PDW.t (j9 (p5 hr.units (b0 aP (mR hr) rfl cO (ae ar (ae (af (pv 1)) (ae ar ah))) rfl) (af (pv 2))) (gZ (p5 hr.units (b0 gP (mR hr) rfl cO (ae (af (pv 2)) ah) rfl) (af (pv 1)))))) (ao (aI gB)) bQ)⟩
def vv(B:Bl K mg base cv cA Cp)(gN:aw P w K mg base cv 2 "_law_labels" 2 cZ)(aP:aw P w K mg base cv 8 "_law_told" 3 aG)(dD:aw P w K mg base cv 1 "_law_cells" 1 bw){cx:Value}{A:V2}{outer:List Env}{s:Vf}{H:Hp}{E:XK}(hr:Room 8 (A.deeper (XD "law" (ai ax) s.heap.objs.size f cx))):
 Box (iy (aZ (cQ P w cv) P w K mg base a7 "law" (ai ax) f cx A outer s H E) (λn H'=>E (cv n) none H') ((bc ax).getD 4 (.Pass ⟨0,0,0,0⟩)) nq):=
 ⟨(AU (cP (bF VR rfl (gY (bW (ae ar (ae ar ah)))) (a8 bC.nd rfl (.inl rfl)) bt (aW (aj (aJ bC.nd rfl (.inr rfl) (b0 gN (mR hr) rfl ei (ae (af (pv 1)) (ae (af (pv 4)) ah)) rfl)) (aj (aJ bC.nd rfl (.inr rfl) (zB rfl hr.units rfl B.sorted rfl B.set rfl rfl (da (tn:=["_law_cell_here"]) (n:=0) (bA (N:=a7) (osc:=(ai ax)) rfl rfl (by decide+kernel)) rfl rfl (bM (b0 dD (mR hr) rfl ei (ae (af (pv 1)) ah) rfl)) (λ_ _ _ _ _ _ _=>cG (show WI (((["_law_cell_here"]:List Str))++cM ["_law_cell_here"] a7) by decide+kernel) rfl rfl) (λ_ _ _ _ _ _=>b6) (λ_ _ _ _ _ _=>(j7 hr.units (af (pv 6)) (af (pv 0))))))) (aj (aJ bC.nd rfl (.inl rfl) bO) (aj (AU (bF VR rfl (b_ rfl B.range (ae (cE rfl B.len (ae (af (pv 1)) ah)) ah)) (a8 bC.nd rfl (.inr rfl)) bt (aW (aj (m7 (tn:=["_law_k"]) (n:=0) bC.nd rfl (.inl rfl) (bA (N:=a7) (osc:=(ai ax)) rfl rfl (by decide+kernel)) rfl rfl (b_ rfl B.range (ae (cE rfl B.len (ae (bI (af (pv 1)) ar) ah)) ah)) (λ_ _ _ _ _ _ _=>cG (show WI (((["_law_k"]:List Str))++cM ["_law_k"] a7) by decide+kernel) rfl rfl) (λ_ _ _ _ _ _=>b6) (λ_ _ _ _ _ _=>(HB hr.units (af (pv 7)) (ae (j7 hr.units (af (pv 6)) (bW (ae (af (pv 4)) (ae (af (pv 0)) ah)))) ah)))) (ao (aJ bC.nd rfl (.inl rfl) (jq (jq (af (pv 7)) (xC bO (ae (da (tn:=["_law_one"]) (n:=0) (bA (N:=a7) (osc:=(ai ax)) rfl rfl (by decide+kernel)) rfl rfl (bM (af (pv 8))) (λ_ _ _ _ _ _ _=>cG (show WI (((["_law_one"]:List Str))++cM ["_law_one"] a7) by decide+kernel) rfl rfl) (λ_ _ _ _ _ _=>b6) (λ_ _ _ _ _ _=>(jq (uU rfl B.str rfl (ae (pW (af (pv 0)) ar) ah)) (uU rfl B.str rfl (ae (j8 (af (pv 0)) ar) ah))))) ah))) bO))))))) (ao (cF (p5 hr.units (b0 aP (mR hr) rfl ei (ae ar (ae (af (pv 1)) (ae (af (pv 4)) ah))) rfl) (af (pv 7))) (ao (aI gB)) bQ))))))))))⟩
def vw(B:Bl K mg base cv cA Cp)(bD:aw P w K mg base cv 2 "_law_drawn" 3 aM){cx:Value}{A:V2}{outer:List Env}{s:Vf}{H:Hp}{E:XK}(hr:Room 8 (A.deeper (XD "law" (ai ax) s.heap.objs.size f cx))):
 Box (iy (aZ (cQ P w cv) P w K mg base a7 "law" (ai ax) f cx A outer s H E) (λn H'=>E (cv n) none H') ((bc ax).getD 5 (.Pass ⟨0,0,0,0⟩)) nr):=
 ⟨(aJ bC.nd rfl (.inr rfl) (zw (gj (ae zy (ae (bW ah) (ae (HC rfl B.list rfl (ae (af (pv 1)) ah)) (ae (AL (af (pv 1)) (bW (ae bO ah))) (ae (bW (ae bO ah)) ah)))))) (b0 bD (mR hr) rfl cO (ae (af (pv 0)) (ae ar (ae ar ah))) rfl)))⟩
def vx(B:Bl K mg base cv cA Cp)(aP:aw P w K mg base cv 8 "_law_told" 3 aG){cx:Value}{A:V2}{outer:List Env}{s:Vf}{H:Hp}{E:XK}(hr:Room 8 (A.deeper (XD "law" (ai ax) s.heap.objs.size f cx))):
 Box (iy (aZ (cQ P w cv) P w K mg base a7 "law" (ai ax) f cx A outer s H E) (λn H'=>E (cv n) none H') ((bc ax).getD 6 (.Pass ⟨0,0,0,0⟩)) nu):=
 ⟨(cF (p5 hr.units (da (tn:=["_law_which"]) (n:=0) (bA (N:=a7) (osc:=(ai ax)) rfl rfl (by decide+kernel)) rfl rfl (b_ rfl B.range (ae ar ah)) (λ_ _ _ _ _ _ _=>cG (show WI (((["_law_which"]:List Str))++cM ["_law_which"] a7) by decide+kernel) rfl rfl) (λ_ _ _ _ _ _=>b6) (λ_ _ _ _ _ _=>(b0 aP (mR hr) rfl ei (ae (af (pv 0)) (ae (af (pv 10)) (ae ar ah))) rfl))) (K0 (gj (ae (bW (ae bO (ae ar ah))) ah)) ar)) (ao (aI gB)) bQ)⟩
def vy(B:Bl K mg base cv cA Cp)(bD:aw P w K mg base cv 2 "_law_drawn" 3 aM)(aP:aw P w K mg base cv 8 "_law_told" 3 aG){cx:Value}{A:V2}{outer:List Env}{s:Vf}{H:Hp}{E:XK}(hr:Room 8 (A.deeper (XD "law" (ai ax) s.heap.objs.size f cx))):
 Box (iy (aZ (cQ P w cv) P w K mg base a7 "law" (ai ax) f cx A outer s H E) (λn H'=>E (cv n) none H') ((bc ax).getD 7 (.Pass ⟨0,0,0,0⟩)) nv):=
 ⟨(aI (xB hr.units (b0 aP (mR hr) rfl cO (ae ar (ae (af (pv 1)) (ae (zw (gj (ae ar (ae zy (ae gB (ae bO ah))))) (b0 bD (mR hr) rfl cO (ae (af (pv 0)) (ae ar (ae ar ah))) rfl)) ah))) rfl) (bW (ae bO (ae ar ah)))))⟩
def xl{fd:Xv}(B:Bl K mg base cv cA Cp)(iB:aw P w K mg base cv 3 "_law_board" 3 cp)(gN:aw P w K mg base cv 2 "_law_labels" 2 cZ)(bD:aw P w K mg base cv 2 "_law_drawn" 3 aM)(aP:aw P w K mg base cv 8 "_law_told" 3 aG)(gP:aw P w K mg base cv 4 "read_board" 1 dU)(dD:aw P w K mg base cv 1 "_law_cells" 1 bw)(Fn:Fun K "law" "law" ax f fd):FnOk P w K mg base (cQ P w cv) 9 f fd lY (Gp K cv 1 jj):=
 Mt (N:=a7) (ps:=lY) (τ:=mw) Fn bC λcx A outer s H E hr=>by
  obtain⟨UP⟩:Box (PSDs (aZ (cQ P w cv) P w K mg base a7 "law" (ai ax) f cx A outer s H E) (λn H'=>E (cv n) none H') (bc ax) mw):=(jS (vn B iB hr) (jS (vo B hr) (jS (vp B hr) (jS (vq B aP gP hr) (jS (vv B gN aP dD hr) (jS (vw B bD hr) (jS (vx B aP hr) (JG (vy B bD aP hr)))))))))
  assumption
end
end K1
namespace K1
open PySem L2 L3
def El{ds:List D}(h:ds.length<=lim):dW ds=aa (.lst ds):=acI h
def cI:lim=4096:=rfl
def gr{α:Type}{xs:List α}{i:Nat}{x:α}(h:xs[i]? =some x):L2.atI xs (i:Int)=some x:=by
 obtain⟨hi,e⟩:=Vt.mp h;unfold L2.atI Ko;rw[acI (Int.natCast_nonneg i),acI (by exact Int.ofNat_lt.mpr hi)];exact h
def az{m:Nat}{g:List D->M D}{δs:DA}{ρ:aQ}{ds:List D}(h:δs ρ=aa ds)(hl:ds.length=m):ay m g δs ρ=g ds:=by
 unfold ay;rw[h];exact acI hl
def bf{a:DE}{r:DA}{ρ:aQ}{x:D}{xs:List D}(h1:a ρ=aa x)(h2:r ρ=aa xs):aC a r ρ=aa (x::xs):=by
 unfold aC;rw[h1,au,h2];rfl
def aT{g:D->D->M D}{a b:DE}{ρ:aQ}{x y:D}(h1:a ρ=aa x)(h2:b ρ=aa y):d2 g a b ρ=g x y:=by
 unfold d2;rw[h1,au,h2];rfl
def dP{g:List D->M D}{a:DA}{ρ:aQ}{xs:List D}(h:a ρ=aa xs):dA g a ρ=g xs:=by
 unfold dA;rw[h];rfl
def fF{i j:Int}(h:0<j):iw (.int i) (.int j)=aa (.int (i % j)):=by
 show (if decide (0<j)=true then _ else _)=_;rw[acI (acL h)]
def iF{i j:Int}(h:0<j)(h2:j<1073741824):kC (.int i) (.int j)=aa (.int (i / j)):=by
 show (if decide (0<j/\j<1073741824)=true then _ else _)=_;rw[acI (acL ⟨h,h2⟩)]
def fG{i j:Int}(h:(-(2 ^ 64)<i/\i<2 ^ 64)\/(-(2 ^ 64)<j/\j<2 ^ 64)):gg (.int i) (.int j)=aa (.int (i*j)):=by
 show (if decide _=true then _ else _)=_;rw[acI (acL h)]
def iE{i j:Int}:dw (.int i) (.int j)=aa (.int (i+j)):=rfl
def Df(ns:List Int)(hl:ns.length<=63)(k:Nat):∃v,fE [.scr ns, .int (k:Int)]=aa (.int v):=by
 cases ns with
 |nil=>
  refine⟨7*(k:Int),?_⟩;rfl
 |cons n r=>
  have hp:0<(n::r).length:=Nat.succ_pos _;generalize e:(n::r)=ns at*;have he:jw 6 (.scr ns) (.lst [])=some false:=by subst e;rfl
  obtain⟨y,hy⟩:∃y,ns[k % ns.length]? =some y:=⟨_,Vg (abh _ hp)⟩
  have RL:(0:Int)<(ns.length:Int):=by omega
  have h1:iw (.int (k:Int)) (.int (ns.length:Int))=aa (.int ((k % ns.length:Nat):Int)):=fF RL;have h2:kC (.int (k:Int)) (.int (ns.length:Int))=aa (.int ((k:Int) / (ns.length:Int))):=iF RL (by omega);have h3:DC (.scr ns) (.int ((k % ns.length:Nat):Int))=aa (.int y):=by
   show (match L2.atI ns ((k % ns.length:Nat):Int) with | some n=>aa (D.int n) | none=>ag)=_;rw[gr hy]
  have h4:gg (.int 6553) (.int ((k:Int) / (ns.length:Int)))=aa (.int (6553*((k:Int) / (ns.length:Int)))):=fG (.inl ⟨by decide,by decide⟩);refine⟨y+6553*((k:Int) / (ns.length:Int)),?_⟩;simp only[fE,qx,bY,aF,ix,bR,dj,dN,d2,dV,dC,dA,aC,aN,dW,bL,CY,jy,he,au,h1,h2,h3,h4,Vi,W3,WW,VL,Vk,V6,V_,Wa,cI,Nat.reduceAdd,V1,if_true,VC,if_false,dw,gI]
def fm(ns:List Int)(hl:ns.length<=63)(k m:Nat)(hm:0<m):∃v:Nat,v<m/\aM [.scr ns, .int (k:Int), .int (m:Int)]=aa (.int (v:Int)):=by
 obtain⟨c,hc⟩:=Df ns hl k;have b1:=ZH (c % 2147483563*69069+104723*((k:Int)+1)) (b:=2147483563) (by decide);have b2:=YV (c % 2147483563*69069+104723*((k:Int)+1)) (b:=2147483563) (by decide);generalize hx:(c % 2147483563*69069+104723*((k:Int)+1)) % 2147483563=x at b1 b2;have b3:=ZH (x*x+x / 3) (b:=2147483399) (by decide);have b4:=YV (x*x+x / 3) (b:=2147483399) (by decide);generalize hy:(x*x+x / 3) % 2147483399=y at b3 b4;have m1:gg (.int (c % 2147483563)) (.int 69069)=_:=fG (.inr ⟨by decide,by decide⟩);have m2:gg (.int 104723) (.int ((k:Int)+1))=_:=fG (.inl ⟨by decide,by decide⟩);have m3:gg (.int x) (.int x)=_:=fG (.inl ⟨by omega,by omega⟩);have m4:gg (.int y) (.int y)=_:=fG (.inl ⟨by omega,by omega⟩);have hM:(0:Int)<(m:Int):=Int.ofNat_lt.mpr hm;have n1:=ZH ((y*y+y / 7) % 2147483647 / 11) (b:=(m:Int)) (by omega);have n2:=YV ((y*y+y / 7) % 2147483647 / 11) hM;have q1:iw (.int c) (.int 2147483563)=_:=fF (by decide);have q2:iw (.int (c % 2147483563*69069+104723*((k:Int)+1))) (.int 2147483563)=_:=fF (by decide);have q3:kC (.int x) (.int 3)=_:=iF (by decide) (by decide);have q4:iw (.int (x*x+x / 3)) (.int 2147483399)=_:=fF (by decide);have q5:kC (.int y) (.int 7)=_:=iF (by decide) (by decide);have q6:iw (.int (y*y+y / 7)) (.int 2147483647)=_:=fF (by decide);have q7:kC (.int ((y*y+y / 7) % 2147483647)) (.int 11)=_:=iF (by decide) (by decide);have q8:iw (.int ((y*y+y / 7) % 2147483647 / 11)) (.int (m:Int))=_:=fF hM;refine⟨((y*y+y / 7) % 2147483647 / 11 % (m:Int)).toNat,by omega,?_⟩;rw[ZX n1];rw[hx] at q2;rw[hy] at q4;simp only[aM,ng,bY,aF,bh,bR,ay,d2,dV,dC,dA,aC,aN,au,hc,Vi,W3,WW,VL,Vk,V6,V_,Wa,Vx,Yj,Yk,Nat.reduceAdd,Nat.reduceSub,if_true,iE,m1,m2,m3,m4,q1,q2,q3,q4,q5,q6,q7,q8]
def Ey{α:Type}(a:α):noex (aa a)=aa a:=rfl
def wz{put:D->aQ->Option aQ}{body:DS}{I:Nat->aQ->Prop}:∀(ds:List D) (i:Nat) (ρ:aQ),I i ρ->
 (∀j d,ds[j]? =some d->∀ρ,I (i+j) ρ->∃ρ1 ρ2,put d ρ=some ρ1/\body ρ1=aa (.nx ρ2)/\I (i+j+1) ρ2)->∃ρ',forL put body ds ρ=aa (.nx ρ')/\I (i+ds.length) ρ'
 |[],i,ρ,h,_=>⟨ρ,rfl,h⟩
 |d::ds,i,ρ,h,step=>by
  obtain⟨ρ1,ρ2,e1,e2,h2⟩:=step 0 d rfl ρ h;obtain⟨ρ',e3,h3⟩:=wz (I:=I) ds (i+1) ρ2 h2 λj d' hd ρ hI=>by
   have:=step (j+1) d' hd ρ (by rw[show i+(j+1)=i+1+j by omega];exact hI);rw[show i+(j+1)+1=i+1+j+1 by omega] at this;exact this
  refine⟨ρ',?_,?_⟩
  ·show (match put d ρ with | none=>ag | some ρ1=>body ρ1>>=λo=>match o with | .nx ρ2=>forL put body ds ρ2 | .rt v=>aa (.rt v))=_;rw[e1];show (body ρ1>>=λo=>match o with | .nx ρ2=>forL put body ds ρ2 | .rt v=>aa (.rt v))=_;rw[e2];exact e3
  ·rw[show i+(d::ds).length=i+1+ds.length by simp;omega];exact h3
def rC{f:D->M (Option D)}{Pr:D->Prop}:∀(ds:List D),(∀d∈ds,∃y,f d=aa (some y)/\Pr y)->∃ys,dE f ds=aa ys/\ys.length=ds.length/\∀y∈ys,Pr y
 |[],_=>⟨[],rfl,rfl,λ_ h=>by cases h⟩
 |d::ds,h=>by
  obtain⟨y,e,hy⟩:=h d (Ve ..);obtain⟨ys,e2,hl,hp⟩:=rC ds λd' hd=>h d' (Vc _ hd);refine⟨y::ys,?_,by simp[hl],λz hz=>?_⟩
  ·rw[fB,e,au,e2];rfl
  ·cases hz with
   |head=>exact hy
   |tail _ hz=>exact hp z hz
def gw{f:D->M (Option D)}{g:D->D}:∀(ds:List D),(∀d∈ds,f d=aa (some (g d)))->dE f ds=aa (ds.map g)
 |[],_=>rfl
 |d::ds,h=>by
  rw[fB,h d (Ve ..),au,gw ds λd' hd=>h d' (Vc _ hd)];rfl
def Ki(x:Str):Bool:=!(WT ("abcdef":Str) x 0 ("abcdef":Str).length 1).isEmpty
structure Row (W:Nat) (r:Str):Prop where
 len:r.length=W
 let':∀c∈r.cps.toList,Ki ⟨#[c]⟩=true
structure Good (bd:List Str) (W:Nat):Prop where
 r1:1<=bd.length
 r5:bd.length<=5
 w1:1<=W
 w5:W<=5
 rows:∀r∈bd,Row W r
abbrev lE(c:Nat):Prop:=Ki ⟨#[c]⟩=true/\c≠101/\c≠100
def Sh(r:Str):Prop:=∀c∈r.cps.toList,c≠101
def Oi(r:Str):Prop:=∀c∈r.cps.toList,c≠101/\c≠100
def ye:∀(ys:List D),(∀y∈ys,∃c,y= .str ⟨#[c]⟩/\lE c)->∃xs,lF ys=some xs/\xs.length=ys.length/\(xs.map (·.length)).sum=ys.length/\Row ys.length (cw xs)/\Oi (cw xs)
 |[],_=>⟨[],rfl,rfl,rfl,⟨rfl,λc h=>by cases h⟩,λc h=>by cases h⟩
 |y::ys,h=>by
  obtain⟨c,e,hc⟩:=h y (Ve ..);obtain⟨xs,e1,e2,e3,e4,e5⟩:=ye ys λz hz=>h z (Vc _ hz);subst e;have nR:∀z,z∈((⟨#[c]⟩:Str)++cw xs).cps.toList->z=c\/z∈(cw xs).cps.toList:=λz hz=>by
   have:((⟨#[c]⟩:Str)++cw xs).cps= #[c]++(cw xs).cps:=rfl;rw[this] at hz;simpa using hz
  refine⟨⟨#[c]⟩::xs,?_,by simp[e2],?_,⟨?_,λz hz=>?_⟩,λz hz=>?_⟩
  ·show (lF ys).map _=_;rw[e1];rfl
  ·rw[Vi,Xk,e3];show 1+ys.length=_;simp;omega
  ·show ((⟨#[c]⟩:Str)++cw xs).length=_;rw[aX,e4.len];show 1+ys.length=_;simp;omega
  ·rcases nR z hz with rfl | q
   ·exact hc.1
   ·exact e4.let' z q
  ·rcases nR z hz with rfl | q
   ·exact hc.2
   ·exact e5 z q
def Fv{lo:Int}{n:Nat}{d:D}(h:d∈gH lo n):∃i:Nat,i<n/\d= .int (lo+(i:Int)):=by
 unfold gH at h;obtain⟨i,hi,e⟩:=Vp.mp h;exact⟨i,V5.mp hi,e.symm⟩
def Ig{lo:Int}{n j:Nat}{d:D}(h:(gH lo n)[j]? =some d):j<n/\d= .int (lo+(j:Int)):=by
 unfold gH at h;rw[Vz] at h;by_cases hj:j<n
 ·rw[ab8 hj] at h;cases h;exact⟨hj,rfl⟩
 ·rw[XO (by simpa using hj)] at h;cases h
def i7(lo:Int)(n:Nat):(gH lo n).length=n:=by simp[gH]
abbrev fz(d:D):Option Sl:=some (.fz d)
def fw{δe:DE}{ρ:aQ}{d:D}:ip 0 bu δe ρ d=(δe (fz d::ρ)>>=λy=>aa (some y)):=rfl
def JH{δt:DT}{δe:DE}{ρ:aQ}{d:D}:ip 0 δt δe ρ d=(δt (fz d::ρ)>>=λb=>if b then δe (fz d::ρ)>>=λy=>aa (some y) else aa none):=rfl
def aq{a b:DS}{ρ ρ':aQ}{o:M Out}(h:a ρ=aa (.nx ρ'))(h2:b ρ'=o):aF a b ρ=o:=by
 unfold aF;rw[h];exact h2
def jr{a b:DS}{ρ:aQ}{d:D}(h:a ρ=aa (.rt d)):aF a b ρ=aa (.rt d):=by
 unfold aF;rw[h];rfl
def aS{i:Nat}{δ:DE}{ρ:aQ}{d:D}(h:δ ρ=aa d):bh i δ ρ=aa (.nx (ρ.set i (fz d))):=by
 unfold bh;rw[h];rfl
def gJ{c:DT}{a b:DS}{ρ:aQ}{o:M Out}(h:c ρ=aa true)(h2:a ρ=o):ix c a b ρ=o:=by
 unfold ix;rw[h];exact h2
def e_{c:DT}{a b:DS}{ρ:aQ}{o:M Out}(h:c ρ=aa false)(h2:b ρ=o):ix c a b ρ=o:=by
 unfold ix;rw[h];exact h2
def bj{δ:DE}{ρ:aQ}{d:D}(h:δ ρ=aa d):bR δ ρ=aa (.rt d):=by
 unfold bR;rw[h];rfl
def ly{δ:DE}{ρ:aQ}{d:D}(h:δ ρ=aa d):u_ δ ρ=aa (.nx ρ):=by
 unfold u_;rw[h];rfl
def bo{n:Nat}{τ:DS}{ds:List D}{d:D}(h:τ (ds.map (λd=>some (Sl.fz d))++Vx (n - ds.length) none)=aa (.rt d)):bY n τ ds=aa d:=by
 unfold bY;rw[h];rfl
def Ii{n:Nat}{τ:DS}{ds:List D}{ρ:aQ}(h:τ (ds.map (λd=>some (Sl.fz d))++Vx (n - ds.length) none)=aa (.nx ρ)):bY n τ ds=aa .non:=by
 unfold bY;rw[h];rfl
def lx{n k:Nat}{τ:DS}{ds:List D}(h:τ (ds.map (λd=>some (Sl.fz d))++Vx (n - ds.length) none)=br k):bY n τ ds=br k:=by
 unfold bY;rw[h];rfl
def FA{put:D->aQ->Option aQ}{δi:DA}{b:DS}{ρ:aQ}{ds:List D}{o:Out}(h:δi ρ=aa ds)(h2:forL put b ds ρ=aa o):noex (cJ put δi b ρ)=aa o:=by
 unfold cJ;rw[h,au,h2];rfl
def aU{is:List Nat}{τ:DS}{ρ ρ':aQ}(h:τ ρ=aa (.nx ρ')):bN is τ ρ=aa (.nx (fgt is ρ')):=by
 unfold bN;rw[h];rfl
def bB{n:Nat}{δi:DA}{δt:DT}{δe:DE}{ρ:aQ}{ds ys:List D}(h:δi ρ=aa ds)(h2:dE (ip n δt δe ρ) ds=aa ys)(h3:ys.length<=lim):ba n δi δt δe ρ=aa (.lst ys):=by
 unfold ba;rw[h,au,h2,Ey,au,El h3]
def me{n:Nat}(h:n<=4096):dH [.int (n:Int)]=aa (gH 0 n):=by
 show (if -4096<=(n:Int)/\(n:Int)<=4096 then aa (gH 0 (n:Int).toNat) else ag)=_;rw[acI ⟨by omega,by omega⟩];rfl
structure Alpha (al:Str):Prop where
 pos:0<al.length
 ok:∀c∈al.cps.toList,lE c
def JB:Alpha "ab"/\Alpha "abc"/\Alpha "aab"/\Alpha "fa":=by
 refine⟨⟨by decide+kernel,?_⟩,⟨by decide+kernel,?_⟩,⟨by decide+kernel,?_⟩,⟨by decide+kernel,?_⟩⟩<;>decide+kernel
def DD{x:Str}{i:Nat}(h:i<x.length):∃c,c∈x.cps.toList/\x.cps.toList[i]? =some c/\jz (.str x) (.int (i:Int))=aa (.str ⟨#[c]⟩):=by
 have h:i<x.cps.toList.length:=by rw[Vh];exact h
 refine⟨x.cps.toList[i],X9 h,Vg h,?_⟩;show (match L2.atI x.cps.toList (i:Int) with | some c=>aa (D.str ⟨#[c]⟩) | none=>ag)=_;rw[gr (Vg h)]
abbrev brd(bd:List Str):D:= .tup (bd.map D.str)
abbrev sgn(at' mo:Nat)(ns:List Int)(W:Nat)(al:Str)(bd:List Str)(R:Nat)(x7 x8:Option Sl):aQ:=[fz (.scr ns),fz (.int (at':Int)),fz (.int (mo:Int)),fz (.int (R:Int)),fz (.int (W:Int)),fz (.str al),fz (brd bd),x7,x8]
def Sf:DE:=ba 0 (λρ=>(aC (dV 4) aN) ρ>>=dH) bu (d2 jz (dV 6) (ay 3 aM (aC (dV 1) (aC (d2 dw (d2 dw (d2 dw (dV 2) (dC (.int 3))) (d2 gg (dC (.int 7)) (dV 8))) (dV 0)) (aC (dA bL (aC (dV 6) aN)) aN)))))
def Cv(at' mo:Nat)(ns:List Int)(hl:ns.length<=63)(al:Str)(ha:Alpha al)(j W R:Nat)(hW:W<=5)(bd:List Str)(x8:Option Sl):
 ∃ys,Sf (sgn at' mo ns W al bd R (fz (.int (0+(j:Int)))) x8)=aa (.lst ys)/\ys.length=W/\∀y∈ys,∃c,y= .str ⟨#[c]⟩/\lE c:=by
 obtain⟨ys,e,yW,hp⟩:=rC (f:=ip 0 bu (d2 jz (dV 6) (ay 3 aM (aC (dV 1) (aC (d2 dw (d2 dw (d2 dw (dV 2) (dC (.int 3))) (d2 gg (dC (.int 7)) (dV 8))) (dV 0)) (aC (dA bL (aC (dV 6) aN)) aN)))))
  (sgn at' mo ns W al bd R (fz (.int (0+(j:Int)))) x8)) (Pr:=λy=>∃c,y= .str ⟨#[c]⟩/\lE c) (gH 0 W) λd hd=>by
  obtain⟨i,hi,rfl⟩:=Fv hd;obtain⟨v,hv,e⟩:=fm ns hl (at'+3+7*j+i) al.length ha.pos;obtain⟨c,hc,_,e2⟩:=DD hv;refine⟨.str ⟨#[c]⟩,?_,c,rfl,ha.ok c hc⟩;rw[fw];have k:(at':Int)+3+7*(0+(j:Int))+(0+(i:Int))=((at'+3+7*j+i:Nat):Int):=by omega
  have m1:gg (.int 7) (.int (0+(j:Int)))=aa (.int (7*(0+(j:Int)))):=fG (.inl ⟨by decide,by decide⟩);simp only[ay,d2,dV,dC,dA,aC,aN,au,Vk,V6,V_,Wa,Nat.reduceAdd,if_true,iE,m1,k,bL,e,e2]
 refine⟨ys,bB (me (n:=W) (by omega)) e (by rw[yW,i7,cI];omega),by rw[yW,i7],hp⟩
def Sg:DS:=bh 6 (d2 oK (dV 6) (dA aR (aC (dM kh joinM (dC (.str "")) (aC (dV 8) aN)) aN)))
def GC(at' mo:Nat)(ns:List Int)(W:Nat)(al:Str)(bd:List Str)(R:Nat)(x7:Option Sl)(ys:List D)(hb:bd.length<=5)(hy:ys.length<=5)(s3:∀y∈ys,∃c,y= .str ⟨#[c]⟩/\lE c):
 ∃r,(Row ys.length r/\Oi r)/\Sg (sgn at' mo ns W al bd R x7 (fz (.lst ys)))=aa (.nx (sgn at' mo ns W al (bd++[r]) R x7 (fz (.lst ys)))):=by
 obtain⟨xs,t1,t2,t3,t4⟩:=ye ys s3;refine⟨cw xs,t4,?_⟩;have jn:joinM (.str "") [.lst ys]=aa (.str (cw xs)):=by
  show (match lF ys with | some (xs:List Str)=>if ("":Str).length=0/\(xs.map (λx:Str=>x.length)).sum<=lim then aa (D.str (cw xs)) else ag | none=>ag)=_;rw[t1];show (if ("":Str).length=0/\(xs.map (λx:Str=>x.length)).sum<=lim then aa (D.str (cw xs)) else ag)=_;rw[acI ⟨rfl,by rw[t3,cI];omega⟩]
 have ct:oK (brd bd) (.tup [.str (cw xs)])=aa (brd (bd++[cw xs])):=by
  show (if (bd.map D.str).length+1<=lim then aa (D.tup (bd.map D.str++[.str (cw xs)])) else ag)=_;rw[acI (by rw[Vb,cI];omega)];simp[brd]
 refine(aS (d:=brd (bd++[cw xs])) ?_).trans rfl;simp only[d2,dV,dC,dA,aC,aN,dM,kh,au,V_,Wa,if_true,jn,aR,Vk,V6,cI,Nat.reduceAdd,Nat.reduceLeDiff,ct]
def yC(ns:List Int)(hl:ns.length<=63)(at' mo:Nat)(m0:0<mo)(m5:mo<=5):∃bd W,Good bd W/\(∀r∈bd,Oi r)/\bd.length<=mo/\W<=mo/\cp [.scr ns, .int (at':Int), .int (mo:Int)]=aa (brd bd):=by
 obtain⟨r,hr,e1⟩:=fm ns hl at' mo m0;obtain⟨c,hc,e2⟩:=fm ns hl (at'+1) mo m0;obtain⟨a,ha,e3⟩:=fm ns hl (at'+2) 4 (by decide);obtain⟨al,MC,e4⟩:∃al,Alpha al/\wB (.lst [.str "ab", .str "abc", .str "aab", .str "fa"]) (.int (a:Int))=aa (.str al):=by
  obtain⟨a1,a2,a3,a4⟩:=JB
  match a,ha with
  |0,_=>exact⟨_,a1,rfl⟩
  |1,_=>exact⟨_,a2,rfl⟩
  |2,_=>exact⟨_,a3,rfl⟩
  |3,_=>exact⟨_,a4,rfl⟩
 have k1:(1:Int)+(r:Int)=((r+1:Nat):Int):=by omega
 have k2:(1:Int)+(c:Int)=((c+1:Nat):Int):=by omega
 have CG:aM [.scr ns, .int (at':Int), .int (mo:Int)]=aa (.int (r:Int)):=e1;have LO:aM [.scr ns, .int ((at':Int)+1), .int (mo:Int)]=aa (.int (c:Int)):=e2;have Oo:aM [.scr ns, .int ((at':Int)+2), .int 4]=aa (.int (a:Int)):=e3;obtain⟨ρ',f1,bd,f2,f3,f4⟩:=wz (put:=putN 7) (body:=bN [7,8] (aF (bh 8 Sf) Sg))
  (I:=λi ρ=>∃bd,ρ=sgn at' mo ns (c+1) al bd (r+1) none none/\bd.length=i/\∀z∈bd,Row (c+1) z/\Oi z)
  (gH 0 (r+1)) 0 (sgn at' mo ns (c+1) al [] (r+1) none none) ⟨[],rfl,rfl,λ_ h=>by cases h⟩ λj d hd ρ ⟨bd,hρ,hb,hw⟩=>by
   obtain⟨hj,rfl⟩:=Ig hd;subst hρ;obtain⟨ys,s1,s2,s3⟩:=Cv at' mo ns hl al MC j (c+1) (r+1) (by omega) bd none;obtain⟨CN,t1,t2⟩:=GC at' mo ns (c+1) al bd (r+1) (fz (.int (0+(j:Int)))) ys (by omega) (by omega) s3;refine⟨_,_,rfl,aU (aq (aS s1) t2),bd++[CN],rfl,by simp[hb],λz hz=>?_⟩;rcases V3.mp hz with h | h
   ·exact hw z h
   ·have h:z=CN:=by simpa using h
    subst h;rw[s2] at t1;exact t1
 refine⟨bd,c+1,⟨by rw[f3,i7];omega,by rw[f3,i7];omega,by omega,by omega,λr q=>(f4 r q).1⟩,λr q=>(f4 r q).2,by rw[f3,i7];omega,by omega,?_⟩;subst f2;refine bo ?_;refine aq (aS (d:= .int ((r+1:Nat):Int)) ?_) ?_
 ·simp only[ay,d2,dV,dC,aC,aN,au,Vi,W3,WW,VL,Vk,V6,V_,Wa,Nat.reduceAdd,if_true,iE,CG,k1]
 refine aq (aS (d:= .int ((c+1:Nat):Int)) ?_) ?_
 ·simp only[ay,d2,dV,dC,aC,aN,au,Vi,W3,WW,VL,Vk,V6,Vx,Yj,Yk,Nat.reduceSub,V_,Wa,Nat.reduceAdd,if_true,iE,LO,k2]
 refine aq (aS (d:= .str al) ?_) ?_
 ·simp only[ay,d2,dV,dC,dA,aC,aN,au,Vi,W3,WW,VL,Vk,V6,Vx,Yj,Yk,Nat.reduceSub,V_,Wa,Nat.reduceAdd,if_true,iE,Oo,dW,cI,Nat.reduceLeDiff,e4]
 refine aq (aS (d:= .tup []) rfl) ?_;refine aq (FA (me (n:=r+1) (by omega)) f1) ?_;exact bj rfl
def yB(ns:List Int)(hl:ns.length<=63)(at' mo:Nat)(m0:0<mo)(m5:mo<=5):∃bd W,Good bd W/\(∀r∈bd,Sh r)/\bd.length<=mo/\W<=mo/\cp [.scr ns, .int (at':Int), .int (mo:Int)]=aa (brd bd):=
 let ⟨bd,W,h1,h3,h2⟩:=yC ns hl at' mo m0 m5
 ⟨bd,W,h1,λr hr c hc=>(h3 r hr c hc).1,h2⟩
def yD(ns:List Int)(hl:ns.length<=63)(at' mo:Nat)(m0:0<mo)(m5:mo<=5):∃bd W,Good bd W/\bd.length<=mo/\W<=mo/\cp [.scr ns, .int (at':Int), .int (mo:Int)]=aa (brd bd):=
 let ⟨bd,W,h1,_,h2⟩:=yB ns hl at' mo m0 m5
 ⟨bd,W,h1,h2⟩
def A_(ns:List Int)(hl:ns.length<=63)(at' mo:Nat)(m0:0<mo)(m5:mo<=5):∃bd W,Good bd W/\cp [.scr ns, .int (at':Int), .int (mo:Int)]=aa (brd bd):=by
 obtain⟨bd,W,h1,_,_,h2⟩:=yD ns hl at' mo m0 m5;exact⟨bd,W,h1,h2⟩
def Plain:D->Prop
 | .non | .bl _ | .int _ | .str _ | .tup _ | .lst _=>True
 |_=>False
def isStr:D->Bool
 | .str _=>true
 |_=>false
def isTup:D->Bool
 | .tup _=>true
 |_=>false
def fU{d:D}(h:Plain d):iH [d, .raw (.ty "str")]=aa (.bl (isStr d)):=by
 cases d<;>first | rfl | exact h.elim
def Aw{d:D}(h:Plain d):iH [d, .raw (.ty "tuple")]=aa (.bl (isTup d)):=by
 cases d<;>first | rfl | exact h.elim
def uo:D->Bool
 | .str x=>(x.length==1)&&Ki x
 |_=>false
def tY{ρ:aQ}{i:Nat}{d:D}(h:ρ[i]? =some (fz d)):dV i ρ=aa d:=by
 unfold dV;rw[h]
def eq_int(i j:Int):jy (.int i) (.int j)=aa (.bl (i==j)):=rfl
def len_str(x:Str):bL [.str x]=aa (.int (x.length:Int)):=rfl
def in_str(x:Str):DB false (.str x) (.str "abcdef")=aa (.bl (Ki x)):=rfl
def mO(a b:Nat):((a:Int)==(b:Int))=(a==b):=by
 by_cases h:a=b
 ·subst h;simp
 ·have h2:¬(a:Int)=(b:Int):=by omega
  rw[acQ.mpr h,acQ.mpr h2]
def Hh{d:D}(h:Plain d){i:Nat}{ρ:aQ}(hρ:ρ[i]? =some (fz d)):
 eQ (dA iH (aC (dV i) (aC (dC (.raw (.ty "str"))) aN))) (eQ (d2 jy (dA bL (aC (dV i) aN)) (dC (.int 1))) (d2 (DB false) (dV i) (dC (.str "abcdef")))) ρ=aa (.bl (uo d)):=by
 have hv:=tY hρ;have e1:=mO;cases d with
 |str x=>
  have k:((x.length:Int)==1)=(x.length==1):=mO x.length 1;simp only[eQ,dA,aC,aN,dC,d2,hv,au,fU h,isStr,CY,if_true,len_str,eq_int,k,in_str,uo];cases x.length==1<;>rfl
 |non=>simp only[eQ,dA,aC,aN,dC,d2,hv,au,fU h,isStr,CY,if_false,VC,uo]
 |bl b=>simp only[eQ,dA,aC,aN,dC,d2,hv,au,fU h,isStr,CY,if_false,VC,uo]
 |int b=>simp only[eQ,dA,aC,aN,dC,d2,hv,au,fU h,isStr,CY,if_false,VC,uo]
 |tup b=>simp only[eQ,dA,aC,aN,dC,d2,hv,au,fU h,isStr,CY,if_false,VC,uo]
 |lst b=>simp only[eQ,dA,aC,aN,dC,d2,hv,au,fU h,isStr,CY,if_false,VC,uo]
 |raw _=>exact h.elim
 |exc _=>exact h.elim
 |scr _=>exact h.elim
 |dct _ _=>exact h.elim
 |dci _ _=>exact h.elim
def qL{d:D}(h:Plain d):cR [d]=aa (.bl (uo d)):=bo (bj (Hh h rfl))
def jo(x:Str):Bool:=x.cps.toList.all λc=>Ki ⟨#[c]⟩
def j_:D->Bool
 | .str x=>(decide (1<=x.length)&&decide (x.length<=8))&&jo x
 |_=>false
def Ba(l:List Bool):bools (l.map D.bl)=some l:=by
 induction l with
 |nil=>rfl
 |cons b r ih=>show (bools (r.map D.bl)).map _=_;rw[ih];rfl
def all_map(l:List Bool):allM [.lst (l.map D.bl)]=aa (.bl (l.all id)):=by
 show (match bools (l.map D.bl) with | some bs=>aa (D.bl (bs.all id)) | none=>ag)=_;rw[Ba]
def Dg{δ:DE}{ρ:aQ}{n:Nat}(h:δ ρ=aa (.int (n:Int))):
 dN (v8 (λi j=>decide (i<=j)) (λi j=>decide (i<=j)) (dC (.int 1)) δ (dC (.int 8))) ρ=aa (decide (1<=n)&&decide (n<=8)):=by
 have k1:decide ((1:Int)<=(n:Int))=decide (1<=n):=by by_cases h:1<=n<;>simp[h]<;>omega
 have k2:decide ((n:Int)<=8)=decide (n<=8):=by by_cases h:n<=8<;>simp[h]<;>omega
 simp only[dN,v8,dC,h,au,k1,k2,gI,CY];cases decide (1<=n)<;>rfl
def y8{d:D}(h:Plain d):fC [d]=aa (.bl (j_ d)):=by
 refine bo ?_;have hρ:([d].map (λd=>some (Sl.fz d))++Vx (1 - [d].length) none)=[fz d]:=rfl;rw[hρ];have hv:dV 0 [fz d]=aa d:=rfl;have no:isStr d=false->yk [fz d]=aa (.rt (.bl false)):=λhs=>by
  refine jr (gJ ?_ (bj rfl));simp only[oA,dQ,cH,dA,aC,aN,dC,hv,au,fU h,hs,F4,YX,if_true]
 cases d with
 |str x=>
  have hi:cH (dA iH (aC (dV 0) (aC (dC (.raw (.ty "str"))) aN))) [fz (.str x)]=aa true:=by
   simp only[cH,dA,aC,aN,dC,hv,au,fU h,isStr,F4]
  have hl:dA bL (aC (dV 0) aN) [fz (.str x)]=aa (.int (x.length:Int)):=rfl;have hc:=Dg hl;by_cases hr:(decide (1<=x.length)&&decide (x.length<=8))=true
  ·rw[hr] at hc;refine aq (e_ ?_ (ρ:=[fz (.str x)]) rfl) (bj ?_)
   ·unfold oA dQ;rw[hi,au,au,hc];rfl
   ·have hb:x.length<=8:=by simp only[VA,acM] at hr;exact hr.2
    have cm:ba 0 (λρ=>(dV 0) ρ>>=Lx) bu (ay 1 cR (aC (dV 0) aN)) [fz (.str x)]=aa (.lst ((x.cps.toList.map λc=>Ki ⟨#[c]⟩).map D.bl)):=by
     refine bB (ds:=signs x) rfl ?_ ?_
     ·have:=gw (f:=ip 0 bu (ay 1 cR (aC (dV 0) aN)) [fz (.str x)]) (g:=λd=>D.bl (uo d)) (signs x) λd hd=>by
       rw[fw];obtain⟨c,_,rfl⟩:=Vp.mp hd;show (cR [.str ⟨#[c]⟩]>>=λy=>aa (some y))=_;rw[qL (d:= .str ⟨#[c]⟩) trivial];rfl
      rw[this];unfold signs;rw[VX,VX];congr 1
     ·rw[Vb,Vb,Vh,cI];exact VI hb (by decide)
    rw[dP (bf cm rfl),all_map];show aa (D.bl ((x.cps.toList.map λc=>Ki ⟨#[c]⟩).all id))=aa (D.bl ((decide (1<=x.length)&&decide (x.length<=8))&&jo x));rw[hr];unfold jo;rw[YT];rfl
  ·have hr:(decide (1<=x.length)&&decide (x.length<=8))=false:=by simpa using hr
   rw[hr] at hc;have:j_ (.str x)=false:=by
    show ((decide (1<=x.length)&&decide (x.length<=8))&&jo x)=false;rw[hr];rfl
   rw[this];refine jr (gJ ?_ (bj rfl));unfold oA dQ;rw[hi,au,au,hc];rfl
 |non=>exact no rfl
 |bl b=>exact no rfl
 |int b=>exact no rfl
 |tup b=>exact no rfl
 |lst b=>exact no rfl
 |raw _=>exact h.elim
 |exc _=>exact h.elim
 |scr _=>exact h.elim
 |dct _ _=>exact h.elim
 |dci _ _=>exact h.elim
def j3:D->Nat
 | .str x=>x.length
 |_=>0
def jR:D->Bool
 | .tup ds=>(decide (1<=ds.length)&&decide (ds.length<=8))&&(ds.all j_&&ds.all λd=>j3 d==j3 (ds.headD .non))
 |_=>false
def Plain2:D->Prop
 | .tup ds=>∀d∈ds,Plain d
 |d=>Plain d
def Plain2.plain{d:D}(h:Plain2 d):Plain d:=by
 cases d<;>first | exact h | exact trivial
def RU{ds:List D}{d:D}{r:List D}(h:ds=d::r):a9 (.tup ds) (.int 0)=aa d:=by
 subst h;show (match L2.atI (d::r) ((0:Nat):Int) with | some d=>aa d | none=>ag)=_;rw[gr (x:=d) rfl]
def Ih{d:D}(h:j_ d=true):∃x,d= .str x:=by
 cases d<;>first | exact⟨_,rfl⟩ | cases h
def Bq{d:D}(h:Plain d):oA (dQ (cH (dA iH (aC (dV 0) (aC (dC (.raw (.ty "tuple"))) aN))))) (dQ (dN (v8 (λi j=>decide (i<=j)) (λi j=>decide (i<=j)) (dC (.int 1)) (dA bL (aC (dV 0) aN)) (dC (.int 8))))) [fz d]=
 aa (match d with | .tup ds=>!(decide (1<=ds.length)&&decide (ds.length<=8)) | _=>true):=by
 have hv:dV 0 [fz d]=aa d:=rfl;have no:isTup d=false->oA (dQ (cH (dA iH (aC (dV 0) (aC (dC (.raw (.ty "tuple"))) aN))))) (dQ (dN (v8 (λi j=>decide (i<=j)) (λi j=>decide (i<=j)) (dC (.int 1)) (dA bL (aC (dV 0) aN)) (dC (.int 8))))) [fz d]=aa true:=λhs=>by
  simp only[oA,dQ,cH,dA,aC,aN,dC,hv,au,Aw h,hs,F4,YX,if_true]
 cases d with
 |tup ds=>
  have hi:cH (dA iH (aC (dV 0) (aC (dC (.raw (.ty "tuple"))) aN))) [fz (.tup ds)]=aa true:=by
   simp only[cH,dA,aC,aN,dC,hv,au,Aw h,isTup,F4]
  have hl:dA bL (aC (dV 0) aN) [fz (.tup ds)]=aa (.int (ds.length:Int)):=rfl;unfold oA dQ;rw[hi,au,au,Dg hl];rfl
 |non=>exact no rfl
 |bl b=>exact no rfl
 |int b=>exact no rfl
 |str b=>exact no rfl
 |lst b=>exact no rfl
 |raw _=>exact h.elim
 |exc _=>exact h.elim
 |scr _=>exact h.elim
 |dct _ _=>exact h.elim
 |dci _ _=>exact h.elim
def all_rows{ds:List D}(h:∀d∈ds,Plain d)(hl:ds.length<=8):dA allM (aC (ba 0 (jX (dV 0)) bu (ay 1 fC (aC (dV 0) aN))) aN) [fz (.tup ds)]=aa (.bl (ds.all j_)):=by
 have cm:ba 0 (jX (dV 0)) bu (ay 1 fC (aC (dV 0) aN)) [fz (.tup ds)]=aa (.lst ((ds.map j_).map D.bl)):=by
  refine bB (ds:=ds) rfl ?_ (by rw[Vb,Vb,cI];omega);rw[VX];refine gw (g:=D.bl∘j_) ds λd hd=>?_;rw[fw];show (fC [d]>>=λy=>aa (some y))=_;rw[y8 (h d hd)];rfl
 rw[dP (bf cm rfl),all_map,YT];rfl
def all_lens{ds:List D}(hs:∀d∈ds,∃x,d= .str x)(h0:1<=ds.length)(hl:ds.length<=8):
 dA allM (aC (ba 0 (jX (dV 0)) bu (d2 jy (dA bL (aC (dV 0) aN)) (dA bL (aC (d2 a9 (dV 1) (dC (.int 0))) aN)))) aN) [fz (.tup ds)]=aa (.bl (ds.all λd=>j3 d==j3 (ds.headD .non))):=by
 obtain⟨d0,r,e0⟩:∃d0 r,ds=d0::r:=by
  cases ds with
  |nil=>simp at h0
  |cons a r=>exact⟨a,r,rfl⟩
 have hh:ds.headD .non=d0:=by rw[e0];rfl
 obtain⟨x0,RO⟩:=hs d0 (by rw[e0];exact Ve ..);have cm:ba 0 (jX (dV 0)) bu (d2 jy (dA bL (aC (dV 0) aN)) (dA bL (aC (d2 a9 (dV 1) (dC (.int 0))) aN))) [fz (.tup ds)]=aa (.lst ((ds.map λd=>j3 d==j3 (ds.headD .non)).map D.bl)):=by
  refine bB (ds:=ds) rfl ?_ (by rw[Vb,Vb,cI];omega);rw[VX];refine gw (g:=D.bl∘λd=>j3 d==j3 (ds.headD .non)) ds λd hd=>?_;rw[fw];obtain⟨x,rfl⟩:=hs d hd;have k:((x.length:Int)==(x0.length:Int))=(x.length==x0.length):=mO _ _;have i0:a9 (.tup ds) (.int 0)=aa (.str x0):=by rw[RU e0,RO]
  have Ti:ds.headD .non= .str x0:=by rw[hh,RO]
  simp only[d2,dA,aC,aN,dC,dV,au,V_,Wa,len_str,i0,eq_int,k,acH,j3,Ti]
 rw[dP (bf cm rfl),all_map,YT];rfl
def gR{d:D}(h:Plain2 d):ez [d]=aa (.bl (jR d)):=by
 refine bo ?_;have hρ:([d].map (λd=>some (Sl.fz d))++Vx (1 - [d].length) none)=[fz d]:=rfl;rw[hρ];have hf:=Bq h.plain;have no:(∀ds,d≠ .tup ds)->qw [fz d]=aa (.rt (.bl (jR d))):=λhn=>by
  cases d<;>first | exact acK rfl (hn _) | exact jr (gJ hf (bj rfl))
 cases d with
 |tup ds=>
  have hf:_=aa (!(decide (1<=ds.length)&&decide (ds.length<=8))):=hf;by_cases hr:(decide (1<=ds.length)&&decide (ds.length<=8))=true
  ·rw[hr] at hf;have hb:=hr;simp only[VA,acM] at hb;have e:jR (.tup ds)=(ds.all j_&&ds.all λd=>j3 d==j3 (ds.headD .non)):=by
    show ((decide (1<=ds.length)&&decide (ds.length<=8))&&_)=_;rw[hr,abl]
   rw[e];have a1:=all_rows h hb.2;refine aq (e_ hf rfl) ?_;cases hc:ds.all j_ with
   |false=>
    rw[hc] at a1;refine jr (gJ ?_ (bj rfl));unfold dQ cH;rw[a1];rfl
   |true=>
    rw[hc] at a1;refine aq (e_ ?_ rfl) (bj ?_)
    ·unfold dQ cH;rw[a1];rfl
    ·rw[abl];exact all_lens (λd hd=>Ih (Wu.mp hc d hd)) hb.1 hb.2
  ·have hr:(decide (1<=ds.length)&&decide (ds.length<=8))=false:=by simpa using hr
   rw[hr] at hf;have e:jR (.tup ds)=false:=by
    show ((decide (1<=ds.length)&&decide (ds.length<=8))&&_)=_;rw[hr];rfl
   rw[e];exact jr (gJ hf (bj rfl))
 |non=>exact no λ_ z=>by cases z
 |bl b=>exact no λ_ z=>by cases z
 |int b=>exact no λ_ z=>by cases z
 |str b=>exact no λ_ z=>by cases z
 |lst b=>exact no λ_ z=>by cases z
 |raw _=>exact h.elim
 |exc _=>exact h.elim
 |scr _=>exact h.elim
 |dct _ _=>exact h.elim
 |dci _ _=>exact h.elim
structure Brd (ob:List Str) (V:Nat):Prop where
 r1:1<=ob.length
 r8:ob.length<=8
 w1:1<=V
 w8:V<=8
 rows:∀r∈ob,Row V r
def Good.brd{bd:List Str}{W:Nat}(hg:Good bd W):Brd bd W:=⟨hg.r1,by have:=hg.r5;omega,hg.w1,by have:=hg.w5;omega,hg.rows⟩
def Brd.board{ob:List Str}{V:Nat}(h:Brd ob V):jR (brd ob)=true:=by
 have P6:∀r∈ob,j_ (.str r)=true:=λr hr=>by
  have q:=h.rows r hr;show ((decide (1<=r.length)&&decide (r.length<=8))&&jo r)=true;rw[q.len];have a:decide (1<=V)=true:=acL h.w1;have b:decide (V<=8)=true:=acL h.w8;rw[a,b];show jo r=true;exact Wu.mpr λc hc=>q.let' c hc
 have h0:j3 ((ob.map D.str).headD .non)=V:=by
  have:=h.r1;have hr:=h.rows;cases ob with
  |nil=>simp at this
  |cons x l=>exact(hr x (Ve ..)).len
 show ((decide (1<=(ob.map D.str).length)&&decide ((ob.map D.str).length<=8))&&((ob.map D.str).all j_&&(ob.map D.str).all λd=>j3 d==j3 ((ob.map D.str).headD .non)))=true;rw[h0,Vb,acL h.r1,acL h.r8];have a:(ob.map D.str).all j_=true:=Wu.mpr λd hd=>by
  obtain⟨r,hr,rfl⟩:=Vp.mp hd;exact P6 r hr
 have b:((ob.map D.str).all λd=>j3 d==V)=true:=Wu.mpr λd hd=>by
  obtain⟨r,hr,rfl⟩:=Vp.mp hd;show (r.length==V)=true;rw[(h.rows r hr).len];simp
 rw[a,b];rfl
def rA{bd:List Str}:Plain2 (brd bd):=λd hd=>by
 obtain⟨r,_,rfl⟩:=Vp.mp hd;trivial
def iD{δ:DE}{ρ:aQ}{b:Bool}(h:δ ρ=aa (.bl b)):cH δ ρ=aa b:=by
 unfold cH;rw[h];rfl
def kg{δ:DE}{ρ:aQ}{b:Bool}(h:δ ρ=aa (.bl b)):dN δ ρ=aa b:=by
 unfold dN;rw[h];rfl
def yO{τ:DT}{ρ:aQ}{b:Bool}(h:τ ρ=aa b):dQ τ ρ=aa (!b):=by
 unfold dQ;rw[h];rfl
def II{a c:DT}{ρ:aQ}{p q:Bool}(h1:a ρ=aa p)(h2:c ρ=aa q):oA a c ρ=aa (p||q):=by
 unfold oA;rw[h1,au];cases p
 ·exact h2
 ·rfl
def yN{a c:DT}{ρ:aQ}{p q:Bool}(h1:a ρ=aa p)(h2:c ρ=aa q):ku a c ρ=aa (p&&q):=by
 unfold ku;rw[h1,au];cases p
 ·rfl
 ·exact h2
def GD{a c:DE}{ρ:aQ}{p q:Bool}(h1:a ρ=aa (.bl p))(h2:c ρ=aa (.bl q)):eQ a c ρ=aa (.bl (p&&q)):=by
 unfold eQ;rw[h1,au];cases p
 ·rfl
 ·exact h2
def Brd.nb{ob:List Str}{V:Nat}(h:Brd ob V):cz [brd ob]=aa .non:=by
 refine Ii (ρ:=[fz (brd ob)]) (e_ (yO (iD (b:=true) ?_)) rfl);refine(az (ds:=[brd ob]) rfl rfl).trans ?_;rw[gR rA,h.board]
structure Ln (V:Nat) (r:Str):Prop where
 len:r.length=V
structure Wd (ob:List Str) (V:Nat):Prop where
 r1:1<=ob.length
 r8:ob.length<=8
 w1:1<=V
 w8:V<=8
 rows:∀r∈ob,Ln V r
def Brd.wd{ob:List Str}{V:Nat}(h:Brd ob V):Wd ob V:=⟨h.r1,h.r8,h.w1,h.w8,λr hr=>⟨(h.rows r hr).len⟩⟩
def Wd.len0{ob:List Str}{V:Nat}(h:Wd ob V){i:Nat}{ρ:aQ}(hρ:ρ[i]? =some (fz (brd ob))):dA bL (aC (d2 a9 (dV i) (dC (.int 0))) aN) ρ=aa (.int (V:Int)):=by
 have h1:=h.r1;have hr:=h.rows;obtain⟨x,l,e⟩:∃x l,ob=x::l:=by
  cases ob with
  |nil=>simp at h1
  |cons x l=>exact⟨x,l,rfl⟩
 have hx:x.length=V:=(hr x (by rw[e];exact Ve ..)).len;have i0:a9 (brd ob) (.int 0)=aa (.str x):=RU (show ob.map D.str=D.str x::l.map D.str by rw[e];rfl);have k:=aT (g:=a9) (tY hρ) (show dC (.int 0) ρ=aa (.int 0) from rfl);rw[i0] at k;rw[dP (bf (xs:=[]) k rfl)];show aa (D.int (x.length:Int))=_;rw[hx]
def Brd.len0{ob:List Str}{V:Nat}(h:Brd ob V){i:Nat}{ρ:aQ}(hρ:ρ[i]? =some (fz (brd ob))):dA bL (aC (d2 a9 (dV i) (dC (.int 0))) aN) ρ=aa (.int (V:Int)):=h.wd.len0 hρ
def BP{bd:List Str}{i:Nat}{ρ:aQ}(hρ:ρ[i]? =some (fz (brd bd))):dA bL (aC (dV i) aN) ρ=aa (.int (bd.length:Int)):=by
 have:bL [brd bd]=aa (.int (bd.length:Int)):=by
  show aa (D.int ((bd.map D.str).length:Int))=_;rw[Vb]
 simp only[dA,aC,aN,tY hρ,au,this]
def Mh{δ ε:DE}{ρ:aQ}{i n:Int}(h:δ ρ=aa (.int i))(h2:ε ρ=aa (.int n)):
 v8 (λi j=>decide (i<=j)) (λi j=>decide (i<j)) (dC (.int 0)) δ ε ρ=aa (.bl (decide (0<=i)&&decide (i<n))):=by
 simp only[v8,dC,h,h2,au,gI];cases decide (0<=i)<;>rfl
def Nl{d e:D}:a9 (.tup [d,e]) (.int 0)=aa d/\a9 (.tup [d,e]) (.int 1)=aa e:=⟨rfl,rfl⟩
abbrev Cell:=Nat×Nat
def cD(c:Cell):D:= .tup [.int (c.1:Int), .int (c.2:Int)]
def On(R W:Nat)(c:Cell):Prop:=c.1<R/\c.2<W
instance {R W:Nat}{c:Cell}:Decidable (On R W c):=by unfold On;infer_instance
def Ways(w:Nat):Prop:=w=4\/w=8
def Ways.nw{w:Nat}(h:Ways w):eR [.int (w:Int)]=aa .non:=by
 rcases h with rfl | rfl<;>rfl
def ch(x:Str)(j:Nat):Nat:=x.cps.toList.getD j 0
def at2(bd:List Str)(i j:Nat):Nat:=ch (bd.getD i ⟨#[]⟩) j
abbrev lt(bd:List Str)(c:Cell):Nat:=at2 bd c.1 c.2
def sg(n:Nat):D:= .str ⟨#[n]⟩
def A1{x:Str}{c:Nat}(h:c<x.length):jz (.str x) (.int (c:Int))=aa (sg (ch x c)):=by
 have h':c<x.cps.toList.length:=by rw[Vh];exact h
 show (match L2.atI x.cps.toList (c:Int) with | some c=>aa (D.str ⟨#[c]⟩) | none=>ag)=_;rw[gr (Vg h')];unfold sg ch;rw[VN,Vg h'];rfl
def getD_mem{bd:List Str}{i:Nat}(h:i<bd.length):bd.getD i ⟨#[]⟩∈bd:=by
 rw[VN,Vg h];exact X9 h
def D_{bd:List Str}{i:Nat}(h:i<bd.length):a9 (brd bd) (.int (i:Int))=aa (.str (bd.getD i ⟨#[]⟩)):=by
 show (match L2.atI (bd.map D.str) (i:Int) with | some d=>aa d | none=>ag)=_;rw[gr (x:= .str (bd.getD i ⟨#[]⟩)) ?_];rw[Vz,Vg h,VN,Vg h];rfl
def jE{bd:List Str}{W:Nat}(hg:Brd bd W){c:Cell}(h:On bd.length W c):dF [brd bd,cD c]=aa (sg (lt bd c)):=by
 refine bo (bj ?_);refine(aT (x:= .str (bd.getD c.1 ⟨#[]⟩)) (y:= .int (c.2:Int)) ((aT (x:=brd bd) (y:= .int (c.1:Int)) rfl rfl).trans (D_ h.1)) rfl).trans ?_;exact A1 (by rw[(hg.rows _ (getD_mem h.1)).len];exact h.2)
def IM(a b:Nat):jy (sg a) (sg b)=aa (.bl (decide (a=b))):=by
 show aa (D.bl (decide ((⟨#[a]⟩:Str)=⟨#[b]⟩)))=_;congr 2;by_cases h:a=b
 ·subst h;simp
 ·have:¬((⟨#[a]⟩:Str)=⟨#[b]⟩):=λz=>by
   injection z with z
   exact h (by simpa using z)
  rw[acN h,acN this]
def fR(a b:Nat):Nat:=max a b - min a b
def lM(w:Nat)(a b:Cell):Bool:=if w=4 then decide (fR a.1 b.1+fR a.2 b.2=1) else decide (max (fR a.1 b.1) (fR a.2 b.2)=1)
def z6(a b:Nat):CS [.int ((a:Int) - (b:Int))]=aa (.int (fR a b:Int)):=by
 show aa (D.int _)=_;congr 2;unfold fR;omega
def tH{w:Nat}(hw:Ways w)(a b:Cell):dr [cD a,cD b, .int (w:Int)]=aa (.bl (lM w a b)):=by
 refine bo ?_;refine aq (ρ':=[fz (cD a),fz (cD b),fz (.int (w:Int)),fz (.int (fR a.1 b.1:Int)),none]) ((aS (d:= .int (fR a.1 b.1:Int)) (z6 a.1 b.1)).trans rfl) ?_;refine aq (ρ':=[fz (cD a),fz (cD b),fz (.int (w:Int)),fz (.int (fR a.1 b.1:Int)),fz (.int (fR a.2 b.2:Int))]) ((aS (d:= .int (fR a.2 b.2:Int)) (z6 a.2 b.2)).trans rfl) ?_;rcases hw with rfl | rfl
 ·refine jr (gJ (kg rfl) (bj ?_));show aa (D.bl (((fR a.1 b.1:Int)+(fR a.2 b.2:Int))==1))=_;unfold lM;rw[acI rfl];congr 2;have:((fR a.1 b.1:Int)+(fR a.2 b.2:Int))=((fR a.1 b.1+fR a.2 b.2:Nat):Int):=by omega
  rw[this];have e:=mO (fR a.1 b.1+fR a.2 b.2) 1;exact e.trans rfl
 ·refine aq (e_ (kg rfl) rfl) (bj ?_);show aa (D.bl ((if (fR a.1 b.1:Int)<(fR a.2 b.2:Int) then(fR a.2 b.2:Int) else(fR a.1 b.1:Int))==1))=_;have hn:lM 8 a b=decide (max (fR a.1 b.1) (fR a.2 b.2)=1):=rfl;rw[hn];congr 2;have:(if (fR a.1 b.1:Int)<(fR a.2 b.2:Int) then(fR a.2 b.2:Int) else(fR a.1 b.1:Int))=((max (fR a.1 b.1) (fR a.2 b.2):Nat):Int):=by split<;>omega
  rw[this];have e:=mO (max (fR a.1 b.1) (fR a.2 b.2)) 1;exact e.trans rfl
def xc(w:Nat)(a b:Cell):lM w a b=lM w b a:=by
 have e:∀x y:Nat,fR x y=fR y x:=λx y=>by unfold fR;omega
 unfold lM;rw[e a.1,e a.2]
def KC{w:Nat}(hw:Ways w){a:Cell}:lM w a a=false:=by
 unfold lM fR;rcases hw with rfl | rfl<;>simp
def dG{put:D->aQ->Option aQ}{body:DS}{d:D}{ds:List D}{ρ ρ1 ρ2:aQ}(h1:put d ρ=some ρ1)(h2:body ρ1=aa (.nx ρ2)):forL put body (d::ds) ρ=forL put body ds ρ2:=by
 show (match put d ρ with | none=>ag | some ρ1=>body ρ1>>=λo=>match o with | .nx ρ2=>forL put body ds ρ2 | .rt v=>aa (.rt v))=_;rw[h1];show (body ρ1>>=λo=>match o with | .nx ρ2=>forL put body ds ρ2 | .rt v=>aa (.rt v))=_;rw[h2];rfl
section
variable{α σ:Type}{put:D->aQ->Option aQ}{body:DS}
def jk(enc:α->D)(mk:σ->aQ)(step:σ->α->σ)(I:σ->Prop):∀(xs:List α) (s:σ),I s->(∀s,I s->∀x∈xs,I (step s x)/\∃ρ1,put (enc x) (mk s)=some ρ1/\body ρ1=aa (.nx (mk (step s x))))->
 I (xs.foldl step s)/\forL put body (xs.map enc) (mk s)=aa (.nx (mk (xs.foldl step s)))
 |[],s,h,_=>⟨h,rfl⟩
 |x::xs,s,h,st=>by
  obtain⟨h2,ρ1,e1,e2⟩:=st s h x (Ve ..);obtain⟨h3,e3⟩:=jk enc mk step I xs (step s x) h2 λs hs y hy=>st s hs y (Vc _ hy);exact⟨h3,(dG e1 e2).trans e3⟩
def rN(enc:α->D)(ρ:aQ):∀(xs:List α),(∀x∈xs,∃ρ1,put (enc x) ρ=some ρ1/\body ρ1=aa (.nx ρ))->forL put body (xs.map enc) ρ=aa (.nx ρ)
 |[],_=>rfl
 |x::xs,st=>by
  obtain⟨ρ1,e1,e2⟩:=st x (Ve ..);exact(dG e1 e2).trans (rN enc ρ xs λy hy=>st y (Vc _ hy))
def cT(enc:α->D)(mk:List D->aQ)(g:α->List D){B:Nat}:∀(xs:List α) (u8:List D),(u8++xs.flatMap g).length<=B->(∀x∈xs,∀u8,(u8++g x).length<=B->∃ρ1,put (enc x) (mk u8)=some ρ1/\body ρ1=aa (.nx (mk (u8++g x))))->
 forL put body (xs.map enc) (mk u8)=aa (.nx (mk (u8++xs.flatMap g)))
 |[],u8,_,_=>by simp;rfl
 |x::xs,u8,hB,st=>by
  have Rj:((u8++g x)++xs.flatMap g).length<=B:=by simpa[W5,W6] using hB
  obtain⟨ρ1,e1,e2⟩:=st x (Ve ..) u8 (VI (by simp only[Vm];omega) Rj);have e3:=cT enc mk g xs (u8++g x) Rj λy hy=>st y (Vc _ hy);rw[Vi,dG e1 e2,e3,W5,W6]
end
def dI{put:D->aQ->Option aQ}{δi:DA}{b:DS}{ρ:aQ}{ds:List D}{m:M Out}(h:δi ρ=aa ds)(h2:forL put b ds ρ=m):cJ put δi b ρ=m:=by
 unfold cJ;rw[h];exact h2
def c_{τ:DS}{ρ:aQ}{o:Out}(h:τ ρ=aa o):(λρ=>noex (τ ρ)) ρ=aa o:=by
 show noex (τ ρ)=_;rw[h];rfl
def xP(lo n:Nat):gH (lo:Int) n=(Wr lo n).map λ(k:Nat)=>D.int (k:Int):=by
 unfold gH;rw[abT];have:∀(n a:Nat),(Wr a n).map (λ(i:Nat)=>D.int ((lo:Int)+(i:Int)))=(Wr (lo+a) n).map λ(k:Nat)=>D.int (k:Int):=by
  intro n;induction n with
  |zero=>intro a;rfl
  |succ n ih=>
   intro a;rw[Zl,Zl,Vi,Vi,ih (a+1)];rfl
 exact this n 0
def xO{δ:DE}{ρ:aQ}{n:Nat}(h:δ ρ=aa (.int (n:Int)))(hn:n<=4096):(aC δ aN ρ>>=dH)=aa ((Vw n).map λ(k:Nat)=>D.int (k:Int)):=by
 rw[bf h rfl,au,me hn,show gH 0 n=gH ((0:Nat):Int) n from rfl,xP,abT]
def N1{δ ε:DE}{ρ:aQ}{i j:Nat}(h:δ ρ=aa (.int (i:Int)))(h2:ε ρ=aa (.int (j:Int)))(hi:i<=4096)(hj:j<=4096):(aC δ (aC ε aN) ρ>>=sZ)=aa ((Wr i (j - i)).map λ(k:Nat)=>D.int (k:Int)):=by
 rw[bf h (bf h2 rfl),au];show (if (-4096<=(i:Int)/\(i:Int)<=4096)/\(-4096<=(j:Int)/\(j:Int)<=4096) then aa (gH (i:Int) ((j:Int) - (i:Int)).toNat) else ag)=_;rw[acI ⟨⟨by omega,by omega⟩,by omega,by omega⟩,show ((j:Int) - (i:Int)).toNat=j - i by omega,xP]
def aK(W r:Nat):List Cell:=(Vw W).map λk=>(r,k)
def ak(R W:Nat):List Cell:=(Vw R).flatMap (aK W)
def aE{R W:Nat}{c:Cell}:c∈ak R W↔On R W c:=by
 unfold ak aK On;simp only[Zm,V5,Vp];constructor
 ·rintro⟨r,hr,k,hk,rfl⟩;exact⟨hr,hk⟩
 ·rintro⟨h1,h2⟩;exact⟨c.1,h1,c.2,h2,rfl⟩
def bg(R W:Nat):(ak R W).length=R*W:=by
 unfold ak;have:∀l:List Nat,(l.flatMap (aK W)).length=l.length*W:=by
  intro l;induction l with
  |nil=>simp
  |cons a l ih=>rw[W5,Vm,ih,Vk,Nat.succ_mul];simp[aK];omega
 rw[this,We]
def gu{bd:List Str}{W:Nat}(hg:Brd bd W)(r:Nat):aV [brd bd, .int (r:Int)]=aa (.lst ((aK W r).map cD)):=by
 have:=hg.w8;refine bo (bj (bB (xO (n:=W) (hg.len0 rfl) (by omega)) ?_ (by simp[aK,cI];omega)));rw[show (aK W r).map cD=((Vw W).map λ(k:Nat)=>D.int (k:Int)).map (λe=> .tup [.int (r:Int),e]) by simp[aK,VX];intro a _;rfl];exact gw (g:=λe=> .tup [.int (r:Int),e]) _ λe _=>rfl
def qD{bd:List Str}{W:Nat}(hg:Brd bd W):fT [brd bd]=aa (.lst ((ak bd.length W).map cD)):=by
 have h8:=hg.r8;have w8:=hg.w8;have hm:bd.length*W<=64:=Xm h8 w8;have Bw:(Vw bd.length).flatMap (λr=>(aK W r).map cD)=(ak bd.length W).map cD:=by
  unfold ak;rw[YE]
 have e:=cT (put:=putN 2) (body:=bN [2] (Fy 1 (ay 2 aV (aC (dV 0) (aC (dV 2) aN))))) (λ(k:Nat)=>D.int (k:Int)) (λu8=>[fz (brd bd),some (.ow (.lst u8)),none]) (λr=>(aK W r).map cD) (B:=64) (Vw bd.length) []
  (by rw[VL,Bw,Vb,bg];exact hm) λr hr u8 hB=>by
   refine⟨[fz (brd bd),some (.ow (.lst u8)),fz (.int (r:Int))],rfl,?_⟩;refine(aU (ρ':=[fz (brd bd),some (.ow (.lst (u8++(aK W r).map cD))),fz (.int (r:Int))]) ?_).trans rfl;show (aV [brd bd, .int (r:Int)]>>=λd=>lstM d>>=λes=>if u8.length+es.length<=lim then aa (Out.nx (List.set [fz (brd bd),some (.ow (.lst u8)),fz (.int (r:Int))] 1 (some (.ow (.lst (u8++es)))))) else ag)=_;rw[gu hg,au];show (if u8.length+((aK W r).map cD).length<=lim then aa (Out.nx [fz (brd bd),some (.ow (.lst (u8++(aK W r).map cD))),fz (.int (r:Int))]) else ag)=_;rw[acI (by rw[Vm] at hB;rw[cI];omega)]
 rw[VL,Bw] at e;refine bo (aq (ρ':=[fz (brd bd),some (.ow (.lst [])),none]) rfl (aq (ρ':=[fz (brd bd),some (.ow (.lst ((ak bd.length W).map cD))),none]) (c_ (dI (xO (n:=bd.length) (BP rfl) (by omega)) e)) ?_));rfl
def iP(R W w:Nat)(c:Cell):List Cell:=
 (Wr (c.1 - 1) (min (c.1+2) R - (c.1 - 1))).flatMap λr=>((Wr (c.2 - 1) (min (c.2+2) W - (c.2 - 1))).map λk=>(r,k)).filter (lM w c)
def sC{R W w:Nat}(hw:Ways w){c x:Cell}:x∈iP R W w c↔On R W x/\lM w c x=true:=by
 unfold iP On;simp only[Zm,Ws,Vp,List.mem_range'_1];constructor
 ·rintro⟨r,⟨h1,h2⟩,⟨k,⟨h3,h4⟩,rfl⟩,h5⟩;refine⟨⟨?_,?_⟩,h5⟩
  ·show r<R;omega
  ·show k<W;omega
 ·rintro⟨⟨h1,h2⟩,h5⟩;have h6:fR c.1 x.1<=1/\fR c.2 x.2<=1:=by
   unfold lM at h5;rcases hw with rfl | rfl
   ·rw[acI rfl] at h5;have:=acO h5;omega
   ·rw[acJ (by decide)] at h5;have:=acO h5;omega
  unfold fR at h6;exact⟨x.1,⟨by omega,by omega⟩,⟨x.2,⟨by omega,by omega⟩,rfl⟩,h5⟩
def sv(R W w:Nat)(c:Cell):(iP R W w c).length<=9:=by
 unfold iP;rw[ab6];have h:∀r,(((Wr (c.2 - 1) (min (c.2+2) W - (c.2 - 1))).map λk=>(r,k)).filter (lM w c)).length<=3:=λr=>by
  refine VI (XN ..) ?_;rw[Vb,Z5];omega
 have:∀(l:List Nat),(l.map λr=>(((Wr (c.2 - 1) (min (c.2+2) W - (c.2 - 1))).map λk=>(r,k)).filter (lM w c)).length).sum<=3*l.length:=by
  intro l;induction l with
  |nil=>simp
  |cons a l ih=>rw[Vi,Xk,Vk];have:=h a;omega
 refine VI (this _) ?_;rw[Z5];omega
abbrev nc(b c w:D)(u8:List D)(x4 x5:Option Sl):aQ:=[fz b,fz c,fz w,some (.ow (.lst u8)),x4,x5]
def pC{bd:List Str}{W w:Nat}(hg:Brd bd W)(hw:Ways w){c:Cell}(hc:On bd.length W c):c9 [brd bd,cD c, .int (w:Int)]=aa (.lst ((iP bd.length W w c).map cD)):=by
 have h8:=hg.r8;have w8:=hg.w8;obtain⟨c1,c2⟩:=hc;have MV:∀n:Nat,zd [.int ((n:Int) - 1), .int 0]=aa (.int ((n - 1:Nat):Int)):=λn=>by
  show aa (D.int (if (0:Int)>(n:Int) - 1 then 0 else(n:Int) - 1))=_;congr 2;split<;>omega
 have MW:∀n m:Nat,B0 [.int ((n:Int)+2), .int (m:Int)]=aa (.int ((min (n+2) m:Nat):Int)):=λn m=>by
  show aa (D.int (if (m:Int)<(n:Int)+2 then(m:Int) else(n:Int)+2))=_;congr 2;split<;>omega
 have inner:∀(r:Nat) (u8:List D),u8.length<=16->forL (putN 5) (bN [5] (ix (cH (ay 3 dr (aC (dV 1) (aC (dA aR (aC (dV 4) (aC (dV 5) aN))) (aC (dV 2) aN))))) (g7 3 (dA aR (aC (dV 4) (aC (dV 5) aN)))) dj))
  ((Wr (c.2 - 1) (min (c.2+2) W - (c.2 - 1))).map λ(k:Nat)=>D.int (k:Int)) (nc (brd bd) (cD c) (.int (w:Int)) u8 (fz (.int (r:Int))) none)=
  aa (.nx (nc (brd bd) (cD c) (.int (w:Int)) (u8++(Wr (c.2 - 1) (min (c.2+2) W - (c.2 - 1))).flatMap λk=>if lM w c (r,k) then [cD (r,k)] else []) (fz (.int (r:Int))) none)):=λr u8 qK=>by
  refine cT (λ(k:Nat)=>D.int (k:Int)) (λu8=>nc (brd bd) (cD c) (.int (w:Int)) u8 (fz (.int (r:Int))) none) (λk=>if lM w c (r,k) then [cD (r,k)] else []) (B:=64) _ u8 ?_ λk hk u8 hB=>?_
  ·rw[Vm,ab6];have:∀l:List Nat,(l.map λk=>(if lM w c (r,k) then [cD (r,k)] else []).length).sum<=l.length:=by
    intro l;induction l with
    |nil=>simp
    |cons a l ih=>rw[Vi,Xk,Vk];split<;>simp<;>omega
   have h2:=this (Wr (c.2 - 1) (min (c.2+2) W - (c.2 - 1)));rw[Z5] at h2;omega
  ·refine⟨nc (brd bd) (cD c) (.int (w:Int)) u8 (fz (.int (r:Int))) (fz (.int (k:Int))),rfl,?_⟩;have ht:cH (ay 3 dr (aC (dV 1) (aC (dA aR (aC (dV 4) (aC (dV 5) aN))) (aC (dV 2) aN)))) (nc (brd bd) (cD c) (.int (w:Int)) u8 (fz (.int (r:Int))) (fz (.int (k:Int))))=aa (lM w c (r,k)):=
    iD ((az (ds:=[cD c,cD (r,k), .int (w:Int)]) rfl rfl).trans (tH hw c (r,k)))
   cases hn:lM w c (r,k) with
   |true=>
    rw[hn] at ht;rw[hn,acI rfl,Vm] at hB;refine(aU (ρ':=nc (brd bd) (cD c) (.int (w:Int)) (u8++[cD (r,k)]) (fz (.int (r:Int))) (fz (.int (k:Int)))) (gJ ht ?_)).trans rfl;show (if u8.length<lim then aa (Out.nx (nc (brd bd) (cD c) (.int (w:Int)) (u8++[cD (r,k)]) (fz (.int (r:Int))) (fz (.int (k:Int))))) else ag)=_;rw[acI (by rw[cI];simp at hB;omega)]
   |false=>
    rw[hn] at ht;refine(aU (ρ':=nc (brd bd) (cD c) (.int (w:Int)) u8 (fz (.int (r:Int))) (fz (.int (k:Int)))) (e_ ht rfl)).trans ?_;simp;rfl
 have flt:∀r,((Wr (c.2 - 1) (min (c.2+2) W - (c.2 - 1))).flatMap λk=>if lM w c (r,k) then [cD (r,k)] else [])=(((Wr (c.2 - 1) (min (c.2+2) W - (c.2 - 1))).map λk=>(r,k)).filter (lM w c)).map cD:=λr=>by
  generalize Wr (c.2 - 1) (min (c.2+2) W - (c.2 - 1))=l;induction l with
  |nil=>rfl
  |cons a l ih=>
   rw[W5,ih,Vi,List.filter_cons];cases lM w c (r,a)<;>rfl
 have tot:(Wr (c.1 - 1) (min (c.1+2) bd.length - (c.1 - 1))).flatMap (λr=>(((Wr (c.2 - 1) (min (c.2+2) W - (c.2 - 1))).map λk=>(r,k)).filter (lM w c)).map cD)=(iP bd.length W w c).map cD:=by
  unfold iP;rw[YE]
 have outer:=cT (put:=putN 4) (body:=bN [4,5] (cJ (putN 5) (λρ=>(aC (dA zd (aC (d2 yV (d2 a9 (dV 1) (dC (.int 1))) (dC (.int 1))) (aC (dC (.int 0)) aN))) (aC (dA B0 (aC (d2 dw (d2 a9 (dV 1) (dC (.int 1))) (dC (.int 2))) (aC (dA bL (aC (d2 a9 (dV 0) (dC (.int 0))) aN)) aN))) aN)) ρ>>=sZ) (bN [5] (ix (cH (ay 3 dr (aC (dV 1) (aC (dA aR (aC (dV 4) (aC (dV 5) aN))) (aC (dV 2) aN))))) (g7 3 (dA aR (aC (dV 4) (aC (dV 5) aN)))) dj))))
  (λ(k:Nat)=>D.int (k:Int)) (λu8=>nc (brd bd) (cD c) (.int (w:Int)) u8 none none) (λr=>(((Wr (c.2 - 1) (min (c.2+2) W - (c.2 - 1))).map λk=>(r,k)).filter (lM w c)).map cD) (B:=16) (Wr (c.1 - 1) (min (c.1+2) bd.length - (c.1 - 1))) []
  (by rw[VL,tot,Vb];have:=sv bd.length W w c;omega) λr hr u8 hB=>by
   refine⟨nc (brd bd) (cD c) (.int (w:Int)) u8 (fz (.int (r:Int))) none,rfl,?_⟩;have e:=inner r u8 (by rw[Vm] at hB;omega);rw[flt r] at e;refine(aU (dI (N1 (i:=c.2 - 1) (j:=min (c.2+2) W) ?_ ?_ (by omega) (by omega)) e)).trans rfl
   ·exact(dP (xs:=[.int ((c.2:Int) - 1), .int 0]) rfl).trans (MV c.2)
   ·refine(dP (xs:=[.int ((c.2:Int)+2), .int (W:Int)]) ?_).trans (MW c.2 W);exact bf (show d2 dw (d2 a9 (dV 1) (dC (.int 1))) (dC (.int 2)) (nc (brd bd) (cD c) (.int (w:Int)) u8 (fz (.int (r:Int))) none)=aa (.int ((c.2:Int)+2)) from rfl) (bf (hg.len0 rfl) rfl)
 rw[VL,tot] at outer;refine bo (aq (ρ':=nc (brd bd) (cD c) (.int (w:Int)) [] none none) rfl (aq (ρ':=nc (brd bd) (cD c) (.int (w:Int)) ((iP bd.length W w c).map cD) none none) (c_ (dI (N1 (i:=c.1 - 1) (j:=min (c.1+2) bd.length) ?_ ?_ (by omega) (by omega)) outer)) ?_))
 ·exact(dP (xs:=[.int ((c.1:Int) - 1), .int 0]) rfl).trans (MV c.1)
 ·refine(dP (xs:=[.int ((c.1:Int)+2), .int (bd.length:Int)]) ?_).trans (MW c.1 bd.length);exact bf (show d2 dw (d2 a9 (dV 1) (dC (.int 0))) (dC (.int 2)) (nc (brd bd) (cD c) (.int (w:Int)) [] none none)=aa (.int ((c.1:Int)+2)) from rfl) (bf (BP rfl) rfl)
 ·rfl
def bq(bd:List Str)(W w:Nat)(c:Cell):List Cell:=(iP bd.length W w c).filter λx=>decide (lt bd x=lt bd c)
def fo{bd:List Str}{W w:Nat}(hw:Ways w){c x:Cell}:x∈bq bd W w c↔On bd.length W x/\lM w c x=true/\lt bd x=lt bd c:=by
 unfold bq;rw[Ws,sC hw,acM,and_assoc]
def BS(bd:List Str)(W w:Nat)(c:Cell):(bq bd W w c).length<=9:=VI (XN ..) (sv ..)
def rD{α:Type}{f:D->M (Option D)}(enc:α->D)(p:α->Bool):∀(xs:List α),(∀x∈xs,f (enc x)=aa (if p x then some (enc x) else none))->dE f (xs.map enc)=aa ((xs.filter p).map enc)
 |[],_=>rfl
 |x::xs,h=>by
  rw[Vi,fB,h x (Ve ..),au,rD enc p xs λy hy=>h y (Vc _ hy),List.filter_cons];cases p x<;>rfl
def pe{bd:List Str}{W w:Nat}(hg:Brd bd W)(hw:Ways w){c:Cell}(hc:On bd.length W c):cy [brd bd,cD c, .int (w:Int)]=aa (.lst ((bq bd W w c).map cD)):=by
 refine bo (aq (ρ':=[fz (brd bd),fz (cD c),fz (.int (w:Int)),fz (sg (lt bd c))]) ((aS (d:=sg (lt bd c)) ((az (ds:=[brd bd,cD c]) rfl rfl).trans (jE hg hc))).trans rfl) (bj ?_));refine bB (ds:=(iP bd.length W w c).map cD) ?_ (rD cD _ _ λx hx=>?_) (by rw[Vb,cI];exact VI (BS bd W w c) (by decide))
 ·show (ay 3 c9 _ _>>=lstM)=_;have e:ay 3 c9 (aC (dV 0) (aC (dV 1) (aC (dV 2) aN))) [fz (brd bd),fz (cD c),fz (.int (w:Int)),fz (sg (lt bd c))]=aa (.lst ((iP bd.length W w c).map cD)):=pC hg hw hc;rw[e];rfl
 ·have BE:=(sC hw).mp hx;rw[JH];have e:dN (d2 jy (ay 2 dF (aC (dV 1) (aC (dV 0) aN))) (dV 4)) (fz (cD x)::[fz (brd bd),fz (cD c),fz (.int (w:Int)),fz (sg (lt bd c))])=aa (decide (lt bd x=lt bd c)):=by
   refine kg ?_;exact(aT (x:=sg (lt bd x)) (y:=sg (lt bd c)) ((az (ds:=[brd bd,cD x]) rfl rfl).trans (jE hg BE.1)) rfl).trans (IM _ _)
  rw[e,au];cases decide (lt bd x=lt bd c)<;>rfl
end K1
namespace K1
section
variable{α:Type}[DecidableEq α]
structure Bk (α:Type) where
 ks:List α
 ps:List (Option α)
 fu:List α
def eO(c:α)(s:Bk α)(x:α):Bk α:=if x∈s.ks then s else⟨s.ks++[x],s.ps++[some c],s.fu++[x]⟩
variable(nb:α->List α)
def mx(s:Bk α)(c:α):Bk α:=(nb c).foldl (eO c) s
def cK(s:Bk α)(T0:List α):Bk α:=T0.foldl (mx nb) s
def Rb(a:α):Nat->α->Prop
 |0,x=>x=a
 |k+1,x=>Rb a k x\/∃y,Rb a k y/\x∈nb y
variable{nb}{a:α}
def Rb.mono{i j:Nat}{x:α}(h:i<=j)(r:Rb nb a i x):Rb nb a j x:=by
 induction h with
 |refl=>exact r
 |step _ ih=>exact .inl ih
structure Grown (P:α->α->Prop) (s t:Bk α):Prop where
 ex:∃fs:List (α×α),t.ks=s.ks++fs.map (·.1)/\t.ps=s.ps++fs.map (λp=>some p.2)/\t.fu=s.fu++fs.map (·.1)/\(∀p∈fs,P p.2 p.1)
 nd:s.ks.Nodup->t.ks.Nodup
def Grown.refl{P:α->α->Prop}(s:Bk α):Grown P s s:=⟨⟨[],by simp,by simp,by simp,λ_ h=>by cases h⟩,id⟩
def Grown.trans{P:α->α->Prop}{s t u:Bk α}(h1:Grown P s t)(h2:Grown P t u):Grown P s u:=by
 obtain⟨fs,a1,a2,a3,a4⟩:=h1.ex;obtain⟨gs,b1,b2,b3,b4⟩:=h2.ex;refine⟨⟨fs++gs,by rw[b1,a1];simp,by rw[b2,a2];simp,by rw[b3,a3];simp,λp hp=>?_⟩,λh=>h2.nd (h1.nd h)⟩;rcases V3.mp hp with h | h
 ·exact a4 p h
 ·exact b4 p h
def vR{P:α->α->Prop}{c x:α}(s:Bk α)(h:P c x):Grown P s (eO c s x):=by
 unfold eO;split
 ·exact Grown.refl s
 ·rename_i hx;refine⟨⟨[(x,c)],rfl,rfl,rfl,λp hp=>?_⟩,λhn=>?_⟩
  ·have:p=(x,c):=by simpa using hp
   subst this;exact h
  ·refine Xo.mpr ⟨hn,by simp,λy hy z hz e=>?_⟩;have hz:z=x:=by simpa using hz
   rw[e,hz] at hy;exact hx hy
def A9{c x y:α}(s:Bk α):y∈(eO c s x).ks↔y∈s.ks\/y=x:=by
 unfold eO;split
 ·rename_i hx;exact⟨.inl,λh=>h.elim id λe=>by rw[e];exact hx⟩
 ·simp
def foldStep{P:α->α->Prop}{c:α}:∀(l:List α) (s:Bk α),(∀x∈l,P c x)->Grown P s (l.foldl (eO c) s)/\∀y,y∈(l.foldl (eO c) s).ks↔y∈s.ks\/y∈l
 |[],s,_=>⟨Grown.refl s,λy=>by simp⟩
 |x::l,s,h=>by
  obtain⟨h1,h2⟩:=foldStep l (eO c s x) λy hy=>h y (Vc _ hy);refine⟨(vR s (h x (Ve ..))).trans h1,λy=>?_⟩;rw[Xp,h2 y,A9];simp[or_assoc]
def wy{P:α->α->Prop}:∀(l:List α) (s:Bk α),(∀c∈l,∀x∈nb c,P c x)->Grown P s (cK nb s l)/\∀y,y∈(cK nb s l).ks↔y∈s.ks\/∃c∈l,y∈nb c
 |[],s,_=>⟨Grown.refl s,λy=>by simp[cK]⟩
 |c::l,s,h=>by
  obtain⟨g1,m1⟩:=foldStep (P:=P) (c:=c) (nb c) s (h c (Ve ..));obtain⟨g2,m2⟩:=wy l (mx nb s c) λc' hc=>h c' (Vc _ hc);refine⟨g1.trans g2,λy=>?_⟩;show y∈(cK nb (mx nb s c) l).ks↔_;rw[m2 y];show (y∈((nb c).foldl (eO c) s).ks\/_)↔_;rw[m1 y];simp[or_assoc]
structure Rng (nb:α->List α) (a:α) (k:Nat) (ks:List α) (ps:List (Option α)) (T0:List α):Prop where
 len:ks.length=ps.length
 nd:ks.Nodup
 mem:∀x,x∈ks↔Rb nb a k x
 rg:∀x,x∈T0↔Rb nb a k x/\∀j,Rb nb a j x->k<=j
 par:∀x p,(x,some p)∈ks.zip ps->x∈nb p/\p∈ks/\∀j,Rb nb a j x->∃i,j=i+1/\Rb nb a i p
 non:∀x,(x,none)∈ks.zip ps->x=a
 sz:k<=ks.length/\(T0≠[]->k+1<=ks.length)
def Rng.zero(nb:α->List α)(a:α):Rng nb a 0 [a] [none] [a] where
 len:=rfl
 nd:=by simp
 mem:=λx=>by simp[Rb]
 rg:=λx=>by simp[Rb]
 par:=λx p h=>by simp at h
 non:=λx h=>by simpa using h
 sz:=⟨by simp,λ_=>by simp⟩
def Rng.next{k:Nat}{ks:List α}{ps:List (Option α)}{T0:List α}(h:Rng nb a k ks ps T0)(hr:T0≠[]):Rng nb a (k+1) (cK nb ⟨ks,ps,[]⟩ T0).ks (cK nb ⟨ks,ps,[]⟩ T0).ps (cK nb ⟨ks,ps,[]⟩ T0).fu:=by
 obtain⟨g,m⟩:=wy (nb:=nb) (P:=λc x=>c∈T0/\x∈nb c) T0 ⟨ks,ps,[]⟩ λc hc x hx=>⟨hc,hx⟩
 obtain⟨fs,e1,e2,e3,e4⟩:=g.ex;have Gk:=g.nd h.nd;have hm:∀x,x∈(cK nb ⟨ks,ps,[]⟩ T0).ks↔Rb nb a (k+1) x:=λx=>by
  rw[m x];show (x∈ks\/_)↔(Rb nb a k x\/_);constructor
  ·rintro(q | ⟨c,hc,hx⟩)
   ·exact .inl ((h.mem x).mp q)
   ·exact .inr ⟨c,((h.rg c).mp hc).1,hx⟩
  ·rintro(q | ⟨y,hy,hx⟩)
   ·exact .inl ((h.mem x).mpr q)
   ·by_cases hk:∀j,Rb nb a j y->k<=j
    ·exact .inr ⟨y,(h.rg y).mpr ⟨hy,hk⟩,hx⟩
    ·refine .inl ((h.mem x).mpr ?_);obtain⟨j,hj⟩:=aa5.mp hk;obtain⟨Py,Tp⟩:=abE.mp hj;exact Rb.mono (i:=j+1) (by omega) (.inr ⟨y,Py,hx⟩)
 have CG:(cK nb ⟨ks,ps,[]⟩ T0).ks=ks++fs.map (·.1):=e1;have LO:(cK nb ⟨ks,ps,[]⟩ T0).ps=ps++fs.map (λp=>some p.2):=e2;have Oo:(cK nb ⟨ks,ps,[]⟩ T0).fu=fs.map (·.1):=e3;have new:∀x,x∈fs.map (·.1)->¬Rb nb a k x:=λx hx hk=>by
  rw[CG] at Gk;exact(Xo.mp Gk).2.2 x ((h.mem x).mpr hk) x hx rfl
 have Nq:∀x,¬Rb nb a k x->∀j,Rb nb a j x->k+1<=j:=λx hx j hj=>by
  by_cases Ts:k+1<=j
  ·exact Ts
  ·exact acK (Rb.mono (by omega) hj) hx
 have Nf:(cK nb ⟨ks,ps,[]⟩ T0).ks.zip (cK nb ⟨ks,ps,[]⟩ T0).ps=ks.zip ps++fs.map λp=>(p.1,some p.2):=by
  rw[CG,LO,Zx h.len];congr 1;rw[List.zip_map']
 refine⟨?_,Gk,hm,λx=>?_,λx p hp=>?_,λx hx=>?_,?_⟩
 ·rw[CG,LO,Vm,Vm,Vb,Vb,h.len]
 ·rw[Oo];constructor
  ·intro hx;exact⟨(hm x).mp (by rw[CG];exact VP _ hx),Nq x (new x hx)⟩
  ·rintro⟨h1,h2⟩;have h3:=(hm x).mpr h1;rw[CG] at h3;rcases V3.mp h3 with q | q
   ·have:=h2 k ((h.mem x).mp q);omega
   ·exact q
 ·rw[Nf] at hp;rcases V3.mp hp with q | q
  ·obtain⟨q1,q2,q3⟩:=h.par x p q;exact⟨q1,by rw[CG];exact WZ _ q2,q3⟩
  ·obtain⟨f,hf,e⟩:=Vp.mp q;cases e;obtain⟨f1,f2⟩:=e4 f hf;have hc:=(h.rg f.2).mp f1;refine⟨f2,by rw[CG];exact WZ _ ((h.mem _).mpr hc.1),λj hj=>?_⟩;have:=Nq f.1 (new f.1 (Vp.mpr ⟨f,hf,rfl⟩)) j hj;exact⟨j - 1,by omega,Rb.mono (by omega) hc.1⟩
 ·rw[Nf] at hx;rcases V3.mp hx with q | q
  ·exact h.non x q
  ·obtain⟨f,hf,e⟩:=Vp.mp q;cases e
 ·have hs:=h.sz.2 hr;rw[CG,Vm,Vb];refine⟨by omega,λgh=>?_⟩;have:fs≠[]:=λz=>gh (by rw[Oo,z];rfl);have:=List.length_pos_iff.mpr this;omega
def Rng.last{k:Nat}{ks:List α}{ps:List (Option α)}(h:Rng nb a k ks ps []):∀x,x∈ks↔∃j,Rb nb a j x:=by
 have none:∀x,¬(Rb nb a k x/\∀j,Rb nb a j x->k<=j):=λx q=>by
  have:=(h.rg x).mpr q;cases this
 have hk:∀x,Rb nb a k x->∃i,i<k/\Rb nb a i x:=λx hx=>by
  by_cases q:∀j,Rb nb a j x->k<=j
  ·exact acK ⟨hx,q⟩ (none x)
  ·obtain⟨j,hj⟩:=aa5.mp q;obtain⟨Py,Tp⟩:=abE.mp hj;exact⟨j,by omega,Py⟩
 have all:∀j x,Rb nb a j x->Rb nb a k x:=by
  intro j;induction j with
  |zero=>intro x hx;exact Rb.mono (V1 _) hx
  |succ j ih=>
   rintro x (q | ⟨y,hy,hx⟩)
   ·exact ih x q
   ·obtain⟨i,hi,hr⟩:=hk y (ih y hy);exact Rb.mono (i:=i+1) (by omega) (.inr ⟨y,hr,hx⟩)
 exact λx=>⟨λq=>⟨k,(h.mem x).mp q⟩,λ⟨j,hj⟩=>(h.mem x).mpr (all j x hj)⟩
def iQ{l U:List α}(hn:l.Nodup)(h:∀x∈l,x∈U):l.length<=U.length:=by
 induction l generalizing U with
 |nil=>simp
 |cons a l ih=>
  rw[WG] at hn;have hl:∀x∈l,x∈U.erase a:=λx hx=>by
   have gh:x≠a:=λz=>hn.1 (by rw[<-z];exact hx);exact(abU gh).mpr (h x (Vc _ hx))
  have h1:=ih hn.2 hl;have h2:=Y9 (h a (Ve ..));have h3:=abD (h a (Ve ..));rw[Vk];omega
end
end K1
namespace K1
open PySem L2 L3
def keyOf(c:Cell):List Key:=[.inl (c.1:Int), .inl (c.2:Int)]
def eC{a b:Cell}(h:keyOf a=keyOf b):a=b:=by
 unfold keyOf at h;injection h with h1 h2
 injection h1 with h1
 injection h2 with h2 _
 injection h2 with h2
 exact aaD (ZG h1) (ZG h2)
def jm(c:Cell):eD (cD c)=some (keyOf c):=rfl
def gL{c:Cell}:∀{ks:List Cell}{ds:List D},c∉ks->fS (ks.map keyOf) ds (keyOf c)=none
 |[],_,_=>by simp[fS]
 |k::ks,[],_=>by simp[fS]
 |k::ks,d::ds,h=>by
  rw[Vi];unfold fS;rw[acJ (λz=>h (by rw[eC z];exact Ve ..))];exact gL λz=>h (Vc _ z)
def mn{c:Cell}:∀{ks:List Cell}{ds:List D},ks.length=ds.length->c∈ks->∃d,fS (ks.map keyOf) ds (keyOf c)=some d/\(c,d)∈ks.zip ds
 |[],_,_,h=>by cases h
 |k::ks,[],hl,_=>by simp at hl
 |k::ks,d::ds,hl,h=>by
  rw[Vi];unfold fS;by_cases hk:k=c
  ·subst hk;rw[acI rfl];exact⟨d,rfl,by simp⟩
  ·rw[acJ (λz=>hk (eC z))];have hc:c∈ks:=by
    rcases Vo.mp h with q | q
    ·exact acK q.symm hk
    ·exact q
   obtain⟨d',e1,e2⟩:=mn (ds:=ds) (by simpa using hl) hc;exact⟨d',e1,by simp[e2]⟩
def Av{neg:Bool}{ks:List Cell}{ds:List D}{c:Cell}(hl:ks.length=ds.length):qJ neg (cD c) (.dct (ks.map keyOf) ds)=aa (.bl (if neg then !decide (c∈ks) else decide (c∈ks))):=by
 show (match (eD (cD c)).map (fS (ks.map keyOf) ds) with | some o=>aa (D.bl (if neg then !o.isSome else o.isSome)) | none=>ag)=_;rw[jm];show aa (D.bl (if neg then !(fS (ks.map keyOf) ds (keyOf c)).isSome else(fS (ks.map keyOf) ds (keyOf c)).isSome))=_;by_cases h:c∈ks
 ·obtain⟨d,e,_⟩:=mn hl h;rw[e,acL h];rfl
 ·rw[gL h,acN h];rfl
def xH{ks:List Cell}{ds:List D}{c:Cell}{d:D}(h:c∉ks)(hl:ds.length<lim):l8 (.dct (ks.map keyOf) ds) (cD c) d=some (.dct ((ks++[c]).map keyOf) (ds++[d])):=by
 show (match eD (cD c) with | some kk=>if ds.length<lim then some (C.dct (dh (ks.map keyOf) ds kk) (cq (ks.map keyOf) ds kk d)) else none | none=>none)=_;rw[jm];show (if ds.length<lim then some (C.dct (dh (ks.map keyOf) ds (keyOf c)) (cq (ks.map keyOf) ds (keyOf c) d)) else none)=_;rw[acI hl];unfold dh cq;rw[gL h];simp
def FW{τ:DT}{ρ:aQ}{b:Bool}(h:τ (yr ρ)=aa b):FV τ ρ=aa b:=by
 unfold FV;rw[h];rfl
def Mk{δ:DE}{ρ:aQ}{d:D}(h:δ (yr ρ)=aa d)(hf:wt d=true):Mj δ ρ=aa d:=by
 unfold Mj;rw[h];show oF d=_;unfold oF;rw[hf];rfl
def GP(c:Cell):wt (cD c)=true:=rfl
def qt{c:DT}{body:DS}{n:Nat}{ρ ρ':aQ}{m:M Out}(h1:c ρ=aa true)(h2:body ρ=aa (.nx ρ'))(h3:eK c body n ρ'=m):eK c body (n+1) ρ=m:=by
 show (c ρ>>=λb=>if b then body ρ>>=λo=>match o with | .nx ρ'=>eK c body n ρ' | .rt d=>aa (.rt d) else aa (.nx ρ))=_;rw[h1,au,acI rfl,h2];exact h3
def yg{c:DT}{body:DS}{n:Nat}{ρ:aQ}(h1:c ρ=aa false):eK c body (n+1) ρ=aa (.nx ρ):=by
 show (c ρ>>=λb=>if b then body ρ>>=λo=>match o with | .nx ρ'=>eK c body n ρ' | .rt d=>aa (.rt d) else aa (.nx ρ))=_;rw[h1];rfl
def EM:Option Cell->D
 |none=> .non
 |some c=>cD c
abbrev CU(ks:List Cell)(ps:List (Option Cell)):C:= .dct (ks.map keyOf) (ps.map EM)
abbrev Aa(ks:List Cell)(ps:List (Option Cell)):D:= .dct (ks.map keyOf) (ps.map EM)
abbrev sb(b s w:D)(ks:List Cell)(ps:List (Option Cell))(x4 x5 x6 x7:Option Sl):aQ:=[fz b,fz s,fz w,some (.ow (CU ks ps)),x4,x5,x6,x7]
structure Bok (R W:Nat) (s:Bk Cell):Prop where
 len:s.ks.length=s.ps.length
 nd:s.ks.Nodup
 on:∀x∈s.ks,On R W x
 fu:s.fu.length<=s.ks.length
def Bok.le{R W:Nat}{s:Bk Cell}(h:Bok R W s):s.ks.length<=R*W:=by
 rw[<-bg R W];exact iQ h.nd λx hx=>aE.mpr (h.on x hx)
def Bok.step{R W:Nat}{s:Bk Cell}(h:Bok R W s){c x:Cell}(hx:On R W x):Bok R W (eO c s x):=by
 unfold eO;split
 ·exact h
 ·rename_i hn;refine⟨by simp[h.len],?_,λy hy=>?_,by simp;exact h.fu⟩
  ·refine Xo.mpr ⟨h.nd,by simp,λy hy z hz e=>?_⟩;have hz:z=x:=by simpa using hz
   rw[e,hz] at hy;exact hn hy
  ·rcases V3.mp hy with q | q
   ·exact h.on y q
   ·have:y=x:=by simpa using q
    rw[this];exact hx
def Lv:DS:=bN [7] (ix (FV (dN (d2 (qJ true) (dV 7) (dV 3)))) (aF (f9 3 (dV 7) (dV 6)) (g7 5 (dV 7))) dj)
def Il{bd:List Str}{W:Nat}(hg:Brd bd W){a c x:Cell}{w:D}{r:Option Sl}{s:Bk Cell}(h:Bok bd.length W s):
 Lv (sb (brd bd) (cD a) w s.ks s.ps r (some (.ow (.lst (s.fu.map cD)))) (fz (cD c)) (fz (cD x)))=aa (.nx (sb (brd bd) (cD a) w (eO c s x).ks (eO c s x).ps r (some (.ow (.lst ((eO c s x).fu.map cD)))) (fz (cD c)) none)):=by
 have hle:=h.le;have hm:bd.length*W<=64:=Xm hg.r8 hg.w8;have ht:FV (dN (d2 (qJ true) (dV 7) (dV 3))) (sb (brd bd) (cD a) w s.ks s.ps r (some (.ow (.lst (s.fu.map cD)))) (fz (cD c)) (fz (cD x)))=aa (!decide (x∈s.ks)):=
  FW (kg ((aT (x:=cD x) (y:=Aa s.ks s.ps) rfl rfl).trans (Av (neg:=true) (by rw[Vb];exact h.len))))
 by_cases hx:x∈s.ks
 ·rw[acL hx] at ht;have e:eO c s x=s:=acI hx;rw[e];exact(aU (e_ ht rfl)).trans rfl
 ·rw[acN hx] at ht;have e:eO c s x=⟨s.ks++[x],s.ps++[some c],s.fu++[x]⟩:=acJ hx;rw[e];refine(aU (ρ':=sb (brd bd) (cD a) w (s.ks++[x]) (s.ps++[some c]) r (some (.ow (.lst ((s.fu++[x]).map cD)))) (fz (cD c)) (fz (cD x))) (gJ ht (aq (ρ':=sb (brd bd) (cD a) w (s.ks++[x]) (s.ps++[some c]) r (some (.ow (.lst (s.fu.map cD)))) (fz (cD c)) (fz (cD x))) ?_ ?_))).trans rfl
  ·show (match l8 (CU s.ks s.ps) (cD x) (cD c) with | some c'=>aa (Out.nx (List.set (sb (brd bd) (cD a) w s.ks s.ps r (some (.ow (.lst (s.fu.map cD)))) (fz (cD c)) (fz (cD x))) 3 (some (.ow c')))) | none=>ag)=_;rw[xH hx (by rw[Vb,<-h.len,cI];omega)];rw[show s.ps.map EM++[cD c]=(s.ps++[some c]).map EM by simp[EM]];rfl
  ·show (if (s.fu.map cD).length<lim then aa (Out.nx (sb (brd bd) (cD a) w (s.ks++[x]) (s.ps++[some c]) r (some (.ow (.lst (s.fu.map cD++[cD x])))) (fz (cD c)) (fz (cD x)))) else ag)=_;have:=h.fu;rw[acI (by rw[Vb,cI];omega)];rw[show s.fu.map cD++[cD x]=(s.fu++[x]).map cD by simp]
def Lu:DS:=bN [6,7] (cJ (putN 7) (cg (ay 3 cy (aC (dV 0) (aC (dV 6) (aC (dV 2) aN))))) Lv)
def A0{bd:List Str}{W w:Nat}(hg:Brd bd W)(hw:Ways w){a c:Cell}(hc:On bd.length W c){r:Option Sl}{s:Bk Cell}(h:Bok bd.length W s):
 Bok bd.length W (mx (bq bd W w) s c)/\Lu (sb (brd bd) (cD a) (.int (w:Int)) s.ks s.ps r (some (.ow (.lst (s.fu.map cD)))) (fz (cD c)) none)=
  aa (.nx (sb (brd bd) (cD a) (.int (w:Int)) (mx (bq bd W w) s c).ks (mx (bq bd W w) s c).ps r (some (.ow (.lst ((mx (bq bd W w) s c).fu.map cD)))) none none)):=by
 obtain⟨h1,e⟩:=jk (put:=putN 7) (body:=Lv) cD (λs:Bk Cell=>sb (brd bd) (cD a) (.int (w:Int)) s.ks s.ps r (some (.ow (.lst (s.fu.map cD)))) (fz (cD c)) none) (eO c) (Bok bd.length W) (bq bd W w c) s h λs hs x hx=>
  ⟨hs.step ((fo hw).mp hx).1,_,rfl,Il hg hs⟩
 refine⟨h1,(aU (dI ?_ e)).trans rfl⟩;show (ay 3 cy (aC (dV 0) (aC (dV 6) (aC (dV 2) aN))) (sb (brd bd) (cD a) (.int (w:Int)) s.ks s.ps r (some (.ow (.lst (s.fu.map cD)))) (fz (cD c)) none)>>=lstM)=_;have e2:ay 3 cy (aC (dV 0) (aC (dV 6) (aC (dV 2) aN))) (sb (brd bd) (cD a) (.int (w:Int)) s.ks s.ps r (some (.ow (.lst (s.fu.map cD)))) (fz (cD c)) none)=aa (.lst ((bq bd W w c).map cD)):=pe hg hw hc;rw[e2];rfl
def N3:DS:=bN [5,6,7] (aF (rf 5) (aF (cJ (putN 6) (cg (dV 4)) Lu) (yt 5 (bh 4 (dV 5)))))
def Ik{bd:List Str}{W w:Nat}(hg:Brd bd W)(hw:Ways w){a:Cell}{T0:List Cell}(hr:∀c∈T0,On bd.length W c){s:Bk Cell}(h:Bok bd.length W s)(hf:s.fu=[]):
 Bok bd.length W (cK (bq bd W w) s T0)/\N3 (sb (brd bd) (cD a) (.int (w:Int)) s.ks s.ps (fz (.lst (T0.map cD))) none none none)=
  aa (.nx (sb (brd bd) (cD a) (.int (w:Int)) (cK (bq bd W w) s T0).ks (cK (bq bd W w) s T0).ps (fz (.lst ((cK (bq bd W w) s T0).fu.map cD))) none none none)):=by
 obtain⟨h1,e⟩:=jk (put:=putN 6) (body:=Lu) cD (λs:Bk Cell=>sb (brd bd) (cD a) (.int (w:Int)) s.ks s.ps (fz (.lst (T0.map cD))) (some (.ow (.lst (s.fu.map cD)))) none none) (mx (bq bd W w)) (Bok bd.length W) T0 s h λs hs c hc=>
  ⟨(A0 (a:=a) (r:=fz (.lst (T0.map cD))) hg hw (hr c hc) hs).1,_,rfl,(A0 hg hw (hr c hc) hs).2⟩
 refine⟨h1,(aU (ρ':=sb (brd bd) (cD a) (.int (w:Int)) (cK (bq bd W w) s T0).ks (cK (bq bd W w) s T0).ps (fz (.lst ((cK (bq bd W w) s T0).fu.map cD))) (fz (.lst ((cK (bq bd W w) s T0).fu.map cD))) none none) ?_).trans rfl⟩;refine aq (ρ':=sb (brd bd) (cD a) (.int (w:Int)) s.ks s.ps (fz (.lst (T0.map cD))) (some (.ow (.lst []))) none none) rfl (aq (ρ':=sb (brd bd) (cD a) (.int (w:Int)) (cK (bq bd W w) s T0).ks (cK (bq bd W w) s T0).ps (fz (.lst (T0.map cD))) (some (.ow (.lst ((cK (bq bd W w) s T0).fu.map cD)))) none none) ?_ rfl);rw[hf] at e;exact dI rfl e
def xS{bd:List Str}{W w:Nat}(hg:Brd bd W)(hw:Ways w){a:Cell}(ha:On bd.length W a):∀(fuel k:Nat) (ks:List Cell) (ps:List (Option Cell)) (T0:List Cell),bd.length*W+2<=fuel+k->Rng (bq bd W w) a k ks ps T0->(∀x∈ks,On bd.length W x)->
 ∃k' ks' OM,Rng (bq bd W w) a k' ks' OM []/\(∀x∈ks',On bd.length W x)/\eK (cH (dV 4)) N3 fuel (sb (brd bd) (cD a) (.int (w:Int)) ks ps (fz (.lst (T0.map cD))) none none none)=aa (.nx (sb (brd bd) (cD a) (.int (w:Int)) ks' OM (fz (.lst [])) none none none))
 |0,k,ks,ps,T0,hf,hR,nG=>by
  have h1:ks.length<=bd.length*W:=by
   rw[<-bg bd.length W];exact iQ hR.nd λx hx=>aE.mpr (nG x hx)
  have:=hR.sz.1;omega
 |fuel+1,k,ks,ps,[],hf,hR,nG=>⟨k,ks,ps,hR,nG,yg rfl⟩
 |fuel+1,k,ks,ps,c::T0,hf,hR,nG=>by
  have gh:c::T0≠[]:=by simp
  have hN:=hR.next gh;have P5:∀x∈c::T0,On bd.length W x:=λx hx=>nG x ((hR.mem x).mpr ((hR.rg x).mp hx).1);obtain⟨hb,e⟩:=Ik (a:=a) hg hw P5 (s:=⟨ks,ps,[]⟩) ⟨hR.len,hR.nd,nG,V1 _⟩ rfl;obtain⟨k',ks',OM,q1,q2,q3⟩:=xS hg hw ha fuel (k+1) _ _ _ (by omega) hN hb.on;exact⟨k',ks',OM,q1,q2,qt rfl e q3⟩
def qj{bd:List Str}{W w:Nat}(hg:Brd bd W)(hw:Ways w){a:Cell}(ha:On bd.length W a):
 ∃k ks ps,Rng (bq bd W w) a k ks ps []/\(∀x∈ks,On bd.length W x)/\cC [brd bd,cD a, .int (w:Int)]=aa (Aa ks ps):=by
 have hm:bd.length*W<=64:=Xm hg.r8 hg.w8;obtain⟨k,ks,ps,h1,h2,h3⟩:=xS hg hw ha lim 0 [a] [none] [a] (by rw[cI];omega) (Rng.zero _ _) (λx hx=>(show x=a by simpa using hx)▸ha);refine⟨k,ks,ps,h1,h2,bo (aq (ρ':=[fz (brd bd),fz (cD a),fz (.int (w:Int)),some (.ow (CU [a] [none])),none,none,none,none]) rfl (aq (ρ':=sb (brd bd) (cD a) (.int (w:Int)) [a] [none] (fz (.lst [cD a])) none none none) rfl (aq (ρ':=sb (brd bd) (cD a) (.int (w:Int)) ks ps (fz (.lst [])) none none none) (c_ h3) rfl)))⟩
def ki{α:Type}[DecidableEq α](n:Nat)(enc:α->D):Prop:=∀k x y,jw (n+k) (enc x) (enc y)=some (decide (x=y))
def GL(n:Nat)(xs ys:List D):jw (n+1) (.tup xs) (.tup ys)=mB (jw n) xs ys:=rfl
def nP(n:Nat)(i j:Int):jw n (.int i) (.int j)=some (i==j):=by cases n<;>rfl
def GK(n:Nat)(i j:Str):jw n (.str i) (.str j)=some (i==j):=by cases n<;>rfl
def t7{α:Type}[DecidableEq α]{enc:α->D}{f:D->D->Option Bool}(h:∀x y,f (enc x) (enc y)=some (decide (x=y))):∀(xs ys:List α),mB f (xs.map enc) (ys.map enc)=some (decide (xs=ys))
 |[],[]=>rfl
 |[],_::_=>by simp[mB]
 |_::_,[]=>by simp[mB]
 |x::xs,y::ys=>by
  rw[Vi,Vi];show (match f (enc x) (enc y),mB f (xs.map enc) (ys.map enc) with | some b,some r=>some (b&&r) | _,_=>none)=_;rw[h,t7 h xs ys];show some (decide (x=y)&&decide (xs=ys))=_;congr 1;by_cases h1:x=y<;>by_cases h2:xs=ys<;>simp[h1,h2]
def JJ:ki 1 cD:=λk a b=>by
 rw[aas];show (match jw k (.int (a.1:Int)) (.int (b.1:Int)),mB (jw k) [.int (a.2:Int)] [.int (b.2:Int)] with | some b,some r=>some (b&&r) | _,_=>none)=_;rw[nP];show (match some ((a.1:Int)==(b.1:Int)),(match jw k (.int (a.2:Int)) (.int (b.2:Int)),mB (jw k) [] [] with | some b,some r=>some (b&&r) | _,_=>none) with | some b,some r=>some (b&&r) | _,_=>none)=_;rw[nP];show some (((a.1:Int)==(b.1:Int))&&(((a.2:Int)==(b.2:Int))&&true))=_;rw[mO,mO,abm];congr 1;obtain⟨a1,a2⟩:=a;obtain⟨b1,b2⟩:=b;by_cases h1:a1=b1<;>by_cases h2:a2=b2<;>simp[h1,h2]
def Ot{α:Type}[DecidableEq α]{enc:α->D}{n:Nat}(h:ki n enc):ki (n+1) (λl:List α=> .lst (l.map enc)):=λk x y=>by
 rw[show n+1+k=(n+k)+1 by omega];exact t7 (h k) x y
def GH{α:Type}[DecidableEq α]{enc:α->D}{n:Nat}(h:ki n enc):ki (n+1) (λl:List α=> .tup (l.map enc)):=λk x y=>by
 rw[show n+1+k=(n+k)+1 by omega];exact t7 (h k) x y
def t5:ki 0 D.str:=λk x y=>by
 rw[GK];congr 1
def GG:ki 1 brd:=GH t5
def O4{α:Type}[DecidableEq α]{enc:α->D}{n:Nat}(h:ki n enc)(hn:n<=6)(x y:α):jy (enc x) (enc y)=aa (.bl (decide (x=y))):=by
 have:=h (6 - n) x y;rw[show n+(6 - n)=6 by omega] at this;unfold jy;rw[this]
def tZ{α:Type}[DecidableEq α]{enc:α->D}{n:Nat}(h:ki n enc)(hn:n<=6)(x y:α):rQ (enc x) (enc y)=aa (.bl (!decide (x=y))):=by
 have:=h (6 - n) x y;rw[show n+(6 - n)=6 by omega] at this;unfold rQ;rw[this]
abbrev cL(l:List Cell):D:= .lst (l.map cD)
def Nu(a b:Cell):rQ (cD a) (cD b)=aa (.bl (!decide (a=b))):=tZ JJ (by decide) a b
def ic(c:Cell):List Int:=[(c.1:Int),(c.2:Int)]
def rB(a b:Cell):Bool:=if a.1=b.1 then decide (a.2<b.2) else decide (a.1<b.1)
def G5(k:Cell):List Cell->List Cell
 |[]=>[k]
 |x::r=>if rB k x then k::x::r else x::G5 k r
def m9:List Cell->List Cell
 |[]=>[]
 |k::r=>G5 k (m9 r)
def zb(a b:Cell):d_ (ic a) (ic b)=rB a b:=by
 show (if (a.1:Int)=(b.1:Int) then(if (a.2:Int)=(b.2:Int) then false else decide ((a.2:Int)<(b.2:Int))) else decide ((a.1:Int)<(b.1:Int)))=_;unfold rB;by_cases h:a.1=b.1
 ·rw[acI h,acI (by omega)];by_cases h2:a.2=b.2
  ·rw[acI (by omega),h2];simp
  ·rw[acJ (by omega)];by_cases h3:a.2<b.2
   ·rw[acL h3,acL (by omega)]
   ·rw[acN h3,acN (by omega)]
 ·rw[acJ h,acJ (by omega)];by_cases h3:a.1<b.1
  ·rw[acL h3,acL (by omega)]
  ·rw[acN h3,acN (by omega)]
def D3(k:Cell):∀l:List Cell,insI (ic k) (l.map ic)=(G5 k l).map ic
 |[]=>rfl
 |x::r=>by
  rw[Vi];unfold insI G5;rw[zb];cases rB k x with
  |true=>rfl
  |false=>rw[acJ (by decide),acJ (by decide),Vi,D3 k r]
def lC:∀l:List Cell,sortI (l.map ic)=(m9 l).map ic
 |[]=>rfl
 |k::r=>by
  rw[Vi];unfold sortI m9;rw[lC r,D3]
def oR{a b:Cell}(h:ic a=ic b):a=b:=by
 unfold ic at h;injection h with h1 h2
 injection h2 with h2 _
 exact aaD (ZG h1) (ZG h2)
def sD{x:Cell}{l:List Cell}:x∈m9 l↔x∈l:=by
 have h:=dJ (x:=ic x) (l:=l.map ic);rw[lC] at h;constructor
 ·intro hx;obtain⟨y,hy,e⟩:=Vp.mp (h.mp (Vp.mpr ⟨x,hx,rfl⟩));rw[<-oR e];exact hy
 ·intro hx;obtain⟨y,hy,e⟩:=Vp.mp (h.mpr (Vp.mpr ⟨x,hx,rfl⟩));rw[<-oR e];exact hy
def RiseC(l:List Cell):Prop:=l.Pairwise λa b=>rB a b=true
def u9{l:List Cell}:yx (l.map ic)↔RiseC l:=by
 unfold yx RiseC;rw[Yw];constructor<;>intro h<;>refine Zv ?_ h<;>intro a b q
 ·rw[<-zb];exact q
 ·rw[zb];exact q
def w_{l:List Cell}(h:l.Nodup):(l.map ic).Nodup:=by
 unfold WI at h⊢;rw[Yw];exact Zv (λh z=>h (oR z)) h
def qh{l:List Cell}(h:l.Nodup):RiseC (m9 l):=by
 have:=fO (w_ h);rw[lC] at this;exact u9.mp this
def sY{a b:List Cell}(ha:RiseC a)(hb:RiseC b)(h:∀x,x∈a↔x∈b):a=b:=by
 have e:=lu (u9.mpr ha) (u9.mpr hb) λx=>by
  constructor
  ·intro hx;obtain⟨y,hy,rfl⟩:=Vp.mp hx;exact Vp.mpr ⟨y,(h y).mp hy,rfl⟩
  ·intro hx;obtain⟨y,hy,rfl⟩:=Vp.mp hx;exact Vp.mpr ⟨y,(h y).mpr hy,rfl⟩
 have inj:∀(a b:List Cell),a.map ic=b.map ic->a=b:=by
  intro a;induction a with
  |nil=>intro b h;cases b with
   |nil=>rfl
   |cons=>simp at h
  |cons x a ih=>intro b h;cases b with
   |nil=>simp at h
   |cons y b=>
    rw[Vi,Vi] at h;injection h with h1 h2
    rw[oR h1,ih b h2]
 exact inj a b e
def RiseC.nodup{l:List Cell}(h:RiseC l):l.Nodup:=by
 refine Zv ?_ h;intro a b q z;subst z;unfold rB at q;rw[acI rfl] at q;have:=acO q;omega
def lU:∀ks:List Cell,fI (ks.map keyOf)=some (ks.map ic)
 |[]=>rfl
 |k::r=>by
  show (match rW (keyOf k),fI (r.map keyOf) with | some x,some xs=>some (x::xs) | _,_=>none)=_;rw[lU r];rfl
def Jr{ks:List Cell}(h:ks.Nodup)(hl:ks.length<64):eJ (ks.map ic)=true:=by
 unfold eJ;rw[Vb,acL (w_ h),acL hl];simp;intro a b _ z;cases z
def FK{ks:List Cell}{ds:List D}(h:ks.Nodup)(hl:ks.length<64):tu [.dct (ks.map keyOf) ds]=aa (cL (m9 ks)):=by
 show (match fI (ks.map keyOf) with | some ks=>if eJ ks&&ks.all (λk=>decide (k.length<=lim)) then aa (D.lst ((sortI ks).map tupI)) else ag | none=>ag)=_;rw[lU];show (if eJ (ks.map ic)&&(ks.map ic).all (λk=>decide (k.length<=lim)) then aa (D.lst ((sortI (ks.map ic)).map tupI)) else ag)=_;rw[Jr h hl];have:(ks.map ic).all (λk=>decide (k.length<=lim))=true:=by
  simp;intro a b _;show 2<=lim
  decide
 rw[this,abm,acI rfl,lC,VX];rfl
def Cn(bd:List Str)(W w:Nat)(a b:Cell):Prop:=∃j,Rb (bq bd W w) a j b
def Cn.refl{bd:List Str}{W w:Nat}{a:Cell}:Cn bd W w a a:=⟨0,rfl⟩
def zc{bd:List Str}{W w:Nat}(hw:Ways w){a b:Cell}(ha:On bd.length W a)(h:b∈bq bd W w a):a∈bq bd W w b:=by
 obtain⟨h1,h2,h3⟩:=(fo hw).mp h;exact(fo hw).mpr ⟨ha,by rw[xc];exact h2,h3.symm⟩
def xJ{bd:List Str}{W w:Nat}(hw:Ways w){a b:Cell}(ha:On bd.length W a):∀{j:Nat},Rb (bq bd W w) a j b->On bd.length W b
 |0,h=>by rw[show b=a from h];exact ha
 |j+1, .inl h=>xJ hw ha h
 |j+1, .inr ⟨y,_,hy⟩=>((fo hw).mp hy).1
def p7{bd:List Str}{W w:Nat}{a c b:Cell}(h:c∈bq bd W w a):∀{j:Nat},Rb (bq bd W w) c j b->Rb (bq bd W w) a (j+1) b
 |0,q=> .inr ⟨a,rfl,by rw[show b=c from q];exact h⟩
 |j+1, .inl q=> .inl (p7 h q)
 |j+1, .inr ⟨y,q,hy⟩=> .inr ⟨y,p7 h q,hy⟩
def u4{bd:List Str}{W w:Nat}(hw:Ways w){a b:Cell}(ha:On bd.length W a):∀{j:Nat},Rb (bq bd W w) a j b->Rb (bq bd W w) b j a
 |0,h=>show a=b from(show b=a from h).symm
 |j+1, .inl h=> .inl (u4 hw ha h)
 |j+1, .inr ⟨y,q,hy⟩=>p7 (zc hw (xJ hw ha q) hy) (u4 hw ha q)
def p8{bd:List Str}{W w:Nat}{a b c:Cell}{i:Nat}(h:Rb (bq bd W w) a i b):∀{j:Nat},Rb (bq bd W w) b j c->Rb (bq bd W w) a (i+j) c
 |0,q=>by rw[show c=b from q];exact h
 |j+1, .inl q=> .inl (p8 h q)
 |j+1, .inr ⟨y,q,hy⟩=> .inr ⟨y,p8 h q,hy⟩
section
variable{bd:List Str}{W w:Nat}{a b c:Cell}
def Cn.on(hw:Ways w)(ha:On bd.length W a)(h:Cn bd W w a b):On bd.length W b:=let ⟨_,q⟩:=h;xJ hw ha q
def Cn.symm(hw:Ways w)(ha:On bd.length W a)(h:Cn bd W w a b):Cn bd W w b a:=let ⟨j,q⟩:=h;⟨j,u4 hw ha q⟩
def Cn.trans(h:Cn bd W w a b)(h2:Cn bd W w b c):Cn bd W w a c:=let ⟨i,q⟩:=h;let ⟨j,r⟩:=h2;⟨i+j,p8 q r⟩
def Cn.step(h:Cn bd W w a b)(h2:c∈bq bd W w b):Cn bd W w a c:=let ⟨j,q⟩:=h;⟨j+1, .inr ⟨b,q,h2⟩⟩
end
structure IsPatch (bd:List Str) (W w:Nat) (a:Cell) (P:List Cell):Prop where
 rise:RiseC P
 mem:∀x,x∈P↔Cn bd W w a x
def IsPatch.one{bd:List Str}{W w:Nat}{a:Cell}{P Q:List Cell}(h:IsPatch bd W w a P)(h2:IsPatch bd W w a Q):P=Q:=sY h.rise h2.rise λx=>(h.mem x).trans (h2.mem x).symm
def tL{bd:List Str}{W:Nat}{ks:List Cell}(hn:ks.Nodup)(nG:∀x∈ks,On bd.length W x):ks.length<=bd.length*W:=by
 rw[<-bg bd.length W];exact iQ hn λx hx=>aE.mpr (nG x hx)
end K1
namespace K1
open PySem L2 L3 HT
def nV(c:Nat):List Nat->List (List Nat)
 |[]=>[[]]
 |a::r=>if a=c then []::nV c r else match nV c r with
  |h::t=>(a::h)::t
  |[]=>[[a]]
def LA(c:Nat):∀l,nV c l≠[]
 |[],h=>by cases h
 |a::r,h=>by
  unfold nV at h;split at h
  ·cases h
  ·split at h<;>cases h
def vk{c a:Nat}{r h:List Nat}{t:List (List Nat)}(ha:¬a=c)(e:nV c r=h::t):nV c (a::r)=(a::h)::t:=by
 show (if a=c then _ else match nV c r with | h::t=>(a::h)::t | []=>[[a]])=_;rw[acJ ha,e]
def vm{c:Nat}{r:List Nat}:nV c (c::r)=[]::nV c r:=acI rfl
def vi{c:Nat}:∀{p:List Nat}(r:List Nat),c∉p->nV c (p++c::r)=p::nV c r
 |[],r,_=>vm
 |a::p,r,h=>vk (λe=>h (by simp[e])) (vi (p:=p) r (λq=>h (Vc _ q)))
def A2{c:Nat}:∀{p:List Nat},c∉p->nV c p=[p]
 |[],_=>rfl
 |a::p,h=>vk (λe=>h (by simp[e])) (A2 (p:=p) (λq=>h (Vc _ q)))
def wK(c:Nat):List (List Nat)->List Nat
 |[]=>[]
 |[p]=>p
 |p::q::r=>p++c::wK c (q::r)
def xZ{c:Nat}:∀(ps:List (List Nat)),ps≠[]->(∀p∈ps,c∉p)->nV c (wK c ps)=ps
 |[],h,_=>acK rfl h
 |[p],_,h=>A2 (h p (Ve ..))
 |p::q::r,_,h=>by
  rw[wK,vi _ (h p (Ve ..)),xZ (q::r) (λz=>by cases z) λx hx=>h x (Vc _ hx)]
def vj{c:Nat}:∀u:List Nat,nV c (u++[c])=nV c u++[[]]
 |[]=>by simp[nV]
 |a::u=>by
  by_cases ha:a=c
  ·subst ha;rw[WW,vm,vm,vj u];rfl
  ·cases e:nV c u with
   |nil=>exact acK e (LA c u)
   |cons h t=>
    have ih:=vj (c:=c) u;rw[e] at ih;rw[WW,vk ha ih,vk ha e];rfl
def e9(l:List Nat):Str:=⟨l.toArray⟩
def pK(x:Str):e9 x.cps.toList=x:=il (by simp[e9])
def fQ(l:List Nat):(e9 l).cps.toList=l:=by simp[e9]
def gS(l:List Nat):(e9 l).length=l.length:=by simp[e9,Str.length]
def cu(x y:Str):(x++y).cps.toList=x.cps.toList++y.cps.toList:=by
 show (x.cps++y.cps).toList=_;simp
def mG(c:Nat):∀ps:List Str,(acC ⟨#[c]⟩ ps).cps.toList=wK c (ps.map (·.cps.toList))
 |[]=>rfl
 |[p]=>rfl
 |p::q::r=>by
  show (p++(⟨#[c]⟩:Str)++acC _ (q::r)).cps.toList=_;rw[cu,cu,mG c (q::r)];simp[wK]
def Cw(x:Str)(c:Nat):(X8 x ⟨#[c]⟩).map (·.cps.toList)=nV c x.cps.toList:=by
 have h:=(mG c _).symm.trans (acP (λs:Str=>s.cps.toList) (StrLaws.join_split x ⟨#[c]⟩));rw[<-h,xZ]
 ·intro z;have:=PyProof.Rows.split_pos x ⟨#[c]⟩;rw[ab5] at z;rw[z] at this;simp at this
 ·intro p hp;obtain⟨s,hs,rfl⟩:=Vp.mp hp;exact StrLaws.split_free x c s hs
def FI(l:List Nat)(c:Nat):X8 (e9 l) ⟨#[c]⟩=(nV c l).map e9:=by
 rw[<-fQ l,<-Cw,VX,fQ]
 conv=>lhs;rw[<-List.map_id (X8 (e9 l) ⟨#[c]⟩)]
 exact W_ λx _=>(pK x).symm
def Jo:("\n":Str)=⟨#[10]⟩:=rfl
abbrev R6(l:List Nat):List D:=(nV 10 l).map λp=>D.str (e9 p)
def zN{l:List Nat}(h:l.length+2<=4096):splitM (.str (e9 l)) [.str "\n"]=aa (.lst (R6 l)):=by
 show (if ("\n":Str).length≠0/\(e9 l).length+2<=lim then aa (D.lst ((X8 (e9 l) "\n").map D.str)) else ag)=_;rw[acI ⟨by decide,by rw[gS];exact h⟩,Jo,FI,VX];rfl
def Dq(u:List Nat)(a:Nat):Bp (e9 (u++[a])) "\n"=decide (a=10):=by
 have h1:(e9 (u++[a])).length=u.length+1:=by rw[gS];simp
 unfold Bp abf;rw[h1,Jo];have e:((e9 (u++[a])).cps.extract (u.length+1 - (⟨#[10]⟩:Str).length) (u.length+1 - (⟨#[10]⟩:Str).length+(⟨#[10]⟩:Str).length))= #[a]:=by
  show ((u++[a]).toArray.extract (u.length+1 - 1) (u.length+1 - 1+1))= #[a];simp
 rw[e];have:decide (0+(⟨#[10]⟩:Str).length<=u.length+1)=true:=acL (by show 0+1<=_;omega);rw[this,abl];by_cases h:a=10
 ·subst h;rfl
 ·rw[acN h];simp;exact h
def zK(u:List Nat)(a:Nat):aaT (e9 (u++[a])) none (some (-1))=e9 u:=by
 have h1:(e9 (u++[a])).length=u.length+1:=by rw[gS];simp
 have:=PyProof.Rows.slice_closes_to_neg (x:=e9 (u++[a])) (j:= -1) (k:=(u.length:Int)) (by decide) (by rw[h1];omega) (by rw[h1];omega);have:=Zs this;rw[this,fQ];refine il ?_;simp[e9]
end K1
namespace K1
open PySem L2 L3
def O2(w:Nat):List Cell->Bool
 |a::b::r=>lM w a b&&O2 w (b::r)
 |_=>true
abbrev wr(bd w a b k t:D):aQ:=[fz bd,fz w,fz a,fz b,fz k,fz t]
def b7{α:Type}{f:D->M (Option D)}(enc:α->D)(g:α->D):∀(xs:List α),(∀x∈xs,f (enc x)=aa (some (g x)))->dE f (xs.map enc)=aa (xs.map g)
 |[],_=>rfl
 |x::xs,h=>by
  rw[Vi,fB,h x (Ve ..),au,b7 enc g xs λy hy=>h y (Vc _ hy)];rfl
def Um{ρ:aQ}{i:Nat}{ds:List D}(h:ρ[i]? =some (fz (.lst ds))):cg (dV i) ρ=aa ds:=by
 unfold cg;rw[tY h];rfl
def bX(ks:List Cell)(c:Cell):List Cell:=if c∈ks then ks else ks++[c]
def bK(l:List Cell):List Cell:=l.foldl bX []
def aL(ks:List Cell):List D:=ks.map λ_=> .bl true
def iA{ks:List Cell}{c x:Cell}:x∈bX ks c↔x∈ks\/x=c:=by
 unfold bX;split
 ·rename_i h;exact⟨.inl,λq=>q.elim id λe=>by rw[e];exact h⟩
 ·simp
def mD:∀(l ks:List Cell),(ks.Nodup->(l.foldl bX ks).Nodup)/\(∀x,x∈l.foldl bX ks↔x∈ks\/x∈l)/\(l.foldl bX ks).length<=ks.length+l.length
 |[],ks=>⟨id,λx=>by simp,by simp⟩
 |c::l,ks=>by
  obtain⟨h1,h2,h3⟩:=mD l (bX ks c);refine⟨λhn=>h1 ?_,λx=>?_,?_⟩
  ·unfold bX;split
   ·exact hn
   ·rename_i hc;refine Xo.mpr ⟨hn,by simp,λy hy z hz e=>?_⟩;have hz:z=c:=by simpa using hz
    rw[e,hz] at hy;exact hc hy
  ·rw[Xp,h2 x,iA];simp[or_assoc]
  ·rw[Xp,Vk];have:(bX ks c).length<=ks.length+1:=by unfold bX;split<;>simp
   omega
def lW{l:List Cell}{x:Cell}:x∈bK l↔x∈l:=by
 unfold bK;rw[(mD l []).2.1 x];simp
def Ep(l:List Cell):(bK l).Nodup:=(mD l []).1 YB
def BR(l:List Cell):(bK l).length<=l.length:=by have:=(mD l []).2.2;simpa[bK] using this
def sX{k:List Key}:∀{ks:List (List Key)}{l:List Cell},ks.length=l.length->md ks (aL l) k (.bl true)=aL l
 |[],[],_=>rfl
 |k'::ks,c::l,h=>by
  show (if k'=k then D.bl true else D.bl true)::md ks (aL l) k (.bl true)=_;rw[sX (by simpa using h)];split<;>rfl
 |[],_::_,h=>by simp at h
 |_::_,[],h=>by simp at h
def Fm{ks:List Cell}{c:Cell}(hl:ks.length<lim):l8 (.dct (ks.map keyOf) (aL ks)) (cD c) (.bl true)=some (.dct ((bX ks c).map keyOf) (aL (bX ks c))):=by
 have M2:(aL ks).length=ks.length:=by simp[aL]
 unfold bX;by_cases h:c∈ks
 ·rw[acI h];show (match eD (cD c) with | some kk=>if (aL ks).length<lim then some (C.dct (dh (ks.map keyOf) (aL ks) kk) (cq (ks.map keyOf) (aL ks) kk (.bl true))) else none | none=>none)=_;rw[jm];show (if (aL ks).length<lim then some (C.dct (dh (ks.map keyOf) (aL ks) (keyOf c)) (cq (ks.map keyOf) (aL ks) (keyOf c) (.bl true))) else none)=_;rw[acI (by rw[M2];exact hl)];obtain⟨d,e,_⟩:=mn (ds:=aL ks) M2.symm h;unfold dh cq;rw[e];show some (C.dct (ks.map keyOf) (md (ks.map keyOf) (aL ks) (keyOf c) (.bl true)))=_;rw[sX (by simp)]
 ·rw[acJ h,xH h (by rw[M2];exact hl)];simp[aL]
abbrev y_(l:List Cell):D:= .dct ((bK l).map keyOf) (aL (bK l))
def BO{l:List Cell}(hl:l.length<4000):kB [cL l]=aa (y_ l):=by
 have e:∀(xs ks:List Cell),ks.length+xs.length<4000->forL (putN 2) (bN [2] (f9 1 (dV 2) (dC (.bl true)))) (xs.map cD) [fz (cL l),some (.ow (.dct (ks.map keyOf) (aL ks))),none]=aa (.nx [fz (cL l),some (.ow (.dct ((xs.foldl bX ks).map keyOf) (aL (xs.foldl bX ks)))),none]):=by
  intro xs;induction xs with
  |nil=>intro ks _;rfl
  |cons x xs ih=>
   intro ks hk;rw[Vk] at hk;have hle:(bX ks x).length<=ks.length+1:=by unfold bX;split<;>simp
   refine(dG (ρ1:=[fz (cL l),some (.ow (.dct (ks.map keyOf) (aL ks))),fz (cD x)]) (ρ2:=[fz (cL l),some (.ow (.dct ((bX ks x).map keyOf) (aL (bX ks x)))),none]) rfl ?_).trans (ih (bX ks x) (by omega));refine(aU (ρ':=[fz (cL l),some (.ow (.dct ((bX ks x).map keyOf) (aL (bX ks x)))),fz (cD x)]) ?_).trans rfl;show (match l8 (.dct (ks.map keyOf) (aL ks)) (cD x) (.bl true) with | some c'=>aa (Out.nx [fz (cL l),some (.ow c'),fz (cD x)]) | none=>ag)=_;rw[Fm (by rw[cI];omega)]
 refine bo (aq (ρ':=[fz (cL l),some (.ow (.dct [] [])),none]) rfl (aq (ρ':=[fz (cL l),some (.ow (.dct ((bK l).map keyOf) (aL (bK l)))),none]) (c_ (dI (ds:=l.map cD) rfl (e l [] (by simpa using hl)))) rfl))
end K1
namespace K1
open PySem L2 L3 HT
def ml:∀xs:List Str,lF (xs.map D.str)=some xs
 |[]=>rfl
 |x::r=>by
  show (lF (r.map D.str)).map _=_;rw[ml r];rfl
def nW{n:Nat}:∀(xs:List Str),(∀x∈xs,x.length<=n)->(xs.map (·.length)).sum<=xs.length*n
 |[],_=>V1 _
 |x::r,h=>by
  have ih:=nW r λy hy=>h y (Vc _ hy);have hx:=h x (Ve ..);rw[Vi,Xk,Vk,Zj];omega
def bH(bd:List Str):List Nat:=(bd.map λr=>r.cps.toList++[10]).flatten
def iC:∀xs:List Str,(cw xs).cps.toList=(xs.map (·.cps.toList)).flatten
 |[]=>rfl
 |x::r=>by
  show (x++cw r).cps.toList=_;rw[cu,iC r];rfl
def Lp{W:Nat}{r:Str}(h:Row W r):10∉r.cps.toList:=λq=>by
 have:=h.let' 10 q;exact acK this (by decide+kernel)
def wU{W:Nat}:∀bd:List Str,(∀r∈bd,Row W r)->nV 10 (bH bd)=bd.map (·.cps.toList)++[[]]
 |[],_=>rfl
 |r::bd,h=>by
  show nV 10 ((r.cps.toList++[10])++bH bd)=_;rw[W6];show nV 10 (r.cps.toList++10::bH bd)=_;rw[vi _ (Lp (h r (Ve ..))),wU bd λx hx=>h x (Vc _ hx)];rfl
def sy{W:Nat}:∀bd:List Str,(∀r∈bd,Row W r)->(bH bd).length=bd.length*(W+1)
 |[],_=>by simp[bH]
 |r::bd,h=>by
  show ((r.cps.toList++[10])++bH bd).length=_;have hr:r.cps.toList.length=W:=(h r (Ve ..)).len;rw[Vm,Vm,hr,sy bd λx hx=>h x (Vc _ hx),show (r::bd).length=bd.length+1 from rfl,Zj];simp;omega
def sx{W:Nat}:∀bd:List Str,1<=bd.length->∃u,bH bd=u++[10]
 |[],h=>by simp at h
 |[r],_=>⟨r.cps.toList,by simp[bH]⟩
 |r::q::bd,_=>by
  obtain⟨u,e⟩:=sx (W:=W) (q::bd) (by simp);exact⟨(r.cps.toList++[10])++u,by show (r.cps.toList++[10])++bH (q::bd)=_;rw[e];simp⟩
def km{xs:List Str}{d:D}(hi:BF (cg (dV 0)) (jX (dV 0)) [fz d]=aa (xs.map D.str))(hx:∀x∈xs,x.length<=31)(hl:xs.length<=8):du [d]=aa (.str (cw (xs.map (· ++("\n":Str))))):=by
 have e1:("\n":Str).length=1:=rfl;refine bo (bj ?_);have cm:ba 0 (BF (cg (dV 0)) (jX (dV 0))) bu (d2 eZ (dV 0) (dC (.str "\n"))) [fz d]=aa (.lst ((xs.map (· ++("\n":Str))).map D.str)):=by
  refine bB hi ?_ (by rw[Vb,Vb,cI];omega);rw[VX];refine b7 D.str (λr=> .str (r++("\n":Str))) xs λr hr=>?_;rw[fw];have e:d2 eZ (dV 0) (dC (.str "\n")) (fz (.str r)::[fz d])=aa (.str (r++("\n":Str))):=(aT (x:= .str r) (y:= .str "\n") rfl rfl).trans (acI (by
   have:=hx r hr;rw[cI,e1];omega))
  rw[e];rfl
 show (if kh (.str "") then((aC _ aN) [fz d]>>=λds=>joinM (.str "") ds) else ag)=_;rw[acI (show kh (.str "")=true from rfl),bf cm (xs:=[]) rfl,au];show (match lF ((xs.map (· ++("\n":Str))).map D.str) with | some (xs:List Str)=>if ("":Str).length=0/\(xs.map λx:Str=>x.length).sum<=lim then aa (D.str (cw xs)) else ag | none=>ag)=_;rw[ml];have hs:((xs.map (· ++("\n":Str))).map (·.length)).sum<=4096:=by
  have:=nW (n:=32) (xs.map (· ++("\n":Str))) λx BE=>by
   obtain⟨r,hr,rfl⟩:=Vp.mp BE;have:=hx r hr;rw[aX,e1];omega
  rw[Vb] at this;omega
 exact acI ⟨rfl,hs⟩
def FZ{bd:List Str}{W:Nat}(hG:Good bd W):bZ [brd bd]=aa (.str (e9 (bH bd))):=by
 have hg:=hG.brd;have r5:=hG.r5;have w5:=hG.w5;refine bo (aq (ly (d:= .non) ((az (ds:=[brd bd]) rfl rfl).trans hg.nb)) ?_);refine bj ((az (ds:=[brd bd]) rfl rfl).trans ((km (xs:=bd) rfl (λx hx=>by have:=(hg.rows x hx).len;omega) (by omega)).trans ?_));congr 2;refine il ?_;rw[iC,fQ,VX];unfold bH;congr 1;refine W_ λr _=>?_;show (r++("\n":Str)).cps.toList=_;rw[cu];rfl
def BX{bd:List Str}{W:Nat}(hG:Good bd W):∃u,bH bd=u++[10]/\R6 u=bd.map D.str:=by
 obtain⟨u,e⟩:=sx (W:=W) bd hG.r1;have h:=wU bd hG.rows;rw[e,vj] at h;have h:=List.append_cancel_right h;refine⟨u,e,?_⟩;show (nV 10 u).map _=_;rw[h,VX];exact W_ λr _=>acP D.str (pK r)
def zG{bd:List Str}{W:Nat}(hG:Good bd W):dU [.str (e9 (bH bd))]=aa (brd bd):=by
 obtain⟨u,e,e2⟩:=BX hG;have hl:u.length+2<=4096:=by
  have:=sy bd hG.rows;have:=Xm hG.r5 (Nat.add_le_add_right hG.w5 1);rw[e,Vm] at*;simp at*;omega
 rw[e];refine bo ?_;refine aq (e_ (show oA (dQ (cH (dA iH (aC (dV 0) (aC (dC (.raw (.ty "str"))) aN))))) (dQ (cH (dM kh ji (dV 0) (aC (dC (.str "\n")) aN)))) [fz (.str (e9 (u++[10]))),none]=aa false from(show _=aa (!Bp (e9 (u++[10])) "\n") from rfl).trans (by rw[Dq];rfl)) rfl) ?_;refine aq (ρ':=[fz (.str (e9 (u++[10]))),fz (brd bd)]) ((aS (d:=brd bd) ?_).trans rfl) ?_
 ·show ((R8 (.str (e9 (u++[10]))) none (some (-1))>>=λd=>if kh d then(aa [D.str "\n"]>>=λds=>splitM d ds) else ag)>>=λx=>aa [x])>>=yd=_;show (((if kh (.str (aaT (e9 (u++[10])) none (some (-1)))) then(aa [D.str "\n"]>>=λds=>splitM (.str (aaT (e9 (u++[10])) none (some (-1)))) ds) else ag)>>=λx=>aa [x])>>=yd)=_;rw[zK,acI (show kh (.str (e9 u))=true from rfl),au,zN hl,e2];rfl
 ·refine aq (e_ (yO (b:=true) (iD ((az (ds:=[brd bd]) rfl rfl).trans ?_))) rfl) (bj rfl);rw[gR rA,hG.brd.board]
end K1
namespace K1
open PySem L2 L3
def wW{x:Cell}:∀{l:List Cell},ze (keyOf x) (l.map keyOf)=decide (x∈l)
 |[]=>rfl
 |y::l=>by
  show (decide (keyOf y=keyOf x)||ze (keyOf x) (l.map keyOf))=_;rw[wW];by_cases h:y=x
  ·subst h;simp
  ·have h2:¬keyOf y=keyOf x:=λz=>h (eC z);rw[acN h2,Bool.false_or,acR];constructor
   ·exact λq=>Vc _ q
   ·intro q;rcases Vo.mp q with q | q
    ·exact acK q.symm h
    ·exact q
def sq:∀{l:List Cell},jD (l.map cD)=some (l.map keyOf)
 |[]=>rfl
 |y::l=>by
  show (match eD (cD y),jD (l.map cD) with | some k,some ks=>some (k::ks) | _,_=>none)=_;rw[sq];rfl
def Ah(ks:List Cell)(f:Cell->D):C:= .dct (ks.map keyOf) (ks.map f)
def jv(ks:List Cell)(f:Cell->D):D:= .dct (ks.map keyOf) (ks.map f)
def eV(f:Cell->D)(x:Cell)(d:D):Cell->D:=λy=>if y=x then d else f y
def nX{f:Cell->D}{x:Cell}:∀{ks:List Cell},x∈ks->fS (ks.map keyOf) (ks.map f) (keyOf x)=some (f x)
 |y::ks,h=>by
  show (if keyOf y=keyOf x then some (f y) else fS (ks.map keyOf) (ks.map f) (keyOf x))=_;by_cases e:y=x
  ·subst e;rw[acI rfl]
  ·rw[acJ (λz=>e (eC z))];rcases Vo.mp h with q | q
   ·exact acK q.symm e
   ·exact nX q
def o5{ks:List Cell}{f:Cell->D}{x:Cell}(h:x∈ks):dz (jv ks f) (cD x)=aa (f x):=by
 show (match ((eD (cD x)).map λk=>fS (ks.map keyOf) (ks.map f) k) with | some (some v)=>aa v | _=>ag)=_;rw[jm];show (match some (fS (ks.map keyOf) (ks.map f) (keyOf x)) with | some (some v)=>aa v | _=>ag)=_;rw[nX h]
def u7{f:Cell->D}{x:Cell}{d:D}:∀{ks:List Cell},md (ks.map keyOf) (ks.map f) (keyOf x) d=ks.map (eV f x d)
 |[]=>rfl
 |y::ks=>by
  show (if keyOf y=keyOf x then d else f y)::md (ks.map keyOf) (ks.map f) (keyOf x) d=_;rw[u7,Vi];congr 1;unfold eV;by_cases e:y=x
  ·subst e;rw[acI rfl,acI rfl]
  ·rw[acJ (λz=>e (eC z)),acJ e]
def Ia{ks:List Cell}{f:Cell->D}{x:Cell}{d:D}(hl:ks.length<lim):l8 (Ah ks f) (cD x) d=some (Ah (bX ks x) (eV f x d)):=by
 show (match eD (cD x) with | some kk=>if (ks.map f).length<lim then some (C.dct (dh (ks.map keyOf) (ks.map f) kk) (cq (ks.map keyOf) (ks.map f) kk d)) else none | none=>none)=_;rw[jm];show (if (ks.map f).length<lim then some (C.dct (dh (ks.map keyOf) (ks.map f) (keyOf x)) (cq (ks.map keyOf) (ks.map f) (keyOf x) d)) else none)=_;rw[acI (by rw[Vb];exact hl)];unfold Ah bX dh cq;by_cases h:x∈ks
 ·rw[nX h,acI h];show some (C.dct (ks.map keyOf) (md (ks.map keyOf) (ks.map f) (keyOf x) d))=_;rw[u7]
 ·rw[gL h,acJ h];show some (C.dct (ks.map keyOf++[keyOf x]) (ks.map f++[d]))=_;have e1:ks.map f=ks.map (eV f x d):=W_ λy hy=>by
   unfold eV;rw[acJ (λz:y=x=>h (z▸hy))]
  have e2:(ks++[x]).map (eV f x d)=ks.map (eV f x d)++[d]:=by
   rw[WA];congr 1;show [eV f x d x]=[d]
   unfold eV;rw[acI rfl]
  rw[WA,e1,e2];rfl
def uZ{i:Nat}{δk δv:DE}{ρ:aQ}{ks:List Cell}{f:Cell->D}{x:Cell}{d:D}(h0:ρ[i]? =some (some (.ow (Ah ks f))))(hv:δv ρ=aa d)(hk:δk ρ=aa (cD x))(hl:ks.length<lim):
 f9 i δk δv ρ=aa (.nx (ρ.set i (some (.ow (Ah (bX ks x) (eV f x d)))))):=by
 unfold f9 zr;rw[h0];show (δv ρ>>=λv=>δk ρ>>=λk=>match l8 (Ah ks f) k v with | some c'=>aa (Out.nx (ρ.set i (some (.ow c')))) | none=>ag)=_;rw[hv,au,hk,au,Ia hl]
def iI{bd:List Str}{W:Nat}(hg:Wd bd W):bw [brd bd]=aa (cL (ak bd.length W)):=by
 have h8:=hg.r8;have w8:=hg.w8;have hm:bd.length*W<=64:=Xm h8 w8;have Bw:(Vw bd.length).flatMap (λr=>(aK W r).map cD)=(ak bd.length W).map cD:=by
  unfold ak;rw[YE]
 have e:=cT (put:=putN 2) (body:=bN [2] (bh 1 (d2 mE (dV 1) (ba 0 (λρ=>(aC (dA bL (aC (d2 a9 (dV 0) (dC (.int 0))) aN)) aN) ρ>>=dH) bu (dA aR (aC (dV 3) (aC (dV 0) aN))))))) (λ(k:Nat)=>D.int (k:Int)) (λu8=>[fz (brd bd),fz (.lst u8),none]) (λr=>(aK W r).map cD) (B:=64) (Vw bd.length) []
  (by rw[VL,Bw,Vb,bg];exact hm) λr hr u8 hB=>by
   refine⟨[fz (brd bd),fz (.lst u8),fz (.int (r:Int))],rfl,?_⟩;refine(aU (ρ':=[fz (brd bd),fz (.lst (u8++(aK W r).map cD)),fz (.int (r:Int))]) ?_).trans rfl;have hc:ba 0 (λρ=>(aC (dA bL (aC (d2 a9 (dV 0) (dC (.int 0))) aN)) aN) ρ>>=dH) bu (dA aR (aC (dV 3) (aC (dV 0) aN))) [fz (brd bd),fz (.lst u8),fz (.int (r:Int))]=aa (.lst ((aK W r).map cD)):=by
    refine bB (xO (n:=W) (hg.len0 rfl) (by omega)) ?_ (by simp[aK,cI];omega);rw[show (aK W r).map cD=(Vw W).map (λk=>cD (r,k)) by simp[aK,VX]];exact b7 (λ(k:Nat)=>D.int (k:Int)) (λk=>cD (r,k)) _ λk _=>rfl
   refine(aS (d:= .lst (u8++(aK W r).map cD)) ((aT (x:= .lst u8) (y:= .lst ((aK W r).map cD)) rfl hc).trans ?_)).trans rfl;show (if u8.length+((aK W r).map cD).length<=lim then aa (D.lst (u8++(aK W r).map cD)) else ag)=_;rw[acI (by rw[Vm] at hB;rw[cI];omega)]
 rw[VL,Bw] at e;refine bo (aq (ρ':=[fz (brd bd),fz (.lst []),none]) rfl (aq (ρ':=[fz (brd bd),fz (.lst ((ak bd.length W).map cD)),none]) (c_ (dI (xO (n:=bd.length) (BP rfl) (by omega)) e)) ?_));rfl
def qM{bd:List Str}{W:Nat}(hg:Brd bd W):bw [brd bd]=aa (cL (ak bd.length W)):=iI hg.wd
def vS(R W w:Nat)(c:Cell)(d e:Int):Bool:=((decide (0<=(c.1:Int)+d)&&decide ((c.1:Int)+d<(R:Int)))&&(decide (0<=(c.2:Int)+e)&&decide ((c.2:Int)+e<(W:Int))))&&((!(d==0&&e==0))&&((w==8)||(d*e==0)))
def jQ(R W w:Nat)(c:Cell)(d e:Int):List Cell:=if vS R W w c d e then [(((c.1:Int)+d).toNat,((c.2:Int)+e).toNat)] else []
def kr(R W w:Nat)(c:Cell):List Cell:=[-1,0,1].flatMap λd=>[-1,0,1].flatMap λe=>jQ R W w c d e
def CW(R W w:Nat)(c:Cell)(d e:Int):(jQ R W w c d e).length<=1:=by unfold jQ;split<;>simp
def vT(R W w:Nat)(c:Cell):(kr R W w c).length<=9:=by
 have h:=CW R W w c;simp only[kr,W5,List.flatMap_nil,Vm,V7];have:=h (-1) (-1);have:=h (-1) 0;have:=h (-1) 1;have:=h 0 (-1);have:=h 0 0;have:=h 0 1;have:=h 1 (-1);have:=h 1 0;have:=h 1 1;omega
def z7{d:Int}(h:d.natAbs<=1):d∈[(-1:Int),0,1]:=by
 have:d= -1\/d=0\/d=1:=by omega
 rcases this with rfl | rfl | rfl<;>decide
def Ad:∀d∈[(-1:Int),0,1],∀e∈[(-1:Int),0,1],∀w∈[4,8],((!(d==0&&e==0))&&((w==8)||(d*e==0)))=if w=4 then decide (d.natAbs+e.natAbs=1) else decide (max d.natAbs e.natAbs=1):=by decide
def Aj{a x:Nat}{d:Int}(h:(x:Int)=a+d):fR a x=d.natAbs:=by
 unfold fR;omega
def AI{w:Nat}{a1 a2 x1 x2:Nat}{d e:Int}(h1:(x1:Int)=a1+d)(h2:(x2:Int)=a2+e):lM w (a1,a2) (x1,x2)=if w=4 then decide (d.natAbs+e.natAbs=1) else decide (max d.natAbs e.natAbs=1):=by
 show (if w=4 then decide (fR a1 x1+fR a2 x2=1) else decide (max (fR a1 x1) (fR a2 x2)=1))=_;rw[Aj h1,Aj h2]
def pf{R W w:Nat}(hw:Ways w){c x:Cell}(hc:On R W c):x∈kr R W w c↔On R W x/\lM w c x=true:=by
 obtain⟨c1,c2⟩:=c;obtain⟨x1,x2⟩:=x;have Ru:c1<R:=hc.1;have DK:c2<W:=hc.2;have key:(x1,x2)∈kr R W w (c1,c2)↔∃d∈[(-1:Int),0,1],∃e∈[(-1:Int),0,1],vS R W w (c1,c2) d e=true/\(x1:Int)=c1+d/\(x2:Int)=c2+e:=by
  unfold kr jQ;simp only[Zm];constructor
  ·rintro⟨d,hd,e,he,h⟩;by_cases hb:vS R W w (c1,c2) d e=true
   ·rw[acI hb] at h;have ub:=hb;unfold vS at ub;simp only[VA,acM] at ub;have h:=VS.mp h;rw[Yc] at h;exact⟨d,hd,e,he,hb,by omega,by omega⟩
   ·rw[acJ hb] at h;cases h
  ·rintro⟨d,hd,e,he,hb,h1,h2⟩;refine⟨d,hd,e,he,?_⟩;rw[acI hb];exact VS.mpr (by rw[Yc];exact⟨by omega,by omega⟩)
 rw[key];constructor
 ·rintro⟨d,hd,e,he,hb,h1,h2⟩;unfold vS at hb;rw[VA] at hb;have h3:=hb.1;simp only[VA,acM] at h3;refine⟨⟨show x1<R by omega,show x2<W by omega⟩,?_⟩;rw[AI h1 h2,<-Ad d hd e he w (by rcases hw with rfl | rfl<;>decide)];exact hb.2
 ·rintro⟨⟨h1,h2⟩,h3⟩;have e1:(x1:Int)=c1+((x1:Int) - c1):=by omega
  have e2:(x2:Int)=c2+((x2:Int) - c2):=by omega
  rw[AI e1 e2] at h3;have hn:((x1:Int) - c1).natAbs<=1/\((x2:Int) - c2).natAbs<=1:=by
   rcases hw with rfl | rfl
   ·have:=acO h3;omega
   ·have:=acO h3;omega
  have m1:=z7 hn.1;have m2:=z7 hn.2;rw[<-Ad _ m1 _ m2 w (by rcases hw with rfl | rfl<;>decide)] at h3;refine⟨_,m1,_,m2,?_,e1,e2⟩;unfold vS;rw[VA];refine⟨?_,h3⟩;have h1:x1<R:=h1;have h2:x2<W:=h2;rw[<-e1,<-e2];simp only[VA,acM];omega
def Gw:DS:=(bN [5,6,7,8] (aF (bh 6 (d2 dw (d2 a9 (dV 1) (dC (.int 0))) (dV 4))) (aF (bh 7 (d2 dw (d2 a9 (dV 1) (dC (.int 1))) (dV 5))) (aF (bh 8 (eQ (v8 (λi j=>decide (i<=j)) (λi j=>decide (i<j)) (dC (.int 0)) (dV 6) (dA bL (aC (dV 0) aN))) (v8 (λi j=>decide (i<=j)) (λi j=>decide (i<j)) (dC (.int 0)) (dV 7) (dA bL (aC (d2 a9 (dV 0) (dC (.int 0))) aN))))) (ix (ku (cH (dV 8)) (ku (dN (d2 rQ (dA aR (aC (dV 4) (aC (dV 5) aN))) (dA aR (aC (dC (.int 0)) (aC (dC (.int 0)) aN))))) (oA (dN (d2 jy (dV 2) (dC (.int 8)))) (dN (d2 jy (d2 gg (dV 4) (dV 5)) (dC (.int 0))))))) (g7 3 (dA aR (aC (dV 6) (aC (dV 7) aN)))) dj)))))
def Hl(a b c d:Int):rQ (.tup [.int a, .int b]) (.tup [.int c, .int d])=aa (.bl (!(a==c&&b==d))):=by
 show (match jw 6 (.tup [.int a, .int b]) (.tup [.int c, .int d]) with | some b=>aa (D.bl (!b)) | none=>ag)=_;have:jw 6 (.tup [.int a, .int b]) (.tup [.int c, .int d])=some (a==c&&b==d):=by
  rw[show (6:Nat)=5+1 from rfl,GL];unfold mB;rw[nP];cases h:(a==c)
  ·rfl
  ·unfold mB;rw[nP];cases h2:(b==d)
   ·rfl
   ·rfl
 rw[this]
def Gx{bd:List Str}{W w:Nat}(hg:Wd bd W){c:Cell}{d e:Int}(hd:d∈[(-1:Int),0,1])(he:e∈[(-1:Int),0,1]){u8:List D}(hl:(u8++(jQ bd.length W w c d e).map cD).length<=64):
 Gw [fz (brd bd),fz (cD c),fz (.int (w:Int)),some (.ow (.lst u8)),fz (.int d),fz (.int e),none,none,none]=aa (.nx [fz (brd bd),fz (cD c),fz (.int (w:Int)),some (.ow (.lst (u8++(jQ bd.length W w c d e).map cD))),fz (.int d),none,none,none,none]):=by
 have nR:eQ (v8 (λi j=>decide (i<=j)) (λi j=>decide (i<j)) (dC (.int 0)) (dV 6) (dA bL (aC (dV 0) aN))) (v8 (λi j=>decide (i<=j)) (λi j=>decide (i<j)) (dC (.int 0)) (dV 7) (dA bL (aC (d2 a9 (dV 0) (dC (.int 0))) aN))) [fz (brd bd),fz (cD c),fz (.int (w:Int)),some (.ow (.lst u8)),fz (.int d),fz (.int e),fz (.int ((c.1:Int)+d)),fz (.int ((c.2:Int)+e)),none]=
  aa (.bl ((decide (0<=(c.1:Int)+d)&&decide ((c.1:Int)+d<(bd.length:Int)))&&(decide (0<=(c.2:Int)+e)&&decide ((c.2:Int)+e<(W:Int))))):=GD (Mh rfl (BP rfl)) (Mh rfl (hg.len0 rfl))
 have TC: -(2:Int) ^ 64<d/\d<2 ^ 64:=by
  simp only[Vo,Wh,or_false] at hd;rcases hd with rfl | rfl | rfl<;>decide
 have ht:∀{b8:Bool},ku (cH (dV 8)) (ku (dN (d2 rQ (dA aR (aC (dV 4) (aC (dV 5) aN))) (dA aR (aC (dC (.int 0)) (aC (dC (.int 0)) aN))))) (oA (dN (d2 jy (dV 2) (dC (.int 8)))) (dN (d2 jy (d2 gg (dV 4) (dV 5)) (dC (.int 0)))))) [fz (brd bd),fz (cD c),fz (.int (w:Int)),some (.ow (.lst u8)),fz (.int d),fz (.int e),fz (.int ((c.1:Int)+d)),fz (.int ((c.2:Int)+e)),fz (.bl b8)]=
  aa (b8&&((!(d==0&&e==0))&&((w==8)||(d*e==0)))):=λ{b8}=>
  yN (iD rfl) (yN (kg ((aT (x:= .tup [.int d, .int e]) (y:= .tup [.int 0, .int 0]) rfl rfl).trans (Hl ..))) (II (kg ((aT (x:= .int (w:Int)) (y:= .int 8) rfl rfl).trans ((eq_int _ _).trans (by rw[show ((w:Int)==8)=(w==8) from mO w 8])))) (kg ((aT (x:= .int (d*e)) (y:= .int 0) ((aT (x:= .int d) (y:= .int e) rfl rfl).trans (fG (.inl TC))) rfl).trans (eq_int _ _)))))
 have pre:∀{ρ':aQ},ix (ku (cH (dV 8)) (ku (dN (d2 rQ (dA aR (aC (dV 4) (aC (dV 5) aN))) (dA aR (aC (dC (.int 0)) (aC (dC (.int 0)) aN))))) (oA (dN (d2 jy (dV 2) (dC (.int 8)))) (dN (d2 jy (d2 gg (dV 4) (dV 5)) (dC (.int 0))))))) (g7 3 (dA aR (aC (dV 6) (aC (dV 7) aN)))) dj [fz (brd bd),fz (cD c),fz (.int (w:Int)),some (.ow (.lst u8)),fz (.int d),fz (.int e),fz (.int ((c.1:Int)+d)),fz (.int ((c.2:Int)+e)),fz (.bl ((decide (0<=(c.1:Int)+d)&&decide ((c.1:Int)+d<(bd.length:Int)))&&(decide (0<=(c.2:Int)+e)&&decide ((c.2:Int)+e<(W:Int)))))]=aa (.nx ρ')->
  Gw [fz (brd bd),fz (cD c),fz (.int (w:Int)),some (.ow (.lst u8)),fz (.int d),fz (.int e),none,none,none]=aa (.nx (fgt [5,6,7,8] ρ')):=λ{ρ'} h=>
  aU (aq (ρ':=[fz (brd bd),fz (cD c),fz (.int (w:Int)),some (.ow (.lst u8)),fz (.int d),fz (.int e),fz (.int ((c.1:Int)+d)),none,none]) rfl
   (aq (ρ':=[fz (brd bd),fz (cD c),fz (.int (w:Int)),some (.ow (.lst u8)),fz (.int d),fz (.int e),fz (.int ((c.1:Int)+d)),fz (.int ((c.2:Int)+e)),none]) rfl (aq ((aS nR).trans rfl) h)))
 have Gi:vS bd.length W w c d e=(((decide (0<=(c.1:Int)+d)&&decide ((c.1:Int)+d<(bd.length:Int)))&&(decide (0<=(c.2:Int)+e)&&decide ((c.2:Int)+e<(W:Int))))&&((!(d==0&&e==0))&&((w==8)||(d*e==0)))):=rfl;have ht:=ht (b8:=(decide (0<=(c.1:Int)+d)&&decide ((c.1:Int)+d<(bd.length:Int)))&&(decide (0<=(c.2:Int)+e)&&decide ((c.2:Int)+e<(W:Int))));rw[<-Gi] at ht;by_cases hb:vS bd.length W w c d e=true
 ·have ub:=hb;rw[Gi] at ub;simp only[VA,acM] at ub;have eg:(jQ bd.length W w c d e).map cD=[.tup [.int ((c.1:Int)+d), .int ((c.2:Int)+e)]]:=by
   unfold jQ;rw[acI hb];show [D.tup [.int ((((c.1:Int)+d).toNat:Nat):Int), .int ((((c.2:Int)+e).toNat:Nat):Int)]]=_;rw[ZX (by omega),ZX (by omega)]
  rw[eg] at hl⊢;rw[hb] at ht;refine(pre (ρ':=[fz (brd bd),fz (cD c),fz (.int (w:Int)),some (.ow (.lst (u8++[.tup [.int ((c.1:Int)+d), .int ((c.2:Int)+e)]]))),fz (.int d),fz (.int e),fz (.int ((c.1:Int)+d)),fz (.int ((c.2:Int)+e)),fz (.bl ((decide (0<=(c.1:Int)+d)&&decide ((c.1:Int)+d<(bd.length:Int)))&&(decide (0<=(c.2:Int)+e)&&decide ((c.2:Int)+e<(W:Int)))))]) (gJ ht ?_)).trans rfl;show (if u8.length<lim then aa (Out.nx [fz (brd bd),fz (cD c),fz (.int (w:Int)),some (.ow (.lst (u8++[.tup [.int ((c.1:Int)+d), .int ((c.2:Int)+e)]]))),fz (.int d),fz (.int e),fz (.int ((c.1:Int)+d)),fz (.int ((c.2:Int)+e)),_]) else ag)=_;rw[acI (by rw[Vm] at hl;rw[cI];simp at hl;omega)]
 ·have eg:(jQ bd.length W w c d e).map cD=[]:=by
   unfold jQ;rw[acJ hb];rfl
  rw[eg,V7];rw[aah.mpr hb] at ht;exact(pre (e_ ht rfl)).trans rfl
def um{bd:List Str}{W w:Nat}(hg:Wd bd W){c:Cell}:cY [brd bd,cD c, .int (w:Int)]=aa (cL (kr bd.length W w c)):=by
 have nR:∀d∈[(-1:Int),0,1],∀u8:List D,(u8++([(-1:Int),0,1].flatMap λe=>(jQ bd.length W w c d e).map cD)).length<=64->
  forL (putN 5) Gw ([(-1:Int),0,1].map D.int) [fz (brd bd),fz (cD c),fz (.int (w:Int)),some (.ow (.lst u8)),fz (.int d),none,none,none,none]=
   aa (.nx [fz (brd bd),fz (cD c),fz (.int (w:Int)),some (.ow (.lst (u8++([(-1:Int),0,1].flatMap λe=>(jQ bd.length W w c d e).map cD)))),fz (.int d),none,none,none,none]):=λd hd u8 hl=>
  cT (B:=64) D.int (λu8=>[fz (brd bd),fz (cD c),fz (.int (w:Int)),some (.ow (.lst u8)),fz (.int d),none,none,none,none]) (λe=>(jQ bd.length W w c d e).map cD) [(-1:Int),0,1] u8 hl λe he O1 yW=>⟨_,rfl,Gx hg hd he yW⟩
 have Bw:([(-1:Int),0,1].flatMap λd=>[(-1:Int),0,1].flatMap λe=>(jQ bd.length W w c d e).map cD)=(kr bd.length W w c).map cD:=by
  unfold kr;simp only[YE]
 have MZ:=cT (put:=putN 4) (body:=bN [4,5,6,7,8] (cJ (putN 5) (jX (dA aR (aC (d1 B3 (dC (.int 1))) (aC (dC (.int 0)) (aC (dC (.int 1)) aN))))) Gw)) (B:=64) D.int (λu8=>[fz (brd bd),fz (cD c),fz (.int (w:Int)),some (.ow (.lst u8)),none,none,none,none,none]) (λd=>[(-1:Int),0,1].flatMap λe=>(jQ bd.length W w c d e).map cD) [(-1:Int),0,1] []
  (by rw[VL,Bw,Vb];have:=vT bd.length W w c;omega) λd hd u8 hl=>⟨_,rfl,(aU (dI (ds:=[(-1:Int),0,1].map D.int) rfl (nR d hd u8 hl))).trans rfl⟩
 rw[VL,Bw] at MZ;refine bo (aq (ρ':=[fz (brd bd),fz (cD c),fz (.int (w:Int)),some (.ow (.lst [])),none,none,none,none,none]) rfl (aq (c_ (dI (ds:=[(-1:Int),0,1].map D.int) rfl MZ)) ?_));rfl
def FD{bd:List Str}{W:Nat}(hg:Wd bd W){x:Cell}(hx:On bd.length W x){b i:Nat}{ρ:aQ}(hb:dV b ρ=aa (brd bd))(hi:dV i ρ=aa (cD x)):d2 jz (d2 a9 (dV b) (d2 a9 (dV i) (dC (.int 0)))) (d2 a9 (dV i) (dC (.int 1))) ρ=aa (sg (lt bd x)):=by
 have h1:d2 a9 (dV i) (dC (.int 0)) ρ=aa (.int (x.1:Int)):=(aT (y:= .int 0) hi rfl).trans Nl.1;have h2:d2 a9 (dV i) (dC (.int 1)) ρ=aa (.int (x.2:Int)):=(aT (y:= .int 1) hi rfl).trans Nl.2;refine(aT ((aT hb h1).trans (D_ hx.1)) h2).trans (A1 ?_);rw[(hg.rows _ (getD_mem hx.1)).len];exact hx.2
def Ei(a b:Cell):HT.lexLt (ic a) (ic b)=rB a b:=by
 show (if (a.1:Int)=(b.1:Int) then(if (a.2:Int)=(b.2:Int) then false else decide ((a.2:Int)<(b.2:Int))) else decide ((a.1:Int)<(b.1:Int)))=_;unfold rB;by_cases h1:a.1=b.1
 ·rw[acI (by omega),acI h1];by_cases h2:a.2=b.2
  ·rw[acI (by omega),acN (by omega)]
  ·rw[acJ (by omega),acR];omega
 ·rw[acJ (by omega),acJ h1,acR];omega
def Ek(a b:Cell):LZ (cD a) (cD b)=some (rB a b):=by
 show some (HT.lexLt (ic a) (ic b))=_;rw[Ei]
def GR(a b:Cell):wC (cD a) (cD b)=aa (.bl (rB a b)):=by
 unfold wC;rw[Ek]
def bG(a b:Cell):Cell:=if rB b a then b else a
def Hi(a b:Cell):sE [cD a,cD b]=aa (cD (bG a b)):=by
 show (match LZ (cD b) (cD a) with | some r=>aa (if r then cD b else cD a) | none=>ag)=_;rw[Ek];unfold bG;cases rB b a<;>rfl
def rank(W:Nat)(x:Cell):Nat:=x.1*W+x.2
def dO{R W:Nat}{a b:Cell}(ha:On R W a)(hb:On R W b):rB a b=true↔rank W a<rank W b:=by
 unfold rB rank;have h1:=ha.2;have h2:=hb.2;by_cases h:a.1=b.1
 ·rw[acI h,acM,h];omega
 ·rw[acJ h,acM];constructor
  ·intro q;have:(a.1+1)*W<=b.1*W:=YK _ q;rw[Zj,acq] at this;omega
  ·intro q;refine WL λz=>?_;have:(b.1+1)*W<=a.1*W:=YK _ (by omega);rw[Zj,acq] at this;omega
def lq{R W:Nat}{a b:Cell}(ha:On R W a)(hb:On R W b)(h:rank W a=rank W b):a=b:=by
 have n1:¬rB a b=true:=λz=>by have:=(dO ha hb).mp z;omega
 have n2:¬rB b a=true:=λz=>by have:=(dO hb ha).mp z;omega
 unfold rB at n1 n2;obtain⟨a1,a2⟩:=a;obtain⟨b1,b2⟩:=b;simp only at n1 n2;by_cases h1:a1=b1
 ·rw[acI h1,acM] at n1;rw[acI h1.symm,acM] at n2;rw[Yc];exact⟨h1,by omega⟩
 ·rw[acJ h1,acM] at n1;rw[acJ (Wv h1),acM] at n2;omega
def Ic{R W:Nat}{a:Cell}(ha:On R W a):rank W a<R*W:=by
 unfold rank;have:(a.1+1)*W<=R*W:=YK _ ha.1;rw[Zj,acq] at this;have:=ha.2;omega
def BV(a b:Cell):bG a b=a\/bG a b=b:=by unfold bG;split;exact .inr rfl;exact .inl rfl
def BU{R W:Nat}{a b:Cell}(ha:On R W a)(hb:On R W b):rank W (bG a b)<=rank W a/\rank W (bG a b)<=rank W b:=by
 unfold bG;by_cases h:rB b a=true
 ·rw[acI h];have:=(dO hb ha).mp h;omega
 ·rw[acJ h];have:¬rank W b<rank W a:=λz=>h ((dO hb ha).mpr z);omega
def zQ{α:Type}{f g:α->Nat}:∀{l:List α},(∀x∈l,f x<=g x)->(l.map f).sum<=(l.map g).sum
 |[],_=>Vj _
 |a::l,h=>by
  rw[Vi,Vi,Xk,Xk];exact Nat.add_le_add (h a (Ve ..)) (zQ λx hx=>h x (Vc _ hx))
def FP{α:Type}{f g:α->Nat}:∀{l:List α},(∀x∈l,f x<=g x)->(∃x∈l,f x<g x)->(l.map f).sum<(l.map g).sum
 |[],_,⟨x,hx,_⟩=>by cases hx
 |a::l,h,⟨x,hx,hl⟩=>by
  rw[Vi,Vi,Xk,Xk];have h1:=h a (Ve ..);have h2:=zQ λx hx=>h x (Vc _ hx);rcases Vo.mp hx with rfl | hx
  ·omega
  ·have:=FP (λx hx=>h x (Vc _ hx)) ⟨x,hx,hl⟩;omega
section
variable{bd:List Str}{W w:Nat}
def dg(s:(Cell->Cell)×Bool)(p:Cell×Cell):(Cell->Cell)×Bool:=
 if s.1 p.1=s.1 p.2 then s else(λz=>if z=p.2 then bG (s.1 p.1) (s.1 p.2) else if z=p.1 then bG (s.1 p.1) (s.1 p.2) else s.1 z,true)
structure Lab (bd:List Str) (W w:Nat) (L:Cell->Cell):Prop where
 on:∀x,On bd.length W x->On bd.length W (L x)
 cn:∀x,On bd.length W x->Cn bd W w x (L x)
 le:∀x,On bd.length W x->rank W (L x)<=rank W x
def mu(R W:Nat)(L:Cell->Cell):Nat:=((ak R W).map λx=>rank W (L x)).sum
def yw(bd:List Str)(W w:Nat)(p:Cell×Cell):Prop:=On bd.length W p.1/\On bd.length W p.2/\Cn bd W w p.1 p.2
def wV(hw:Ways w){s:(Cell->Cell)×Bool}{p:Cell×Cell}(hp:yw bd W w p)(h:Lab bd W w s.1):
 Lab bd W w (dg s p).1/\mu bd.length W (dg s p).1<=mu bd.length W s.1/\((dg s p).2=s.2/\(dg s p).1=s.1/\s.1 p.1=s.1 p.2\/(dg s p).2=true/\mu bd.length W (dg s p).1<mu bd.length W s.1):=by
 obtain⟨h1,h2,h3⟩:=hp;unfold dg;by_cases e:s.1 p.1=s.1 p.2
 ·rw[acI e];exact⟨h,Vj _, .inl ⟨rfl,rfl,e⟩⟩
 ·rw[acJ e];have o1:=h.on _ h1;have o2:=h.on _ h2;have hle:=BU o1 o2;have RK:=BV (s.1 p.1) (s.1 p.2);have nG:On bd.length W (bG (s.1 p.1) (s.1 p.2)):=by rcases RK with q | q<;>rw[q]<;>assumption
  have c1:Cn bd W w p.1 (bG (s.1 p.1) (s.1 p.2)):=by
   rcases RK with q | q<;>rw[q]
   ·exact h.cn _ h1
   ·exact h3.trans (h.cn _ h2)
  have c2:Cn bd W w p.2 (bG (s.1 p.1) (s.1 p.2)):=(h3.symm hw h1).trans c1;have RX:∀z,On bd.length W z->rank W (if z=p.2 then bG (s.1 p.1) (s.1 p.2) else if z=p.1 then bG (s.1 p.1) (s.1 p.2) else s.1 z)<=rank W (s.1 z):=λz hz=>by
   by_cases z1:z=p.2
   ·rw[acI z1,z1];exact hle.2
   ·rw[acJ z1];by_cases z2:z=p.1
    ·rw[acI z2,z2];exact hle.1
    ·rw[acJ z2];exact Vj _
  have lt':mu bd.length W (λz=>if z=p.2 then bG (s.1 p.1) (s.1 p.2) else if z=p.1 then bG (s.1 p.1) (s.1 p.2) else s.1 z)<mu bd.length W s.1:=by
   refine FP (λx hx=>RX x (aE.mp hx)) ?_;have gh:rank W (s.1 p.1)≠rank W (s.1 p.2):=λz=>e (lq o1 o2 z);by_cases q:rank W (s.1 p.1)<rank W (s.1 p.2)
   ·refine⟨p.2,aE.mpr h2,?_⟩;show rank W (if p.2=p.2 then _ else _)<_;rw[acI rfl];omega
   ·refine⟨p.1,aE.mpr h1,?_⟩;by_cases q2:p.1=p.2
    ·rw[q2] at gh;exact acK rfl gh
    ·show rank W (if p.1=p.2 then _ else if p.1=p.1 then _ else _)<_;rw[acJ q2,acI rfl];omega
  refine⟨⟨λx hx=>?_,λx hx=>?_,λx hx=>VI (RX x hx) (h.le x hx)⟩,W4 lt', .inr ⟨rfl,lt'⟩⟩
  ·show On _ _ (if x=p.2 then _ else if x=p.1 then _ else s.1 x);split
   ·exact nG
   ·split
    ·exact nG
    ·exact h.on x hx
  ·show Cn _ _ _ _ (if x=p.2 then _ else if x=p.1 then _ else s.1 x);by_cases z1:x=p.2
   ·rw[acI z1,z1];exact c2
   ·rw[acJ z1];by_cases z2:x=p.1
    ·rw[acI z2,z2];exact c1
    ·rw[acJ z2];exact h.cn x hx
def Jj(hw:Ways w):∀(ps:List (Cell×Cell)) (s:(Cell->Cell)×Bool),(∀p∈ps,yw bd W w p)->Lab bd W w s.1->
 Lab bd W w (ps.foldl dg s).1/\mu bd.length W (ps.foldl dg s).1<=mu bd.length W s.1/\((ps.foldl dg s).2=s.2/\(ps.foldl dg s).1=s.1/\(∀p∈ps,s.1 p.1=s.1 p.2)\/(ps.foldl dg s).2=true/\mu bd.length W (ps.foldl dg s).1<mu bd.length W s.1)
 |[],s,_,h=>⟨h,Vj _, .inl ⟨rfl,rfl,λp hp=>by cases hp⟩⟩
 |p::ps,s,hp,h=>by
  obtain⟨a1,a2,a3⟩:=wV hw (hp p (Ve ..)) h;obtain⟨b1,b2,b3⟩:=Jj hw ps (dg s p) (λq hq=>hp q (Vc _ hq)) a1;rw[Xp];refine⟨b1,VI b2 a2,?_⟩;rcases b3 with⟨c1,c2,c3⟩ | ⟨c1,c2⟩
  ·rcases a3 with⟨d1,d2,d3⟩ | ⟨d1,d2⟩
   ·refine .inl ⟨c1.trans d1,c2.trans d2,λq hq=>?_⟩;rcases Vo.mp hq with rfl | hq
    ·exact d3
    ·rw[<-d2];exact c3 q hq
   ·exact .inr ⟨c1.trans d1,by rw[c2];exact d2⟩
  ·exact .inr ⟨c1,VW c2 a2⟩
def pD(p:Cell×Cell):D:= .tup [cD p.1,cD p.2]
def Qq:DS:=(bN [8,9,10] (ix (FV (dN (d2 rQ (d2 dz (dV 2) (dV 8)) (d2 dz (dV 2) (dV 9))))) (aF (bh 10 (Mj (dA sE (aC (d2 dz (dV 2) (dV 8)) (aC (d2 dz (dV 2) (dV 9)) aN))))) (aF (f9 2 (dV 8) (dV 10)) (aF (f9 2 (dV 9) (dV 10)) (bh 7 (dC (.bl true)))))) dj))
def He(bd:List Str)(W w:Nat)(ps:List (Cell×Cell))(s:(Cell->Cell)×Bool)(x8 x9 Og:Option Sl):aQ:=[fz (brd bd),fz (.int (w:Int)),some (.ow (Ah (ak bd.length W) λx=>cD (s.1 x))),fz (.lst (ps.map pD)),none,none,none,fz (.bl s.2),x8,x9,Og]
def tF{ks:List Cell}{x:Cell}(h:x∈ks):bX ks x=ks:=acI h
def Hg(hg:Wd bd W){ps:List (Cell×Cell)}{s:(Cell->Cell)×Bool}{p:Cell×Cell}(h1:On bd.length W p.1)(h2:On bd.length W p.2):
 Qq (He bd W w ps s (fz (cD p.1)) (fz (cD p.2)) none)=aa (.nx (He bd W w ps (dg s p) none none none)):=by
 have hm:bd.length*W<=64:=Xm hg.r8 hg.w8;have IY:(ak bd.length W).length<lim:=by rw[bg,cI];omega
 have m1:=aE.mpr h1;have m2:=aE.mpr h2;have i1:∀{Og:Option Sl},d2 dz (dV 2) (dV 8) (yr (He bd W w ps s (fz (cD p.1)) (fz (cD p.2)) Og))=aa (cD (s.1 p.1)):=(aT (x:=jv (ak bd.length W) λx=>cD (s.1 x)) (y:=cD p.1) rfl rfl).trans (o5 m1);have i2:∀{Og:Option Sl},d2 dz (dV 2) (dV 9) (yr (He bd W w ps s (fz (cD p.1)) (fz (cD p.2)) Og))=aa (cD (s.1 p.2)):=(aT (x:=jv (ak bd.length W) λx=>cD (s.1 x)) (y:=cD p.2) rfl rfl).trans (o5 m2);have ht:FV (dN (d2 rQ (d2 dz (dV 2) (dV 8)) (d2 dz (dV 2) (dV 9)))) (He bd W w ps s (fz (cD p.1)) (fz (cD p.2)) none)=aa (!decide (s.1 p.1=s.1 p.2)):=FW (kg ((aT i1 i2).trans (Nu _ _)));unfold dg;by_cases e:s.1 p.1=s.1 p.2
 ·rw[acL e] at ht;rw[acI e];exact(aU (e_ ht rfl)).trans rfl
 ·rw[acN e] at ht;rw[acJ e];have PH:Mj (dA sE (aC (d2 dz (dV 2) (dV 8)) (aC (d2 dz (dV 2) (dV 9)) aN))) (He bd W w ps s (fz (cD p.1)) (fz (cD p.2)) none)=aa (cD (bG (s.1 p.1) (s.1 p.2))):=
   Mk ((dP (xs:=[cD (s.1 p.1),cD (s.1 p.2)]) (bf i1 (bf i2 rfl))).trans (Hi _ _)) (GP _)
  refine(aU (gJ ht (aq ((aS PH).trans rfl) (aq ((uZ (x:=p.1) (d:=cD (bG (s.1 p.1) (s.1 p.2))) (ks:=ak bd.length W) (f:=λx=>cD (s.1 x)) rfl rfl rfl IY).trans rfl) (aq ((uZ (x:=p.2) (d:=cD (bG (s.1 p.1) (s.1 p.2))) (ks:=bX (ak bd.length W) p.1) (f:=eV (λx=>cD (s.1 x)) p.1 (cD (bG (s.1 p.1) (s.1 p.2)))) rfl rfl rfl (by rw[tF m1];exact IY)).trans rfl) rfl))))).trans ?_;rw[tF m1,tF m2];unfold He;have ef:eV (eV (λx=>cD (s.1 x)) p.1 (cD (bG (s.1 p.1) (s.1 p.2)))) p.2 (cD (bG (s.1 p.1) (s.1 p.2)))=λx=>cD (if x=p.2 then bG (s.1 p.1) (s.1 p.2) else if x=p.1 then bG (s.1 p.1) (s.1 p.2) else s.1 x):=by
   funext x;unfold eV;by_cases z1:x=p.2
   ·rw[acI z1,acI z1]
   ·rw[acJ z1,acJ z1];by_cases z2:x=p.1
    ·rw[acI z2,acI z2]
    ·rw[acJ z2,acJ z2]
  rw[ef];rfl
end
def Es{i:Nat}{δ:DF}{ρ:aQ}{c:C}(h:δ ρ=aa c):s_ i δ ρ=aa (.nx (ρ.set i (some (.ow c)))):=by
 unfold s_;rw[h];rfl
def BK{δ:DE}{ρ:aQ}{l:List Cell}(h:δ ρ=aa (cL l)):cg δ ρ=aa (l.map cD):=by
 show (δ ρ>>=lstM)=_;rw[h];rfl
def eP(R W:Nat):RiseC (ak R W):=by
 unfold RiseC ak aK;rw[List.pairwise_flatMap];constructor
 ·intro r _;rw[Yw];exact List.pairwise_lt_range.imp λh=>by show (if _ then _ else _)=true;rw[acI rfl,acM];exact h
 ·refine List.pairwise_lt_range.imp λ{a b} h x hx y hy=>?_;obtain⟨i,_,rfl⟩:=Vp.mp hx;obtain⟨j,_,rfl⟩:=Vp.mp hy;show (if a=b then _ else decide (a<b))=true;rw[acJ (by omega),acM];exact h
section
variable{bd:List Str}{W w:Nat}
def vV(bd:List Str)(x y:Cell):Bool:=rB x y&&decide (lt bd x=lt bd y)
def Gv(bd:List Str)(x y:Cell):List D:=if vV bd x y then [pD (x,y)] else []
def bp(bd:List Str)(W w:Nat):List (Cell×Cell):=(ak bd.length W).flatMap λx=>((kr bd.length W w x).filter (vV bd x)).map λy=>(x,y)
def j4(hw:Ways w){p:Cell×Cell}:p∈bp bd W w↔On bd.length W p.1/\On bd.length W p.2/\lM w p.1 p.2=true/\lt bd p.1=lt bd p.2/\rB p.1 p.2=true:=by
 unfold bp vV;simp only[Zm,Vp,Ws,VA,acM];constructor
 ·rintro⟨x,hx,y,⟨hy,h1,h2⟩,rfl⟩;have hx:=aE.mp hx;have:=(pf hw hx).mp hy;exact⟨hx,this.1,this.2,h2,h1⟩
 ·rintro⟨h1,h2,h3,h4,h5⟩;exact⟨p.1,aE.mpr h1,p.2,⟨(pf hw h1).mpr ⟨h2,h3⟩,h5,h4⟩,rfl⟩
def pU(hw:Ways w){p:Cell×Cell}(h:p∈bp bd W w):yw bd W w p:=by
 obtain⟨h1,h2,h3,h4,_⟩:=(j4 hw).mp h;exact⟨h1,h2,Cn.refl.step ((fo hw).mpr ⟨h2,h3,h4.symm⟩)⟩
def vU(x:Cell):∀l:List Cell,l.flatMap (Gv bd x)=((l.filter (vV bd x)).map λy=>(x,y)).map pD
 |[]=>rfl
 |y::l=>by
  rw[W5,vU x l];unfold Gv;by_cases h:vV bd x y=true
  ·rw[acI h,abi h];rfl
  ·rw[acJ h,abj h];rfl
def QB:DS:=(bN [5,6] (aF (bh 6 (d2 jz (d2 a9 (dV 0) (d2 a9 (dV 4) (dC (.int 0)))) (d2 a9 (dV 4) (dC (.int 1))))) (ix (ku (dN (d2 wC (dV 4) (dV 5))) (dN (d2 jy (dV 6) (d2 jz (d2 a9 (dV 0) (d2 a9 (dV 5) (dC (.int 0)))) (d2 a9 (dV 5) (dC (.int 1))))))) (g7 3 (dA aR (aC (dV 4) (aC (dV 5) aN)))) dj)))
def xF(bd:List Str)(w:Nat)(o:Option Sl)(u8:List D)(x4 x5 x6:Option Sl):aQ:=[fz (brd bd),fz (.int (w:Int)),o,some (.ow (.lst u8)),x4,x5,x6,none,none,none,none]
def HU(hg:Wd bd W){o:Option Sl}{x y:Cell}(hx:On bd.length W x)(hy:On bd.length W y){u8:List D}(hl:(u8++Gv bd x y).length<=600):
 QB (xF bd w o u8 (fz (cD x)) (fz (cD y)) none)=aa (.nx (xF bd w o (u8++Gv bd x y) (fz (cD x)) none none)):=by
 have ht:ku (dN (d2 wC (dV 4) (dV 5))) (dN (d2 jy (dV 6) (d2 jz (d2 a9 (dV 0) (d2 a9 (dV 5) (dC (.int 0)))) (d2 a9 (dV 5) (dC (.int 1)))))) (xF bd w o u8 (fz (cD x)) (fz (cD y)) (fz (sg (lt bd x))))=aa (vV bd x y):=
  yN (kg ((aT (x:=cD x) (y:=cD y) rfl rfl).trans (GR _ _))) (kg ((aT (x:=sg (lt bd x)) rfl (FD hg hy rfl rfl)).trans (IM _ _)))
 have h6:d2 jz (d2 a9 (dV 0) (d2 a9 (dV 4) (dC (.int 0)))) (d2 a9 (dV 4) (dC (.int 1))) (xF bd w o u8 (fz (cD x)) (fz (cD y)) none)=aa (sg (lt bd x)):=FD hg hx rfl rfl;unfold Gv at hl⊢;by_cases hb:vV bd x y=true
 ·rw[acI hb] at hl⊢;rw[hb] at ht;refine(aU (ρ':=xF bd w o (u8++[pD (x,y)]) (fz (cD x)) (fz (cD y)) (fz (sg (lt bd x)))) (aq (ρ':=xF bd w o u8 (fz (cD x)) (fz (cD y)) (fz (sg (lt bd x)))) ((aS h6).trans rfl) (gJ ht ?_))).trans rfl;show (if u8.length<lim then aa (Out.nx (xF bd w o (u8++[pD (x,y)]) (fz (cD x)) (fz (cD y)) (fz (sg (lt bd x))))) else ag)=_;rw[acI (by rw[Vm] at hl;rw[cI];simp at hl;omega)]
 ·rw[acJ hb,V7];rw[aah.mpr hb] at ht;exact(aU (ρ':=xF bd w o u8 (fz (cD x)) (fz (cD y)) (fz (sg (lt bd x)))) (aq (ρ':=xF bd w o u8 (fz (cD x)) (fz (cD y)) (fz (sg (lt bd x)))) ((aS h6).trans rfl) (e_ ht rfl))).trans rfl
def kK{α β:Type}{n:Nat}(f:α->List β)(h:∀a,(f a).length<=n):∀l:List α,(l.flatMap f).length<=n*l.length
 |[]=>V1 _
 |a::l=>by
  rw[W5,Vm,Vk,Nat.mul_add,acr];have:=h a;have:=kK f h l;omega
def HS(hg:Wd bd W)(hw:Ways w){o:Option Sl}:forL (putN 4) (bN [4,5,6] (cJ (putN 5) (cg (ay 3 cY (aC (dV 0) (aC (dV 4) (aC (dV 1) aN))))) QB)) ((ak bd.length W).map cD) (xF bd w o [] none none none)=aa (.nx (xF bd w o ((bp bd W w).map pD) none none none)):=by
 have hm:bd.length*W<=64:=Xm hg.r8 hg.w8;have Bw:(ak bd.length W).flatMap (λx=>(kr bd.length W w x).flatMap (Gv bd x))=(bp bd W w).map pD:=by
  unfold bp;rw[YE];congr 1;funext x;exact vU x _
 have UY:((bp bd W w).map pD).length<=576:=by
  rw[Vb];have:=kK (n:=9) (λx=>((kr bd.length W w x).filter (vV bd x)).map λy=>(x,y)) (λx=>by rw[Vb];exact VI (XN ..) (vT ..)) (ak bd.length W);rw[bg] at this;exact VI this (by omega)
 have:=cT (put:=putN 4) (body:=bN [4,5,6] (cJ (putN 5) (cg (ay 3 cY (aC (dV 0) (aC (dV 4) (aC (dV 1) aN))))) QB)) (B:=600) cD (λu8=>xF bd w o u8 none none none) (λx=>(kr bd.length W w x).flatMap (Gv bd x)) (ak bd.length W) [] (by rw[VL,Bw];omega) λx hx u8 hl=>by
  have hx:=aE.mp hx;refine⟨xF bd w o u8 (fz (cD x)) none none,rfl,(aU (ρ':=xF bd w o (u8++(kr bd.length W w x).flatMap (Gv bd x)) (fz (cD x)) none none) (dI (ds:=(kr bd.length W w x).map cD) ?_ ?_)).trans rfl⟩
  ·exact BK ((az (ds:=[brd bd,cD x, .int (w:Int)]) rfl rfl).trans (um hg))
  ·exact cT (B:=600) cD (λu8=>xF bd w o u8 (fz (cD x)) none none) (Gv bd x) _ u8 hl λy hy O1 yW=>⟨_,rfl,HU hg hx ((pf hw hx).mp hy).1 yW⟩
 rw[VL,Bw] at this;exact this
def RW:DS:=(bN [8,9,10] (aF (bh 7 (dC (.bl false))) (yt 3 (cJ (p6 [8,9]) (cg (dV 3)) Qq))))
def Ky(bd:List Str)(W w:Nat)(s:(Cell->Cell)×Bool)(x3:Option Sl):aQ:=[fz (brd bd),fz (.int (w:Int)),some (.ow (Ah (ak bd.length W) λx=>cD (s.1 x))),x3,none,none,none,fz (.bl s.2),none,none,none]
def Hf(hg:Wd bd W)(hw:Ways w){L:Cell->Cell}{b:Bool}{x3:Option Sl}(h3:x3=some (.ow (.lst ((bp bd W w).map pD)))\/x3=fz (.lst ((bp bd W w).map pD)))(h:Lab bd W w L):
 RW (Ky bd W w (L,b) x3)=aa (.nx (Ky bd W w ((bp bd W w).foldl dg (L,false)) (fz (.lst ((bp bd W w).map pD))))):=by
 have hf:=(jk (put:=p6 [8,9]) (body:=Qq) pD (λs=>He bd W w (bp bd W w) s none none none) dg (λs=>Lab bd W w s.1) (bp bd W w) (L,false) h λs hs p hp=>by
  obtain⟨q1,q2,q3⟩:=pU hw hp;exact⟨(wV hw (pU hw hp) hs).1,_,rfl,Hg hg q1 q2⟩).2
 refine(aU (ρ':=He bd W w (bp bd W w) ((bp bd W w).foldl dg (L,false)) none none none) (aq (ρ':=Ky bd W w (L,false) x3) rfl ?_)).trans rfl;rcases h3 with rfl | rfl
 ·exact dI (ds:=(bp bd W w).map pD) rfl hf
 ·exact dI (ds:=(bp bd W w).map pD) rfl hf
def wQ(hg:Wd bd W)(hw:Ways w):∀(fuel:Nat) (L:Cell->Cell) (x3:Option Sl),x3=some (.ow (.lst ((bp bd W w).map pD)))\/x3=fz (.lst ((bp bd W w).map pD))->Lab bd W w L->mu bd.length W L+2<=fuel->
 ∃L',Lab bd W w L'/\(∀p∈bp bd W w,L' p.1=L' p.2)/\eK (cH (dV 7)) RW fuel (Ky bd W w (L,true) x3)=aa (.nx (Ky bd W w (L',false) (fz (.lst ((bp bd W w).map pD)))))
 |0,_,_,_,_,hf=>by omega
 |1,_,_,_,_,hf=>by omega
 |fuel+2,L,x3,h3,h,hf=>by
  have hp:=Hf (b:=true) hg hw h3 h;obtain⟨a1,a2,a3⟩:=Jj hw (bp bd W w) (L,false) (λp hp=>pU hw hp) h;rcases a3 with⟨b1,b2,b3⟩ | ⟨b1,b2⟩
  ·have e:(bp bd W w).foldl dg (L,false)=(L,false):=aaD b2 b1;rw[e] at hp;exact⟨L,h,b3,qt (iD rfl) hp (yg (iD rfl))⟩
  ·have e:(bp bd W w).foldl dg (L,false)=(((bp bd W w).foldl dg (L,false)).1,true):=aaD rfl b1;obtain⟨L',c1,c2,c3⟩:=wQ hg hw (fuel+1) _ _ (.inr rfl) a1 (by have b2:mu bd.length W _<mu bd.length W L:=b2;omega);rw[e] at hp;exact⟨L',c1,c2,qt (iD rfl) hp c3⟩
def Least(bd:List Str)(W w:Nat)(x m:Cell):Prop:=Cn bd W w x m/\∀z,Cn bd W w x z->rank W m<=rank W z
def qk(hw:Ways w){L:Cell->Cell}(h:∀p∈bp bd W w,L p.1=L p.2){x:Cell}(hx:On bd.length W x):∀{j:Nat}{y:Cell},Rb (bq bd W w) x j y->L x=L y
 |0,y,h0=>by rw[show y=x from h0]
 |j+1,y,h0=>by
  rcases h0 with q | ⟨z,q1,q2⟩
  ·exact qk hw h hx q
  ·rw[qk hw h hx q1];have hz:=xJ hw hx q1;obtain⟨y1,y2,y3⟩:=(fo hw).mp q2;by_cases cN:rank W z<rank W y
   ·exact h (z,y) ((j4 hw).mpr ⟨hz,y1,y2,y3.symm,(dO hz y1).mpr cN⟩)
   ·have gh:rank W z≠rank W y:=λe=>by
     have:=lq hz y1 e;subst this;rw[KC hw] at y2;cases y2
    exact(h (y,z) ((j4 hw).mpr ⟨y1,hz,by rw[xc];exact y2,y3,(dO y1 hz).mpr (by omega)⟩)).symm
def o_(hg:Wd bd W)(hw:Ways w):∃L:Cell->Cell,(∀x,On bd.length W x->Least bd W w x (L x))/\cZ [brd bd, .int (w:Int)]=aa (jv (ak bd.length W) λx=>cD (L x)):=by
 have hm:bd.length*W<=64:=Xm hg.r8 hg.w8;have l0:Lab bd W w id:=⟨λx hx=>hx,λx hx=>Cn.refl,λx hx=>Vj _⟩
 have U2:mu bd.length W id<=4032:=by
  unfold mu;have:=zQ (f:=λx=>rank W (id x)) (g:=λ_=>63) (l:=ak bd.length W) λx hx=>by
   have:=Ic (aE.mp hx);show rank W x<=63;omega
  refine VI this ?_;rw[List.map_const',List.sum_replicate_nat,bg];have:bd.length*W*63<=64*63:=YK _ hm;omega
 obtain⟨L,h1,h2,h3⟩:=wQ hg hw lim id (some (.ow (.lst ((bp bd W w).map pD)))) (.inl rfl) l0 (by rw[cI];omega);refine⟨L,λx hx=>⟨h1.cn x hx,λz hz=>?_⟩,?_⟩
 ·obtain⟨j,q⟩:=hz;rw[qk hw h2 hx q];exact h1.le z (xJ hw hx q)
 ·have Gk:((ak bd.length W).map keyOf).Nodup:=by
   exact(eP _ _).nodup.map (f:=keyOf) λa b h z=>h (eC z)
  have lS:(aC (ba 0 (cg (ay 1 bw (aC (dV 0) aN))) bu (dA aR (aC (dV 0) (aC (dV 0) aN)))) aN) [fz (brd bd),fz (.int (w:Int)),none,none,none,none,none,none,none,none,none]=aa [.lst ((ak bd.length W).map λx=>pD (x,x))]:=by
   refine bf (bB (ds:=(ak bd.length W).map cD) ?_ (b7 cD (λx=>pD (x,x)) _ λx _=>rfl) (by rw[Vb,bg,cI];omega)) rfl;exact BK ((az (ds:=[brd bd]) rfl rfl).trans (iI hg))
  have M0:∀l:List Cell,j6 (l.map λx=>pD (x,x))=some (l.map keyOf,l.map cD):=λl=>by
   induction l with
   |nil=>rfl
   |cons a l ih=>
    show (match eD (cD a),j6 (l.map λx=>pD (x,x)) with | some kk,some q=>some (kk::q.1,cD a::q.2) | _,_=>none)=_;rw[ih];rfl
  refine bo (aq (ρ':=[fz (brd bd),fz (.int (w:Int)),some (.ow (Ah (ak bd.length W) cD)),none,none,none,none,none,none,none,none]) ?_ (aq (ρ':=xF bd w (some (.ow (Ah (ak bd.length W) cD))) [] none none none) rfl (aq (ρ':=xF bd w (some (.ow (Ah (ak bd.length W) cD))) ((bp bd W w).map pD) none none none) (c_ (dI (ds:=(ak bd.length W).map cD) ?_ (HS hg hw))) (aq (ρ':=Ky bd W w (id,true) (some (.ow (.lst ((bp bd W w).map pD))))) rfl (aq (ρ':=Ky bd W w (L,false) (fz (.lst ((bp bd W w).map pD)))) ?_ rfl)))))
  ·refine Es (ρ:=[fz (brd bd),fz (.int (w:Int)),none,none,none,none,none,none,none,none,none]) (c:=Ah (ak bd.length W) cD) ?_;refine(acP (· >>=Ai) lS).trans ?_;show (match j6 ((ak bd.length W).map λx=>pD (x,x)) with | some q=>if q.1.Nodup/\q.2.length<=lim then aa (C.dct q.1 q.2) else ag | none=>ag)=_;rw[M0];show (if ((ak bd.length W).map keyOf).Nodup/\((ak bd.length W).map cD).length<=lim then aa (C.dct ((ak bd.length W).map keyOf) ((ak bd.length W).map cD)) else ag)=_;rw[acI ⟨Gk,by rw[Vb,bg,cI];omega⟩];rfl
  ·exact BK ((az (ds:=[brd bd]) rfl rfl).trans (iI hg))
  ·exact c_ h3
end
def MD:((ak 8 8).map λc=>eT (ic c)).Nodup:=by decide+kernel
def sG{α β:Type}{f:α->β}:∀{l:List α},(l.map f).Nodup->∀a∈l,∀b∈l,f a=f b->a=b
 |x::l,h,a,ha,b,hb,e=>by
  rw[Vi,WG] at h;by_cases h1:a=x
  ·by_cases h2:b=x
   ·rw[h1,h2]
   ·have hb:b∈l:=(Vo.mp hb).resolve_left h2;exact acK (Vp.mpr ⟨b,hb,by rw[<-h1];exact e.symm⟩) h.1
  ·have ha:a∈l:=(Vo.mp ha).resolve_left h1;by_cases h2:b=x
   ·exact acK (Vp.mpr ⟨a,ha,by rw[<-h2];exact e⟩) h.1
   ·exact sG h.2 a ha b ((Vo.mp hb).resolve_left h2) e
def Ap{R W:Nat}(hR:R<=8)(hW:W<=8){l:List Cell}(hn:l.Nodup)(nG:∀x∈l,On R W x):(l.map λc=>eT (ic c)).Nodup:=by
 have h8:∀x∈l,x∈ak 8 8:=λx hx=>aE.mpr ⟨by have:=(nG x hx).1;omega,by have:=(nG x hx).2;omega⟩;rw[WI,Yw];refine List.Pairwise.imp_of_mem (λ{a b} ha hb h z=>h ?_) hn;exact sG MD a (h8 a ha) b (h8 b hb) z
def wJ:∀l:List Cell,gQ (l.map cD)=some (l.map ic)
 |[]=>rfl
 |c::l=>by
  show (match Jg (cD c),gQ (l.map cD) with | some k,some ks=>some (k::ks) | _,_=>none)=_;rw[wJ l];rfl
def Lh{ks:List Cell}{f:Cell->D}{x:Cell}{d:D}:dh (ks.map keyOf) (ks.map f) (keyOf x)=(bX ks x).map keyOf/\cq (ks.map keyOf) (ks.map f) (keyOf x) d=(bX ks x).map (eV f x d):=by
 unfold bX dh cq;by_cases h:x∈ks
 ·rw[nX h,acI h];exact⟨rfl,u7⟩
 ·rw[gL h,acJ h];have e1:ks.map f=ks.map (eV f x d):=W_ λy hy=>by
   unfold eV;rw[acJ (λz:y=x=>h (z▸hy))]
  have e2:(ks++[x]).map (eV f x d)=ks.map (eV f x d)++[d]:=by
   rw[WA];congr 1;show [eV f x d x]=[d]
   unfold eV;rw[acI rfl]
  exact⟨by rw[WA];rfl,by rw[e2,<-e1];rfl⟩
def pw:∀(l ks:List Cell),b9 (ks.map keyOf) (aL ks) (l.map keyOf) (aL l)=((l.foldl bX ks).map keyOf,aL (l.foldl bX ks))
 |[],ks=>rfl
 |x::l,ks=>by
  show b9 (dh (ks.map keyOf) (aL ks) (keyOf x)) (cq (ks.map keyOf) (aL ks) (keyOf x) (.bl true)) (l.map keyOf) (aL l)=_;have h:=Lh (ks:=ks) (f:=λ_=>D.bl true) (x:=x) (d:= .bl true);have e:eV (λ_=>D.bl true) x (.bl true)=λ_=>D.bl true:=by
   funext y;unfold eV;split<;>rfl
  rw[e] at h;rw[show aL ks=ks.map (λ_=>D.bl true) from rfl,h.1,h.2];exact pw l (bX ks x)
def Dx{l ks:List Cell}(h:ks.Nodup):(l.foldl bX ks).Nodup:=(mD l ks).1 h
section
open Classical
variable{bd:List Str}{W w:Nat}
noncomputable def bE(bd:List Str)(W w:Nat)(m:Cell):List Cell:=(ak bd.length W).filter λx=>decide (Cn bd W w m x)
noncomputable def bx(bd:List Str)(W w:Nat)(l:List Cell):List Cell:=l.filter λx=>decide (Least bd W w x x)
def fq(hw:Ways w){m:Cell}(hm:On bd.length W m):IsPatch bd W w m (bE bd W w m):=by
 refine⟨(eP _ _).filter _,λx=>?_⟩;unfold bE;rw[Ws,aE,acM];exact⟨λh=>h.2,λh=>⟨h.on hw hm,h⟩⟩
def Least.on(hw:Ways w){x m:Cell}(hx:On bd.length W x)(h:Least bd W w x m):On bd.length W m:=h.1.on hw hx
def Least.move(hw:Ways w){x y m:Cell}(hx:On bd.length W x)(h:Least bd W w x m)(hy:Cn bd W w x y):Least bd W w y m:=
 ⟨(hy.symm hw hx).trans h.1,λz hz=>h.2 z (hy.trans hz)⟩
def Least.one(hw:Ways w){x m n:Cell}(hx:On bd.length W x)(h:Least bd W w x m)(h2:Least bd W w x n):m=n:=
 lq (h.on hw hx) (h2.on hw hx) (aaW (h.2 n h2.1) (h2.2 m h.1))
def Least.self(hw:Ways w){x m:Cell}(hx:On bd.length W x)(h:Least bd W w x m):Least bd W w m m:=h.move hw hx h.1
variable(L:Cell->Cell)
def su(hw:Ways w):∃L:Cell->Cell,∀x,On bd.length W x->Least bd W w x (L x):=by
 have h:∀x,∃m,On bd.length W x->Least bd W w x m:=λx=>by
  by_cases hx:On bd.length W x
  ·have hP:=fq hw hx;cases hp:bE bd W w x with
   |nil=>have:=(hP.mem x).mpr Cn.refl;rw[hp] at this;cases this
   |cons m r=>
    rw[hp] at hP;have hm:=(hP.mem m).mp (Ve ..);refine⟨m,λ_=>⟨hm,λz hz=>?_⟩⟩;rcases Vo.mp ((hP.mem z).mpr hz) with rfl | Ui
    ·exact Vj _
    ·exact W4 ((dO (hm.on hw hx) (hz.on hw hx)).mp ((WE.mp hP.rise).1 z Ui))
  ·exact⟨x,λz=>acK z hx⟩
 exact⟨λx=>Classical.choose (h x),λx=>Classical.choose_spec (h x)⟩
noncomputable def pV(bd:List Str)(W w:Nat):D:= .lst ((bx bd W w (ak bd.length W)).map λm=>cL (bE bd W w m))
end
section
open Classical
variable{bd:List Str}{W w:Nat}
def Q5:DS:=(bN [4,5] (ix (FV (dN (d2 (qJ true) (dV 4) (dV 3)))) (aF (bh 5 (dA tu (aC (ay 3 cC (aC (dV 0) (aC (dV 4) (aC (dV 1) aN)))) aN))) (aF (g7 2 (dV 5)) (Cr 3 (ay 1 kB (aC (dV 5) aN))))) dj))
noncomputable def A7(bd:List Str)(W w:Nat)(s:List Cell):List D:=(bx bd W w s).map λm=>cL (bE bd W w m)
noncomputable def Gd(bd:List Str)(W w:Nat)(s ks:List Cell)(x4 x5:Option Sl):aQ:=[fz (brd bd),fz (.int (w:Int)),some (.ow (.lst (A7 bd W w s))),some (.ow (.dct (ks.map keyOf) (aL ks))),x4,x5]
structure Seen (bd:List Str) (W w:Nat) (s ks:List Cell):Prop where
 nd:ks.Nodup
 on:∀y∈ks,On bd.length W y
 mem:∀y,y∈ks↔∃m∈bx bd W w s,Cn bd W w m y
def F_{i:Nat}{δ:DE}{ρ:aQ}{ks l:List Cell}(h0:ρ[i]? =some (some (.ow (.dct (ks.map keyOf) (aL ks)))))(hd:δ ρ=aa (y_ l))(hz:ks.length+l.length<=4096)(hh:ks=[]->((bK l).map λc=>eT (ic c)).Nodup):
 Cr i δ ρ=aa (.nx (ρ.set i (some (.ow (.dct (((bK l).foldl bX ks).map keyOf) (aL ((bK l).foldl bX ks))))))):=by
 unfold Cr zr;rw[h0];show (δ ρ>>=λd=>match F9 (ks.map keyOf) (aL ks) d with | some c'=>aa (Out.nx (ρ.set i (some (.ow c')))) | none=>ag)=_;rw[hd,au];have:F9 (ks.map keyOf) (aL ks) (y_ l)=some (.dct (((bK l).foldl bX ks).map keyOf) (aL ((bK l).foldl bX ks))):=by
  show (match fI ((bK l).map keyOf) with | some ns=>if (aL ks).length+(aL (bK l)).length<=lim/\((ks.map keyOf).isEmpty=true->(ns.map eT).Nodup) then some (C.dct (b9 (ks.map keyOf) (aL ks) ((bK l).map keyOf) (aL (bK l))).1 (b9 (ks.map keyOf) (aL ks) ((bK l).map keyOf) (aL (bK l))).2) else none | none=>none)=_;rw[lU];show (if (aL ks).length+(aL (bK l)).length<=lim/\((ks.map keyOf).isEmpty=true->(((bK l).map ic).map eT).Nodup) then some (C.dct (b9 (ks.map keyOf) (aL ks) ((bK l).map keyOf) (aL (bK l))).1 (b9 (ks.map keyOf) (aL ks) ((bK l).map keyOf) (aL (bK l))).2) else none)=_;have c1:(aL ks).length+(aL (bK l)).length<=lim:=by
   have:=BR l;unfold aL;rw[Vb,Vb,cI];omega
  have c2:(ks.map keyOf).isEmpty=true->(((bK l).map ic).map eT).Nodup:=λz=>by
   rw[VX];exact hh (by cases ks with | nil=>rfl | cons _ _=>cases z)
  rw[acI ⟨c1,c2⟩,pw]
 rw[this]
def xY(hg:Brd bd W)(hs:bd.length*W<64)(hw:Ways w){x:Cell}(hx:On bd.length W x){ρ:aQ}(h0:dV 0 ρ=aa (brd bd))(h1:dV 1 ρ=aa (.int (w:Int)))(h4:dV 4 ρ=aa (cD x)):
 dA tu (aC (ay 3 cC (aC (dV 0) (aC (dV 4) (aC (dV 1) aN)))) aN) ρ=aa (cL (bE bd W w x)):=by
 obtain⟨k,ks,ps,q1,q2,q3⟩:=qj hg hw hx;have e1:ay 3 cC (aC (dV 0) (aC (dV 4) (aC (dV 1) aN))) ρ=aa (Aa ks ps):=(az (ds:=[brd bd,cD x, .int (w:Int)]) (bf h0 (bf h4 (bf h1 rfl))) rfl).trans q3;refine(dP (xs:=[Aa ks ps]) (bf e1 rfl)).trans ((FK q1.nd (Z_ (tL q1.nd q2) hs)).trans ?_);have:m9 ks=bE bd W w x:=IsPatch.one ⟨qh q1.nd,λx=>sD.trans (q1.last x)⟩ (fq hw hx);rw[this]
def gU(s:List Cell)(x:Cell):bx bd W w (s++[x])=if Least bd W w x x then bx bd W w s++[x] else bx bd W w s:=by
 unfold bx;rw[List.filter_append];by_cases h:Least bd W w x x
 ·rw[acI h,abi (by rw[acM];exact h),List.filter_nil]
 ·rw[acJ h,abj (by rw[acM];exact h),List.filter_nil,V7]
def Gu(hg:Brd bd W)(hs:bd.length*W<64)(hw:Ways w){L:Cell->Cell}(hL:∀x,On bd.length W x->Least bd W w x (L x)){s r ks:List Cell}{x:Cell}(e:s++x::r=ak bd.length W)(h:Seen bd W w s ks):
 ∃ks',Seen bd W w (s++[x]) ks'/\Q5 (Gd bd W w s ks (fz (cD x)) none)=aa (.nx (Gd bd W w (s++[x]) ks' none none)):=by
 have hx:On bd.length W x:=aE.mp (by rw[<-e];simp);have DZ:=eP bd.length W;rw[<-e] at DZ;have LX:∀y∈s,On bd.length W y:=λy hy=>aE.mp (by rw[<-e];simp[hy]);have P5:∀y∈r,On bd.length W y:=λy hy=>aE.mp (by rw[<-e];simp[hy]);have GX:∀y∈s,rank W y<rank W x:=λy hy=>(dO (LX y hy) hx).mp ((YH.mp DZ).2.2 y hy x (Ve ..));have JX:∀y∈r,rank W x<rank W y:=λy hy=>(dO hx (P5 y hy)).mp ((WE.mp (YH.mp DZ).2.1).1 y hy);have Tw:ks.length<=64:=by have:=tL (bd:=bd) (W:=W) h.nd h.on;omega
 have CL:s.length<64:=by
  have:=acP aaK e;rw[bg,Vm,Vk] at this;omega
 have ht:FV (dN (d2 (qJ true) (dV 4) (dV 3))) (Gd bd W w s ks (fz (cD x)) none)=aa (!decide (x∈ks)):=
  FW (kg ((aT (x:=cD x) (y:= .dct (ks.map keyOf) (aL ks)) rfl rfl).trans (Av (neg:=true) (by simp[aL]))))
 by_cases hl:Least bd W w x x
 ·have Qe:x∉ks:=λz=>by
   obtain⟨m,hm,hc⟩:=(h.mem x).mp z;unfold bx at hm;rw[Ws,acM] at hm;have h1:=GX m hm.1;have h2:=hl.2 m (hc.symm hw (LX m hm.1));omega
  rw[acN Qe] at ht;have hP:=fq hw hx (bd:=bd) (W:=W);have JV:∀y∈bE bd W w x,On bd.length W y:=λy hy=>((hP.mem y).mp hy).on hw hx;have LQ:(bE bd W w x).length<=64:=by have:=tL (bd:=bd) (W:=W) hP.rise.nodup JV;omega
  have Bw:(A7 bd W w s).length<lim:=by
   unfold A7;rw[Vb,cI];have:=XN (λx=>decide (Least bd W w x x)) s;unfold bx;omega
  refine⟨(bK (bE bd W w x)).foldl bX ks,⟨Dx h.nd,λy hy=>?_,λy=>?_⟩,?_⟩
  ·rcases((mD (bK (bE bd W w x)) ks).2.1 y).mp hy with q | q
   ·exact h.on y q
   ·exact JV y (lW.mp q)
  ·rw[(mD (bK (bE bd W w x)) ks).2.1 y,lW,h.mem y,gU,acI hl,hP.mem y];constructor
   ·rintro(⟨m,hm,hc⟩ | hc)
    ·exact⟨m,V3.mpr (.inl hm),hc⟩
    ·exact⟨x,by simp,hc⟩
   ·rintro⟨m,hm,hc⟩;rcases V3.mp hm with hm | hm
    ·exact .inl ⟨m,hm,hc⟩
    ·rw[VS.mp hm] at hc;exact .inr hc
  ·have ef:A7 bd W w (s++[x])=A7 bd W w s++[cL (bE bd W w x)]:=by
    unfold A7;rw[gU,acI hl,WA];rfl
   refine(aU (ρ':=[fz (brd bd),fz (.int (w:Int)),some (.ow (.lst (A7 bd W w s++[cL (bE bd W w x)]))),some (.ow (.dct (((bK (bE bd W w x)).foldl bX ks).map keyOf) (aL ((bK (bE bd W w x)).foldl bX ks)))),fz (cD x),fz (cL (bE bd W w x))]) (gJ ht (aq (ρ':=Gd bd W w s ks (fz (cD x)) (fz (cL (bE bd W w x)))) ((aS (xY hg hs hw hx rfl rfl rfl)).trans rfl) (aq (ρ':=[fz (brd bd),fz (.int (w:Int)),some (.ow (.lst (A7 bd W w s++[cL (bE bd W w x)]))),some (.ow (.dct (ks.map keyOf) (aL ks))),fz (cD x),fz (cL (bE bd W w x))]) ?_ ?_)))).trans ?_
   ·show (if (A7 bd W w s).length<lim then aa (Out.nx [fz (brd bd),fz (.int (w:Int)),some (.ow (.lst (A7 bd W w s++[cL (bE bd W w x)]))),some (.ow (.dct (ks.map keyOf) (aL ks))),fz (cD x),fz (cL (bE bd W w x))]) else ag)=_;rw[acI Bw]
   ·exact(F_ (ks:=ks) (l:=bE bd W w x) rfl ((az (ds:=[cL (bE bd W w x)]) rfl rfl).trans (BO (by omega))) (by omega) (λ_=>Ap hg.r8 hg.w8 (Ep _) λy hy=>JV y (lW.mp hy))).trans rfl
   ·unfold Gd;rw[ef];rfl
 ·have hm:=hL x hx;have gh:L x≠x:=λz=>hl (by rw[z] at hm;exact hm);have cN:rank W (L x)<rank W x:=by
   have h1:=hm.2 x Cn.refl;have h2:rank W (L x)≠rank W x:=λz=>gh (lq (hm.on hw hx) hx z);omega
  have TL:L x∈s:=by
   have:L x∈s++x::r:=by rw[e];exact aE.mpr (hm.on hw hx)
   rcases V3.mp this with q | q
   ·exact q
   ·rcases Vo.mp q with q | q
    ·exact acK q gh
    ·have:=JX _ q;omega
  have Qe:x∈ks:=(h.mem x).mpr ⟨L x,by unfold bx;rw[Ws,acM];exact⟨TL,hm.self hw hx⟩,hm.1.symm hw hx⟩;rw[acL Qe] at ht;refine⟨ks,⟨h.nd,h.on,λy=>by rw[gU,acJ hl];exact h.mem y⟩,?_⟩;have ef:A7 bd W w (s++[x])=A7 bd W w s:=by
   unfold A7;rw[gU,acJ hl]
  refine(aU (e_ ht rfl)).trans ?_;unfold Gd;rw[ef];rfl
def z8(hg:Brd bd W)(hs:bd.length*W<64)(hw:Ways w){L:Cell->Cell}(hL:∀x,On bd.length W x->Least bd W w x (L x)):∀(r s ks:List Cell),s++r=ak bd.length W->Seen bd W w s ks->
 ∃ks',forL (putN 4) Q5 (r.map cD) (Gd bd W w s ks none none)=aa (.nx (Gd bd W w (ak bd.length W) ks' none none))
 |[],s,ks,e,h=>by
  rw[V7] at e;exact⟨ks,by rw[e];rfl⟩
 |x::r,s,ks,e,h=>by
  obtain⟨Qo,h1,e1⟩:=Gu hg hs hw hL e h;obtain⟨Qp,e2⟩:=z8 hg hs hw hL r (s++[x]) Qo (by rw[W6];exact e) h1;exact⟨Qp,(dG rfl e1).trans e2⟩
def ny(hg:Brd bd W)(hs:bd.length*W<64)(hw:Ways w):eM [brd bd, .int (w:Int)]=aa (pV bd W w):=by
 obtain⟨L,hL⟩:=su (bd:=bd) (W:=W) hw;obtain⟨ks,e⟩:=z8 hg hs hw hL (ak bd.length W) [] [] rfl ⟨YB,(λy hy=>(by cases hy)),(λy=>⟨λz=>(by cases z),λ⟨m,hm,_⟩=>(by cases hm)⟩)⟩;refine bo (aq (ρ':=[fz (brd bd),fz (.int (w:Int)),some (.ow (.lst [])),none,none,none]) rfl (aq (ρ':=Gd bd W w [] [] none none) rfl (aq (ρ':=Gd bd W w (ak bd.length W) ks none none) (c_ (dI (ds:=(ak bd.length W).map cD) (BK ((az (ds:=[brd bd]) rfl rfl).trans (qD hg))) e)) rfl)))
end
structure NumOk (R W:Nat) (Ps:List (List Cell)) (ks:List Cell) (f:Cell->Nat):Prop where
 nd:ks.Nodup
 on:∀y∈ks,On R W y
 num:∀y∈ks,∃P,Ps[f y]? =some P/\y∈P
def R1:DS:=bN [4] (f9 1 (dV 4) (dV 2))
def Jp(Ps:List (List Cell))(ks:List Cell)(f:Cell->Nat)(x2 x3 x4:Option Sl):aQ:=[fz (.lst (Ps.map cL)),some (.ow (Ah ks λy=> .int (f y:Int))),x2,x3,x4]
def A6{ks:List Cell}{x:Cell}:x∈bX ks x:=iA.mpr (.inr rfl)
def Jq{R W:Nat}(hm:R*W<=64){Ps:List (List Cell)}{i:Nat}{P:List Cell}(hP:Ps[i]? =some P){x3:Option Sl}(nG:∀y∈P,On R W y):∀(l ks:List Cell) (f:Cell->Nat),(∀y∈l,y∈P)->NumOk R W Ps ks f->
 ∃ks' f',NumOk R W Ps ks' f'/\(∀y∈ks,y∈ks')/\(∀y∈l,y∈ks')/\forL (putN 4) R1 (l.map cD) (Jp Ps ks f (fz (.int (i:Int))) x3 none)=aa (.nx (Jp Ps ks' f' (fz (.int (i:Int))) x3 none))
 |[],ks,f,_,h=>⟨ks,f,h,λy hy=>hy,(λy hy=>(by cases hy)),rfl⟩
 |x::l,ks,f,hl,h=>by
  have hx:=hl x (Ve ..);have Tw:ks.length<=64:=by
   have h1:=iQ h.nd λy hy=>aE.mpr (h.on y hy);rw[bg] at h1;omega
  have h1:NumOk R W Ps (bX ks x) (λy=>if y=x then i else f y):=by
   refine⟨(mD [x] ks).1 h.nd,λy hy=>?_,λy hy=>?_⟩
   ·rcases iA.mp hy with q | q
    ·exact h.on y q
    ·rw[q];exact nG x hx
   ·by_cases e:y=x
    ·refine⟨P,?_,by rw[e];exact hx⟩;show Ps[if y=x then i else f y]? =_;rw[acI e];exact hP
    ·rcases iA.mp hy with q | q
     ·obtain⟨Q,q1,q2⟩:=h.num y q;refine⟨Q,?_,q2⟩;show Ps[if y=x then i else f y]? =_;rw[acJ e];exact q1
     ·exact acK q e
  obtain⟨ks',f',a1,a2,a3,a4⟩:=Jq hm hP nG l (bX ks x) _ (λy hy=>hl y (Vc _ hy)) h1;refine⟨ks',f',a1,λy hy=>a2 y (iA.mpr (.inl hy)),λy hy=>?_,?_⟩
  ·rcases Vo.mp hy with rfl | hy
   ·exact a2 _ A6
   ·exact a3 y hy
  ·refine(dG (ρ1:=Jp Ps ks f (fz (.int (i:Int))) x3 (fz (cD x))) rfl ?_).trans a4;refine(aU ((uZ (ks:=ks) (f:=λy=> .int (f y:Int)) (x:=x) (d:= .int (i:Int)) rfl rfl rfl (by rw[cI];omega)).trans rfl)).trans ?_;have ef:eV (λy=>D.int (f y:Int)) x (.int (i:Int))=λy=>D.int ((if y=x then i else f y:Nat):Int):=by
    funext y;unfold eV;by_cases e:y=x
    ·rw[acI e,acI e]
    ·rw[acJ e,acJ e]
   show aa (Out.nx [fz (.lst (Ps.map cL)),some (.ow (Ah (bX ks x) (eV (λy=>D.int (f y:Int)) x (.int (i:Int))))),fz (.int (i:Int)),x3,none])=_;rw[ef];rfl
def Oq(q:Nat×List Cell):D:= .tup [.int (q.1:Int),cL q.2]
def Eu{R W:Nat}(hm:R*W<=64){Ps:List (List Cell)}(nG:∀P∈Ps,∀y∈P,On R W y):∀(qs:List (Nat×List Cell)) (ks:List Cell) (f:Cell->Nat),(∀q∈qs,Ps[q.1]? =some q.2)->NumOk R W Ps ks f->
 ∃ks' f',NumOk R W Ps ks' f'/\(∀y∈ks,y∈ks')/\(∀q∈qs,∀y∈q.2,y∈ks')/\forL (p6 [2,3]) (bN [2,3,4] (cJ (putN 4) (cg (dV 3)) R1)) (qs.map Oq) (Jp Ps ks f none none none)=aa (.nx (Jp Ps ks' f' none none none))
 |[],ks,f,_,h=>⟨ks,f,h,λy hy=>hy,(λq hq=>(by cases hq)),rfl⟩
 |q::qs,ks,f,hq,h=>by
  have hP:=hq q (Ve ..);obtain⟨Qo,f1,a1,a2,a3,a4⟩:=Jq hm hP (x3:=fz (cL q.2)) (nG q.2 (VY hP)) q.2 ks f (λy hy=>hy) h;obtain⟨Qp,f2,b1,b2,b3,b4⟩:=Eu hm nG qs Qo f1 (λq' M4=>hq q' (Vc _ M4)) a1;refine⟨Qp,f2,b1,λy hy=>b2 y (a2 y hy),λq' M4 y hy=>?_,?_⟩
  ·rcases Vo.mp M4 with rfl | M4
   ·exact b2 y (a3 y hy)
   ·exact b3 q' M4 y hy
  ·exact(dG (ρ1:=Jp Ps ks f (fz (.int (q.1:Int))) (fz (cL q.2)) none) rfl ((aU (dI (ds:=q.2.map cD) (Um rfl) a4)).trans rfl)).trans b4
def BZ(Ps:List (List Cell)):(Ps.map cL).mapIdx (λi d=>D.tup [.int (i:Int),d])=(Ps.zipIdx.map λq:List Cell×Nat=>(q.2,q.1)).map Oq:=by
 apply acG;intro i;simp only[abV,Vz,List.getElem?_zipIdx,Option.map_map,Ye];cases Ps[i]? <;>simp[Oq]
def pF{R W:Nat}(hm:R*W<=64){Ps:List (List Cell)}(nG:∀P∈Ps,∀y∈P,On R W y):∃ks f,NumOk R W Ps ks f/\(∀P∈Ps,∀y∈P,y∈ks)/\fb [.lst (Ps.map cL)]=aa (jv ks λy=> .int (f y:Int)):=by
 have hq:∀q∈Ps.zipIdx.map (λq:List Cell×Nat=>(q.2,q.1)),Ps[q.1]? =some q.2:=λq hq=>by
  obtain⟨⟨P,i⟩,h1,rfl⟩:=Vp.mp hq;exact aaE.mp h1
 obtain⟨ks,f,a1,a2,a3,a4⟩:=Eu hm nG (Ps.zipIdx.map λq:List Cell×Nat=>(q.2,q.1)) [] (λ_=>0) hq ⟨YB,(λy hy=>(by cases hy)),(λy hy=>(by cases hy))⟩;refine⟨ks,f,a1,λP hP y hy=>?_,?_⟩
 ·obtain⟨i,hi,rfl⟩:=ab7 hP;refine a3 (i,Ps[i]) (Vp.mpr ⟨(Ps[i],i),aaE.mpr (by rw[Vg hi]),rfl⟩) y hy
 ·refine bo (aq (ρ':=Jp Ps [] (λ_=>0) none none none) rfl (aq (ρ':=Jp Ps ks f none none none) (c_ (dI (ds:=(Ps.zipIdx.map λq:List Cell×Nat=>(q.2,q.1)).map Oq) ?_ a4)) rfl));show aa ((Ps.map cL).mapIdx λi d=>D.tup [.int (i:Int),d])=_;rw[BZ]
def oG{α β:Type}(g:α->β):∀l:List α,(l.flatMap λr=>[g r])=l.map g
 |[]=>rfl
 |a::l=>by rw[W5,oG g l];rfl
section
open Classical
variable{bd:List Str}{W w:Nat}
noncomputable def eW(bd:List Str)(W w:Nat):List (List Cell):=(bx bd W w (ak bd.length W)).map (bE bd W w)
def zu:pV bd W w= .lst ((eW bd W w).map cL):=by
 unfold pV eW;rw[VX];rfl
def wY{m:Cell}(h:m∈bx bd W w (ak bd.length W)):On bd.length W m:=by
 unfold bx at h;exact aE.mp (Ws.mp h).1
def Cc(hw:Ways w):∀P∈eW bd W w,∀y∈P,On bd.length W y:=λP hP y hy=>by
 unfold eW at hP;obtain⟨m,hm,rfl⟩:=Vp.mp hP;exact(((fq hw (wY hm)).mem y).mp hy).on hw (wY hm)
def zt(hg:Brd bd W)(hw:Ways w){x:Cell}(hx:On bd.length W x):∃P∈eW bd W w,x∈P:=by
 obtain⟨L,hL⟩:=su (bd:=bd) (W:=W) hw;have hm:=hL x hx;have RG:=hm.on hw hx;refine⟨bE bd W w (L x),Vp.mpr ⟨L x,?_,rfl⟩,((fq hw RG).mem x).mpr (hm.1.symm hw hx)⟩;unfold bx;rw[Ws,acM];exact⟨aE.mpr RG,hm.self hw hx⟩
def za:(eW bd W w).length<=bd.length*W:=by
 unfold eW bx;rw[Vb,<-bg bd.length W];exact XN ..
def uw(hg:Brd bd W)(hs:bd.length*W<64)(hw:Ways w):∃f:Cell->Nat,(∀x,On bd.length W x->∃P,(eW bd W w)[f x]? =some P/\x∈P)/\
 cS [brd bd, .int (w:Int)]=aa (.lst ((Vw bd.length).map λr=> .lst ((aK W r).map λy=> .int (f y:Int)))):=by
 obtain⟨ks,f,a1,a2,a3⟩:=pF (R:=bd.length) (W:=W) (by omega) (Cc (bd:=bd) hw);have J4:∀x,On bd.length W x->x∈ks:=λx hx=>by
  obtain⟨P,hP,h⟩:=zt hg hw hx;exact a2 P hP x h
 refine⟨f,λx hx=>a1.num x (J4 x hx),?_⟩;have h8:=hg.r8;have w8:=hg.w8;have e:=cT (put:=putN 4) (body:=bN [4] (g7 3 (ba 0 (cg (ay 2 aV (aC (dV 0) (aC (dV 4) aN)))) bu (d2 dz (dV 3) (dV 0))))) (λ(k:Nat)=>D.int (k:Int)) (λu8=>[fz (brd bd),fz (.int (w:Int)),fz (jv ks λy=> .int (f y:Int)),some (.ow (.lst u8)),none]) (λr=>[D.lst ((aK W r).map λy=> .int (f y:Int))]) (B:=64) (Vw bd.length) []
  (by
   rw[VL];have:=kK (n:=1) (λr=>[D.lst ((aK W r).map λy=> .int (f y:Int))]) (λr=>by simp) (Vw bd.length);rw[We] at this;omega) λr hr u8 hB=>by
   refine⟨[fz (brd bd),fz (.int (w:Int)),fz (jv ks λy=> .int (f y:Int)),some (.ow (.lst u8)),fz (.int (r:Int))],rfl,?_⟩;have hc:ba 0 (cg (ay 2 aV (aC (dV 0) (aC (dV 4) aN)))) bu (d2 dz (dV 3) (dV 0)) [fz (brd bd),fz (.int (w:Int)),fz (jv ks λy=> .int (f y:Int)),some (.ow (.lst u8)),fz (.int (r:Int))]=aa (.lst ((aK W r).map λy=> .int (f y:Int))):=by
    refine bB (ds:=(aK W r).map cD) (BK ((az (ds:=[brd bd, .int (r:Int)]) rfl rfl).trans (gu hg r))) (b7 cD (λy=> .int (f y:Int)) _ λy hy=>?_) (by simp[aK,cI];omega);have Nd:On bd.length W y:=by
     obtain⟨k,hk,rfl⟩:=Vp.mp hy;exact⟨V5.mp hr,V5.mp hk⟩
    rw[fw];have:d2 dz (dV 3) (dV 0) [fz (cD y),fz (brd bd),fz (.int (w:Int)),fz (jv ks λy=> .int (f y:Int)),some (.ow (.lst u8)),fz (.int (r:Int))]=aa (.int (f y:Int)):=(aT (x:=jv ks λy=> .int (f y:Int)) (y:=cD y) rfl rfl).trans (o5 (f:=λy=> .int (f y:Int)) (J4 y Nd));rw[this];rfl
   refine(aU (ρ':=[fz (brd bd),fz (.int (w:Int)),fz (jv ks λy=> .int (f y:Int)),some (.ow (.lst (u8++[.lst ((aK W r).map λy=> .int (f y:Int))]))),fz (.int (r:Int))]) ?_).trans rfl;show (ba 0 (cg (ay 2 aV (aC (dV 0) (aC (dV 4) aN)))) bu (d2 dz (dV 3) (dV 0)) [fz (brd bd),fz (.int (w:Int)),fz (jv ks λy=> .int (f y:Int)),some (.ow (.lst u8)),fz (.int (r:Int))]>>=λd=>if u8.length<lim then aa (Out.nx [fz (brd bd),fz (.int (w:Int)),fz (jv ks λy=> .int (f y:Int)),some (.ow (.lst (u8++[d]))),fz (.int (r:Int))]) else ag)=_;rw[hc,au,acI (by rw[Vm] at hB;rw[cI];simp at hB;omega)]
 rw[VL,show ((Vw bd.length).flatMap λr=>[D.lst ((aK W r).map λy=> .int (f y:Int))])=(Vw bd.length).map (λr=>D.lst ((aK W r).map λy=> .int (f y:Int))) from oG _ _] at e;refine bo (aq (ly ((az (ds:=[brd bd]) rfl rfl).trans hg.nb)) (aq (ly ((az (ds:=[.int (w:Int)]) rfl rfl).trans hw.nw)) (aq (ρ':=[fz (brd bd),fz (.int (w:Int)),fz (jv ks λy=> .int (f y:Int)),none,none]) ((aS (d:=jv ks λy=> .int (f y:Int)) ((az (ds:=[.lst ((eW bd W w).map cL)]) (bf ((az (ds:=[brd bd, .int (w:Int)]) rfl rfl).trans ((ny hg hs hw).trans (by rw[zu]))) rfl) rfl).trans a3)).trans rfl) (aq (ρ':=[fz (brd bd),fz (.int (w:Int)),fz (jv ks λy=> .int (f y:Int)),some (.ow (.lst [])),none]) rfl (aq (c_ (dI (xO (n:=bd.length) (BP rfl) (by omega)) e)) rfl)))))
end
end K1
namespace K1
open PySem L2 L3
open PyProof.Rows hiding St
def Ql{δ:DE}{ρ:aQ}{ds:List D}(h:δ ρ=aa (.lst ds)):cg δ ρ=aa ds:=by
 unfold cg;rw[h];rfl
def Cq{put:D->aQ->Option aQ}{δi:DA}{τ:DS}{ρ:aQ}{ds:List D}{o:Out}(h:δi ρ=aa ds)(h2:forL put τ ds ρ=aa o):s9 put δi τ ρ=aa o:=by
 unfold s9;rw[h,au,h2];rfl
def tw(n:Nat):Str:=e9 [48+n / 10,48+n % 10]
def F7(n:Nat):(tw n).length=2:=gS _
def Mo:∀n:Fin 64,(V0 (Xn ((n.val:Nat):Int))).length<=4096/\Z7 (V0 (Xn ((n.val:Nat):Int))) 2=e9 [48+n.val / 10,48+n.val % 10]:=by decide+kernel
def Mn:∀d:Fin 10,V0 (Xn ((d.val:Nat):Int))=e9 [48+d.val]:=by decide+kernel
def ql{n:Nat}(h:n<64):lD [.int (n:Int)]=aa (.str (V0 (Xn (n:Int)))):=acI ⟨by omega,by omega,(Mo ⟨n,h⟩).1⟩
def IA{n:Nat}(h:n<64):bT [.int (n:Int)]=aa (.str (tw n)):=by
 refine bo (bj ?_);have e1:dA lD (aC (dV 0) aN) [fz (.int (n:Int))]=aa (.str (V0 (Xn (n:Int)))):=(dP (xs:=[.int (n:Int)]) rfl).trans (ql h);show (dA lD (aC (dV 0) aN) [fz (.int (n:Int))]>>=λd=>if kh d then(aa [D.int 2]>>=λds=>zfillM d ds) else ag)=_;rw[e1,au,acI (show kh (.str (V0 (Xn (n:Int))))=true from rfl),au];show (if PadOk 2=true/\(Z7 (V0 (Xn (n:Int))) 2).length<=lim then aa (D.str (Z7 (V0 (Xn (n:Int))) 2)) else ag)=_;rw[(Mo ⟨n,h⟩).2];exact acI ⟨by decide,by rw[gS];exact(by decide:2<=4096)⟩
def Hc{n:Nat}(h:n<64){δ:DE}{ρ:aQ}(hd:δ ρ=aa (.int (n:Int))):d2 eZ (dA lD (aC (d2 kC δ (dC (.int 10))) aN)) (dA lD (aC (d2 iw δ (dC (.int 10))) aN)) ρ=aa (.str (tw n)):=by
 have e1:dA lD (aC (d2 kC δ (dC (.int 10))) aN) ρ=aa (.str (e9 [48+n / 10])):=by
  refine(dP (xs:=[.int ((n / 10:Nat):Int)]) (bf ((aT hd (y:= .int 10) rfl).trans (iF (by decide) (by decide))) rfl)).trans ?_;rw[ql (by omega),Mn ⟨n / 10,by omega⟩]
 have e2:dA lD (aC (d2 iw δ (dC (.int 10))) aN) ρ=aa (.str (e9 [48+n % 10])):=by
  refine(dP (xs:=[.int ((n % 10:Nat):Int)]) (bf ((aT hd (y:= .int 10) rfl).trans (fF (by decide))) rfl)).trans ?_;rw[ql (by omega),Mn ⟨n % 10,by omega⟩]
 refine(aT e1 e2).trans ?_;show (if (e9 [48+n / 10]).length+(e9 [48+n % 10]).length<=lim then aa (D.str (e9 [48+n / 10]++e9 [48+n % 10])) else ag)=_;rw[acI (by rw[gS,gS];exact(by decide:2<=4096))];rfl
def fL(W:Nat)(f:Cell->Nat)(r:Nat):Str:=Z8 (" ":Str) ((aK W r).map λy=>tw (f y))
def BL{xs:List Str}(h:(xs.map (·.length)).sum+xs.length<=4096):fK (.str " ") [.lst (xs.map D.str)]=aa (.str (Z8 (" ":Str) xs)):=by
 show (match lF (xs.map D.str) with | some (xs:List Str)=>if (xs.map λx:Str=>x.length).sum+xs.length*(" ":Str).length<=lim then aa (D.str (Z8 " " xs)) else ag | none=>ag)=_;rw[ml];exact acI (by rw[show (" ":Str).length=1 from rfl,acr];exact h)
def xQ{W:Nat}(hW:W<=5){f:Cell->Nat}{r:Nat}{δ:DE}{ρ:aQ}(hd:δ ρ=aa (.lst ((aK W r).map λy=> .str (tw (f y))))):dM kh fK (dC (.str " ")) (aC δ aN) ρ=aa (.str (fL W f r)):=by
 show (if kh (.str " ") then((aC δ aN) ρ>>=λds=>fK (.str " ") ds) else ag)=_;rw[acI (show kh (.str " ")=true from rfl),bf hd (xs:=[]) rfl,au];have e:((aK W r).map λy=>D.str (tw (f y)))=((aK W r).map λy=>tw (f y)).map D.str:=by rw[VX];rfl
 rw[e];refine BL ?_;have:=nW (n:=2) ((aK W r).map λy=>tw (f y)) λx hx=>by
  obtain⟨y,_,rfl⟩:=Vp.mp hx;exact aar (F7 _)
 rw[Vb,aK,Vb,We] at*;omega
def qa{W:Nat}(hW:W<=5){f:Cell->Nat}{r:Nat}:(fL W f r).length<=15:=by
 have h1:=wL (" ":Str) ((aK W r).map λy=>tw (f y));have:=nW (n:=2) ((aK W r).map λy=>tw (f y)) λx hx=>by
  obtain⟨y,_,rfl⟩:=Vp.mp hx;exact aar (F7 _)
 rw[show (" ":Str).length=1 from rfl,acr] at h1;rw[Vb,aK,Vb,We] at*;unfold fL aK;omega
def lX{bd:List Str}{W w:Nat}(hG:Good bd W){f:Cell->Nat}(hf:∀x,On bd.length W x->f x<64)(hn:cS [brd bd, .int (w:Int)]=aa (.lst ((Vw bd.length).map λr=> .lst ((aK W r).map λy=> .int (f y:Int))))):
 bb [brd bd, .int (w:Int)]=aa (.str (cw ((Vw bd.length).map λr=>fL W f r++("\n":Str)))):=by
 have r5:=hG.r5;have w5:=hG.w5;have e:=cT (put:=putN 3) (body:=bN [3] (g7 2 (dM kh fK (dC (.str " ")) (aC (ba 0 (cg (dV 3)) bu (ay 1 bT (aC (dV 0) aN))) aN)))) (λ(r:Nat)=>D.lst ((aK W r).map λy=> .int (f y:Int))) (λu8=>[fz (brd bd),fz (.int (w:Int)),some (.ow (.lst u8)),none]) (λr=>[D.str (fL W f r)]) (B:=64) (Vw bd.length) []
  (by
   rw[VL];have:=kK (n:=1) (λr=>[D.str (fL W f r)]) (λr=>by simp) (Vw bd.length);rw[We] at this;omega) λr hr u8 hB=>by
   refine⟨[fz (brd bd),fz (.int (w:Int)),some (.ow (.lst u8)),fz (D.lst ((aK W r).map λy=> .int (f y:Int)))],rfl,?_⟩;have hc:dM kh fK (dC (.str " ")) (aC (ba 0 (cg (dV 3)) bu (ay 1 bT (aC (dV 0) aN))) aN) [fz (brd bd),fz (.int (w:Int)),some (.ow (.lst u8)),fz (D.lst ((aK W r).map λy=> .int (f y:Int)))]=aa (.str (fL W f r)):=by
    refine xQ w5 (bB (ds:=(aK W r).map λy=> .int (f y:Int)) rfl (b7 (λy:Cell=>D.int (f y:Int)) (λy=> .str (tw (f y))) _ λy hy=>?_) (by simp[aK,cI];omega));have Nd:On bd.length W y:=by
     obtain⟨k,hk,rfl⟩:=Vp.mp hy;exact⟨V5.mp hr,V5.mp hk⟩
    rw[fw,show ay 1 bT (aC (dV 0) aN) _=aa (.str (tw (f y))) from(az (ds:=[.int (f y:Int)]) rfl rfl).trans (IA (hf y Nd))];rfl
   refine(aU (ρ':=[fz (brd bd),fz (.int (w:Int)),some (.ow (.lst (u8++[.str (fL W f r)]))),fz (D.lst ((aK W r).map λy=> .int (f y:Int)))]) ?_).trans rfl;show (dM kh fK (dC (.str " ")) (aC (ba 0 (cg (dV 3)) bu (ay 1 bT (aC (dV 0) aN))) aN) [fz (brd bd),fz (.int (w:Int)),some (.ow (.lst u8)),fz (D.lst ((aK W r).map λy=> .int (f y:Int)))]>>=λd=>if u8.length<lim then aa (Out.nx [fz (brd bd),fz (.int (w:Int)),some (.ow (.lst (u8++[d]))),fz (D.lst ((aK W r).map λy=> .int (f y:Int)))]) else ag)=_;rw[hc,au,acI (by rw[Vm] at hB;rw[cI];simp at hB;omega)]
 rw[VL,show ((Vw bd.length).flatMap λr=>[D.str (fL W f r)])=((Vw bd.length).map (fL W f)).map D.str from(oG _ _).trans (by rw[VX];rfl)] at e;refine bo (aq (ρ':=[fz (brd bd),fz (.int (w:Int)),some (.ow (.lst [])),none]) rfl (aq (Cq (Ql ((az (ds:=[brd bd, .int (w:Int)]) rfl rfl).trans hn)) e) (show bR (ay 1 du (aC (dV 2) aN)) [fz (brd bd),fz (.int (w:Int)),fz (.lst (((Vw bd.length).map (fL W f)).map D.str)),none]=_ from ?_)));refine bj ((az (ds:=[.lst (((Vw bd.length).map (fL W f)).map D.str)]) rfl rfl).trans ((km (xs:=(Vw bd.length).map (fL W f)) rfl (λx hx=>?_) (by rw[Vb,We];omega)).trans ?_))
 ·obtain⟨r,_,rfl⟩:=Vp.mp hx;have:=qa w5 (f:=f) (r:=r);omega
 ·rw[VX];rfl
end K1
namespace K1
open PySem L2 L3
def v7(L:List Cell):∀(l:List (List Int)),(∀k∈l,k∈L.map ic)->∃U:List Cell,l=U.map ic/\∀c∈U,c∈L
 |[],_=>⟨[],rfl,λc hc=>by cases hc⟩
 |k::l,h=>by
  obtain⟨c,hc,e⟩:=Vp.mp (h k (Ve ..));obtain⟨U,h1,h2⟩:=v7 L l λk hk=>h k (Vc _ hk);exact⟨c::U,by rw[h1,<-e];rfl,λd hd=>by
   rcases Vo.mp hd with rfl | hd
   ·exact hc
   ·exact h2 d hd⟩
def uv{α β:Type}{f:α->β}{l:List α}(h:(l.map f).Nodup):l.Nodup:=by
 rw[WI,Yw] at h;exact h.imp λ{x y} q z=>q (acP f z)
def x_{R W:Nat}(hR:R<=8)(hW:W<=8)(hs:R*W<64){l:List Cell}(nG:∀x∈l,On R W x):∃S:List Cell,fP (cL l)=aa (cL S)/\RiseC S/\∀x,x∈S↔x∈l:=by
 obtain⟨U,h1,h2⟩:=v7 l (qA (l.map ic)) λk hk=>nS.mp hk;have hn:U.Nodup:=uv (f:=ic) (h1▸JI (l.map ic));have hm:∀x,x∈U↔x∈l:=λx=>by
  refine⟨h2 x,λhx=>?_⟩;have:ic x∈U.map ic:=by rw[<-h1];exact nS.mpr (Vp.mpr ⟨x,hx,rfl⟩)
  obtain⟨y,hy,e⟩:=Vp.mp this;rw[<-oR e];exact hy
 have hl:U.length<64:=by
  have:U.length<=(ak R W).length:=iQ hn λx hx=>aE.mpr (nG x (h2 x hx));rw[bg] at this;omega
 refine⟨m9 U,?_,qh hn,λx=>sD.trans (hm x)⟩;show (match gQ (l.map cD) with | some ks=>if eJ (qA ks)=true/\((qA ks).map eT).Nodup then aa (D.lst ((sortI (qA ks)).map tupI)) else ag | none=>ag)=_;rw[wJ]
 dsimp only
 rw[h1];refine(acI ⟨Jr hn hl,by rw[VX];exact Ap hR hW hn λx hx=>nG x (h2 x hx)⟩).trans ?_;rw[lC,VX];rfl
def va{δ:DE}{ρ:aQ}{n:Nat}(h:δ ρ=br n):u_ δ ρ=br n:=by
 unfold u_;rw[h];rfl
def nU{a b:DS}{ρ:aQ}{n:Nat}(h:a ρ=br n):aF a b ρ=br n:=by
 unfold aF;rw[h];rfl
def rb(n:Nat):D:= .tup [.str "refused", .int (n:Int)]
def Ob(m:M D):M D:=match m with
 |some (.ex n)=>noex (IZ n)
 |r=>r
def Jw{b w:D}:aG [.int 0,b,w]=Ob (bZ [b]):=by
 show ((match (bZ [b]>>=λd=>aa (Out.rt d)) with | some (.ex n)=>noex (IZ n)>>=λd=>aa (Out.rt d) | r=>r)>>=λo=>match o with | .nx _=>aa D.non | .rt d=>aa d)=_
 match bZ [b] with
 |none=>rfl
 |some (.ok a)=>rfl
 |some (.ex n)=>rfl
def F0{b w:D}:aG [.int 1,b,w]=Ob (bb [b,w]):=by
 show ((match (bb [b,w]>>=λd=>aa (Out.rt d)) with | some (.ex n)=>noex (IZ n)>>=λd=>aa (Out.rt d) | r=>r)>>=λo=>match o with | .nx _=>aa D.non | .rt d=>aa d)=_
 match bb [b,w] with
 |none=>rfl
 |some (.ok a)=>rfl
 |some (.ex n)=>rfl
def qO{d:D}(h:Plain2 d)(hb:jR d=false):cz [d]=br 0:=by
 refine lx (gJ (yO (b:=false) (iD ((az (ds:=[d]) rfl rfl).trans ((gR h).trans (by rw[hb]))))) rfl)
def B5:List D:=[.int 5, .non, .bl true, .str "4"]
def uu{d:D}(h:d∈B5):eR [d]=br 1:=by
 unfold B5 at h;simp only[Vo,Wh,or_false] at h;rcases h with rfl | rfl | rfl | rfl<;>rfl
def A3{b w:D}{n:Nat}(h:cS [b,w]=br n):bb [b,w]=br n:=by
 refine lx (aq (ρ':=[fz b,fz w,some (.ow (.lst [])),none]) rfl (nU ?_));have e:cg (ay 2 cS (aC (dV 0) (aC (dV 1) aN))) [fz b,fz w,some (.ow (.lst [])),none]=br n:=by
  unfold cg;rw[show ay 2 cS _ _=br n from(az (ds:=[b,w]) rfl rfl).trans h];rfl
 unfold s9;rw[e];rfl
def yA(bd:List Str):List D:=[.non, .tup [], .lst (bd.map D.str), .tup (bd.map D.str++[.str ""]), .tup [.str "g"]]
def Ab{bd:List Str}{b:D}(h:b∈yA bd):Plain2 b/\jR b=false:=by
 unfold yA at h;simp only[Vo,Wh,or_false] at h;rcases h with rfl | rfl | rfl | rfl | rfl
 ·exact⟨WN,rfl⟩
 ·exact⟨(λd hd=>by cases hd),rfl⟩
 ·exact⟨WN,rfl⟩
 ·refine⟨λd hd=>?_,?_⟩
  ·rcases V3.mp hd with q | q
   ·obtain⟨r,_,rfl⟩:=Vp.mp q;exact WN
   ·rw[VS.mp q];exact WN
  ·show (_&&((bd.map D.str++[D.str ""]).all j_&&_))=false;rw[show (bd.map D.str++[D.str ""]).all j_=false by rw[List.all_append,show [D.str ""].all j_=false by decide+kernel,YY],Bool.false_and,YY]
 ·refine⟨λd hd=>?_,by decide+kernel⟩;have:d= .str "g":=by simpa using hd
  rw[this];exact WN
def CV{bd:List Str}{b w:D}(h:b∈yA bd)(k:Nat)(hk:k<2):aG [.int (k:Int),b,w]=aa (rb 0):=by
 have n1:=qO (Ab h).1 (Ab h).2;have p0:bZ [b]=br 0:=lx (nU (va ((az (ds:=[b]) rfl rfl).trans n1)));have p1:bb [b,w]=br 0:=A3 (lx (nU (va ((az (ds:=[b]) rfl rfl).trans n1))))
 match k,hk with
 |0,_=>exact Jw.trans (by rw[p0];rfl)
 |1,_=>exact F0.trans (by rw[p1];rfl)
def ED{bd:List Str}{W:Nat}(hg:Brd bd W){d:D}(h:d∈B5):aG [.int 1,brd bd,d]=aa (rb 1):=by
 have p1:bb [brd bd,d]=br 1:=A3 (lx (aq (ly ((az (ds:=[brd bd]) rfl rfl).trans hg.nb)) (nU (va ((az (ds:=[d]) rfl rfl).trans (uu h))))));exact F0.trans (by rw[p1];rfl)
section
open Classical
variable{bd:List Str}{W w:Nat}
def Br(hw:Ways w){L:Cell->Cell}(hL:∀x,On bd.length W x->Least bd W w x (L x)){S:List Cell}(hS:RiseC S)(hm:∀x,x∈S↔x∈(ak bd.length W).map L):S=bx bd W w (ak bd.length W):=by
 refine sY hS (by unfold bx;exact(eP _ _).filter _) λx=>(hm x).trans ?_;unfold bx;rw[Ws,acM,aE];constructor
 ·intro h;obtain⟨y,hy,rfl⟩:=Vp.mp h;have hy:=aE.mp hy;exact⟨(hL y hy).on hw hy,(hL y hy).self hw hy⟩
 ·intro ⟨h1,h2⟩;exact Vp.mpr ⟨x,aE.mpr h1,(hL x h1).one hw h1 h2⟩
def find_key{l:List Cell}(hn:l.Nodup){i:Nat}{m:Cell}(h:l[i]? =some m):(l.map keyOf).findIdx (λk'=>decide (k'=keyOf m))=i:=by
 obtain⟨hi,e⟩:=Vt.mp h;refine(List.findIdx_eq (by rw[Vb];exact hi)).mpr ⟨?_,λj hj=>?_⟩
 ·rw[Xj,e];exact acL rfl
 ·rw[Xj];refine acN λz=>?_;have z:=eC z;rw[<-e] at z;have:=(List.getElem_inj hn).mp z;omega
def G4(hw:Ways w){L:Cell->Cell}(hL:∀x,On bd.length W x->Least bd W w x (L x)){x:Cell}(hx:On bd.length W x){i:Nat}{P:List Cell}(h1:(eW bd W w)[i]? =some P)(h2:x∈P):
 oT (cL (bx bd W w (ak bd.length W))) [cD (L x)]=aa (.int (i:Int)):=by
 unfold eW at h1;rw[Vz] at h1;obtain⟨m,e1,e2⟩:=Yq.mp h1;have hm:On bd.length W m/\Least bd W w m m:=by
  have:=VY e1;unfold bx at this;rw[Ws,acM,aE] at this;exact this
 rw[<-e2] at h2;have hc:=((fq hw hm.1).mem x).mp h2;have e3:L x=m:=(hL x hx).one hw hx (hm.2.move hw hm.1 hc);rw[e3];show (match eD (cD m),jD ((bx bd W w (ak bd.length W)).map cD) with | some k,some ks=>if ze k ks=true then aa (D.int ((ks.findIdx λk'=>decide (k'=k):Nat):Int)) else ag | _,_=>ag)=_;rw[sq,jm];show (if ze (keyOf m) _=true then aa (D.int (((List.map keyOf _).findIdx λk'=>decide (k'=keyOf m):Nat):Int)) else ag)=_;rw[wW,find_key (by unfold bx;exact(RiseC.nodup (eP _ _)).filter _) e1];exact acI (acL (VY e1))
def lP(a b c:Str):(a++b)++c=a++(b++c):=il (by simp only[cu,W6])
def GA(a:Str):a++cw []=a:=il (by rw[cu];show _++[]=_;rw[V7])
def oJ{α:Type}{put:D->aQ->Option aQ}{body:DS}(enc:α->D)(mk:Str->aQ)(g:α->Str):∀(xs:List α) (u8:Str),u8.length+32*xs.length<=4096->(∀x∈xs,(g x).length<=32/\∀u8:Str,u8.length+32<=4096->∃ρ1,put (enc x) (mk u8)=some ρ1/\body ρ1=aa (.nx (mk (u8++g x))))->
 forL put body (xs.map enc) (mk u8)=aa (.nx (mk (u8++cw (xs.map g))))
 |[],u8,_,_=>by rw[W3,W3,GA];rfl
 |x::xs,u8,hB,st=>by
  obtain⟨hg,Uy⟩:=st x (Ve ..);rw[Vk] at hB;obtain⟨ρ1,e1,e2⟩:=Uy u8 (by omega);have e3:=oJ enc mk g xs (u8++g x) (by rw[aX];omega) λy hy=>st y (Vc _ hy);rw[Vi,dG e1 e2,e3,lP];rfl
def Gr{δ ε:DE}{ρ:aQ}{x y:Str}(h1:δ ρ=aa (.str x))(h2:ε ρ=aa (.str y))(hl:x.length+y.length<=4096):d2 eZ δ ε ρ=aa (.str (x++y)):=(aT h1 h2).trans (acI hl)
def BW(bd:List Str):("":Str)++cw (bd.map (· ++("\n":Str)))=e9 (bH bd):=by
 refine il ?_;rw[cu,iC,fQ,VX];unfold bH;rw[show ("":Str).cps.toList=[] from rfl,VL];congr 1;refine W_ λr _=>?_;show (r++("\n":Str)).cps.toList=_;rw[cu];rfl
def el(s:D)(bd:List Str)(c2 c3 c4 c5 c6 c7 c8:Option Sl):aQ:=[fz s,fz (brd bd),c2,c3,c4,c5,c6,c7,c8,none]
def Fw:DS:=(bN [3,8] (aF (bh 8 (ba 0 (λρ=>(aC (dA bL (aC (d2 a9 (dV 1) (dC (.int 0))) aN)) aN) ρ>>=dH) bu (dM gz oT (dV 7) (aC (d2 dz (dV 6) (dA aR (aC (dV 4) (aC (dV 0) aN)))) aN)))) (bh 7 (d2 eZ (d2 eZ (dV 7) (dM kh fK (dC (.str " ")) (aC (ba 0 (cg (dV 8)) bu (d2 eZ (dA lD (aC (d2 kC (dV 0) (dC (.int 10))) aN)) (dA lD (aC (d2 iw (dV 0) (dC (.int 10))) aN)))) aN))) (dC (.str "\n"))))))
def CZ:DS:=(bN [3,4,5,6,7,8] (aF (bh 5 (ay 2 cZ (aC (dV 1) (aC (dV 4) aN)))) (aF (bh 6 (d1 fP (ba 0 (cg (ay 1 bw (aC (dV 1) aN))) bu (d2 dz (dV 6) (dV 0))))) (aF (bh 7 (dC (.str ""))) (aF (Ij [3] (cJ (putN 3) (λρ=>(aC (dA bL (aC (dV 1) aN)) aN) ρ>>=dH) Fw)) (ix (dN (d2 rQ (ay 3 aG (aC (dC (.int 1)) (aC (dV 1) (aC (dV 4) aN)))) (dV 7))) (bR (dC (.bl false))) dj))))))
def Cm(hG:Good bd W)(hw:Ways w){L:Cell->Cell}(hL:∀x,On bd.length W x->Least bd W w x (L x)){f:Cell->Nat}(hf:∀x,On bd.length W x->∃P,(eW bd W w)[f x]? =some P/\x∈P)(Gg:∀x,On bd.length W x->f x<64)(s t:D){r:Nat}(hr:r<bd.length){u8:Str}(ha:u8.length+32<=4096):
 Fw (el s bd (fz t) (fz (.int (r:Int))) (fz (.int (w:Int))) (fz (jv (ak bd.length W) λx=>cD (L x))) (fz (cL (bx bd W w (ak bd.length W)))) (fz (.str u8)) none)=aa (.nx (el s bd (fz t) none (fz (.int (w:Int))) (fz (jv (ak bd.length W) λx=>cD (L x))) (fz (cL (bx bd W w (ak bd.length W)))) (fz (.str (u8++(fL W f r++("\n":Str))))) none)):=by
 have hg:=hG.brd;have w5:=hG.w5;have G2:=qa w5 (f:=f) (r:=r);refine(aU (ρ':=el s bd (fz t) (fz (.int (r:Int))) (fz (.int (w:Int))) (fz (jv (ak bd.length W) λx=>cD (L x))) (fz (cL (bx bd W w (ak bd.length W)))) (fz (.str (u8++(fL W f r++("\n":Str))))) (fz (.lst ((aK W r).map λy=> .int (f y:Int))))) ?_).trans rfl;refine aq (ρ':=el s bd (fz t) (fz (.int (r:Int))) (fz (.int (w:Int))) (fz (jv (ak bd.length W) λx=>cD (L x))) (fz (cL (bx bd W w (ak bd.length W)))) (fz (.str u8)) (fz (.lst ((aK W r).map λy=> .int (f y:Int))))) ((aS (d:= .lst ((aK W r).map λy=> .int (f y:Int))) ?_).trans rfl) ?_
 ·have e:((aK W r).map λy=>D.int (f y:Int))=(Vw W).map λk=>D.int (f (r,k):Int):=by rw[aK,VX];rfl
  rw[e];refine bB (xO (n:=W) (hg.len0 rfl) (by omega)) (b7 (λ(k:Nat)=>D.int (k:Int)) (λk=> .int (f (r,k):Int)) _ λk hk=>?_) (by simp[cI];omega);have hx:On bd.length W (r,k):=⟨hr,V5.mp hk⟩
  obtain⟨P,h1,h2⟩:=hf _ hx;rw[fw];have e1:d2 dz (dV 6) (dA aR (aC (dV 4) (aC (dV 0) aN))) (fz (.int (k:Int))::el s bd (fz t) (fz (.int (r:Int))) (fz (.int (w:Int))) (fz (jv (ak bd.length W) λx=>cD (L x))) (fz (cL (bx bd W w (ak bd.length W)))) (fz (.str u8)) none)=aa (cD (L (r,k))):=(aT (x:=jv (ak bd.length W) λx=>cD (L x)) (y:=cD (r,k)) rfl rfl).trans (o5 (f:=λx=>cD (L x)) (aE.mpr hx));have e2:dM gz oT (dV 7) (aC (d2 dz (dV 6) (dA aR (aC (dV 4) (aC (dV 0) aN)))) aN) (fz (.int (k:Int))::el s bd (fz t) (fz (.int (r:Int))) (fz (.int (w:Int))) (fz (jv (ak bd.length W) λx=>cD (L x))) (fz (cL (bx bd W w (ak bd.length W)))) (fz (.str u8)) none)=aa (.int (f (r,k):Int)):=by
   show (if gz (cL (bx bd W w (ak bd.length W))) then((aC (d2 dz (dV 6) (dA aR (aC (dV 4) (aC (dV 0) aN)))) aN) _>>=λds=>oT (cL (bx bd W w (ak bd.length W))) ds) else ag)=_;rw[acI (show gz (cL (bx bd W w (ak bd.length W)))=true from rfl),bf e1 (xs:=[]) rfl,au];exact G4 hw hL hx h1 h2
  rw[e2];rfl
 ·refine(aS (d:= .str (u8++(fL W f r++("\n":Str)))) ?_).trans rfl;rw[<-lP];refine Gr (Gr rfl (xQ w5 (bB (ds:=(aK W r).map λy=> .int (f y:Int)) rfl (b7 (λy:Cell=>D.int (f y:Int)) (λy=> .str (tw (f y))) _ λy hy=>?_) (by simp[aK,cI];omega))) (by omega)) rfl (by rw[aX];show _+1<=_;omega);have Nd:On bd.length W y:=by
   obtain⟨k,hk,rfl⟩:=Vp.mp hy;exact⟨hr,V5.mp hk⟩
  rw[fw,show d2 eZ _ _ _=aa (.str (tw (f y))) from Hc (Gg y Nd) rfl];rfl
def yE(hG:Good bd W)(hw:Ways w)(s t:D)(c3:Option Sl):∃UN:Option Sl,CZ (el s bd (fz t) c3 (fz (.int (w:Int))) none none none none)=aa (.nx (el s bd (fz t) none none none none none none)):=by
 have hg:=hG.brd;have r5:=hG.r5;have w5:=hG.w5;have hs:bd.length*W<64:=Z_ (Xm r5 w5) (by decide);obtain⟨L,hL,eL⟩:=o_ hg.wd hw;obtain⟨f,hf,ef⟩:=uw hg hs hw;have iz:=za (bd:=bd) (W:=W) (w:=w);have Gg:∀x,On bd.length W x->f x<64:=λx hx=>by
  obtain⟨P,h1,_⟩:=hf x hx;have:=(Vt.mp h1).1;omega
 obtain⟨S,e1,e2,e3⟩:=x_ hg.r8 hg.w8 hs (l:=(ak bd.length W).map L) λx hx=>by
  obtain⟨y,hy,rfl⟩:=Vp.mp hx;have hy:=aE.mp hy;exact(hL y hy).on hw hy
 have eS:=Br hw hL e2 e3;subst eS;refine⟨none,?_⟩;have et:aG [.int 1,brd bd, .int (w:Int)]=aa (.str (cw ((Vw bd.length).map λr=>fL W f r++("\n":Str)))):=F0.trans (by rw[lX hG Gg ef];rfl);refine(aU (ρ':=el s bd (fz t) none (fz (.int (w:Int))) (fz (jv (ak bd.length W) λx=>cD (L x))) (fz (cL (bx bd W w (ak bd.length W)))) (fz (.str (("":Str)++cw ((Vw bd.length).map λr=>fL W f r++("\n":Str))))) none) ?_).trans rfl;refine aq (ρ':=el s bd (fz t) c3 (fz (.int (w:Int))) (fz (jv (ak bd.length W) λx=>cD (L x))) none none none) ((aS ((az (ds:=[brd bd, .int (w:Int)]) rfl rfl).trans eL)).trans rfl) ?_;refine aq (ρ':=el s bd (fz t) c3 (fz (.int (w:Int))) (fz (jv (ak bd.length W) λx=>cD (L x))) (fz (cL (bx bd W w (ak bd.length W)))) none none) ((aS (d:=cL (bx bd W w (ak bd.length W))) ?_).trans rfl) ?_
 ·have cm:ba 0 (cg (ay 1 bw (aC (dV 1) aN))) bu (d2 dz (dV 6) (dV 0)) (el s bd (fz t) c3 (fz (.int (w:Int))) (fz (jv (ak bd.length W) λx=>cD (L x))) none none none)=aa (cL ((ak bd.length W).map L)):=by
   rw[show cL ((ak bd.length W).map L)=D.lst ((ak bd.length W).map λx=>cD (L x)) from acP D.lst (by rw[VX];rfl)];refine bB (ds:=(ak bd.length W).map cD) (BK ((az (ds:=[brd bd]) rfl rfl).trans (qM hg))) (b7 cD (λx=>cD (L x)) _ λx hx=>?_) (by rw[Vb,bg,cI];omega);rw[fw];have:d2 dz (dV 6) (dV 0) (fz (cD x)::el s bd (fz t) c3 (fz (.int (w:Int))) (fz (jv (ak bd.length W) λx=>cD (L x))) none none none)=aa (cD (L x)):=(aT (x:=jv (ak bd.length W) λx=>cD (L x)) (y:=cD x) rfl rfl).trans (o5 (f:=λx=>cD (L x)) hx);rw[this];rfl
  show (_>>=fP)=_;rw[cm,au,e1]
 refine aq (ρ':=el s bd (fz t) c3 (fz (.int (w:Int))) (fz (jv (ak bd.length W) λx=>cD (L x))) (fz (cL (bx bd W w (ak bd.length W)))) (fz (.str "")) none) rfl ?_;refine aq (ρ':=el s bd (fz t) none (fz (.int (w:Int))) (fz (jv (ak bd.length W) λx=>cD (L x))) (fz (cL (bx bd W w (ak bd.length W)))) (fz (.str (("":Str)++cw ((Vw bd.length).map λr=>fL W f r++("\n":Str))))) none) ?_ ?_
 ·show cJ (putN 3) (λρ=>(aC (dA bL (aC (dV 1) aN)) aN) ρ>>=dH) Fw (el s bd (fz t) none (fz (.int (w:Int))) (fz (jv (ak bd.length W) λx=>cD (L x))) (fz (cL (bx bd W w (ak bd.length W)))) (fz (.str "")) none)=_;refine dI (xO (n:=bd.length) (BP rfl) (by omega)) (oJ (λ(k:Nat)=>D.int (k:Int)) (λu8=>el s bd (fz t) none (fz (.int (w:Int))) (fz (jv (ak bd.length W) λx=>cD (L x))) (fz (cL (bx bd W w (ak bd.length W)))) (fz (.str u8)) none) (λr=>fL W f r++("\n":Str)) (Vw bd.length) "" (by rw[We];show 0+_<=_;omega) λr hr=>⟨?_,λu8 ha=>⟨_,rfl,Cm hG hw hL hf Gg s t (V5.mp hr) ha⟩⟩);have:=qa w5 (f:=f) (r:=r);rw[aX];show _+1<=_;omega
 refine e_ (kg ((aT ((az (ds:=[.int 1,brd bd, .int (w:Int)]) rfl rfl).trans et) (y:= .str (("":Str)++cw ((Vw bd.length).map λr=>fL W f r++("\n":Str)))) rfl).trans ?_)) rfl;rw[show ("":Str)++cw ((Vw bd.length).map λr=>fL W f r++("\n":Str))=cw ((Vw bd.length).map λr=>fL W f r++("\n":Str)) from il (by rw[cu];rfl)];exact(tZ t5 (by decide) _ _).trans (by simp)
end
def Eg(ns:List Int)(hl:ns.length<=63):jj [.scr ns]=aa (.bl true):=by
 obtain⟨bd,W,hG,eb⟩:=A_ ns hl 0 5 (by decide) (by decide);have hg:=hG.brd;have r5:=hG.r5;have w5:=hG.w5;refine bo ?_;refine aq (ρ':=el (.scr ns) bd none none none none none none none) ((aS (d:=brd bd) ((az (ds:=[.scr ns, .int 0, .int 5]) rfl rfl).trans eb)).trans rfl) ?_;refine aq (ρ':=el (.scr ns) bd (fz (.str "")) none none none none none none) rfl ?_;refine aq (ρ':=el (.scr ns) bd (fz (.str (e9 (bH bd)))) none none none none none none) ?_ ?_
 ·rw[<-BW];refine c_ (dI (ds:=bd.map D.str) rfl (oJ D.str (λu8=>el (.scr ns) bd (fz (.str u8)) none none none none none none) (λr=>r++("\n":Str)) bd "" (by show 0+_<=_;omega) λr hr=>⟨?_,λu8 ha=>⟨el (.scr ns) bd (fz (.str u8)) (fz (.str r)) none none none none none,rfl,?_⟩⟩))
  ·have:=(hg.rows r hr).len;rw[aX];show _+1<=_;omega
  ·have G2:=(hg.rows r hr).len;refine(aU (ρ':=el (.scr ns) bd (fz (.str (u8++(r++("\n":Str))))) (fz (.str r)) none none none none none) ((aS (d:= .str (u8++(r++("\n":Str)))) ?_).trans rfl)).trans rfl;rw[<-lP];exact Gr (Gr rfl rfl (by omega)) rfl (by rw[aX];show _+1<=_;omega)
 refine aq (ρ':=el (.scr ns) bd (fz (.str (e9 (bH bd)))) none none none none none none) (e_ (II (p:=false) (q:=false) (kg ((aT ((az (ds:=[.int 0,brd bd, .int 4]) rfl rfl).trans (Jw.trans (by rw[FZ hG];rfl:_=aa (.str (e9 (bH bd)))))) (y:= .str (e9 (bH bd))) rfl).trans ((tZ t5 (by decide) _ _).trans (by simp)))) (kg ((aT ((az (ds:=[.str (e9 (bH bd))]) rfl rfl).trans (zG hG)) (y:=brd bd) rfl).trans ((tZ GG (by decide) bd bd).trans (by simp))))) rfl) ?_;refine aq (ρ':=el (.scr ns) bd (fz (.str (e9 (bH bd)))) none none none none none none) ?_ ?_
 ·show noex (cJ _ _ _ (el (.scr ns) bd (fz (.str (e9 (bH bd)))) none none none none none none))=_;refine c_ (dI (ds:=[4,8].map λ(w:Nat)=>D.int (w:Int)) rfl (rN (body:=CZ) (λ(w:Nat)=>D.int (w:Int)) _ [4,8] λw hw=>?_));have hw:w=4\/w=8:=by simpa using hw
  obtain⟨_,h⟩:=yE hG hw (.scr ns) (.str (e9 (bH bd))) none;exact⟨_,rfl,h⟩
 obtain⟨v,hv,ev⟩:=fm ns hl 60 5 (by decide);obtain⟨u,hu,eu⟩:=fm ns hl 61 4 (by decide);obtain⟨b,hb⟩:∃b,(yA bd)[v]? =some b:=⟨_,Vg (show v<5 from hv)⟩
 obtain⟨o,ho⟩:∃o,B5[u]? =some o:=⟨_,Vg (show u<4 from hu)⟩
 have SW:b∈yA bd:=VY hb;have TV:o∈B5:=VY ho;have RV:∀{l:List D}{i:Nat}{d:D},l[i]? =some d->wB (.lst l) (.int (i:Int))=aa d:=λ{l i d} h=>by
  show (match L2.atI l (i:Int) with | some x=>aa x | none=>ag)=_;rw[gr h]
 refine aq (ρ':=[fz (.scr ns),fz (brd bd),fz (.str (e9 (bH bd))),none,none,none,none,none,none,fz b]) ((aS (d:=b) ((aT (x:= .lst (yA bd)) (y:= .int (v:Int)) ?_ ((az (ds:=[.scr ns, .int 60, .int 5]) rfl rfl).trans ev)).trans (RV hb))).trans rfl) ?_
 ·have e1:d2 oK (dV 1) (dA aR (aC (dC (.str "")) aN)) (el (.scr ns) bd (fz (.str (e9 (bH bd)))) none none none none none none)=aa (.tup (bd.map D.str++[.str ""])):=(aT (x:=brd bd) (y:= .tup [.str ""]) rfl rfl).trans (acI (by rw[Vb,cI];show _+1<=_;omega));exact(dP (xs:=yA bd) (bf rfl (bf rfl (bf rfl (bf e1 rfl))))).trans rfl
 refine aq (e_ (kg ((aT (x:= .lst [rb 0,rb 0]) (y:= .lst [rb 0,rb 0]) ?_ rfl).trans rfl)) rfl) ?_
 ·refine bB (xO (n:=2) (δ:=dC (.int 2)) rfl (by decide)) ?_ (show 2<=lim by decide);refine(b7 (λ(k:Nat)=>D.int (k:Int)) (λ_=>rb 0) (Vw 2) λk hk=>?_).trans rfl;rw[fw,show ay 3 aG _ _=aa (rb 0) from(az (ds:=[.int (k:Int),b, .int 5]) rfl rfl).trans (CV SW k (V5.mp hk))];rfl
 refine bj ((aT (x:=rb 1) (y:=rb 1) ((az (ds:=[.int 1,brd bd,o]) (bf rfl (bf rfl (bf ((aT (x:= .lst B5) (y:= .int (u:Int)) rfl ((az (ds:=[.scr ns, .int 61, .int 4]) rfl rfl).trans eu)).trans (RV ho)) rfl))) rfl).trans (ED hg TV)) rfl).trans rfl)
end K1
namespace K1
open PySem PySem.Spec L2 L3
open PyProof.Rows hiding St
def Nr(c0 c1 c2 c3 c4 c5 c6 c7:Addr):Nat->Addr
 |0=>c0
 |1=>c1
 |2=>c2
 |3=>c3
 |4=>c4
 |5=>c5
 |6=>c6
 |_=>c7
def DF(K:Vn)(x:Str)(s:Stmt):Prop:=∃(f:Addr) (oc:Value) (od an:Option Addr) (sl:Array (Option Value)) (kV dc pm cd ct:Value),VJ K VD x=some (some (.ref f))/\K.lookup f=some ⟨oc,od, .func (WC x x (dR s) (bc s) (ai s) .none kV dc pm an cd ct),sl⟩/\XZ K cd x=true/\WY K (.ref f)=true
def DF.mk{K:Vn}{x:Str}{s:Stmt}{f:Addr}{oc:Value}{od an:Option Addr}{sl:Array (Option Value)}{kV dc pm cd ct:Value}(a:VJ K VD x=some (some (.ref f)))(l:K.lookup f=some ⟨oc,od, .func (WC x x (dR s) (bc s) (ai s) .none kV dc pm an cd ct),sl⟩)(c:XZ K cd x=true)(k:WY K (.ref f)=true):DF K x s:=⟨f,oc,od,an,sl,kV,dc,pm,cd,ct,a,l,c,k⟩
def DF.at{K:Vn}{x:Str}{s:Stmt}{h:Heap}{mg:Str->Option Value}(X:K.In h)(G:h.Ns VD mg)(d:DF K x s):∃f,bJ K mg x s f:=by
 obtain⟨f,oc,od,an,sl,kV,dc,pm,cd,ct,a,l,c,k⟩:=d;exact⟨f,Wt X G a,_,Dz (st:=s) l c k⟩
def all_mk{P:VG}{w:World}{K:Vn}{h:Heap}{mg:Str->Option Value}{fa:Addr}(X:K.In h)(G:h.Ns VD mg)(Ta:mg "law"=some (.ref fa))
 {jZ:Addr}{zl n8:Option Addr}{zJ:Array (Option Value)}{zk o6 oB pZ jV oz:Value}
 {Cy:Tok}
 {yc:Tok}
 {qo:Tok}
 {C0 C1 C2 C3 C4 C5 C6 C7 Cp:Addr}{r0:ClassData}{r1:ClassData}
 (d_is_whole:DF K "is_whole" ke)
 (d_is_letter:DF K "is_letter" i9)
 (d_cells_of_row:DF K "cells_of_row" d7)
 (d_letter_of:DF K "letter_of" ja)
 (d_are_next:DF K "are_next" kc)
 (d_keyed:DF K "keyed" vb)
 (d_numbers_of:DF K "numbers_of" ib)
 (d_as_lines:DF K "as_lines" g8)
 (d_two_figures:DF K "two_figures" gp)
 (d_law_cell:DF K "_law_cell" kf)
 (d_law_cells:DF K "_law_cells" gb)
 (d_law_beside:DF K "_law_beside" g_)
 (d_law_refused:DF K "_law_refused" gn)
 (d_is_row:DF K "is_row" lz)
 (d_need_ways:DF K "need_ways" jb)
 (d_all_cells:DF K "all_cells" i8)
 (d_next_cells:DF K "next_cells" hZ)
 (d_law_drawn:DF K "_law_drawn" i_)
 (d_law_labels:DF K "_law_labels" fg)
 (d_is_board:DF K "is_board" fM)
 (d_like_cells:DF K "like_cells" fi)
 (d_law_board:DF K "_law_board" f_)
 (d_need_board:DF K "need_board" hJ)
 (d_steps_back:DF K "steps_back" ig)
 (d_read_board:DF K "read_board" ie)
 (d_all_patches:DF K "all_patches" gm)
 (d_board_text:DF K "board_text" g9)
 (d_numbered:DF K "numbered" h7)
 (d_numbers_text:DF K "numbers_text" d8)
 (d_law_told_v15:DF K "_law_told" fN)
 (a_law_k80:VJ K VD "law"=some (some (.ref jZ)))(l_law_k80:K.lookup jZ=some ⟨zk,zl, .func (WC "law" "law" (dR ax) (bc ax) (ai ax) .none o6 oB pZ n8 jV oz),zJ⟩)(c_law_k80:XZ K jV "law"=true)(k_law_k80:WY K (.ref jZ)=true)
 (z_len:VJ K VD "len"=some none)
 (z_isinstance:VJ K VD "isinstance"=some none)
 (z_all:VJ K VD "all"=some none)
 (z_abs:VJ K VD "abs"=some none)
 (z_max:VJ K VD "max"=some none)
 (z_min:VJ K VD "min"=some none)
 (z_range:VJ K VD "range"=some none)
 (z_str:VJ K VD "str"=some none)
 (z_int:VJ K VD "int"=some none)
 (z_bool:VJ K VD "bool"=some none)
 (z_tuple:VJ K VD "tuple"=some none)
 (z_list:VJ K VD "list"=some none)
 (z_dict:VJ K VD "dict"=some none)
 (z_set:VJ K VD "set"=some none)
 (z_sorted:VJ K VD "sorted"=some none)
 (z_enumerate:VJ K VD "enumerate"=some none)
 (z_ValueError:VJ K VD "ValueError"=some none)
 (y_LETTERS:VJ K VD "LETTERS"=some (some (.str "abcdef" Cy)))
 (y_MOST_ROWS:VJ K VD "MOST_ROWS"=some (some (.int 8 yc)))
 (y_MOST_COLUMNS:VJ K VD "MOST_COLUMNS"=some (some (.int 8 qo)))
 (e0:VJ K VD "NoBoard"=some (some (.ref C0)))
 (e1:VJ K VD "NoWays"=some (some (.ref C1)))
 (e2:VJ K VD "NoCell"=some (some (.ref C2)))
 (e3:VJ K VD "NoLetter"=some (some (.ref C3)))
 (e4:VJ K VD "NoNumber"=some (some (.ref C4)))
 (e5:VJ K VD "NoFit"=some (some (.ref C5)))
 (e6:VJ K VD "Nothing"=some (some (.ref C6)))
 (e7:VJ K VD "NoText"=some (some (.ref C7)))
 (ep:VJ K VD "PatchError"=some (some (.ref Cp)))
 (sp:PySem.W.subIn K (.ref Cp) (.type "BaseException")=some true)
 (q0:ZL K C0 [.type "ValueError", .type "Exception", .type "BaseException", .type "object"] "ValueError.__new__"=true)
 (ga0:Xu K (.ref C0) "__getattribute__"=some (some (.builtin "BaseException.__getattribute__")))(gt0:Xu K (.ref C0) "__getattr__"=some none)(ca0:Xu K (.ref C0) "__class__"=some (some (.builtin "object.__class__")))(mo0:Y3 K C0 (.type "object")=some true)(mb0:Y3 K C0 (.type "BaseException")=some true)(cl0:Y4 K C0=some r0)
 (kp0:VE K (.ref C0) (.ref Cp)=some true)(kv0:VE K (.ref C0) (.type "ValueError")=some true)(np0:((VQ C0)==(VQ Cp))=false)
 (k00:VE K (.ref C0) (.ref C0)=some true)
 (k01:VE K (.ref C0) (.ref C1)=some false)
 (k02:VE K (.ref C0) (.ref C2)=some false)
 (k03:VE K (.ref C0) (.ref C3)=some false)
 (k04:VE K (.ref C0) (.ref C4)=some false)
 (k05:VE K (.ref C0) (.ref C5)=some false)
 (k06:VE K (.ref C0) (.ref C6)=some false)
 (k07:VE K (.ref C0) (.ref C7)=some false)
 (q1:ZL K C1 [.type "ValueError", .type "Exception", .type "BaseException", .type "object"] "ValueError.__new__"=true)
 (ga1:Xu K (.ref C1) "__getattribute__"=some (some (.builtin "BaseException.__getattribute__")))(gt1:Xu K (.ref C1) "__getattr__"=some none)(ca1:Xu K (.ref C1) "__class__"=some (some (.builtin "object.__class__")))(mo1:Y3 K C1 (.type "object")=some true)(mb1:Y3 K C1 (.type "BaseException")=some true)(cl1:Y4 K C1=some r1)
 (kp1:VE K (.ref C1) (.ref Cp)=some true)(kv1:VE K (.ref C1) (.type "ValueError")=some true)(np1:((VQ C1)==(VQ Cp))=false)
 (k10:VE K (.ref C1) (.ref C0)=some false)
 (k11:VE K (.ref C1) (.ref C1)=some true)
 (k12:VE K (.ref C1) (.ref C2)=some false)
 (k13:VE K (.ref C1) (.ref C3)=some false)
 (k14:VE K (.ref C1) (.ref C4)=some false)
 (k15:VE K (.ref C1) (.ref C5)=some false)
 (k16:VE K (.ref C1) (.ref C6)=some false)
 (k17:VE K (.ref C1) (.ref C7)=some false):
 ∃(cv:Nat->Value) (fd:Xv),(∀(s:Vf) (u:Value),abF s fd ⟨[u],[]⟩ [("_law_script",u)])/\∀base:Heap,K.In base->base.Ns VD mg->FnOk P w K mg base (cQ P w cv) 9 fa fd ["_law_script"] (Gp K cv 1 jj):=by
 have ea:=Ta.symm.trans (Wt X G a_law_k80);cases ea;refine⟨λn=> .ref (cB (Nr C0 C1 C2 C3 C4 C5 C6 C7) n),WC "law" "law" (dR ax) (bc ax) (ai ax) .none o6 oB pZ n8 jV oz,λs v=> .of_eq rfl,λbase KB GB=>?_⟩;have B:Bl K mg base (λn=> .ref (cB (Nr C0 C1 C2 C3 C4 C5 C6 C7) n)) (Nr C0 C1 C2 C3 C4 C5 C6 C7) Cp:=by
  refine⟨VU X G z_len,VU X G z_isinstance,VU X G z_all,VU X G z_abs,VU X G z_max,VU X G z_min,VU X G z_range,VU X G z_str,VU X G z_int,VU X G z_bool,VU X G z_tuple,VU X G z_list,VU X G z_dict,VU X G z_set,VU X G z_sorted,VU X G z_enumerate,VU X G z_ValueError,⟨_,Wt X G y_LETTERS⟩,⟨_,Wt X G y_MOST_ROWS⟩,⟨_,Wt X G y_MOST_COLUMNS⟩,Wt X G e0,Wt X G e1,Wt X G e2,Wt X G e3,Wt X G e4,Wt X G e5,Wt X G e6,Wt X G e7,EL KB GB e0 q0,EL KB GB e1 q1,λ_=>rfl,Wt X G ep,?exm,?exs,?kit,?kitV⟩
  case exm=>
   intro n;have h:∀m,m∈[0,1]->YQ K (.ref ((Nr C0 C1 C2 C3 C4 C5 C6 C7) m)) (.ref Cp)=some true:=by
    intro m hm;simp only[Vo,Wh,or_false] at hm;rcases hm with rfl | rfl
    ·exact Du sp kp0 np0
    ·exact Du sp kp1 np1
   exact h (L8 n) (AY n)
  case exs=>
   intro C hC;simp only[vL,Nr,Vo,Wh,or_false] at hC;rcases hC with e | e<;>subst e
   ·exact⟨ga0,gt0,ca0,mo0,mb0,by rw[cl0];rfl⟩
   ·exact⟨ga1,gt1,ca1,mo1,mb1,by rw[cl1];rfl⟩
  case kit=>
   intro n m hn hm;simp only[Vo,Wh,or_false] at hn hm;rcases hn with rfl | rfl
   ·rcases hm with rfl | rfl | rfl | rfl | rfl | rfl | rfl | rfl
    ·exact k00
    ·exact k01
    ·exact k02
    ·exact k03
    ·exact k04
    ·exact k05
    ·exact k06
    ·exact k07
   ·rcases hm with rfl | rfl | rfl | rfl | rfl | rfl | rfl | rfl
    ·exact k10
    ·exact k11
    ·exact k12
    ·exact k13
    ·exact k14
    ·exact k15
    ·exact k16
    ·exact k17
  case kitV=>
   intro n hn;simp only[Vo,Wh,or_false] at hn;rcases hn with rfl | rfl
   ·exact kv0
   ·exact kv1
 have zh:=(DF.at X G d_is_whole).elim λ_ t=>xp (P:=P) (w:=w) B t;have xg:=(DF.at X G d_is_letter).elim λ_ t=>uG (P:=P) (w:=w) B t;have iR:=(DF.at X G d_cells_of_row).elim λ_ t=>nJ (P:=P) (w:=w) B t;have xi:=(DF.at X G d_letter_of).elim λ_ t=>uK (P:=P) (w:=w) B t;have zg:=(DF.at X G d_are_next).elim λ_ t=>xm (P:=P) (w:=w) B t;have Hm:=(DF.at X G d_keyed).elim λ_ t=>EF (P:=P) (w:=w) B t;have uC:=(DF.at X G d_numbers_of).elim λ_ t=>qZ (P:=P) (w:=w) B t;have pG:=(DF.at X G d_as_lines).elim λ_ t=>xn (P:=P) (w:=w) B t;have qR:=(DF.at X G d_two_figures).elim λ_ t=>pN (P:=P) (w:=w) B t;have zi:=(DF.at X G d_law_cell).elim λ_ t=>xq (P:=P) (w:=w) B t;have mP:=(DF.at X G d_law_cells).elim λ_ t=>uI (P:=P) (w:=w) B t;have uy:=(DF.at X G d_law_beside).elim λ_ t=>qU (P:=P) (w:=w) B t;have qQ:=(DF.at X G d_law_refused).elim λ_ t=>pM (P:=P) (w:=w) B t;have EB:=(DF.at X G d_is_row).elim λ_ t=>B7 (P:=P) (w:=w) B xg t;have xj:=(DF.at X G d_need_ways).elim λ_ t=>uL (P:=P) (w:=w) B zh t;have xf:=(DF.at X G d_all_cells).elim λ_ t=>uF (P:=P) (w:=w) B iR t;have uB:=(DF.at X G d_next_cells).elim λ_ t=>qY (P:=P) (w:=w) B zg t;have mQ:=(DF.at X G d_law_drawn).elim λ_ t=>uJ (P:=P) (w:=w) B zi t;have uz:=(DF.at X G d_law_labels).elim λ_ t=>qV (P:=P) (w:=w) B mP uy t;have pH:=(DF.at X G d_is_board).elim λ_ t=>xo (P:=P) (w:=w) B EB t;have uA:=(DF.at X G d_like_cells).elim λ_ t=>qW (P:=P) (w:=w) B xi uB t;have xh:=(DF.at X G d_law_board).elim λ_ t=>uH (P:=P) (w:=w) B mQ t;have kX:=(DF.at X G d_need_board).elim λ_ t=>qX (P:=P) (w:=w) B pH t;have uE:=(DF.at X G d_steps_back).elim λ_ t=>ra (P:=P) (w:=w) B uA t;have uD:=(DF.at X G d_read_board).elim λ_ t=>q_ (P:=P) (w:=w) B pH t;have qP:=(DF.at X G d_all_patches).elim λ_ t=>pL (P:=P) (w:=w) B xf uE Hm t;have ux:=(DF.at X G d_board_text).elim λ_ t=>qT (P:=P) (w:=w) B kX pG t;have zj:=(DF.at X G d_numbered).elim λ_ t=>xr (P:=P) (w:=w) B kX xj uC qP iR t;have pJ:=(DF.at X G d_numbers_text).elim λ_ t=>nL (P:=P) (w:=w) B zj pG qR t;have pI:=(DF.at X G d_law_told_v15).elim λ_ t=>nK (P:=P) (w:=w) B ux pJ qQ t;exact xl B xh uz mQ pI uD mP (Dz (st:=ax) l_law_k80 c_law_k80 k_law_k80)
end K1
open PySem PySem.W PyProof.Rows
theorem PySem.Challenge.cw_cellpatches_k80_texts_holds : PySem.Challenge.rw_cellpatches_k80_texts.Holds := by
 w_on;refine holds_law (by kernel_rfl) λUw=>?_
 refine holds_open (q:=K1.yf) (loose:=[]) (Xt:=λs=>xlAt K1.yf [] s&&recOk (RowW.records (OpenRow.toRowW _)) s) (XP:=XL K1.yf []) (Yf:=Hook.obs (kHook K1.oO K1.oM (λ_=>by kernel_rfl))) (Ya:=Hook.val (kHook K1.oO K1.oM (λ_=>by kernel_rfl))) (YP:=Hook.says (kHook K1.oO K1.oM (λ_=>by kernel_rfl))) (N:=5928) ?hl (Hook.of (kHook K1.oO K1.oM (λ_=>by kernel_rfl))) (Hook.keeps (kHook K1.oO K1.oM (λ_=>by kernel_rfl))) (λs e=>xl_of s (abX.mp e).1) XL.keeps (by rfl) (by rfl) (by rfl) (λs e=>recFacts_of (abX.mp e).2) (by rfl) (by first | assumption | decide+kernel) (by decide+kernel) ⟨rfl,rfl,rfl,rfl,rfl,by decide+kernel⟩ ?hw ?hc
 case hl=>exact K1.MS
 (case hw=>w_witness2)
 k_fill
 refine L3.Of (l:=PySem.Challenge.rw_cellpatches_k80_texts) (k:=9) (n:=63) (x:="_law_script") (g:=K1.jj) rfl (by decide) rfl ⟨rfl,by decide,by decide⟩ (λw h Y=>PySem.W.kIn_of Y) K1.Eg ?F
 case F=>
  intro w mg fa h KX G J9;refine' K1.all_mk KX G J9 ?d_is_whole ?d_is_letter ?d_cells_of_row ?d_letter_of ?d_are_next ?d_keyed ?d_numbers_of ?d_as_lines ?d_two_figures ?d_law_cell ?d_law_cells ?d_law_beside ?d_law_refused ?d_is_row ?d_need_ways ?d_all_cells ?d_next_cells ?d_law_drawn ?d_law_labels ?d_is_board ?d_like_cells ?d_law_board ?d_need_board ?d_steps_back ?d_read_board ?d_all_patches ?d_board_text ?d_numbered ?d_numbers_text ?d_law_told_v15 ?a_law_k80 ?l_law_k80 ?c_law_k80 ?k_law_k80 ?z_len ?z_isinstance ?z_all ?z_abs ?z_max ?z_min ?z_range ?z_str ?z_int ?z_bool ?z_tuple ?z_list ?z_dict ?z_set ?z_sorted ?z_enumerate ?z_ValueError ?y_LETTERS ?y_MOST_ROWS ?y_MOST_COLUMNS ?e0 ?e1 ?e2 ?e3 ?e4 ?e5 ?e6 ?e7 ?ep ?sp ?q0 ?ga0 ?gt0 ?ca0 ?mo0 ?mb0 ?cl0 ?kp0 ?kv0 ?np0 ?k00 ?k01 ?k02 ?k03 ?k04 ?k05 ?k06 ?k07 ?q1 ?ga1 ?gt1 ?ca1 ?mo1 ?mb1 ?cl1 ?kp1 ?kv1 ?np1 ?k10 ?k11 ?k12 ?k13 ?k14 ?k15 ?k16 ?k17
  any_goals (refine' K1.DF.mk ?a ?l ?c ?k;(case a=>k_is);(case l=>k_is);(case c=>k_is);(case k=>k_is))
  any_goals first | k_is | kit_is | k_exc | rfl
